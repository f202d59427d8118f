import PyProof.Rows.All
import Wide.All
import OpenK.AllK
import Wide.FinOn
import Lean
import PyProof.EqAt
import PyProof.EqKinds
import PyProof.TupleCall
import KE.KIntText
import KE.KDictList
import KE.KDictSum
import PyProof.Rows.Range3
import PyProof.DictWalks
import KE.KMinKey
import KE.KSortTup
import PyProof.EnumStmt
import PyProof.EnumMake
import PyProof.EnumFor
import PyProof.Draws
import PyProof.Rows.TupDisplay
import PyProof.Rows.SumAny
import KE.LcSums
import PyProof.FString5
import PyProof.WalkInts
import KE.KDictLaws
import PySem.Challenge.RW_slitview_k31_whole_needed
noncomputable section
set_option compiler.extract_closed false
local macro_rules | `(tactic| eq_refl) => `(tactic| first | exact Or.inl rfl | exact Or.inr (Or.inl rfl) | exact Or.inr (Or.inr rfl))
local macro_rules | `(∅) => `(by first | lia | omega)
set_option Elab.async false
set_option bootstrap.genMatcherCode false
set_option genSizeOf false
set_option linter.all false
set_option maxRecDepth 100000
local macro_rules | `(tactic| ac_nf) => `(tactic| exact ⟨rfl,rfl,rfl,by decide +kernel,rfl,by decide +kernel,by decide +kernel⟩)
open Option renaming some->aa,none->ae,bind_some->gu,map_some->oy,map_eq_some_iff->sT,bind_eq_some_iff->Ar,map_eq_none_iff->Az,getD_none->EM,getD_some->Fh
open PySem renaming Addr->ac,Value->ai,Shared->am,wpAny_bind->au,wpAny->aw,Expr->ay,model->aA,Heap->aF,eval->aL,starEach->aP,wpAny_pure->aQ,World->aT,Stmt->aV,Around->aX,Program->a4,sizeLine->a6,mainGlobals->b_,backTo->cm,Scope->c8,bootBuiltins->dQ,rawInt->dR,bindArgs->dU,compareOp->eh,wpAny_mono->eW,cellsFrom->fz,NameKind->ga,FuncData->gJ,swapsWith->g_,attributeBase->hV,binaryOp->i_,mem_of_lookup->jd,Keyword->je,SetTable->jg,strKind->jh,Paired->jV,sysModules->jW,argBest->j4,codeAny->kG,isTrue->lP,wpAny_truthy_bool->lQ,IsPart->lU,wpAny_holding->lV,wpAny_newObj_type->lW,setNext->lZ,setField->l5,builtinsNs->mV,pyIter->mW,foldedSetIterable->mX,backToKw->mZ,keywordEach->m8,codeAny_builtin->ng,behindInMarks->oh,sizeLine_eq->oi,getItem->ol,plainId_quiet->ox,wpAny_passesOwn->p0,wpAny_field->p6,sliceBounds->p7,valueAt->p_,callerA->qa,wpAny_pyIter_list->qb,relayAll->qe,wpAny_setState_of->qg,wpAny_askSetting->qi,tupleKind->sJ,codeAmong->sK,assignEach->sM,codeAny_mono->sP,Arguments->sR,pickOrder->sX,wpAny_setField->sY,wpAny_tryCatch->tj,PassesOwn->ww,wpAny_Call_Name_kw->wy,wpAny_call_entry->wz,setsByText->wM,wpAny_ite_split->wN,wpAny_execs_nil->zW,letOwnedTupleGo->zX,recursionLimit->z0,subscripted->z9,tupleKind_room_in1->Aa,call_meetsIn->Ab,wpAny_seqItems->Aj,wpAny_letGo->At,Within->EE
open Bool renaming true->ah,false->aj,and_eq_true->dW,false_ne_true->fu,eq_iff_iff->lR,or_eq_true->oq,false_xor->tm,false_eq_true->wL,true_and->Af
open PySem.W renaming Frag->ar,nsIn->dm,fnOf->fP,findIn->g9,kitOne->iO,mg_of->ji,mg_none_of->jk,keepIn->kH,kia_one->kI,emptyDict->mY,instObj->og,codeIn->p5,excIn->qo,isFn->wx,codeHdIn->wE,lookIn->zY,plainGet->zZ,OpenLaw->Ac,kla_obj->As,methodObj->EF,hasDictIn->EJ,plainGet_of->EK
open Nat renaming le_refl->ba,ne_of_lt->cT,le_trans->c4,lt_irrefl->d9,lt_of_lt_of_le->eV,ne_of_gt->iL,zero_le->iN,lt_succ_self->ja,lt_succ_of_lt->jD,le_of_lt->kF,le_of_eq->lS,le_succ->sQ,add_right_comm->sZ,add_assoc->s_,zero_add->tf,lt_of_le_of_lt->wF,not_lt->wG,lt_or_ge->wS,lt_trans->z_,sub_self->Ap,min_eq_left->Ax,min_eq_right->Fe,pow_le_pow_right->Fj
open PySem.Heap renaming get?_push_of_some->bf,lt_size->br,get?_push_size->cj,SameBut->jX,get?_update_other->p9,get?_update_self->qf,size_push->sN,get?_none_of_le->EG
open List renaming range->bG,mem_map->bJ,length_map->bO,mem_cons->bW,getElem?_set_ne->cA,size_toArray->cD,getElem?_eq_some_iff->cI,replicate->cM,getElem?_set_self->cU,map_cons->dD,map_map->dX,length_append->eN,getElem?_eq_getElem->eO,length_cons->eX,mem_filter->fN,find?_cons->fQ,nil_append->fS,mem_singleton->gs,all_eq_true->gK,length_set->hZ,getElem?_append_left->iw,mem_cons_of_mem->iK,lookup->iM,getElem?_map->iP,lookup_cons->iQ,not_mem_nil->iR,nodup_cons->jc,append_nil->jC,mem_append_right->jY,map_congr_left->j0,any_eq_true->j6,mem_range->kE,any_cons->kJ,filter_map->kL,mem_cons_self->lN,mem_append->lO,length->lT,length_nil->lX,foldl_cons->lY,length_pos_iff->l6,exists_cons_of_ne_nil->l7,length_drop->m_,getElem?_append_right->oj,take_of_length_le->om,dropLast->oB,length_take->p4,all_cons->p8,map_append->qd,append_assoc->qj,getElem?_eq_none->qm,flatMap_cons->qr,filter_eq_self->qt,map_id'->qw,filterMap_cons->sL,length_singleton->sS,lookup_append->sU,range_succ->sV,eq_nil_of_length_eq_zero->sW,getD_eq_getElem?_getD->ti,all_map->wH,getD->wJ,getElem_mem->wK,ext_getElem?->wO,nodup_append->wP,mem_of_mem_take->wR,mem_of_getElem?->z6,range_succ_eq_map->Ae,drop_zero->Ag,drop_eq_getElem_cons->Am,drop_length->An,length_dropLast->Aq,filter_append->Au,filter_eq_nil_iff->Av,length_filter_le->Aw,drop_of_length_le->Ay,any_eq_false->EI,replicate_succ->EO,drop_append_of_le_length->ES,length_range->ET,pairwise_map->EU,foldl_append->EV,cons_append->E1,length_eq_zero_iff->E4,flatMap_nil->E5,mem_of_mem_drop->E6,filter_flatMap->E7,filter_cons->E8,count_eq_zero_of_not_mem->E9,count_append->E_,filter_congr->Fa,isEmpty_nil->Fb,find?_eq_none->Ff,mem_of_find?_eq_some->Fg,flatMap_append->Fi,filter_sublist->Fk,take_succ_eq_append_getElem->OU
open PySem.Str renaming ofString->cn,empty->jZ
open Ne renaming symm->d_
open Option.some renaming inj->eD
open PyProof.Rows renaming envOfC->fO,StrsAre->fR,size_push'->jf,seqObj->j3,AllBare->lM,get?_update_seq->Ak,slot_tuple_getitem->OR
open False renaming elim->jb
open PySem.PassesOwn renaming never->j5
open PySem.Obj renaming mapSeq->kK,mapFields->oA,data_mapFields->Ao,isFreed_of_fields->EZ
open Int renaming toNat_natCast->m9,emod_lt_of_pos->Fc
open Function renaming comp->nh
open PySem.Heap.SameBut renaming update->ot
open PySem.Around renaming under_plainId->ou
open Iff renaming rfl->oz
open PySem.Walks renaming list->qc
open PySem.SetTable renaming grown->qh,below->OT
open PySem.F renaming plain_min_loop->qp,slot_dict_get->EQ,plainAttrs_dict->ER,plainAttrs_list->EY,entry_min_loop->E2,excBase_ValueError->E3
open List.cons renaming injEq->qu
open PySem.Value renaming isStrOf->sI
open PySem.Calls renaming spliced_cons->sO,callWith_builtin->wB,evalArgs_plain->wC,spliced_nil->z5
open Array renaming length_toList->wu,getElem?_eq_some_iff->wI,getElem?_eq_getElem->Ai
open PySem.SeqAt renaming EqAt->wA
open PySem.Paired renaming snoc->wD
open Nat.succ renaming inj->wQ
open PySem.Builtin.Slice renaming slicePlaces->z7,sliceAdjust->EL
open PySem.Builtin.Tuple renaming tupleExact->z8
open List.Perm renaming refl->Ah
open PySem.Builtin.Str renaming occurrences->EH
open PySem.Builtin.List renaming listTooLong->EN
open PyProof.Rows.F renaming plain_set_update_loop->EW,entry_set_update_loop->OS
open PySem.SetTable.below renaming go->EX
open PySem PySem.Spec PyProof.Rows
namespace L2
abbrev aD:=Sum Int Str
def pt:aD->ai->Bool
 |.inl k,v=>Value.isInt k v
 |.inr x,v=>sI x v
def Oz(w:aT):aD->Int
 |.inl k=>hashInt k
 |.inr x=>hashStr w x
theorem lI:∀{k:aD}{v:ai},pt k v=ah->(∃i t,k=Sum.inl i/\v=Value.int i t)\/(∃x t,k=Sum.inr x/\v=Value.str x t)
 |.inl i,v,h=>by obtain⟨t,e⟩:=Value.isInt_shape (k:=i) (v:=v) h;exact .inl ⟨i,t,rfl,e⟩
 |.inr x,v,h=>by obtain⟨t,e⟩:=Value.isStrOf_shape (x:=x) (v:=v) h;exact .inr ⟨x,t,rfl,e⟩
theorem GI(i:Int)(t:Tok):pt (.inl i) (.int i t)=ah:=by simp[pt,Value.isInt]
theorem Ma(x:Str)(t:Tok):pt (.inr x) (.str x t)=ah:=by simp[pt,sI]
theorem NT(a b:Int):decide ((Sum.inl a:aD)=Sum.inl b)=(a == b):=by
 by_cases e:a=b
 .subst e;simp
 .have h:¬(Sum.inl a:aD)=Sum.inl b:=λq=>e (Sum.inl.inj q);rw[decide_eq_false h];exact(beq_eq_false_iff_ne.mpr e).symm
theorem N9(a b:Str):decide ((Sum.inr a:aD)=Sum.inr b)=decide (a=b):=by
 by_cases e:a=b
 .subst e;simp
 .have h:¬(Sum.inr a:aD)=Sum.inr b:=λq=>e (Sum.inr.inj q);rw[decide_eq_false h,decide_eq_false e]
theorem HQ(a:Int)(b:Str):decide ((Sum.inl a:aD)=Sum.inr b)=aj:=decide_eq_false (λq=>nomatch q)
theorem Iu(a:Str)(b:Int):decide ((Sum.inr a:aD)=Sum.inl b)=aj:=decide_eq_false (λq=>nomatch q)
def gf(c:a4)(w:aT):PySem.KeyKind c w aD where
 is:=pt
 hash:=Oz w
 inj:=λv a b l f=>by
  rcases lI l with⟨i,t,rfl,rfl⟩|⟨x,t,rfl,rfl⟩
  .rcases lI f with⟨j,u,rfl,e⟩|⟨y,u,rfl,e⟩
   .injection e with e1 _;rw[e1]
   .exact nomatch e
  .rcases lI f with⟨j,u,rfl,e⟩|⟨y,u,rfl,e⟩
   .exact nomatch e
   .injection e with e1 _;rw[e1]
 byValue:=λk v h=>by rcases lI h with⟨i,t,rfl,rfl⟩|⟨x,t,rfl,rfl⟩ <;> rfl
 pyHash:=λd h=>by
  rcases lI d with⟨i,t,rfl,rfl⟩|⟨x,t,rfl,rfl⟩
  .exact wpAny_pyHash_int h
  .exact wpAny_pyHash_str h
 eqBool:=λg d h=>by
  rcases lI g with⟨i,t,rfl,rfl⟩|⟨x,t,rfl,rfl⟩
  .rcases lI d with⟨j,u,rfl,rfl⟩|⟨y,u,rfl,rfl⟩
   .rw[NT]at h;exact wpAny_eqBool_int h
   .rw[HQ]at h;exact SeqAt.EqAt.int_str i t y u _ _ _ _ h
  .rcases lI d with⟨j,u,rfl,rfl⟩|⟨y,u,rfl,rfl⟩
   .rw[Iu]at h;exact SeqAt.EqAt.str_int x t j u _ _ _ _ h
   .rw[N9]at h;exact wpAny_eqBool_str h
 «strs»:=λk x t v h=>by
  rcases lI h with⟨i,u,rfl,e⟩|⟨y,u,rfl,e⟩
  .exact nomatch e
  .injection e with e1 _;subst e1;cases v <;> rfl
theorem FZ(a:a4)(w:aT)(i:Int)(t:Tok):(gf a w).is (.inl i) (.int i t)=ah:=GI i t
theorem Iv(a:a4)(w:aT)(x:Str)(t:Tok):(gf a w).is (.inr x) (.str x t)=ah:=Ma x t
inductive V where
 |non|bl (b:Bool)|int (i:Int)|str (x:Str)|byt (b:Array UInt8)|flt (b:UInt64)|ref (a:ac)|ty (n:String)
 deriving DecidableEq
def RelV:V->ai->Prop
 |.non,u=>u=Value.none
 |.bl b,u=>u=Value.bool b
 |.int i,u=>∃t,u=Value.int i t
 |.str x,u=>∃t,u=Value.str x t
 |.byt b,u=>∃t,u=Value.bytes b t
 |.flt b,u=>∃t,u=Value.float b t
 |.ref a,u=>u=Value.ref a
 |.ty n,u=>u=Value.type n
abbrev bx:List V->List ai->Prop:=jV RelV
theorem bx.length{xs:List V}{a:List ai}(r:bx xs a):xs.length=a.length:=Paired.length r
theorem bx.get:∀{xs:List V}{a:List ai}{i:Nat}{x:V},bx xs a->xs[i]?=aa x->∃u,a[i]?=aa u/\RelV x u
 |_,_,_,_,.nil,e=>by simp at e
 |_,_,0,_,.cons r _,e=>by simp at e;subst e;exact⟨_,rfl,r⟩
 |_,_,i+1,x,.cons _ t,e=>by obtain⟨u,c,b⟩:=bx.get (i:=i) (x:=x) t (by simpa using e);exact⟨u,by simpa using c,b⟩
theorem bx.append:∀{xs a:List V}{c b:List ai},bx xs c->bx a b->bx (xs++a) (c++b)
 |_,_,_,_,.nil,s=>s
 |_,_,_,_,.cons r t,s=>.cons r (bx.append t s)
theorem bx.take:∀{a:List V}{b:List ai} (n:Nat),bx a b->bx (a.take n) (b.take n)
 |_,_,0,_=>.nil
 |_,_,_+1,.nil=>.nil
 |_,_,n+1,.cons r t=>.cons r (bx.take n t)
theorem bx.drop:∀{xs:List V}{a:List ai} (n:Nat),bx xs a->bx (xs.drop n) (a.drop n)
 |_,_,0,r=>r
 |_,_,_+1,.nil=>.nil
 |_,_,n+1,.cons _ t=>bx.drop n t
def kD:Option V->Option ai->Prop
 |some v,aa u=>RelV v u
 |none,ae=>True
 |_,_=>False
def KV{a:Type}:List (a×V)->List (a×ai)->Prop:=jV λ(p:a×V) (q:a×ai)=>p.1=q.1/\RelV p.2 q.2
def kV:aD->V
 |.inl i=>.int i
 |.inr x=>.str x
inductive HO where
 |lst (xs:List V)
 |tup (xs:List V)
 |dK (kvs:List (aD×V))|dT (kvs:List (List aD×V))|dN (kvs:List ((Str×List Str)×V))
 |set (S:Int->Bool) (n:Nat)
 |ins (C dx:ac) (fs:List (Str×V))
 |own (x:ac)
 |xd (fs:List (Str×V))
 |met (f x:ac)
 |rng (lo hi:Int)
 |frz (o:Obj) (u:HO)
 |tbl (q:Str)
 |ext (φ:aF->Prop)
abbrev Hp:=ac->Option HO
def upd(H:Hp)(a:ac)(o:HO):Hp:=λb=>if b=a then aa o else H b
theorem bT{H:Hp}{a:ac}{o:HO}:upd H a o a=aa o:=by unfold upd;rw[if_pos rfl]
theorem bj{H:Hp}{a b:ac}{o:HO}(h:b≠a):upd H a o b=H b:=by unfold upd;rw[if_neg h]
theorem Gm{H:Hp}{a b:ac}{o u:HO}(h:H a=aa o)(c:H b=aa u)(d:o≠u):a≠b:=by intro e;subst e;rw[h]at c;exact d (eD c)
theorem mr{H:Hp}{a b:ac}{o:HO}(h:H a=aa o)(c:H b=ae):a≠b:=by
 intro e;subst e;rw[h]at c;cases c
def EB(h:aF)(a:ac)(b:Array ai):Prop:=IsTup h a b/\∃o,h.get? a=aa o/\o.dict=ae
theorem EB.new(h:aF)(its:Array ai):EB (h.push {cls:=.type "tuple",data:=.seq its}) h.objs.size its:=⟨IsTup.new _ _,_,cj _ rfl,rfl⟩
section
variable(P:a4)(w:aT)
def Hg(k:Str×List Str):Int:=reduceHash (Builtin.Tuple.tupleHashOf [hashStr w k.1,reduceHash (Builtin.Tuple.tupleHashOf (k.2.map (hashStr w)))])
def HU(H:Hp)(k:Str×List Str)(a:ac):Prop:=∃b,H a=aa (.tup [.str k.1,.ref b])/\H b=aa (.tup (k.2.map .str))
def cV(H:Hp)(h:aF)(a:ac):HO->Prop
 |.lst b=>b.length<=a6/\∃(d:List ai) (n:Nat),bx b d/\h.get? a=aa {cls:=.type "list",data:=.seq d.toArray n}
 |.tup b=>b.length<=a6/\∃d:List ai,bx b d/\EB h a d.toArray
 |.dK kvs=>kvs.length<=a6/\(a == jW)=aj/\∃y,KV kvs y/\h.DictOf (gf P w) a y
 |.dT kvs=>kvs.length<=a6/\(a == jW)=aj/\∃b:List (List aD×ac×ai),
   jV (λ(p:List aD×V) (q:List aD×ac×ai)=>p.1=q.1/\H q.2.1=aa (.tup (p.1.map kV))/\RelV p.2 q.2.2) kvs b /\
   ∃o i ep,h.get? a=aa o/\o.ExactDict/\o.data=.dict i ep/\i.toList=b.map (entryOfKey (sJ (gf P w)))/\(b.map (·.1)).Nodup
 |.dN kvs=>kvs.length<=a6/\(a == jW)=aj/\∃b:List ((Str×List Str)×ac×ai),
   jV (λ(p:(Str×List Str)×V) (q:(Str×List Str)×ac×ai)=>p.1=q.1/\HU H p.1 q.2.1/\RelV p.2 q.2.2) kvs b /\
   ∃o i ep,h.get? a=aa o/\o.ExactDict/\o.data=.dict i ep/\i.toList=b.map (λx=>⟨Hg w x.1,.ref x.2.1,x.2.2⟩)/\(b.map (·.1)).Nodup
 |.set S n=>h.SetOf (intKind P w) a S n
 |.ins C j fs=>H j=aa (.own a)/\fs.length<=1000/\j≠a/\h.get? a=aa (og C j) /\
   ∃g,h.Ns1 j g/\(∀f,kD (fs.lookup f) (g f))/\EE g (fs.map (·.1))
 |.own _=>∃o,h.get? a=aa o
 |.xd fs=>∃g,h.Ns1 a g/\∀f,kD (fs.lookup f) (g f)
 |.rng B D=>∃t u v,h.get? a=aa {cls:=.type "range",data:=.fields #[.int B t,.int D u,.int 1 v]}
 |.frz o u=>h.get? a=aa o/\cV H h a u
 |.tbl q=>∃m:Array ai,h.get? a=aa {cls:=.none,data:=.fields m}/\TriplesOk m.toList/\∀r s,sK r m.toList=aa s->∃c,s=.ref c/\H c=aa (.own a)/\h.CodeRec s q
 |.met f x=>h.get? a=aa (EF (.ref f) (.ref x))
 |.ext l=>l h/\(∃o,h.get? a=aa o)/\∀A z:aF,l A->(∀o,A.get? a=aa o->z.get? a=aa o)->l z
def df(H:Hp)(h:aF):Prop:=∀a o,H a=aa o->cV P w H h a o
end
section
variable{P:a4}{w:aT}{H i:Hp}{h h':aF}{a:ac}{o:HO}
theorem cV.lt(x:cV P w H h a o):a<h.objs.size:=by
 cases o with
 |lst c=>obtain⟨_,_,_,_,e⟩:=x;exact br e
 |tup c=>obtain⟨_,_,_,p,_⟩:=x;exact p.lt
 |dK b=>obtain⟨_,_,_,_,o,_,_,e,_⟩:=x;exact br e
 |dT b=>obtain⟨_,_,_,_,o,_,_,e,_⟩:=x;exact br e
 |dN b=>obtain⟨_,_,_,_,o,_,_,e,_⟩:=x;exact br e
 |set S n=>obtain⟨o,_,_,_,e,_⟩:=x;exact br e
 |ins C m fs=>obtain⟨_,_,_,e,_⟩:=x;exact br e
 |own y=>obtain⟨_,e⟩:=x;exact br e
 |xd fs=>obtain⟨_,⟨_,_,_,e,_⟩,_⟩:=x;exact br e
 |rng j l=>obtain⟨_,_,_,e⟩:=x;exact br e
 |frz g u=>obtain⟨e,_⟩:=x;exact br e
 |tbl q=>obtain⟨_,e,_⟩:=x;exact br e
 |met f y=>exact br (show h.get? a=aa _ from x)
 |ext d=>obtain⟨_,⟨_,e⟩,_⟩:=x;exact br e
theorem Paired.mapP{j g:Type}{F G:j->g->Prop}:∀{d:List j}{c:List g},jV F d c->(∀a b,F a b->G a b)->jV G d c
 |_,_,.nil,_=>.nil
 |_,_,.cons r t,f=>.cons (f _ _ r) (Paired.mapP t f)
theorem cV.stay(x:cV P w H h a o)(k:∀b u,(b=a\/H b=aa (.own a))->h.get? b=aa u->h'.get? b=aa u)(K:∀b,H b=aa (.own a)->i b=aa (.own a)) (I:∀b xs,H b=aa (.tup xs)->i b=aa (.tup xs)):cV P w i h' a o:=by
 induction o with
 |lst xs=>obtain⟨z,s,n,r,e⟩:=x;exact⟨z,s,n,r,k _ _ (.inl rfl) e⟩
 |tup xs=>obtain⟨z,s,r,⟨j,e,c⟩,N,B,c2⟩:=x;exact⟨z,s,r,⟨j,k _ _ (.inl rfl) e,c⟩,N,k _ _ (.inl rfl) B,c2⟩
 |dK A=>obtain⟨z,y,E,r,j,l,m,e,c⟩:=x;exact⟨z,y,E,r,j,l,m,k _ _ (.inl rfl) e,c⟩
 |dT A=>obtain⟨z,y,xs,r,j,l,m,e,c⟩:=x;exact⟨z,y,xs,Paired.mapP r λp q z=>⟨z.1,I _ _ z.2.1,z.2.2⟩,j,l,m,k _ _ (.inl rfl) e,c⟩
 |dN A=>obtain⟨z,y,xs,r,j,l,m,e,c⟩:=x;exact⟨z,y,xs,Paired.mapP r λp q z=>⟨z.1,(let ⟨b,D,h2⟩:=z.2.1;⟨b,I _ _ D,I _ _ h2⟩),z.2.2⟩,j,l,m,k _ _ (.inl rfl) e,c⟩
 |set S n=>obtain⟨j,l,m,t,e,c⟩:=x;exact⟨j,l,m,t,k _ _ (.inl rfl) e,c⟩
 |ins C dx fs=>obtain⟨d,z,O,e,G,⟨F,l,m,B,c⟩,r⟩:=x;exact⟨K _ d,z,O,k _ _ (.inl rfl) e,G,⟨F,l,m,k _ _ (.inr d) B,c⟩,r⟩
 |own y=>obtain⟨j,e⟩:=x;exact⟨j,k _ _ (.inl rfl) e⟩
 |xd fs=>obtain⟨G,⟨F,l,m,e,c⟩,r⟩:=x;exact⟨G,⟨F,l,m,k _ _ (.inl rfl) e,c⟩,r⟩
 |rng Z hi=>obtain⟨t,u,v,e⟩:=x;exact⟨t,u,v,k _ _ (.inl rfl) e⟩
 |frz j u Q=>obtain⟨e,q⟩:=x;exact⟨k _ _ (.inl rfl) e,Q q⟩
 |tbl q=>
  obtain⟨M,e,t,g⟩:=x;refine⟨M,k a _ (.inl rfl) e,t,λpos X T=>?_⟩;obtain⟨c,rfl,D,c2,o,E,L,B,W,r⟩:=g pos X T;cases B;exact⟨c,rfl,K c D,c,o,E,L,rfl,k c _ (.inr D) W,r⟩
 |met f y=>have e:h.get? a=aa (EF (.ref f) (.ref y)):=x;show h'.get? a=aa (EF (.ref f) (.ref y));exact k a _ (.inl rfl) e
 |ext Y=>obtain⟨p,⟨o,e⟩,J⟩:=x;exact⟨J _ _ p λo q=>k _ _ (.inl rfl) q,⟨o,k _ _ (.inl rfl) e⟩,J⟩
theorem df.lt(x:df P w H h)(e:H a=aa o):a<h.objs.size:=(x a o e).lt
theorem df.fresh(x:df P w H h)(e:h.objs.size<=a):H a=ae:=by
 cases q:H a with
 |none=>rfl
 |some u=>exact absurd (eV (x.lt q) e) (d9 _)
theorem df.kept(x:df P w H h)(k:∀b u,h.get? b=aa u->h'.get? b=aa u):df P w H h':=λa o e=>(x a o e).stay (λb u _ q=>k b u q) (λ_ q=>q) λ_ _ q=>q
theorem df.laid(x:df P w H h)(k:∀b u,h.get? b=aa u->h'.get? b=aa u)(g:h.objs.size<=a)(new:cV P w (upd H a o) h' a o):df P w (upd H a o) h':=λb u e=>by
 have d:=x.fresh g;by_cases f:b=a
 .subst f;rw[bT]at e;cases e;exact new
 .rw[bj f]at e;exact(x b u e).stay (λc v _ q=>k c v q) (λc q=>by rw[bj (mr q d)];exact q) λc j q=>by rw[bj (mr q d)];exact q
end
def Rd(H:Hp)(a:ac)(u:HO):Prop:=H a=aa u\/∃o,H a=aa (.frz o u)
theorem Rd.ok{P:a4}{w:aT}{H:Hp}{h:aF}{a:ac}{u:HO}(r:Rd H a u)(x:df P w H h):cV P w H h a u:=by
 rcases r with r|⟨o,r⟩
 .exact x a u r
 .obtain⟨_,q⟩:=x a _ r;exact q
def rF:Option HO->Prop
 |some (.lst _)=>True
 |some (.dK _)=>True
 |some (.dT _)=>True
 |some (.dN _)=>True
 |some (.set _ _)=>True
 |some (.ins _ _ _)=>True
 |some (.ext _)=>True
 |_=>False
section
variable{P:a4}{w:aT}{H:Hp}{h a:aF}{x e:ac}{d:HO}
theorem df.write(ok:df P w H h)(j:rF (H x))(p:e=x\/H e=aa (.own x))(k:∀b u,b≠e->h.get? b=aa u->a.get? b=aa u)(s:∃u,a.get? e=aa u)(new:cV P w (upd H x d) a x d):df P w (upd H x d) a:=λb u q=>by
 have f:∀c y,H c=aa (.own y)->c≠x:=λc y r z=>by subst z;rw[r]at j;exact j
 have g:∀c i,H c=aa (.tup i)->c≠x:=λc i r z=>by subst z;rw[r]at j;exact j
 by_cases n:b=x
 .subst n;rw[bT]at q;cases q;exact new
 .rw[bj n]at q;by_cases l:b=e
  .have o:H b=aa (.own x):=by
    rcases p with z|z
    .exact absurd (l.trans z) n
    .rw[l];exact z
   rw[q]at o;cases o;obtain⟨v,A⟩:=s;exact⟨v,by rw[l];exact A⟩
  .refine(ok b u q).stay (λc v m r=>k c v ?_ r) (λc r=>by rw[bj (f c b r)];exact r) λc i r=>by rw[bj (g c i r)];exact r
   rcases m with rfl|m
   .exact l
   .rintro rfl;rcases p with z|z
    .exact f c b m z
    .rw[m]at z;cases z;exact n rfl
end
structure Un(fs ex:List ac)(H H':Hp)(h h':aF):Prop where
 keep:∀b o,h.get? b=aa o->H b=ae->b∉fs->b∉ex->h'.get? b=aa o
 slot:∀b o,h.get? b=aa o->H b=ae->b∈fs->b∉ex->∃sl,h'.get? b=aa {o with slots:=sl}
 free:∀b o,h.get? b=aa o->H b=ae->b∉ex->H' b=ae
 there:∀b o,h.get? b=aa o->b∉ex->∃o',h'.get? b=aa o'
 tups:∀b xs,H b=aa (.tup xs)->H' b=aa (.tup xs)
 frzs:∀b o u,H b=aa (.frz o u)->H' b=aa (.frz o u)
 tbls:∀b q,H b=aa (.tbl q)->H' b=aa (.tbl q)/\∀c o,H c=aa (.own b)->h.get? c=aa o->h'.get? c=aa o/\H' c=aa (.own b)
section
variable{fs f ex i:List ac}{H j m:Hp}{h d l h':aF}{a x e:ac}{o:HO}
theorem Un.any(u:Un fs ex H j h d){b:ac}{c:Obj}(q:h.get? b=aa c)(n:H b=ae)(g:b∉ex):∃r,d.get? b=aa {c with slots:=r}:=by
 by_cases p:b∈fs
 .exact u.slot b c q n p g
 .exact⟨c.slots,u.keep b c q n p g⟩
theorem Un.kept(k:∀b u,h.get? b=aa u->h'.get? b=aa u):Un fs ex H H h h' :=⟨λb p q _ _ _=>k b p q,λb p q _ _ _=>⟨p.slots,k b p q⟩,λ_ _ _ n _=>n,λb p q _=>⟨p,k b p q⟩,λ_ _ q=>q,λ_ _ _ q=>q,λ_ _ q=>⟨q,λc o e g=>⟨k c o g,e⟩⟩⟩
theorem Un.refl:Un fs ex H H h h:=Un.kept λ_ _ q=>q
theorem Un.laid(k:∀b u,h.get? b=aa u->h'.get? b=aa u)(w:h.objs.size<=a)(p:H a=ae):Un fs ex H (upd H a o) h h' where
 keep:=λb u q _ _ _=>k b u q
 slot:=λb u q _ _ _=>⟨u.slots,k b u q⟩
 free:=λb u q n _=>by rw[bj (cT (eV (br q) w))];exact n
 there:=λb u q _=>⟨u,k b u q⟩
 tups:=λb s q=>by rw[bj (mr q p)];exact q
 frzs:=λb u s q=>by rw[bj (mr q p)];exact q
 tbls:=λb y q=>⟨by rw[bj (mr q p)];exact q,λc v r g=>⟨k c v g,by rw[bj (mr r p)];exact r⟩⟩
theorem Un.write(p:rF (H x))(A:e=x\/H e=aa (.own x))(k:∀b u,b≠e->h.get? b=aa u->h'.get? b=aa u)(D:∃u,h'.get? e=aa u):Un fs ex H (upd H x o) h h':=by
 have y:∀b,H b=ae->b≠x:=λb n z=>by subst z;rw[n]at p;exact p
 have B:∀b,H b=ae->b≠e:=λb n z=>by
  subst z;rcases A with r|r
  .exact y b n r
  .rw[n]at r;cases r
 have s:∀b u,H b=aa u->¬rF (aa u)->b≠x:=λb u q F z=>by subst z;rw[q]at p;exact F p
 refine⟨λb u q n _ _=>k b u (B b n) q,λb u q n _ _=>⟨u.slots,k b u (B b n) q⟩,λb u q n _=>by rw[bj (y b n)];exact n,λb u q _=>?_,
  λb C q=>by rw[bj (s b _ q λz=>z)];exact q,λb u C q=>by rw[bj (s b _ q λz=>z)];exact q,λb G q=>⟨by rw[bj (s b _ q λz=>z)];exact q,λc E v g=>⟨k c E (by
   rintro rfl;rcases A with r|r
   .exact s c _ v (λz=>z) r
   .rw[v]at r;cases r;rw[q]at p;exact p) g,by rw[bj (s c _ v λz=>z)];exact v⟩⟩⟩
 by_cases w:b=e
 .subst w;exact D
 .exact⟨u,k b u w q⟩
end
def vM(h:aF)(H:Hp):List ac:=(bG h.objs.size).filter λa=>(H a).isSome
def ln(h:aF)(H:Hp):aF:=PySem.W.hideAll h (vM h H)
theorem FC(h:aF)(H:Hp):(ln h H).objs.size=h.objs.size:=PySem.W.hideAll_size _ _
theorem J5{h:aF}{H:Hp}{b:ac}{o:Obj}(e:h.get? b=aa o)(n:H b=ae):(ln h H).get? b=aa o :=PySem.W.hideAll_get _ e λa=>by have q:(H b).isSome=ah:=(fN.mp a).2;rw[n]at q;simp at q
theorem OO{h:aF}{H:Hp}{b:ac}{o:Obj}(e:(ln h H).get? b=aa o):h.get? b=aa o/\H b=ae:=by
 have a:h.get? b=aa o:=PySem.W.of_hideAll (vM h H) e;refine⟨a,?_⟩;cases q:H b with
 |none=>rfl
 |some x=>
  have c:b∈vM h H:=fN.mpr ⟨kE.mpr (br a),by simp[q]⟩;have z:(ln h H).get? b=ae:=PySem.W.hideAll_none (vM h H) c;rw[z]at e;cases e
def LR(g h:aF)(L:ac):List (ac×Obj):=(bG h.objs.size).filterMap λa=>if a=L\/(g.get? a).isSome=ah then ae else(h.get? a).map λo=>(a,o)
def rest(g h:aF)(L d:ac):List (ac×Obj):=(LR g h L).filter λp=>decide (p.1≠d)
structure Mod(K:ar)(mg:Str->Option ai)(base:aF):Prop where
 kin:K.In base
 glob:base.Ns b_ mg
 blt:∃mb,base.Ns mV mb/\∀x:Str,x≠"__name__"->mb x=dQ x
 nolimit:base.NoLimit
 bm:∃bm ob,mg "__builtins__"=aa (.ref bm)/\bm≠mV/\base.get? bm=aa ob/\ob.cls=.type "module"/\ob.dict=aa mV/\ob.data=.plain
set_option genInjectivity false in
structure Cx where
 prog:a4
 w:aT
 K:ar
 mg:Str->Option ai
 base:aF
 A:aX
 N:List Str
 s₀:am
 H₀:Hp
 env:Env
 outer:List Env
 stack:List Env
 ex:List ac
 fn:Str->Bool
 calm:Bool
 pn:List (ac×Obj)
 xe:ai->am->Prop
def fh(l:List Env):List ac:=l.filterMap (·.frame)
abbrev Cx.fs(X:Cx):List ac:=fh X.outer
def dw(a:c8)(x:Str):Prop:=a.names.lookup x=aa .local\/a.names.lookup x=aa .cell\/a.names.lookup x=aa .free
def Loc(a:c8)(x:Str):Prop:=a.names.lookup x=aa .local\/a.names.lookup x=aa .cell
def Look(a:Env)(h:aF)(m:Str->Option ai)(x:Str)(u:ai):Prop :=(a.kindOf x=aa .local/\m x=aa u)\/((a.kindOf x=aa .cell\/a.kindOf x=aa .free)/\∃c,a.cells.lookup x=aa c/\h.IsCell c (aa u))
def jt(K:ar)(_:Str):Option (ac×ac):=match dm K b_ "Seeker" with
 |some (aa (.ref C))=>(match g9 K (.ref C) "best" with
  |some (aa (.ref f))=>(match K.lookup f with
   |some ⟨_,_,.func b,_⟩=>(match b.code with
    |.ref c=>(match K.lookup c with
     |some ⟨_,_,.fields a,_⟩=>(match (a[11]?:Option ai)with
      |some (.ref P)=>aa (c,P)
      |_=>ae)
     |_=>ae)
    |_=>ae)
   |_=>ae)
  |_=>ae)
 |_=>ae
def sw:List Str:=["Seeker.best"]
def ux(K:ar)(H:Hp):Prop:=∀x∈sw,∀c P,jt K x=aa (c,P)->H P=aa (.tbl (x++".<locals>.<lambda>"))
set_option genInjectivity false in
structure Cx.Ok(X:Cx):Prop where
 mod:Mod X.K X.mg X.base
 kind:X.env.scope.kind=.function
 glob:X.env.globals=b_
 blt:X.env.builtins=mV
 above:X.s₀.heap.objs.size<=X.env.locals
 inj:∀x y c,X.env.cells.lookup x=aa c->X.env.cells.lookup y=aa c->x=y
 has:∀x,(X.env.kindOf x=aa .cell\/X.env.kindOf x=aa .free)->∃c,X.env.cells.lookup x=aa c
 cab:∀x c,X.fn x=ah->X.env.cells.lookup x=aa c->X.s₀.heap.objs.size<=c
 hd:X.calm=ah->X.A.handled=ae
 frames:X.A.frames=aa X.stack
 stk:X.stack=X.outer\/(X.stack=X.env::X.outer/\X.env.frame=aa X.env.locals)
 exf:∀b∈X.ex,b≠X.env.locals/\∀x c,X.env.cells.lookup x=aa c->c≠b
 bs:∀b o,X.base.get? b=aa o->X.s₀.heap.get? b=aa o/\X.H₀ b=ae
 bsz:X.base.objs.size<=X.s₀.heap.objs.size
 noex:∀b o,X.base.get? b=aa o->b∉X.ex
 exfs:∀b∈X.ex,b∉X.fs
 funs:X.s₀.heap.FunFrames X.base X.outer
 frf:∀b∈X.fs,X.H₀ b=ae
 tab:ux X.K X.H₀
structure Inv(X:Cx)(ag:List (ac×Obj))(σ:List (Option V))(H:Hp)(s:am):Prop where
 ok:X.Ok
 os:s.os=X.s₀.os
 bare:lM s.gens
 base:Un X.fs X.ex X.H₀ H X.s₀.heap s.heap
 loc:∃m,s.heap.Ns X.env.locals m/\∀(i:Nat) (x:Str) (v:V),X.N[i]?=aa x->σ[i]?=aa (aa v)->dw X.env.scope x->∃u,RelV v u/\Look X.env s.heap m x u
 cell:∀x c,X.env.cells.lookup x=aa c->∃v,s.heap.IsCell c v
 free:H X.env.locals=ae
 freeC:∀x c,X.env.cells.lookup x=aa c->H c=ae
 pin:∀p∈X.pn++ag,s.heap.get? p.1=aa p.2/\H p.1=ae/\p.1≠X.env.locals/\p.1∉X.fs/\∀v,p.2.data≠.cell v
 hok:df X.prog X.w H s.heap
 len:σ.length=X.N.length
section
variable{X:Cx}{f:List (ac×Obj)}{σ:List (Option V)}{H w:Hp}{s:am}{h':aF}
theorem Cx.Ok.nofr(ok:X.Ok){b:ac}{o:Obj}(e:X.base.get? b=aa o):b∉X.fs:=λa=>by
 have:=(ok.funs.mem a).1;rw[e]at this;cases this
theorem Inv.bs(I:Inv X f σ H s):∀b o,X.base.get? b=aa o->s.heap.get? b=aa o/\H b=ae:=λb o e=>⟨I.base.keep b o (I.ok.bs b o e).1 (I.ok.bs b o e).2 (I.ok.nofr e) (I.ok.noex b o e),I.base.free b o (I.ok.bs b o e).1 (I.ok.bs b o e).2 (I.ok.noex b o e)⟩
theorem Inv.bk(I:Inv X f σ H s):∀b o,X.base.get? b=aa o->s.heap.get? b=aa o:=λb o e=>(I.bs b o e).1
theorem Inv.mod(I:Inv X f σ H s):Mod X.K X.mg X.base:=I.ok.mod
theorem Inv.kIn(I:Inv X f σ H s):X.K.In s.heap:=I.ok.mod.kin.keeps I.bk
theorem Inv.nolimit(I:Inv X f σ H s):s.heap.NoLimit:=I.ok.mod.nolimit.keeps I.bk
theorem Inv.lt(I:Inv X f σ H s):X.env.locals<s.heap.objs.size:=let ⟨_,hn,_⟩:=I.loc;hn.lt
theorem Inv.sz(I:Inv X f σ H s):X.s₀.heap.objs.size<=s.heap.objs.size:=c4 I.ok.above (kF I.lt)
theorem Inv.nofs(I:Inv X f σ H s){a:ac}(h:s.heap.objs.size<=a):a∉X.fs:=λc=>by obtain⟨_,o,b,_⟩:=I.ok.funs.mem c;exact absurd (eV (br b) (c4 I.sz h)) (d9 _)
theorem Inv.cne(I:Inv X f σ H s):∀x c,X.env.cells.lookup x=aa c->c≠X.env.locals:=λx c e z=>by
 obtain⟨v,o,a,b⟩:=I.cell x c e;obtain⟨m,⟨h,i,j,g,d,_⟩,_⟩:=I.loc;rw[z,g]at a;cases a;rw[d]at b;cases b
theorem Inv.tab(I:Inv X f σ H s):ux X.K H:=λx a c P h=>(I.base.tbls P _ (I.ok.tab x a c P h)).1
theorem Inv.funs(I:Inv X f σ H s):s.heap.FunFrames X.base X.outer:=by
 have all:∀(l:List Env),(∀b∈fh l,b∈X.fs)->X.s₀.heap.FunFrames X.base l->s.heap.FunFrames X.base l:=by
  intro l
  induction l with
  |nil=>intro _ _;trivial
  |cons u r h=>intro g n;obtain⟨p,⟨L,o,a,m,j,q⟩,i⟩:=n;have d:L∈X.fs:=g L (by unfold fh;rw[sL,a];exact lN);obtain⟨v,e⟩:=I.base.slot L o j (I.ok.frf L d) d λz=>I.ok.exfs L z d;exact⟨p,⟨L,_,a,m,e,q⟩,h (λb c=>g b (by unfold fh;rw[sL,a];exact iK _ c)) i⟩
 exact all X.outer (λ_ c=>c) I.ok.funs
theorem Inv.stack(I:Inv X f σ H s):s.heap.FunFrames X.base X.stack:=by
 rcases I.ok.stk with e|⟨e,b⟩
 .rw[e];exact I.funs
 .rw[e];obtain⟨m,a,_⟩:=I.loc;refine .cons (by rw[I.ok.kind];decide) b a ?_ I.funs;exact EG (c4 I.ok.bsz I.ok.above)
theorem Inv.stkSub(I:Inv X f σ H s):∀b∈fh X.stack,b∈X.env.locals::X.fs:=λb a=>by
 rcases I.ok.stk with e|⟨e,c⟩
 .rw[e]at a;exact iK _ a
 .rw[e]at a;unfold fh at a;rw[sL,c]at a;exact a
theorem Inv.stkFree(I:Inv X f σ H s):∀b∈fh X.stack,H b=ae:=λb a=>by
 rcases bW.mp (I.stkSub b a)with e|a
 .rw[e];exact I.free
 .obtain⟨_,o,c,_⟩:=I.ok.funs.mem a;exact I.base.free b o c (I.ok.frf b a) λz=>I.ok.exfs b z a
theorem Inv.step{g':Array GenState}{t':Nat}{d':Drawn}{ch:List ac}(I:Inv X f σ H s)(O:∀b∈ch,(b∈X.ex\/X.s₀.heap.objs.size<=b)/\b≠X.env.locals/\(∀x c,X.env.cells.lookup x=aa c->c≠b)/\∀p∈X.pn++f,p.1≠b)(j:∀b o,b≠X.env.locals->b∉X.fs->b∉ch->s.heap.get? b=aa o->H b=ae->h'.get? b=aa o)(D:∀b o,b≠X.env.locals->b∈X.fs->b∉ch->s.heap.get? b=aa o->H b=ae->∃T,h'.get? b=aa {o with slots:=T}) (free:∀b o,b∉ch->s.heap.get? b=aa o->H b=ae->w b=ae)(E:∀b o,b∉ch->s.heap.get? b=aa o->∃M,h'.get? b=aa M)(L:∀b B,H b=aa (.tup B)->w b=aa (.tup B)) (P:∀b o u,H b=aa (.frz o u)->w b=aa (.frz o u)) (C:∀b q,H b=aa (.tbl q)->w b=aa (.tbl q)/\∀c o,H c=aa (.own b)->s.heap.get? c=aa o->h'.get? c=aa o/\w c=aa (.own b))(ns:∀m,s.heap.Ns X.env.locals m->h'.Ns X.env.locals m) (W:df X.prog X.w w h') (hg:lM g'):Inv X f σ w {s with heap:=h',gens:=g',drawn:=d',toks:=t'}:=by
 have N:∀b o,X.s₀.heap.get? b=aa o->b≠X.env.locals:=λb o e=>cT (eV (br e) I.ok.above);have A:∀b o,X.s₀.heap.get? b=aa o->b∉X.ex->b∉ch:=λb o e a F=>by
  rcases(O b F).1 with z|z
  .exact a z
  .exact absurd (eV (br e) z) (d9 _)
 have y:∀x c,X.env.cells.lookup x=aa c->∀v,s.heap.IsCell c v->h'.IsCell c v:=λx c e v ⟨o,J,Y⟩=>by
  have h:c∉ch:=λz=>(O c z).2.2.1 x c e rfl;by_cases hc:c∈X.fs
  .obtain⟨T,q⟩:=D c o (I.cne x c e) hc h J (I.freeC x c e);exact⟨_,q,Y⟩
  .exact⟨o,j c o (I.cne x c e) hc h J (I.freeC x c e),Y⟩
 refine⟨I.ok,I.os,hg,⟨λb o e n F a=>?_,λb o e n F a=>?_,λb o e n a=>?_,λb o e a=>?_,λb B e=>L b B (I.base.tups b B e),λb o B e=>P b o B (I.base.frzs b o B e),λb Q e=>?_⟩,?_,λx c e=>?_,?_,λx c e=>?_,λp hp=>?_,W,I.len⟩
 .exact j b o (N b o e) F (A b o e a) (I.base.keep b o e n F a) (I.base.free b o e n a)
 .obtain⟨T,G⟩:=I.base.slot b o e n F a;obtain⟨S,K⟩:=D b _ (N b o e) F (A b o e a) G (I.base.free b o e n a);exact⟨S,K⟩
 .obtain⟨M,G⟩:=I.base.there b o e a;exact free b M (A b o e a) G (I.base.free b o e n a)
 .obtain⟨M,G⟩:=I.base.there b o e a;exact E b M (A b o e a) G
 .exact⟨(C b _ (I.base.tbls b Q e).1).1,λc o K g=>(C b _ (I.base.tbls b Q e).1).2 c o ((I.base.tbls b Q e).2 c o K g).2 ((I.base.tbls b Q e).2 c o K g).1⟩
 .obtain⟨m,hn,hl⟩:=I.loc;refine⟨m,ns m hn,λi x v G K e3=>?_⟩;obtain⟨u,r,l⟩:=hl i x v G K e3;refine⟨u,r,?_⟩;rcases l with l|⟨k,c,e,z⟩
  .exact .inl l
  .exact .inr ⟨k,c,e,y x c e _ z⟩
 .obtain⟨v,z⟩:=I.cell x c e;exact⟨v,y x c e v z⟩
 .obtain⟨m,⟨o,_,_,J,_⟩,_⟩:=I.loc;exact free _ o (λz=>(O _ z).2.1 rfl) J I.free
 .obtain⟨v,o,J,Y⟩:=I.cell x c e;exact free c o (λz=>(O c z).2.2.1 x c e rfl) J (I.freeC x c e)
 .obtain⟨e,n,ne,Z,d⟩:=I.pin p hp;have h:p.1∉ch:=λz=>(O p.1 z).2.2.2 p hp rfl;exact⟨j p.1 p.2 ne Z h e n,free p.1 p.2 h e n,ne,Z,d⟩
theorem Inv.un{t':Nat}(I:Inv X f σ H s)(u:Un X.fs [] H w s.heap h')(a:df X.prog X.w w h'):Inv X f σ w {s with heap:=h',toks:=t'}:=by
 obtain⟨m,⟨o,y,A,i,r⟩,_⟩:=id I.loc;obtain⟨q,p⟩:=u.any i I.free (by simp);exact I.step (g':=s.gens) (d':=s.drawn) (ch:=[]) (λ_ z=>nomatch z) (λb o _ c _ e n=>u.keep b o e n c (by simp)) (λb o _ c _ e n=>u.slot b o e n c (by simp)) (λb o _ e n=>u.free b o e n (by simp)) (λb o _ e=>u.there b o e (by simp)) u.tups u.frzs u.tbls (λx l=>by
  obtain⟨v,d,g,h,j⟩:=l;rw[i]at h;cases h;exact⟨_,d,g,p,j⟩) a I.bare
theorem Inv.call{g':Array GenState}{t':Nat}{d':Drawn}{ch:List ac}(I:Inv X f σ H s)(u:Un (fh X.stack) ch H w s.heap h')(d:df X.prog X.w w h')(A:lM g')(j:∀b∈ch,(b∈X.ex\/X.s₀.heap.objs.size<=b)/\b≠X.env.locals/\(∀x c,X.env.cells.lookup x=aa c->c≠b)/\∀p∈X.pn++f,p.1≠b):Inv X f σ w {s with heap:=h',gens:=g',drawn:=d',toks:=t'}:=by
 obtain⟨m,⟨o,F,G,q,r⟩,_⟩:=id I.loc;obtain⟨C,g⟩:=u.any q I.free λz=>(j _ z).2.1 rfl;exact I.step (ch:=ch) j (λb o g B a e n=>u.keep b o e n (λz=>(bW.mp (I.stkSub b z)).elim g B) a) (λb o _ _ a e n=>u.any e n a) (λb o a e n=>u.free b o e n a) (λb o a e=>u.there b o e a) u.tups u.frzs u.tbls (λE y=>by
  obtain⟨D,h,i,l,v⟩:=y;rw[q]at l;cases l;exact⟨_,h,i,g,v⟩) d A
theorem Inv.turned{t':Nat}{it:ac}(I:Inv X f σ H s)(k:∀b o,b≠it->s.heap.get? b=aa o->h'.get? b=aa o)(l:H it=ae)(h:it≠X.env.locals)(D:it∈X.ex\/X.s₀.heap.objs.size<=it) (C:∀x c,X.env.cells.lookup x=aa c->c≠it) (B:∀p∈X.pn++f,p.1≠it):Inv X f σ H {s with heap:=h',toks:=t'}:=by
 have a:∀b u,H b=aa u->b≠it:=λb u e z=>by rw[z,l]at e;cases e
 refine I.step (g':=s.gens) (d':=s.drawn) (ch:=[it]) (λb A=>?_) (λb o _ _ d e _=>k b o (λz=>d (by simp[z])) e) (λb o _ _ d e _=>⟨o.slots,k b o (λz=>d (by simp[z])) e⟩) (λ_ _ _ _ n=>n)
  (λb o d e=>⟨o,k b o (λz=>d (by simp[z])) e⟩) (λ_ _ e=>e) (λ_ _ _ e=>e) (λ_ _ e=>⟨e,λc o i g=>⟨k c o (a c _ i) g,i⟩⟩) (λm y=>?_) (λb u e=>?_) I.bare
 .have e:b=it:=by simpa using A
  subst e;exact⟨D,h,C,B⟩
 .obtain⟨o,E,F,j,r⟩:=y;exact⟨o,E,F,k _ o (d_ h) j,r⟩
 .refine(I.hok b u e).stay (λc v d q=>k c v ?_ q) (λ_ q=>q) λ_ _ q=>q;rcases d with z|z
  .rw[z];exact a b u e
  .exact a c _ z
theorem Inv.tok(I:Inv X f σ H s)(t:Nat):Inv X f σ H {s with toks:=t}:=I.un (h':=s.heap) (t':=t) Un.refl I.hok
theorem Inv.kept{t':Nat}(I:Inv X f σ H s)(k:∀b u,s.heap.get? b=aa u->h'.get? b=aa u):Inv X f σ H {s with heap:=h',toks:=t'}:=I.un (Un.kept k) (I.hok.kept k)
theorem Inv.laid{a:ac}{o:HO}{t':Nat}(I:Inv X f σ H s)(k:∀b u,s.heap.get? b=aa u->h'.get? b=aa u)(c:s.heap.objs.size<=a)(new:cV X.prog X.w (upd H a o) h' a o):Inv X f σ (upd H a o) {s with heap:=h',toks:=t'}:=I.un (Un.laid k c (I.hok.fresh c)) (I.hok.laid k c new)
theorem Inv.write{x e:ac}{o:HO}{g:Nat}(I:Inv X f σ H s)(c:rF (H x))(d:e=x\/H e=aa (.own x))(k:∀b u,b≠e->s.heap.get? b=aa u->h'.get? b=aa u)(a:∃u,h'.get? e=aa u)(new:cV X.prog X.w (upd H x o) h' x o):Inv X f σ (upd H x o) {s with heap:=h',toks:=g}:=I.un (Un.write c d k a) (I.hok.write c d k a new)
theorem Inv.pins_of{a:List (ac×Obj)}(I:Inv X f σ H s)(h:∀p∈a,s.heap.get? p.1=aa p.2/\H p.1=ae/\p.1≠X.env.locals/\p.1∉X.fs/\∀v,p.2.data≠.cell v):Inv X a σ H s :=⟨I.ok,I.os,I.bare,I.base,I.loc,I.cell,I.free,I.freeC,λp b=>(lO.mp b).elim (λz=>I.pin p (List.mem_append_left _ z)) (h p),I.hok,I.len⟩
theorem Ba{N:List Str}(c:N.Nodup){i j:Nat}{x:Str}(a:N[i]?=aa x)(b:N[j]?=aa x):i=j:=by obtain⟨l,g⟩:=cI.mp a;obtain⟨h,d⟩:=cI.mp b;exact(List.getElem_inj c).mp (g.trans d.symm)
theorem Dz{M:Model}{A:aX}{E:ai->am->Prop}{i:Nat}{x:Str}{v:V}{u:ai}{Q:Unit->am->Prop}(I:Inv X f σ H s)(hN:X.N.Nodup)(S:X.N[i]?=aa x)(G:Loc X.env.scope x)(r:RelV v u)(h:∀s',Inv X f (σ.set i (aa v)) H s'->(∃a,jX a s.heap s'.heap/\(a=X.env.locals\/X.env.cells.lookup x=aa a))->Q () s') (hf:X.fn x=ah\/X.env.scope.names.lookup x=aa .local:=by first|exact .inl rfl|exact .inr rfl|assumption):aw M A (storeName X.env x u) Q E s:=by
 obtain⟨m,hn,hl⟩:=id I.loc;have AB:(X.env.scope.kind == .class||(X.env.scope.kind == .module&&X.env.locals != X.env.globals))=aj:=by rw[I.ok.kind];rfl
 have L:i<σ.length:=by rw[I.len];exact(cI.mp S).1
 have cne:=I.cne;have C:∀{a:ac}{h':aF},(∃o,s.heap.get? a=aa o/\H a=ae)->jX a s.heap h'->df X.prog X.w H h':=λ{a h'} ha B b ob e=>by
  obtain⟨_,_,oC⟩:=ha;refine(I.hok b ob e).stay (λc T F q=>(B.2 c ?_).trans q) (λ_ q=>q) λ_ _ q=>q;rintro rfl;rcases F with rfl|F
  .rw[oC]at e;cases e
  .rw[oC]at F;cases F
 rcases G with K|K
 .refine wpAny_storeName_local K hn (λh' hn' B=>?_) AB;obtain⟨oL,_,_,tE,_⟩:=id hn;refine h _ ⟨I.ok,I.os,I.bare,⟨λb o e n O G=>?_,λb o e n O G=>?_,I.base.free,λb o e G=>?_,I.base.tups,I.base.frzs,λb q e=>⟨(I.base.tbls b q e).1,λc o D g=>⟨(B.2 c (λz=>by have l:=((I.base.tbls b q e).2 c o D g).2;rw[z,I.free]at l;cases l)).trans ((I.base.tbls b q e).2 c o D g).1,((I.base.tbls b q e).2 c o D g).2⟩⟩⟩,⟨_,hn',λj y Y l D e3=>?_⟩,λy c e=>?_,I.free,I.freeC,λp hp=>?_,C ⟨oL,tE,I.free⟩ B,by simpa using I.len⟩ ⟨_,B,.inl rfl⟩
  .exact(B.2 b (cT (eV (br e) I.ok.above))).trans (I.base.keep b o e n O G)
  .obtain⟨sl,l⟩:=I.base.slot b o e n O G;exact⟨sl,(B.2 b (cT (eV (br e) I.ok.above))).trans l⟩
  .obtain⟨o',l⟩:=I.base.there b o e G;exact⟨o',(B.2 b (cT (eV (br e) I.ok.above))).trans l⟩
  .by_cases N:j=i
   .subst N;rw[S]at l;cases l;rw[cU L]at D;cases D;exact⟨u,r,.inl ⟨K,by simp⟩⟩
   .rw[cA (d_ N)]at D;obtain⟨Z,r',q⟩:=hl j y Y l D e3;refine⟨Z,r',?_⟩;rcases q with⟨k,e⟩|⟨k,c,e,z⟩
    .refine .inl ⟨k,?_⟩;have:y≠x:=λe=>N (Ba hN l (e ▸ S));simp[this,e]
    .exact .inr ⟨k,c,e,z.sameBut B (cne y c e)⟩
  .obtain⟨T,z⟩:=I.cell y c e;exact⟨T,z.sameBut B (cne y c e)⟩
  .obtain⟨e,n,W,nf,d⟩:=I.pin p hp;exact⟨(B.2 p.1 W).trans e,n,W,nf,d⟩
 .have tF:X.fn x=ah:=by
   rcases hf with z|z
   .exact z
   .rw[z]at K;cases K
  obtain⟨c,F⟩:=I.ok.has x (.inl K);obtain⟨T,z⟩:=I.cell x c F;refine wpAny_storeName_cell I.ok.kind K F z (λh' gv B=>?_);obtain⟨oc,oF,P⟩:=id z;refine h {s with heap:=h'} ⟨I.ok,I.os,I.bare,⟨λb o e n O G=>?_,λb o e n O G=>?_,I.base.free,λb o e G=>?_,I.base.tups,I.base.frzs,λb q e=>⟨(I.base.tbls b q e).1,λJ o D g=>⟨(B.2 J (λz=>by have l:=((I.base.tbls b q e).2 J o D g).2;rw[z,I.freeC x c F]at l;cases l)).trans ((I.base.tbls b q e).2 J o D g).1,((I.base.tbls b q e).2 J o D g).2⟩⟩⟩,⟨m,hn.sameBut B (d_ (cne x c F)),λj y Y l D e3=>?_⟩,λy J e=>?_,I.free,I.freeC,λp hp=>?_,C ⟨oc,oF,I.freeC x c F⟩ B,by simpa using I.len⟩ ⟨c,B,.inr F⟩
  .exact(B.2 b (cT (eV (br e) (I.ok.cab x c tF F)))).trans (I.base.keep b o e n O G)
  .obtain⟨sl,l⟩:=I.base.slot b o e n O G;exact⟨sl,(B.2 b (cT (eV (br e) (I.ok.cab x c tF F)))).trans l⟩
  .obtain⟨o',l⟩:=I.base.there b o e G;exact⟨o',(B.2 b (cT (eV (br e) (I.ok.cab x c tF F)))).trans l⟩
  .by_cases N:j=i
   .subst N;rw[S]at l;cases l;rw[cU L]at D;cases D;exact⟨u,r,.inr ⟨.inl K,c,F,gv⟩⟩
   .rw[cA (d_ N)]at D;obtain⟨Z,r',q⟩:=hl j y Y l D e3;refine⟨Z,r',?_⟩;rcases q with q|⟨k,J,e,z'⟩
    .exact .inl q
    .refine .inr ⟨k,J,e,z'.sameBut B ?_⟩;rintro rfl;exact N (Ba hN l (I.ok.inj _ _ _ e F ▸ S))
  .by_cases tG:J=c
   .subst tG;exact⟨_,gv⟩
   .obtain⟨w2,z2⟩:=I.cell y J e;exact⟨w2,z2.sameBut B tG⟩
  .obtain⟨e,n,W,nf,d⟩:=I.pin p hp;refine⟨(B.2 p.1 ?_).trans e,n,W,nf,d⟩;intro q;rw[q,oF]at e;have q':oc=p.2:=eD e;exact d T (by rw[<-q'];exact P)
theorem Dh{M:Model}{A:aX}{E:ai->am->Prop}{i:Nat}{x:Str}{v:V}{u:ai}{Q:Unit->am->Prop}(I:Inv X f σ H s)(g:X.N.Nodup)(c:X.N[i]?=aa x)(b:Loc X.env.scope x)(r:RelV v u)(h:∀a,Inv X f (σ.set i (aa v)) H a->Q () a) (d:X.fn x=ah\/X.env.scope.names.lookup x=aa .local:=by first|exact .inl rfl|exact .inr rfl|assumption):aw M A (storeName X.env x u) Q E s :=Dz I g c b r (λa j _=>h a j) d
theorem Inv.call'{s':am}{ch:List ac}(I:Inv X f σ H s)(h:s'.os=s.os)(u:Un (fh X.stack) ch H w s.heap s'.heap)(a:df X.prog X.w w s'.heap)(i:lM s'.gens)(g:∀b∈ch,(b∈X.ex\/X.s₀.heap.objs.size<=b)/\b≠X.env.locals/\(∀x c,X.env.cells.lookup x=aa c->c≠b)/\∀p∈X.pn++f,p.1≠b):Inv X f σ w s':=by obtain⟨h',g',d',t',d⟩:=s';have e:d=s.os:=h;subst e;exact I.call (g':=g') (t':=t') (d':=d') u a i g
end
abbrev XK:=ai->Option ac->Hp->Prop
abbrev St:=List (Option V)
abbrev VK:=V->Hp->Prop
abbrev TE:=St->Hp->VK->Prop
abbrev TT:=St->Hp->(Bool->Hp->Prop)->Prop
abbrev TA:=St->Hp->(List V->Hp->Prop)->Prop
structure jK where
 nx:St->Hp->Prop
 rt:VK
 bk:St->Hp->Prop:=λ_ _=>False
 ct:St->Hp->Prop:=λ_ _=>False
abbrev TS:=jK->St->Hp->Prop
def EP(X:Cx)(d:List (ac×Obj))(b:St)(Q:VK)(u:ai)(c:am):Prop:=∃v a,Inv X d b a c/\RelV v u/\Q v a
def TP(X:Cx)(f:List (ac×Obj))(c:St)(Q:Bool->Hp->Prop)(b:Bool)(d:am):Prop:=∃a,Inv X f c a d/\Q b a
def AP(X:Cx)(g:List (ac×Obj))(c:St)(Q:List V->Hp->Prop)(d:List ai)(f:am):Prop:=∃a b,Inv X g c b f/\bx a d/\Q a b
def SP(X:Cx)(c:List (ac×Obj))(D:jK)(f:Flow)(s':am):Prop :=
 match f with
 |.next=>∃a b,Inv X c a b s'/\D.nx a b
 |.brk=>∃a b,Inv X c a b s'/\D.bk a b
 |.cont=>∃a b,Inv X c a b s'/\D.ct a b
 |.ret u=>∃v a b,Inv X c a b s'/\RelV v u/\D.rt v b
def PE(X:Cx)(e:ay)(t:TE):Prop :=
 ∀(b:List (ac×Obj)) (s:am) (a:St) (H:Hp) (Q:VK),Inv X b a H s->t a H Q->aw (aA X.prog X.w) X.A (aL e X.env) (EP X b a Q) X.xe s
def PT(X:Cx)(e:ay)(t:TT):Prop :=
 ∀(b:List (ac×Obj)) (s:am) (a:St) (H:Hp) (Q:Bool->Hp->Prop),Inv X b a H s->t a H Q->aw (aA X.prog X.w) X.A (lP e X.env (aL e X.env)) (TP X b a Q) X.xe s
def PW(X:Cx)(e:ay)(t:TT):Prop :=
 ∀(c:Sem ai) (b:List (ac×Obj)) (s:am) (a:St) (H:Hp) (Q:Bool->Hp->Prop),Inv X b a H s->t a H Q->aw (aA X.prog X.w) X.A (lP e X.env c) (TP X b a Q) X.xe s
def PA(X:Cx)(d:List ay)(t:TA):Prop :=
 ∀(b:Pos) (c:List (ac×Obj)) (s:am) (a:St) (H:Hp) (Q:List V->Hp->Prop),Inv X c a H s->t a H Q->aw (aA X.prog X.w) X.A (spliced (cm b (aP d X.env))) (AP X c a Q) X.xe s
def PS(X:Cx)(c:aV)(t:TS):Prop :=
 ∀(b:List (ac×Obj)) (s:am) (a:St) (H:Hp) (D:jK),Inv X b a H s->t D a H->aw (aA X.prog X.w) X.A (exec c X.env) (SP X b D) X.xe s
def jU(X:Cx)(c:List aV)(t:TS):Prop :=
 ∀(b:List (ac×Obj)) (s:am) (a:St) (H:Hp) (D:jK),Inv X b a H s->t D a H->aw (aA X.prog X.w) X.A (execs c X.env) (SP X b D) X.xe s
theorem aR{b:Type}{t:Sem b}{Q c:b->am->Prop}{M:Model}{A:aX}{E:ai->am->Prop}{s:am}(h:aw M A t Q E s)(d:∀a s,Q a s->c a s):aw M A t c E s:=eW h d λ_ _ x=>x
section
variable{X:Cx}
def Eb(i:Nat):TE:=λa H Q=>∃v,a[i]?=aa (aa v)/\Q v H
def tC(v:V):TE:=λ_ H Q=>Q v H
theorem eu{i:Nat}{x:Str}{pos:Pos}(n:X.N[i]?=aa x)(f:dw X.env.scope x)(d:(x==("__debug__":Str))=aj:=by decide)(o:(x==("__classdict__":Str))=aj:=by decide):PE X (.Name x pos) (Eb i):=by
 intro p s σ H Q I h;obtain⟨v,e,h⟩:=h;obtain⟨m,g,j⟩:=I.loc;obtain⟨u,r,l⟩:=j i x v n e f;have b:EP X p σ Q u s:=⟨v,H,I,r,h⟩
 rcases l with⟨a,hm⟩|⟨a,c,hc,qx⟩
 .exact wpAny_Name (wpAny_loadName_local I.ok.kind a g hm b) d
 .rcases a with a|a
  .exact wpAny_Name (wpAny_loadName_cell I.ok.kind a hc qx b) d
  .exact wpAny_Name (wpAny_loadName_free I.ok.kind a hc qx b o) d
theorem Oa{i j pos}:PE X (.Constant (.int i) j pos) (tC (.int i)):=λ_ _ _ H _ I h=>wpAny_Constant_int ⟨.int i,H,I.tok _,⟨_,rfl⟩,h⟩
theorem Lm{b j pos}:PE X (.Constant (.bool b) j pos) (tC (.bl b)):=λ_ _ _ H _ I h=>Constant_bool ⟨.bl b,H,I,rfl,h⟩
theorem LG{j pos}:PE X (.Constant .none j pos) (tC .non):=λ_ _ _ H _ I h=>Constant_none ⟨.non,H,I,rfl,h⟩
theorem Kk{x j pos}:PE X (.Constant (.str x) j pos) (tC (.str x)):=λ_ _ _ H _ I h=>Calls.Constant_str ⟨.str x,H,I.tok _,⟨_,rfl⟩,h⟩
def Gl(X:Cx)(x:Str):Prop:=X.env.kindOf x=aa .globalImplicit
theorem wf{E:ai->am->Prop}{g:List (ac×Obj)}{s:am}{b:St}{H:Hp}{x:Str}{u:ai}{a:Pos}{Q:ai->am->Prop}(I:Inv X g b H s)(d:Gl X x)(c:X.mg x=aa u)(h:Q u s)(f:(x==("__debug__":Str))=aj:=by decide):aw (aA X.prog X.w) X.A (aL (.Name x a) X.env) Q E s :=Calls.Name_function_global I.ok.kind d (Calls.loadGlobal_global (by rw[I.ok.glob];exact I.mod.glob.keeps I.bk) c h) f
theorem sr{E:ai->am->Prop}{m:List (ac×Obj)}{s:am}{b:St}{H:Hp}{x:Str}{u:ai}{a:Pos}{Q:ai->am->Prop}(I:Inv X m b H s)(g:Gl X x)(f:X.mg x=ae)(c:dQ x=aa u)(h:Q u s)(d:x≠"__name__":=by decide) (i:(x==("__debug__":Str))=aj:=by decide):aw (aA X.prog X.w) X.A (aL (.Name x a) X.env) Q E s:=by obtain⟨n,l,j⟩:=I.mod.blt;exact Calls.Name_function_global I.ok.kind g (Calls.loadGlobal_builtin (by rw[I.ok.glob];exact I.mod.glob.keeps I.bk) f (by rw[I.ok.blt];exact l.keeps I.bk) ((j x d).trans c) h) i
theorem De{x:Str}{v:V}{u:ai}{a:Pos}(c:Gl X x)(b:X.mg x=aa u)(r:RelV v u)(d:(x==("__debug__":Str))=aj:=by decide):PE X (.Name x a) (tC v) :=λ_ _ _ H _ I h=>wf I c b ⟨v,H,I,r,h⟩ d
theorem JE{x:Str}{v:V}{u:ai}{a:Pos}(f:Gl X x)(d:X.mg x=ae)(b:dQ x=aa u)(r:RelV v u)(c:x≠"__name__":=by decide)(g:(x==("__debug__":Str))=aj:=by decide):PE X (.Name x a) (tC v) :=λ_ _ _ H _ I h=>sr I f d b ⟨v,H,I,r,h⟩ c g
variable{a b:ay}{f o:TE}{pos:Pos}
def PC(X:Cx)(i:CmpOp)(a b:ay)(t:TE):Prop :=
 ∀(h:List (ac×Obj)) (s:am) (g:St) (H:Hp) (Q:VK),Inv X h g H s->t g H Q ->
  aw (aA X.prog X.w) X.A (aL a X.env) (λv d=>aw (aA X.prog X.w) X.A (aL b X.env) (λu c=>aw (aA X.prog X.w) X.A (eh i v u) (EP X h g Q) X.xe c) X.xe d) X.xe s
theorem Om(b:ay){c:CmpOp}(h:c≠.In)(d:c≠.NotIn):oh c b=aj:=by
 have i:(c == CmpOp.In)=aj:=by cases c <;> first|rfl|exact absurd rfl h
 have g:(c == CmpOp.NotIn)=aj:=by cases c <;> first|rfl|exact absurd rfl d
 cases b <;> simp[oh,i,g]
def tB(t:TE):TT:=λd H Q=>t d H λx g=>∃c,x=.bl c/\Q c g
theorem Nd{g:CmpOp}{t:TE}(h:PC X g a b t)(i:oh g b=aj:=by first|exact Om _ (by decide) (by decide)|rfl):PT X (.Compare a [g] [b] pos) (tB t):=by
 intro p s j H Q I m;refine wpAny_isTrue_Compare1 (aR (h p s j H _ I m) λv A i=>aR i λu z n=>aR n λc y ⟨x,w,r,r1,l⟩=>?_) i;obtain⟨d,rfl,q⟩:=l;cases r1;exact lQ ⟨w,r,q⟩
theorem MJ{e:ay}{t:TE}(h:PE X e t)(l:∀c,lP e X.env c=(do let v <-c;standAt e.pos;holding [v] (truthy v)):=by intro _;rfl):PT X e (tB t):=by
 intro m s g H Q I j;refine isTrue_plain (aR (h m s g H _ I j) λv r ⟨x,p,n,r1,i⟩=>?_) (l _);obtain⟨d,rfl,q⟩:=i;cases r1;exact lQ ⟨p,n,q⟩
variable{g n:TT}{rest:List ay}
def FH(t u:TT):TT:=λd H Q=>t d H λc h=>if c=ah then u d h Q else Q aj h
def GK(t u:TT):TT:=λd H Q=>t d H λc h=>if c=ah then Q ah h else u d h Q
def NW(t:TT):TT:=λd H Q=>t d H λc h=>Q (!c) h
theorem Ll(i:PT X a g):PW X (.BoolOp .And [a] pos) g:=by
 intro l j s d H Q I h;refine isTrue_and (aR (i j s d H Q I h) λc m e=>?_);cases c with
 |true=>exact isTrue_and_nil e
 |false=>exact e
theorem JT(i:PT X a g):PW X (.BoolOp .Or [a] pos) g:=by
 intro l j s d H Q I h;refine isTrue_or (aR (i j s d H Q I h) λc m e=>?_);cases c with
 |false=>exact isTrue_or_nil e
 |true=>exact e
theorem JF(u:PT X a g)(r:PW X (.BoolOp .And (b::rest) pos) n):PW X (.BoolOp .And (a::b::rest) pos) (FH g n):=by
 intro p j s d H Q I h;refine isTrue_and (aR (u j s d H _ I h) λc q ⟨m,l,i⟩=>?_);cases c with
 |true=>exact r p j q d m Q l i
 |false=>exact⟨m,l,i⟩
theorem Lx(u:PT X a g)(r:PW X (.BoolOp .Or (b::rest) pos) n):PW X (.BoolOp .Or (a::b::rest) pos) (GK g n):=by
 intro p j s d H Q I h;refine isTrue_or (aR (u j s d H _ I h) λc q ⟨m,l,i⟩=>?_);cases c with
 |true=>exact⟨m,l,i⟩
 |false=>exact r p j q d m Q l i
theorem HG(i:PT X a g):PT X (.UnaryOp .Not a pos) (NW g):=by intro j s d H Q I h;exact isTrue_not (i j s d H (λc l=>Q (!c) l) I h)
def Hy(f o:TE):TE:=λd H Q=>f d H λx h=>∃c,x=.bl c/\if c=ah then o d h Q else Q (.bl aj) h
def KL(f:TE):TE:=λd H Q=>f d H λx h=>∃c,x=.bl c/\Q (.bl (!c)) h
theorem IN{op}{t:TE}(h:PE X a t):PE X (.BoolOp op [a] pos) t:=λi s c H Q I d=>BoolOp_one (h i s c H Q I d)
theorem FP(r:PE X a f)(q:PE X (.BoolOp .And (b::rest) pos) o):PE X (.BoolOp .And (a::b::rest) pos) (Hy f o):=by
 intro j s i H Q I h;refine BoolOp_and (aR (r j s i H _ I h) λv p ⟨x,m,l,r1,d⟩=>?_);obtain⟨c,rfl,d⟩:=d;cases r1;refine lQ ?_;cases c with
 |true=>exact q j p i m Q l d
 |false=>exact⟨.bl aj,m,l,rfl,d⟩
theorem M8(j:PE X a f):PE X (.UnaryOp .Not a pos) (KL f):=by
 intro l s i H Q I h;refine UnaryOp_ (aR (j l s i H _ I h) λv q ⟨x,p,m,r1,d⟩=>?_);obtain⟨c,rfl,d⟩:=d;cases r1;exact not_of (lQ ⟨.bl (!c),p,m,rfl,d⟩)
def Kb(t:TT)(f o:TE):TE:=λd H Q=>t d H λc h=>if c=ah then f d h Q else o d h Q
theorem JK{c:ay}(r:PT X c g)(v:PE X a f)(u:PE X b o):PE X (.IfExp c a b pos) (Kb g f o):=by
 intro j s i H Q I h;refine wpAny_IfExp (aR (r j s i H _ I h) λd l ⟨q,p,m⟩=>?_);cases d with
 |true=>exact v j l i q Q p m
 |false=>exact u j l i q Q p m
end
def cb(K:ar)(H:Hp)(a:ac)(xs:List V):Prop :=
 Rd H a (.lst xs) \/
  ∃(o:Obj) (b:Array ai) (n:Nat),K.lookup a=aa o/\o.cls=.type "list"/\o.dict=ae/\o.data=.seq b n/\b.size<=a6/\bx xs b.toList
def cS(K:ar)(H:Hp)(a:ac)(xs:List V):Prop :=
 Rd H a (.tup xs) \/
  ∃(o:Obj) (b:Array ai) (n:Nat),K.lookup a=aa o/\o.cls=.type "tuple"/\o.data=.seq b n/\b.size<=a6/\bx xs b.toList
def OQ:ai->Option V
 |.none=>aa .non
 |.bool b=>aa (.bl b)
 |.int i _=>aa (.int i)
 |.str x _=>aa (.str x)
 |.bytes b _=>aa (.byt b)
 |.float b _=>aa (.flt b)
 |.ref a=>aa (.ref a)
 |.type n=>aa (.ty n)
 |_=>ae
theorem RelV.abs{x:V}{u:ai}(r:RelV x u):OQ u=aa x:=by
 cases x with
 |non=>cases r;rfl
 |bl _=>cases r;rfl
 |int _=>obtain⟨t,rfl⟩:=r;rfl
 |str _=>obtain⟨t,rfl⟩:=r;rfl
 |byt _=>obtain⟨t,rfl⟩:=r;rfl
 |flt _=>obtain⟨t,rfl⟩:=r;rfl
 |ref _=>cases r;rfl
 |ty _=>cases r;rfl
theorem RelV.inj{x y:V}{u:ai}(r:RelV x u)(q:RelV y u):x=y:=eD (r.abs.symm.trans q.abs)
theorem bx.inj:∀{b a:List V}{c:List ai},bx b c->bx a c->b=a
 |_,_,_,.nil,.nil=>rfl
 |_,_,_,.cons r t,.cons f d=>by rw[r.inj f,bx.inj t d]
section
variable{X:Cx}{c:List (ac×Obj)}{σ:St}{H:Hp}{s:am}{a:ac}{xs b:List V}
theorem cb.of{K:ar}(h:H a=aa (.lst xs)):cb K H a xs:=.inl (.inl h)
theorem cS.of{K:ar}(h:H a=aa (.tup xs)):cS K H a xs:=.inl (.inl h)
theorem Inv.list(I:Inv X c σ H s)(h:cb X.K H a xs):∃its:List ai,bx xs its/\PlainL s.heap a its.toArray/\xs.length<=a6:=by
 rcases h with h|⟨o,its,n,f,i,g,d,j,r⟩
 .obtain⟨z,its,n,r,e⟩:=h.ok I.hok;exact⟨its,r,⟨_,n,e,rfl,rfl,rfl⟩,z⟩
 .refine⟨its.toList,r,⟨o,n,I.kIn a o f,i,g,by simpa using d⟩,?_⟩;have e:=r.length;simp only[wu]at e;lia
theorem Inv.tuple(I:Inv X c σ H s)(h:cS X.K H a xs):∃d:List ai,bx xs d/\IsTup s.heap a d.toArray/\xs.length<=a6:=by
 rcases h with h|⟨o,d,n,g,i,f,j,r⟩
 .obtain⟨z,d,r,p,_⟩:=h.ok I.hok;exact⟨d,r,p,z⟩
 .refine⟨d.toList,r,⟨o,I.kIn a o g,i,n,by simpa using f⟩,?_⟩;have e:=r.length;simp only[wu]at e;lia
theorem Inv.list_inj(I:Inv X c σ H s)(h:cb X.K H a xs)(m:cb X.K H a b):xs=b:=by
 obtain⟨g,r,⟨o,n,e,_,_,d⟩,_⟩:=I.list h;obtain⟨f,l,⟨p,q,i,_,_,j⟩,_⟩:=I.list m;rw[e]at i;cases i;rw[d]at j;injection j with d1 _;have:g=f:=by simpa using congrArg Array.toList d1
 subst this;exact r.inj l
theorem Inv.tuple_inj(I:Inv X c σ H s)(h:cS X.K H a xs)(m:cS X.K H a b):xs=b:=by
 obtain⟨g,r,⟨o,e,_,n,d⟩,_⟩:=I.tuple h;obtain⟨f,l,⟨p,i,_,q,j⟩,_⟩:=I.tuple m;rw[e]at i;cases i;rw[d]at j;injection j with d1 _;have:g=f:=by simpa using congrArg Array.toList d1
 subst this;exact r.inj l
end
abbrev Cx.wish(X:Cx)(E:ai->am->Prop):Cx:={X with xe:=E}
abbrev Cx.nox(X:Cx):Cx:=X.wish λ_ _=>False
theorem Cx.Ok.wish{X:Cx}(ok:X.Ok)(E:ai->am->Prop):(X.wish E).Ok :=⟨ok.mod,ok.kind,ok.glob,ok.blt,ok.above,ok.inj,ok.has,ok.cab,ok.hd,ok.frames,ok.stk,ok.exf,ok.bs,ok.bsz,ok.noex,ok.exfs,ok.funs,ok.frf,ok.tab⟩
theorem Cx.Ok.unwish{X:Cx}{E:ai->am->Prop}(ok:(X.wish E).Ok):X.Ok :=⟨ok.mod,ok.kind,ok.glob,ok.blt,ok.above,ok.inj,ok.has,ok.cab,ok.hd,ok.frames,ok.stk,ok.exf,ok.bs,ok.bsz,ok.noex,ok.exfs,ok.funs,ok.frf,ok.tab⟩
section
variable{X:Cx}{a:List (ac×Obj)}{b:St}{H:Hp}{s:am}{E:ai->am->Prop}
theorem Inv.wish(I:Inv X a b H s)(E:ai->am->Prop):Inv (X.wish E) a b H s:=⟨I.ok.wish E,I.os,I.bare,I.base,I.loc,I.cell,I.free,I.freeC,I.pin,I.hok,I.len⟩
theorem Inv.unwish(I:Inv (X.wish E) a b H s):Inv X a b H s:=⟨I.ok.unwish,I.os,I.bare,I.base,I.loc,I.cell,I.free,I.freeC,I.pin,I.hok,I.len⟩
theorem SP.unwish{D:jK}{f:Flow}{g:am}(h:SP (X.wish E) a D f g):SP X a D f g:=by
 cases f with
 |next=>obtain⟨c,d,I,q⟩:=h;exact⟨c,d,I.unwish,q⟩
 |brk=>obtain⟨c,d,I,q⟩:=h;exact⟨c,d,I.unwish,q⟩
 |cont=>obtain⟨c,d,I,q⟩:=h;exact⟨c,d,I.unwish,q⟩
 |ret u=>obtain⟨v,c,d,I,r,q⟩:=h;exact⟨v,c,d,I.unwish,r,q⟩
end
section
variable{X:Cx}{j:aV}{rest:List aV}{t u:TS}{e:ay}{i:TE}{g:Pos}
def Jf:TS:=λD a H=>D.nx a H
def HB(t u:TS):TS:=λD a H=>t {D with nx:=u D} a H
theorem Hf:jU X [] Jf:=λ_ _ a H _ I h=>zW ⟨a,H,I,h⟩
theorem xg(m:PS X j t)(l:jU X rest u):jU X (j::rest) (HB t u):=by
 intro b s c H D I h;refine wpAny_execs_cons (aR (m b s c H {D with nx:=u D} I h) λf d q=>?_);cases f with
 |next=>obtain⟨a,o,n,q⟩:=q;exact l b d a o D n q
 |ret v=>exact q
 |brk=>exact q
 |cont=>exact q
theorem xL(b:PS X j t):jU X [j] t:=by
 intro c s a H D I h;refine wpAny_execs_cons (aR (b c s a H D I h) λf d q=>?_);cases f with
 |next=>exact zW q
 |ret v=>exact q
 |brk=>exact q
 |cont=>exact q
theorem Inv.quiet{b:List (ac×Obj)}{a:St}{H:Hp}{s:am}(I:Inv X b a H s):interactive X.env=aj:=by simp[interactive,I.ok.kind]
def K3(i:TE):TS:=λD a H=>i a H λ_ b=>D.nx a b
theorem vC(d:PE X e i)(c:g_ e ae g.line X.env=pure aj:=by rfl):PS X (.Expr e g) (K3 i):=by intro f s a H D I h;exact wpAny_Expr_any (aR (d f s a H _ I h) λv n ⟨x,m,l,r1,b⟩=>⟨a,m,l,b⟩) I.quiet c
def KA(i:TE):TS:=λD a H=>i a H D.rt
theorem oY(c:PE X e i):PS X (.Return (aa e) g) (KA i):=by intro d s a H D I h;exact wpAny_Return_some (aR (c d s a H _ I h) λv m ⟨x,l,f,r1,b⟩=>⟨x,a,l,f,r1,b⟩)
def MO:TS:=λD _ H=>D.rt .non H
theorem Os:PS X (.Return ae g) MO:=λ_ _ a H _ I h=>wpAny_Return_none ⟨.non,a,H,I,rfl,h⟩
def Oe(c:TT)(t u:TS):TS:=λD a H=>c a H λb d=>if b=ah then t D a d else u D a d
theorem N4{c:ay}{a b:List aV}{m:TT}(r:PT X c m)(w:jU X a t)(v:jU X b u):PS X (.If c a b g) (Oe m t u):=by
 intro l s f H D I h;refine wpAny_If (aR (r l s f H _ I h) λd n ⟨q,p,o⟩=>?_);cases d with
 |true=>exact w l n f q D p o
 |false=>exact v l n f q D p o
end
abbrev TG:=V->St->Hp->(St->Hp->Prop)->Prop
abbrev n4:=List V->St->Hp->(St->Hp->Prop)->Prop
def PG(X:Cx)(a:ay)(t:TG):Prop :=
 ∀(d:List (ac×Obj)) (s:am) (c:St) (H:Hp) (v:V) (u:ai) (Q:St->Hp->Prop),Inv X d c H s->RelV v u->t v c H Q ->
  aw (aA X.prog X.w) X.A (assign a X.env u) (λ_ s'=>∃b f,Inv X d b f s'/\Q b f) X.xe s
def uQ(X:Cx)(h:List ay)(t:n4):Prop :=
 ∀(f:List (ac×Obj)) (s:am) (b:St) (H:Hp) (c:List V) (d:List ai) (Q:St->Hp->Prop),Inv X f b H s->bx c d->t c b H Q ->
  aw (aA X.prog X.w) X.A (assignInOrder ((sM h X.env).map (·.2)) d) (λ_ i=>∃a g,Inv X f a g i/\Q a g) X.xe s
section
variable{X:Cx}{pos:Pos}
def A1(i:Nat):TG:=λv a H Q=>Q (a.set i (aa v)) H
theorem pX{i:Nat}{x:Str}(d:X.N.Nodup)(b:X.N[i]?=aa x)(a:Loc X.env.scope x)(c:X.fn x=ah\/X.env.scope.names.lookup x=aa .local:=by first|exact .inl rfl|exact .inr rfl|assumption):PG X (.Name x pos) (A1 i):=by intro j s σ H v u Q I r h;exact wpAny_assign_Name (Dh I d b a r (λg f=>⟨_,H,f,h⟩) c)
def bH:n4:=λb a H Q=>b=[]/\Q a H
def Kz(t:TG)(u:n4):n4:=λc b H Q=>∃v r,c=v::r/\t v b H λa d=>u r a d Q
theorem Dt:uQ X [] bH:=by
 intro c s σ H a b Q I r h;obtain⟨e,h⟩:=h;subst e;cases r;exact assignInOrder_nil ⟨σ,H,I,h⟩
theorem wc{e:ay}{a:List ay}{t:TG}{u:n4}(l:PG X e t)(j:uQ X a u)(i:(sM (e::a) X.env).map (·.2)=assign e X.env::(sM a X.env).map (·.2):=by rfl):uQ X (e::a) (Kz t u):=by
 intro c s σ H p w Q I r h;obtain⟨v,q,m,h⟩:=h;subst m;cases r with
 |cons r f=>rw[i];refine assignInOrder_cons (aR (l c s σ H _ _ _ I r h) λ_ d ⟨b,o,n,g⟩=>?_);exact j c d b o _ _ Q n f g
def Mh(K:ar)(n:Nat)(t:n4):TG:=λv c H Q=>∃a b,v=.ref a/\cS K H a b/\b.length=n/\t b c H Q
theorem Dw{c:List ay}{k:Nat}{t:n4}{n:Nat}(w:X.calm=ah)(h:uQ X c t)(p:(sM c X.env).length=n:=by rfl) (y:(sM c X.env).findIdx? (·.1)=ae:=by rfl):PG X (.Tuple c k pos) (Mh X.K n t):=by
 intro g s σ H v u Q I r d;obtain⟨a,xs,z,m,q,d⟩:=d;subst z;cases r;obtain⟨i,f,l,B⟩:=I.tuple m;refine assign_Tuple_tuple (I.ok.hd w) l (by simp[p,<-q,f.length]) y λx j=>?_;have A:Inv X g σ H {s with heap:=x}:=I.kept (t':=s.toks) λb o e=>j b o (cT (br e)) e;exact h g _ σ H xs _ Q A (by simpa using f) d
def Bq(b:TE)(g:TG):TS:=λD a H=>b a H λx c=>g x a c D.nx
theorem JH{a e:ay}{c:TE}{g:TG}(n:PE X e c)(m:PG X a g)(l:swapsWithSole [a] e pos.line X.env=pure aj:=by rfl)(j:swappedStores [a] e X.env=pure ae:=by rfl)(o:(sM [a] X.env).map (·.2)=[assign a X.env]:=by rfl):PS X (.Assign [a] e pos) (Bq c g):=by intro d s b H D I h;refine wpAny_Assign_stores (aR (n d s b H _ I h) λv f ⟨x,r,p,r1,i⟩=>?_) l j;rw[o];exact aR (m d f b r x v _ p r1 i) λ_ u q=>q
theorem Ej{i:Nat}{x:Str}{e:ay}{b:TE}{a:Pos}(n:X.N.Nodup)(j:X.N[i]?=aa x)(f:Loc X.env.scope x)(m:PE X e b)(g:g_ e (aa (.Name x a)) pos.line X.env=pure aj:=by rfl)(l:X.fn x=ah\/X.env.scope.names.lookup x=aa .local:=by first|exact .inl rfl|exact .inr rfl|assumption):PS X (.Assign [.Name x a] e pos) (Bq b (A1 i)):=by intro o s c H D I h;refine wpAny_Assign_Name (aR (m o s c H _ I h) λv w ⟨y,r,q,r1,d⟩=>?_) g;exact Dh q n j f r1 (λu p=>⟨_,r,p,d⟩) l
def Ii(c:TT)(i:TS):TS:=λD a H=>∃W:Nat->St->Hp->Prop,(∃m,W m a H)/\∀m a H,W m a H ->
 c a H λb g=>if b=ah then ∃N:St->Hp->Prop,(∀d h,N d h->∃f,f<m/\W f d h)/\i {D with nx:=N,ct:=N,bk:=D.nx} a g else D.nx a g
theorem Nw{c:ay}{g:List aV}{y:TT}{z:TS}(A:ww (aA X.prog X.w) X.A X.env X.xe)(S:PT X c y)(T:jU X g z):PS X (.While c g [] pos) (Ii y z):=by
 intro w s J H D I h;obtain⟨W,⟨Q,L⟩,j⟩:=h;refine wpAny_While (codeAny_whileLoop (λn P=>∃i G,Inv X w i G P/\W n i G) ?_ Q ⟨J,H,I,L⟩);rintro n O ⟨d,F,Y,K⟩;refine p0 A (aR (S w O d F _ Y (j n d F K)) λb M ⟨E,C,o⟩=>?_);cases b with
 |true=>
  obtain⟨N,B,o⟩:=o;rw[if_pos rfl];refine p0 A (aR (T w M d E _ C o) λf Z m=>?_);cases f with
  |next=>obtain⟨a,l,x,q⟩:=m;obtain⟨r,u,p⟩:=B a l q;exact⟨r,u,a,l,x,p⟩
  |cont=>obtain⟨a,l,x,q⟩:=m;obtain⟨r,u,p⟩:=B a l q;exact⟨r,u,a,l,x,p⟩
  |brk=>exact m
  |ret v=>exact m
 |false=>rw[if_neg fu];exact zW ⟨d,E,C,o⟩
end
structure It where
 go:Nat->Hp->Prop
 yld:Nat->Hp->V->Hp->Prop
 stop:Nat->Hp->Prop
def iI(X:Cx)(a:List (ac×Obj))(H:Hp)(b:ac):Prop :=
 H b=ae/\b≠X.env.locals/\b∉X.fs/\(b∈X.ex\/X.s₀.heap.objs.size<=b)/\(∀x c,X.env.cells.lookup x=aa c->c≠b)/\∀p∈X.pn++a,p.1≠b
theorem Inv.fpOk{X:Cx}{d:List (ac×Obj)}{σ:St}{H f:Hp}{s:am}{b:ac}(I:Inv X d σ H s)(a:s.heap.objs.size<=b)(h:f b=ae):iI X d f b:=by
 refine⟨h,iL (eV I.lt a),I.nofs a,.inr (c4 I.sz a),λx c e z=>?_,λp g z=>?_⟩
 .obtain⟨v,q⟩:=I.cell x c e;exact absurd (eV q.lt (by rw[z];exact a)) (d9 _)
 .exact absurd (eV (br (I.pin p g).1) (by rw[z];exact a)) (d9 _)
structure rE(P:a4)(w:aT)(K:ar)(tg:ay)(J:It)(fp:List ac)(it:ac)(tn:Nat->aF->Prop):Prop where
 mem:it∈fp
 obj:∀i h,tn i h->∀b∈fp,∃o,h.get? b=aa o/\∀v,o.data≠.cell v
 keep:∀i h h',tn i h->(∀b∈fp,∀o,h.get? b=aa o->h'.get? b=aa o)->tn i h'
 item:∀(X:Cx),X.prog=P->X.w=w->X.K=K->X.calm=ah->∀(i:Nat) (ag:List (ac×Obj)) (s:am) (σ:St) (H:Hp) (E:ai->am->Prop),Inv X ag σ H s->(∀b∈fp,iI X ag H b)->tn i s.heap->J.go i H ->
  aw (aA P w) X.A (pyNext (.ref it)) (λr s1=>∃u,r=aa u /\ aw (aA P w) X.A (zX tg (.ref it) u) (λ_ s2=>∃x H',Inv X ag σ H' s2/\RelV x u/\J.yld i H x H'/\tn (i+1) s2.heap/\∀b∈fp,H' b=ae) E s1) E s
 done:∀(X:Cx),X.prog=P->X.w=w->X.K=K->X.calm=ah->∀(i:Nat) (ag:List (ac×Obj)) (s:am) (σ:St) (H:Hp) (E:ai->am->Prop),Inv X ag σ H s->(∀b∈fp,iI X ag H b)->tn i s.heap->J.stop i H ->
  aw (aA P w) X.A (pyNext (.ref it)) (λr s1=>r=ae/\Inv X ag σ H s1) E s
 self:∀(A:aX) (i:Nat) (s:am) (Q:ai->am->Prop) (E:ai->am->Prop),tn i s.heap->Q (.ref it) s->aw (aA P w) A (mW (.ref it)) Q E s
abbrev TI:=St->Hp->(It->Hp->Prop)->Prop
def uI(X:Cx)(i:List (ac×Obj))(j:St)(l:ay)(R:It->Hp->Prop)(a:ai)(f:am):Prop :=
 ∃(g:ac) (h:List ac) (d:Nat->aF->Prop) (J:It) (c:Hp),a=.ref g/\Inv X i j c f/\rE X.prog X.w X.K l J h g d/\d 0 f.heap/\(∀b∈h,iI X i c b)/\R J c
def PI(X:Cx)(f a:ay)(d:TI):Prop :=
 ∀(c:List (ac×Obj)) (s:am) (b:St) (H:Hp) (R:It->Hp->Prop),Inv X c b H s->d b H R ->
  aw (aA X.prog X.w) X.A (aL a X.env) (λv s1=>aw (aA X.prog X.w) X.A (mW v) (uI X c b f R) X.xe s1) X.xe s
theorem uD{M:Model}{A:aX}{E:ai->am->Prop}{s:am}{c:ay}{d:ac}{u:ai}{o:Obj}{n:String}{b:Array ai}{Q:Unit->am->Prop}(f:s.heap.get? d=aa o)(j:o.cls=.type n)(i:o.data=.fields b)(g:["enumerate","zip","dict_itemiterator","dict_reverseitemiterator","odict_iterator","itertools.zip_longest","itertools.pairwise"].contains n=aj) (a:Q () s):aw M A (zX c (.ref d) u) Q E s:=by
 unfold zX;cases c <;> first
  |exact aQ a
  | (cases u <;> first
    |exact aQ a
    | (refine au (wpAny_load f ?_)
       rw[j,i];show aw M A (if(["enumerate","zip","dict_itemiterator","dict_reverseitemiterator","odict_iterator","itertools.zip_longest","itertools.pairwise"].contains n&&b[0]? == aa (dR _))=ah then _ else _) Q E s;rw[if_neg (by intro h;rw[g,Bool.false_and]at h;cases h)];exact aQ a))
def xM(K:ar)(a:ac):It :=⟨λi H=>∃b x,cb K H a b/\b[i]?=aa x,λi H x c=>c=H/\∀b,cb K H a b->b[i]?=aa x,λi H=>∃b,cb K H a b/\b.length<=i⟩
def yY(K:ar)(a:ac):It :=⟨λi H=>∃b x,cS K H a b/\b[i]?=aa x,λi H x c=>c=H/\∀b,cS K H a b->b[i]?=aa x,λi H=>∃b,cS K H a b/\b.length<=i⟩
def vz(a:Int)(n:Nat):It:=⟨λi _=>i<n,λi H x b=>b=H/\x=.int (a+i),λi _=>n<=i⟩
theorem CO{P:a4}{w:aT}{K:ar}{O:ay}(a g:ac):rE P w K O (xM K a) [g] g (λi h=>h.IsListIter g a i) where
 mem:=by simp
 obj:=λi h f b j=>by
  have e:b=g:=by simpa using j
  subst e;obtain⟨o,e,c,d⟩:=f;exact⟨o,e,λv z=>by rw[d]at z;cases z⟩
 keep:=λi h n f k=>f.at λo e=>k g (by simp) o e
 item:=by intro X C A D M i N s σ H E I m f B;subst C A D;obtain⟨xs,x,l,y⟩:=B;obtain⟨r,q,p,T⟩:=I.list l;obtain⟨u,Y,S⟩:=q.get y;obtain⟨J,G,f2,f3,f4,F⟩:=m g (by simp);refine wpAny_pyNext_list_item f p.isList (x:=u) (by simpa using Y) λn L Q=>?_;have I1:Inv X N σ H {s with heap:=n}:=I.turned (t':=s.toks) (λb o j e=>(Q.2 b j).trans e) J G f3 f4 F;obtain⟨o,e,c,d⟩:=id L;exact⟨u,rfl,uD (s:={s with heap:=n}) e c d (by decide) ⟨x,H,I1,S,⟨rfl,λys W=>by rw[I.list_inj W l];exact y⟩,L,λb j=>(m b j).1⟩⟩
 done:=by intro X C A D M i N s σ H E I m f B;subst C A D;obtain⟨xs,l,y⟩:=B;obtain⟨r,q,p,T⟩:=I.list l;obtain⟨J,G,f2,f3,f4,F⟩:=m g (by simp);have hl:=q.length;exact wpAny_pyNext_list_end (I.ok.hd M) f p.isList (by simp;lia) λn Z=>⟨rfl,I.turned (t':=s.toks) (λb o j e=>Z b o j e) J G f3 f4 F⟩
 self:=λ_ _ _ _ _ f h=>wpAny_pyIter_listiter f h
theorem Nb{P:a4}{w:aT}{K:ar}{S:ay}(a j:ac):rE P w K S (yY K a) [j] j (λi h=>h.IsTupleIter j a i) where
 mem:=by simp
 obj:=λi h f b l=>by
  have e:b=j:=by simpa using l
  subst e;obtain⟨o,e,c,d⟩:=f;exact⟨o,e,λv z=>by rw[d]at z;cases z⟩
 keep:=λi h q f k=>f.at λo e=>k j (by simp) o e
 item:=by intro X C A D N i O s L H E I n f B;subst C A D;obtain⟨Q,x,m,y⟩:=B;obtain⟨g,r,p,Y⟩:=I.tuple m;obtain⟨u,hu,W⟩:=r.get y;obtain⟨J,G,f2,f3,f4,F⟩:=n j (by simp);refine wpAny_pyNext_tuple_item f (show s.heap.IsTuple a g.toArray from p) (x:=u) (by simpa using hu) λq M T=>?_;have I1:Inv X O L H {s with heap:=q}:=I.turned (t':=s.toks) (λb o l e=>(T.2 b l).trans e) J G f3 f4 F;obtain⟨o,e,c,d⟩:=id M;exact⟨u,rfl,uD (s:={s with heap:=q}) e c d (by decide) ⟨x,H,I1,W,⟨rfl,λys Z=>by rw[I.tuple_inj Z m];exact y⟩,M,λb l=>(n b l).1⟩⟩
 done:=by intro X C A D N i O s L H E I n f B;subst C A D;obtain⟨Q,m,y⟩:=B;obtain⟨g,r,p,Y⟩:=I.tuple m;obtain⟨J,G,f2,f3,f4,F⟩:=n j (by simp);have hl:=r.length;exact wpAny_pyNext_tuple_end (I.ok.hd N) f (show s.heap.IsTuple a g.toArray from p) (by simp;lia) λq eb=>⟨rfl,I.turned (t':=s.toks) (λb o l e=>eb b o l e) J G f3 f4 F⟩
 self:=λ_ _ _ _ _ f h=>wpAny_pyIter_tupleiter f h
theorem Ju{P:a4}{w:aT}{K:ar}{G:ay}(c:ac)(f:Int)(n:Nat):rE P w K G (vz f n) [c] c (λi h=>IsRangeIter h c (f+(i:Nat)*1) ((n:Int)-(i:Nat)) 1) where
 mem:=by simp
 obj:=λi h a b d=>by
  have e:b=c:=by simpa using d
  subst e;exact⟨_,a,λv z=>by
   have F:Data.fields _=Data.cell v:=z;cases F⟩
 keep:=λi h j a k=>k c (by simp) _ a
 item:=by intro X q l r p i D s A H E I g a m;subst q l r;obtain⟨y,x,f2,f3,f4,u⟩:=g c (by simp);have W:=Walks.range (prog:=X.prog) (w:=X.w) (I.ok.hd p) c f 1 n;refine W.item i s _ _ m a λv j B L C J=>?_;obtain⟨t,rfl⟩:=L;have N:Inv X D A H {s with heap:=j,toks:=B}:=I.turned (λb o d e=>J b o (by simpa using d) e) y x f3 f4 u;refine⟨_,rfl,uD (s:={s with heap:=j,toks:=B}) (n:="range_iterator") C rfl rfl (by decide) ⟨.int (f+i),H,N,⟨t,?_⟩,⟨rfl,rfl⟩,C,λb d=>(g b d).1⟩⟩;rw[Int.mul_one]
 done:=by intro X q l r p i D s A H E I g a m;subst q l r;obtain⟨y,x,f2,f3,f4,u⟩:=g c (by simp);exact wpAny_pyNext_range_end (I.ok.hd p) a (by have:n<=i:=m;lia) λj M=>⟨rfl,I.turned (t':=s.toks) (λb o d e=>M b o d e) y x f3 f4 u⟩
 self:=λ_ _ _ _ _ a h=>wpAny_pyIter_rangeiter a h
section
variable{X:Cx}{c:ay}
theorem F6{h:List (ac×Obj)}{f:St}{H:Hp}{s:am}{R:It->Hp->Prop}{E:ai->am->Prop}{a d:Int}{t u v:Tok}{g:Nat}(I:Inv X h f H s)(p:-(2^62)<=a)(n:a<2^62)(m:-(2^62)<=d)(l:d<2^62)(q:R (vz a (d-a).toNat) H):aw (aA X.prog X.w) X.A (mW (.ref s.heap.objs.size)) (uI X h f c R) E {s with heap:=s.heap.push {cls:=.type "range",data:=.fields #[.int a t,.int d u,.int 1 v]},toks:=g}:=by
 refine wpAny_pyIter_range (IsRange.new ..) (small_one p n m l) ?_;have i:Inv X h f H {s with heap:=s.heap.push {cls:=.type "range",data:=.fields #[.int a t,.int d u,.int 1 v]},toks:=g}:=I.kept λb o e=>bf _ e;refine⟨(s.heap.push {cls:=.type "range",data:=.fields #[.int a t,.int d u,.int 1 v]}).objs.size,[(s.heap.push {cls:=.type "range",data:=.fields #[.int a t,.int d u,.int 1 v]}).objs.size],_,_,H,rfl,i.kept (t':=g) λb o e=>bf _ e,Ju _ a (d-a).toNat,?_,λb j=>?_,q⟩
 .have w:a+((0:Nat):Int)*1=a:=by simp
  have r:(((d-a).toNat:Nat):Int)-((0:Nat):Int)=Builtin.Range.rangeSize a d 1:=by rw[rangeSize_one];split <;> lia
  show IsRangeIter _ _ (a+((0:Nat):Int)*1) ((((d-a).toNat:Nat):Int)-((0:Nat):Int)) 1;rw[w,r];exact cj _ rfl
 .have e:b=(s.heap.push {cls:=.type "range",data:=.fields #[.int a t,.int d u,.int 1 v]}).objs.size:=by simpa using j
  subst e;exact i.fpOk (ba _) (i.hok.fresh (ba _))
def Gr(d:TA):TI:=λa H R=>d a H λb f=>∃j:Int,b=[.int j]/\-(2^62)<=j/\j<2^62/\R (vz 0 j.toNat) f
theorem Ov{a:ay}{f:TA}{p b:Pos}(o:Gl X "range")(n:X.mg "range"=ae)(u:PA X [a] f)(m:aP [a] X.env=[(aj,aL a X.env)]:=by rfl):PI X c (.Call (.Name "range" p) [a] [] b) (Gr f):=by
 intro v s g H R I h;refine Call_ (sr I o n boot_range (PyProof.Rows.callWith_type1 (aR (u b v s g H _ I h) λy z ⟨x,A,w,r1,d⟩=>?_) m rfl));obtain⟨j,e,d,l,q⟩:=d;subst e;cases r1 with
 |cons r i=>
  cases i;obtain⟨t,rfl⟩:=r;exact call_range_1 (F6 w ∅ ∅ d l (by simpa using q))
def MQ(j:TI)(g:TG)(l:TS):TS:=λD a H=>j a H λJ o=>∃W:Nat->Nat->St->Hp->Prop,(∃m,W 0 m a o)/\∀i m a H,W i m a H ->
 (J.stop i H/\D.nx a H)\/(J.go i H/\∃N:St->Hp->Prop,(∀b d,N b d->∃h,h<m/\W (i+1) h b d)/\∀x d,J.yld i H x d->g x a d λf n=>l {D with nx:=N,ct:=N,bk:=D.nx} f n)
def sk(a:List ac)(h:aF):List (ac×Obj):=a.filterMap λb=>(h.get? b).map λo=>(b,o)
theorem r_{a:List ac}{h:aF}{b:ac}{o:Obj}(d:b∈a)(e:h.get? b=aa o):(b,o)∈sk a h:=List.mem_filterMap.mpr ⟨b,d,by rw[e];rfl⟩
theorem JM{a:List ac}{h:aF}{p:ac×Obj}(d:p∈sk a h):p.1∈a/\h.get? p.1=aa p.2:=by
 obtain⟨b,f,e⟩:=List.mem_filterMap.mp d;cases q:h.get? b with
 |none=>rw[q]at e;cases e
 |some o=>rw[q]at e;have g:(b,o)=p:=eD e;subst g;exact⟨f,q⟩
theorem Inv.pinned{f:List (ac×Obj)}{g:St}{H:Hp}{s:am}{a:List ac}(I:Inv X f g H s)(m:∀b∈a,iI X f H b)(l:∀b∈a,∃o,s.heap.get? b=aa o/\∀v,o.data≠.cell v):Inv X (f++sk a s.heap) g H s :=
 I.pins_of λp j=>(lO.mp j).elim (λz=>I.pin p (jY _ z)) λz=>by
  obtain⟨h,e⟩:=JM z;obtain⟨q,n,f2,_⟩:=m p.1 h;obtain⟨o,i,d⟩:=l p.1 h;rw[e]at i;cases i;exact⟨e,q,n,f2,d⟩
theorem Inv.unpinned{b d:List (ac×Obj)}{a:St}{H:Hp}{s:am}(I:Inv X (b++d) a H s):Inv X b a H s:=I.pins_of λp f=>I.pin p (jY _ (List.mem_append_left _ f))
theorem CF{q:ay}{E:List aV}{wi:TI}{g:TG}{tb:TS}{pos:Pos}(L:ww (aA X.prog X.w) X.A X.env X.xe)(hc:X.calm=ah)(hi:PI X c q wi)(hg:PG X c g)(w:jU X E tb)(hs:∀x,mX q X.env x=pure x:=by intro _;rfl):PS X (.For c q E [] pos) (MQ wi g tb):=by
 intro F s σ H D I h;refine wpAny_For (aR (hi F s σ H _ I h) λv s1 h1=>aR h1 λitv s2 h2=>?_) hs;obtain⟨it,O,tn,J,H2,e,I2,T,S,f2,W,⟨m0,w0⟩,G⟩:=h2;subst e;have p:∀{B:Hp},(∀b∈O,B b=ae)->∀b∈O,iI X F B b:=λhn b w=>⟨hn b w,(f2 b w).2⟩
 refine codeAny_forLoop_any (λn s'=>∃i l B,Inv X F l B s'/\tn i s'.heap/\(∀b∈O,B b=ae)/\W i n l B) ?_ m0 ⟨0,σ,H2,I2,S,λb w=>(f2 b w).1,w0⟩;rintro n s3 ⟨i,j,P,I3,tI,M,w3⟩;rcases G i n j P w3 with⟨stop,qn⟩|⟨go,N,hN,step⟩
 .refine p0 L (aR (T.done X rfl rfl rfl hc i F s3 j P X.xe I3 (p M) tI stop) λr s4 ⟨hr,I4⟩=>?_);subst hr;exact zW ⟨j,P,I4,qn⟩
 .refine p0 L (aR (T.item X rfl rfl rfl hc i F s3 j P X.xe I3 (p M) tI go) λr s4 ⟨u,hr,h4⟩=>?_);subst hr;refine p0 L (aR h4 λ_ s5 ⟨x,H5,I5,r5,y5,Z,fr5⟩=>?_);have I5':=I5.pinned (p fr5) (T.obj _ _ Z);refine p0 L (aR (hg _ s5 j H5 x u _ I5' r5 (step x H5 y5)) λ_ s6 ⟨Q,H6,I6,q6⟩=>?_);refine p0 L (aR (w _ s6 Q H6 _ I6 q6) λf Y C=>?_);have y:∀{a:St}{A:Hp},Inv X (F++sk O s5.heap) a A Y->N a A->∃m,m<n/\∃i l B,Inv X F l B Y/\tn i Y.heap/\(∀b∈O,B b=ae)/\W i m l B:=λ{a A} z K=>by obtain⟨m',hm,w7⟩:=hN a A K;refine⟨m',hm,i+1,a,A,z.unpinned,T.keep _ _ _ Z λb w o e=>(z.pin (b,o) (jY _ (jY _ (r_ w e)))).1,λb w=>?_,w7⟩;obtain⟨o,e,d⟩:=T.obj _ _ Z b w;exact(z.pin (b,o) (jY _ (jY _ (r_ w e)))).2.1
  cases f with
  |next=>obtain⟨a,A,z,K⟩:=C;exact y z K
  |cont=>obtain⟨a,A,z,K⟩:=C;exact y z K
  |brk=>obtain⟨a,A,z,C⟩:=C;exact⟨a,A,z.unpinned,C⟩
  |ret v=>obtain⟨x7,a,A,z,r7,C⟩:=C;exact⟨x7,a,A,z.unpinned,r7,C⟩
end
abbrev R2:=V->V->Hp->VK->Prop
def b8(X:Cx)(f:ai->ai->Sem ai)(r:R2):Prop :=
 ∀(b:List (ac×Obj)) (s:am) (a:St) (H:Hp) (x y:V) (v u:ai) (Q:VK),Inv X b a H s->RelV x v->RelV y u->r x y H Q ->
  aw (aA X.prog X.w) X.A (f v u) (EP X b a Q) X.xe s
def wj(X:Cx)(f:ai->Sem ai)(r:V->Hp->VK->Prop):Prop :=
 ∀(b:List (ac×Obj)) (s:am) (a:St) (H:Hp) (x:V) (v:ai) (Q:VK),Inv X b a H s->RelV x v->r x H Q ->
  aw (aA X.prog X.w) X.A (f v) (EP X b a Q) X.xe s
def ff(X:Cx)(f:ai)(r:List V->Hp->VK->Prop):Prop :=
 ∀(d:List (ac×Obj)) (s:am) (a:St) (H:Hp) (b:List V) (c:List ai) (Q:VK),Inv X d a H s->bx b c->r b H Q ->
  aw (aA X.prog X.w) X.A (call f c) (EP X d a Q) X.xe s
def uN(r:R2)(c b:TE):TE:=λa H Q=>c a H λx f=>b a f λy d=>r x y d Q
def MB(r:V->Hp->VK->Prop)(b:TE):TE:=λa H Q=>b a H λx c=>r x c Q
def rI(C:Int->Int->Prop)(g:Int->Int->V):R2:=λx y H Q=>∃i j,x=.int i/\y=.int j/\C i j/\Q (g i j) H
def kh(g:Int->Int->V):R2:=λx y H Q=>∃i j,x=.int i/\y=.int j/\Q (g i j) H
def rU(g:Int->V):V->Hp->VK->Prop:=λx H Q=>∃i,x=.int i/\Q (g i) H
section
variable{X:Cx}{a b c:ay}{d l m:TE}{pos:Pos}
theorem zw(D:PE X a d)(C:PE X b l){p:List (ac×Obj)}{s:am}{g:St}{H:Hp}{R:V->V->Hp->Prop}(I:Inv X p g H s)(h:d g H λx q=>l g q λy i=>R x y i) {Q:ai->am->Prop}{f:ai->ai->Sem ai}(B:∀v u o x y i,Inv X p g i o->RelV x v->RelV y u->R x y i->aw (aA X.prog X.w) X.A (f v u) Q X.xe o):aw (aA X.prog X.w) X.A (aL a X.env) (λv n=>aw (aA X.prog X.w) X.A (aL b X.env) (λu j=>aw (aA X.prog X.w) X.A (f v u) Q X.xe j) X.xe n) X.xe s:=by refine aR (D p s g H _ I h) λv r ⟨x,q,F,r1,A⟩=>?_;refine aR (C p r g q _ F A) λu o ⟨y,i,E,w,z⟩=>?_;exact B v u o x y i E r1 w z
theorem FA{f:Operator}{r:R2}(o:b8 X (i_ f) r)(w:PE X a d)(p:PE X b l):PE X (.BinOp a f b pos) (uN r d l):=by intro z s g H Q I h;exact wpAny_BinOp (zw w p I h λv u i x y B A n j q=>o z i g B x y v u Q A n j q)
theorem MU{g:UnaryOp}{r:V->Hp->VK->Prop}(o:wj X (unaryOp g) r)(p:PE X a d):PE X (.UnaryOp g a pos) (MB r d):=by intro i s f H Q I h;exact UnaryOp_ (aR (p i s f H _ I h) λv j ⟨x,u,q,r1,n⟩=>o i j f u x v Q q r1 n)
theorem yZ{f:ai->ai->Sem ai}{C:Int->Int->Prop}{g:Int->Int->Int}(n:∀(i j:Int) (t u:Tok) (s:am) (Q:ai->am->Prop) (E:ai->am->Prop),C i j->Q (.int (g i j) s.toks) {s with toks:=s.toks+1}->aw (aA X.prog X.w) X.A (f (.int i t) (.int j u)) Q E s):b8 X f (rI C λi j=>.int (g i j)):=by intro A s z H x y v u Q I r p h;obtain⟨i,j,rfl,rfl,w,q⟩:=h;obtain⟨t,rfl⟩:=r;obtain⟨o,rfl⟩:=p;exact n i j t o s _ _ w ⟨.int (g i j),H,I.tok _,⟨_,rfl⟩,q⟩
theorem CI{f:ai->ai->Sem ai}{g:Int->Int->Int}(n:∀(i j:Int) (t u:Tok) (s:am) (Q:ai->am->Prop) (E:ai->am->Prop),Q (.int (g i j) s.toks) {s with toks:=s.toks+1}->aw (aA X.prog X.w) X.A (f (.int i t) (.int j u)) Q E s):b8 X f (kh λi j=>.int (g i j)):=by intro z s w H x y v u Q I r p h;obtain⟨i,j,rfl,rfl,q⟩:=h;obtain⟨t,rfl⟩:=r;obtain⟨o,rfl⟩:=p;exact n i j t o s _ _ ⟨.int (g i j),H,I.tok _,⟨_,rfl⟩,q⟩
theorem zV{f:ai->ai->Sem ai}{g:Int->Int->Bool}(n:∀(i j:Int) (t u:Tok) (s:am) (Q:ai->am->Prop) (E:ai->am->Prop),Q (.bool (g i j)) s->aw (aA X.prog X.w) X.A (f (.int i t) (.int j u)) Q E s):b8 X f (kh λi j=>.bl (g i j)):=by intro z s w H x y v u Q I r p h;obtain⟨i,j,rfl,rfl,q⟩:=h;obtain⟨t,rfl⟩:=r;obtain⟨o,rfl⟩:=p;exact n i j t o s _ _ ⟨.bl (g i j),H,I,rfl,q⟩
def B5(i j:Int):Prop:=0<=j/\j<=1000000/\i.natAbs<2^64
def yU(i j:Int):Prop:=(-(2^64)<i/\i<2^64)\/(-(2^64)<j/\j<2^64)
theorem yU.ok{i j:Int}(h:yU i j):IntMulOk i j:=by
 rcases h with⟨h1,h2⟩|⟨h1,h2⟩
 .exact .of_left (intBits_le_64 h1 h2)
 .exact .of_right (intBits_le_64 h1 h2)
theorem Pm:b8 X (i_ .Add) (kh λi j=>.int (i+j)):=CI λ_ _ _ _ _ _ _ q=>add_int q
theorem nA:b8 X (i_ .Sub) (kh λi j=>.int (i-j)):=CI λ_ _ _ _ _ _ _ q=>sub_int q
theorem O_:b8 X (i_ .Mult) (rI yU λi j=>.int (i*j)):=yZ λ_ _ _ _ _ _ _ f q=>mul_int q f.ok
theorem qZ:b8 X (i_ .Mod) (rI (λ_ j=>0<j) λi j=>.int (i % j)):=yZ λi j _ _ _ _ _ f q=>by have g:(0:Int)<j:=f;exact mod_int' ∅ (by rw[Int.fmod_eq_emod_of_nonneg i ∅];exact q)
theorem MW:b8 X (i_ .Pow) (rI B5 λi j=>.int (i^j.toNat)):=yZ λ_ _ _ _ _ _ _ f q=>pow_int_small f.1 f.2.1 f.2.2 q
theorem Ga{f:ai->Sem ai}{g:Int->Int}(j:∀(i:Int) (t:Tok) (s:am) (Q:ai->am->Prop) (E:ai->am->Prop),Q (.int (g i) s.toks) {s with toks:=s.toks+1}->aw (aA X.prog X.w) X.A (f (.int i t)) Q E s):wj X f (rU λi=>.int (g i)):=by intro p s o H x v Q I n h;obtain⟨i,rfl,q⟩:=h;obtain⟨t,rfl⟩:=n;exact j i t s _ _ ⟨.int (g i),H,I.tok _,⟨_,rfl⟩,q⟩
theorem BZ:wj X (unaryOp .USub) (rU λi=>.int (-i)):=Ga λ_ _ _ _ _ q=>neg_int q
end
def nY:V->V->Bool
 |.non,.non=>ah|.non,.int _=>ah|.int _,.non=>ah|.non,.bl _=>ah|.bl _,.non=>ah|.non,.str _=>ah|.str _,.non=>ah
 |.int _,.int _=>ah|.bl _,.bl _=>ah|.str _,.str _=>ah|.byt _,.byt _=>ah
 |.int _,.str _=>ah|.str _,.int _=>ah|.bl _,.str _=>ah|.str _,.bl _=>ah
 |_,_=>aj
def C3:R2:=λx y H Q=>nY x y=ah/\Q (.bl (decide (x=y))) H
def Cc:R2:=λx y H Q=>nY x y=ah/\Q (.bl (!decide (x=y))) H
theorem CM{i j:Int}:decide (V.int i=V.int j)=(i == j):=by rw[lR];simp
theorem Ck{i j:Bool}:decide (V.bl i=V.bl j)=(i == j):=by rw[lR];simp
theorem BC{i j:Str}:decide (V.str i=V.str j)=(i == j):=by rw[lR];simp
theorem Ev{i j:Array UInt8}:decide (V.byt i=V.byt j)=(i.toList == j.toList):=by
 rw[lR];cases i;cases j;simp
section
variable{X:Cx}{a b c:ay}{l g o:TE}{m:Pos}
theorem cX{h:List (ac×Obj)}{d:St}{H:Hp}{s:am}{Q:VK}{k f:Bool}(I:Inv X h d H s)(q:Q (.bl k) H)(e:k=f):EP X h d Q (.bool f) s:=by subst e;exact⟨.bl k,H,I,rfl,q⟩
theorem Pi:b8 X (eh .Eq) C3:=by
 intro w s r H x y v u Q I p d h;obtain⟨n,q⟩:=h;cases x with
 |non=>
  cases p;cases y with
  |non=>cases d;exact PySem.EqNone.eq_none_none (cX I q (by simp))
  |bl j=>cases d;exact PySem.EqNone.eq_none_bool (cX I q (by simp))
  |int j=>obtain⟨f,rfl⟩:=d;exact PySem.EqNone.eq_none_int (cX I q (by simp))
  |str j=>obtain⟨f,rfl⟩:=d;exact PySem.EqNone.eq_none_str (cX I q (by simp))
  |_=>exact absurd (show aj=ah from n) fu
 |bl i=>
  cases p;cases y with
  |non=>cases d;exact PySem.EqNone.eq_bool_none (cX I q (by simp))
  |bl j=>cases d;exact eq_bool (cX I q Ck)
  |str j=>obtain⟨f,rfl⟩:=d;exact PySem.EqMixed.eq_bool_str (cX I q (by simp))
  |_=>exact absurd (show aj=ah from n) fu
 |int i=>
  obtain⟨t,rfl⟩:=p;cases y with
  |non=>cases d;exact PySem.EqNone.eq_int_none (cX I q (by simp))
  |int j=>obtain⟨f,rfl⟩:=d;exact eq_int (cX I q CM)
  |str j=>obtain⟨f,rfl⟩:=d;exact PySem.EqMixed.eq_int_str (cX I q (by simp))
  |_=>exact absurd (show aj=ah from n) fu
 |str i=>
  obtain⟨t,rfl⟩:=p;cases y with
  |non=>cases d;exact PySem.EqNone.eq_str_none (cX I q (by simp))
  |bl j=>cases d;exact PySem.EqMixed.eq_str_bool (cX I q (by simp))
  |int j=>obtain⟨f,rfl⟩:=d;exact PySem.EqMixed.eq_str_int (cX I q (by simp))
  |str j=>obtain⟨f,rfl⟩:=d;exact eq_str (cX I q BC)
  |_=>exact absurd (show aj=ah from n) fu
 |byt i=>
  obtain⟨t,rfl⟩:=p;cases y with
  |byt j=>obtain⟨f,rfl⟩:=d;exact PySem.W.eq_bytes (cX I q Ev)
  |_=>exact absurd (show aj=ah from n) fu
 |_=>cases y <;> exact absurd (show aj=ah from n) fu
theorem Px:b8 X (eh .NotEq) Cc:=by
 intro w s r H x y v u Q I p d h;obtain⟨n,q⟩:=h;cases x with
 |non=>
  cases p;cases y with
  |non=>cases d;exact PySem.EqNone.ne_none_none (cX I q (by simp))
  |bl j=>cases d;exact PySem.EqNone.ne_none_bool (cX I q (by simp))
  |int j=>obtain⟨f,rfl⟩:=d;exact PySem.EqNone.ne_none_int (cX I q (by simp))
  |str j=>obtain⟨f,rfl⟩:=d;exact PySem.EqNone.ne_none_str (cX I q (by simp))
  |_=>exact absurd (show aj=ah from n) fu
 |bl i=>
  cases p;cases y with
  |non=>cases d;exact PySem.EqNone.ne_bool_none (cX I q (by simp))
  |bl j=>cases d;exact ne_bool (cX I q (congrArg not Ck))
  |str j=>obtain⟨f,rfl⟩:=d;exact PySem.EqMixed.ne_bool_str (cX I q (by simp))
  |_=>exact absurd (show aj=ah from n) fu
 |int i=>
  obtain⟨t,rfl⟩:=p;cases y with
  |non=>cases d;exact PySem.EqNone.ne_int_none (cX I q (by simp))
  |int j=>obtain⟨f,rfl⟩:=d;exact ne_int (cX I q (congrArg not CM))
  |str j=>obtain⟨f,rfl⟩:=d;exact PySem.EqMixed.ne_int_str (cX I q (by simp))
  |_=>exact absurd (show aj=ah from n) fu
 |str i=>
  obtain⟨t,rfl⟩:=p;cases y with
  |non=>cases d;exact PySem.EqNone.ne_str_none (cX I q (by simp))
  |bl j=>cases d;exact PySem.EqMixed.ne_str_bool (cX I q (by simp))
  |int j=>obtain⟨f,rfl⟩:=d;exact PySem.EqMixed.ne_str_int (cX I q (by simp))
  |str j=>obtain⟨f,rfl⟩:=d;exact ne_str (cX I q (congrArg not BC))
  |_=>exact absurd (show aj=ah from n) fu
 |byt i=>
  obtain⟨t,rfl⟩:=p;cases y with
  |byt j=>obtain⟨f,rfl⟩:=d;exact PySem.W.ne_bytes (cX I q (congrArg not Ev))
  |_=>exact absurd (show aj=ah from n) fu
 |_=>cases y <;> exact absurd (show aj=ah from n) fu
theorem zo:b8 X (eh .Lt) (kh λi j=>.bl (decide (i<j))):=zV λ_ _ _ _ _ _ _ q=>lt_int q
theorem oP:b8 X (eh .LtE) (kh λi j=>.bl (decide (i<=j))):=zV λ_ _ _ _ _ _ _ q=>le_int q
theorem nM:b8 X (eh .Gt) (kh λi j=>.bl (decide (j<i))):=zV λ_ _ _ _ _ _ _ q=>gt_int q
theorem Pd:b8 X (eh .In) (λx y H Q=>∃i j,x=.str i/\y=.str j/\Q (.bl (!(EH j i 0 j.length 1).isEmpty)) H):=by intro r s n H x y v u Q I f d h;obtain⟨i,j,rfl,rfl,q⟩:=h;obtain⟨t,rfl⟩:=f;obtain⟨p,rfl⟩:=d;exact in_str (cX I q rfl)
theorem FE:b8 X (eh .Is) (λx y H Q=>y=.non/\Q (.bl (decide (x=.non))) H):=by
 intro j s i H x y v u Q I d f h;obtain⟨rfl,q⟩:=h;cases f;refine is_none_gen (cX I q ?_);cases x <;> first
  | (cases d;rfl)
  | (obtain⟨t,rfl⟩:=d;rfl)
theorem b8.or{f:ai->ai->Sem ai}{r n:R2}(h:b8 X f r)(w:b8 X f n):b8 X f (λx y H Q=>r x y H Q\/n x y H Q):=by
 intro p s d H x y v u Q I j i q;rcases q with q|q
 .exact h p s d H x y v u Q I j i q
 .exact w p s d H x y v u Q I j i q
theorem Mz{d:CmpOp}{r:R2}(p:b8 X (eh d) r)(A:PE X a l)(z:PE X b g)(w:oh d b=aj):PE X (.Compare a [d] [b] m) (uN r l g):=by intro B s f H Q I h;exact wpAny_Compare1 (zw A z I h λv u i x y D C n j q=>p B i f D x y v u Q C n j q) w
def Cq(t:TE):TT:=λd H Q=>t d H λx f=>∃k,x=.bl k/\Q k f
theorem IY{f:CmpOp}{r:R2}(C:b8 X (eh f) r)(F:PE X a l)(E:PE X b g)(D:oh f b=aj):PT X (.Compare a [f] [b] m) (Cq (uN r l g)):=by
 intro i s d H Q I h;refine wpAny_isTrue_Compare1 (aR (F i s d H _ I h) λv n ⟨x,N,K,r1,B⟩=>aR (E i n d N _ K B) λu j ⟨y,M,J,q,A⟩=>aR (C i j d M x y v u _ J r1 q A) λc O ⟨z,L,G,p,k,e,w⟩=>?_) D;subst e;cases p;exact lQ ⟨L,G,w⟩
def xV(r i:R2)(l g o:TE):TE:=λd H Q=>l d H λx p=>g d p λy n=>r x y n λz f=>∃k,z=.bl k /\
 (if k=ah then o d f λh j=>i y h j Q else Q (.bl aj) f)
theorem Ly{n f:CmpOp}{r q:R2}(S:b8 X (eh n) r)(P:b8 X (eh f) q)(Z:PE X a l)(Y:PE X b g)(W:PE X c o)(T:lastMarks [n,f] [b,c]=aj:=by with_unfolding_all rfl):PE X (.Compare a [n,f] [b,c] m) (xV r q l g o):=by
 intro j s i H Q I h;refine Compare_chain (aR (Z j s i H _ I h) λv J ⟨x,H1,I1,r1,O⟩=>chain_link (aR (Y j J i H1 _ I1 O) λu G ⟨y,H2,I2,p,N⟩=>aR (S j G i H2 x y v u _ I2 r1 p N) λd F ⟨z,B,A,L,k,e,w⟩=>?_)) T;subst e;cases L;refine lQ ?_;cases k with
 |false=>exact ite_ff ⟨.bl aj,B,A,rfl,w⟩
 |true=>exact ite_tt (chain_last (aR (W j F i B _ A w) λD E ⟨C,H4,I4,K,M⟩=>P j E i H4 y C u D Q I4 p K M))
theorem L3{n f:CmpOp}{r q:R2}(Y:b8 X (eh n) r)(W:b8 X (eh f) q)(ha:PE X a l)(hb:PE X b g)(hc:PE X c o)(Z:lastMarks [n,f] [b,c]=aj:=by with_unfolding_all rfl):PT X (.Compare a [n,f] [b,c] m) (Cq (xV r q l g o)):=by
 intro j s i H Q I h;refine isTrue_chain (aR (ha j s i H _ I h) λv J ⟨x,H1,I1,r1,S⟩=>test_link (aR (hb j J i H1 _ I1 S) λu G ⟨y,H2,I2,p,P⟩=>aR (Y j G i H2 x y v u _ I2 r1 p P) λd F ⟨z,B,A,M,k,e,w⟩=>?_)) Z;subst e;cases M;refine lQ ?_;cases k with
 |false=>
  obtain⟨k',e',T⟩:=w;cases e';exact ite_ff ⟨B,A,T⟩
 |true=>
  refine ite_tt (test_last (aR (hc j F i B _ A w) λD E ⟨C,H4,I4,L,O⟩=>aR (W j E i H4 y C u D _ I4 p L O) λd' s5 ⟨z2,H5,I5,K,k2,e2,N⟩=>?_));subst e2;cases K;exact lQ ⟨H5,I5,N⟩
theorem u_:(a6:Nat)<2^63:=by rw[oi];decide
theorem Ix:b8 X (i_ .Add) (λx y H Q=>∃i j,x=.str i/\y=.str j/\i.length+j.length<=a6/\Q (.str (i++j)) H):=by intro z s r H x y v u Q I n f h;obtain⟨i,j,rfl,rfl,p,q⟩:=h;obtain⟨t,rfl⟩:=n;obtain⟨d,rfl⟩:=f;exact add_str (λd w=>⟨.str (i++j),H,I.tok _,⟨_,rfl⟩,q⟩) p
theorem vals1{x:V}{d:List ai}(r:bx [x] d):∃u,d=[u]/\RelV x u:=by
 cases r with
 |cons r1 f=>cases f;exact⟨_,rfl,r1⟩
theorem vals2{x y:V}{f:List ai}(r:bx [x,y] f):∃u d,f=[u,d]/\RelV x u/\RelV y d:=by
 cases r with
 |cons r1 j=>
  cases j with
  |cons i h=>cases h;exact⟨_,_,rfl,r1,i⟩
theorem KW(n:X.calm=ah):ff X (.builtin "max") (λf H Q=>∃i j,f=[.int i,.int j]/\Q (.int (if j > i then j else i)) H):=by
 intro A s p H f w Q I r h;obtain⟨i,j,rfl,q⟩:=h;obtain⟨u,v,rfl,⟨t,rfl⟩,⟨y,rfl⟩⟩:=vals2 r;refine max_two_ints (I.ok.hd n) λz x k=>⟨_,H,I.kept k,?_,q⟩
 by_cases d:j > i
 .rw[if_pos d,if_pos d];exact⟨_,rfl⟩
 .rw[if_neg d,if_neg d];exact⟨_,rfl⟩
def BA(K:ar)(x:V)(H:Hp)(n:Nat):Prop :=
 match x with
 |.str y=>y.length<=a6/\n=y.length
 |.byt y=>y.size<=a6/\n=y.size
 |.ref p=>(∃d,cb K H p d/\n=d.length)\/∃d,cS K H p d/\n=d.length
 |_=>False
theorem dJ:ff X (.builtin "len") (λd H Q=>∃x n,d=[x]/\BA X.K x H n/\Q (.int n) H):=by
 intro G s C H d D Q I r h;obtain⟨x,n,rfl,e,q⟩:=h;obtain⟨u,rfl,i⟩:=vals1 r;have F:=u_;have E:a6=16777216:=oi;cases x with
 |str y=>obtain⟨t,rfl⟩:=i;obtain⟨B,f⟩:y.length<=a6/\n=y.length:=e;subst f;exact len_str ∅ ⟨.int _,H,I.tok _,⟨_,rfl⟩,q⟩
 |byt y=>obtain⟨t,rfl⟩:=i;obtain⟨B,f⟩:y.size<=a6/\n=y.size:=e;subst f;exact PySem.W.len_bytes ∅ ⟨.int _,H,I.tok _,⟨_,rfl⟩,q⟩
 |ref p=>
  cases i;have f:(∃d,cb X.K H p d/\n=d.length)\/∃d,cS X.K H p d/\n=d.length:=e;rcases f with⟨d,hx,f⟩|⟨d,hx,f⟩
  .subst f;obtain⟨w,j,v,A⟩:=I.list hx;have z:=j.length;exact Calls.call_len_list v.isList (by simp only[cD];lia) ⟨.int d.length,H,I.tok _,⟨_,by simp only[cD];rw[z]⟩,q⟩
  .subst f;obtain⟨w,j,v,A⟩:=I.tuple hx;have z:=j.length;exact len_tuple v (by simp only[cD];lia) ⟨.int d.length,H,I.tok _,⟨_,by simp only[cD];rw[z]⟩,q⟩
 |_=>exact(show False from e).elim
end
structure pT(h:aF)(x dx C:ac)(mA:Str->Option ai):Prop where
 obj:h.get? x=aa (og C dx)
 ns:h.Ns1 dx mA
 ne:dx≠x
theorem Mj{h:aF}{g:ac}{d:Str->Option ai}(n:h.Ns1 g d):∃c,h.get? g=aa c/\∀b,zY b c=aa (d b):=by
 obtain⟨o,f,u,l,r,p,_,m⟩:=n;refine⟨o,l,λb=>?_⟩;have e:=m b;unfold nsFind findBy at e;rw[<-Array.find?_toList]at e;unfold zY;rw[r];dsimp only;split
 .rename_i y q;rw[q]at e;exact congrArg aa e
 .rename_i q;rw[q]at e;have a:f.toList.any (·.refKey)=aj:=by rw[EI];intro y j;obtain⟨z,t,i⟩:=p y (Array.mem_toList_iff.mp j);simp[DictEntry.refKey,i]
  have s:¬f.toList.any (·.refKey)=ah:=by rw[a];exact fu
  rw[if_neg s];exact congrArg aa e
theorem pT.look{h:aF}{x d C:ac}{c:Str->Option ai}(I:pT h x d C c):∃b,PySem.W.InstAt h x (og C d) C (aa b)/\∀a,zY a b=aa (c a) :=
 let ⟨b,ho,hl⟩:=Mj I.ns
 ⟨b,⟨I.obj,rfl,rfl,ho⟩,hl⟩
section
variable{i:a4}{w:aT}{A:aX}{E:ai->am->Prop}{s:am}{K:ar}{x l C f:ac}{j:Str->Option ai}{c:Str}{v:ai}
theorem Ht{a:Bool}{Q:ai->am->Prop}(X:K.In s.heap)(I:pT s.heap x l C j)(n:zZ K C c=ah)(m:EJ K C=ah)(o:g9 K (.ref C) c=aa ae) (d:j c=aa v) (b:PySem.W.handedIn v=ah) (h:Q v {s with toks:=s.toks+1}):aw (aA i w) A (getAttr (.ref x) c a) Q E s:=by obtain⟨p,J,g⟩:=I.look;exact PySem.W.get_value X J (EK n).1 (PySem.W.findObj_own m o rfl (by rw[g,d])) b h
theorem IR{b:Sem Bool}{Q:ai×List ai->am->Prop}(X:K.In s.heap)(I:pT s.heap x l C j)(a:zZ K C c=ah)(o:g9 K (.ref C) c=aa (aa (.ref f))) (m:wx K (.ref f)=ah) (g:j c=ae) (h:Q (.ref f,[.ref x]) s):aw (aA i w) A (getMethod (.ref x) c b) Q E s:=by obtain⟨d,J,n⟩:=I.look;exact PySem.W.method_fn X J (EK a).1 (EK a).2 o (beq_iff_eq.mp m) (by show(zY c d).map (·.isSome)=aa aj;rw[n,g];rfl) h
theorem Li{q:List Str}{Q:Unit->am->Prop}(X:K.In s.heap)(I:pT s.heap x l C j)(G:g9 K (.ref C) "__setattr__"=aa (aa (.builtin "object.__setattr__"))) (H:PySem.W.plainOver K C=ah) (D:PySem.W.takerIn K C c=aa ae) (L:EJ K C=ah)(B:EE j q) (F:q.length<=a6)(h:∀m,pT m x l C (λy=>if y=c then aa v else j y)->jX l s.heap m->Q () {s with heap:=m,toks:=s.toks+2}):aw (aA i w) A (setAttr (.ref x) c v) Q E s:=by obtain⟨P,J,T⟩:=I.look;refine PySem.W.set_plain X J G (PySem.W.osa_open (s:={s with toks:=s.toks+1}) (r:=ae) X J H D λb=>?_);obtain⟨W,M,u⟩:=PySem.W.any_some L;have z:s.heap.get? x=aa ⟨.ref C,aa l,.plain,#[]⟩:=I.obj;refine au (aQ (au (au (wpAny_loadPart z (au (PySem.W.Looks.here (s:={s with toks:=s.toks+1}) (PySem.W.looks_clsIn X M) ?_))))));rw[u];refine aQ (a:=aa l) (au (aQ (au ?_)));refine wpAny_nsSet1 (s:={s with toks:=s.toks+1}) I.ns λm g d=>?_;obtain⟨S,N,O,n,o,p⟩:=g.count (PySem.Within.cons c v B);refine au (wpAny_lookBehind n (by rw[o];exact pastItsLine_dict (c4 p (by rw[eX];lia))) ?_);exact aQ (h _ ⟨(d.2 _ (d_ I.ne)).trans I.obj,g,I.ne⟩ d)
theorem NQ{R:Result->am->Prop}{b:List ai}{m:List (Str×ai)}(X:K.In s.heap)(n:PySem.W.makesIn K C=ah)(o:g9 K (.ref C) "__init__"=aa (aa (.ref f))) (p:PySem.W.typeIn K (.ref f)=aa (.type "function"))(h:kG (aA i w) (A.«under» (.builtin "type.__call__" ⟨.ref C::b,m⟩)) (.call (.ref f) ⟨.ref (s.heap.objs.size+1)::b,m⟩) (PySem.W.InitBack (s.heap.objs.size+1) R) {s with heap:=(s.heap.push mY).push (og C s.heap.objs.size)}):kG (aA i w) A (.call (.ref C) ⟨b,m⟩) R s:=by obtain⟨r,g,d,t,q⟩:=s;exact PySem.W.make_core (PySem.W.makes_of X n) (PySem.W.looks_findIn X o) (λa=>PySem.W.bind_fn X a p) (.inl rfl) h
end
def eB(f:Str)(v:V):List (Str×V)->List (Str×V)
 |[]=>[(f,v)]
 | (g,x)::r=>if g=f then(g,v)::r else(g,x)::eB f v r
theorem AK(f g:Str)(v:V):∀fs:List (Str×V),(eB f v fs).lookup g=if g=f then aa v else fs.lookup g
 |[]=>by
  show iM g [(f,v)]=_;by_cases h:g=f
  .have a:(g == f)=ah:=beq_iff_eq.mpr h;simp only[iM,a,if_pos h]
  .have a:(g == f)=aj:=beq_eq_false_iff_ne.mpr h;simp only[iM,a,if_neg h]
 | (k,x)::r=>by
  have c:=AK f g v r;rw[show eB f v ((k,x)::r)=(if k=f then(k,v)::r else(k,x)::eB f v r)from rfl];by_cases b:k=f
  .rw[if_pos b];by_cases h:g=k
   .have a:(g == k)=ah:=beq_iff_eq.mpr h;simp only[iM,a,if_pos (h.trans b)]
   .have a:(g == k)=aj:=beq_eq_false_iff_ne.mpr h;simp only[iM,a,if_neg (λe:g=f=>h (e.trans b.symm))]
  .rw[if_neg b];by_cases h:g=k
   .have a:(g == k)=ah:=beq_iff_eq.mpr h;simp only[iM,a,if_neg (λe:g=f=>b (h.symm.trans e))]
   .have a:(g == k)=aj:=beq_eq_false_iff_ne.mpr h;simp only[iM,a];exact c
theorem xQ(f:Str)(v:V):∀fs:List (Str×V),f∈(eB f v fs).map (·.1)/\∀g,g∈fs.map (·.1)->g∈(eB f v fs).map (·.1)
 |[]=>⟨by simp[eB],λg h=>by simp at h⟩
 | (k,x)::r=>by
  obtain⟨c,b⟩:=xQ f v r;rw[show eB f v ((k,x)::r)=(if k=f then(k,v)::r else(k,x)::eB f v r)from rfl];by_cases a:k=f
  .rw[if_pos a];subst a;exact⟨by simp,λg h=>by simpa using h⟩
  .rw[if_neg a];refine⟨?_,λg h=>?_⟩
   .rw[dD];exact iK _ c
   .rw[dD]at h ⊢;rcases bW.mp h with e|e
    .exact bW.mpr (.inl e)
    .exact iK _ (b g e)
theorem C0(f:Str)(v:V):∀fs:List (Str×V),(eB f v fs).length<=fs.length+1
 |[]=>by simp[eB]
 | (k,x)::r=>by
  have b:=C0 f v r;rw[show eB f v ((k,x)::r)=(if k=f then(k,v)::r else(k,x)::eB f v r)from rfl];by_cases a:k=f
  .rw[if_pos a,eX,eX];lia
  .rw[if_neg a,eX,eX];lia
theorem kD.some_of{v:V}{o:Option ai}(r:kD (aa v) o):∃u,o=aa u/\RelV v u:=by
 cases o with
 |none=>exact(show False from r).elim
 |some u=>exact⟨u,rfl,r⟩
theorem kD.none_of{o:Option ai}(r:kD ae o):o=ae:=by
 cases o with
 |none=>rfl
 |some u=>exact(show False from r).elim
theorem Oo{v:V}{u:ai}(r:RelV v u):PySem.W.handedIn u=ah:=by
 cases v with
 |non=>cases (show u=Value.none from r);rfl
 |bl b=>cases (show u=Value.bool b from r);rfl
 |int i=>obtain⟨t,e⟩:=(show ∃t,u=Value.int i t from r);cases e;rfl
 |str x=>obtain⟨t,e⟩:=(show ∃t,u=Value.str x t from r);cases e;rfl
 |byt b=>obtain⟨t,e⟩:=(show ∃t,u=Value.bytes b t from r);cases e;rfl
 |flt b=>obtain⟨t,e⟩:=(show ∃t,u=Value.float b t from r);cases e;rfl
 |ref a=>cases (show u=Value.ref a from r);rfl
 |ty n=>cases (show u=Value.type n from r);rfl
section
variable{P:a4}{w:aT}{H i:Hp}{h g:aF}{a C b:ac}{fs c:List (Str×V)}
theorem vg(l:df P w H h)(e:H a=aa (.ins C b fs)):∃j,pT h a b C j/\(∀f,kD (fs.lookup f) (j f))/\EE j (fs.map (·.1))/\fs.length<=1000/\H b=aa (.own a):=by
 obtain⟨d,z,o,m,j,n,r,q⟩:=(show cV P w H h a (.ins C b fs)from l a _ e)
 exact⟨j,⟨m,n,o⟩,r,q,z,d⟩
end
structure Cls(K:ar)(C:ac):Prop where
 pg:zZ K C jZ=ah
 hd:EJ K C=ah
 po:PySem.W.plainOver K C=ah
 sa:g9 K (.ref C) "__setattr__"=aa (aa (.builtin "object.__setattr__"))
theorem Cls.get{K:ar}{C:ac}(c:Cls K C)(f:Str):zZ K C f=ah:=c.pg
def iH(K:ar)(C:ac)(f:Str):Prop:=g9 K (.ref C) f=aa ae
theorem iH.taker{K:ar}{C:ac}{f:Str}(n:iH K C f):PySem.W.takerIn K C f=aa ae:=by unfold PySem.W.takerIn;rw[show g9 K (.ref C) f=aa ae from n];rfl
structure uA(K:ar)(C:ac)(m:Str)(f:ac):Prop where
 at_:g9 K (.ref C) m=aa (aa (.ref f))
 fn:wx K (.ref f)=ah
 kp:kH K (.ref f)=ah
section
variable{X:Cx}{i:List (ac×Obj)}{d:St}{H:Hp}{s:am}{a C j:ac}{fs:List (Str×V)}{f:Str}{v:V}{A:aX}{E:ai->am->Prop}
theorem MZ{b:Bool}{Q:ai->am->Prop}(I:Inv X i d H s)(e:H a=aa (.ins C j fs))(c:Cls X.K C)(n:iH X.K C f)(l:fs.lookup f=aa v)(h:∀u g,Inv X i d H g->RelV v u->Q u g):aw (aA X.prog X.w) A (getAttr (.ref a) f b) Q E s:=by obtain⟨p,O,r,_,_,_⟩:=vg I.hok e;obtain⟨u,q,m⟩:=kD.some_of (v:=v) (o:=p f) (by rw[<-l];exact r f);exact Ht I.kIn O (c.get f) c.hd n q (Oo m) (h u _ (I.tok _) m)
theorem GT{m:Str}{g:ac}{pl:Sem Bool}{Q:ai×List ai->am->Prop}(I:Inv X i d H s)(e:H a=aa (.ins C j fs))(c:Cls X.K C)(k:uA X.K C m g)(l:fs.lookup m=ae)(h:Q (.ref g,[.ref a]) s):aw (aA X.prog X.w) A (getMethod (.ref a) m pl) Q E s:=by obtain⟨b,O,r,_,_,_⟩:=vg I.hok e;have n:b m=ae:=kD.none_of (by rw[<-l];exact r m);exact IR I.kIn O (c.get m) k.at_ k.fn n h
theorem L5{y:V}{u:ai}{Q:Unit->am->Prop}(I:Inv X i d H s)(e:H a=aa (.ins C j fs))(c:Cls X.K C)(n:iH X.K C f)(N:fs.length<1000)(F:RelV y u)(h:∀p,Inv X i d (upd H a (.ins C j (eB f y fs))) p->Q () p):aw (aA X.prog X.w) A (setAttr (.ref a) f u) Q E s:=by
 obtain⟨w,O,r,m,_,B⟩:=vg I.hok e;have G:(fs.map (·.1)).length<=a6:=by rw[bO,oi];lia
 refine Li I.kIn O c.sa c.po n.taker c.hd m G λM l D=>h _ ?_;have K:∃o,M.get? j=aa o:=let ⟨o,_,_,e',_⟩:=l.ns;⟨o,e'⟩
 refine I.write (x:=a) (e:=j) (by rw[e];exact True.intro) (.inr B) (λb q L z=>(D.2 b L).trans z) K ?_;refine⟨by rw[bj O.ne];exact B,?_,O.ne,l.obj,_,l.ns,λg=>?_,λg J=>?_⟩
 .have:=C0 f y fs;lia
 .show kD ((eB f y fs).lookup g) (if g=f then aa u else w g);rw[AK];by_cases q:g=f
  .rw[if_pos q,if_pos q];exact F
  .rw[if_neg q,if_neg q];exact r g
 .by_cases q:g=f
  .rw[q];exact(xQ f y fs).1
  .refine(xQ f y fs).2 g (m g λz=>J ?_);show(if g=f then aa u else w g)=ae;rw[if_neg q];exact z
theorem Inv.made(I:Inv X i d H s):Inv X i d (upd (upd H s.heap.objs.size (.own (s.heap.objs.size+1))) (s.heap.objs.size+1) (.ins C s.heap.objs.size [])) {s with heap:=(s.heap.push mY).push (og C s.heap.objs.size)}:=by
 have g:(s.heap.push mY).get? s.heap.objs.size=aa mY:=cj s.heap rfl;have n:((s.heap.push mY).push (og C s.heap.objs.size)).get? (s.heap.objs.size+1)=aa (og C s.heap.objs.size):=by have:=cj (s.heap.push mY) (o:=og C s.heap.objs.size) rfl;rwa[sN]at this
 have m:(s.heap.push mY).Ns s.heap.objs.size (λ_=>ae):=⟨mY,#[],_,g,rfl,(λe l=>absurd l (by simp)),λ_=>rfl⟩
 have p:=I.laid (a:=s.heap.objs.size) (o:=.own (s.heap.objs.size+1)) (h':=s.heap.push mY) (t':=s.toks) (λb u q=>bf _ q) (ba _) ⟨_,g⟩;refine p.laid (a:=s.heap.objs.size+1) (o:=.ins C s.heap.objs.size []) (t':=s.toks) (λb u q=>bf _ q) (lS (sN _ _)) ?_;have c:s.heap.objs.size≠s.heap.objs.size+1:=cT (ja _);refine⟨by rw[bj c,bT],iN _,c,n,λ_=>ae,(Heap.Ns1.of_empty m).at λo q=>bf _ q,λ_=>True.intro,λy h=>absurd rfl h⟩
theorem No{b:a4}{w:aT}{c:Env}{e:ay}{f:Str}{l:Pos}{s:am}{Q:ai->am->Prop}(m:hV e f c (aL e c)=aL e c)(h:aw (aA b w) A (aL e c) (λo g=>aw (aA b w) A (getAttr o f ah) Q E g) E s):aw (aA b w) A (aL (.Attribute e f l) c) Q E s :=Attribute_any_ h (by rw[arm_eval_Attribute,m])
end
def Gd(K:ar)(d:TE)(f:Str):TE:=λc H Q=>d c H λx b=>∃a C g fs v,x=.ref a/\b a=aa (.ins C g fs)/\Cls K C/\iH K C f/\fs.lookup f=aa v/\Q v b
def G2(K:ar)(h g:TE)(f:Str):TS:=λD b H=>g b H λy i=>h b i λx d=>∃a C c fs,x=.ref a/\d a=aa (.ins C c fs)/\Cls K C/\iH K C f/\fs.length<1000 /\
 D.nx b (upd d a (.ins C c (eB f y fs)))
section
variable{X:Cx}{o e b:ay}{f:Str}{pos d j:Pos}{g i:TE}
theorem yP(r:PE X e g)(w:hV e f X.env (aL e X.env)=aL e X.env):PE X (.Attribute e f pos) (Gd X.K g f):=by intro A s σ H Q I h;refine No w (aR (r A s σ H _ I h) λu J ⟨x,E,D,m,a,C,K,fs,v,y,z,c,n,l,q⟩=>?_);subst y;obtain rfl:u=Value.ref a:=m;exact MZ D z c n l λF G B p=>⟨v,E,B,p,q⟩
theorem Bc(E:PE X o g)(A:PE X b i)(B:g_ b (aa (.Attribute o f d)) pos.line X.env=pure aj):PS X (.Assign [.Attribute o f d] b pos) (G2 X.K g i f):=by intro p s m H D I h;refine plainObj_wpAny_Assign_Attribute (aR (A p s m H _ I h) λu r ⟨y,M,L,v,q⟩=>aR (E p r m M _ L q) λov O ⟨x,Q,K,w,a,C,P,fs,F,G,c,n,l,z⟩=>?_) B;subst F;obtain rfl:ov=Value.ref a:=w;exact L5 K G c n l v λN J=>⟨m,_,J,z⟩
end
section
variable{X:Cx}{f:List (ac×Obj)}{d:St}{H:Hp}{s:am}{A:aX}{E:ai->am->Prop}{Q:ai->am->Prop}{c:ai}{b:Bool}
inductive iu(K:ar)(H:Hp):V->ai->Prop where
 |non:iu K H .non (.type "NoneType")
 |bl (x:Bool):iu K H (.bl x) (.type "bool")
 |int (i:Int):iu K H (.int i) (.type "int")
 |str (x:Str):iu K H (.str x) (.type "str")
 |flt (x:UInt64):iu K H (.flt x) (.type "float")
 |lst {a:ac}{xs:List V} (e:H a=aa (.lst xs)):iu K H (.ref a) (.type "list")
 |frz {a:ac}{o:Obj}{xs:List V} (e:H a=aa (.frz o (.lst xs))):iu K H (.ref a) (.type "list")
 |tup {a:ac}{xs:List V} (e:H a=aa (.tup xs)):iu K H (.ref a) (.type "tuple")
 |dK {a:ac}{kvs:List (aD×V)} (e:H a=aa (.dK kvs)):iu K H (.ref a) (.type "dict")
 |dT {a:ac}{kvs:List (List aD×V)} (e:H a=aa (.dT kvs)):iu K H (.ref a) (.type "dict")
 |ins {a C dx:ac}{fs:List (Str×V)} (e:H a=aa (.ins C dx fs)) (cl:Cls K C) (ha:g9 K (.ref C) "__class__"=aa (aa (.builtin "object.__class__")))
   (hn:PySem.W.specialIn K (.builtin "object.__class__") "__get__"=aa (aa (.builtin "getset_descriptor.__get__"))) (tJ:PySem.W.takesIn K (.builtin "object.__class__")=aa ah)
   (hm:PySem.W.mroIn K C (.type "object")=aa ah):iu K H (.ref a) (.ref C)
theorem Jc{x:V}{u t:ai}(I:Inv X f d H s)(g:RelV x u)(ty:iu X.K H x t)(e:iO X.K t c=aa b)(h:∀r,Q (.bool b) {s with toks:=r}):aw (aA X.prog X.w) A (call (.builtin "isinstance") [u,c]) Q E s:=by
 cases ty with
 |non=>cases (show u=Value.none from g);exact kI PySem.W.kitx_none I.kIn True.intro e (λz=>nomatch z) h
 |bl y=>cases (show u=Value.bool y from g);exact kI PySem.W.kitx_bool I.kIn True.intro e (λz=>nomatch z) h
 |int i=>obtain⟨t,q⟩:=(show ∃t,u=Value.int i t from g);cases q;exact kI PySem.W.kitx_int I.kIn True.intro e (λz=>nomatch z) h
 |str y=>obtain⟨t,q⟩:=(show ∃t,u=Value.str y t from g);cases q;exact kI PySem.W.kitx_str I.kIn True.intro e (λz=>nomatch z) h
 |flt y=>obtain⟨t,q⟩:=(show ∃t,u=Value.float y t from g);cases q;exact kI PySem.W.kitx_float I.kIn True.intro e (λz=>nomatch z) h
 |@lst a l ea=>
  cases (show u=Value.ref a from g);obtain⟨_,_,n,_,j⟩:=(show cV X.prog X.w H s.heap a (.lst l)from I.hok a _ ea)
  exact kI PySem.W.kitx_list I.kIn ⟨_,j,rfl⟩ e (λz=>nomatch z) h
 |@frz a ob l ea=>
  cases (show u=Value.ref a from g);obtain⟨_,_,_,n,_,j⟩:=(show cV X.prog X.w H s.heap a (.frz ob (.lst l))from I.hok a _ ea)
  exact kI PySem.W.kitx_list I.kIn ⟨_,j,rfl⟩ e (λz=>nomatch z) h
 |@tup a l ea=>
  cases (show u=Value.ref a from g);obtain⟨_,_,_,p,_⟩:=(show cV X.prog X.w H s.heap a (.tup l)from I.hok a _ ea)
  obtain⟨o,j,m,_⟩:=p;exact kI PySem.W.kitx_tuple I.kIn ⟨o,j,m⟩ e (λz=>nomatch z) h
 |@dK a kvs ea=>
  cases (show u=Value.ref a from g);obtain⟨_,_,B,_,p⟩:=(show cV X.prog X.w H s.heap a (.dK kvs)from I.hok a _ ea)
  obtain⟨o,v,w,j,m,_⟩:=p;exact kI PySem.W.kitx_dict I.kIn ⟨o,j,m.1⟩ e (λz=>nomatch z) h
 |@dT a kvs ea=>
  cases (show u=Value.ref a from g);obtain⟨_,_,l,_,o,v,w,j,m,_⟩:=(show cV X.prog X.w H s.heap a (.dT kvs)from I.hok a _ ea)
  exact kI PySem.W.kitx_dict I.kIn ⟨o,j,m.1⟩ e (λz=>nomatch z) h
 |@ins a C dx fs ea cl ha hn tJ hm=>
  cases (show u=Value.ref a from g);obtain⟨F,O,_⟩:=vg I.hok ea;obtain⟨D,J,_⟩:=O.look;exact kI (PySem.W.kitx_own (cl.get _) cl.hd ha hn tJ hm) I.kIn J e (λz=>nomatch z) h
end
structure Room(k:Nat)(A:aX):Prop where
 hd:A.handled=ae
 dp:A.depth+3*k+5<z0
 un:A.units+16*k+200<cLine
theorem Room.mono{j k:Nat}{A:aX}(r:Room k A)(h:j<=k):Room j A:=⟨r.hd,by have:=r.dp;lia,by have:=r.un;lia⟩
theorem Room.deeper{k:Nat}{A:aX}(r:Room (k+1) A)(a:Env):Room k (A.deeper a) :=⟨r.hd,by have:=r.dp;show A.depth+1+3*k+5<_;lia,by have:=r.un;show A.units+3+16*k+200<_;lia⟩
theorem Room.in1{k:Nat}{A:aX}(r:Room (k+1) A):Room k A.in1 :=⟨r.hd,by have:=r.dp;show A.depth+3*k+5<_;lia,by have:=r.un;show A.units+1+16*k+200<_;lia⟩
theorem OE{A:aX}{C:ac}{a:List ai}{b:List (Str×ai)}:(A.«under» (.builtin "type.__call__" ⟨.ref C::a,b⟩)).depth=A.depth+1:=by
 first|rfl|simp[Around.«under»,Code.weight,Code.isCreation,Code.isGuard,Code.isCaller,Code.frames,Code.isFrame,guardIds]
theorem NM{A:aX}{C:ac}{a:List ai}{b:List (Str×ai)}:(A.«under» (.builtin "type.__call__" ⟨.ref C::a,b⟩)).units=A.units+1:=by
 first|rfl|simp[Around.«under»,Code.cUnits,Code.frames,Code.isFrame]
theorem Room.make{k:Nat}{A:aX}(r:Room (k+1) A)(C:ac)(a:List ai)(b:List (Str×ai)):Room k (A.«under» (.builtin "type.__call__" ⟨.ref C::a,b⟩)) :=⟨r.hd,by have:=r.dp;rw[OE];lia,by have:=r.un;rw[NM];lia⟩
theorem Room.depth{k:Nat}{A:aX}(r:Room k A):A.depth<z0:=by have:=r.dp;lia
theorem Room.units{k:Nat}{A:aX}(r:Room k A):A.units+64<cLine:=by have:=r.un;lia
def BY:TA:=λ_ H Q=>Q [] H
def IB(d:TE)(c:TA):TA:=λa H Q=>d a H λx g=>c a g λb f=>Q (x::b) f
section
variable{X:Cx}{e:ay}{es:List ay}{te:TE}{t:TA}{a:Pos}
theorem i6:PA X [] BY:=λ_ _ _ _ H Q I h=>z5 ⟨[],H,I,.nil,h⟩
theorem ip(m:PE X e te)(l:PA X es t)(j:aP (e::es) X.env=(aj,aL e X.env)::aP es X.env:=by rfl):PA X (e::es) (IB te t):=by intro a c s b H Q I h;rw[j];show aw _ _ (spliced ((aj,aL e X.env)::cm a (aP es X.env))) _ _ s;refine sO (aR (m c s b H _ I h) λu d ⟨x,q,o,r1,i⟩=>?_);exact aR (l a c d b q _ o i) λr v ⟨xs,p,n,f,g⟩=>⟨x::xs,p,n,.cons r1 f,g⟩
def KD(t:TA):TE:=λd H Q=>t d H λb c=>b.length<=a6/\∀p,c p=ae->Q (.ref p) (upd c p (.tup b))
def Gp(t:TA):TE:=λd H Q=>t d H λb c=>b.length<=a6/\∀p,c p=ae->Q (.ref p) (upd c p (.lst b))
theorem Hx{x1}(h:PA X es t):PE X (.Tuple es x1 a) (KD t):=by intro n s g H Q I l;refine wpAny_Tuple_spliced (aR (h a n s g H _ I l) λj c ⟨i,f,d,r,z,q⟩=>⟨by rw[<-r.length];exact z,?_⟩);have m:f c.heap.objs.size=ae:=d.hok.fresh (ba _);refine⟨.ref c.heap.objs.size,upd f c.heap.objs.size (.tup i),d.laid (t':=c.toks) (λb u e=>bf _ e) (ba _) ?_,rfl,q _ m⟩;exact⟨z,j,r,⟨⟨_,cj _ rfl,rfl,_,rfl⟩,_,cj _ rfl,rfl⟩⟩
theorem Ef(h:PA X es t):PE X (.List es a) (Gp t):=by intro n s g H Q I l;refine wpAny_List_spliced (aR (h a n s g H _ I l) λj c ⟨i,f,d,r,z,q⟩=>⟨by rw[<-r.length];exact z,?_⟩);have m:f c.heap.objs.size=ae:=d.hok.fresh (ba _);refine⟨.ref c.heap.objs.size,upd f c.heap.objs.size (.lst i),d.laid (t':=c.toks) (λb u e=>bf _ e) (ba _) ?_,rfl,q _ m⟩;exact⟨z,j,0,r,cj _ rfl⟩
end
abbrev Sp:=List V->Hp->VK->XK->Prop
abbrev dZ:=List Env->Hp->am->XK->ai->am->Prop
structure o5(P:a4)(w:aT)(K:ar)(mg:Str->Option ai)(base:aF)(A:aX)(outer:List Env)(s:am)(H:Hp):Prop where
 frames:A.frames=aa outer
 mod:Mod K mg base
 bs:∀b o,base.get? b=aa o->s.heap.get? b=aa o/\H b=ae
 bsz:base.objs.size<=s.heap.objs.size
 funs:s.heap.FunFrames base outer
 frf:∀b∈fh outer,H b=ae
 hok:df P w H s.heap
 bare:lM s.gens
 tab:ux K H
def CE(a:List Env)(P:a4)(w:aT)(H:Hp)(s:am)(Q:VK)(u:ai)(b:am):Prop :=
 ∃v c,b.os=s.os/\lM b.gens/\Un (fh a) [] H c s.heap b.heap/\df P w c b.heap/\RelV v u/\Q v c
def CR(c:dZ)(a:List Env)(P:a4)(w:aT)(H:Hp)(s:am)(Q:VK)(E:XK)(r:Result)(b:am):Prop :=
 match r with
 |.ok (.ret u)=>CE a P w H s Q u b
 |.ok _=>False
 |.error e=>c a H s E e b
structure gz(P:a4)(w:aT)(K:ar)(mg:Str->Option ai)(base:aF)(CX:dZ)(k:Nat)(f:ac)(fd:gJ)(ps:List Str)(sp:Sp):Prop where
 len:∀vs H Q E,sp vs H Q E->vs.length=ps.length
 run:∀(A:aX) (outer:List Env) (s:am) (H:Hp) (args:Args) (us:List ai) (vs:List V) (Q:VK) (E:XK),Room k A->o5 P w K mg base A outer s H->BindsTo s fd args (ps.zip us)->bx vs us->sp vs H Q E ->
  kG (aA P w) A (.call (.ref f) args) (CR CX outer P w H s Q E) s
theorem o5.make{P:a4}{w:aT}{K:ar}{c:Str->Option ai}{b:aF}{A:aX}{a:List Env}{s:am}{H:Hp}(e:o5 P w K c b A a s H)(C:ac)(d:List ai)(f:List (Str×ai)):o5 P w K c b (A.«under» (.builtin "type.__call__" ⟨.ref C::d,f⟩)) a s H:=⟨by first|exact e.frames | (simpa[Around.«under»,Code.envs,Code.isFrame,pushEnvs]using e.frames),e.mod,e.bs,e.bsz,e.funs,e.frf,e.hok,e.bare,e.tab⟩
section
variable{X:Cx}{f:List (ac×Obj)}{a:St}{H:Hp}{s c:am}
theorem Inv.env0(I:Inv X f a H s):o5 X.prog X.w X.K X.mg X.base X.A X.stack s H :=⟨I.ok.frames,I.ok.mod,I.bs,c4 I.ok.bsz I.sz,I.stack,I.stkFree,I.hok,I.bare,I.tab⟩
theorem Inv.after{Q:VK}{u:ai}(I:Inv X f a H s)(h:CE X.stack X.prog X.w H s Q u c):EP X f a Q u c:=by obtain⟨v,n,l,bare,un,j,r,q⟩:=h;obtain⟨m,g,d,t,i⟩:=c;obtain rfl:i=s.os:=l;exact⟨v,n,I.call (h':=m) (g':=g) (d':=d) (t':=t) (ch:=[]) un j bare (λb z=>absurd z (by simp)),r,q⟩
end
def HS(d:Sp)(a:List V)(E:XK)(t:TA):TE:=λb H Q=>t b H λc f=>d (c++a) f Q E
def IP(C:ac)(m:Str)(g:Sp)(b:List V)(E:XK)(f:TE)(t:TA):TE:=λc H Q=>f c H λx d=>∃a h fs,x=.ref a/\d a=aa (.ins C h fs)/\fs.lookup m=ae /\
 t c d λvs i=>g (x::(vs++b)) i Q E
def LY(C:ac)(g:Sp)(b:List V)(E:XK)(t:TA):TE:=λd H Q=>t d H λf c=>∀x a,c x=ae->c a=ae->a≠x ->
 g (.ref x::(f++b)) (upd (upd c a (.own x)) x (.ins C a [])) (λv h=>v=.non/\Q (.ref x) h) E
def Binds(K:ar)(c:gJ)(a:List Str)(b:List ai):Prop :=
 ∀(s:am) (us:List ai),K.In s.heap->(us++b).length=a.length->BindsTo s c ⟨us,[]⟩ (a.zip (us++b))
theorem Binds.all{K:ar}{d:gJ}{b:List Str}(h:∀a:List ai,a.length=b.length->dU d ⟨a,[]⟩=pure (b.zip a)):Binds K d b []:=λs a _ c=>by rw[jC]at c ⊢;exact .of_eq (h a c)
def jL(c:dZ)(X:Cx)(E:XK):Prop:=∀(b:List (ac×Obj)) (a:St) (H:Hp) (s:am) (e:ai) (s':am),Inv X b a H s->c X.stack H s E e s'->X.xe e s'
section
variable{X:Cx}{z:dZ}{k:Nat}{f C:ac}{w:gJ}{i:List Str}{n:Sp}{b:List V}{g:List ai}{E:XK}{x m:Str}{p d j:Pos}{e o:ay}{y:List ay}{A:TE}{t:TA}
theorem EC{l:List (ac×Obj)}{c:St}{H:Hp}{s:am}{Q:VK}{us:List ai}{vs:List V}(F:gz X.prog X.w X.K X.mg X.base z k f w i n)(D:Room k X.A)(K:Binds X.K w i g)(J:bx b g)(B:jL z X E)(I:Inv X l c H s) (r:bx vs us) (h:n (vs++b) H Q E):aw (aA X.prog X.w) X.A (call (.ref f) us) (EP X l c Q) X.xe s:=by
 have q:bx (vs++b) (us++g):=r.append J;have G:(us++g).length=i.length:=by rw[<-q.length];exact F.len _ _ _ _ h
 refine wpAny_call (sP (F.run X.A X.stack s H ⟨us,[]⟩ (us++g) (vs++b) Q E D I.env0 (K s us I.kIn G) q h) λr v a=>?_);cases r with
 |error e=>exact B l c H s e v I a
 |ok L=>
  cases L with
  |ret u=>exact I.after a
  |next=>exact jb a
  |brk=>exact jb a
  |cont=>exact jb a
theorem BF(F:gz X.prog X.w X.K X.mg X.base z k f w i n)(u:Room k X.A)(D:Gl X x)(v:X.mg x=aa (.ref f))(B:kH X.K (.ref f)=ah)(K:Binds X.K w i g)(J:bx b g)(l:jL z X E)(L:PA X (e::y) t) (M:(x==("__debug__":Str))=aj:=by decide) (G:aP (e::y) X.env=(aj,aL e X.env)::aP y X.env:=by rfl) (N:(cm d (aP y X.env)).any (·.1)=aj:=by rfl):PE X (.Call (.Name x p) (e::y) [] d) (HS n b E t):=by intro O s c H Q I h;refine wy (wf I D v ?_ M);refine PySem.W.callWith_K (h₀:=X.base) I.ok.mod.kin B (aR (L d O s c H _ I h) λS T ⟨P,W,a,r,q⟩=>⟨a.kIn,?_⟩) G N;exact EC F u K J l a r q
theorem G1{pl:Sem Bool}(L:PE X o A)(c:Cls X.K C)(v:uA X.K C m f)(F:gz X.prog X.w X.K X.mg X.base z k f w i n)(K:Room k X.A)(N:Binds X.K w i g)(M:bx b g)(G:jL z X E)(J:aL (.Call (.Attribute o m j) [] [] d) X.env=(do
   let ov <-aL o X.env
   standAt j.atName
   let (f,first) <-holding [ov] (getMethod ov m pl)
   callWith d f first (cm d (aP [] X.env)) (mZ d (m8 [] X.env))):=by rfl) :
  PE X (.Call (.Attribute o m j) [] [] d) (IP C m n b E A BY):=by
 intro S s B H Q I h;refine PySem.W.methodCall_KW (pl:=pl) (aR (L S s B H _ I h) λu T ⟨x,Y,r,D,a,W,fs,O,P,l,q⟩=>?_) J;subst O;obtain rfl:u=Value.ref a:=D;refine GT r P c v l ?_;exact PySem.W.callWith_K0 (first:=[.ref a]) r.kIn v.kp (EC (us:=[.ref a]) (vs:=[.ref a]) F K N M G r (.cons rfl .nil) q)
structure Mk(K:ar)(C f:ac):Prop where
 makes:PySem.W.makesIn K C=ah
 init:g9 K (.ref C) "__init__"=aa (aa (.ref f))
 fn:wx K (.ref f)=ah
 kp:kH K (.ref C)=ah
theorem Gi{G:List (ac×Obj)}{B:St}{H:Hp}{s:am}{Q:VK}{a:List ai}{D:List V}(M:Mk X.K C f)(F:gz X.prog X.w X.K X.mg X.base z k f w i n)(S:Room (k+1) X.A)(Y:Binds X.K w i g)(W:bx b g)(P:jL z X E) (I:Inv X G B H s) (r:bx D a)(h:∀x l,H x=ae->H l=ae->l≠x->n (.ref x::(D++b)) (upd (upd H l (.own x)) x (.ins C l [])) (λv H2=>v=.non/\Q (.ref x) H2) E):aw (aA X.prog X.w) X.A (call (.ref C) a) (EP X G B Q) X.xe s:=by
 have K:=h (s.heap.objs.size+1) s.heap.objs.size (I.hok.fresh (sQ _)) (I.hok.fresh (ba _)) (cT (ja _));have q:=Inv.made (C:=C) I;have J:bx (V.ref (s.heap.objs.size+1)::(D++b)) (Value.ref (s.heap.objs.size+1)::(a++g)):=.cons rfl (r.append W);have T:(Value.ref (s.heap.objs.size+1)::a++g).length=i.length:=by have e:=J.length;rw[F.len _ _ _ _ K]at e;exact e.symm
 refine wpAny_call (NQ (f:=f) I.kIn M.makes M.init (beq_iff_eq.mp M.fn) (sP (F.run _ X.stack _ _ ⟨Value.ref (s.heap.objs.size+1)::a,[]⟩ (Value.ref (s.heap.objs.size+1)::(a++g)) _ _ E (S.make C a []) (q.env0.make C a []) (Y _ (Value.ref (s.heap.objs.size+1)::a) q.kIn T) J K) λr L c=>?_));cases r with
 |error e=>exact P G B _ _ e L q c
 |ok Z=>
  cases Z with
  |ret u=>obtain⟨v,H',I3,N,ev,O⟩:=q.after c;subst ev;exact⟨N,⟨V.ref (s.heap.objs.size+1),H',I3,rfl,O⟩⟩
  |next=>exact jb c
  |brk=>exact jb c
  |cont=>exact jb c
theorem Kd(M:Mk X.K C f)(F:gz X.prog X.w X.K X.mg X.base z k f w i n)(u:Room (k+1) X.A)(B:Gl X x)(v:X.mg x=aa (.ref C))(J:Binds X.K w i g)(G:bx b g)(l:jL z X E)(K:PA X (e::y) t) (L:(x==("__debug__":Str))=aj:=by decide) (D:aP (e::y) X.env=(aj,aL e X.env)::aP y X.env:=by rfl) (N:(cm d (aP y X.env)).any (·.1)=aj:=by rfl):PE X (.Call (.Name x p) (e::y) [] d) (LY C n b E t):=by intro O s c H Q I h;refine wy (wf I B v ?_ L);refine PySem.W.callWith_K (h₀:=X.base) I.ok.mod.kin M.kp (aR (K d O s c H _ I h) λS T ⟨P,W,a,r,q⟩=>⟨a.kIn,?_⟩) D N;exact Gi M F u J G l a r q
end
structure bS(N P:List Str)(sc:c8):Prop where
 kind:sc.kind=.function
 co:sc.isCoroutine=aj
 gen:sc.isGenerator=aj
 nd:N.Nodup
 pre:N.take P.length=P
 par:∀x∈P,sc.names.lookup x=aa .local\/sc.names.lookup x=aa .cell
 nofree:∀y∈sc.names,y.2≠.free
theorem C7{a:Str->Option ga}{x:Str}:∀{binds:List (Str×ai)}{m:Str->Option ai},(∀v,(x,v)∉binds)->bindL a binds m x=m x
 |[],_,_=>rfl
 | (n,v)::r,m,h=>by
  unfold bindL;rw[C7 λw b=>h w (iK _ b)];split
  .have:x≠n:=by rintro rfl;exact h v lN
   simp[this]
  .rfl
theorem Ew{a:Str->Option ga}{x:Str}:∀{binds:List (Str×ai)}{m:Str->Option ai},(∀v,(x,v)∉binds)->bindC a binds m x=m x
 |[],_,_=>rfl
 | (n,v)::r,m,h=>by
  unfold bindC;rw[Ew λw b=>h w (iK _ b)];split
  .rfl
  .have:x≠n:=by rintro rfl;exact h v lN
   simp[this]
theorem Bw{a:Str->Option ga}{x:Str}{v:ai}:∀{P:List Str}{b:List ai}{i:Nat}{m:Str->Option ai},P.Nodup->P[i]?=aa x->b[i]?=aa v->a x=aa .local -> bindL a (P.zip b) m x=aa v
 |[],_,_,_,_,h,_,_=>by simp at h
 |_::_,[],_,_,_,_,h,_=>by simp at h
 |p::P,w::b,0,m,nd,h1,h2,hk=>by simp at h1 h2;subst h1;subst h2;show bindL a ((p,w)::P.zip b) m p=_;unfold bindL;rw[C7 λv c=>(jc.mp nd).1 (List.of_mem_zip c).1,if_pos hk];simp
 |p::P,w::b,i+1,m,nd,h1,h2,hk=>by show bindL a ((p,w)::P.zip b) m x=_;unfold bindL;exact Bw (i:=i) (jc.mp nd).2 (by simpa using h1) (by simpa using h2) hk
theorem Eu{a:Str->Option ga}{x:Str}{v:ai}:∀{P:List Str}{b:List ai}{i:Nat}{m:Str->Option ai},P.Nodup->P[i]?=aa x->b[i]?=aa v->a x≠aa .local -> bindC a (P.zip b) m x=aa v
 |[],_,_,_,_,h,_,_=>by simp at h
 |_::_,[],_,_,_,_,h,_=>by simp at h
 |p::P,w::b,0,m,nd,h1,h2,hk=>by simp at h1 h2;subst h1;subst h2;show bindC a ((p,w)::P.zip b) m p=_;unfold bindC;rw[Ew λv c=>(jc.mp nd).1 (List.of_mem_zip c).1,if_neg hk];simp
 |p::P,w::b,i+1,m,nd,h1,h2,hk=>by show bindC a ((p,w)::P.zip b) m x=_;unfold bindC;exact Eu (i:=i) (jc.mp nd).2 (by simpa using h1) (by simpa using h2) hk
def start(N:List Str)(a:List V):St:=a.map aa++cM (N.length-a.length) ae
def eZ(g:dZ)(P:a4)(w:aT)(K:ar)(mg:Str->Option ai)(base:aF)(N:List Str)(b:Str)(a:c8)(f:ac)(d:ai)(A:aX)(outer:List Env)(s:am)(H:Hp)(E:XK):Cx where
 prog:=P
 w:=w
 K:=K
 mg:=mg
 base:=base
 A:=A.deeper (fO b a s.heap.objs.size f d)
 N:=N
 s₀:=s
 H₀:=H
 env:=fO b a s.heap.objs.size f d
 outer:=outer
 stack:=fO b a s.heap.objs.size f d::outer
 ex:=[]
 calm:=ah
 fn:=λ_=>ah
 pn:=[]
 xe:=λe s'=>aw (aA P w) (A.deeper (fO b a s.heap.objs.size f d)) (leaving (fO b a s.heap.objs.size f d) e) (λ_ c=>g outer H s E e c) (λh c=>g outer H s E h c) s'
theorem Bo{a:c8}{n:Nat}{x:Str}(h:a.names.lookup x=aa .cell):∃c,(fz n a.names []).lookup x=aa c:=by have q:=PySem.W.cellsFrom_some a.names n [] (.inl h);exact Option.isSome_iff_exists.mp q
theorem Ke{Y:dZ}{P:a4}{w:aT}{K:ar}{Q:Str->Option ai}{o:aF}{N C:List Str}{j:Str}{d:c8}{f:ac}{M:ai}{A:aX}{g:List Env}{s T:am}{H:Hp}{E:XK}{O:List ai}{B:List V}(S:bS N C d) (hd:A.handled=ae) (m:o5 P w K Q o A g s H) (hl:B.length=C.length) (r:bx B O)(x:InCallC s s.heap.objs.size (bindL (fO j d s.heap.objs.size f M).kindOf (C.zip O) λ_=>ae) (fz (s.heap.objs.size+1) d.names []) (bindC (fO j d s.heap.objs.size f M).kindOf (C.zip O) λ_=>ae) T):Inv (eZ Y P w K Q o N j d f M A g s H E) [] (start N B) H T:=by
 have ce:C.length<=N.length:=by have:=congrArg lT S.pre;rw[p4]at this;lia
 obtain⟨L,tk,rfl,X⟩:=x.done;have D:∀b:ac,b∉(eZ Y P w K Q o N j d f M A g s H E).ex:=λb z=>absurd (show b∈([]:List ac)from z) (by simp);refine⟨⟨m.mod,S.kind,rfl,rfl,ba _,λy z c L l=>?_,λy F=>?_,λy c _ h=>?_,λ_=>hd,Around.frames_deeper m.frames,.inr ⟨rfl,rfl⟩,λb z=>absurd z (D b),m.bs,m.bsz,λb _ _=>D b,λb z=>absurd z (D b),m.funs,m.frf,m.tab⟩,rfl,m.bare,Un.kept X,⟨_,x.toInCall.ns,λi y v L l h3=>?_⟩,λy c h=>⟨_,x.cell y c h⟩,m.hok.fresh (ba _),λy c h=>?_,λp I=>absurd (show p∈([]:List (ac×Obj))from I) (by simp),m.hok.kept X,?_⟩
 .exact name_of_addr x.apart (jd L) (jd l)
 .have F:d.names.lookup y=aa .cell\/d.names.lookup y=aa .free:=F;rcases F with F|F
  .exact Bo F
  .exact absurd rfl (S.nofree _ (jd F))
 .exact kF (x.above y c (jd h))
 .have J:i<B.length:=by
   unfold start at l;by_cases J:i<B.length
   .exact J
   .rw[oj (by simpa using J)]at l;rw[List.getElem?_replicate]at l;split at l <;> cases l
  have ha:B[i]?=aa v:=by
   unfold start at l;rw[iw (by simpa using J),iP]at l;cases e:B[i]? with
   |none=>rw[e]at l;cases l
   |some a=>rw[e]at l;cases l;rfl
  obtain⟨u,W,Z⟩:=r.get ha;have I:C[i]?=aa y:=by rw[<-S.pre,List.getElem?_take_of_lt ∅];exact L
  have G:C.Nodup:=by rw[<-S.pre];exact S.nd.sublist (List.take_sublist _ _)
  refine⟨u,Z,?_⟩;rcases S.par y (z6 I)with k|k
  .exact .inl ⟨k,Bw G I W k⟩
  .obtain⟨c,e⟩:=Bo (n:=s.heap.objs.size+1) k;refine .inr ⟨.inl k,c,e,?_⟩;have q:=x.cell y c e;rw[Eu G I W (by show d.names.lookup y≠_;rw[k];decide)]at q;exact q
 .exact m.hok.fresh (kF (x.above y c (jd h)))
 .unfold start;show _=N.length;rw[eN,bO,List.length_replicate];lia
theorem xa{M:dZ}{P:a4}{w:aT}{K:ar}{L:Str->Option ai}{h:aF}{k:Nat}{f:ac}{m d:Str}{g:sR}{i:List aV}{a:c8}{dV kV F pm z ct oc:ai}{an od:Option ac}{X:Array (Option ai)}{N G:List Str}{O:Sp} (lk:K.lookup f=aa ⟨oc,od,.func (fP m d g i a dV kV F pm an z ct),X⟩) (bc:p5 K z d=ah) (S:bS N G a)(len:∀l H Q E,O l H Q E->l.length=G.length)(gb:∀(A:aX) (c:List Env) (s:am) (H:Hp) (l:List V) (Q:VK) (E:XK),Room k (A.deeper (fO d a s.heap.objs.size f z))->O l H Q E -> ∃t,jU (eZ M P w K L h N d a f z A c s H E) i t/\t {nx:=λ_ p=>Q .non p,rt:=Q} (start N l) H):gz P w K L h M (k+1) f (fP m d g i a dV kV F pm an z ct) G O:=by
 refine⟨len,λA c s H args us l Q E Z D hb r iS=>?_⟩;have hl:=len _ _ _ _ iS;have KX:K.In s.heap:=D.mod.kin.keeps λb o e=>(D.bs b o e).1;have Y:s.heap.NoLimit:=D.mod.nolimit.keeps λb o e=>(D.bs b o e).1;have OX:∀y∈G.zip us,a.names.lookup y.1=aa .local\/(a.names.lookup y.1=aa .cell/\((fz (s.heap.objs.size+1) a.names []).lookup y.1).isSome=ah):=λ⟨n,v⟩ hy=>by
  rcases S.par n (List.of_mem_zip hy).1 with q|q
  .exact .inl q
  .exact .inr ⟨q,PySem.W.cellsFrom_some _ _ _ (.inl q)⟩
 refine codeAny_call_function Z.depth (KX _ _ lk) rfl S.co S.gen rfl (PySem.W.codeRec_of KX bc) (hb _ _ _ _ ?_);refine wpAny_newFunctionEnv_cells S.kind OX λenv he s1 x=>?_;subst he;refine⟨Y.keeps x.toInCall.keep,codeAny_func ?_⟩;obtain⟨t,ht,hq⟩:=gb A c s H l Q E (Z.deeper _) iS;have I:Inv (eZ M P w K L h N d a f z A c s H E) [] (start N l) H s1:=Ke S Z.hd D hl r x;refine eW (ht [] s1 (start N l) H _ I hq) (λfl T B=>?_) λe T B=>B;have C:∀{j:St}{p:Hp}{v:V}{u:ai},Inv (eZ M P w K L h N d a f z A c s H E) [] j p T->RelV v u->Q v p->CE c P w H s Q u T :=λ{j p v u} J W q=>⟨v,p,J.os,J.bare,J.base,J.hok,W,q⟩
 cases fl with
 |ret u=>obtain⟨v,j,p,J,W,q⟩:=B;exact C J W q
 |next=>obtain⟨j,p,J,q⟩:=B;exact C (v:=V.non) (u:=Value.none) J rfl q
 |brk=>obtain⟨_,_,_,q⟩:=B;exact jb q
 |cont=>obtain⟨_,_,_,q⟩:=B;exact jb q
section
variable{X:Cx}{x:Str}{p a:Pos}{e:ay}{b:List ay}{t:TA}{c T:String}{r:List V->Hp->VK->Prop}
def DH(r:List V->Hp->VK->Prop)(t:TA):TE:=λd H Q=>t d H λf g=>r f g Q
theorem sA(v:ff X (.builtin c) r)(q:Gl X x)(o:X.mg x=ae)(m:dQ x=aa (.builtin c))(w:PA X (e::b) t)(n:x≠"__name__":=by decide)(y:(x==("__debug__":Str))=aj:=by decide)(u:aP (e::b) X.env=(aj,aL e X.env)::aP b X.env:=by rfl) (z:(cm a (aP b X.env)).any (·.1)=aj:=by rfl):PE X (.Call (.Name x p) (e::b) [] a) (DH r t):=by intro f s d H Q I h;refine wy (sr I q o m ?_ n y);exact PyProof.Rows.callWith_builtin1 (aR (w a f s d H _ I h) λi j ⟨g,B,A,r1,l⟩=>v f j d B g i Q A r1 l) u z
theorem si(v:ff X (.type T) r)(q:Gl X x)(o:X.mg x=ae)(m:dQ x=aa (.type T))(w:PA X (e::b) t)(n:x≠"__name__":=by decide)(y:(x==("__debug__":Str))=aj:=by decide)(u:aP (e::b) X.env=(aj,aL e X.env)::aP b X.env:=by rfl) (z:(cm a (aP b X.env)).any (·.1)=aj:=by rfl):PE X (.Call (.Name x p) (e::b) [] a) (DH r t):=by intro f s d H Q I h;refine wy (sr I q o m ?_ n y);exact PyProof.Rows.callWith_type1 (aR (w a f s d H _ I h) λi j ⟨g,B,A,r1,l⟩=>v f j d B g i Q A r1 l) u z
end
end L2
namespace HT
section
open PySem.SeqAt
open PySem.AutoSeq1 (wpAny_loadPart')
open PySem.MeetsSeq PySem.MeetsSeq2 PySem.MeetsSeq3
end
section
variable{a:a4}{w:aT}{A:aX}{E:ai->am->Prop}{s:am}
theorem cat_tup{t b:ac}{d c:List ai}{Q:ai->am->Prop}(B:IsTup s.heap t d.toArray)(C:IsTup s.heap b c.toArray)(u:d≠[])(F:c=[]->Q (.ref t) s) (D:c≠[]->Q (.ref s.heap.objs.size) {s with heap:=s.heap.push {cls:=.type "tuple",data:=.seq (d++c).toArray}})(l:d.length+c.length<=a6):aw (aA a w) A (i_ .Add (.ref t) (.ref b)) Q E s:=by
 obtain⟨⟨cls,y,data,p⟩,j,x,n,v⟩:=id B;obtain⟨⟨z,g,m,f⟩,h,q,r,o⟩:=id C;simp only at x v q o;subst x v q o;have e:d.toArray++c.toArray=(d++c).toArray:=by simp
 by_cases i:c=[]
 .exact concat_meets ⟨_,j,rfl⟩ ⟨_,h,rfl⟩ noFill_tuple_add seq_tuple_add PySem.F.slot_tuple_add PySem.F.entry_tuple_add (PySem.F.args_tuple_add_2 _ _)
   (tuple_addW1 t b d.toArray c.toArray n r y g p f (by simpa using u) (by simp[i])) ⟨j,h,F i⟩
 .refine concat_meets ⟨_,j,rfl⟩ ⟨_,h,rfl⟩ noFill_tuple_add seq_tuple_add PySem.F.slot_tuple_add PySem.F.entry_tuple_add (PySem.F.args_tuple_add_2 _ _)
   (tuple_addW2 t b d.toArray c.toArray n r y g p f (by simpa using u) (by simpa using i) (by rw[cD,cD];exact l)) ⟨j,h,?_⟩
  rw[e];exact D i
def sIx(n d:Nat):Option Int->Nat
 |none=>d
 |some v=>if v<0 then(v+(n:Int)).toNat else min v.toNat n
theorem sIx_nat(n d k:Nat):sIx n d (aa (k:Int))=min k n:=by show(if(k:Int)<0 then((k:Int)+(n:Int)).toNat else min (k:Int).toNat n)=min k n;rw[if_neg ∅,m9]
theorem sIx_le(n d:Nat)(c:d<=n)(o:Option Int):sIx n d o<=n:=by
 cases o with
 |none=>exact c
 |some v=>
  show(if v<0 then(v+(n:Int)).toNat else min v.toNat n)<=n;by_cases b:v<0
  .rw[if_pos b];lia
  .rw[if_neg b];exact Nat.min_le_right _ _
theorem Bd(v:Int)(n d:Nat):(if v<0 then max (v+(n:Int)) 0 else min v (n:Int))=((sIx n d (aa v):Nat):Int):=by
 show(if v<0 then max (v+(n:Int)) 0 else min v (n:Int))=(((if v<0 then(v+(n:Int)).toNat else min v.toNat n):Nat):Int)
 by_cases b:v<0
 .simp only[if_pos b];lia
 .simp only[if_neg b];lia
theorem IL(b c:Option Int)(n:Nat):EL b c 1 (n:Int)=(((sIx n 0 b:Nat):Int),((sIx n n c:Nat):Int)):=by
 have d:¬((1:Int)<0):=∅
 unfold EL;simp only[d,if_false];refine Prod.ext ?_ ?_
 .cases b with
  |none=>rfl
  |some v=>exact Bd v n 0
 .cases c with
  |none=>rfl
  |some v=>exact Bd v n n
theorem LX(i j:Nat):z7 (i:Int) (j:Int) 1=j-i:=by
 unfold z7;have b:(1:Int) > 0:=∅
 simp only[b,if_true,Int.ediv_one];split <;> lia
theorem Ed{v:ai}{o:Option Int}{Q:Option Int->am->Prop}(p:lU v o)(h:Q o s):aw (aA a w) A (Builtin.Slice.slicePartIndex v) Q E s:=by
 cases p with
 |none=>exact slicePart_none h
 |int i t=>exact slicePart_int h
theorem ML{j:ac}{g f:ai}{b c:Option Int}{n:Nat}{Q:Int×Int×Nat->am->Prop}(o:s.heap.IsSliceOf j g f .none)(m:lU g b)(l:lU f c)(h:Q (((sIx n 0 b:Nat):Int),1,sIx n n c-sIx n 0 b) s):aw (aA a w) A (Builtin.Slice.sliceApplied (.ref j) (pure (n:Int))) Q E s:=by
 obtain⟨q,i,p,d⟩:=id o;unfold Builtin.Slice.sliceApplied Builtin.Slice.sliceFields;refine au (au (p6 i d (x:=g) rfl (au (p6 i d (x:=f) rfl (au (p6 i d (x:=.none) rfl (aQ ?_)))))));refine au (slicePart_none ?_);show aw _ _ (if((1:Int) == 0)=ah then _ else _) _ _ s;rw[if_neg (by decide)];refine au (Ed m (au (Ed l (au (aQ ?_)))));show aw _ _ (match EL b c 1 (n:Int)with | (b,c)=>pure (b,(1:Int),z7 b c 1)) _ _ s;rw[IL b c n];show aw _ _ (pure (((sIx n 0 b:Nat):Int),(1:Int),z7 ((sIx n 0 b:Nat):Int) ((sIx n n c:Nat):Int) 1)) _ _ s;rw[LX];exact aQ h
theorem K8(b:Array ai)(i k:Nat):((bG k).filterMap λ(m:Nat)=>b[((i:Int)+(m:Int)*1).toNat]?).toArray=((b.toList.drop i).take k).toArray:=by
 have e:(λ(m:Nat)=>b[((i:Int)+(m:Int)*1).toNat]?)=λm=>b[i+m]?:=by
  funext m;have:((i:Int)+(m:Int)*1).toNat=i+m:=∅
  rw[this]
 rw[e];have:=pick_run b i k;rw[List.filterMap_map]at this;have c:((λx=>b[x]?) ∘ λx=>i+x)=λm=>b[i+m]?:=rfl;rw[c]at this;rw[this]
theorem getItem_tuple_cut{t i:ac}{b:Array ai}{p o:ai}{c d:Option Int}{Q:ai->am->Prop}(g:IsTup s.heap t b)(r:s.heap.IsSliceOf i p o .none)(x:lU p c)(v:lU o d)(z:¬(sIx b.size 0 c=0/\sIx b.size b.size d=b.size))(h:Q (.ref s.heap.objs.size) {s with heap:=s.heap.push {cls:=.type "tuple",data:=.seq ((b.toList.drop (sIx b.size 0 c)).take (sIx b.size b.size d-sIx b.size 0 c)).toArray}})(B:b.size<=a6):aw (aA a w) A (ol (.ref t) (.ref i)) Q E s:=by
 have f:sizeOk (.seq ((b.toList.drop (sIx b.size 0 c)).take (sIx b.size b.size d-sIx b.size 0 c)).toArray):=by show((b.toList.drop (sIx b.size 0 c)).take (sIx b.size b.size d-sIx b.size 0 c)).toArray.size<=a6;rw[cD,p4,m_,wu];lia
 have G:sIx b.size b.size d<=b.size:=sIx_le _ _ (ba _) d;obtain⟨y,u,l,C⟩:=id r;have n:s.TypeIs (.ref i) "slice":=⟨y,u,l⟩
 unfold ol
 try with_reducible refine lV ?_
 first|refine au (aQ ?_)|skip
 refine au (wpAny_sequenceKey g.typeIs (by decide) ?_);refine au (wpAny_callSpecial?_slot (name:=cn "__getitem__") g.typeIs OR (wz OR g.typeIs entry_tuple_getitem ?_ (args_tuple_getitem _ _)));show aw _ _ (Builtin.Tuple.tupleItemsOf (.ref t) >>= _) _ _ s;refine au (tupleItemsOf_ g ?_);refine au (wpAny_typeOf n ?_);rw[if_pos (by decide)];refine au (ML r x v ?_);have j:¬((((sIx b.size 0 c:Nat):Int) == 0&&(1:Int) == 1&&(sIx b.size b.size d-sIx b.size 0 c) == b.size)=ah):=by intro q;rw[dW,dW]at q;have F:((sIx b.size 0 c:Nat):Int)=0:=eq_of_beq q.1.1;have D:sIx b.size b.size d-sIx b.size 0 c=b.size:=eq_of_beq q.2;exact z ⟨∅,∅⟩
 show aw _ _ (if(((sIx b.size 0 c:Nat):Int) == 0&&(1:Int) == 1&&(sIx b.size b.size d-sIx b.size 0 c) == b.size)=ah then _ else _) _ _ s;rw[if_neg j,K8]
 first
  |exact au (m:=z8 _) (lW (aQ ⟨_,rfl,aQ h⟩) f)
  |exact au (m:=z8 _) (lW (au (aQ (aQ ⟨_,rfl,aQ h⟩))) f)
  |exact au (au (m:=z8 _) (lW (aQ (aQ ⟨_,rfl,aQ h⟩)) f))
  |exact au (au (m:=z8 _) (lW (aQ ⟨_,rfl,aQ h⟩) f))
end
end HT
namespace L2
abbrev TO:=St->Hp->(Option Int->Hp->Prop)->Prop
def PO(X:Cx)(e:Option ay)(t:TO):Prop :=
 ∀(b:List (ac×Obj)) (s:am) (a:St) (H:Hp) (Q:Option Int->Hp->Prop),Inv X b a H s->t a H Q ->
  aw (aA X.prog X.w) X.A (evalPart e X.env) (λu d=>∃o c,Inv X b a c d/\lU u o/\Q o c) X.xe s
def Nc:TO:=λ_ H Q=>Q ae H
def Ig(t:TE):TO:=λa H Q=>t a H λx b=>∃i,x=.int i/\Q (aa i) b
section
variable{X:Cx}{e:ay}{f:TE}{c d:Option ay}{g j:TO}{n m:Pos}
theorem Jp:PO X ae Nc:=by intro b s a H Q I h;rw[evalPart_none];exact aQ ⟨ae,H,I,.none,h⟩
theorem Ld(h:PE X e f):PO X (aa e) (Ig f):=by intro o s a H Q I l;rw[evalPart_some];refine aR (h o s a H _ I l) λu v ⟨x,r,p,r1,b⟩=>?_;obtain⟨i,rfl,q⟩:=b;obtain⟨t,rfl⟩:=r1;exact⟨aa i,r,p,.int i t,q⟩
def lj(X:Cx)(r:V->Option Int->Option Int->Hp->VK->Prop):Prop :=
 ∀(l:List (ac×Obj)) (s:am) (a:St) (H:Hp) (x:V) (v h b:ai) (c d:Option Int) (i:ac) (Q:VK),Inv X l a H s->RelV x v->s.heap.IsSliceOf i h b .none->lU h c->lU b d->r x c d H Q ->
  ∃T o,typeLookup (.type T) "__getitem__"=pure (aa (.builtin o))/\s.TypeIs v T/\aw (aA X.prog X.w) X.A (ol v (.ref i)) (EP X l a Q) X.xe s
theorem lj.or{r p:V->Option Int->Option Int->Hp->VK->Prop}(h:lj X r)(A:lj X p):lj X (λx c d H Q=>r x c d H Q\/p x c d H Q):=by
 intro z s a H x v i b c d l Q I o y w u q;rcases q with q|q
 .exact h z s a H x v i b c d l Q I o y w u q
 .exact A z s a H x v i b c d l Q I o y w u q
def Mf(r:V->Option Int->Option Int->Hp->VK->Prop)(f:TE)(g j:TO):TE:=λa H Q=>f a H λx i=>g a i λl h=>j a h λu b=>r x l u b Q
theorem Kv{r:V->Option Int->Option Int->Hp->VK->Prop}(K:lj X r)(N:PE X e f)(L:PO X c g)(G:PO X d j):PE X (.Subscript e (.Slice c d ae m) n) (Mf r f g j):=by intro o s i H Q I h;refine Subscript_ (aR (N o s i H _ I h) λv A ⟨x,H1,Y,r1,D⟩=>?_);refine wpAny_Slice (aR (L o A i H1 _ Y D) λw z ⟨l,Z,W,F,C⟩=>aR (G o z i Z _ W C) λp a ⟨u,y,S,E,B⟩=>?_);rw[evalPart_none];refine aQ ?_;have P:Inv X o i y {a with heap:=a.heap.push {cls:=.type "slice",data:=.fields #[w,p,.none]}}:=S.kept (t':=a.toks) λb ob q=>bf _ q;obtain⟨T,id,O,J,M⟩:=K o {a with heap:=a.heap.push {cls:=.type "slice",data:=.fields #[w,p,.none]}} i y x v w p l u a.heap.objs.size Q P r1 (Heap.IsSliceOf.new ..) F E B;show aw (aA X.prog X.w) X.A (subscriptTail e (.Slice c d ae m) v (.ref a.heap.objs.size)) (EP X o i Q) X.xe {a with heap:=a.heap.push {cls:=.type "slice",data:=.fields #[w,p,.none]}};exact tail_any (ops:=[.ref a.heap.objs.size,v]) J O M (by with_unfolding_all rfl)
def mh(a:List V)(c d:Option Int):List V:=(a.drop (HT.sIx a.length 0 c)).take (HT.sIx a.length a.length d-HT.sIx a.length 0 c)
theorem Bb(a:List V)(c d:Option Int):(mh a c d).length<=a.length:=by unfold mh;rw[p4,m_];lia
def Ds(K:ar):V->Option Int->Option Int->Hp->VK->Prop:=λx c d H Q=>∃a b,x=.ref a/\cS K H a b /\
 ¬(HT.sIx b.length 0 c=0/\HT.sIx b.length b.length d=b.length)/\∀p,H p=ae->Q (.ref p) (upd H p (.tup (mh b c d)))
theorem IX:lj X (Ds X.K):=by
 intro L s E H x v G F c d J Q I y D A z h;obtain⟨a,i,rfl,B,C,q⟩:=h;cases y;obtain⟨l,r,w,u⟩:=I.tuple B;have p:l.toArray.size=i.length:=by rw[cD];exact r.length.symm
 refine⟨"tuple",_,PyProof.Rows.slot_tuple_getitem.lookup,w.typeIs,?_⟩;refine HT.getItem_tuple_cut w D A z (by rw[p];exact C) ?_ (by rw[p];exact u);rw[p];refine⟨.ref s.heap.objs.size,_,I.laid (t':=s.toks) (o:=.tup (mh i c d)) (λb K q=>bf _ q) (ba _) ?_,rfl,q _ (I.hok.fresh (ba _))⟩;exact⟨c4 (Bb i c d) u,_,(r.drop (HT.sIx i.length 0 c)).take (HT.sIx i.length i.length d-HT.sIx i.length 0 c),EB.new _ _⟩
def BI(K:ar):R2:=λx y H Q=>∃a b i h,x=.ref a/\y=.ref b/\cS K H a i/\cS K H b h/\i≠[]/\i.length+h.length<=a6 /\
 (h=[]->Q (.ref a) H)/\(h≠[]->∀p,H p=ae->Q (.ref p) (upd H p (.tup (i++h))))
theorem bx.nil_iff{a:List V}{b:List ai}(r:bx a b):b=[]↔a=[]:=by
 cases r with
 |nil=>simp
 |cons _ _=>simp
theorem Pg:b8 X (i_ .Add) (BI X.K):=by
 intro O s M H x y v u Q I C B h;obtain⟨a,b,A,r,rfl,rfl,L,K,J,p,E,D⟩:=h;cases C;cases B;obtain⟨G,r1,F,_⟩:=I.tuple L;obtain⟨l,i,m,_⟩:=I.tuple K;refine HT.cat_tup F m (λz=>J (r1.nil_iff.mp z)) (λz=>⟨.ref a,H,I,rfl,E (i.nil_iff.mp z)⟩) (λz=>?_) (by rw[<-r1.length,<-i.length];exact p);refine⟨.ref s.heap.objs.size,_,I.laid (t':=s.toks) (o:=.tup (A++r)) (λb N q=>bf _ q) (ba _) ?_,rfl,D (λw=>z (i.nil_iff.mpr w)) _ (I.hok.fresh (ba _))⟩;exact⟨by rw[eN];exact p,_,r1.append i,EB.new _ _⟩
end
def li(n:Nat)(i:Int):Option Nat:=if 0<=i then(if i<n then aa i.toNat else ae)else if -(n:Int)<=i then aa (i+n).toNat else ae
def c9{a:Type}(xs:List a)(i:Int):Option a:=(li xs.length i).bind λj=>xs[j]?
theorem Ip{n:Nat}{i:Int}{j:Nat}(h:li n i=aa j):seqIndex? i n=aa j/\j<n/\-(n:Int)<=i/\i<n:=by
 unfold li at h;by_cases b:0<=i
 .rw[if_pos b]at h;by_cases a:i<n
  .rw[if_pos a]at h;have e:i.toNat=j:=eD h;exact⟨by rw[seqIndex_of b a,e],∅,∅,a⟩
  .rw[if_neg a]at h;cases h
 .rw[if_neg b]at h;by_cases a:-(n:Int)<=i
  .rw[if_pos a]at h;have e:(i+n).toNat=j:=eD h;exact⟨by rw[seqIndex_neg ∅ a,e],∅,a,∅⟩
  .rw[if_neg a]at h;cases h
theorem xK{b:Type}{a:List b}{i:Int}{v:b}(h:c9 a i=aa v):∃j,seqIndex? i a.length=aa j/\a[j]?=aa v/\j<a.length/\-(a.length:Int)<=i/\i<a.length:=by
 unfold c9 at h;cases e:li a.length i with
 |none=>rw[e]at h;cases h
 |some j=>rw[e]at h;obtain⟨g,f,d,c⟩:=Ip e;exact⟨j,g,h,f,d,c⟩
theorem Ms{a:Type}{xs:List a}{j:Nat}{v:a}(h:xs[j]?=aa v):c9 xs (j:Int)=aa v:=by
 have b:j<xs.length:=(cI.mp h).1;have e:li xs.length (j:Int)=aa j:=by unfold li;rw[if_pos ∅,if_pos ∅];simp
 unfold c9;rw[e];exact h
def yM(b:ay):Prop:=∀o i,z9 b aj o i=operate [o,i] (ol o i)
def ke(X:Cx)(r:R2):Prop :=
 ∀(b a:ay) (d:List (ac×Obj)) (s:am) (c:St) (H:Hp) (x y:V) (v u:ai) (Q:VK),Inv X d c H s->RelV x v->RelV y u->r x y H Q ->
  z9 a aj v u=operate [v,u] (ol v u)->aw (aA X.prog X.w) X.A (subscriptTail b a v u) (EP X d c Q) X.xe s
def wn(X:Cx)(f:String)(r:V->List V->Hp->VK->Prop):Prop :=
 ∀(d:List (ac×Obj)) (s:am) (a:St) (H:Hp) (x:V) (b:List V) (v:ai) (c:List ai) (Q:VK),Inv X d a H s->RelV x v->bx b c->r x b H Q ->
  aw (aA X.prog X.w) X.A (call (.builtin f) (v::c)) (EP X d a Q) X.xe s
section
variable{X:Cx}{a b:ay}{G F:TE}{E:Pos}
theorem ke.or{r j:R2}(h:ke X r)(n:ke X j):ke X (λx y H Q=>r x y H Q\/j x y H Q):=by
 intro c d m s f H x y v u Q I i g q l;rcases q with q|q
 .exact h c d m s f H x y v u Q I i g q l
 .exact n c d m s f H x y v u Q I i g q l
theorem Cm{r:R2}(j:ke X r)(m:PE X a G)(l:PE X b F)(i:yM b):PE X (.Subscript a b E) (uN r G F):=by intro n s c H Q I h;exact Subscript_ (zw m l I h λv u d x y p o g f q=>j a b n d c p x y v u Q o g f q (i _ _))
def Df(K:ar):R2:=λx y H Q=>∃p c i v,x=.ref p/\y=.int i/\cb K H p c/\c9 c i=aa v/\Q v H
def AL(K:ar):R2:=λx y H Q=>∃p c i v,x=.ref p/\y=.int i/\cS K H p c/\c9 c i=aa v/\Q v H
def AY:R2:=λx y H Q=>∃z i c,x=.str z/\y=.int i/\z.length<=a6/\c9 z.cps.toList i=aa c/\Q (.str ⟨#[c]⟩) H
theorem Pj:ke X (Df X.K):=by
 intro f g J s A H x y v u Q I M L h B;obtain⟨p,Y,i,z,rfl,rfl,N,P,q⟩:=h;cases M;obtain⟨t,rfl⟩:=L;obtain⟨n,r,m,Z⟩:=I.list N;obtain⟨j,d,W,h3,T,S⟩:=xK P;obtain⟨w,D,l⟩:=r.get W;have O:=r.length;have hn:=u_;have c:EP X J A Q w s:=⟨z,H,I,l,q⟩
 by_cases C:0<=i
 .have o:i.toNat=j:=by
   rw[seqIndex_of C S]at d;exact eD d
  exact item_listR m.isList C ∅ (by rw[o];simpa using D) c B
 .have o:(i+(n.toArray.size:Int)).toNat=j:=by
   rw[seqIndex_neg ∅ T]at d;rw[cD,<-O];exact eD d
  exact subscriptTail_builtinR (x:=w) m.isList.typeIs slot_list_getitem.lookup
   (wpAny_getItem_list_neg (Q:=λr K=>r=w/\EP X J A Q r K) m.isList ∅ (by rw[cD] <;> lia) ∅ (by rw[o];simpa using D) ⟨rfl,c⟩) B
theorem Po:ke X (AL X.K):=by
 intro c d n s l H x y v u Q I B A h D;obtain⟨p,P,i,z,rfl,rfl,J,L,q⟩:=h;cases B;obtain⟨t,rfl⟩:=A;obtain⟨C,r,m,S⟩:=I.tuple J;obtain⟨j,N,M,Z,Y,W⟩:=xK L;obtain⟨w,O,f⟩:=r.get M;have K:=r.length;have T:=u_;have g:EP X n l Q w s:=⟨z,H,I,f,q⟩
 exact subscriptTail_builtinR (x:=w) m.typeIs slot_tuple_getitem.lookup
  (getItem_tuple (j:=j) (Q:=λr o=>r=w/\EP X n l Q r o) m ∅ ∅ (by rw[cD,<-K];exact N) (by simpa using O) ⟨rfl,g⟩) D
theorem Kr:ke X AY:=by
 intro d f N s D H x y v u Q I m l h n;obtain⟨z,i,c,rfl,rfl,K,p,q⟩:=h;obtain⟨t,rfl⟩:=m;obtain⟨J,rfl⟩:=l;obtain⟨j,g,A,M,w,r⟩:=xK p;have o:z.cps.toList.length=z.length:=by simp[Str.length]
 rw[o]at g w r;have L:=u_;exact tail_any (typeIs_str s z t) slot_str_getitem.lookup (getItem_str (c:=c) (by have C:decide (i < -(2^63:Int))=aj:=decide_eq_false ∅;have B:decide (i ≥ 2^63)=aj:=decide_eq_false ∅;rw[C,B,Bool.or_false]) (by rw[g];simpa using A) ⟨.str ⟨#[c]⟩,H,I.tok _,⟨_,rfl⟩,q⟩) n
def DV(K:ar):R2:=λx y H Q=>Df K x y H Q\/AL K x y H Q\/AY x y H Q
theorem gk:ke X (DV X.K):=Pj.or (Po.or Kr)
theorem Lq(c d:Option Int)(n:Nat):(p7 c d ae n).1=((HT.sIx n 0 c:Nat):Int)/\(p7 c d ae n).2.1=((HT.sIx n n d:Nat):Int)/\(p7 c d ae n).2.2=1:=by
 refine⟨?_,?_,rfl⟩
 .cases c with
  |none=>simp[p7,HT.sIx]
  |some i=>
   simp only[p7,HT.sIx,EM,show(1:Int) > 0 by decide,if_true];by_cases h:i<0
   .simp only[h,if_true] <;> lia
   .simp only[h,if_false] <;> lia
 .cases d with
  |none=>simp[p7,HT.sIx]
  |some i=>
   simp only[p7,HT.sIx,EM,show(1:Int) > 0 by decide,if_true];by_cases h:i<0
   .simp only[h,if_true] <;> lia
   .simp only[h,if_false] <;> lia
theorem GO(c:List ai)(d f:Option Int):slicePick c.toArray d f ae=((c.drop (HT.sIx c.length 0 d)).take (HT.sIx c.length c.length f-HT.sIx c.length 0 d)).toArray:=by obtain⟨i,h,g⟩:=Lq d f c.toArray.size;unfold slicePick;rw[i,h,g];simp only[sliceRange_one,pick_run,cD] <;> rfl
def Ch(K:ar):V->Option Int->Option Int->Hp->VK->Prop:=λx d f H Q=>∃a c,x=.ref a/\cb K H a c/\∀p,H p=ae->Q (.ref p) (upd H p (.lst (mh c d f)))
theorem Pb:lj X (Ch X.K):=by
 intro D s y H x v A z d f B Q I i u l j h;obtain⟨a,c,rfl,p,q⟩:=h;cases i;obtain⟨m,r,g,n⟩:=I.list p;have w:=r.length;refine⟨"list",_,slot_list_getitem.lookup,g.isList.typeIs,?_⟩;refine wpAny_getItem_list_slice g.isList u l j .none (by simp) ?_ (by rw[cD] <;> lia);rw[GO,<-w];refine⟨.ref s.heap.objs.size,_,I.laid (t':=s.toks) (o:=.lst (mh c d f)) (λb C q=>bf _ q) (ba _) ?_,rfl,q _ (I.hok.fresh (ba _))⟩;exact⟨c4 (Bb c d f) n,_,0,(r.drop (HT.sIx c.length 0 d)).take (HT.sIx c.length c.length f-HT.sIx c.length 0 d),cj _ rfl⟩
def g7:V->Bool
 |.non=>ah
 |.bl _=>ah
 |.int _=>ah
 |.str _=>ah
 |_=>aj
def fI:V->V->Bool
 |.non,.non=>ah
 |.bl a,.bl b=>a == b
 |.bl a,.int b=>(if a then 1 else 0) == b
 |.int a,.bl b=>a == (if b then 1 else 0)
 |.int a,.int b=>a == b
 |.str a,.str b=>a == b
 |_,_=>aj
theorem Ci{A:aX}{s:am}{y x:V}{u v:ai}(f:RelV y u)(c:RelV x v)(h:g7 y=ah)(g:g7 x=ah):wA A s u v (fI y x):=by
 cases y with
 |non=>
  cases f;cases x with
  |non=>cases c;exact SeqAt.EqAt.same _
  |bl b=>cases c;exact SeqAt.EqAt.none_bool b
  |int b=>obtain⟨t,rfl⟩:=c;exact SeqAt.EqAt.none_int b t
  |str b=>obtain⟨t,rfl⟩:=c;exact SeqAt.EqAt.none_str b t
  |_=>exact absurd (show aj=ah from g) fu
 |bl a=>
  cases f;cases x with
  |non=>cases c;exact SeqAt.EqAt.bool_none a
  |bl b=>cases c;exact SeqAt.EqAt.bool_bool a b
  |int b=>obtain⟨t,rfl⟩:=c;exact SeqAt.EqAt.bool_int a b t
  |str b=>obtain⟨t,rfl⟩:=c;exact SeqAt.EqAt.bool_str a b t
  |_=>exact absurd (show aj=ah from g) fu
 |int a=>
  obtain⟨d,rfl⟩:=f;cases x with
  |non=>cases c;exact SeqAt.EqAt.int_none a d
  |bl b=>cases c;exact SeqAt.EqAt.int_bool a d b
  |int b=>obtain⟨t,rfl⟩:=c;exact SeqAt.EqAt.int_int a d b t
  |str b=>obtain⟨t,rfl⟩:=c;exact SeqAt.EqAt.int_str a d b t
  |_=>exact absurd (show aj=ah from g) fu
 |str a=>
  obtain⟨d,rfl⟩:=f;cases x with
  |non=>cases c;exact SeqAt.EqAt.str_none a d
  |bl b=>cases c;exact SeqAt.EqAt.str_bool a d b
  |int b=>obtain⟨t,rfl⟩:=c;exact SeqAt.EqAt.str_int a d b t
  |str b=>obtain⟨t,rfl⟩:=c;exact SeqAt.EqAt.str_str a d b t
  |_=>exact absurd (show aj=ah from g) fu
 |_=>exact absurd (show aj=ah from h) fu
def jR(x:V)(u:ai):Bool:=match u with
 |.none=>fI .non x
 |.bool b=>fI (.bl b) x
 |.int i _=>fI (.int i) x
 |.str z _=>fI (.str z) x
 |_=>aj
theorem x8{x y:V}{u:ai}(r:RelV y u)(f:g7 y=ah):jR x u=fI y x:=by
 cases y with
 |non=>cases r;rfl
 |bl b=>cases r;rfl
 |int i=>obtain⟨t,rfl⟩:=r;rfl
 |str z=>obtain⟨t,rfl⟩:=r;rfl
 |_=>exact absurd (show aj=ah from f) fu
theorem yC{x:V}:∀{c:List V}{d:List ai},bx c d->c.all g7=ah->d.any (jR x)=c.any λy=>fI y x
 |_,_,.nil,_=>rfl
 |y::c,u::d,.cons r t,f=>by rw[p8,dW]at f;rw[kJ,kJ,x8 r f.1,yC t f.2]
theorem uK{A:aX}{s:am}{x:V}{v:ai}(h:RelV x v)(i:g7 x=ah):∀{d:List V}{g:List ai},bx d g->d.all g7=ah->∀u∈g,wA A s u v (jR x u)
 |_,_,.nil,_=>λu c=>by cases c
 |y::d,u::g,.cons r t,f=>λj c=>by
  rw[p8,dW]at f;rcases bW.mp c with rfl|c
  .rw[x8 r f.1];exact Ci r h f.1 i
  .exact uK h i t f.2 j c
def rK(x:V)(c:List V):Bool:=c.any λy=>fI y x
def yA(K:ar)(d:Bool):R2:=λx y H Q=>∃p c,y=.ref p/\(cb K H p c\/cS K H p c)/\g7 x=ah/\c.all g7=ah/\Q (.bl (if d then !rK x c else rK x c)) H
theorem Nh:b8 X (eh .In) (yA X.K aj):=by
 intro z s n H x y v u Q I i l h;obtain⟨p,o,rfl,d,j,fs,q⟩:=h;cases l;rcases d with d|d
 .obtain⟨c,r,f,m⟩:=I.list d;refine SeqAt.in_listAt (jR x) f.isList (λw g=>uK i j r fs w (by simpa using g)) ⟨.bl _,H,I,rfl,?_⟩;rw[show c.toArray.any (jR x)=c.any (jR x) by simp,yC r fs];exact q
 .obtain⟨c,r,f,m⟩:=I.tuple d;refine SeqAt.in_tupleAt (jR x) f (λw g=>uK i j r fs w (by simpa using g)) ⟨.bl _,H,I,rfl,?_⟩;rw[show c.toArray.any (jR x)=c.any (jR x) by simp,yC r fs];exact q
theorem zM:ff X (.type "list") (λB H Q=>∃p f,B=[.ref p]/\(cb X.K H p f\/cS X.K H p f)/\∀l,H l=ae->Q (.ref l) (upd H l (.lst f))):=by
 intro L s D H B M Q I r h;obtain⟨p,f,rfl,v,q⟩:=h;obtain⟨u,rfl,J⟩:=vals1 r;cases J;have w:∀(c:List ai),bx f c->f.length<=a6->∀(d:aF) (i:Nat),(∀b C,s.heap.get? b=aa C->d.get? b=aa C) ->
   d.get? s.heap.objs.size=aa {cls:=.type "list",dict:=ae,data:=.seq c.toArray i,slots:=#[]}->EP X L D Q (.ref s.heap.objs.size) {s with heap:=d}:=λc g m d i j e=>
  ⟨.ref s.heap.objs.size,_,I.laid (t':=s.toks) j (ba _) (show cV X.prog X.w _ d _ (.lst f)from⟨m,c,i,g,e⟩),rfl,q _ (I.hok.fresh (ba _))⟩
 rcases v with v|v
 .obtain⟨c,g,x,m⟩:=I.list v;have K:=g.length;obtain⟨o,y,A,n,z⟩:=x.isList;exact call_list_seq p (.inl rfl) y A z (λd i j e=>w c g m d i j e) (by simp only[cD] <;> lia)
 .obtain⟨c,g,x,m⟩:=I.tuple v;have K:=g.length;obtain⟨o,y,A,n,z⟩:=x;exact call_list_seq p (.inr rfl) y A z (λd i j e=>w c g m d i j e) (by simp only[cD] <;> lia)
theorem sm:ff X (.type "tuple") (λm H Q=>∃p d,m=[.ref p]/\((cb X.K H p d/\∀l,H l=ae->Q (.ref l) (upd H l (.tup d)))\/(cS X.K H p d/\Q (.ref p) H))):=by
 intro v s j H m A Q I r h;obtain⟨p,d,rfl,h⟩:=h;obtain⟨u,rfl,x⟩:=vals1 r;cases x;rcases h with⟨hq,q⟩|⟨hq,q⟩
 .obtain⟨c,g,i,n⟩:=I.list hq;have B:=g.length;refine call_tuple_list i.isList (λf y=>?_) (by simp only[cD] <;> lia);have w:Inv X v j H {s with heap:=f}:=I.kept (t':=s.toks) y;have z:Inv X v j (upd H f.objs.size (.tup d)) {s with heap:=f.push {cls:=.type "tuple",data:=.seq c.toArray}} :=w.laid (t':=s.toks) (λb o e=>bf _ e) (ba _) (show cV X.prog X.w _ _ _ (.tup d)from⟨n,c,g,EB.new _ _⟩);exact⟨.ref f.objs.size,_,z,rfl,q _ (w.hok.fresh (ba _))⟩
 .obtain⟨c,g,i,n⟩:=I.tuple hq;exact call_tuple_same i ⟨.ref p,H,I,rfl,q⟩
def zK(K:ar)(T:String)(x:V)(H:Hp):Prop:=match x with
 |.str _=>T = "str"
 |.int _=>T = "int"
 |.ref p=>(T = "list"/\∃d,cb K H p d)\/(T = "tuple"/\∃o,K.lookup p=aa o/\o.cls=.type "tuple"/\o.dict=ae) \/
   (T = "dict"/\((∃c,H p=aa (.dK c))\/∃c,H p=aa (.dT c)))\/(T = "set"/\∃S n,H p=aa (.set S n))
 |_=>False
theorem BL{q:List (ac×Obj)}{l:St}{H:Hp}{s:am}{T:String}{x:V}{v:ai}(I:Inv X q l H s)(r:RelV x v)(ty:zK X.K T x H):s.TypeIs v T/\∀a,v=.ref a->∃j,s.heap.get? a=aa j/\j.dict=ae:=by
 cases x with
 |str z=>
  obtain⟨t,rfl⟩:=r;cases (show T = "str" from ty);exact⟨typeIs_str s z t,λ_ e=>nomatch e⟩
 |int i=>
  obtain⟨t,rfl⟩:=r;cases (show T = "int" from ty);exact⟨typeIs_int s i t,λ_ e=>nomatch e⟩
 |ref p=>
  cases r;rcases ty with⟨rfl,xs,hq⟩|⟨rfl,o,hk,hc,f⟩|⟨rfl,hk⟩|⟨rfl,S,n,hk⟩
  .obtain⟨m,_,h,_⟩:=I.list hq;refine⟨h.isList.typeIs,λa e=>?_⟩;cases e;obtain⟨o,n,e,c,f,_⟩:=h;exact⟨o,e,f⟩
  .refine⟨⟨o,I.kIn p o hk,hc⟩,λa e=>?_⟩;cases e;exact⟨o,I.kIn _ o hk,f⟩
  .have z:∃o,s.heap.get? p=aa o/\o.ExactDict:=by
    rcases hk with⟨kvs,hk⟩|⟨kvs,hk⟩
    .obtain⟨_,_,_,_,o,_,_,e,d,_⟩:=I.hok p _ hk;exact⟨o,e,d⟩
    .obtain⟨_,_,_,_,o,_,_,e,d,_⟩:=I.hok p _ hk;exact⟨o,e,d⟩
   obtain⟨o,e,d⟩:=z;refine⟨⟨o,e,d.1⟩,λa g=>?_⟩;cases g;exact⟨o,e,d.2.1⟩
  .obtain⟨o,_,_,_,e,d,_⟩:=I.hok p _ hk;refine⟨⟨o,e,d.1⟩,λa g=>?_⟩;cases g;exact⟨o,e,d.2.1⟩
 |_=>exact jb ty
def Mr(K:ar)(T:String)(r:V->List V->Hp->VK->Prop)(B:TE):TE:=λd H Q=>B d H λx c=>zK K T x c/\r x [] c Q
def HY(K:ar)(T:String)(r:V->List V->Hp->VK->Prop)(B:TE)(t:TA):TE:=λc H Q=>B c H λx d=>zK K T x d/\t c d λf g=>r x f g Q
variable{o e:ay}{D:List ay}{B:TE}{t:TA}{g:Str}{m d:Pos}{T C:String}{r:V->List V->Hp->VK->Prop}
theorem Ia(p:PlainAttrs T)(c:Slot T g C)(q:typeOf (.builtin C)=pure (.type "method_descriptor"))(z:wn X C r)(y:PE X o B)(w:hV o g X.env (aL o X.env)=aL o X.env:=by rfl) (u:(m.endLine == d.line)=ah:=by rfl):PE X (.Call (.Attribute o g m) [] [] d) (Mr X.K T r B):=by intro i s f H Q I h;refine wpAny_Call_method0_late w u (aR (y i s f H _ I h) λv l ⟨x,K,j,r1,ty,n⟩=>?_);obtain⟨J,A⟩:=BL j r1 ty;exact⟨T,C,p,c,q,J,A,wB rfl (PySem.evalArgs_none (z i l f K x [] v [] Q j r1 .nil n))⟩
theorem zq(A:PlainAttrs T)(f:Slot T g C)(J:typeOf (.builtin C)=pure (.type "method_descriptor"))(O:wn X C r)(N:PE X o B)(P:PA X (e::D) t)(L:hV o g X.env (aL o X.env)=aL o X.env:=by rfl)(AC:((cm d (aP (e::D) X.env)).all (λx=>!x.1)&&(mZ d (m8 [] X.env)).all (λx=>x.1.isSome)&&decide ((e::D).length+([]:List je).length+(if([]:List je).isEmpty then 0 else 1)<30))=ah:=by rfl)(K:(m.endLine == d.line)=ah:=by rfl) (M:aP (e::D) X.env=(aj,aL e X.env)::aP D X.env:=by rfl) (c:(cm d (aP D X.env)).any (·.1)=aj:=by rfl):PE X (.Call (.Attribute o g m) (e::D) [] d) (HY X.K T r B t):=by intro j s i H Q I h;refine wpAny_Call_method_late L AC K rfl (aR (N j s i H _ I h) λv u ⟨x,H1,n,r1,ty,z⟩=>?_);obtain⟨W,S⟩:=BL n r1 ty;refine⟨T,C,A,f,J,W,S,?_⟩;have l:=P d j u i H1 _ n z;rw[M]at l ⊢;refine wB (by show(aj||(cm d (aP D X.env)).any (·.1))=aj;rw[c] <;> rfl) (wC ?_);exact aR l λp q ⟨vs,Z,Y,w,y⟩=>O j q i Z x vs v p Q Y r1 w y
end
def zQ(X:Cx)(f:String)(r:V->List V->Hp->VK->Prop):Prop :=
 ∀(d:List (ac×Obj)) (s:am) (a:St) (H:Hp) (x:V) (b:List V) (v:ai) (c:List ai) (Q:VK),Inv X d a H s->RelV x v->bx b c->r x b H Q ->
  aw (aA X.prog X.w) X.A (call (.builtin f) (v::c)) (EP X d a Q) X.xe s
theorem bx.one:∀{x:V}{a:List ai},bx [x] a->∃u,a=[u]/\RelV x u
 |_,_,.cons r .nil=>⟨_,rfl,r⟩
theorem bx.zero:∀{a:List ai},bx [] a->a=[]
 |_,.nil=>rfl
section
variable{X:Cx}{c:List (ac×Obj)}{σ:St}{H:Hp}{s:am}{l b:ac}{xs a d:List V}
theorem Inv.lset{g its':List ai}{n:Nat}{f:Array ai->Array ai}{h:Nat}(I:Inv X c σ H s)(r:H l=aa (.lst xs))(e:s.heap.get? l=aa {cls:=.type "list",data:=.seq g.toArray n}) (o:f g.toArray=its'.toArray) (j:bx a its') (i:a.length<=a6):Inv X c σ (upd H l (.lst a)) {s with heap:=s.heap.update l (kK f),toks:=h}:=by have q:=PySem.IsL.update e f;rw[o]at q;refine I.write (x:=l) (e:=l) (by rw[r];exact trivial) (.inl rfl) (λv u p m=>(p9 s.heap (kK f) (d_ p)).trans m) ⟨_,q⟩ ?_;exact⟨i,its',_,j,q⟩
theorem Inv.lnew{its:List ai}{t':Nat}(I:Inv X c σ H s)(g:bx a its)(f:a.length<=a6):Inv X c σ (upd H s.heap.objs.size (.lst a)) {s with heap:=s.heap.push {cls:=.type "list",data:=.seq its.toArray},toks:=t'} :=I.laid (λ_ _ q=>bf _ q) (ba _) ⟨f,its,0,g,cj _ rfl⟩
theorem Inv.fresh(I:Inv X c σ H s):H s.heap.objs.size=ae:=I.hok.fresh (ba _)
theorem Inv.lstM(I:Inv X c σ H s)(g:H l=aa (.lst xs)):xs.length<=a6/\∃(f:List ai) (n:Nat),bx xs f/\xs.length=f.length/\s.heap.get? l=aa {cls:=.type "list",data:=.seq f.toArray n}:=by obtain⟨z,f,n,r,e⟩:=I.hok l _ g;exact⟨z,f,n,r,r.length,e⟩
theorem MH{n:Nat}(h:n<=a6):EN n=aj:=by unfold EN;exact decide_eq_false ∅
end
section
variable{X:Cx}
def K4:V->List V->Hp->VK->Prop:=λx b H Q=>∃l a y,x=.ref l/\b=[y]/\H l=aa (.lst a)/\a.length<a6/\Q .non (upd H l (.lst (a++[y])))
theorem yK:zQ X "list.append" K4:=by
 intro m s f H x vs v g Q I b c h;obtain⟨l,xs,y,rfl,rfl,a,i,q⟩:=h;cases b;obtain⟨u,rfl,d⟩:=c.one;obtain⟨z,its,n,r,j,e⟩:=I.lstM a;refine call_meets F.slot_list_append ⟨_,e,rfl⟩ F.entry_list_append (F.args_list_append_2 _ _) (PySem.list_append l its.toArray n u (by rw[cD];lia)) ⟨e,?_⟩;refine⟨.non,_,I.lset (its':=its++[u]) a e (by simp) (r.append (.cons d .nil)) ?_,rfl,q⟩;rw[eN,sS];lia
theorem Ky{b:Type}(a:List b)(k:Nat):(cM k a).flatten.length=k*a.length:=by
 induction k with
 |zero=>simp
 |succ k c=>rw[EO,List.flatten_cons,eN,c,Nat.succ_mul,Nat.add_comm]
end
section
variable{a:Type}[DecidableEq a]
def d7(kvs:List (a×V))(k:a):Option V:=(kvs.find? λb=>decide (b.1=k)).map (·.2)
def eC(b:List (a×V))(k:a)(v:V):List (a×V) :=if(b.any λc=>decide (c.1=k))=ah then b.map (λc=>if c.1=k then(c.1,v)else c)else b++[(k,v)]
theorem pE{p:a×V}{r:List (a×V)}{k:a}(e:p.1=k):d7 (p::r) k=aa p.2:=by simp[d7,fQ,e]
theorem nQ{p:a×V}{r:List (a×V)}{k:a}(e:¬p.1=k):d7 (p::r) k=d7 r k:=by simp[d7,fQ,e]
theorem xW(k:a):∀b:List (a×V),(b.any λc=>decide (c.1=k))=(d7 b k).isSome
 |[]=>rfl
 |p::r=>by
  rw[kJ];by_cases e:p.1=k
  .simp only[pE e,decide_eq_true e,Bool.true_or,Option.isSome_some]
  .rw[nQ e,decide_eq_false e,Bool.false_or];exact xW k r
theorem zI(b:List (a×V))(k:a)(v:V):(eC b k v).length<=b.length+1:=by
 unfold eC;split
 .rw[bO];lia
 .rw[eN,eX,lX];lia
theorem HP{b:List (a×V)}{k:a}(v:V)(h:d7 b k=ae):eC b k v=b++[(k,v)]:=by unfold eC;rw[xW,h];exact if_neg (by decide)
theorem kD.isSome_eq{o:Option V}{u:Option ai}(r:kD o u):o.isSome=u.isSome:=by
 cases o with
 |none=>cases u with
  |none=>rfl
  |some _=>exact(show False from r).elim
 |some _=>cases u with
  |none=>exact(show False from r).elim
  |some _=>rfl
theorem kD.getD{o:Option V}{u:Option ai}{d:V}{b:ai}(r:kD o u)(rd:RelV d b):RelV (o.getD d) (u.getD b):=by
 cases o with
 |none=>cases u with
  |none=>exact rd
  |some _=>exact(show False from r).elim
 |some _=>cases u with
  |none=>exact(show False from r).elim
  |some _=>exact r
theorem KV.val{kvs:List (a×V)}{vs:List (a×ai)}(r:KV kvs vs)(k:a):kD (d7 kvs k) (p_ vs k):=by
 unfold KV at r
 induction r with
 |nil=>exact True.intro
 |@cons p q ps qs h t ih=>
  obtain⟨d,f⟩:=h;by_cases e:p.1=k
  .have c:q.1=k:=d.symm.trans e;have b:p_ (q::qs) k=aa q.2:=by simp[p_,fQ,c]
   rw[pE e,b];exact f
  .have c:¬q.1=k:=λz=>e (d.trans z);have b:p_ (q::qs) k=p_ qs k:=by simp[p_,fQ,c]
   rw[nQ e,b];exact ih
theorem KV.any{b:List (a×V)}{vs:List (a×ai)}(r:KV b vs)(k:a):(b.any λc=>decide (c.1=k))=vs.any λc=>decide (c.1=k):=by
 unfold KV at r
 induction r with
 |nil=>rfl
 |cons h t d=>rw[kJ,kJ,d,h.1]
theorem KV.repl{c:List (a×V)}{f:List (a×ai)}(r:KV c f)(k:a){y:V}{u:ai}(g:RelV y u):KV (c.map λb=>if b.1=k then(b.1,y)else b) (f.map λb=>if b.1=k then(b.1,u)else b):=by
 unfold KV at r ⊢
 induction r with
 |nil=>exact .nil
 |@cons p q ps qs h t ih=>
  rw[dD,dD];refine .cons ?_ ih;obtain⟨d,i⟩:=h;by_cases e:p.1=k
  .rw[if_pos e,if_pos (d.symm.trans e)];exact⟨d,g⟩
  .rw[if_neg e,if_neg (λz=>e (d.trans z))];exact⟨d,i⟩
theorem KV.put{b:List (a×V)}{c:List (a×ai)}(r:KV b c)(k:a){y:V}{u:ai}(d:RelV y u):KV (eC b k y) (stored c k u):=by
 unfold eC stored;rw[r.any k];by_cases e:(c.any λf=>decide (f.1=k))=ah
 .rw[if_pos e,if_pos e];exact r.repl k d
 .rw[if_neg e,if_neg e];exact wD r ⟨rfl,d⟩
theorem KV.length{kvs:List (a×V)}{vs:List (a×ai)}(r:KV kvs vs):kvs.length=vs.length:=Paired.length r
end
theorem pV{P:a4}{w:aT}{k:aD}{u:ai}(r:RelV (kV k) u):(gf P w).is k u=ah:=by
 cases k with
 |inl i=>obtain⟨t,e⟩:=(show ∃t,u=Value.int i t from r);subst e;exact FZ P w i t
 |inr x=>obtain⟨t,e⟩:=(show ∃t,u=Value.str x t from r);subst e;exact Iv P w x t
theorem Br{P:a4}{w:aT}:∀{ks:List aD}{a:List ai},bx (ks.map kV) a->ItemsAre (gf P w) ks a
 |[],_,r=>by rw[List.map_nil]at r;cases r;exact .nil
 |k::ks,_,r=>by
  rw[dD]at r;cases r with
  |cons h t=>exact .cons (pV h) (Br t)
abbrev KT(H:Hp):List (List aD×V)->List (List aD×ac×ai)->Prop:=jV λp q=>p.1=q.1/\H q.2.1=aa (.tup (p.1.map kV))/\RelV p.2 q.2.2
theorem KT.val{H:Hp}{kvs:List (List aD×V)}{xs:List (List aD×ac×ai)}(r:KT H kvs xs)(k:List aD):kD (d7 kvs k) ((atKey xs k).map (·.2)):=by
 induction r with
 |nil=>exact True.intro
 |@cons p q ps qs h t ih=>
  obtain⟨c,_,d⟩:=h;by_cases e:p.1=k
  .have a:q.1=k:=c.symm.trans e;have b:atKey (q::qs) k=aa q.2:=by simp[atKey,fQ,a]
   rw[pE e,b];exact d
  .have a:¬q.1=k:=λz=>e (c.trans z);have b:atKey (q::qs) k=atKey qs k:=by simp[atKey,fQ,a]
   rw[nQ e,b];exact ih
theorem KT.repl{H:Hp}{a:List (List aD×V)}{d:List (List aD×ac×ai)}(r:KT H a d)(k:List aD){y:V}{u:ai}(g:RelV y u):KT H (a.map λc=>if c.1=k then(c.1,y)else c) (d.map (putAt k u)):=by
 induction r with
 |nil=>exact .nil
 |@cons p q ps qs h t ih=>
  rw[dD,dD];refine .cons ?_ ih;obtain⟨b,f,i⟩:=h;unfold putAt;by_cases e:p.1=k
  .rw[if_pos e,if_pos (b.symm.trans e)];exact⟨b,f,g⟩
  .rw[if_neg e,if_neg (λz=>e (b.trans z))];exact⟨b,f,i⟩
theorem KT.put{H:Hp}{a:List (List aD×V)}{c:List (List aD×ac×ai)}(r:KT H a c)(k:List aD){b:ac}{y:V}{u:ai}(g:H b=aa (.tup (k.map kV)))(d:RelV y u):KT H (eC a k y) (storedH c k b u):=by
 have e:(a.any λf=>decide (f.1=k))=(atKey c k).isSome:=by rw[xW,(r.val k).isSome_eq,Option.isSome_map]
 unfold eC storedH;rw[e];by_cases q:(atKey c k).isSome=ah
 .rw[if_pos q,if_pos q];exact r.repl k d
 .rw[if_neg q,if_neg q];exact wD r ⟨rfl,g,d⟩
theorem KT.keeps{H f:Hp}{a:List (List aD×V)}{d:List (List aD×ac×ai)}(r:KT H a d)(g:∀b c,H b=aa (.tup c)->f b=aa (.tup c)):KT f a d :=Paired.mapP r λ_ _ z=>⟨z.1,g _ _ z.2.1,z.2.2⟩
section
variable{P:a4}{w:aT}{H:Hp}{h:aF}{a:ac}
theorem Dy{u:HO}(ok:df P w H h)(e:Rd H a u):cV P w H h a u:=e.ok ok
theorem pW{b:List (aD×V)}(ok:df P w H h)(e:Rd H a (.dK b)):b.length<=a6/\(a == jW)=aj/\∃c,KV b c/\h.DictOf (gf P w) a c :=show cV P w H h a (.dK b)from Dy ok e
theorem rY{kvs:List (aD×V)}(ok:df P w H h)(e:H a=aa (.dK kvs)):kvs.length<=a6/\(a == jW)=aj/\∃b,KV kvs b/\h.DictOf (gf P w) a b:=pW ok (.inl e)
theorem r9{ks:List aD}(ok:df P w H h)(e:H a=aa (.tup (ks.map kV))):(sJ (gf P w)).is h ks a:=by
 obtain⟨_,b,r,⟨o,f,d,n,c⟩,_⟩:=(show cV P w H h a (.tup (ks.map kV))from ok a _ e)
 exact⟨o,b.toArray,n,f,d,c,by simpa using Br r⟩
theorem pL{b:List (List aD×V)}(ok:df P w H h)(e:Rd H a (.dT b)):b.length<=a6/\(a == jW)=aj /\ ∃d,KT H b d/\h.DictOfH (sJ (gf P w)) a d:=by
 obtain⟨z,y,d,r,o,s,u,n,j,i,g,f⟩:=(show cV P w H h a (.dT b)from Dy ok e)
 refine⟨z,y,d,r,o,s,u,n,j,i,g,λx c=>?_,f⟩;have all:∀{l:List (List aD×V)}{m:List (List aD×ac×ai)},KT H l m->∀x∈m,(sJ (gf P w)).is h x.1 x.2.1:=by
  intro l m q
  induction q with
  |nil=>intro x c;exact nomatch c
  |@cons p q ps qs hq t ih=>
   intro x c;rcases bW.mp c with e|c
   .subst e;exact r9 ok (by rw[<-hq.1];exact hq.2.1)
   .exact ih x c
 exact all r x c
theorem Gw{b:List (List aD×V)}(ok:df P w H h)(e:H a=aa (.dT b)):b.length<=a6/\(a == jW)=aj /\ ∃c,KT H b c/\h.DictOfH (sJ (gf P w)) a c:=pL ok (.inl e)
end
def kl(H:Hp)(a:ac)(y:V)(r:Option V):Prop :=(∃c k,Rd H a (.dK c)/\y=kV k/\r=d7 c k)\/∃c k b,Rd H a (.dT c)/\y=.ref b/\H b=aa (.tup (k.map kV))/\r=d7 c k
def wp(H:Hp)(a:ac)(y v:V)(d:Hp):Prop :=
 (∃c k,H a=aa (.dK c)/\y=kV k/\c.length<a6/\d=upd H a (.dK (eC c k v))) \/
 ∃c k b,H a=aa (.dT c)/\y=.ref b/\H b=aa (.tup (k.map kV))/\c.length<a6/\d=upd H a (.dT (eC c k v))
theorem kl.k{H:Hp}{a:ac}{kvs:List (aD×V)}{k:aD}(e:H a=aa (.dK kvs)):kl H a (kV k) (d7 kvs k):=.inl ⟨kvs,k,.inl e,rfl,rfl⟩
theorem kl.t{H:Hp}{a b:ac}{c:List (List aD×V)}{k:List aD}(e:H a=aa (.dT c))(d:H b=aa (.tup (k.map kV))):kl H a (.ref b) (d7 c k):=.inr ⟨c,k,b,.inl e,rfl,d,rfl⟩
theorem wp.k{H:Hp}{a:ac}{kvs:List (aD×V)}{k:aD}{v:V}(e:H a=aa (.dK kvs))(b:kvs.length<a6):wp H a (kV k) v (upd H a (.dK (eC kvs k v))):=.inl ⟨kvs,k,e,rfl,b,rfl⟩
theorem wp.t{H:Hp}{a b:ac}{c:List (List aD×V)}{k:List aD}{v:V}(e:H a=aa (.dT c))(f:H b=aa (.tup (k.map kV)))(d:c.length<a6):wp H a (.ref b) v (upd H a (.dT (eC c k v))):=.inr ⟨c,k,b,e,rfl,f,d,rfl⟩
section
variable{X:Cx}{f:List (ac×Obj)}{d:St}{H:Hp}{s:am}{a:ac}{y v:V}{u r:ai}{o:Option V}{A:aX}{E:ai->am->Prop}
theorem Inv.big(I:Inv X f d H s):jW<s.heap.objs.size:=by have h:b_<s.heap.objs.size:=(I.mod.glob.keeps I.bk).lt;exact z_ (by decide) h
theorem Kh{Q:ai->am->Prop}(B:A.units+1<cLine)(I:Inv X f d H s)(g:kl H a y (aa v))(q:RelV y u)(h:∀i n,Inv X f d H n->RelV v i->Q i n):aw (aA X.prog X.w) A (ol (.ref a) u) Q E s:=by
 rcases g with⟨kvs,k,e,ey,l⟩|⟨kvs,k,b,e,ey,eb,l⟩
 .subst ey;obtain⟨z,D,x,rel,m⟩:=pW I.hok e;obtain⟨i,j,c⟩:=kD.some_of (v:=v) (o:=p_ x k) (by rw[l];exact rel.val k);exact wpAny_getItem_of (pV q) m.mapOf j (h i _ (I.tok _) c)
 .subst ey;cases (show u=Value.ref b from q);obtain⟨z,D,w,rel,m⟩:=pL I.hok e;obtain⟨i,j,c⟩:=kD.some_of (v:=v) (o:=(atKey w k).map (·.2)) (by rw[l];exact rel.val k);obtain⟨p,C,F⟩:=sT.mp j;refine wpAny_getItem_heap (Aa B) (r9 I.hok eb) m C ?_;rw[F];exact h i _ (I.tok _) c
theorem MD{Q:ai->am->Prop}(n:A.units+1<cLine)(I:Inv X f d H s)(g:kl H a y o)(m:RelV y u)(h:∀j,Inv X f d H j->Q (.bool (!o.isSome)) j):aw (aA X.prog X.w) A (eh .NotIn u (.ref a)) Q E s:=by
 rcases g with⟨kvs,k,e,ey,l⟩|⟨kvs,k,b,e,ey,eb,l⟩
 .subst ey;obtain⟨z,c,w,rel,i⟩:=pW I.hok e;refine wpAny_notIn_of (pV m) c i.mapOf ?_;rw[<-(rel.val k).isSome_eq,<-l];exact h _ (I.tok _)
 .subst ey;cases (show u=Value.ref b from m);obtain⟨z,c,p,rel,i⟩:=pL I.hok e;refine wpAny_notIn_heap (Aa n) (r9 I.hok eb) c i ?_;have q:=(rel.val k).isSome_eq;rw[Option.isSome_map]at q;rw[<-q,<-l];exact h _ (I.tok _)
theorem xy{c:aF}{h:Nat}{g:HO}(I:Inv X f d H s)(i:rF (H a))(j:jX a s.heap c)(l:∃q,c.get? a=aa q)(new:cV X.prog X.w (upd H a g) c a g):Inv X f d (upd H a g) {s with heap:=c,toks:=h} :=I.write (x:=a) (e:=a) i (.inl rfl) (λb q m z=>(j.2 b m).trans z) l new
theorem A4{P:a4}{w:aT}{j:Hp}{g:aF}{b:List (aD×V)}{c:List (aD×ai)}(z:b.length<=a6)(h:(a == jW)=aj)(rel:KV b c)(i:g.DictOf (gf P w) a c):cV P w j g a (.dK b):=⟨z,h,c,rel,i⟩
theorem IA{J:Hp}{Q:Unit->am->Prop}(M:A.units+1<cLine)(I:Inv X f d H s)(g:wp H a y v J)(C:RelV y u)(D:RelV v r)(h:∀B,Inv X f d J B->Q () B):aw (aA X.prog X.w) A (setItem (.ref a) u r) Q E s:=by
 rcases g with⟨kvs,k,e,ey,l,eH⟩|⟨kvs,k,b,e,ey,eb,l,eH⟩
 .subst ey eH;obtain⟨z,w,L,rel,x⟩:=rY I.hok e;have m:L.length<=a6:=by rw[<-rel.length];exact z
  have p:(eC kvs k v).length<=a6:=by have:=zI kvs k v;lia
  refine wpAny_setItem_pairs (hsz:=m) (pV C) x λF i n=>h _ ?_;have N:∃q,F.get? a=aa q:=let ⟨q,_,_,j,_⟩:=i;⟨q,j⟩
  exact xy I (by rw[e];exact True.intro) n N (A4 p w (rel.put k D) i)
 .subst ey eH;cases (show u=Value.ref b from C);obtain⟨z,w,K,rel,x⟩:=Gw I.hok e;have m:K.length<=a6:=by rw[<-Paired.length rel];exact z
  have p:(eC kvs k v).length<=a6:=by have:=zI kvs k v;lia
  refine wpAny_setItem_heap (hsz:=m) (Aa M) (r9 I.hok eb) x λF i n=>h _ ?_;obtain⟨q,W,Y,j,T,S,P,_,O⟩:=i;refine xy I (by rw[e];exact True.intro) n ⟨q,j⟩ ⟨p,w,_,(rel.put k eb D).keeps λc Z G=>?_,q,W,Y,j,T,S,P,O⟩;rw[bj (Gm G e (λz=>nomatch z))];exact G
end
def vo(i:ay):Prop:=∀ov a,z9 i aj ov a=operate [ov,a] (ol ov a)
theorem N_{a:a4}{w:aT}{A:aX}{E:ai->am->Prop}{s:am}{m:Env}{c b:ay}{q:Pos}{T v:String}{Q:ai->am->Prop}(z:typeLookup (.type T) "__getitem__"=pure (aa (.builtin v))) (y:vo b)(h:aw (aA a w) A (aL c m) (λo j=>aw (aA a w) A (aL b m) (λi d=>d.TypeIs o T/\aw (aA a w) A (ol o i) Q E d) E j) E s):aw (aA a w) A (aL (.Subscript c b q) m) Q E s:=by
 refine Subscript_ (eW h (λo j p=>eW p (λi d f=>?_) λ_ _ x=>x) λ_ _ x=>x);obtain⟨u,f⟩:=f;unfold subscriptTail;refine au ?_;rw[getitemInPython_of_ne u.not_modules];refine au (wpAny_specialOf u z ?_);have l:aw (aA a w) A (z9 b aj o i) (λr g=>aw (aA a w) A (letTemporaryGo c o r >>= λ_=>pure r) Q E g) E d:=by rw[y o i];exact wpAny_operating (eW f (λr g n=>au (wpAny_letTemporaryGo (aQ n))) λ_ _ x=>x)
 first
  |exact aQ (au l)
  |exact au (aQ (au l))
  |exact au l
theorem JX{X:Cx}{f:List (ac×Obj)}{d:St}{H:Hp}{s:am}{a:ac}{y:V}{o:Option V}(I:Inv X f d H s)(g:kl H a y o):s.TypeIs (.ref a) "dict":=by
 rcases g with⟨kvs,k,e,_,_⟩|⟨kvs,k,b,e,_,_,_⟩
 .obtain⟨_,_,i,_,c⟩:=pW I.hok e;exact c.typeIs
 .obtain⟨_,_,h,_,c⟩:=pL I.hok e;exact c.typeIs
def HZ(d ty:TE):TE:=λb H Q=>d b H λx f=>ty b f λy c=>∃a v,x=.ref a/\kl c a y (aa v)/\Q v c
def HN(ty d:TE):TE:=λb H Q=>ty b H λy f=>d b f λx c=>∃a o,x=.ref a/\kl c a y o/\Q (.bl (!o.isSome)) c
def HL(f ty d:TE):TS:=λD b H=>d b H λv i=>f b i λx h=>ty b h λy g=>∃a c,x=.ref a/\wp g a y v c/\D.nx b c
section
variable{X:Cx}{o i e b:ay}{d c m:Pos}{j f l:TE}
theorem AI(D:X.A.units+1<cLine)(F:PE X o j)(G:PE X i f)(E:vo i):PE X (.Subscript o i d) (HZ j f):=by intro q s p H Q I h;refine N_ PySem.F.slot_dict_getitem.lookup E (aR (F q s p H _ I h) λu w ⟨x,N,L,A,C⟩=>aR (G q w p N _ L C) λT S ⟨y,M,r,z,a,v,J,g,B⟩=>?_);subst J;obtain rfl:u=Value.ref a:=A;exact⟨JX r g,Kh D r g z λO P K n=>⟨v,M,K,n,B⟩⟩
theorem L7(A:X.A.units+1<cLine)(C:PE X i f)(B:PE X o j):PC X .NotIn i o (HN f j):=by intro p s n H Q I h;refine aR (C p s n H _ I h) λN q ⟨y,K,G,r,z⟩=>aR (B p q n K _ G z) λu M ⟨x,J,F,v,a,ov,D,g,w⟩=>?_;subst D;obtain rfl:u=Value.ref a:=v;exact MD A F g r λL E=>⟨.bl (!ov.isSome),J,E,rfl,w⟩
theorem Bm(J:X.A.units+1<cLine)(L:PE X o j)(M:PE X i f)(G:PE X b l)(K:g_ b (aa (.Subscript o i c)) d.line X.env=pure aj):PS X (.Assign [.Subscript o i c] b d) (HL j f l):=by intro p s n H D I h;refine wpAny_Assign_Subscript (aR (G p s n H _ I h) λr w ⟨v,Y,S,B,F⟩=>aR (L p w n Y _ S F) λu q ⟨x,W,Q,A,E⟩=>aR (M p q n W _ Q E) λiv s3 ⟨y,H3,P,z,a,T,N,g,C⟩=>?_) K;subst N;obtain rfl:u=Value.ref a:=A;exact IA J P g z B λZ O=>⟨n,T,O,C⟩
end
theorem IK{P:a4}{w:aT}{H:Hp}(h:aF)(a:jW<h.objs.size):cV P w H (h.push {cls:=.type "dict",data:=.dict #[]}) h.objs.size (.dK []) :=⟨iN _,beq_eq_false_iff_ne.mpr (d_ (cT a)),[],.nil,Heap.DictOf.new h⟩
theorem KU{P:a4}{w:aT}{H:Hp}(h:aF)(a:jW<h.objs.size):cV P w H (h.push {cls:=.type "dict",data:=.dict #[]}) h.objs.size (.dT []) :=⟨iN _,beq_eq_false_iff_ne.mpr (d_ (cT a)),[],.nil,_,#[],0,cj _ rfl,⟨rfl,rfl,rfl⟩,rfl,rfl,List.nodup_nil⟩
def LN:TE:=λ_ H Q=>∀p,H p=ae->Q (.ref p) (upd H p (.dK []))
def Jw:TE:=λ_ H Q=>∀p,H p=ae->Q (.ref p) (upd H p (.dT []))
section
variable{X:Cx}{b:Pos}
theorem BM:PE X (.Dict [] [] b) LN:=λd s c H Q I h=>wpAny_Dict_empty ⟨.ref s.heap.objs.size,_,I.laid (a:=s.heap.objs.size) (o:=.dK []) (t':=s.toks) (λ_ _ q=>bf _ q) (ba _) (IK s.heap I.big),rfl,h _ (I.hok.fresh (ba _))⟩
theorem NR:PE X (.Dict [] [] b) Jw:=λd s c H Q I h=>wpAny_Dict_empty ⟨.ref s.heap.objs.size,_,I.laid (a:=s.heap.objs.size) (o:=.dT []) (t':=s.toks) (λ_ _ q=>bf _ q) (ba _) (KU s.heap I.big),rfl,h _ (I.hok.fresh (ba _))⟩
end
structure M1(X:Cx)(o:ay)(m:Str)(apos:Pos)(e:ay)(cpos:Pos):Prop where
 base:hV o m X.env (aL o X.env)=aL o X.env
 few:((cm cpos (aP [e] X.env)).all (λx=>!x.1)&&(mZ cpos (m8 [] X.env)).all (λx=>x.1.isSome)&&decide (([e]:List ay).length+([]:List je).length+(if([]:List je).isEmpty then 0 else 1)<30))=ah
 line:(apos.endLine == cpos.line)=ah
 trees:cm cpos (aP [e] X.env)=[(aj,aL e X.env)]
structure M2(X:Cx)(o:ay)(m:Str)(apos:Pos)(e f:ay)(cpos:Pos):Prop where
 base:hV o m X.env (aL o X.env)=aL o X.env
 few:((cm cpos (aP [e,f] X.env)).all (λx=>!x.1)&&(mZ cpos (m8 [] X.env)).all (λx=>x.1.isSome)&&decide (([e,f]:List ay).length+([]:List je).length+(if([]:List je).isEmpty then 0 else 1)<30))=ah
 line:(apos.endLine == cpos.line)=ah
 trees:cm cpos (aP [e,f] X.env)=[(aj,aL e X.env),(aj,aL f X.env)]
def xT(H:Hp)(a:ac):Prop:=(∃b,Rd H a (.dK b))\/∃b,Rd H a (.dT b)
theorem C8{X:Cx}{l:List (ac×Obj)}{j:St}{H:Hp}{s:am}{a:ac}(I:Inv X l j H s)(d:xT H a):s.TypeIs (.ref a) "dict"/\(∀b,Value.ref a=.ref b->∃c,s.heap.get? b=aa c/\c.dict=ae)/\(a == jW)=aj:=by
 rcases d with⟨kvs,e⟩|⟨kvs,e⟩
 .obtain⟨_,g,n,_,f⟩:=pW I.hok e;refine⟨f.typeIs,λb q=>?_,g⟩;cases q;obtain⟨c,_,_,i,h,_⟩:=f;exact⟨c,i,h.2.1⟩
 .obtain⟨_,g,m,_,f⟩:=pL I.hok e;refine⟨f.typeIs,λb q=>?_,g⟩;cases q;obtain⟨c,_,_,i,h,_⟩:=f;exact⟨c,i,h.2.1⟩
section
variable{X:Cx}{f:List (ac×Obj)}{c:St}{H:Hp}{s:am}{a:ac}{y d:V}{u r:ai}{o:Option V}{A:aX}{E:ai->am->Prop}
theorem HE{Q:ai->am->Prop}(v:A.units+1<cLine)(I:Inv X f c H s)(g:kl H a y o)(p:RelV y u)(rd:RelV d r)(h:∀m n,Inv X f c H n->RelV (o.getD d) m->Q m n):aw (aA X.prog X.w) A (call (.builtin "dict.get") [.ref a,u,r]) Q E s:=by
 rcases g with⟨kvs,k,e,ey,l⟩|⟨kvs,k,b,e,ey,eb,l⟩
 .subst ey;obtain⟨z,j,w,rel,i⟩:=pW I.hok e;refine Ab EQ i.typeIs PySem.F.entry_dict_get (PySem.F.args_dict_get_3 _ _ _) (meets_dict_get_default (gf X.prog X.w) a (pV p) j r) ⟨_,i.mapOf,h _ _ (I.tok _) ?_⟩;rw[l];exact(rel.val k).getD rd
 .subst ey;cases (show u=Value.ref b from p);obtain⟨z,j,q,rel,i⟩:=pL I.hok e;refine Ab EQ i.typeIs PySem.F.entry_dict_get (PySem.F.args_dict_get_3 _ _ _) (meetsH_dict_get_default (sJ (gf X.prog X.w)) a b j r) ⟨Aa v,k,q,r9 I.hok eb,i,h _ _ (I.tok _) ?_⟩;rw[l];exact(rel.val k).getD rd
end
def Mu(f ty tx:TE):TE:=λb H Q=>f b H λx d=>∃a,x=.ref a/\xT d a/\ty b d λy g=>tx b g λz c=>∃o,kl c a y o/\Q (o.getD z) c
section
variable{X:Cx}{o e f:ay}{c b:Pos}{j i tx:TE}
theorem Iz(J:X.A.units+1<cLine)(K:PE X o j)(M:PE X e i)(L:PE X f tx)(m:M2 X o "get" c e f b):PE X (.Call (.Attribute o "get" c) [e,f] [] b) (Mu j i tx):=by intro p s l H Q I h;refine wpAny_Call_method m.base m.few m.line ER EQ PySem.F.type_dict_get (aR (K p s l H _ I h) λu A ⟨x,Y,q,D,a,N,d,G⟩=>?_);subst N;obtain rfl:u=Value.ref a:=D;obtain⟨v,r,_⟩:=C8 q d;refine⟨v,r,?_⟩;rw[m.trees];refine wB rfl (wC (sO (aR (M p A l Y _ q G) λiv w ⟨y,W,S,C,F⟩=>sO (aR (L p w l W _ S F) λfv s3 ⟨z,T,P,B,ov,g,E⟩=>z5 ?_))));exact HE J P g C B λZ s4 O n=>⟨_,T,O,n,E⟩
end
end L2
namespace Att
open PySem PySem.W PySem.Calls PyProof.Rows
theorem Nl{P:Params}{h:aF}:∀(c:List Int) (d:List ai),WellAll P h d (c.map WData.int)->IntsAre d c:=by
 intro c
 induction c with
 |nil=>
  intro d w;rw[List.map_nil]at w;cases w;exact .nil
 |cons n c f=>
  intro d w;rw[dD]at w;cases w with
  |cons a b=>
   cases a;exact .cons _ _ (f _ b)
theorem Ou{l:OpenLaw}{n:Nat}(y:l.most=aa n){P:Params}{h:aF}{args:List WData}{c:List ai}(p:l.row.toRowW.claim.pre args=ah) (j:WellAll P h c args):∃a o b,c=[Value.ref a]/\args=[WData.list (b.map WData.int)]/\h.get? a=aa {cls:=.type "list",data:=.seq o.toArray}/\IntsAre o b/\b.length<=n:=by
 have m:WShape.hasAll [] args [.list .int]=ah:=(pre_splitW p).1;have s:l.pre.holds [] {args:=args}=ah:=(pre_splitW p).2;obtain⟨d,r,rfl,B,A⟩:=hasAllW_cons m;obtain rfl:=hasAllW_nil A;obtain⟨D,rfl,z⟩:=hasW_list B;obtain⟨b,rfl⟩:=items_int z;have C:b.length<=n:=by
  unfold OpenLaw.pre at s;have i:(WTm.not (.lt (.lit (.int (n:Int))) (.len (.arg 0)))).holds [] {args:=[.list (b.map .int)]}=ah:=by have i:=(holds_andW s).1;rw[y]at i;exact i
  have g:=condW_of i (w_not (w_lt w_lit (w_len_list (w_arg rfl))));rw[bO]at g;refine Nat.le_of_not_lt λq=>?_;have w:(n:Int)<((b.length:Nat):Int):=∅
  first
   | (rw[decide_eq_true w]at g;exact absurd g (by decide))
   | (simp at g;lia)
 cases j with
 |cons v u=>
  cases u;cases v with
  |list x f=>exact⟨_,_,b,rfl,rfl,x,Nl b _ f,C⟩
theorem K6(l:OpenLaw)(args:List WData):l.row.toRowW.claim.post args (.bool ah) args=ah :=
 postW_of (r:=l.row.toRowW) (X:=(ah == ah))
  (show WShape.has [] (.bool ah) .bool=ah by first|rfl|decide|simp[WShape.has,WShape.arms,WShape.armsAll])
  (show(WTm.eq .res (.lit (.bool ah))).value [] {args:=args,res:=aa (.bool ah),after:=args}=aa (.bool (ah == ah))from w_eq_bool (w_res rfl) w_lit) rfl
theorem attach_call{l:OpenLaw}{n:Nat}{q:a4}{g:List Str}{XP:(Str->Option ai)->aF->Prop}{D:aT->aF->Prop}{d:DefRec}(L:l.most=aa n) (H:d.params.defaults=[])(call:∀(w:aT) (c b:am) (s x:Str->Option ai) (j:ac) (o:Obj) (v u h:ai) (a:ac) (i:List ai) (p:List Int),Ground q g [] XP w c s x b.heap->D w b.heap -> b.heap.get? j=aa o->o.data=.func (docDef d.name d.params d.body d.scope v u h)->b.heap.CodeRec u d.name->s d.name=aa (.ref j) -> b.heap.get? a=aa {cls:=.type "list",data:=.seq i.toArray}->IntsAre i p->p.length<=n->b.gens=#[] -> kG (aA l.prog w) qa (.call (.ref j) ⟨[.ref a],[]⟩) (λr m=>r=.ok (.ret (.bool ah))/\OldK b.heap m.heap/\m.os=b.os/\lM m.gens) b):WalkO q g XP D l.row.toRowW d [] (λf i=>PySem.call f i):=by intro w c b s x G Y j o v u h dV kV K P X B F O C z as E A I y N;obtain rfl:dV=.none:=Dflts.none B H;obtain rfl:kV=.none:=Dflts.noKw B;obtain⟨a,i,p,rfl,rfl,Z,AA,W⟩:=Ou L E y;refine enter_call (sP (call w c b s x j o v u h a i p G Y K (fd_plain P) X F Z AA W O) λr m J=>?_);obtain⟨rfl,T,S,Q⟩:=J;exact⟨.inl ⟨.bool ah,.bool ah,[],rfl,λ_=>rfl,.bool ah,K6 l _,λ_=>⟨List.Pairwise.nil,λ_ M=>(nomatch M)⟩⟩,T,S,Q⟩
end Att
namespace L2
theorem AS:∀{a:List ai}{b:List Int},IntsAre a b->bx (b.map V.int) a
 |_,_,.nil=>.nil
 |_,_,.cons n t h=>.cons ⟨t,rfl⟩ (AS h)
def ze(H:Hp):Prop:=∀b,H b=ae\/(∃o a,H b=aa (.frz o (.lst a)))\/∃q,H b=aa (.tbl q)
def iY(K:ar):Hp:=λb=>match jt K "Seeker.best" with
 |some (_,P)=>if b=P then aa (.tbl "Seeker.best.<locals>.<lambda>")else ae
 |none=>ae
theorem nV{K:ar}{b:ac}{u:HO}(h:iY K b=aa u):u=.tbl "Seeker.best.<locals>.<lambda>"/\∃c,jt K "Seeker.best"=aa (c,b):=by
 unfold iY at h;split at h
 .rename_i c P e;split at h
  .rename_i a;subst a;cases h;exact⟨rfl,c,e⟩
  .cases h
 .cases h
theorem Bu{K:ar}{c P:ac}(h:jt K "Seeker.best"=aa (c,P)):iY K P=aa (.tbl "Seeker.best.<locals>.<lambda>"):=by unfold iY;rw[h];exact if_pos rfl
def A7(K:ar)(h:aF):Prop:=∀c P,jt K "Seeker.best"=aa (c,P)->wE K c P=ah/\K.lookup P=ae/\h.get? P=aa {cls:=.none,data:=.fields #[]}
theorem K0{P:a4}{w:aT}{K:ar}{L mb:Str->Option ai}{CX:dZ}{k:Nat}{fa a:ac}{fd:gJ}{x:Str}{sp:Sp}{f:am}{G:List ai}{M:List Int}(KX:K.In f.heap) (jF:f.heap.Ns b_ L) (j:f.heap.Ns mV mb) (oJ:∀x:Str,x≠"__name__"->mb x=dQ x) (O:f.heap.NoLimit) (qE:∃E B,L "__builtins__"=aa (.ref E)/\E≠mV/\f.heap.get? E=aa B/\B.cls=.type "module"/\B.dict=aa mV/\B.data=.plain) (C:A7 K f.heap) (hg:f.gens=#[])(y:f.heap.get? a=aa {cls:=.type "list",data:=.seq G.toArray}) (hi:IntsAre G M) (hl:M.length<=a6) (hr:Room k qa)(F:∀p:aF,K.In p->p.Ns b_ L->gz P w K L p CX k fa fd [x] sp) (OY:∀(s:am) (u:ai),BindsTo s fd ⟨[u],[]⟩ [(x,u)])(iS:∀H:Hp,ze H->cb K H a (M.map V.int)->sp [.ref a] H (λv _=>v=.bl ah) λ_ _ _=>False)(hCX:∀H e l,CX [] H f (λ_ _ _=>False) e l->False):kG (aA P w) qa (.call (.ref fa) ⟨[.ref a],[]⟩) (λr l=>r=.ok (.ret (.bool ah))/\OldK f.heap l.heap/\l.os=f.os/\lM l.gens) f:=by
 have rv:=AS hi;have N:=hi.length;have D:∀H:Hp,ze H->cb K H a (M.map V.int)->df P w H f.heap->(∀b,H b≠ae->b=a\/∃c,jt K "Seeker.best"=aa (c,b))->(H a≠ae->K.lookup a=ae)->ux K H ->
   kG (aA P w) qa (.call (.ref fa) ⟨[.ref a],[]⟩) (λr l=>r=.ok (.ret (.bool ah))/\OldK f.heap l.heap/\l.os=f.os/\lM l.gens) f:=by
  intro H hO hS I X hK hTH;have g:∀{b:ac}{o:Obj},f.heap.get? b=aa o->H b=ae->(ln f.heap H).get? b=aa o:=λe n=>J5 e n;have noA:∀{b:ac}{o:Obj}{S:Array DictEntry}{T:Nat},f.heap.get? b=aa o->o.data=.dict S T->H b=ae:=λ{b o S T} e d=>by
   cases q:H b with
   |none=>rfl
   |some u=>
    rcases X b (by rw[q];simp)with i|⟨c,i⟩
    .subst i;rw[y]at e;cases e;have d':Data.seq G.toArray _=Data.dict S T:=d;cases d'
    .rw[(C c b i).2.2]at e;cases e;cases d
  have A:∀{b:ac}{m:Str->Option ai},f.heap.Ns b m->(ln f.heap H).Ns b m:=λ{b m} ⟨o,S,T,e,d,r⟩=>⟨o,S,T,g e (noA e d),d,r⟩
  have Q:K.In (ln f.heap H):=λb o e=>g (KX b o e) (by
   cases q:H b with
   |none=>rfl
   |some u=>
    rcases X b (by rw[q];simp)with i|⟨c,i⟩
    .subst i;rw[hK (by rw[q];simp)]at e;cases e
    .rw[(C c b i).2.1]at e;cases e)
  have hM:Mod K L (ln f.heap H):=⟨Q,A jF,⟨mb,A j,oJ⟩,(let ⟨mc,h1,h2⟩:=O;⟨mc,A h1,h2⟩),by
   obtain⟨E,B,b1,b2,W,b4,b5,b6⟩:=qE;refine⟨E,B,b1,b2,g W ?_,b4,b5,b6⟩;cases q:H E with
   |none=>rfl
   |some u=>
    rcases X E (by rw[q];simp)with i|⟨c,i⟩
    .subst i;rw[y]at W;cases W;simp at b4
    .rw[(C c E i).2.2]at W;cases W;simp at b4⟩
  have e0:o5 P w K L (ln f.heap H) qa [] f H:=⟨rfl,hM,λb o e=>OO e,lS (FC _ _),trivial,λb j=>absurd (show b∈([]:List ac)from j) (by simp),I,.of_eq hg,hTH⟩
  refine sP ((F _ Q (A jF)).run qa [] f H ⟨[.ref a],[]⟩ [.ref a] [.ref a] _ _ hr e0 (OY f (.ref a)) (.cons rfl .nil) (iS H hO hS)) λr l h=>?_;cases r with
  |error e=>exact(hCX H e l h).elim
  |ok fl=>
   cases fl with
   |next=>exact jb h
   |brk=>exact jb h
   |cont=>exact jb h
   |ret u=>
    obtain⟨v,H',os,bare,un,Fp,r',q⟩:=h;have q':v=.bl ah:=q;subst q';obtain rfl:u=Value.bool ah:=r';refine⟨rfl,⟨λb o e=>?_,λb o e=>un.there b o e (by simp)⟩,os,bare⟩;cases q:H b with
    |none=>exact .inl (un.keep b o e q (by intro z;exact absurd (show b∈([]:List ac)from z) (by simp)) (by simp))
    |some u=>
     rcases hO b with z|⟨B,xs,z⟩|⟨qn,z⟩
     .rw[q]at z;cases z
     .have z2:=un.frzs b B _ z;obtain⟨J,_⟩:=I b _ z;obtain⟨e2,_⟩:=Fp b _ z2;rw[e]at J;cases J;exact .inl e2
     .rcases X b (by rw[q];simp)with i|⟨c,i⟩
      .subst i;obtain⟨ps,J,_⟩:=I b _ z;rw[y]at J;cases J
      .obtain⟨k1,k2,k3⟩:=C c b i;rw[k3]at e;cases e;obtain⟨oc,Y,_,_,_,_,_,_,_,f1,f2,f3,f4,_⟩:=PySem.W.codeHd_of_K KX k1;obtain⟨ps,J,_⟩:=Fp b _ (un.tbls b _ z).1;exact .inr (.inl ⟨⟨c,oc,Y,f1,f2,f3,f4⟩,rfl,#[],ps,rfl,by rw[J];simp⟩)
 cases hk:K.lookup a with
 |some o=>
  have e:=KX a o hk;rw[y]at e;cases e;have tH:∀b u,iY K b=aa u->cV P w (iY K) f.heap b u:=λb u z=>by
   obtain⟨rfl,c,e⟩:=nV z;exact⟨#[],(C c b e).2.2,trivial,λZ cv h=>by cases h⟩
  refine D (iY K) (λb=>?_) (.inr ⟨_,G.toArray,_,hk,rfl,rfl,rfl,by rw[cD,N];exact hl,by simpa using rv⟩) tH (λb z=>?_) (λz=>?_) λx hx c P e=>?_
  .cases q:iY K b with
   |none=>exact .inl rfl
   |some u=>exact .inr (.inr ⟨_,congrArg aa (nV q).1⟩)
  .cases q:iY K b with
   |none=>exact absurd q z
   |some u=>exact .inr (nV q).2
  .cases q:iY K a with
   |none=>exact absurd q z
   |some u=>
    obtain⟨_,c,i⟩:=nV q;rw[(C c a i).2.2]at y;cases y
  .obtain rfl:x = "Seeker.best":=by simpa[sw]using hx
   exact Bu e
 |none=>
  have ta:∀c P,jt K "Seeker.best"=aa (c,P)->P≠a:=λc P e z=>by subst z;rw[(C c P e).2.2]at y;cases y
  refine D (λb=>if b=a then aa (.frz {cls:=.type "list",data:=.seq G.toArray} (.lst (M.map V.int)))else iY K b) (λb=>?_) (.inl (.inr ⟨{cls:=.type "list",data:=.seq G.toArray},if_pos rfl⟩)) (λb u z=>?_) (λb z=>?_) (λ_=>hk) λx hx c P e=>?_
  .by_cases j:b=a
   .exact .inr (.inl ⟨_,_,if_pos j⟩)
   .cases q:iY K b with
    |none=>exact .inl ((if_neg j).trans q)
    |some u=>exact .inr (.inr ⟨_,(if_neg j).trans (q.trans (congrArg aa (nV q).1))⟩)
  .by_cases j:b=a
   .have z':=(if_pos j).symm.trans z;cases z';subst j;exact⟨y,by rw[bO];exact hl,G,_,rv,y⟩
   .obtain⟨rfl,c,e⟩:=nV ((if_neg j).symm.trans z);exact⟨#[],(C c b e).2.2,trivial,λZ cv h=>by cases h⟩
  .by_cases j:b=a
   .exact .inl j
   .cases q:iY K b with
    |none=>exact absurd ((if_neg j).trans q) z
    |some u=>exact .inr (nV q).2
  .obtain rfl:x = "Seeker.best":=by simpa[sw]using hx
   exact(if_neg (ta c P e)).trans (Bu e)
theorem Py{l:Ac}{n k:Nat}{q:a4}{c:List Str}{XP:(Str->Option ai)->aF->Prop}{E:aT->aF->Prop}{d:DefRec}{K:Params->ar}{CX:aT->dZ}{sp:aT->Sp}{x:Str}(O:l.most=aa n) (r:n<=a6) (L:d.params.defaults=[]) (N:Room k qa)(C:∀(w:aT) (h:aF),E w h->(K w.params).In h/\A7 (K w.params) h)(F:∀(w:aT) (g:Str->Option ai) (m:ac) (h:aF),(K w.params).In h->h.Ns b_ g->g d.name=aa (.ref m) -> ∃z:gJ,(∀(s:am) (u:ai),BindsTo s z ⟨[u],[]⟩ [(x,u)]) /\ ∀b:aF,(K w.params).In b->b.Ns b_ g->gz l.prog w (K w.params) g b (CX w) k m z [x] (sp w))(M:∀(w:aT) (H:Hp) (a:ac) (j:List Int),j.length<=n->ze H->cb (K w.params) H a (j.map V.int)->sp w [.ref a] H (λv _=>v=.bl ah) λ_ _ _=>False)(y:∀(w:aT) (H:Hp) (s:am) (e:ai) (p:am),CX w [] H s (λ_ _ _=>False) e p->False):PySem.W.WalkO q c XP E l.row.toRowW d [] (λf A=>PySem.call f A):=by refine Att.attach_call O L λw B i g mb m o pm cd X a A j G Y ho hd bc J Z AA D P=>?_;have I:=(C w _ Y).1;obtain⟨z,Q,W⟩:=F w g m _ I G.T.g J;exact K0 I G.T.g G.T.b G.T.builtins G.T.nolimit G.T.bmain (C w _ Y).2 P Z AA (c4 D r) N W Q (λH T S=>M w H a j D T S) λH e p=>y w H i e p
def fX(s:aV):sR:=match s with
 |.FunctionDef _ a _ _ _ _ _ _ _ _=>a
 |_=>{posonlyargs:=[],args:=[],vararg:=ae,kwonlyargs:=[],kw_defaults:=[],kwarg:=ae,defaults:=[]}
def dj(s:aV):List aV:=match s with
 |.FunctionDef _ _ b _ _ _ _ _ _ _=>b
 |_=>[]
def aI(s:aV):c8:=match s with
 |.FunctionDef _ _ _ _ _ _ a _ _ _=>a
 |_=>{kind:=.function,names:=[],isGenerator:=aj,isCoroutine:=aj}
abbrev E0:XK:=λ_ _ _=>False
structure ko(K:ar)(x qual:Str)(st:aV)(f:ac)(fd:gJ):Prop where
 ex:∃(oc:ai) (od:Option ac) (kV doc pm:ai) (an:Option ac) (aE ct:ai) (osl:Array (Option ai)),
  fd=fP x qual (fX st) (dj st) (aI st) .none kV doc pm an aE ct/\K.lookup f=aa ⟨oc,od,.func fd,osl⟩/\p5 K aE qual=ah
 kp:kH K (.ref f)=ah
section
variable{P:a4}{w:aT}{K:ar}{b:Str->Option ai}{a:aF}
theorem ko.binds{x c:Str}{g:aV}{f:ac}{p:gJ}{j:List Str}(F:ko K x c g f p)(h:∀(kV d l:ai) (n:Option ac) (o m:ai) (i:List ai),i.length=j.length->dU (fP x c (fX g) (dj g) (aI g) .none kV d l n o m) ⟨i,[]⟩=pure (j.zip i)):Binds K p j []:=by obtain⟨oc,r,kV,d,l,n,o,m,q,rfl,s,u⟩:=F.ex;exact .all (h kV d l n o m)
theorem vQ{x d:Str}{g:aV}{f:ac}{oc:ai}{p o:Option ac}{i:Array (Option ai)}{kV h m j n:ai}(l:K.lookup f=aa ⟨oc,p,.func (fP x d (fX g) (dj g) (aI g) .none kV h m o j n),i⟩)(c:p5 K j d=ah) (k:kH K (.ref f)=ah):ko K x d g f (fP x d (fX g) (dj g) (aI g) .none kV h m o j n):=⟨⟨oc,p,kV,h,m,o,j,n,i,rfl,l,c⟩,k⟩
end
theorem y6{n:Nat}(h:n<=1000):n<a6:=wF h (by decide)
section
variable{X:Cx}
theorem pv(i:Nat){x:Str}{a:Pos}(d:X.N[i]?=aa x:=by rfl)(b:dw X.env.scope x:=by eq_refl)(c:(x==("__debug__":Str))=aj:=by decide)(f:(x==("__classdict__":Str))=aj:=by decide):PE X (.Name x a) (Eb i):=eu d b c f
end
theorem mj{A B:Prop}(h:B):if aj=ah then A else B:=by rw[if_neg fu];exact h
theorem mF{A B:Prop}(h:A):if ah=ah then A else B:=by rw[if_pos rfl];exact h
def Same(H a:Hp):Prop:=∀b o,H b=aa o->a b=aa o
theorem Same.refl(H:Hp):Same H H:=λ_ _ h=>h
theorem Same.trans{H f d:Hp}(a:Same H f)(b:Same f d):Same H d:=λc o h=>b c o (a c o h)
theorem Same.free{H a:Hp}(e:Same H a){l:ac}(h:a l=Option.none):H l=Option.none:=by
 cases q:H l with
 |none=>rfl
 |some o=>
  rw[e l o q]at h;cases h
end L2
set_option maxHeartbeats 4000000
namespace L2
def fK(a:Env):List (Str×ga)->List (Str×ac)->List (Str×ac)
 |[],b=>b
 | (n,k)::r,b=>if k == .free then fK a r ((n,(a.cells.lookup n).getD 0)::b)else fK a r b
theorem NH{d:Env}{y:Str}{c:ac}(b:List (Str×ga))(f:List (Str×ac))(j:∀x∈b,x.2=.free->∃c,d.cells.lookup x.1=aa c)(h:(fK d b f).lookup y=aa c):f.lookup y=aa c\/d.cells.lookup y=aa c:=by
 induction b generalizing f with
 |nil=>exact .inl h
 |cons a r g=>
  obtain⟨n,k⟩:=a;unfold fK at h;have i:∀x∈r,x.2=.free->∃c,d.cells.lookup x.1=aa c:=λx m=>j x (iK _ m);split at h
  .rename_i o;obtain⟨s,l⟩:=j (n,k) (lN ..) (by simpa using o);rcases g _ i h with q|q
   .rw[iQ]at q;split at q
    .rename_i p;have e:y=n:=by simpa using p
     subst e;rw[l]at q;exact .inr (by rw[l];exact q)
    .exact .inl q
   .exact .inr q
  .exact g _ i h
theorem Du{a:Type}{n:Str}{v:a}{l:List (Str×a)}:((n,v)::l).lookup n=aa v:=by rw[iQ];simp
theorem CQ{a:Type}{n y:Str}{v:a}{l:List (Str×a)}(h:∃c,l.lookup y=aa c):∃c,((n,v)::l).lookup y=aa c:=by
 rw[iQ];split
 .exact⟨_,rfl⟩
 .exact h
theorem yV{d:Env}{y:Str}:∀(a:List (Str×ga)) (b:List (Str×ac)),(∃c,b.lookup y=aa c)->∃c,(fK d a b).lookup y=aa c
 |[],b,h=>h
 | (n,k)::r,b,h=>by
  unfold fK;split
  .exact yV r _ (CQ h)
  .exact yV r _ h
theorem uu{g:Env}{y:Str}:∀(a:List (Str×ga)) (i:List (Str×ac)),(∃x∈a,x.1=y/\x.2=.free)->∃c,(fK g a i).lookup y=aa c
 |[],i,⟨_,h,_⟩=>by simp at h
 | (n,k)::r,i,⟨x,b,f,d⟩=>by
  unfold fK;rcases bW.mp b with e|b
  .subst e;simp only at f d;subst f d;simp only[beq_self_eq_true,if_true];exact yV r _ ⟨_,Du⟩
  .split
   .exact uu r _ ⟨x,b,f,d⟩
   .exact uu r _ ⟨x,b,f,d⟩
theorem za{b:Env}:∀(a:List (Str×ga)) (g:List (Str×ac)),(∀x∈a,x.2=.free->∃c,b.cells.lookup x.1=aa c) -> (forIn (m:=Sem) a g λx r=>match x with | (d,f)=>if(f == NameKind.free)=ah then do let c <-cellOf b d;pure (ForInStep.yield ((d,c)::r))else pure (ForInStep.yield r))=pure (fK b a g)
 |[],g,_=>rfl
 | (n,k)::r,g,h=>by
  have j:∀x∈r,x.2=.free->∃c,b.cells.lookup x.1=aa c:=λx o=>h x (iK _ o);rw[List.forIn_cons];unfold fK;by_cases i:(k == NameKind.free)=ah
  .obtain⟨c,l⟩:=h (n,k) (lN ..) (by simpa using i);simp only[i,if_true];have e:cellOf b n=pure c:=by unfold cellOf;rw[l]
   rw[e];simp only[pure_bind];rw[za r _ j,l];rfl
  .simp only[i,if_false,pure_bind];exact za r _ j
theorem Ek{a:c8}{b:Env}(h:∀x∈a.names,x.2=.free->∃c,b.cells.lookup x.1=aa c):closureFor a b=pure (fK b a.names []):=by unfold closureFor;have q:=za a.names [] h;simp only[bind_pure_comp]at q ⊢;rw[q];rfl
theorem v8{n c:Nat}(b:n+1<=c)(a:c<n):False:=∅
theorem xt:∀(c:List (Str×ga)) (n:Nat) (a b:List (Str×ac)),fz n c (a++b)=fz n c a++b
 |[],_,_,_=>rfl
 | (x,k)::r,n,a,b=>by
  unfold fz;split
  .exact xt r (n+1) ((x,n)::a) b
  .exact xt r n a b
theorem uL{y:Str}{c:ac}:∀(b:List (Str×ga)) (n:Nat) (a:List (Str×ac)),(y,c)∈fz n b a->(y,c)∈a\/(y,.cell)∈b
 |[],_,_,h=>.inl h
 | (x,k)::r,n,a,h=>by
  unfold fz at h;split at h
  .rename_i d;rcases uL r _ _ h with z|z
   .rcases bW.mp z with z|z
    .cases z;have e:k=.cell:=by simpa using d
     subst e;exact .inr (lN ..)
    .exact .inl z
   .exact .inr (iK _ z)
  .rcases uL r _ _ h with z|z
   .exact .inl z
   .exact .inr (iK _ z)
theorem zB{y:Str}:∀(b:List (Str×ga)) (n:Nat) (a:List (Str×ac)),(∃c,a.lookup y=aa c)->∃c,(fz n b a).lookup y=aa c
 |[],_,_,h=>h
 | (x,k)::r,n,a,h=>by
  unfold fz;split
  .exact zB r _ _ (CQ h)
  .exact zB r _ _ h
theorem wo{y:Str}:∀(b:List (Str×ga)) (n:Nat) (a:List (Str×ac)),(y,.cell)∈b->∃c,(fz n b a).lookup y=aa c
 | (x,k)::r,n,a,h=>by
  unfold fz;rcases bW.mp h with e|h
  .cases e;exact zB r _ _ ⟨_,Du⟩
  .split
   .exact wo r _ _ h
   .exact wo r _ _ h
def ki(X:Cx)(a:c8)(C:ac):List (Str×ac):=fz (C+1) a.names (fK X.env a.names [])
theorem yQ(X:Cx)(a:c8)(C:ac):ki X a C=fz (C+1) a.names []++fK X.env a.names []:=xt a.names (C+1) [] _
theorem KC{M:Model}{A:aX}{E:ai->am->Prop}{s:am}{a:c8}{b:ac}{j:List (Str×ac)}{c:Str}{f:Env}{Q:Env->am->Prop}(l:Q (newEnv a s.heap.objs.size b (fz (s.heap.objs.size+1) a.names j) c ae .none (aa f) mV) {s with heap:=pushCells (s.heap.push {cls:=.type "dict",data:=.dict #[]}) a.names}):aw M A (newFunctionEnv a b j [] c ae .none (aa f)) Q E s:=by
 simp only[newFunctionEnv,Option.isSome_some,if_true];refine au (wpAny_alloc ?_);refine au (wpAny_layCells _ (λi d h=>by cases g:d == NameKind.cell <;> simp[g]) _ _ _ _ ?_);rw[show({s with heap:=s.heap.push {cls:=.type "dict",data:=.dict #[]}}:am).heap.objs.size=s.heap.objs.size+1 from sN ..];refine au ?_;rw[List.forIn_nil];exact aQ (aQ l)
theorem BP{s:am}{a:List (Str×ga)}{y:Str}{c:ac}(h:(y,c)∈fz (s.heap.objs.size+1) a []):(pushCells (s.heap.push {cls:=.type "dict",data:=.dict #[]}) a).IsCell c ae/\s.heap.objs.size+1<=c/\∀z,(z,c)∈fz (s.heap.objs.size+1) a []->y=z:=by have ok:=cellsFrom_ok a (s.heap.push {cls:=.type "dict",data:=.dict #[]}) (s.heap.objs.size+1) [] ⟨λ_ _ d=>(nomatch d),List.Pairwise.nil⟩ (by rw[sN];exact ba _);rw[sN]at ok;exact⟨(ok.empty y c h).1,(ok.empty y c h).2,λz b=>name_of_addr ok.apart h b⟩
def cH(X:Cx)(a:c8)(b:List Str)(C:ac)(s₀:am)(H₀:Hp)(ex:List ac)(pn:List (ac×Obj)):Cx where
 prog:=X.prog
 w:=X.w
 K:=X.K
 mg:=X.mg
 base:=X.base
 A:=X.A
 N:=b
 s₀:=s₀
 H₀:=H₀
 env:=compEnvC a (ki X a C) C X.env
 outer:=X.stack
 stack:=X.stack
 ex:=ex
 fn:=λy=>a.names.lookup y == aa .cell
 calm:=X.calm
 pn:=X.pn++pn
 xe:=λ_ _=>False
def eA(b:St)(a:List Nat):St:=a.map λi=>(b[i]?).join
structure gA(X:Cx)(scope:c8)(x:Str)(N':List Str)(cap:List Nat):Prop where
 kind:scope.kind=.function
 cells:∀y∈scope.names,y.2=.cell->scope.names.lookup y.1=aa .cell
 names:∀y∈scope.names,y.2=.local->scope.names.lookup y.1=aa .local
 loc:scope.names.lookup x=aa .local\/scope.names.lookup x=aa .cell
 free:∀y∈scope.names,y.2=.free->X.env.kindOf y.1=aa .cell\/X.env.kindOf y.1=aa .free
 nd:N'.Nodup
 hd:N'.head?=aa x
 len:N'.length=cap.length+1
 caps:∀i j y,N'[i+1]?=aa y->cap[i]?=aa j->(X.N[j]?=aa y/\scope.names.lookup y=aa .free)\/(X.N.length<=j/\scope.names.lookup y=aa .local)
theorem C6{a:List (Str×ga)}{y:Str}{k:ga}(h:a.lookup y=aa k):∃x∈a,x.1=y/\x.2=k:=⟨(y,k),jd h,rfl,rfl⟩
theorem yy{a:Env}{x:Str}:∀{b:List (Str×ga)}{k:ga}, (b.map λ(n,k)=>if(k == NameKind.free&&a.scope.kind == .function&&a.kindOf n == aa .cell)then(n,NameKind.cell)else(n,k)).lookup x=aa k -> ∃f,b.lookup x=aa f/\(k=f\/(f=.free/\k=.cell))
 |[],_,h=>by simp at h
 | (n,c)::r,k,h=>by
  change iM x ((if(c == NameKind.free&&a.scope.kind == .function&&a.kindOf n == aa .cell)=ah then(n,NameKind.cell)else(n,c))::_)=_ at h;rw[iQ];by_cases d:(c == NameKind.free&&a.scope.kind == .function&&a.kindOf n == aa .cell)=ah
  .rw[if_pos d,iQ]at h;split at h
   .rename_i g;cases h;have:c=.free:=by simp at d;exact d.1.1
    exact⟨c,rfl,.inr ⟨this,rfl⟩⟩
   .exact yy h
  .rw[if_neg d,iQ]at h;split at h
   .rename_i g;cases h;exact⟨c,rfl,.inl rfl⟩
   .exact yy h
theorem zE{a:Env}{x:Str}:∀{b:List (Str×ga)},b.lookup x=aa .free -> let q:=(b.map λ(n,k)=>if(k == NameKind.free&&a.scope.kind == .function&&a.kindOf n == aa .cell)then(n,NameKind.cell)else(n,k)).lookup x
  q=aa .cell\/q=aa .free
 |[],h=>by simp at h
 | (n,c)::r,h=>by
  show iM x ((if(c == NameKind.free&&a.scope.kind == .function&&a.kindOf n == aa .cell)=ah then(n,NameKind.cell)else(n,c))::_)=_\/iM x ((if(c == NameKind.free&&a.scope.kind == .function&&a.kindOf n == aa .cell)=ah then(n,NameKind.cell)else(n,c))::_)=_;rw[iQ]at h;by_cases f:(c == NameKind.free&&a.scope.kind == .function&&a.kindOf n == aa .cell)=ah
  .rw[if_pos f,iQ];cases d:x == n with
   |true=>exact .inl rfl
   |false=>rw[d]at h;exact zE h
  .rw[if_neg f,iQ];cases d:x == n with
   |true=>rw[d]at h;cases h;exact .inr rfl
   |false=>rw[d]at h;exact zE h
theorem yz{a:Env}{x:Str}:∀{b:List (Str×ga)},b.lookup x=aa .cell -> (b.map λ(n,k)=>if(k == NameKind.free&&a.scope.kind == .function&&a.kindOf n == aa .cell)then(n,NameKind.cell)else(n,k)).lookup x=aa .cell
 |[],h=>by simp at h
 | (n,d)::r,h=>by
  show iM x ((if(d == NameKind.free&&a.scope.kind == .function&&a.kindOf n == aa .cell)=ah then(n,NameKind.cell)else(n,d))::_)=_;rw[iQ]at h;by_cases f:(d == NameKind.free&&a.scope.kind == .function&&a.kindOf n == aa .cell)=ah
  .rw[if_pos f,iQ];cases c:x == n with
   |true=>rfl
   |false=>rw[c]at h;exact yz h
  .rw[if_neg f,iQ];cases c:x == n with
   |true=>rw[c]at h;cases h;rfl
   |false=>rw[c]at h;exact yz h
section
variable{X:Cx}{A:List (ac×Obj)}{w:St}{H:Hp}{s:am}{f:c8}{x:Str}{D:List Str}{g:List Nat}
theorem Inv.freeHas(I:Inv X A w H s)(B:gA X f x D g):∀y∈f.names,y.2=.free->∃c,X.env.cells.lookup y.1=aa c:=λy a e=>I.ok.has y.1 (B.free y a e)
theorem Inv.clIn(I:Inv X A w H s)(B:gA X f x D g){y:Str}{c:ac}(h:(fK X.env f.names []).lookup y=aa c):X.env.cells.lookup y=aa c:=by
 rcases NH f.names [] (I.freeHas B) h with q|q
 .simp at q
 .exact q
theorem Inv.cbIn(I:Inv X A w H s)(B:gA X f x D g){C:ac}{y:Str}{c:ac}(h:(ki X f C).lookup y=aa c):((y,c)∈fz (C+1) f.names []/\f.names.lookup y=aa .cell)\/((fK X.env f.names []).lookup y=aa c/\X.env.cells.lookup y=aa c):=by
 rw[yQ,sU]at h;cases e:(fz (C+1) f.names []).lookup y with
 |none=>rw[e]at h;exact .inr ⟨h,I.clIn B h⟩
 |some a=>
  rw[e]at h;cases h;have m:=jd e;rcases uL _ _ _ m with z|z
  .cases z
  .exact .inl ⟨m,B.cells _ z rfl⟩
theorem Inv.cbOld(I:Inv X A w H s)(B:gA X f x D g){C:ac}{y:Str}{c:ac}(h:(fK X.env f.names []).lookup y=aa c)(a:f.names.lookup y=aa .free):(ki X f C).lookup y=aa c:=by
 rw[yQ,sU];cases e:(fz (C+1) f.names []).lookup y with
 |none=>exact h
 |some b=>
  rcases uL _ _ _ (jd e)with z|z
  .cases z
  .have:=B.cells _ z rfl;rw[a]at this;cases this
theorem Inv.block{fp:List ac}{E:aF}{m:Str->Option ai}{t':Nat}(hh:E=pushCells (s.heap.push {cls:=.type "dict",data:=.dict #[]}) f.names)(I:Inv X A w H s)(B:gA X f x D g)(Y:∀b∈fp,iI X A H b)(hfo:∀b∈fp,∃o,s.heap.get? b=aa o)(jF:E.Ns s.heap.objs.size m)(F:∀b o,s.heap.get? b=aa o->E.get? b=aa o):Inv (cH X f D s.heap.objs.size s H fp A) [] (ae::eA w g) H {s with heap:=E,toks:=t'}:=by
 have N:∀x c,X.env.cells.lookup x=aa c->c<s.heap.objs.size:=λx c e=>(I.cell x c e).elim λv q=>q.lt;have C:∀{y:Str}{c:ac},(y,c)∈fz (s.heap.objs.size+1) f.names []->E.IsCell c ae/\s.heap.objs.size+1<=c/\∀z,(z,c)∈fz (s.heap.objs.size+1) f.names []->y=z:=λh=>by rw[hh];exact BP h
 have lk:∀y k,(compEnvC f (ki X f s.heap.objs.size) s.heap.objs.size X.env).kindOf y=aa k->∃O,f.names.lookup y=aa O/\(k=O\/(O=.free/\k=.cell)):=λy k h=>yy h;have J:∀y,f.names.lookup y=aa .free->∃c,(fK X.env f.names []).lookup y=aa c:=λy h=>uu f.names [] (C6 h);have nfs:∀b∈fh X.stack,b≠s.heap.objs.size:=λb G e=>by
  rcases bW.mp (I.stkSub b G)with z|z
  .exact absurd I.lt (by rw[<-z,e];exact d9 _)
  .exact I.nofs (lS e.symm) z
 refine⟨⟨I.ok.mod,B.kind,I.ok.glob,I.ok.blt,ba _,λy z c h1 h2=>?_,λy P=>?_,λy c h l_=>?_,I.ok.hd,I.ok.frames,.inl rfl,λb G=>?_,λb o e=>I.bs b o e,c4 I.ok.bsz I.sz,λb o e G=>?_,λb G hf=>?_,I.stack,(λb G=>I.stkFree b G),I.tab⟩,rfl,I.bare,Un.kept F,⟨m,jF,λi y v e1 S e3=>?_⟩,λy c h=>?_,I.hok.fresh (ba _),λy c h=>?_,λp hp=>?_,I.hok.kept F,?_⟩
 .-- inj
  rcases I.cbIn B h1 with⟨a1,a2⟩|⟨a1,a2⟩ <;> rcases I.cbIn B h2 with⟨b1,b2⟩|⟨b1,b2⟩
  .exact(C a1).2.2 z b1
  .exact(v8 (C a1).2.1 (N _ _ b2)).elim
  .exact(v8 (C b1).2.1 (N _ _ a2)).elim
  .exact I.ok.inj y z c a2 b2
 .-- has
  show ∃c,(ki X f s.heap.objs.size).lookup y=aa c;have jG:f.names.lookup y=aa .free->∃c,(ki X f s.heap.objs.size).lookup y=aa c:=λq=>(J y q).imp λc hc=>I.cbOld B hc q;rcases P with P|P
  .obtain⟨O,q,z|⟨z,_⟩⟩:=lk y _ P
   .subst z;exact wo _ _ _ (jd q)
   .subst z;exact jG q
  .obtain⟨O,q,z|⟨_,z⟩⟩:=lk y _ P
   .subst z;exact jG q
   .cases z
 .-- cab
  have hk:f.names.lookup y=aa .cell:=by simpa using(show(f.names.lookup y == aa .cell)=ah from h)
  show s.heap.objs.size<=c;rcases I.cbIn B l_ with⟨a1,a2⟩|⟨a1,a2⟩
  .have:=(C a1).2.1;lia
  .obtain⟨c',Q⟩:=wo (n:=s.heap.objs.size+1) (a:=[]) _ (jd hk);have e:(ki X f s.heap.objs.size).lookup y=aa c':=by rw[yQ,sU,Q];rfl
   have S:(ki X f s.heap.objs.size).lookup y=aa c:=l_;rw[e]at S;cases S;have:=(C (jd Q)).2.1;lia
 .-- exf
  obtain⟨f0,f1,f2,f3,f4,f5⟩:=Y b G;obtain⟨o,L⟩:=hfo b G;refine⟨λe=>absurd (br L) (by rw[e];exact d9 _),λy c h=>?_⟩;rcases I.cbIn B h with⟨a1,a2⟩|⟨a1,a2⟩
  .rintro rfl;exact v8 (C a1).2.1 (br L)
  .exact f4 y c a2
 .-- noex
  obtain⟨f0,f1,f2,f3,f4,f5⟩:=Y b G;rcases f3 with z|z
  .exact I.ok.noex b o e z
  .exact absurd (eV (br e) (c4 I.ok.bsz z)) (d9 _)
 .-- exfs
  obtain⟨f0,f1,f2,f3,f4,f5⟩:=Y b G;rcases bW.mp (I.stkSub b hf)with z|z
  .exact f1 z
  .exact f2 z
 .-- loc
  cases i with
  |zero=>simp at S
  |succ i=>
   have K:(eA w g)[i]?=aa (aa v):=by simpa using S
   unfold eA at K;rw[iP]at K;cases Z:g[i]? with
   |none=>rw[Z]at K;cases K
   |some j=>
    rw[Z]at K;have T:(w[j]?).join=aa v:=eD K;have e5:w[j]?=aa (aa v):=by
     cases hq:w[j]? with
     |none=>rw[hq]at T;cases T
     |some o=>rw[hq]at T;exact congrArg aa T
    obtain⟨b1,b2⟩:=(B.caps i j y e1 Z).elim id λz=>by have:=(cI.mp e5).1;rw[I.len]at this;exact absurd this (wG.mpr z.1)
    obtain⟨mm,hn,hl⟩:=I.loc;have oC:=B.free _ (jd b2) rfl;have W:dw X.env.scope y:=by
     rcases oC with z|z
     .exact .inr (.inl z)
     .exact .inr (.inr z)
    obtain⟨u,r,l⟩:=hl j y v b1 e5 W;refine⟨u,r,.inr ⟨zE b2,?_⟩⟩;rcases l with⟨l,_⟩|⟨_,c,hc,qx⟩
    .rcases oC with z|z
     .rw[l]at z;cases z
     .rw[l]at z;cases z
    .obtain⟨c',Q⟩:=J y b2;have e6:=I.clIn B Q;rw[hc]at e6;cases e6;obtain⟨M,L,hd⟩:=qx;exact⟨c,I.cbOld B Q b2,M,F c M L,hd⟩
 .rcases I.cbIn B h with⟨a1,a2⟩|⟨a1,a2⟩
  .exact⟨ae,(C a1).1⟩
  .obtain⟨v,M,L,hd⟩:=I.cell y c a2;exact⟨v,M,F c M L,hd⟩
 .rcases I.cbIn B h with⟨a1,a2⟩|⟨a1,a2⟩
  .exact I.hok.fresh (c4 (sQ _) (C a1).2.1)
  .exact I.freeC y c a2
 .have j8:p∈X.pn++A:=by simpa[cH]using hp
  obtain⟨e,n,ne,nf,d⟩:=I.pin p j8;refine⟨F _ _ e,n,cT (br e),λhf=>?_,d⟩;rcases bW.mp (I.stkSub p.1 hf)with z|z
  .exact ne z
  .exact nf z
 .show(ae::eA w g).length=D.length;rw[B.len];simp[eA]
end
def pA(X:Cx)(b:List ay)(t:TT):Prop :=
 ∀(d:List (ac×Obj)) (s:am) (a:St) (H:Hp) (Q:Bool->Hp->Prop),Inv X d a H s->t a H Q ->
  aw (aA X.prog X.w) X.A (forIn b ah λc r=>if r=ah then do let ok <-lP c X.env (aL c X.env);pure (ForInStep.yield ok)else pure (ForInStep.yield r)) (TP X d a Q) X.xe s
theorem Iy{P:a4}{w:aT}{A:aX}{R:Result->am->Prop}{s:am}{m q i:ay}{l:List ay}{g:c8}{p:Pos}{u C:ai}{d:Env}(J:Nat->am->Prop)(n:∀k o,J k o->aw (aA P w) A (pyNext u) (λr B=>match r with
   |none=>R (.ok .next) B
   |some v=>aw (aA P w) A (zX q u v) (λ_ G=>aw (aA P w) A (assign q d v) (λ_ F=>aw (aA P w) A (forIn l ah λc r=>if r=ah then do let ok <-lP c d (aL c d);pure (ForInStep.yield ok)else pure (ForInStep.yield r)) (λb z=>if b=ah then aw (aA P w) A (aL m d) (λy E=>aw (aA P w) A (call (.builtin "list.append") [C,y]) (λ_ D=>∃j,j<k/\J j D) (λ_ _=>False) E) (λ_ _=>False) z else ∃j,j<k/\J j z) (λ_ _=>False) F) (λ_ _=>False) G) (λ_ _=>False) B) (λ_ _=>False) o) (k:Nat) (h:J k s) :
  kG (aA P w) A (.compLoop (.ListComp m [⟨q,i,l,0⟩] g p) 0 u C d) R s:=by
 refine codeAny_loop rfl J (λj o K=>?_) k h;show aw _ A (Sem.onRaise (compTurn (.ListComp m [⟨q,i,l,0⟩] g p) 0 u C d) (λx=>do noteFrame x d;theTreesLotGoes x)) _ _ o;refine wpAny_noted ?_;rw[compTurn_list];have no:∀(Q:ai->am->Prop) (a:ai) (b:am),False->Q a b:=λ_ _ _ f=>f.elim;refine au (wpAny_standAt (au (eW (n j o K) (λr B I=>?_) (no _))));cases r with
 |none=>exact aQ I
 |some v=>
  refine au (eW I (λ_ G O=>au (eW O (λ_ F N=>au (eW N (λb z H=>?_) (no _))) (no _))) (no _));cases b with
  |true=>exact au (au (eW H (λy E M=>au (eW M (λ_ D L=>aQ (aQ ⟨rfl,L⟩)) (no _))) (no _)))
  |false=>exact aQ ⟨rfl,H⟩
def HM:TT:=λ_ H Q=>Q ah H
theorem Ji{X:Cx}:pA X [] HM:=λ_ _ _ H _ I h=>wpAny_tests_nil ⟨H,I,h⟩
theorem OL{X:Cx}{c:ay}{t:TT}(h:PT X c t):pA X [c] t:=λd s a H Q I b=>wpAny_tests_one (h d s a H Q I b)
def zP(q:TI)(h:V->Hp->St->Prop)(k:Nat)(r:TT)(s:TE)(d:List Nat):TE:=λg H Q=>q g H λJ p=>∀l,p l=ae->∃W:Nat->Nat->List V->Hp->Prop,(∃m,W 0 m [] (upd p l (.lst [])))/\∀i m a H,W i m a H ->
 (J.stop i H/\Q (.ref l) H)\/(J.go i H/\∀v j,J.yld i H v j->∃f,f.length=k+1/\h v j f/\r (f++(eA g d).drop k) j λb o=>if b=ah then s (f++(eA g d).drop k) o λy n=>n l=aa (.lst a)/\a.length<a6/\∃c,c<m/\W (i+1) c (a++[y]) (upd n l (.lst (a++[y]))) else ∃c,c<m/\W (i+1) c a o)
def Ez:V->Hp->St->Prop:=λv _ a=>a=[aa v]
abbrev zO(b:TI)(c:TT)(d:TE)(a:List Nat):TE:=zP b Ez 0 c d a
section
variable{X:Cx}{w:List (ac×Obj)}{A:St}{H:Hp}{s:am}{j:c8}{x:Str}{l:List Str}{m:List Nat}
theorem Inv.unblock{r:List ac}{i:Hp}{y:St}{s':am}{h:aF}(I:Inv X w A H s)(G:∀b∈r,iI X w H b)(a:Inv (cH X j l s.heap.objs.size s H r w) [] y i s') (K:jX s.heap.objs.size s'.heap h):Inv X w A i {s' with heap:=h}:=by
 have k:∀b o,b≠s.heap.objs.size->s'.heap.get? b=aa o->h.get? b=aa o:=λb o f e=>(K.2 b f).trans e;have B:∀b o,s.heap.get? b=aa o->b≠s.heap.objs.size:=λb o e=>cT (br e);have un:Un (fh X.stack) r H i s.heap h:=by
  refine⟨λb o e n f d=>k b o (B b o e) (a.base.keep b o e n f d),λb o e n f d=>?_,λb o e n d=>a.base.free b o e n d,λb o e d=>?_,a.base.tups,a.base.frzs,λb q e=>⟨(a.base.tbls b q e).1,λc o D g=>⟨k c o (λz=>by have F:=((a.base.tbls b q e).2 c o D g).2;rw[z,show i s.heap.objs.size=ae from a.free]at F;cases F) ((a.base.tbls b q e).2 c o D g).1,((a.base.tbls b q e).2 c o D g).2⟩⟩⟩
  .obtain⟨J,q⟩:=a.base.slot b o e n f d;exact⟨J,k b _ (B b o e) q⟩
  .obtain⟨E,q⟩:=a.base.there b o e d;exact⟨E,k b E (B b o e) q⟩
 have C:df X.prog X.w i h:=λb u e=>by
  have p:i s.heap.objs.size=ae:=a.free;refine(a.hok b u e).stay (λc v L q=>k c v ?_ q) (λ_ q=>q) λ_ _ q=>q;rintro rfl;rcases L with z|z
  .rw[<-z,p]at e;cases e
  .rw[p]at z;cases z
 refine I.call' (s':={s' with heap:=h}) (ch:=r) a.os un C a.bare λb f=>?_;obtain⟨O,N,f2,f3,f4,M⟩:=G b f;exact⟨f3,N,f4,M⟩
theorem DL{elt G tg:ay}{pos pos':Pos}{ifs:List ay}{wi:TI}{tgf:V->Hp->St->Prop}{k:Nat}{ts:TT}{te:TE}{use:Option (ai->Sem Unit)}{Q:ai->am->Prop}{Qp:VK}(B:gA X j x l m)(hk:k<=m.length)(hc:X.calm=ah)(hi:PI X tg G wi)(fD:∀C F K ex pn,PG (cH X j l C F K ex pn) tg λv O H Q=>∃Y,Y.length=k+1/\O.length=l.length/\tgf v H Y/\Q (Y++O.drop (k+1)) H)(ht:∀C F K ex pn,pA (cH X j l C F K ex pn) ifs ts) (he:∀C F K ex pn,PE (cH X j l C F K ex pn) elt te) (hs:∀x,mX G X.env x=pure x) (I:Inv X w A H s) (h:zP wi tgf k ts te m A H Qp)(fin:∀{g s6:am}{P H5:Hp}{L σ5 a f},Inv X w A P g->(∀b∈L,iI X w P b)->Inv (cH X j l g.heap.objs.size g P L w) [] σ5 H5 s6->Qp (.ref a) H5->compPost (aA X.prog X.w) X.A X.xe use Q (.ref a) g.heap.objs.size (.ok f) s6):aw (aA X.prog X.w) X.A (comprehension (.ListComp elt [⟨tg,G,ifs,0⟩] j pos) j X.env pos' (newList []) aj (aL G X.env) use) Q X.xe s:=by
 refine wpAny_comprehension_free (use:=use) rfl hs (Ek (I.freeHas B)) B.kind B.names (aR (hi w s A H _ I h) λv s1 h1=>aR h1 λitv E h2=>?_);obtain⟨it,L,tn,J,H2,e,I2,T,st2,f2,h2⟩:=h2;subst e;refine lW ?_;have I3:Inv X w A (upd H2 E.heap.objs.size (.lst [])) {E with heap:=E.heap.push {cls:=.type "list",data:=.seq ([]:List ai).toArray},toks:=E.toks}:=I2.lnew (its:=[]) (t':=E.toks) .nil (iN _);obtain⟨W,⟨m0,w0⟩,turn⟩:=h2 E.heap.objs.size I2.fresh;generalize hs3:({E with heap:=E.heap.push {cls:=.type "list",data:=.seq ([]:List ai).toArray},toks:=E.toks}:am)=g at I3;have hs3':({E with heap:=E.heap.push {cls:=.type "list",data:=.seq ([]:List ai).toArray}}:am)=g:=hs3;generalize hH3:upd H2 E.heap.objs.size (.lst [])=P at I3 w0;have nl:∀b∈L,b≠E.heap.objs.size:=λb D e=>by obtain⟨o,ho,_⟩:=T.obj _ _ st2 b D;exact absurd (br ho) (by rw[e];exact d9 _)
 have k3:∀b o,E.heap.get? b=aa o->g.heap.get? b=aa o:=λb o e=>by rw[<-hs3];exact bf _ e
 have f3:∀b∈L,iI X w P b:=λb D=>⟨by rw[<-hH3,bj (nl b D)];exact(f2 b D).1,(f2 b D).2⟩
 have tI:tn 0 g.heap:=T.keep _ _ _ st2 λb _ o e=>k3 b o e;have fo3:∀b∈L,∃o,g.heap.get? b=aa o:=λb D=>(T.obj _ _ tI b D).imp λo q=>q.1;refine KC ?_;generalize hh:pushCells (g.heap.push {cls:=.type "dict",data:=.dict #[]}) j.names=h₁;have old:∀b o,g.heap.get? b=aa o->h₁.get? b=aa o:=λb o e=>hh ▸ pushCells_keeps _ _ b o (bf _ e);have jF:h₁.Ns g.heap.objs.size (λ_=>ae):=hh ▸ (Heap.Ns.new g.heap (.type "dict")).keeps (pushCells_keeps _ _);have I4:=Inv.block (t':=g.toks) hh.symm I3 B f3 fo3 jF old;have st4:tn 0 h₁:=T.keep _ _ _ tI λb _ o e=>old b o e;have M:∀{H':Hp},(∀b∈L,H' b=ae)->∀b∈L,iI (cH X j l g.heap.objs.size g P L w) [] H' b:=λhn b D=>by
  obtain⟨f0,f1,f2',f3',f4,f5⟩:=f3 b D;refine⟨hn b D,λe=>?_,λhf=>?_,.inl D,λy c h=>?_,λp hp=>f5 p (by simpa[cH]using hp)⟩
  .obtain⟨o,ho⟩:=fo3 b D;exact absurd (br ho) (by rw[show b=g.heap.objs.size from e];exact d9 _)
  .rcases bW.mp (I3.stkSub b hf)with z|z
   .exact f1 z
   .exact f2' z
  .rcases I3.cbIn B h with⟨a1,a2⟩|⟨a1,a2⟩
   .rintro rfl;obtain⟨o,ho⟩:=fo3 _ D;exact v8 (BP a1).2.1 (br ho)
   .exact f4 y c a2
 have Z:kG (aA X.prog X.w) X.A (.compLoop (.ListComp elt [⟨tg,G,ifs,0⟩] j pos) 0 (.ref it) (.ref E.heap.objs.size) (compEnvC j (ki X j g.heap.objs.size) g.heap.objs.size X.env))
   (compPost (aA X.prog X.w) X.A X.xe use Q (.ref E.heap.objs.size) g.heap.objs.size) {g with heap:=h₁,toks:=g.toks}:=by
  refine Iy (λn s'=>∃i S O H',(∃pre:St,pre.length=k+1/\O=pre++(eA A m).drop k)/\Inv (cH X j l g.heap.objs.size g P L w) [] O H' s'/\tn i s'.heap/\(∀b∈L,H' b=ae)/\W i n S H') ?_ m0
   ⟨0,[],_,P,⟨(ae::eA A m).take (k+1),by simp[eA];lia,by rw[<-List.drop_succ_cons (a:=ae)];exact(List.take_append_drop _ _).symm⟩,I4,st4,λb D=>(f3 b D).1,w0⟩
  rintro n s5 ⟨i,S,σ5,H5,⟨pre,tu,rfl⟩,I5,qD,fr5,w5⟩;rcases turn i n S H5 w5 with⟨stop,q⟩|⟨go,step⟩
  .refine eW (T.done (cH X j l g.heap.objs.size g P L w) rfl rfl rfl hc i [] s5 _ H5 (λ_ _=>False) I5 (M fr5) qD stop) (λr s6 ⟨hr,I6⟩=>?_) (λ_ _ f=>f.elim);subst hr;exact fin I3 f3 I6 q
  .refine eW (T.item (cH X j l g.heap.objs.size g P L w) rfl rfl rfl hc i [] s5 _ H5 (λ_ _=>False) I5 (M fr5) qD go) (λr s6 ⟨u,hr,h6⟩=>?_) (λ_ _ f=>f.elim);subst hr;refine eW h6 (λ_ s7 ⟨v,H7,I7,r7,y7,st7,fr7⟩=>?_) (λ_ _ f=>f.elim);have I7':=I7.pinned (M fr7) (T.obj _ _ st7);have back:∀{N:St}{H8:Hp}{s8:am},Inv (cH X j l g.heap.objs.size g P L w) ([]++sk L s7.heap) N H8 s8->tn (i+1) s8.heap/\(∀b∈L,H8 b=ae):=λ{N H8 s8} I8=>⟨T.keep _ _ _ st7 λb D o e=>(I8.pin (b,o) (jY _ (jY _ (r_ D e)))).1,λb D=>by obtain⟨o,e,d⟩:=T.obj _ _ st7 b D;exact(I8.pin (b,o) (jY _ (jY _ (r_ D e)))).2.1⟩
   obtain⟨Y,dY,htg,step⟩:=step v H7 y7;refine aR (fD _ _ _ _ _ _ s7 _ H7 v u (λN H8=>N=Y++(eA A m).drop k/\H8=H7) I7' r7 ⟨Y,dY,I7'.len,htg,by rw[ES ∅,List.drop_eq_nil_of_le ∅];rfl,rfl⟩) λ_ s8 ⟨N,H8,I8,e8,e8'⟩=>?_;subst e8 e8';refine aR (ht _ _ _ _ _ _ s8 _ _ _ I8 step) λb s9 ⟨H9,I9,q9⟩=>?_;cases b with
   |false=>
    obtain⟨m',hm,w9⟩:=(show ∃m',m'<n/\W (i+1) m' S H9 from q9)
    exact⟨m',hm,i+1,S,_,H9,⟨Y,dY,rfl⟩,I9.unpinned,(back I9).1,(back I9).2,w9⟩
   |true=>refine aR (he _ _ _ _ _ _ s9 _ H9 _ I9 q9) λu10 s10 ⟨y,H10,I10,r10,hl10,hz10,m',hm,w10⟩=>?_;refine aR (yK _ s10 _ H10 (.ref E.heap.objs.size) [y] _ [u10] (λz H11=>H11=upd H10 E.heap.objs.size (.lst (S++[y]))) I10 rfl (.cons r10 .nil) ⟨_,S,y,rfl,rfl,hl10,hz10,rfl⟩) λ_ s11 ⟨_,H11,I11,_,e11⟩=>?_;subst e11;exact⟨m',hm,i+1,S++[y],_,_,⟨Y,dY,rfl⟩,I11.unpinned,(back I11).1,(back I11).2,w10⟩
 exact codeAny_compStart_list Z (T.self _ 0 _ _ _ st4 Z)
theorem A5{p:Pos}(B:gA X j x l m):∀C b c g f,PG (cH X j l C b c g f) (.Name x p) λv d H Q=>∃i,i.length=0+1/\d.length=l.length/\Ez v H i/\Q (i++d.drop (0+1)) H:=by
 intro C b c g f w s d H v u Q I r h;obtain⟨i,_,z,y,q⟩:=h;cases (show i=[aa v] from y);have D:Loc (cH X j l C b c g f).env.scope x:=B.loc.elim (λh=>.inl (lookup_relabel_local h)) (λh=>.inr (yz h));have n:(cH X j l C b c g f).fn x=ah\/(cH X j l C b c g f).env.scope.names.lookup x=aa .local:=B.loc.elim (λh=>.inr (lookup_relabel_local h)) (λh=>.inl (by show(j.names.lookup x == aa .cell)=ah;rw[h];rfl));have o:(cH X j l C b c g f).N[0]?=aa x:=by show l[0]?=aa x;rw[<-List.head?_eq_getElem?];exact B.hd
 refine pX B.nd o D n w s d H v u Q I r ?_;show Q (d.set 0 (aa v)) H;cases d with
 |nil=>rw[lX,B.len]at z;lia
 |cons a r=>exact q
theorem J8{f b:ay}{o pos:Pos}{d:List ay}{wi:TI}{ts:TT}{te:TE}(B:gA X j x l m)(E:X.calm=ah)(z:PI X (.Name x o) b wi)(v:∀C a c n g,pA (cH X j l C a c n g) d ts) (D:∀C a c n g,PE (cH X j l C a c n g) f te) (y:∀x,mX b X.env x=pure x:=by intro _;rfl):PE X (.ListComp f [⟨.Name x o,b,d,0⟩] j pos) (zO wi ts te m):=by intro w s A H Q I h;rw[eval_ListComp];exact DL (use:=ae) B (iN _) E z (A5 B) v D y I h λF f3 p q=>by obtain⟨u,i,_⟩:=p.loc;exact⟨u,i,λG r=>⟨.ref _,_,F.unblock f3 p r,rfl,q⟩⟩
end
def Walk(J:It)(a:List V)(R:Hp->Prop):Prop :=
 ∀H,R H->∀i,(∀x,a[i]?=aa x->J.go i H/\∀y b,J.yld i H y b->b=H/\y=x)/\(i=a.length->J.stop i H)
theorem CZ{K:ar}{a:ac}{xs:List V}:Walk (xM K a) xs (λH=>cb K H a xs):=λH h i=>⟨λx b=>⟨⟨xs,x,h,b⟩,λy d z=>⟨z.1,by have:=z.2 xs h;rw[b]at this;exact(eD this).symm⟩⟩,λc=>⟨xs,h,lS c.symm⟩⟩
theorem Gn{K:ar}{a:ac}{b:List V}:Walk (yY K a) b (λH=>cS K H a b):=λH h i=>⟨λx c=>⟨⟨b,x,h,c⟩,λy f z=>⟨z.1,by have:=z.2 b h;rw[c]at this;exact(eD this).symm⟩⟩,λd=>⟨b,h,lS d.symm⟩⟩
def pb(a:Int)(n:Nat):List V:=(bG n).map λi=>V.int (a+(i:Nat))
theorem x9(a:Int)(n:Nat):(pb a n).length=n:=by simp[pb]
theorem Jk{b:Int}{n:Nat}:Walk (vz b n) (pb b n) (λ_=>True):=λH _ i=>by
 refine⟨λx a=>?_,λd=>by rw[x9]at d;exact lS d.symm⟩;have f:i<n:=by have:=(cI.mp a).1;rw[x9]at this;exact this
 refine⟨f,λy g z=>⟨z.1,?_⟩⟩;unfold pb at a;rw[iP,List.getElem?_range f]at a;have c:V.int (b+(i:Nat))=x:=eD a;rw[z.2,<-c]
def sg(c:Nat):V:=.str ⟨#[c]⟩
def sB(z:Str):It:=⟨λi _=>i<z.cps.size,λi H x a=>a=H/\∃c,z.cps[i]?=aa c/\x=sg c,λi _=>i=z.cps.size⟩
theorem LL{z:Str}:Walk (sB z) (z.cps.toList.map sg) (λ_=>True):=λH _ i=>by
 refine⟨λx a=>?_,λd=>by show i=z.cps.size;simpa using d⟩;rw[iP]at a;cases e:z.cps.toList[i]? with
 |none=>rw[e]at a;cases a
 |some c=>
  rw[e]at a;have f:i<z.cps.size:=by have:=(cI.mp e).1;simpa using this
  refine⟨f,λy h w=>⟨w.1,?_⟩⟩;obtain⟨g,b,rfl⟩:=w.2;have:z.cps[i]?=aa c:=by simpa using e
  rw[this]at b;cases b;exact(eD a)
section
variable{X:Cx}{a:ay}
theorem MR{P:a4}{w:aT}{K:ar}{z:Str}{d:ac}{f:Nat->aF->Prop} (T:∀i h,f i h->∃o n r,h.get? d=aa o/\o.cls=.type n/\o.data=.fields r /\ ["enumerate","zip","dict_itemiterator","dict_reverseitemiterator","odict_iterator","itertools.zip_longest","itertools.pairwise"].contains n=aj)(O0:∀(A:aX) (i:Nat) (s:am) (Q:ai->am->Prop) (E:ai->am->Prop),f i s.heap->Q (.ref d) s->aw (aA P w) A (mW (.ref d)) Q E s)(D:∀A:aX,A.handled=ae->Walks P w A d [d] [d] z.cps.size (SignAt z) f):rE P w K a (sB z) [d] d f where
 mem:=by simp
 obj:=λi h g b j=>by
  have e:b=d:=by simpa using j
  subst e;obtain⟨o,n,r,L,_,J,_⟩:=T i h g;exact⟨o,L,λv q=>by rw[J]at q;cases q⟩
 keep:=λi h m g k=>by exact(D ({}:aX) rfl).frame i h m g k
 item:=by intro X F x G C i Y s S H E I p g B;subst F x G;obtain⟨O,N,f2,f3,f4,M⟩:=p d (by simp);refine(D X.A (I.ok.hd C)).item i s _ _ B g λv m l Z W k=>?_;have I1:Inv X Y S H {s with heap:=m,toks:=l}:=I.turned (t':=l) (λb o j e=>k b o (by simpa using j) e) O N f3 f4 M;obtain⟨o,n,r,L,h2,J,h4⟩:=T _ _ W;obtain⟨c,u,e1,rfl⟩:=Z;exact⟨_,rfl,uD (s:={s with heap:=m,toks:=l}) L h2 J h4 ⟨sg c,H,I1,⟨u,rfl⟩,⟨rfl,c,e1,rfl⟩,W,λb j=>(p b j).1⟩⟩
 done:=by intro X F x G C i Y s S H E I p g B;subst F x G;obtain⟨O,N,f2,f3,f4,M⟩:=p d (by simp);have y:i=z.cps.size:=B;subst y;exact(D X.A (I.ok.hd C)).done s _ _ g λm l k=>⟨rfl,I.turned (t':=l) (λb o j e=>k b o (by simpa using j) e) O N f3 f4 M⟩
 self:=O0
theorem Dr{J:It}{xs:List V}{R:Hp->Prop}{g:TG}{j:TS}{D:jK}{σ:St}{H:Hp}(A:Walk J xs R)(b:Nat->St->Hp->Prop)(B:b 0 σ H)(v:∀i σ H,i<=xs.length->b i σ H->R H)(u:∀i x σ H,xs[i]?=aa x->b i σ H->g x σ H λd h=>j {D with nx:=b (i+1),ct:=b (i+1),bk:=D.nx} d h) (z:∀σ H,b xs.length σ H->D.nx σ H):∃W:Nat->Nat->St->Hp->Prop,(∃m,W 0 m σ H)/\∀i m σ H,W i m σ H -> (J.stop i H/\D.nx σ H)\/(J.go i H/\∃N:St->Hp->Prop,(∀f c,N f c->∃l,l<m/\W (i+1) l f c)/\∀x c,J.yld i H x c->g x σ c λd h=>j {D with nx:=N,ct:=N,bk:=D.nx} d h):=by
 refine⟨λi m σ H=>m=xs.length-i/\i<=xs.length/\b i σ H,⟨xs.length,by simp,iN _,B⟩,?_⟩;rintro i m σ H ⟨rfl,w,p⟩;have q:=A H (v i σ H w p) i;by_cases o:i<xs.length
 .have n:xs[i]?=aa xs[i]:=by simp[o]
  obtain⟨C,r⟩:=q.1 xs[i] n;refine .inr ⟨C,b (i+1),λf c s=>⟨xs.length-(i+1),∅,rfl,o,s⟩,λx c y=>?_⟩;obtain⟨rfl,rfl⟩:=r x c y;exact u i _ σ _ n p
 .have e:i=xs.length:=∅
  subst e;exact .inl ⟨q.2 rfl,z σ H p⟩
theorem Ob{b:Type}(l:List b)(f:b->Bool)(d:Nat->Bool)(c:∀i x,l[i]?=aa x->d i=f x):(bG l.length).all d=l.all f:=by
 induction l generalizing d with
 |nil=>rfl
 |cons x r g=>rw[eX,Ae,p8,wH,p8,c 0 x rfl];congr 1;exact g _ λi y h=>c (i+1) y (by simpa using h)
theorem Ow{bs:List Bool}{b:List ai}(r:bx (bs.map V.bl) b){i:Nat}{v:ai}(h:b.toArray[i]?=aa v):v=.bool (bs.getD i aj):=by
 have d:=r.length;rw[bO]at d;have g:i<b.length:=by have:=(wI.mp h).1;simpa using this
 have e:(bs.map V.bl)[i]?=aa (.bl (bs.getD i aj)):=by rw[iP,eO ∅];simp[wJ,eO (show i<bs.length by lia)]
 obtain⟨u,c,f⟩:=r.get e;have:b[i]?=aa v:=by simpa using h
 rw[this]at c;cases c;exact f
theorem qT{A:aX}(h:A.handled=ae):A.in1.handled=ae:=h
theorem zt(j:X.calm=ah):ff X (.builtin "all") (λl H Q=>∃(p:ac) (bs:List Bool),l=[.ref p]/\cb X.K H p (bs.map V.bl)/\Q (.bl (bs.all id)) H):=by
 intro N s w H l P Q I r h;obtain⟨p,bs,rfl,F,q⟩:=h;obtain⟨u,rfl,A⟩:=vals1 r;cases A;obtain⟨d,m,f,T⟩:=I.list F;have n:=m.length;rw[bO]at n;refine call_all_walk (qb f.isList ?_);have M:p≠s.heap.objs.size:=by obtain⟨o,g,_⟩:=f.isList;exact cT (br g)
 refine⟨s.heap.objs.size,_,_,_,_,_,λi=>bs.getD i aj,rfl,qc (qT (I.ok.hd j)) s.heap.objs.size p M d.toArray,⟨⟨_,cj _ rfl,rfl,rfl⟩,?_⟩,λi v S Y Z E L=>?_,λW y k=>?_⟩
 .obtain⟨o,g,j,J⟩:=f.isList;exact⟨o,bf _ g,j,J⟩
 .rw[Ow m E];exact lQ L
 .have e:(bG d.toArray.size).all (λi=>bs.getD i aj)=bs.all id:=by
   rw[cD,<-n];exact Ob bs id _ λi x D=>by simp[wJ,D]
  rw[e];have O:Inv X N w H {s with heap:=s.heap.push {cls:=.type "list_iterator",data:=.fields #[.ref p,.int 0 0]},toks:=s.toks}:=I.kept (t':=s.toks) λb o e=>bf _ e;exact⟨.bl _,H,Inv.turned (t':=y) O (it:=s.heap.objs.size) (λb o K e=>k b o (by simpa using K) e) I.fresh (iL I.lt) (.inr I.sz) (λx c e z=>by obtain⟨v,B⟩:=I.cell x c e;exact absurd B.lt (by rw[z];exact d9 _)) (λC G z=>absurd (br (I.pin C G).1) (by rw[z];exact d9 _)),rfl,q⟩
end
section
variable{X:Cx}
def kn(z:Str)(a b:Option Int):Str:=⟨((z.cps.toList.drop (HT.sIx z.length 0 a)).take (HT.sIx z.length z.length b-HT.sIx z.length 0 a)).toArray⟩
theorem Md(a b:Nat):sliceRange (a:Int) (b:Int) 1=(bG (b-a)).map λk=>a+k:=by
 unfold sliceRange;have e:(if(1:Int) > 0 then(if(a:Int)<(b:Int)then((b:Int)-a+1-1) / 1 else 0)else(if(a:Int) > b then((a:Int)-b-1-1) / (-1)else 0)).toNat=b-a:=by
  rw[if_pos (by decide)];split
  .rw[Int.ediv_one];lia
  .have:b-a=0:=∅
   rw[this];rfl
 show(bG (if(1:Int) > 0 then(if(a:Int)<(b:Int)then((b:Int)-a+1-1) / 1 else 0)else(if(a:Int) > b then((a:Int)-b-1-1) / (-1)else 0)).toNat).map _=_;rw[e];refine j0 λk _=>?_;lia
theorem G5(a b:Option Int)(n:Nat):Builtin.Str.strSliceIndices a b 1 n=(bG (HT.sIx n n b-HT.sIx n 0 a)).map λk=>HT.sIx n 0 a+k:=by
 rw[<-Md];have p:(1:Int) > 0:=by decide
 cases a <;> cases b <;> (unfold Builtin.Str.strSliceIndices HT.sIx;simp only[p,if_true];congr 1 <;> (try split) <;> lia)
theorem II{b:Type}(l:List b)(a k:Nat):((bG k).map λj=>a+j).filterMap (λi=>l[i]?)=(l.drop a).take k:=by
 induction k with
 |zero=>simp
 |succ k c=>
  rw[sV,qd,List.filterMap_append,c,List.take_succ];congr 1;simp[sL];cases l[a+k]? <;> rfl
theorem IF(z:Str)(t:Tok)(l u:Option (Int×Tok)):∃m,sliceMade z t l u ae=m/\(m=.val (.str z t)/\kn z (l.map (·.1)) (u.map (·.1))=z\/m=.str (kn z (l.map (·.1)) (u.map (·.1)))):=by
 refine⟨_,rfl,?_⟩;unfold sliceMade slicePicked;have e:=G5 (l.map (·.1)) (u.map (·.1)) z.length;simp only[Option.map_none,EM];rw[e];have d:=II z.cps.toList (HT.sIx z.length 0 (l.map (·.1))) (HT.sIx z.length z.length (u.map (·.1))-HT.sIx z.length 0 (l.map (·.1)));have b:(((bG (HT.sIx z.length z.length (u.map (·.1))-HT.sIx z.length 0 (l.map (·.1)))).map λk=>HT.sIx z.length 0 (l.map (·.1))+k).filterMap (z.cps[·]?)).toArray=(kn z (l.map (·.1)) (u.map (·.1))).cps:=by unfold kn;rw[<-d];simp
 split
 .rename_i h;left;refine⟨rfl,?_⟩;simp only[beq_self_eq_true,Af,bO,ET,beq_iff_eq]at h;have g:HT.sIx z.length z.length (u.map (·.1))<=z.length:=HT.sIx_le _ _ (ba _) _;have f:z.cps.toList.length=z.length:=by simp[Str.length]
  have a:HT.sIx z.length 0 (l.map (·.1))=0\/z.length=0:=∅
  unfold kn;rw[h];rcases a with a|a
  .rw[a,Ag,om ∅]
  .have:z.cps.toList=[]:=sW ∅;rw[this];cases z;rename_i c;simp at this;subst this;simp
 .right;rw[show(⟨(((bG (HT.sIx z.length z.length (u.map (·.1))-HT.sIx z.length 0 (l.map (·.1)))).map λk=>HT.sIx z.length 0 (l.map (·.1))+k).filterMap (z.cps[·]?)).toArray⟩:Str)=kn z (l.map (·.1)) (u.map (·.1))from by rw[b]]
def CD:V->Option Int->Option Int->Hp->VK->Prop:=λx a b H Q=>∃z,x=.str z/\z.length<=a6/\Q (.str (kn z a b)) H
theorem NU(z:Str)(a b:Option Int):(kn z a b).length<=z.length:=by unfold kn Str.length;simp;lia
theorem part_of{v:ai}{o:Option Int}(p:lU v o):∃q:Option (Int×Tok),v=partValue q/\q.map (·.1)=o:=by
 cases p with
 |none=>exact⟨ae,rfl,rfl⟩
 |int i t=>exact⟨aa (i,t),rfl,rfl⟩
theorem O9:lj X CD:=by
 intro y s n H x v p o r w a Q I b g d c h;obtain⟨z,rfl,f,q⟩:=h;obtain⟨t,rfl⟩:=b;obtain⟨l,rfl,rfl⟩:=part_of d;obtain⟨u,rfl,rfl⟩:=part_of c;refine⟨"str",_,F.slot_str_getitem.lookup,typeIs_str s z t,?_⟩;obtain⟨m,j,i⟩:=IF z t l u;refine getItem_meets (typeIs_str s z t) (by decide) F.slot_str_getitem F.entry_str_getitem (F.args_str_getitem_2 _ _) (meets_str_getitem_slice z t a l u ae (by decide)) ⟨g,?_⟩;rw[j];rcases i with⟨rfl,e⟩|rfl
 .exact⟨.str z,H,I,⟨t,rfl⟩,by rw[e]at q;exact q⟩
 .exact⟨c4 (NU z _ _) f,⟨.str _,H,I.tok _,⟨_,rfl⟩,q⟩⟩
def gX(K:ar)(H:Hp)(d:Nat)(x y:V)(k:Bool):Prop :=
 ∀(X:Cx),X.K=K->∀(b:List (ac×Obj)) (a:St) (s:am) (u v:ai) (A:aX),Inv X b a H s->RelV x u->RelV y v->A.units+d<cLine->wA A s u v k
theorem G8{K:ar}{H:Hp}{d:Nat}{x y:V}(f:g7 x=ah)(c:g7 y=ah):gX K H d x y (fI x y):=λ_ _ _ _ _ _ _ _ _ b a _=>Ci b a f c
def fJ(e:Nat->Bool)(n m:Nat):Bool:=(bG (min n m)).all e&&n == m
theorem Ex{A:aX}:A.in1.units=A.units+1:=rfl
theorem yD{H:Hp}{d:Nat}{a b:ac}{f c:List V}{e:Nat->Bool}{K:List (ac×Obj)}{w:St}{s:am}{A:aX}(I:Inv X K w H s)(O:cb X.K H a f)(N:cb X.K H b c)(M:∀(j:Nat) x y,f[j]?=aa x->c[j]?=aa y->gX X.K H d x y (e j)) (S:A.units+(d+1)<cLine):SeqAt.RcAt A s (.ref a) (.ref b) (fJ e f.length c.length)/\SeqAt.RcNeAt A s (.ref a) (.ref b) (!fJ e f.length c.length):=by
 obtain⟨h,B,o,_⟩:=I.list O;obtain⟨l,z,g,_⟩:=I.list N;have p:=B.length;have Q:=z.length;have E:∀j (G:j<h.toArray.size) (F:j<l.toArray.size),wA A.in1 s h.toArray[j] l.toArray[j] (e j):=λj G F=>by
  have r:j<h.length:=by simpa using G
  have q:j<l.length:=by simpa using F
  have m:f[j]?=aa f[j]:=eO ∅;have J:c[j]?=aa c[j]:=eO ∅;obtain⟨u,D,r1⟩:=B.get m;obtain⟨v,C,L⟩:=z.get J;have P:h[j]=u:=by rw[eO r]at D;exact eD D
  have f2:l[j]=v:=by rw[eO q]at C;exact eD C
  have:=M j f[j] c[j] m J X rfl K w s u v A.in1 I r1 L (by rw[Ex];lia);simpa[P,f2]using this
 by_cases i:f.length=c.length
 .have n:h.toArray.size=l.toArray.size:=by simp;lia
  have m:fJ e f.length c.length=(bG h.toArray.size).all e:=by unfold fJ;rw[i,Nat.min_self,beq_self_eq_true,Bool.and_true,cD,<-p,i]
  rw[m];exact⟨.lists o.isList g.isList n ∅ E,.lists o.isList g.isList n ∅ E⟩
 .have m:fJ e f.length c.length=aj:=by
   unfold fJ;rw[beq_false_of_ne i,Bool.and_false]
  have n:(h.toArray.size != l.toArray.size)=ah:=by simp;lia
  rw[m];exact⟨.lists_lengths o.isList g.isList n ∅,.lists_lengths o.isList g.isList n ∅⟩
theorem zF{H:Hp}{d:Nat}{a b:ac}{f c:List V}{e:Nat->Bool}{G:List (ac×Obj)}{p:St}{s:am}{A:aX}(I:Inv X G p H s)(N:cS X.K H a f)(M:cS X.K H b c)(L:∀(j:Nat) x y,f[j]?=aa x->c[j]?=aa y->gX X.K H d x y (e j)) (P:A.units+(d+1)<cLine):SeqAt.RcAt A s (.ref a) (.ref b) (fJ e f.length c.length)/\SeqAt.RcNeAt A s (.ref a) (.ref b) (!fJ e f.length c.length):=by
 obtain⟨h,r,B,_⟩:=I.tuple N;obtain⟨g,q,i,_⟩:=I.tuple M;have m:=r.length;have K:=q.length;have C:∀j (E:j<h.toArray.size) (D:j<g.toArray.size),wA A.in1 s h.toArray[j] g.toArray[j] (e j):=λj E D=>by
  have o:j<h.length:=by simpa using E
  have n:j<g.length:=by simpa using D
  have l:f[j]?=aa f[j]:=eO ∅;have F:c[j]?=aa c[j]:=eO ∅;obtain⟨u,z,r1⟩:=r.get l;obtain⟨v,w,J⟩:=q.get F;have O:h[j]=u:=by rw[eO o]at z;exact eD z
  have f2:g[j]=v:=by rw[eO n]at w;exact eD w
  have:=L j f[j] c[j] l F X rfl G p s u v A.in1 I r1 J (by rw[Ex];lia);simpa[O,f2]using this
 have l:fJ e f.length c.length=((bG (min h.toArray.size g.toArray.size)).all e&&h.toArray.size == g.toArray.size):=by unfold fJ;rw[cD,cD,<-m,<-K]
 rw[l];exact⟨.tuples B i ∅ C,.tuples B i ∅ C⟩
theorem FO{K:ar}{H:Hp}{d:Nat}{a b:ac}{f c:List V}{e:Nat->Bool}(n:cb K H a f)(m:cb K H b c)(p:a≠b)(l:∀(j:Nat) x y,f[j]?=aa x->c[j]?=aa y->gX K H d x y (e j)):gX K H (d+1) (.ref a) (.ref b) (fJ e f.length c.length):=λX o r q s u v A I h g i=>by
 subst o;cases h;cases g;exact .of_refs p (yD I n m l i).1
theorem Ic{K:ar}{H:Hp}{d:Nat}{a b:ac}{f c:List V}{e:Nat->Bool}(n:cS K H a f)(m:cS K H b c)(p:a≠b)(l:∀(j:Nat) x y,f[j]?=aa x->c[j]?=aa y->gX K H d x y (e j)):gX K H (d+1) (.ref a) (.ref b) (fJ e f.length c.length):=λX o r q s u v A I h g i=>by
 subst o;cases h;cases g;exact .of_refs p (zF I n m l i).1
theorem A_{K:ar}{H:Hp}{d:Nat}{a:ac}:gX K H d (.ref a) (.ref a) ah:=λX h i f s u v A I c b g=>by
 cases c;cases b;exact .same _
def rn(K:ar)(g:Bool):R2:=λx y H Q=>∃a b f c d e,x=.ref a/\y=.ref b/\((cb K H a f/\cb K H b c)\/(cS K H a f/\cS K H b c))/\d<=8 /\
 (∀(j:Nat) x y,f[j]?=aa x->c[j]?=aa y->gX K H d x y (e j))/\Q (.bl (if g then !fJ e f.length c.length else fJ e f.length c.length)) H
theorem Gb(n:X.A.units+64<cLine):b8 X (eh .Eq) (rn X.K aj):=by
 intro p s j H x y v u Q I g f h;obtain⟨a,b,m,l,d,e,rfl,rfl,i,o,c,q⟩:=h;cases g;cases f;rcases i with⟨h1,h2⟩|⟨h1,h2⟩
 .exact(yD I h1 h2 c ∅).1 _ _ _ _ ⟨.bl _,H,I,rfl,q⟩
 .exact(zF I h1 h2 c ∅).1 _ _ _ _ ⟨.bl _,H,I,rfl,q⟩
theorem L1(n:X.A.units+64<cLine):b8 X (eh .NotEq) (rn X.K ah):=by
 intro p s j H x y v u Q I g f h;obtain⟨a,b,m,l,d,e,rfl,rfl,i,o,c,q⟩:=h;cases g;cases f;rcases i with⟨h1,h2⟩|⟨h1,h2⟩
 .exact(yD I h1 h2 c ∅).2 _ _ _ _ ⟨.bl _,H,I,rfl,q⟩
 .exact(zF I h1 h2 c ∅).2 _ _ _ _ ⟨.bl _,H,I,rfl,q⟩
theorem DZ{y:V}:∀{a:List V}{b:List ai},bx a b->a.all g7=ah->b.countP (jR y)=a.countP λz=>fI z y
 |_,_,.nil,_=>rfl
 |z::a,u::b,.cons r t,f=>by rw[p8,dW]at f;rw[List.countP_cons,List.countP_cons,x8 r f.1,DZ t f.2]
def IM(K:ar):V->List V->Hp->VK->Prop:=λx b H Q=>∃(p:ac) (a:List V) (y:V),x=.ref p/\b=[y]/\cS K H p a/\g7 y=ah/\a.all g7=ah/\Q (.int ((a.countP λz=>fI z y:Nat):Int)) H
theorem FD:zQ X "tuple.count" (IM X.K):=by
 intro K s C H x E v G Q I i j h;obtain⟨p,D,y,rfl,rfl,o,z,d,q⟩:=h;cases i;obtain⟨u,rfl,l⟩:=j.one;obtain⟨a,r,⟨⟨B,A,f,g⟩,e,c,n,b⟩,J⟩:=I.tuple o;simp only at c b;subst c b;refine call_meets F.slot_tuple_count ⟨_,e,rfl⟩ F.entry_tuple_count (F.args_tuple_count_2 _ _) (SeqAt.tuple_countAt p a.toArray n A g u (jR y)) ⟨e,λw m=>uK l z r d w (by simpa using m),?_⟩;exact⟨.int _,H,I.tok _,⟨_,by rw[List.toList_toArray,DZ r d]⟩,q⟩
end
abbrev Tx:=List Nat
def tS(l:Tx):Str:=⟨l.toArray⟩
def tV(l:Tx):V:=.str (tS l)
def c7(ls:List Tx):List V:=ls.map tV
theorem lD(l:Tx):(tS l).cps.toList=l:=by simp[tS]
theorem kq(l:Tx):(tS l).length=l.length:=by simp[tS,Str.length]
theorem CG(z:Str):tS z.cps.toList=z:=by cases z;simp[tS]
theorem o9{a b:Tx}(h:tS a=tS b):a=b:=by rw[<-lD a,h,lD]
theorem Jd{a b:Tx}(h:tV a=tV b):a=b:=o9 (V.str.inj h)
theorem zd(a:List Tx):(c7 a).length=a.length:=bO _
def c0(a b:Tx):Bool:=decide (a<=b)
def bw(a:List Tx):List Tx:=a.mergeSort c0
theorem B9(a b c:Tx)(f:c0 a b=ah)(d:c0 b c=ah):c0 a c=ah:=by simp only[c0,decide_eq_true_eq]at *;exact List.le_trans f d
theorem IC(a b:Tx):(c0 a b||c0 b a)=ah:=by simp only[c0,oq,decide_eq_true_eq];exact List.le_total a b
theorem L6{a b:Tx}(d:c0 a b=ah)(c:c0 b a=ah):a=b:=by simp only[c0,decide_eq_true_eq]at *;exact List.le_antisymm d c
theorem jr(a:List Tx):(bw a).Perm a:=List.mergeSort_perm _ _
theorem vV(c:List Tx):(bw c).Pairwise (λa b=>c0 a b=ah):=List.pairwise_mergeSort B9 IC _
theorem Mg(a:List Tx):(bw a).length=a.length:=(jr a).length_eq
theorem vS{c d:List Tx}(g:d.Perm c)(f:d.Pairwise (λa b=>c0 a b=ah)):d=bw c :=List.Perm.eq_of_pairwise (le:=λa b=>c0 a b=ah) (λ_ _ _ _ i h=>L6 i h) f (vV c) (g.trans (jr c).symm)
theorem vT{c:List Tx}(d:c.Pairwise (λa b=>c0 a b=ah)):bw c=c:=(vS (Ah c) d).symm
theorem xI{a b:List Tx}(c:a.Perm b):bw a=bw b:=vS ((jr a).trans c) (vV a)
theorem B6:∀(p:Str) (l:List Str),risingS p l=ah->(p::l).Pairwise (λa b=>c0 a.cps.toList b.cps.toList=ah)
 |p,[],_=>List.pairwise_singleton _ _
 |p,x::r,h=>by
  have d:(!ltCps x.cps.toList p.cps.toList&&risingS x r)=ah:=h;rw[dW,ltCps_eq]at d;have q:=B6 x r d.2;have f:c0 p.cps.toList x.cps.toList=ah:=by simp only[c0,decide_eq_true_eq];intro g;simp[g]at d
  refine List.pairwise_cons.mpr ⟨λy c=>?_,q⟩;rcases bW.mp c with rfl|c
  .exact f
  .exact B9 _ _ _ f (List.rel_of_pairwise_cons q c)
theorem Od{c:List Str}(h:sortedS c=ah):(c.map λz=>z.cps.toList).Pairwise (λa b=>c0 a b=ah):=by
 rw[EU];cases c with
 |nil=>exact List.Pairwise.nil
 |cons x r=>exact B6 x r h
theorem xb:∀{ls:List Tx}{a:List ai},bx (c7 ls) a->fR a (ls.map tS)
 |[],_,.nil=>.nil
 |l::ls,_::_,.cons ⟨t,e⟩ r=>by subst e;exact .cons _ t (xb (ls:=ls) r)
theorem vE:∀{b:List Str}{a:List ai},fR a b->bx (c7 (b.map λz=>z.cps.toList)) a
 |_,_,.nil=>.nil
 |_,_,.cons y t h=>.cons ⟨t,by rw[CG]⟩ (vE h)
section
variable{P:a4}{w:aT}{A:aX}{E:ai->am->Prop}{s:am}
theorem Cb{v:ai}{Q:ai->am->Prop}(y:aw (aA P w) A.in1 (collect v) (λd s1=>∃ss:List Str,fR d ss/\d.length<64/\∀(i:aF) (out:Array ai) (f:List Str) (e:Nat),(∀b o,s1.heap.get? b=aa o->i.get? b=aa o) -> i.get? s1.heap.objs.size=aa (j3 "list" out e)->fR out.toList f->f.Perm ss->sortedS f=ah->Q (.ref s1.heap.objs.size) {s1 with heap:=i}) E s):aw (aA P w) A (call (.builtin "sorted") [v]) Q E s:=by refine Calls.call_function_entry kind_sorted plain_sorted entry_sorted (args_sorted1 _) ?_;unfold Builtin.«sorted»;refine au (m:=checkCount "sorted" 1 1 _) (aQ ?_);refine au (aR y λd s1 ⟨ss,h,q,j⟩=>?_);refine au (wpAny_newList ?_);have g:(s1.heap.push (j3 "list" d.toArray 0)).get? s1.heap.objs.size=aa (j3 "list" d.toArray 0):=cj _ rfl;refine au (lV (wz slot_list_sort ⟨_,g,rfl⟩ entry_list_sort (list_sort_treeK strKind_oneLt g h.keysOf (λa b c e=>keyKind_strs (by rw[<-e];exact h)) q λp u r=>⟨_,rfl,?_⟩) (args_list_sort _)));obtain⟨f,C,B,z⟩:=sorted_out_str h u r;obtain⟨e,x⟩:=sortedHeap_at (out:=(arrOf p).map (·.2)) g;refine aQ ⟨_,rfl,j _ _ f e (λb o l=>?_) x C B z⟩;have n:b<s1.heap.objs.size:=br l;rw[sortedHeap_old (cT n) (by rw[jf];exact jD n)];exact bf _ l
end
section
variable{X:Cx}
theorem Inv.sorted{g:List (ac×Obj)}{f:St}{H:Hp}{s1:am}{a:List Tx}{ss c:List Str}{d:aF}{out:Array ai}{e:Nat}(I:Inv X g f H s1)(j:ss=a.map tS)(r:a.length<64)(k:∀b o,s1.heap.get? b=aa o->d.get? b=aa o) (i:d.get? s1.heap.objs.size=aa (j3 "list" out e)) (q:fR out.toList c) (p:c.Perm ss) (n:sortedS c=ah):Inv X g f (upd H s1.heap.objs.size (.lst (c7 (bw a)))) {s1 with heap:=d}:=by
 have m:c.map (λz=>z.cps.toList)=bw a:=by
  refine vS ?_ (Od n);have:=p.map λz=>z.cps.toList;rw[j,dX]at this;have l:(a.map ((λz:Str=>z.cps.toList) ∘ tS))=a:=by simp[Function.comp_def,lD]
  rw[l]at this;exact this
 have h:bx (c7 (bw a)) out.toList:=by rw[<-m];exact vE q
 refine I.laid (t':=s1.toks) k (ba _) ⟨?_,out.toList,e,h,?_⟩
 .rw[zd,Mg];exact kF (y6 ∅)
 .rw[Array.toArray_toList];exact i
theorem xA:ff X (.builtin "sorted") (λv H Q=>∃(p:ac) (d:List Tx),v=[.ref p]/\(cb X.K H p (c7 d)\/cS X.K H p (c7 d))/\d.length<64/\∀l,H l=ae->Q (.ref l) (upd H l (.lst (c7 (bw d))))):=by
 intro G s x H v M Q I r h;obtain⟨p,d,rfl,f,C,q⟩:=h;obtain⟨u,rfl,y⟩:=vals1 r;cases y;have b:∀(T:String) (o:Obj) (a:List ai) (n:Nat),(T = "list"\/T = "tuple")->s.heap.get? p=aa o->o.cls=.type T->o.data=.seq a.toArray n->bx (c7 d) a ->
   aw (aA X.prog X.w) X.A (call (.builtin "sorted") [Value.ref p]) (EP X G x Q) X.xe s:=λT o a n F j i g c=>by
  have E:=c.length;rw[zd]at E;have m:=y6 (n:=a.length) ∅;refine Cb (wpAny_collect_seq p F j i g (λN B=>?_) (by rw[cD];lia));have w:=I.kept (t':=s.toks) B;refine⟨_,xb c,by rw[List.toList_toArray];lia,λO A P e k j L K J=>?_⟩;exact⟨.ref _,_,Inv.sorted w rfl C k j L K J,rfl,q _ w.fresh⟩
 rcases f with f|f
 .obtain⟨a,c,z,D⟩:=I.list f;obtain⟨o,e,i,n,g⟩:=z.isList;exact b "list" o a n (.inl rfl) e i g c
 .obtain⟨a,c,⟨o,e,i,n,g⟩,D⟩:=I.tuple f;exact b "tuple" o a n (.inr rfl) e i g c
theorem JI(z:Tx)(n:Nat):Txt.mul (tS z) (n:Int)=tS (cM n z).flatten:=by
 unfold Txt.mul;cases n with
 |zero=>simp[tS,jZ]
 |succ n=>
  rw[if_neg ∅];split
  .rename_i h;simp only[oq,beq_iff_eq]at h;rcases h with h|h
   .have:n=0:=∅
    subst this;simp
   .rw[kq]at h;have:z=[]:=sW h;subst this;simp
  .unfold tS;congr 1;have b:∀(k:Nat) (a:Array Nat),(cM k z.toArray).foldl (·++·) a=a++(cM k z).flatten.toArray:=by
    intro k
    induction k with
    |zero=>intro a;simp
    |succ k c=>intro a;rw[EO,lY,c,EO,List.flatten_cons];simp[Array.append_assoc]
   have e:=b (n+1) #[];simp only[m9];simpa using e
theorem Lw:b8 X (i_ .Mult) (λx y H Q=>∃(z:Tx) (n:Nat),x=tV z/\y=.int n/\n<=100/\z.length<=100/\Q (tV (cM n z).flatten) H):=by
 intro w s j H x y v u Q I c b h;obtain⟨z,n,rfl,rfl,f,d,q⟩:=h;obtain⟨t,rfl⟩:=c;obtain⟨m,rfl⟩:=b;refine SB.mul ?_ λl k=>?_
 .have o:z.length*n<=10000:=c4 (Nat.mul_le_mul d f) (by decide);refine⟨by rw[Bool.or_eq_false_iff];constructor <;> (apply decide_eq_false;lia),λi _=>?_,λi _=>?_⟩
  .rw[kq];intro g;have r:(2^63-1:Int) / n ≥ (2^63-1) / 100:=by
    have a:(0:Int)<n:=∅
    apply (Int.le_ediv_iff_mul_le a).mpr;have:((2^63-1:Int) / 100)*n<=((2^63-1) / 100)*100:=Int.mul_le_mul_of_nonneg_left ∅ (by decide);refine Int.le_trans this (by decide)
   have p:((2^63-1:Int) / 100) > 1000:=by decide
   lia
  .rw[kq,m9];unfold Builtin.Str.tooLong;apply decide_eq_false;have:10000<a6:=by rw[oi];decide
   lia
 .rw[JI];exact⟨tV _,H,I.tok _,⟨_,rfl⟩,q⟩
end
theorem JP(t:jg)(j:Nat):(t.put j).1.led=t.led/\(t.put j).1.plain=t.plain:=⟨rfl,rfl⟩
theorem FR(t:jg)(n:Nat):(t.orStandIn n).led=t.led/\((t.orStandIn n).plain=t.plain\/(t.orStandIn n).plain=aj):=by
 unfold SetTable.orStandIn;split
 .exact⟨rfl,.inl rfl⟩
 .exact⟨rfl,.inr rfl⟩
theorem G0(t:jg)(c:Array (Int×ai))(h:Int)(x:ai):(layNew t c h x).2.1.led=t.led/\((layNew t c h x).2.1.plain=t.plain\/(layNew t c h x).2.1.plain=aj):=by
 unfold layNew;split
 .rename_i a b _;have f:=JP t a;have d:=FR (t.put a).1 (SetTable.insertAt c (t.put a).2 (h,x)).size;exact⟨d.1.trans f.1,by rw[<-f.2];exact d.2⟩
 .exact⟨rfl,.inr rfl⟩
theorem Lb(t:jg)(c:Array (Int×ai))(a:Nat)(d:t.plain=aj):(qe t c a).2.1.led=t.led/\(qe t c a).2.1.plain=aj:=by
 unfold qe;split
 .rename_i t' b e;have q:t'.led=t.led/\t'.plain=t.plain:=by
   unfold SetTable.relaid SetTable.laid at e;cases q:SetTable.layClean (SetTable.sizeAbove a-1) (c.map (·.1))with
   |none=>rw[q]at e;cases e
   |some f=>rw[q]at e;cases e;exact⟨rfl,rfl⟩
  dsimp only;split
  .exact⟨q.1,q.2.trans d⟩
  .exact⟨rfl,rfl⟩
 .exact⟨rfl,rfl⟩
def d8(w:aT):Bool:=w.params.followText "set-order"
structure i9(P:a4)(w:aT)(h:aF)(a:ac)(ks:List Str):Prop where
 ex:∃(es:Array (Int×ai)) (ep:Nat) (t:jg) (ss:List Str),h.get? a=aa {cls:=.type "set",dict:=ae,data:=.set es ep t}/\fR (es.toList.map (·.2)) ss/\ss.Perm ks/\ElemsOf (jh P w) es.toList /\
  es.size<4090/\t.fits es.size=ah/\t.led=(!d8 w)/\(ks≠[]->t.plain=aj)
theorem i9.at{P:a4}{w:aT}{h h':aF}{a:ac}{ks:List Str}(S:i9 P w h a ks)(k:∀o,h.get? a=aa o->h'.get? a=aa o):i9 P w h' a ks:=by obtain⟨es,ep,t,ss,e,r⟩:=S.ex;exact⟨es,ep,t,ss,k _ e,r⟩
theorem Dn:∀{a:List ai}{b:List Str},fR a b->∀x,x∈b↔∃t,Value.str x t∈a
 |_,_,.nil,x=>by simp
 |_,_,.cons y t h,x=>by
  rw[bW,Dn h x];constructor
  .rintro(rfl|⟨t',q⟩)
   .exact⟨t,lN ..⟩
   .exact⟨t',iK _ q⟩
  .rintro⟨t',q⟩;rcases bW.mp q with q|q
   .cases q;exact .inl rfl
   .exact .inr ⟨t',q⟩
theorem ya:∀{a b:List ai},a.Perm b->∀{c:List Str},fR b c->∃d,fR a d/\d.Perm c:=by intro a b p c h;refine⟨a.map strOf,strsAre_map a λv f=>h.all v (p.mem_iff.mp f),?_⟩;have:=p.map strOf;rwa[h.strs]at this
section
variable{P:a4}{w:aT}{A:aX}{E:ai->am->Prop}{s:am}
def i7(ks:List Str)(x:Str):List Str:=if x∈ks then ks else ks++[x]
theorem i9.put{h:aF}{a:ac}{c es':Array (Int×ai)}{b:Nat}{t t':jg}(e:h.get? a=aa {cls:=.type "set",dict:=ae,data:=.set c b t}):(h.update a (Obj.putSet es' t')).get? a=aa {cls:=.type "set",dict:=ae,data:=.set es' (b+1) t'}:=by have:=qf (Obj.putSet es' t') e (by rw[putSet_of es' t' rfl];rfl);rw[putSet_of es' t' rfl]at this;exact this
theorem Ha{a:ac}{ks:List Str}{x:Str}{g:Tok}{Q:Bool->am->Prop}(S:i9 P w s.heap a ks)(hn:ks.length<4000)(h:∀l b,jX a s.heap l->i9 P w l a (i7 ks x)->Q b {s with heap:=l}):aw (aA P w) A (setAddHashed a (.str x g) ((jh P w).hash x)) Q E s:=by
 obtain⟨m,ep,t,ss,O,T,hp,B,hsz,hf,oE,ce⟩:=S.ex;have v:∀y t',(jh P w).is x (.str y t')=decide (y=x):=λy t'=>by
  show sI x (.str y t')=_;rw[lR];simp[sI]
  try exact eq_comm
 have qz:(jh P w).is x (.str x g)=ah:=by rw[v];simp
 have hb:m.size<scanBound:=z_ hsz (by decide);unfold setAddHashed setAddHashedIn;refine lV (au (qg O rfl hf ?_));dsimp only;rw[byScan_of (knd:=jh P w) (x:=.str x g) rfl hb B];simp only[if_true];unfold setAddByScan;refine au (au (wpAny_rule (au (wpAny_setScan_of qz O rfl hf B ?_))));have p:x∈ks↔∃e∈m.toList,(jh P w).is x e.2=ah:=by
  rw[<-hp.mem_iff,Dn T x];constructor
  .rintro⟨t',q⟩;obtain⟨e,G,ee⟩:=bJ.mp q;exact⟨e,G,by rw[ee,v];simp⟩
  .rintro⟨e,G,q⟩;obtain⟨y,t',ey⟩:=T.all e.2 (bJ.mpr ⟨e,G,rfl⟩);rw[ey,v]at q;have:y=x:=of_decide_eq_true q;subst this;exact⟨t',bJ.mpr ⟨e,G,ey⟩⟩
 have klen:ks.length=m.size:=by
  have X:=hp.length_eq;have W:ss.length=m.size:=by rw[<-T.strs];simp
  lia
 cases hr:List.findIdx? (λe=>(jh P w).is x e.2) m.toList with
 |some j=>dsimp only;obtain⟨hj,hpj,_⟩:=List.findIdx?_eq_some_iff_getElem.mp hr;have N:x∈ks:=p.mpr ⟨_,wK hj,hpj⟩;refine aQ (aQ ?_);exact h s.heap _ (Heap.SameBut.refl a s.heap) (by unfold i7;rw[if_pos N];exact S)
 |none=>
  dsimp only;have N:¬x∈ks:=λhm=>by obtain⟨e,G,q⟩:=p.mp hm;have:=List.findIdx?_eq_none_iff.mp hr e G;rw[q]at this;exact Bool.noConfusion this
  have J:∀(b:Bool) {i:am}{Q':Unit->am->Prop},Q' () i->aw (aA P w) A (match b with|ah=>rule "set.scan.the-table-gave-way" |aj=>pure ()) Q' E i :=
   λb i Q' hq=>by cases b <;> first|exact aQ hq|exact wpAny_rule hq
  have D:=layNew_perm t m ((jh P w).hash x) (.str x g);have K:=layNew_fits t m ((jh P w).hash x) (.str x g);have qF:=G0 t m ((jh P w).hash x) (.str x g);generalize hL:layNew t m ((jh P w).hash x) (.str x g)=L at D K qF ⊢;obtain⟨c,t1,f,gave⟩:=L;dsimp only at D K qF ⊢;rw[Array.toList_push]at D;have u:ElemsOf (jh P w) c.toList:=(B.push qz rfl).perm D;have hsz1:c.size=m.size+1:=by have:=D.length_eq;simpa using this
  have hS1:∃F,fR (c.toList.map (·.2)) F/\F.Perm (i7 ks x):=by
   have p1:=D.map (λe:Int×ai=>e.2);rw[qd]at p1;have q1:fR (m.toList.map (·.2)++[Value.str x g]) (ss++[x]):=by
    have gen:∀{Z:List ai}{Y:List Str},fR Z Y->fR (Z++[Value.str x g]) (Y++[x]):=by
     intro Z Y hh
     induction hh with
     |nil=>exact .cons x g .nil
     |cons y t _ ih=>exact .cons y t ih
    exact gen T
   obtain⟨F,r1,M⟩:=ya p1 q1;refine⟨F,r1,M.trans ?_⟩;unfold i7;rw[if_neg N];exact hp.append_right _
  obtain⟨F,r1,M⟩:=hS1;have ca:i7 ks x≠[]:=by unfold i7;rw[if_neg N];simp
  have o:∀d:jg,d.fits c.size=ah->d.led=(!d8 w)->d.plain=aj->aw (aA P w) A (do
    storeSet a c d
    if(!f&&d.tooFull)=ah then do
      (match (qe d c (qh c.size)).2.2 with|ah=>rule "set.scan.the-table-gave-way" |aj=>pure ())
      storeSet a (qe d c (qh c.size)).1 (qe d c (qh c.size)).2.1
      pure (aa ah)
     else pure (aa ah)) (λr s'=>∃l,r=aa ah/\s'={s with heap:=l}/\jX a s.heap l/\i9 P w l a (i7 ks x)) E s:=by
   intro d qG j9 gM;refine au (wpAny_storeSet_of O rfl ?_ (fits_of_scanBound (z_ (show c.size<4090 by lia) (by decide))));have o1:=i9.put (es':=c) (t':=d) O;have iy:=ot s.heap a (Obj.putSet c d);split
   .have H:=relayAll_perm d c (qh c.size);have z:=relayAll_fits d c (qh c.size);have n:=Lb d c (qh c.size) gM;generalize hRl:qe d c (qh c.size)=Rl at H z n ⊢;obtain⟨C,t3,gave2⟩:=Rl;dsimp only at H z n ⊢;have hsz2:C.size=c.size:=by have:=H.length_eq;simpa using this
    refine au (J _ ?_);refine au (wpAny_storeSet_of o1 rfl ?_ (fits_of_scanBound (z_ (show C.size<4090 by lia) (by decide))));obtain⟨ss2,u1,u2⟩:=ya (H.map (λe:Int×ai=>e.2)) r1;refine aQ ⟨_,rfl,rfl,iy.trans (ot _ a _),⟨C,_,t3,ss2,i9.put o1,u1,u2.trans M,u.perm H,∅,z,n.1.trans j9,λ_=>n.2⟩⟩
   .exact aQ ⟨_,rfl,rfl,iy,⟨c,_,d,F,o1,r1,M,u,∅,qG,j9,λ_=>gM⟩⟩
  have Fl:t1.led=(!d8 w):=qF.1.trans oE;refine au (J _ ?_);split
  .refine au ?_;rw[hashByValue_scannable 8 (x:=.str x g) rfl];refine aQ ?_;have hk:plainKind (.str x g)=aj:=rfl;rw[hk];simp only[wL,if_false];refine aR (o {t1 with plain:=aj} (SetTable.fits_plain_off K) Fl rfl) λr s' ⟨l,X,W,e3,e4⟩=>?_;subst X W;exact aQ (h l _ e3 e4)
  .rename_i I;refine au (aQ ?_);simp only[if_true];refine aR (o t1 K Fl (by simpa using I)) λr s' ⟨l,X,W,e3,e4⟩=>?_;subst X W;exact aQ (h l _ e3 e4)
end
def met(val:Nat->Str)(i:Nat):List Str:=((bG i).map val).foldl i7 []
theorem Dm(val:Nat->Str)(i:Nat):met val (i+1)=i7 (met val i) (val i):=by unfold met;rw[sV,qd,EV];rfl
theorem Cn(val:Nat->Str){i:Nat}:∀{j:Nat},i<=j->(met val i).length<=(met val j).length
 |0,h=>by rw[show i=0 by lia];exact ba _
 |j+1,h=>by
  by_cases e:i=j+1
  .subst e;exact ba _
  .refine c4 (Cn val (j:=j) ∅) ?_;rw[Dm];unfold i7;split
   .exact ba _
   .simp
section
variable{P:a4}{w:aT}{A:aX}{R:Result->am->Prop}{I:ac}{c a:List ac}{G:Array GenState->Array GenState->Prop}{n:Nat}{d:Nat->ai->Prop}{St:Nat->am->Prop}
theorem BX(W:WalksS P w A.in1 I c a G n d St)(S:ac)(C:S∉c){J:Nat->aF->Prop}(K:∀i h j,J i h->(∀b o,b∉a->h.get? b=aa o->j.get? b=aa o)->J i j)(M:∀(i:Nat) (v:ai) (s:am) (E:ai->am->Prop) (Q:Bool->am->Prop),i<n->d i v->J i s.heap->(∀j r b,s.toks<=r->jX S s.heap j->J (i+1) j->Q b {s with heap:=j,toks:=r})->aw (aA P w) A.in1 (setAdd S v) Q E s):∀(k i:Nat) (s:am),n-i=k->i<=n->St i s->J i s.heap -> (∀f,Moved (S::a) G s f->J n f.heap->R (.ok (.ret .none)) f)->kG (aA P w) A (.builtin "set.update.loop" ⟨[.ref S,.ref I],[]⟩) R s:=by
 have X:S∉a:=λh=>C (W.sub _ h);have H:∀b∈a,b∈S::a:=λb g=>iK _ g;intro k
 induction k with
 |zero=>
  intro i s O T z x y;obtain rfl:i=n:=∅
  refine ng OS ?_;rw[ou EW _];show aw _ A.in1 (pyNext (.ref I) >>= _) _ _ s;refine au (W.done s _ _ z λf p=>?_);show aw _ A.in1 (ret Value.none) _ _ f;exact aQ (y f (p.mono H) (K _ _ _ x λb o g e=>p.heap b o g e))
 |succ k N=>
  intro i s O T z x y;have B:i<n:=∅
  refine ng OS ?_;rw[ou EW _];show aw _ A.in1 (pyNext (.ref I) >>= _) _ _ s;refine au (W.item i s _ _ B z λv f Y l p=>?_);show aw _ A.in1 (holding [v] (setAdd S v) >>= _) _ _ f;refine au (lV (M i v f _ _ B Y (K _ _ _ x λb o g e=>p.heap b o g e) λj r b D F L=>?_));refine aQ ⟨ox EW _,N (i+1) _ ∅ B (W.frame _ f _ _ l D λb g o e=>?_) L λu m q=>?_⟩
  .rw[F.2 b (λh:b=S=>C (by rw[<-h];exact g))];exact e
  .refine y u (Moved.trans W.gtrans ((p.mono H).then_heap D λb o g e=>?_) m) q;rw[F.2 b (λh:b=S=>g (by rw[h];exact lN))];exact e
end
section
variable{P:a4}{w:aT}{A:aX}{E:ai->am->Prop}{s:am}
theorem Jo(a:ai){Q:ai->am->Prop} (h:i9 P w (s.heap.push {cls:=.type "set",dict:=ae,data:=.set #[] 0 (.fresh 0 0 (!d8 w))}) s.heap.objs.size [] -> Q (.ref s.heap.objs.size) {s with heap:=s.heap.push {cls:=.type "set",dict:=ae,data:=.set #[] 0 (.fresh 0 0 (!d8 w))}}):kG (aA P w) A (.call (.builtin "set.__new__") ⟨[.type "set",a],[]⟩) (wants Q E) s:=by
 refine codeAny_of_tree ?_;show aw _ A.in1 (do checkBuiltinCall "set.__new__" ⟨[.type "set",a],[]⟩;again (.builtin "set.__new__" ⟨[.type "set",a],[]⟩)) _ _ s;refine au (wpAny_of_eq (PySem.F.newCall_set_1 a) (aQ ⟨ox F.plain_set_new _,ng F.entry_set_new ?_⟩));rw[ou F.plain_set_new _];unfold Builtin.«set.__new__» Builtin.Frozenset.newClass;have i:=sub_set_self;obtain⟨j,g,d,c,f⟩:=s;dsimp only
 wp_walk
 refine qi (aQ ?_);dsimp only;simp only[newObj];refine au (wpAny_alloc (aQ ?_));refine aQ (h ⟨#[],0,_,[],cj _ rfl,.nil,Ah _,λe b=>by simp at b,by decide,rfl,rfl,λh=>absurd rfl h⟩)
end
end L2
set_option maxHeartbeats 8000000
namespace L2
theorem FQ:entryFor table "set.__iter__"=aa Builtin.«frozenset.__iter__»:=entryFor_alias (id':="frozenset.__iter__") (by kernel_rfl) rfl (by decide +kernel) (by kernel_rfl)
theorem BK:Slot "set_iterator" "__next__" "set_iterator.__next__" :=
 .of (owner:="set_iterator") (n:="__next__") (by rw[typeLookup_type,builtinLookup_eq_fast];kernel_rfl) (by decide +kernel) (by decide +kernel) (by decide +kernel) (by first|exact .inl (by decide +kernel)|exact .inr (by decide +kernel)) (by rw[isSubtype_type];kernel_rfl)
theorem Jy:entryFor table "set_iterator.__next__"=aa Builtin.«set_iterator.__next__»:=entryFor_of_fast (by kernel_rfl)
theorem KR(a:ai):argsOk "set_iterator.__next__" ⟨[a],[]⟩:=by unfold argsOk;kernel_rfl
theorem AJ:Slot "set_iterator" "__iter__" "set_iterator.__iter__" :=
 .of (owner:="set_iterator") (n:="__iter__") (by rw[typeLookup_type,builtinLookup_eq_fast];kernel_rfl) (by decide +kernel) (by decide +kernel) (by decide +kernel) (by first|exact .inl (by decide +kernel)|exact .inr (by decide +kernel)) (by rw[isSubtype_type];kernel_rfl)
theorem KQ:entryFor table "set_iterator.__iter__"=aa Builtin.«dict_keyiterator.__iter__»:=entryFor_alias (id':="dict_keyiterator.__iter__") (by kernel_rfl) rfl (by decide +kernel) (by kernel_rfl)
theorem Fw(a:ai):argsOk "set_iterator.__iter__" ⟨[a],[]⟩:=by unfold argsOk;kernel_rfl
def ii(first:ai)(i:Nat)(a:ac)(n b:Nat):Obj:={cls:=.type "set_iterator",data:=.fields #[first,.int i 0,.ref a,.int n 0,.int b 0]}
section
variable{P:a4}{w:aT}{A:aX}{E:ai->am->Prop}{s:am}
theorem uq{I a:ac}{first:ai}{i n d:Nat}{Q:ai->am->Prop}(h:s.heap.get? I=aa (ii first i a n d))(c:Q (.ref I) s):aw (aA P w) A (mW (.ref I)) Q E s:=by
 have b:s.TypeIs (.ref I) "set_iterator":=⟨_,h,rfl⟩
 refine wpAny_pyIter_slot b AJ (wz AJ b KQ ?_ (Fw _));show aw _ _ (ret (.ref I)) _ _ s;exact aQ ⟨_,rfl,"set_iterator",_,b,BK.lookup,c⟩
theorem nO{I a:ac}{first:ai}{i:Nat}{f:Array (Int×ai)}{g:Nat}{t:jg}{Q:Option ai->am->Prop}(n:s.heap.get? a=aa {cls:=.type "set",dict:=ae,data:=.set f g t})(m:t.fits f.size=ah)(l:s.heap.get? I=aa (ii first i a f.size g))(h:aw (aA P w) A.in1 (if let .int slot _:=first then do
    match <-lZ a slot.toNat (i:Int).toNat (g:Int).toNat with
    |some (x,next)=>do
     l5 (.ref I) 0 (dR next)
     l5 (.ref I) 1 (dR ((i:Int)+1))
     ret x
    |none=>do l5 (.ref I) 2 .none;raiseNew (<-newExc (.type "StopIteration") [])
   else do
    let aa places <-seqItems? first|unsupported "internal:set_iterator"
    match places[(i:Int).toNat]? with
    |some (.int d _)=>do
     let x <-setNextDrawn a d.toNat (g:Int).toNat
     l5 (.ref I) 1 (dR ((i:Int)+1))
     ret x
    |some _=>unsupported "internal:set_iterator"
    |none=>do l5 (.ref I) 0 (dR 0);l5 (.ref I) 2 .none;raiseNew (<-newExc (.type "StopIteration") []))
   (λc b=>∃r,c=.done (.ret r)/\Q (aa r) b) (λe b=>aw (aA P w) A (do if <-isInstance e (.type "StopIteration")then pure ae else throw e) Q E b) s) :
  aw (aA P w) A (pyNext (.ref I)) Q E s:=by
 have j:s.TypeIs (.ref I) "set_iterator":=⟨_,l,rfl⟩
 unfold pyNext;refine au (wpAny_attempt (wpAny_callSpecial?_slot (name:=cn "__next__") j BK (wz BK j Jy ?_ (KR _))));unfold Builtin.«set_iterator.__next__» slotArgs;refine au (aQ ?_);refine au (wpAny_fieldsOf l rfl ?_);show aw _ _ (setEntries a >>= _) _ _ s;refine au (wpAny_setEntries_of n rfl m ?_);have u:(((f.size:Nat):Int) != ((f.size:Nat):Int))=aj:=by simp
 rw[u];simp only[wL,if_false];refine eW ?_ (λc b q=>?_) (λe b q=>q) (Q:=λc b=>∃r,c=.done (.ret r)/\Q (aa r) b) (E:=λe b=>aw (aA P w) A (do if <-isInstance e (.type "StopIteration")then pure ae else throw e) Q E b)
 .exact h
 .obtain⟨r,p,o⟩:=q;exact⟨r,p,aQ o⟩
end
theorem zx{a:Type}:∀{l:List a}{i:Nat} (h:i<l.length),(l[i]::l.eraseIdx i).Perm l
 |[],i,h=>by simp at h
 |x::r,0,h=>by simp
 |x::r,i+1,h=>by have q:=zx (l:=r) (i:=i) (by simpa using h);simp only[List.getElem_cons_succ,List.eraseIdx_cons_succ];exact(List.Perm.swap x _ _).trans (List.Perm.cons x q)
theorem B_{f:Type}(next:Nat->Nat):∀(c k:Nat) (a:List f) (b:Array f),c=a.length->(pickOrder.go next c k a b).toList.Perm (b.toList++a)
 |0,k,a,b,h=>by have:a=[]:=sW h.symm;subst this;simp[pickOrder.go]
 |c+1,k,a,b,h=>by
  have d:next k % a.length<a.length:=Nat.mod_lt _ ∅
  unfold pickOrder.go;rw[eO d];dsimp only;have g:=B_ next c (k+1) (a.eraseIdx (next k % a.length)) (b.push a[next k % a.length]) (by rw[List.length_eraseIdx,if_pos d];lia)
  refine g.trans ?_;rw[Array.toList_push,qj];exact List.Perm.append_left _ (zx d)
theorem BW{b:Type}(next:Nat->Nat)(a:Array b):(sX next a).toList.Perm a.toList:=by
 have:=B_ next a.size 0 a.toList #[] (by simp)
 simpa[sX]using this
section
variable{P:a4}{w:aT}{A:aX}{E:ai->am->Prop}{s:am}
theorem LW{a:Source}{n:Nat}{Q:Nat->am->Prop}(b:n≠0)(h:∀k d,k<n->Q k {s with drawn:=d}):aw (aA P w) A (choose a n) Q E s:=λc p hΓ=>by unfold choose;rw[Sem.wp_choose];refine⟨b,?_⟩;exact h _ _ (Nat.mod_lt _ (Nat.pos_of_ne_zero b))
theorem B1{f:Type}:∀(n:Nat) (a:List f) (s:am) (Q:List f->am->Prop),n=a.length->(∀b d,b.Perm a->Q b {s with drawn:=d})->aw (aA P w) A (drawOrder n a) Q E s
 |0,[],s,Q,_,h=>by unfold drawOrder;exact aQ (h [] s.drawn (Ah _))
 |0,x::a,s,Q,hn,h=>by simp at hn
 |n+1,[],s,Q,hn,h=>by simp at hn
 |n+1,x::a,s,Q,hn,h=>by unfold drawOrder;refine au (LW (by simp) λk d c=>?_);rw[eO c];dsimp only;refine au (B1 n ((x::a).eraseIdx k) _ _ (by rw[List.length_eraseIdx,if_pos c];lia) λb i g=>?_);refine aQ (h _ i ?_);exact(List.Perm.cons _ g).trans (zx c)
theorem uE{Q:Option ai->am->Prop}{R:Fin->am->Prop}(f:A.handled=ae)(g:∀c,(∀b o,s.heap.get? b=aa o->c.get? b=aa o)->Q ae {s with heap:=c}):aw (aA P w) A.in1 (do raiseNew (<-newExc (.type "StopIteration") [])) R (λe d=>aw (aA P w) A (do if <-isInstance e (.type "StopIteration")then pure ae else throw e) Q E d) s:=by
 refine au ?_;simp only[newExc,newTuple];refine au (lW ?_ (by size_fits));refine au (m:=firstArgMember _ _) (wpAny_of_eq (a:=Value.none) (by first|rfl | (simp only[firstArgMember];rfl)) ?_);refine lW ?_ (by size_fits);simp only[raiseNew];refine au (wpAny_handled ?_);rw[show A.in1.handled=ae from f];refine au (aQ (wpAny_throw ?_));refine au (wpAny_isInstance (T:="StopIteration") (b:=ah) ⟨_,cj _ rfl,rfl⟩ isSubtype_stop ?_);exact aQ (g _ λb o e=>bf _ (bf _ e))
theorem y0{I a:ac}{first d:ai}{i n f:Nat}{Q:Unit->am->Prop}(c:s.heap.get? I=aa (ii first i a n f))(h:∀b,jX I s.heap b->b.get? I=aa (ii d i a n f)->Q () {s with heap:=b}):aw (aA P w) A (l5 (.ref I) 0 d) Q E s:=by refine sY c rfl (by simp[ii]) (h _ (ot ..) ?_);rw[qf _ c (by rfl)];rfl
theorem yb{I a:ac}{first:ai}{i n d:Nat}{Q:Unit->am->Prop}(c:s.heap.get? I=aa (ii first i a n d))(h:∀b,jX I s.heap b->b.get? I=aa (ii first (i+1) a n d)->Q () {s with heap:=b}):aw (aA P w) A (l5 (.ref I) 1 (dR ((i:Int)+1))) Q E s:=by refine sY c rfl (by simp[ii]) (h _ (ot ..) ?_);rw[qf _ c (by rfl)];rfl
theorem vd{I a:ac}{first:ai}{i n d:Nat}{Q:Unit->am->Prop}(c:s.heap.get? I=aa (ii first i a n d))(h:∀b,jX I s.heap b->(∃o,b.get? I=aa o)->Q () {s with heap:=b}):aw (aA P w) A (l5 (.ref I) 2 .none) Q E s:=by refine sY c rfl (by simp[ii]) (h _ (ot ..) ⟨_,qf _ c (by rfl)⟩)
abbrev n6(a:Array (Int×ai))(b:Nat)(t:jg):Obj:={cls:=.type "set",dict:=ae,data:=.set a b t}
theorem LC{I a:ac}{d:Array (Int×ai)}{g:Nat}{t:jg}(x:a≠I)(n:t.fits d.size=ah)(f:d8 w=ah)(C:A.handled=ae):Walks P w A I [I,a] [I] d.size (λi v=>((sX (w.params.setOrder a g) d).toList.map (·.2))[i]?=aa v) (λi h=>h.get? I=aa (ii (dR 0) i a d.size g)/\h.get? a=aa (n6 d g t)):=by
 have hsz:(sX (w.params.setOrder a g) d).size=d.size:=by have:=(BW (w.params.setOrder a g) d).length_eq;simpa using this
 have j:∀(s:am) (i:Nat) (Q:Option (ai×Nat)->am->Prop) (E:ai->am->Prop),s.heap.get? a=aa (n6 d g t) ->
   Q (((sX (w.params.setOrder a g) d)[i]?).map λe=>(e.2,0)) s->aw (aA P w) A.in1 (lZ a (0:Int).toNat (i:Int).toNat (g:Int).toNat) Q E s:=λs i Q E u B=>by
  unfold lZ;refine au (qg u rfl n ?_);unfold wM;refine au (au (qi (aQ ?_)));show aw _ _ (if d8 w=ah then _ else _) _ _ s;rw[if_pos f];simp only[m9,bne_self_eq_false,wL,if_false];unfold setWalk;refine au (au (qg u rfl n ?_));unfold wM;refine au (au (qi (aQ ?_)));show aw _ _ (if d8 w=ah then _ else _) _ _ s;rw[if_pos f];refine au (qi (aQ (aQ ?_)));exact B
 refine⟨λb f=>by simp at f;simp[f],λi h H c k=>⟨k I (by simp) _ c.1,k a (by simp) _ c.2⟩,λi s Q E G c l=>?_,λs Q E c l=>?_,λi s Q E c l=>uq c.1 l⟩
 .refine nO c.2 n c.1 ?_;refine au (j s i _ _ c.2 ?_);have y:i<(sX (w.params.setOrder a g) d).size:=∅
  rw[Ai y];dsimp only[oy];refine au (y0 c.1 λq m F=>?_);refine au (yb (s:={s with heap:=q}) F λp r D=>?_);refine aQ ⟨_,rfl,l _ p s.toks ?_ ⟨D,?_⟩ λb o f e=>?_⟩
  .rw[iP];simp[Ai y]
  .exact(r.2 a x).trans ((m.2 a x).trans c.2)
  .exact(r.2 b (by simpa using f)).trans ((m.2 b (by simpa using f)).trans e)
 .refine nO c.2 n c.1 ?_;refine au (j s d.size _ _ c.2 ?_);rw[Array.getElem?_eq_none ∅];dsimp only[Option.map_none];refine au (vd c.1 λq m _=>?_);exact uE (s:={s with heap:=q}) C λp z=>l p s.toks λb o f e=>z b o ((m.2 b (by simpa using f)).trans e)
theorem OK{I a T:ac}{f:Array (Int×ai)}{J:Nat}{t:jg}{c:List Nat}(ca:a≠I)(Z:T≠I)(C:t.fits f.size=ah)(G:c.Perm (bG f.size))(Y:A.handled=ae):Walks P w A I [I,a,T] [I] f.size (λi v=>(c.filterMap λj=>(f[j]?).map (·.2))[i]?=aa v) (λi h=>h.get? I=aa (ii (.ref T) i a f.size J)/\h.get? a=aa (n6 f J t)/\h.get? T=aa {cls:=.type "tuple",data:=.seq (c.map λ(k:Nat)=>dR k).toArray}):=by
 have z:c.length=f.size:=by simpa using G.length_eq
 have L:∀j∈c,j<f.size:=λj B=>by simpa using G.mem_iff.mp B
 have fm:∀(l:List Nat),(∀j∈l,j<f.size)->∀(i j:Nat),l[i]?=aa j->∃e:Int×ai,f[j]?=aa e/\(l.filterMap λj=>(f[j]?).map (·.2))[i]?=aa e.2:=by
  intro l
  induction l with
  |nil=>intro _ i j h;simp at h
  |cons x r O=>
   intro H i j h;have S:x<f.size:=H x (lN ..);have F:f[x]?=aa f[x]:=Ai S;cases i with
   |zero=>simp at h;subst h;exact⟨_,F,by rw[sL,F];rfl⟩
   |succ i=>obtain⟨e,y,u⟩:=O (λj B=>H j (iK _ B)) i j (by simpa using h);exact⟨e,y,by rw[sL,F];simpa using u⟩
 have g:∀(s:am) (Q:Option (Array ai)->am->Prop) (E:ai->am->Prop),s.heap.get? T=aa {cls:=.type "tuple",data:=.seq (c.map λ(k:Nat)=>dR k).toArray}->Q (aa (c.map λ(k:Nat)=>dR k).toArray) s->aw (aA P w) A.in1 (seqItems? (.ref T)) Q E s:=λs Q E W X=>by exact Aj W rfl X
 refine⟨λb m=>by simp at m;simp[m],λi h h' d k=>⟨k I (by simp) _ d.1,k a (by simp) _ d.2.1,k T (by simp) _ d.2.2⟩,λi s Q E hi d p=>?_,λs Q E d p=>?_,λi s Q E d p=>uq d.1 p⟩
 .refine nO d.2.1 C d.1 ?_;refine au (g s _ _ d.2.2 ?_);have K:i<c.length:=∅
  have q:((c.map λ(k:Nat)=>dR k).toArray)[(i:Int).toNat]?=aa (dR (c[i]:Nat)):=by simp[K]
  dsimp only;rw[q];obtain⟨e,y,u⟩:=fm c L i c[i] (eO K);show aw _ _ (setNextDrawn a _ _ >>= _) _ _ s;refine au ?_;unfold setNextDrawn;refine au (qg d.2.1 rfl C ?_);simp only[m9,bne_self_eq_false,wL,if_false];rw[y];refine aQ ?_;refine au (yb d.1 λD n e2=>?_);refine aQ ⟨_,rfl,p _ D s.toks u ⟨e2,(n.2 a ca).trans d.2.1,(n.2 T Z).trans d.2.2⟩ λb o m e=>(n.2 b (by simpa using m)).trans e⟩
 .refine nO d.2.1 C d.1 ?_;refine au (g s _ _ d.2.2 ?_);have q:((c.map λ(k:Nat)=>dR k).toArray)[(f.size:Int).toNat]?=ae:=by simp[z]
  dsimp only;rw[q];refine au (y0 d.1 λh1 N q=>?_);refine au (vd (s:={s with heap:=h1}) q λD n _=>?_);exact uE (s:={s with heap:=D}) Y λh3 M=>p h3 s.toks λb o m e=>M b o ((n.2 b (by simpa using m)).trans ((N.2 b (by simpa using m)).trans e))
theorem GM(j k:Nat):OT #[j] k=if j<k then 1 else 0:=by
 unfold OT;simp only[cD,eX,lX];unfold EX;simp;split
 .rename_i h;unfold EX;simp
 .unfold EX;simp
theorem G4{I a:ac}{g:Array (Int×ai)}{n:Nat}{t:jg}(J:a≠I)(u:t.fits g.size=ah)(f:d8 w=aj)(N:t.led=ah)(m:g.size=1)(S:A.handled=ae):Walks P w A I [I,a] [I] 1 (λi v=>(g.toList.map (·.2))[i]?=aa v) (λi h=>h.get? I=aa (ii (dR (if i=0 then 0 else((t.place.getD 0 0:Nat):Int)+1)) i a g.size n)/\h.get? a=aa (n6 g n t)):=by
 have M:t.place.size=1:=by simp only[SetTable.fits,dW,beq_iff_eq]at u;lia
 obtain⟨j,F⟩:=Array.size_eq_one_iff.mp M;have H:((t.place.getD 0 0:Nat):Int)=(j:Int):=by rw[F];rfl
 obtain⟨e,G⟩:=Array.size_eq_one_iff.mp m;have l:∀(s:am) (d:Nat) (i:Nat) (Q:Option (ai×Nat)->am->Prop) (E:ai->am->Prop),s.heap.get? a=aa (n6 g n t) ->
   Q (if j<d then ae else aa (e.2,j+1)) s->aw (aA P w) A.in1 (lZ a d i n) Q E s:=λs d i Q E T r=>by
  unfold lZ;refine au (qg T rfl u ?_);unfold wM;refine au (au (qi (aQ ?_)));show aw _ _ (if d8 w=ah then _ else _) _ _ s;rw[if_neg (by rw[f];decide)];refine wN (λy=>absurd (show(!t.plain&&decide (g.size > 1))=ah from y) (by rw[m];simp)) (λ_=>?_);refine au ?_;refine eW (Q:=λ_ C=>C=s) (E:=E) ?_ (λ_ C L=>?_) (λ_ _ x=>x)
  .refine wN (λy=>absurd (show(!t.led&&!g.isEmpty)=ah from y) (by rw[N];simp)) (λ_=>aQ rfl)
  .subst L;rw[F,GM,G];by_cases K:j<d
   .rw[if_pos K]at r ⊢;exact aQ r
   .rw[if_neg K]at r ⊢;exact aQ r
 refine⟨λb f=>by simp at f;simp[f],λi h Y c k=>⟨k I (by simp) _ c.1,k a (by simp) _ c.2⟩,λi s Q E X c p=>?_,λs Q E c p=>?_,λi s Q E c p=>uq c.1 p⟩
 .obtain rfl:i=0:=∅
  refine nO c.2 u c.1 ?_;show aw _ _ (lZ a (0:Int).toNat ((0:Nat):Int).toNat (n:Int).toNat >>= _) _ _ s;simp only[m9,Int.toNat_zero];refine au (l s 0 0 _ _ c.2 ?_);rw[if_neg (Nat.not_lt_zero j)];dsimp only;refine au (y0 c.1 λm q B=>?_);refine au (yb (s:={s with heap:=m}) B λz D W=>?_);refine aQ ⟨_,rfl,p _ z s.toks ?_ ⟨?_,?_⟩ λb o f e=>?_⟩
  .rw[G];rfl
  .rw[W,if_neg (by decide),H];rfl
  .exact(D.2 a J).trans ((q.2 a J).trans c.2)
  .exact(D.2 b (by simpa using f)).trans ((q.2 b (by simpa using f)).trans e)
 .refine nO c.2 u c.1 ?_;rw[if_neg (by decide),H];show aw _ _ (lZ a ((j:Int)+1).toNat ((1:Nat):Int).toNat (n:Int).toNat >>= _) _ _ s;have B:((j:Int)+1).toNat=j+1:=∅
  rw[B,m9,m9];refine au (l s (j+1) 1 _ _ c.2 ?_);rw[if_pos (ja j)];dsimp only;refine au (vd c.1 λm q _=>?_);exact uE (s:={s with heap:=m}) S λz O=>p z s.toks λb o f e=>O b o ((q.2 b (by simpa using f)).trans e)
theorem Db:∀{a:List ai}{b:List Str} (i:Nat) (v:ai),fR a b->a[i]?=aa v->∃t,v=.str (b.getD i jZ) t
 |_,_,i,v,.nil,h=>by simp at h
 |_,_,0,v,.cons y t _,h=>by simp at h;exact⟨t,by rw[<-h];rfl⟩
 |_,_,i+1,v,.cons y t hr,h=>by simp only[List.getElem?_cons_succ]at h;obtain⟨c,e⟩:=Db i v hr h;exact⟨c,by rw[e];rfl⟩
theorem Me{h:aF}{o:Obj}{l:ac}{a:Array ai}(x:h.IsTuple l a):(h.push o).IsTuple l a:=let ⟨ob,e,r⟩:=x;⟨ob,bf _ e,r⟩
set_option maxRecDepth 100000 in
theorem OG{l:ac}{a:Array ai}{Q:ai->am->Prop}(hh:A.handled=ae)(D:s.heap.IsList l a\/s.heap.IsTuple l a){J:Nat->aF->Prop}(hJ:∀i h d,J i h->(∀b o,b<=s.heap.objs.size->h.get? b=aa o->d.get? b=aa o)->J i d) (X:J 0 (s.heap.push {cls:=.type "set",dict:=ae,data:=.set #[] 0 (.fresh 0 0 (!d8 w))}))(kM:∀(i:Nat) (v:ai) (f:am) (E:ai->am->Prop) (Q:Bool->am->Prop),i<a.size->a[i]?=aa v->J i f.heap->(∀d j b,f.toks<=j->jX s.heap.objs.size f.heap d->J (i+1) d->Q b {f with heap:=d,toks:=j})->aw (aA P w) A.in1.in1.in1 (setAdd s.heap.objs.size v) Q E f)(h:∀(d:aF) (j:Nat),J a.size d->(∀b o,b<s.heap.objs.size->s.heap.get? b=aa o->d.get? b=aa o)->Q (.ref s.heap.objs.size) {s with heap:=d,toks:=j}):aw (aA P w) A (call (.type "set") [.ref l]) Q E s:=by
 obtain⟨c,tl,hmro⟩:=F.called_set.mro;have O:=F.called_set.made;have jE:=F.called_set.sub;refine wpAny_call (codeAny_of_tree ?_);show aw _ _ (callAny (.type "set") _) _ _ _;refine aQ ⟨Code.quiet_builtin _ (by decide +kernel),ng F.entry_type_call ?_⟩;rw[Around.under_plain (weight_type_call_type "set" [.ref l] []) rfl];have h1:=F.called_set.notType;have h2:=F.called_set.canCreate;have hct:=PySem.F.typeCall_set_1 (.ref l)
 repeat any_goals (first|assumption|wp_step)
 refine sP (Jo (P:=P) (w:=w) (.ref l) (E:=E) (Q:=λn f=>n=.ref s.heap.objs.size/\f={s with heap:=s.heap.push {cls:=.type "set",dict:=ae,data:=.set #[] 0 (.fresh 0 0 (!d8 w))}}/\True) λS0=>⟨rfl,rfl,trivial⟩) λr f N=>?_;cases r with
 |error e=>exact N
 |ok fl=>
  cases fl with
  |ret n=>
   obtain⟨rfl,rfl,S0⟩:=N;have hS:=cj (h:=s.heap) (o:=({cls:=.type "set",dict:=ae,data:=.set #[] 0 (.fresh 0 0 (!d8 w))}:Obj));have T:(s.heap.push {cls:=.type "set",dict:=ae,data:=.set #[] 0 (.fresh 0 0 (!d8 w))}).get? s.heap.objs.size=aa {cls:=.type "set",dict:=ae,data:=.set #[] 0 (.fresh 0 0 (!d8 w))}:=cj _ rfl;have hT:Shared.TypeIs {s with heap:=s.heap.push {cls:=.type "set",dict:=ae,data:=.set #[] 0 (.fresh 0 0 (!d8 w))}} (.ref s.heap.objs.size) "set":=⟨_,T,rfl⟩
   have hli:=F.called_set.init.lookup;have hbi:=F.called_set.init.bind (.ref s.heap.objs.size)
   repeat any_goals (first|assumption|wp_step)
   refine sP (codeAny_call_builtin (R:=wants (λr s2=>r=.none/\∃d j,s2={s with heap:=d,toks:=j}/\J a.size d /\ (∀b o,b<s.heap.objs.size->s.heap.get? b=aa o->d.get? b=aa o)) E) F.called_set.init.plain F.entry_set_init (check_set_init_1 hT ?_)) λr2 s2 m=>?_
   .rcases D with D|D
    all_goals
     obtain⟨⟨ocls,K,L,z⟩,p,l_,B,x⟩:=D;simp only at l_ x;subst l_;subst x;have y:=bf ({cls:=.type "set",dict:=ae,data:=.set #[] 0 (.fresh 0 0 (!d8 w))}:Obj) p;have hsls:=PySem.F.sub_list_set;have hslf:=PySem.F.sub_list_frozenset;have ca:(Value.type "list" == Value.type "dict")=aj:=by decide
     have hsl2:=PySem.F.sub_tuple_set;have hsl3:=PySem.F.sub_tuple_frozenset;have hn2:(Value.type "tuple" == Value.type "dict")=aj:=by decide
     unfold Builtin.«set.__init__» noKeywords Builtin.Frozenset.updateFrom;generalize W:mW=PI
     wp_walk
     subst W
     first|refine qb ⟨_,y,rfl,B,rfl⟩ (au (wpAny_runValue ?_))|refine wpAny_pyIter_tuple ⟨_,y,rfl,B,rfl⟩ (au (wpAny_runValue ?_))
     have q:l<s.heap.objs.size:=br p;have u:A.in1.in1.in1.handled=ae:=by simp[hh]
     have g:(s.heap.push {cls:=.type "set",dict:=ae,data:=.set #[] 0 (.fresh 0 0 (!d8 w))}).objs.size=s.heap.objs.size+1:=sN ..;have Fq:l≠(s.heap.push {cls:=.type "set",dict:=ae,data:=.set #[] 0 (.fresh 0 0 (!d8 w))}).objs.size:=by rw[g];exact cT (jD q)
     have Z:s.heap.objs.size∉[(s.heap.push {cls:=.type "set",dict:=ae,data:=.set #[] 0 (.fresh 0 0 (!d8 w))}).objs.size,l]:=by rw[g];simp only[bW,gs,iR,or_false,not_or];exact⟨cT (ja _),iL q⟩
     first|refine BX (J:=J) (qc u _ l Fq a).toS s.heap.objs.size Z ?_ ?_ (a.size-0) 0 _ ∅ (iN _) ⟨⟨_,cj _ rfl,rfl,rfl⟩,Heap.IsList.push ⟨_,y,rfl,B,rfl⟩ _⟩ ?_ ?_|refine BX (J:=J) (Walks.tuple u _ l Fq a).toS s.heap.objs.size Z ?_ ?_ (a.size-0) 0 _ ∅ (iN _) ⟨⟨_,cj _ rfl,rfl,rfl⟩,Me ⟨_,y,rfl,B,rfl⟩⟩ ?_ ?_
     .exact λi h d S k=>hJ i h d S λb o G e=>k b o (by rw[g];simp only[gs];exact cT (Nat.lt_succ_of_le G)) e
     .exact λi v f E Q hi hv S hq=>kM i v f E Q hi hv S hq
     .exact hJ 0 _ _ X λb o _ e=>bf _ e
     intro s' C M;obtain⟨d,g',d',H,I⟩:=s';obtain rfl:g'=s.gens:=C.gens;obtain rfl:d'=s.drawn:=C.drawn;obtain rfl:I=s.os:=C.os;show aw _ _ _ _ _ _;refine aQ ?_;show aw _ _ (ret Value.none) _ _ _;refine aQ ⟨rfl,d,H,rfl,M,λb o G e=>C.heap b o ?_ (bf _ (bf _ e))⟩;rw[g];simp only[bW,gs,iR,or_false,not_or];exact⟨cT G,cT (jD G)⟩
   .cases r2 with
    |error e=>exact m
    |ok Y=>
     cases Y with
     |ret r=>
      obtain⟨rfl,d,j,rfl,M,qI⟩:=m
      repeat any_goals (first|assumption|wp_step)
      exact h _ _ M qI
     |_=>exact m.elim
  |_=>exact N.elim
theorem Km{l:ac}{a:Array ai}{c:List Str}{Q:ai->am->Prop}(y:A.handled=ae)(u:s.heap.IsList l a\/s.heap.IsTuple l a)(x:fR a.toList c)(B:(met (λi=>c.getD i jZ) a.size).length<4000)(h:∀(d:aF) (m:Nat),i9 P w d s.heap.objs.size (met (λi=>c.getD i jZ) a.size)->(∀b o,b<s.heap.objs.size->s.heap.get? b=aa o->d.get? b=aa o)->Q (.ref s.heap.objs.size) {s with heap:=d,toks:=m}):aw (aA P w) A (call (.type "set") [.ref l]) Q E s:=by
 refine OG y u (J:=λi h=>i9 P w h s.heap.objs.size (met (λi=>c.getD i jZ) i)) (λi h d S k=>S.at λo e=>k _ o (ba _) e)
  ⟨#[],0,_,[],cj _ rfl,.nil,Ah _,λe z=>by simp at z,by decide,rfl,rfl,λh=>absurd rfl h⟩ (λi v g E Q f r S q=>?_) h
 obtain⟨t,rfl⟩:=Db i v x (by rw[Array.getElem?_toList];exact r);unfold setAdd;refine lV ?_;have n:(jh P w).is (c.getD i jZ) (.str (c.getD i jZ) t)=ah:=by show sI _ (.str _ t)=ah;simp[sI]
 refine au ((jh P w).pyHash (k:=c.getD i jZ) n ?_);refine Ha (s:={g with toks:=g.toks+1}) S (wF (Cn _ (kF f)) B) λd b p j=>?_;rw[<-Dm (λi=>c.getD i jZ)]at j;exact q d _ b (sQ _) p j
end
theorem Ea{n:Nat}(h:n<=4096):n<a6:=wF h (by decide)
theorem Ml:typeLookup (.type "set") "__len__"=pure (aa (.builtin "set.__len__")):=F.slot_set_len.lookup
section
variable{P:a4}{w:aT}{A:aX}{E:ai->am->Prop}{s:am}
def rD(w:aT)(h:aF)(a:ac)(b:Array (Int×ai)):Prop:=∃(c:Nat) (t:jg),h.get? a=aa {cls:=.type "set",dict:=ae,data:=.set b c t}/\b.size<4090/\t.fits b.size=ah/\t.led=(!d8 w)/\(b.size≠0->t.plain=aj)
theorem rD.at{w:aT}{h h':aF}{a:ac}{es:Array (Int×ai)}(S:rD w h a es)(k:∀o,h.get? a=aa o->h'.get? a=aa o):rD w h' a es:=by obtain⟨ep,t,e,r⟩:=S;exact⟨ep,t,k _ e,r⟩
theorem i9.e{h:aF}{a:ac}{ks:List Str}(S:i9 P w h a ks):∃es ss,rD w h a es/\fR (es.toList.map (·.2)) ss/\ss.Perm ks:=by
 obtain⟨es,ep,t,ss,f,c,b,i,hsz,g,d,m⟩:=S.ex;refine⟨es,ss,⟨ep,t,f,hsz,g,d,λj=>m λz=>j ?_⟩,c,b⟩;have l:=b.length_eq;have n:ss.length=es.size:=by rw[<-c.strs];simp
 rw[z,lX]at l;lia
structure C9(P:a4)(w:aT)(s s':am)(a I:ac)(es:Array (Int×ai))(fp:List ac)(n:Nat)(Pv:Nat->ai->Prop)(St:Nat->aF->Prop):Prop where
 wk:∀A:aX,A.handled=ae->Walks P w A I fp [I] n Pv St
 st:St 0 s'.heap
 old:∀b o,s.heap.get? b=aa o->s'.heap.get? b=aa o
 new:s.heap.objs.size<=I
 lt:∀b∈fp,b<s'.heap.objs.size
 rest:s'={s with heap:=s'.heap,drawn:=s'.drawn}
 ord:∀aM:Array ai,ItemsOf Pv aM n->aM.toList.Perm (es.toList.map (·.2))
 len:n<4090
 fps:∀b∈fp,b=a\/s.heap.objs.size<=b
theorem vD{l:List ai}{a:Array ai}{n:Nat}(c:l.length=n)(h:ItemsOf (λi v=>l[i]?=aa v) a n):a.toList=l:=by
 refine wO λi=>?_;by_cases b:i<n
 .have:i<a.size:=by rw[h.1];exact b
  have q:=h.2 i a[i] (Ai this);rw[q];simp[this]
 .rw[qm (by rw[wu,h.1];lia),qm ∅]
theorem Hu{I a:ac}{d:Array (Int×ai)}{j:Nat}{t:jg}(L:a≠I)(r:t.fits d.size=ah)(g:d8 w=aj)(n:d.size=0)(F:A.handled=ae):Walks P w A I [I,a] [I] 0 (λi v=>(d.toList.map (·.2))[i]?=aa v) (λi h=>h.get? I=aa (ii (dR 0) 0 a d.size j)/\h.get? a=aa (n6 d j t)):=by
 have u:d=#[]:=Array.eq_empty_of_size_eq_zero n;have l:∀(s:am) (f:Nat) (i:Nat) (Q:Option (ai×Nat)->am->Prop) (E:ai->am->Prop),s.heap.get? a=aa (n6 d j t) ->
   Q ae s->aw (aA P w) A.in1 (lZ a f i j) Q E s:=λs f i Q E G C=>by
  unfold lZ;refine au (qg G rfl r ?_);unfold wM;refine au (au (qi (aQ ?_)));show aw _ _ (if d8 w=ah then _ else _) _ _ s;rw[if_neg (by rw[g];decide)];refine wN (λp=>absurd (show(!t.plain&&decide (d.size > 1))=ah from p) (by rw[n];simp)) (λ_=>?_);refine au ?_;refine eW (Q:=λ_ q=>q=s) (E:=E) ?_ (λ_ q y=>?_) (λ_ _ x=>x)
  .refine wN (λp=>absurd (show(!t.led&&!d.isEmpty)=ah from p) (by rw[u];simp)) (λ_=>aQ rfl)
  .subst y;rw[u];have J:∀k:Nat,(#[]:Array (Int×ai))[k]?=ae:=λk=>by simp
   dsimp only;rw[J];exact aQ C
 refine⟨λb g=>by simp at g;simp[g],λi h K c k=>⟨k I (by simp) _ c.1,k a (by simp) _ c.2⟩,λi s Q E D c m=>absurd D (Nat.not_lt_zero i),λs Q E c m=>?_,λi s Q E c m=>uq c.1 m⟩;refine nO c.2 r c.1 ?_;show aw _ _ (lZ a (0:Int).toNat ((0:Nat):Int).toNat (j:Int).toNat >>= _) _ _ s;simp only[m9,Int.toNat_zero];refine au (l s 0 0 _ _ c.2 ?_);dsimp only;refine au (vd c.1 λn B _=>?_);exact uE (s:={s with heap:=n}) F λH z=>m H s.toks λb o g e=>z b o ((B.2 b (by simpa using g)).trans e)
theorem JR{a:ac}{g:Array (Int×ai)}{Q:ai->am->Prop}(S:rD w s.heap a g)(h:∀x I C n D St,C9 P w s x a I g C n D St->Q (.ref I) x):aw (aA P w) A (mW (.ref a)) Q E s:=by
 obtain⟨M,t,l,hsz,p,oE,ce⟩:=S;have Y:s.TypeIs (.ref a) "set":=⟨_,l,rfl⟩
 have jx:=br l;refine wpAny_pyIter_slot Y F.slot_set_iter (wz F.slot_set_iter Y FQ ?_ (F.args_set_iter_1 _));unfold Builtin.«frozenset.__iter__» Builtin.Frozenset.slot0 slotArgs Builtin.Frozenset.addrOf Builtin.Frozenset.sizeOf;refine au (aQ ?_);refine au (au (wpAny_setEntries_of l rfl p (aQ ?_)));unfold setDrawn;refine au (au (qg l rfl p ?_));unfold wM;refine au (au (qi (aQ ?_)));refine aQ ?_;have i:∀(first:ai) (u:am) (C:List ac) (n:Nat) (D:Nat->ai->Prop) (St:Nat->aF->Prop),u.heap.get? a=aa {cls:=.type "set",dict:=ae,data:=.set g M t} ->
   C9 P w s {u with heap:=u.heap.push (ii first 0 a g.size M)} a u.heap.objs.size g C n D St ->
   aw (aA P w) A.in1 (do
    let e <-setEpoch a
    let f <-newFields "set_iterator" [first,dR 0,Value.ref a,dR (g.size:Nat),dR (e:Nat)]
    ret f) (λi x=>∃v,i=Fin.done (Flow.ret v)/\∃Z r,x.TypeIs v Z/\typeLookup (Value.type Z) (cn "__next__")=pure (aa r)/\Q v x) E u:=λfirst u C n D St ha W=>by
  refine au (wpAny_setEpoch_of ha rfl p ?_);refine au (lW ?_);exact aQ ⟨_,rfl,"set_iterator",_,⟨_,cj _ rfl,rfl⟩,BK.lookup,h _ _ C n D St W⟩
 refine wN (λJ=>?_) (λJ=>?_)
 .have L:(!d8 w&&(!t.plain&&decide (g.size > 1)))=ah:=J;refine au (B1 g.size (bG g.size) s _ (by simp) λG d H=>?_);refine au (wpAny_newTuple ?_ (hsz:=by rw[bO,H.length_eq,ET];exact kF (Ea ∅)));refine i _ _ _ _ _ _ (bf _ l) ⟨λO q=>OK (T:=s.heap.objs.size) (cT (by rw[jf];exact jD jx)) (cT (by rw[jf];exact ja _)) p H q,⟨cj _ rfl,?_,?_⟩,?_,?_,?_,rfl,?_,hsz,?_⟩
  .exact bf _ (bf _ l)
  .exact bf _ (cj _ rfl)
  .exact λb o e=>bf _ (bf _ e)
  .rw[jf];exact sQ _
  .intro b c;simp only[bW,iR,or_false]at c;rw[jf,jf];rcases c with rfl|rfl|rfl
   .rw[jf];exact ja _
   .exact jD (jD jx)
   .exact jD (ja _)
  .intro N m;have e0:(G.filterMap λj=>(g[j]?).map (·.2))=(G.filterMap λj=>g[j]?).map (·.2):=by rw[List.map_filterMap]
   have y:(G.filterMap λj=>g[j]?).Perm g.toList:=by have:=H.filterMap λj=>g[j]?;rwa[filterMap_getElem?_range]at this
   rw[e0]at m;rw[vD (by rw[bO,y.length_eq];simp) m];exact y.map _
  .intro b c;simp only[bW,iR,or_false]at c;rcases c with rfl|rfl|rfl
   .rw[jf];exact .inr (sQ _)
   .exact .inl rfl
   .exact .inr (ba _)
 .have L:¬(!d8 w&&(!t.plain&&decide (g.size > 1)))=ah:=J;refine au (aQ ?_);cases c:d8 w with
  |true=>
   refine i _ _ _ _ _ _ l ⟨λO q=>LC (cT jx) p c q,⟨cj _ rfl,bf _ l⟩,λb o e=>bf _ e,ba _,?_,rfl,?_,hsz,λb c=>?_⟩
   .intro b c;simp only[bW,iR,or_false]at c;rw[jf];rcases c with rfl|rfl
    .exact ja _
    .exact jD jx
   .intro N m;have y:=BW (w.params.setOrder a M) g;rw[vD (by rw[bO,y.length_eq];simp) m];exact y.map _
   .simp only[bW,iR,or_false]at c;exact c.elim (λz=>.inr (lS z.symm)) .inl
  |false=>
   have K:g.size=1\/g.size=0:=by
    by_cases X:g.size=0
    .exact .inr X
    .rw[c,ce X]at L;simp at L;lia
   rcases K with B|B
   .refine i _ _ _ _ _ _ l ⟨λO q=>G4 (cT jx) p c (by rw[oE,c];rfl) B q,⟨cj _ rfl,bf _ l⟩,λb o e=>bf _ e,ba _,?_,rfl,?_,by decide,λb c=>?_⟩
    .intro b c;simp only[bW,iR,or_false]at c;rw[jf];rcases c with rfl|rfl
     .exact ja _
     .exact jD jx
    .intro N m;rw[vD (by simp[B]) m]
    .simp only[bW,iR,or_false]at c;exact c.elim (λz=>.inr (lS z.symm)) .inl
   .refine i _ _ _ _ _ _ l ⟨λO q=>Hu (cT jx) p c B q,⟨cj _ rfl,bf _ l⟩,λb o e=>bf _ e,ba _,?_,rfl,?_,by decide,λb c=>?_⟩
    .intro b c;simp only[bW,iR,or_false]at c;rw[jf];rcases c with rfl|rfl
     .exact ja _
     .exact jD jx
    .intro N m;rw[vD (by simp[B]) m]
    .simp only[bW,iR,or_false]at c;exact c.elim (λz=>.inr (lS z.symm)) .inl
theorem Go{a:ac}{p:Array (Int×ai)}{Q:List ai->am->Prop}(K:A.handled=ae)(S:rD w s.heap a p)(h:∀(d:am) (G:List ai),G.Perm (p.toList.map (·.2))->(∀b o,s.heap.get? b=aa o->d.heap.get? b=aa o)->d.gens=s.gens->d.os=s.os->Q G d):aw (aA P w) A (collect (.ref a)) Q E s:=by
 obtain⟨L,t,J,O,_⟩:=id S;have jx:=br J;unfold collect;refine au (wpAny_runValue (ng F.entry_proto_collect ?_));rw[ou F.plain_proto_collect _];show aw _ A.in1 (newList [] >>= λl=>again (.builtin "list.__iadd__" ⟨[l,.ref a],[]⟩)) _ _ s;refine au (lW ?_);refine aQ ⟨ox F.plain_list_iadd _,ng F.entry_list_iadd ?_⟩;rw[ou F.plain_list_iadd _];show aw _ A.in1 (Builtin.List.listExtendWith (.ref s.heap.objs.size) (.ref a) (.ref s.heap.objs.size)) _ _ _;unfold Builtin.List.listExtendWith;have m:∀x:am,x.heap.get? a=aa {cls:=.type "set",dict:=ae,data:=.set p L t}->x.TypeIs (.ref a) "set":=λx e=>⟨_,e,rfl⟩
 have g:(s.heap.push {cls:=.type "list",data:=.seq ([]:List ai).toArray}).get? a=aa {cls:=.type "set",dict:=ae,data:=.set p L t}:=bf _ J;refine au (wpAny_typeOf (m _ g) ?_);have Y:Builtin.List.listSameRef (.ref s.heap.objs.size) (.ref a)=aj:=by have:¬(s.heap.objs.size=a):=iL jx;simp[Builtin.List.listSameRef,this]
 rw[if_neg (by rw[Y];decide)];refine au (JR (S.at λo e=>bf _ e) λv I Z n Pv St W=>?_);have y:=W.old a _ g;refine au (lV ?_);unfold Builtin.List.listLengthHint;refine au (wpAny_specialOf (m _ y) Ml ?_)
 wp_delta
 refine au (wpAny_isInstance (T:="set") (b:=ah) (m _ y) (by rw[isSubtype_type];kernel_rfl) ?_);show aw _ A.in1 (typeOf (Value.ref a) >>= _) _ _ _;refine au (wpAny_typeOf (T:="set") (m _ y) ?_);refine aQ ?_;rw[if_pos (by decide)];refine au (wpAny_rule ?_);have X:(s.heap.push {cls:=.type "list",data:=.seq ([]:List ai).toArray}).get? s.heap.objs.size=aa {cls:=.type "list",data:=.seq ([]:List ai).toArray}:=cj _ rfl;have j:=W.old _ _ X;unfold Builtin.List.listTouch;refine au (au (listUpdate_at j rfl ?_ (by decide) (by show 1<=a6+1;decide)));have i:=Ak j (λa:Array ai=>a.push Value.none);refine listUpdate_at i rfl ?_ (by show 1<=a6;decide) (by show 0<=a6+1;decide);have D:=Ak i (λa:Array ai=>a.pop);have M:s.heap.objs.size∉Z:=λz=>by
  rcases W.fps _ z with q|q
  .exact absurd jx (by rw[<-q];exact d9 _)
  .rw[jf]at q;exact absurd (ja _) (wG.mpr q)
 have H:∀b o,b≠s.heap.objs.size->v.heap.get? b=aa o->(((v.heap.update s.heap.objs.size (kK λa=>a.push Value.none)).update s.heap.objs.size (kK λa=>a.pop))).get? b=aa o:=λb o f e=>by rw[Heap.get?_update_ne _ _ _ _ f,Heap.get?_update_ne _ _ _ _ f];exact e
 have u:St 0 (((v.heap.update s.heap.objs.size (kK λa=>a.push Value.none)).update s.heap.objs.size (kK λa=>a.pop))):=(W.wk A.in1 K).frame 0 _ _ W.st λb f o e=>H b o (λz=>M (z ▸ f)) e;refine aQ ⟨ox F.plain_extend_loop _,codeAny_extend_loopS (W.wk A.in1 K).toS (kF (Ea (by have:=W.len;lia))) _ M _ n 0 _ _ _ rfl (iN _) u D (ItemsOf.nil _) λd c c' B C N=>?_⟩;show aw _ A (load s.heap.objs.size >>= _) _ _ d;refine au (wpAny_load C ?_);refine aQ (h d c.toList (W.ord c N) (λb o e=>?_) ?_ ?_)
 .have r:=br e;refine B.heap b o (λf=>?_) (H b o (cT r) (W.old b o (bf _ e)));rcases bW.mp f with z|z
  .exact absurd r (by rw[z];exact d9 _)
  .rw[gs.mp z]at r;have:=W.new;rw[jf]at this;exact absurd r (wG.mpr (Nat.le_of_succ_le this))
 .rw[B.gens,W.rest]
 .rw[B.os,W.rest]
theorem Kl{a:ac}{ks:List Str}{Q:List ai->am->Prop}(q:A.handled=ae)(S:i9 P w s.heap a ks)(h:∀(c:am) (d:List ai) (f:List Str),fR d f->f.Perm ks->d.length<4090->(∀b o,s.heap.get? b=aa o->c.heap.get? b=aa o)->c.gens=s.gens->c.os=s.os->Q d c):aw (aA P w) A (collect (.ref a)) Q E s:=by
 obtain⟨u,f,S,r,p⟩:=S.e;have n:u.size<4090:=by obtain⟨_,_,_,z,_⟩:=S;exact z
 refine Go q S λc d pv m l j=>?_;obtain⟨v,i,g⟩:=ya pv r;exact h c d v i (g.trans p) (by have:=pv.length_eq;simp at this;lia) m l j
theorem JG{a:ac}{ks:List Str}{Q:List ai->am->Prop}(f:A.handled=ae)(S:i9 P w s.heap a ks)(g:ks≠[])(h:∀(c:am) (d:List ai) (ss:List Str),fR d ss->ss.Perm ks->d.length<4090->(∀b o,s.heap.get? b=aa o->c.heap.get? b=aa o)->c.gens=s.gens->c.os=s.os->Q d c):aw (aA P w) A (collect (.ref a)) Q E s:=Kl f S h
end
def e_(a:List Tx):List Tx:=a.foldl (λks x=>if x∈ks then ks else ks++[x]) []
theorem Bg(b:List Tx):met (λi=>(b.map tS).getD i jZ) b.length=(e_ b).map tS:=by
 have d:∀(l:List Tx) (a:List Tx),(l.map tS).foldl i7 (a.map tS)=(l.foldl (λks x=>if x∈ks then ks else ks++[x]) a).map tS:=by
  intro l
  induction l with
  |nil=>intro a;rfl
  |cons x r g=>
   intro a;rw[dD,lY,lY];have:i7 (a.map tS) (tS x)=(if x∈a then a else a++[x]).map tS:=by
    unfold i7;have f:tS x∈a.map tS↔x∈a:=by rw[bJ];exact⟨λ⟨y,j,e⟩=>by rw[<-o9 e];exact j,λh=>⟨x,h,rfl⟩⟩
    by_cases h:x∈a
    .rw[if_pos h,if_pos (f.mpr h)]
    .rw[if_neg h,if_neg (λz=>h (f.mp z)),qd];rfl
   rw[this,g]
 have e:(bG b.length).map (λi=>(b.map tS).getD i jZ)=b.map tS:=by
  refine wO λi=>?_;rw[iP];by_cases c:i<b.length
  .rw[List.getElem?_range c];simp[c]
  .rw[qm (by simpa using c),qm (by simpa using c)];rfl
 unfold met;rw[e];exact d b []
theorem CU(l c:List Tx):(c.Nodup->(l.foldl (λks x=>if x∈ks then ks else ks++[x]) c).Nodup)/\∀x,x∈l.foldl (λks x=>if x∈ks then ks else ks++[x]) c↔x∈c\/x∈l:=by
 induction l generalizing c with
 |nil=>exact⟨λh=>h,λx=>by simp⟩
 |cons y r g=>
  rw[lY];obtain⟨m,j⟩:=g (if y∈c then c else c++[y]);refine⟨λh=>m ?_,λx=>?_⟩
  .split
   .exact h
   .rename_i d;rw[wP];exact⟨h,by simp,λa i b f=>by simp at f;subst f;exact λe=>d (e ▸ i)⟩
  .rw[j x,bW];split
   .rename_i d;constructor
    .rintro(h|h)
     .exact .inl h
     .exact .inr (.inr h)
    .rintro(h|rfl|h)
     .exact .inl h
     .exact .inl d
     .exact .inr h
   .rw[lO,gs,or_assoc]
theorem Og(l:List Tx):(e_ l).Nodup:=(CU l []).1 List.nodup_nil
theorem rL(l:List Tx)(x:Tx):x∈e_ l↔x∈l:=by rw[e_,(CU l []).2 x];simp
theorem Mc(l:List Tx):(e_ l).length<=l.length:=by
 have b:∀(l a:List Tx),(l.foldl (λks x=>if x∈ks then ks else ks++[x]) a).length<=a.length+l.length:=by
  intro l
  induction l with
  |nil=>intro a;simp
  |cons x r c=>intro a;rw[lY];refine c4 (c _) ?_;split <;> simp <;> lia
 simpa[e_]using b l []
section
variable{X:Cx}
def nG(X:Cx)(a:ac)(b:List Tx):HO:=.ext λh=>i9 X.prog X.w h a (b.map tS)
theorem I0(A:X.calm=ah):ff X (.type "set") (λg H Q=>∃(p:ac) (c:List Tx),g=[.ref p]/\cb X.K H p (c7 c)/\(e_ c).length<4000/\∀a,H a=ae->Q (.ref a) (upd H a (nG X a (e_ c)))):=by
 intro M s C H g D Q I r h;obtain⟨p,c,rfl,y,f,q⟩:=h;obtain⟨u,rfl,m⟩:=vals1 r;cases m;obtain⟨d,i,x,F⟩:=I.list y;have z:=i.length;rw[zd]at z;refine Km (P:=X.prog) (w:=X.w) (I.ok.hd A) (.inl x.isList) (by simpa using xb i) (by rw[cD,show d.length=c.length by lia,Bg,bO];exact f) λB l S k=>?_;have j:i9 X.prog X.w B s.heap.objs.size ((e_ c).map tS):=by
  have e:d.toArray.size=c.length:=by rw[cD];lia
  rw[e,Bg]at S;exact S
 refine⟨.ref s.heap.objs.size,_,I.laid (t':=l) (o:=nG X s.heap.objs.size (e_ c)) (λb o e=>k b o (br e) e) (ba _) ?_,rfl,q _ I.fresh⟩;obtain⟨K,L,t,E,e,_⟩:=j.ex;exact⟨j,⟨_,e⟩,λJ G v n=>v.at n⟩
theorem Gv(A:X.calm=ah):ff X (.builtin "sorted") (λc H Q=>∃(p:ac) (a:List Tx),c=[.ref p]/\H p=aa (nG X p a)/\a≠[]/\a.length<64/\∀l,H l=ae->Q (.ref l) (upd H l (.lst (c7 (bw a))))):=by
 intro J s j H c L Q I r h;obtain⟨p,a,rfl,y,F,x,q⟩:=h;obtain⟨u,rfl,n⟩:=vals1 r;cases n;obtain⟨S,_,_⟩:=(show cV X.prog X.w H s.heap p (nG X p a)from I.hok p _ y)
 refine Cb (JG (qT (I.ok.hd A)) S (by cases a with|nil=>exact absurd rfl F|cons=>simp) λm K ss g f P k D C=>?_);obtain⟨d,g',d',t',v⟩:=m;obtain rfl:g'=s.gens:=D;obtain rfl:v=s.os:=C;have i:Inv X J j H {s with heap:=d,drawn:=d',toks:=t'}:=by have:=Inv.call (ch:=[]) I (g':=s.gens) (d':=d') (t':=t') (Un.kept (fs:=fh X.stack) (ex:=[]) k) (I.hok.kept k) I.bare (λb B=>absurd B (by simp));exact this
 refine⟨ss,g,by have N:=g.length;have E:=f.length_eq;rw[bO]at E;lia,λM o O e w z b1 b2 G=>?_⟩;exact⟨.ref _,_,Inv.sorted (s1:={s with heap:=d,drawn:=d',toks:=t'}) (ss:=a.map tS) i rfl x w z b1 (b2.trans f) G,rfl,q _ i.fresh⟩
end
structure cP(K:ar)(mg:Str->Option ai)(x:Str)(st:aV):Prop where
 ex:∃f fd,mg x=aa (.ref f)/\ko K x x st f fd
theorem Dj{H:Hp}{p:ac}{o:HO}(h:H p=ae):Same H (upd H p o):=λb u q=>by rw[bj (mr q h)];exact q
theorem Dl{a:Type}{xs:List a}{k:Int}(b:0<=k)(h:k.toNat<xs.length):c9 xs k=aa xs[k.toNat]:=by
 have e:((k.toNat:Nat):Int)=k:=∅
 have q:=Ms (xs:=xs) (j:=k.toNat) (v:=xs[k.toNat]) (by simp[h]);rwa[e]at q
def BO(N:List Str)(d a:c8)(x:Str)(c:List Str)(b:List Nat):Bool :=
 decide (a.kind=.function)&&a.names.all (λy=>(decide (y.2≠.cell)||decide (a.names.lookup y.1=aa .cell))&&(decide (y.2≠.local)||decide (a.names.lookup y.1=aa .local))&&(decide (y.2≠.free)||decide (d.names.lookup y.1=aa .cell)||decide (d.names.lookup y.1=aa .free)))
 && (decide (a.names.lookup x=aa .local)||decide (a.names.lookup x=aa .cell))&&decide c.Nodup&&decide (c.head?=aa x)&&decide (c.length=b.length+1)&&(b.zip c.tail).all λp=>(decide (N[p.1]?=aa p.2)&&decide (a.names.lookup p.2=aa .free))||(decide (N.length<=p.1)&&decide (a.names.lookup p.2=aa .local))
theorem gA.of{X:Cx}{a:c8}{x:Str}{N':List Str}{cap:List Nat}(N:List Str)(f:c8)(l:X.N=N)(c:X.env.scope=f)(h:BO N f a x N' cap=ah):gA X a x N' cap:=by
 subst l c;simp only[BO,dW,decide_eq_true_eq,gK,oq]at h;obtain⟨⟨⟨⟨⟨⟨r,d⟩,q⟩,p⟩,o⟩,n⟩,m⟩:=h;refine⟨r,λy b e=>(d y b).1.1.elim (λz=>absurd e z) λz=>z,λy b e=>?_,q,λy b e=>?_,p,o,n,λi j y u s=>?_⟩
 .rcases(d y b).1.2 with z|z
  .exact absurd e z
  .exact z
 .rcases(d y b).2 with(z|z)|z
  .exact absurd e z
  .exact .inl z
  .exact .inr z
 .have g:(j,y)∈cap.zip N'.tail:=by
   refine List.mem_iff_getElem?.mpr ⟨i,?_⟩;rw[List.getElem?_zip_eq_some];refine⟨s,?_⟩;rw[<-List.drop_one,List.getElem?_drop,Nat.add_comm];exact u
  exact m _ g
theorem Of(a b:Tx):fI (tV a) (tV b)=decide (a=b):=by show(tS a == tS b)=_;rw[lR];simp only[beq_iff_eq,decide_eq_true_eq];exact⟨o9,λh=>by rw[h]⟩
theorem Hv(a:List Tx)(x:Tx):((c7 a).countP λz=>fI z (tV x))=a.count x:=by unfold c7 List.count;rw[List.countP_map];refine List.countP_congr λy _=>?_;simp only[Function.comp_apply,Of,decide_eq_true_eq,beq_iff_eq]
end L2
namespace Pu
open L2
abbrev St:=L2.St
inductive PV where
 |non|bl (b:Bool)|int (i:Int)|str (x:Tx)|tup (xs:List PV)|lst (xs:List PV)|raw (v:V)|exc (c:ai)
def Je(a:ac)(c:ai):HO:=.ext λh=>∃o b,h.get? a=aa o/\o.cls=c/\o.data=.fields b/\o.dict=ae
def bQ:Nat:=1000000
theorem jy:bQ<=a6:=by rw[oi];decide
def dr:HO->Prop
 |.lst _=>True
 |.dK _=>True
 |.dT _=>True
 |.dN _=>True
 |.ins _ _ _=>True
 |.own _=>True
 |_=>False
mutual
def aO(K:ar)(H:Hp)(F:ac->Prop):PV->V->Prop
 |.non,v=>v=.non
 |.bl b,v=>v=.bl b
 |.int i,v=>v=.int i
 |.str x,v=>v=tV x/\x.length<=bQ
 |.tup f,v=>∃a d,v=.ref a/\H a=aa (.tup d)/\aY K H F f d
 |.lst f,v=>∃a d,v=.ref a/\Rd H a (.lst d)/\F a/\aY K H F f d
 |.raw u,v=>v=u
 |.exc c,v=>∃a,v=.ref a/\H a=aa (Je a c)
def aY(K:ar)(H:Hp)(F:ac->Prop):List PV->List V->Prop
 |[],a=>a=[]
 |x::b,a=>∃v r,a=v::r/\aO K H F x v/\aY K H F b r
end
section
variable{K:ar}{H H':Hp}{F b:ac->Prop}
mutual
theorem aO.mono(f:∀a,F a->b a)(d:∀a xs,F a->Rd H a (.lst xs)->Rd H' a (.lst xs))(c:∀a o,H a=aa o->¬dr o->H' a=aa o):∀(x:PV) (v:V),aO K H F x v->aO K H' b x v
 |.non,_,h=>h
 |.bl _,_,h=>h
 |.int _,_,h=>h
 |.str _,_,h=>h
 |.raw _,_,h=>h
 |.exc _,_,⟨a,e,h⟩=>⟨a,e,c a _ h id⟩
 |.tup xs,_,⟨a,vs,e,i,g⟩=>⟨a,vs,e,c a _ i id,aY.mono f d c xs vs g⟩
 |.lst xs,_,⟨a,vs,e,i,j,g⟩=>⟨a,vs,e,d a vs j i,f a j,aY.mono f d c xs vs g⟩
theorem aY.mono(f:∀a,F a->b a)(d:∀a xs,F a->Rd H a (.lst xs)->Rd H' a (.lst xs))(c:∀a o,H a=aa o->¬dr o->H' a=aa o):∀(xs:List PV) (vs:List V),aY K H F xs vs->aY K H' b xs vs
 |[],_,h=>h
 |x::xs,_,⟨v,r,e,i,g⟩=>⟨v,r,e,aO.mono f d c x v i,aY.mono f d c xs r g⟩
end
theorem aY.len:∀{xs:List PV}{vs:List V},aY K H F xs vs->vs.length=xs.length
 |[],_,h=>by rw[show _=[] from h];rfl
 |_::_,_,⟨_,_,e,_,a⟩=>by rw[e,eX,eX,aY.len a]
theorem aY.get:∀{xs:List PV}{vs:List V}{i:Nat}{x:PV},aY K H F xs vs->xs[i]?=aa x->∃v,vs[i]?=aa v/\aO K H F x v
 |[],_,_,_,_,e=>by simp at e
 |x::xs,_,0,y,⟨v,r,e,h1,_⟩,q=>by simp at q;subst q;subst e;exact⟨v,rfl,h1⟩
 |x::xs,_,i+1,y,⟨v,r,e,_,h2⟩,q=>by obtain⟨w,a,b⟩:=aY.get (i:=i) (x:=y) h2 (by simpa using q);subst e;exact⟨w,by simpa using a,b⟩
theorem aY.back:∀{xs:List PV}{c:List V}{i:Nat}{v:V},aY K H F xs c->c[i]?=aa v->∃x,xs[i]?=aa x/\aO K H F x v
 |[],_,_,_,h,e=>by rw[show _=[] from h]at e;simp at e
 |x::xs,_,0,y,⟨v,r,e,h1,_⟩,q=>by subst e;simp at q;subst q;exact⟨x,rfl,h1⟩
 |x::xs,_,i+1,y,⟨v,r,e,_,h2⟩,q=>by subst e;obtain⟨w,a,b⟩:=aY.back (i:=i) (v:=y) h2 (by simpa using q);exact⟨w,by simpa using a,b⟩
theorem aY.app:∀{xs a:List PV}{vs b:List V},aY K H F xs vs->aY K H F a b->aY K H F (xs++a) (vs++b)
 |[],_,_,_,h,g=>by rw[show _=[] from h];exact g
 |x::xs,_,_,_,⟨v,r,e,d,c⟩,g=>by subst e;exact⟨v,_,rfl,d,aY.app c g⟩
theorem aY.one{x:PV}{v:V}(h:aO K H F x v):aY K H F [x] [v]:=⟨v,[],rfl,h,rfl⟩
theorem aY.drop:∀(n:Nat) {xs:List PV}{a:List V},aY K H F xs a->aY K H F (xs.drop n) (a.drop n)
 |0,_,_,h=>h
 |_+1,[],_,h=>by rw[show _=[] from h];rfl
 |n+1,_::_,_,⟨_,_,e,_,h2⟩=>by subst e;exact aY.drop n h2
theorem aY.take:∀(n:Nat) {a:List PV}{b:List V},aY K H F a b->aY K H F (a.take n) (b.take n)
 |0,_,_,_=>by rw[List.take_zero,List.take_zero];rfl
 |_+1,[],_,h=>by rw[show _=[] from h];rfl
 |n+1,_::_,_,⟨v,_,e,h1,h2⟩=>by subst e;exact⟨v,_,rfl,h1,aY.take n h2⟩
end
structure a8(O O' F F':ac->Prop)(H H':Hp):Prop where
 fro:∀a,F a->F' a
 keep:∀b o,H b=aa o->¬O b->H' b=aa o
 there:∀b o,H b=aa o->∃o',H' b=aa o'
 fnew:∀a,F' a->F a\/H a=ae\/O a
 onew:∀a,O' a->O a\/H a=ae
theorem a8.refl(O F:ac->Prop)(H:Hp):a8 O O F F H H:=⟨λ_ h=>h,λ_ _ h _=>h,λ_ o h=>⟨o,h⟩,λ_ h=>.inl h,λ_ h=>.inl h⟩
theorem a8.trans{O i f F m l:ac->Prop}{H d j:Hp}(g:a8 O i F m H d)(k:a8 i f m l d j):a8 O f F l H j where
 fro:=λa h=>k.fro a (g.fro a h)
 keep:=λb o h n=>k.keep b o (g.keep b o h n) λz=>(g.onew b z).elim n λq=>by rw[q]at h;cases h
 there:=λb o h=>let ⟨o',c⟩:=g.there b o h;k.there b o' c
 fnew:=λa h=>by
  have back:d a=ae->H a=ae\/O a:=λz=>by
   cases q:H a with
   |none=>exact .inl rfl
   |some o=>obtain⟨o',c⟩:=g.there a o q;rw[z]at c;cases c
  rcases k.fnew a h with z|z|z
  .exact g.fnew a z
  .exact .inr (back z)
  .exact .inr ((g.onew a z).symm)
 onew:=λa h=>by
  rcases k.onew a h with z|z
  .exact g.onew a z
  .cases q:H a with
   |none=>exact .inr rfl
   |some o=>obtain⟨o',c⟩:=g.there a o q;rw[z]at c;cases c
def Fit(O F:ac->Prop)(H:Hp):Prop:=∀b,O b->¬F b/\∃o,H b=aa o/\dr o
section
variable{K:ar}{O c F b:ac->Prop}{H H':Hp}
theorem a8.imm(g:a8 O c F b H H')(f:Fit O F H){a:ac}{o:HO}(h:H a=aa o)(n:¬dr o):H' a=aa o :=
 g.keep _ _ h λz=>by
  obtain⟨_,j,d,i⟩:=f a z;rw[h]at d;cases d;exact n i
theorem a8.lst(g:a8 O c F b H H')(f:Fit O F H){a:ac}{xs:List V}(d:F a)(h:Rd H a (.lst xs)):Rd H' a (.lst xs):=by
 have no:¬O a:=λz=>(f a z).1 d;rcases h with h|⟨o,h⟩
 .exact .inl (g.keep _ _ h no)
 .exact .inr ⟨o,g.keep _ _ h no⟩
theorem aO.grow(g:a8 O c F b H H')(f:Fit O F H){x:PV}{v:V}(h:aO K H F x v):aO K H' b x v:=aO.mono g.fro (λ_ _ a q=>g.lst f a q) (λ_ _ q n=>g.imm f q n) x v h
theorem aY.grow(g:a8 O c F b H H')(f:Fit O F H){x:List PV}{v:List V}(h:aY K H F x v):aY K H' b x v:=aY.mono g.fro (λ_ _ a q=>g.lst f a q) (λ_ _ q n=>g.imm f q n) x v h
end
theorem _root_.L2.Same.rd{H b:Hp}{a:ac}{u:HO}(e:Same H b)(h:Rd H a u):Rd b a u:=h.elim (λz=>.inl (e _ _ z)) λ⟨o,z⟩=>.inr ⟨o,e _ _ z⟩
structure Al(F F':ac->Prop)(H H':Hp):Prop where
 fro:∀a,F a->F' a
 same:Same H H'
 fnew:∀a,F' a->F a\/(H a=ae/\∃o,H' a=aa o)
theorem Al.refl(F:ac->Prop)(H:Hp):Al F F H H:=⟨λ_ h=>h,Same.refl H,λ_ h=>.inl h⟩
theorem Al.grow{F c O:ac->Prop}{H H':Hp}(a:Al F c H H'):a8 O O F c H H' :=⟨a.fro,λb o h _=>a.same b o h,λb o h=>⟨o,a.same b o h⟩,λb h=>(a.fnew b h).imp id λz=>.inl z.1,λ_ h=>.inl h⟩
theorem Al.rep{K:ar}{F c:ac->Prop}{H b:Hp}(a:Al F c H b){x:PV}{v:V}(h:aO K H F x v):aO K b c x v:=aO.mono a.fro (λ_ _ _ q=>a.same.rd q) (λ_ _ q _=>a.same _ _ q) x v h
theorem Al.reps{K:ar}{F c:ac->Prop}{H b:Hp}(a:Al F c H b){x:List PV}{v:List V}(h:aY K H F x v):aY K b c x v:=aY.mono a.fro (λ_ _ _ q=>a.same.rd q) (λ_ _ q _=>a.same _ _ q) x v h
theorem Al.trans{F i g:ac->Prop}{H f d:Hp}(a:Al F i H f)(b:Al i g f d):Al F g H d :=
 ⟨λc h=>b.fro c (a.fro c h),a.same.trans b.same,λc h=>by
  rcases b.fnew c h with z|⟨z,w⟩
  .rcases a.fnew c z with y|⟨y,o,q⟩
   .exact .inl y
   .exact .inr ⟨y,o,b.same _ _ q⟩
  .exact .inr ⟨a.same.free z,w⟩⟩
theorem Al.new{F:ac->Prop}{H:Hp}{l:ac}{o:HO}(h:H l=ae):Al F (λa=>F a\/a=l) H (upd H l o) :=⟨λ_ h=>.inl h,Dj h,λa z=>z.imp id λe=>by subst e;exact⟨h,o,bT⟩⟩
theorem Al.new0{F:ac->Prop}{H:Hp}{l:ac}{o:HO}(h:H l=ae):Al F F H (upd H l o):=⟨λ_ h=>h,Dj h,λa z=>.inl z⟩
inductive PO where
 |lst (xs:List PV)|dK (kvs:List (aD×PV))|lls (dE:List (List PV))|ins (C:ac) (fs:List (Str×PV))|dT (kvs:List (List aD×PV))|dN (kvs:List ((Tx×List Tx)×PV))|inl (C:ac) (fs:List (Str×PV)) (y:Str) (xs:List PV)|dL (kvs:List (aD×List PV))
def gZ:PO->Bool
 |.lls _=>aj
 |.dL _=>aj
 |.inl ..=>aj
 |_=>ah
inductive Slot where
 |none|val (v:PV)|own (o:PO)
abbrev af:=List Slot
def f_(K:ar)(H:Hp)(F:ac->Prop)(a:List (aD×PV))(b:List (aD×V)):Prop:=jV (λ(p:aD×PV) (q:aD×V)=>p.1=q.1/\aO K H F p.2 q.2) a b
def io(K:ar)(H:Hp)(F:ac->Prop)(fs:List (Str×PV))(a:List (Str×V)):Prop:=jV (λ(p:Str×PV) (q:Str×V)=>p.1=q.1/\aO K H F p.2 q.2) fs a
def iE(K:ar)(H:Hp)(F:ac->Prop)(a:List (List aD×PV))(b:List (List aD×V)):Prop:=jV (λ(p:List aD×PV) (q:List aD×V)=>p.1=q.1/\aO K H F p.2 q.2) a b
def nS(k:Tx×List Tx):Str×List Str:=(tS k.1,k.2.map tS)
def vI(K:ar)(H:Hp)(F:ac->Prop)(a:List ((Tx×List Tx)×PV))(b:List ((Str×List Str)×V)):Prop:=jV (λ(p:(Tx×List Tx)×PV) (q:(Str×List Str)×V)=>nS p.1=q.1/\aO K H F p.2 q.2) a b
def gq(K:ar)(H:Hp)(F:ac->Prop)(d:List (List PV))(f:List ac):Prop:=jV (λ(c:List PV) (b:ac)=>∃a,H b=aa (.lst a)/\aY K H F c a) d f
def d4(K:ar)(H:Hp)(F:ac->Prop)(l:PO)(a:ac)(S:ac->Prop):Prop :=
 match l with
 |.lst i=>(∃h,H a=aa (.lst h)/\aY K H F i h)/\∀b,S b↔b=a
 |.dK d=>(∃f,H a=aa (.dK f)/\f_ K H F d f)/\∀b,S b↔b=a
 |.lls m=>∃g,H a=aa (.lst (g.map .ref))/\gq K H F m g/\g.Nodup/\a∉g/\∀b,S b↔b=a\/b∈g
 |.dL d=>∃g:List ac,H a=aa (.dK ((d.map (·.1)).zip (g.map V.ref)))/\gq K H F (d.map (·.2)) g/\g.Nodup/\a∉g/\∀b,S b↔b=a\/b∈g
 |.ins C fs=>(∃j f,H a=aa (.ins C j f)/\io K H F fs f)/\∀b,S b↔b=a
 |.dT d=>(∃f,H a=aa (.dT f)/\iE K H F d f)/\∀b,S b↔b=a
 |.dN d=>(∃f,H a=aa (.dN f)/\vI K H F d f)/\∀b,S b↔b=a
 |.inl C fs y i=>∃j f b h,H a=aa (.ins C j (f++[(y,.ref b)]))/\io K H F fs f/\fs.lookup y=ae/\H b=aa (.lst h)/\aY K H F i h/\a≠b/\∀c,S c↔c=a\/c=b
structure aJ(K:ar)(F:ac->Prop)(S:Nat->ac->Prop)(ε:af)(σ:St)(H:Hp):Prop where
 len:ε.length=σ.length
 ex:∀a,F a->∃o,H a=aa o
 val:∀(i:Nat) (pv:PV),ε[i]?=aa (.val pv)->∃v,σ[i]?=aa (aa v)/\aO K H F pv v
 own:∀(i:Nat) (po:PO),ε[i]?=aa (.own po)->∃a,σ[i]?=aa (aa (.ref a))/\d4 K H F po a (S i)
 foot:∀(i:Nat) (b:ac),S i b->(∃po,ε[i]?=aa (.own po))/\¬F b/\∃o,H b=aa o/\dr o
 dist:∀(i j:Nat) (b:ac),S i b->S j b->i=j
def U(S:Nat->ac->Prop)(b:ac):Prop:=∃i,S i b
section
variable{K:ar}{F d:ac->Prop}{S:Nat->ac->Prop}{f:af}{σ:St}{H H':Hp}
theorem aJ.fit(r:aJ K F S f σ H):Fit (U S) F H:=λb ⟨i,h⟩=>(r.foot i b h).2
theorem f_.mono{a:List (aD×PV)}{b:List (aD×V)}(g:∀x v,aO K H F x v->aO K H' d x v)(h:f_ K H F a b):f_ K H' d a b:=by
 unfold f_ at h ⊢
 induction h with
 |nil=>exact .nil
 |cons r _ c=>exact .cons ⟨r.1,g _ _ r.2⟩ c
theorem io.mono{fs:List (Str×PV)}{a:List (Str×V)}(c:∀x v,aO K H F x v->aO K H' d x v)(h:io K H F fs a):io K H' d fs a:=by
 unfold io at h ⊢
 induction h with
 |nil=>exact .nil
 |cons r _ b=>exact .cons ⟨r.1,c _ _ r.2⟩ b
theorem iE.mono{a:List (List aD×PV)}{b:List (List aD×V)}(g:∀x v,aO K H F x v->aO K H' d x v)(h:iE K H F a b):iE K H' d a b:=by
 unfold iE at h ⊢
 induction h with
 |nil=>exact .nil
 |cons r _ c=>exact .cons ⟨r.1,g _ _ r.2⟩ c
theorem vI.mono{a:List ((Tx×List Tx)×PV)}{b:List ((Str×List Str)×V)}(g:∀x v,aO K H F x v->aO K H' d x v)(h:vI K H F a b):vI K H' d a b:=by
 unfold vI at h ⊢
 induction h with
 |nil=>exact .nil
 |cons r _ c=>exact .cons ⟨r.1,g _ _ r.2⟩ c
theorem gq.mono{g:List (List PV)}{a:List ac}(i:∀x v,aY K H F x v->aY K H' d x v)(c:∀b o,b∈a->H b=aa o->H' b=aa o)(h:gq K H F g a):gq K H' d g a:=by
 unfold gq at h ⊢
 induction h with
 |nil=>exact .nil
 |cons r _ j=>obtain⟨vs,n,m⟩:=r;exact .cons ⟨vs,c _ _ (by simp) n,i _ _ m⟩ (j λb o l=>c b o (by simp[l]))
theorem d4.mono{po:PO}{a:ac}{Sa:ac->Prop}(j:∀x v,aO K H F x v->aO K H' d x v)(l:∀x v,aY K H F x v->aY K H' d x v)(c:∀b o,Sa b->H b=aa o->H' b=aa o)(h:d4 K H F po a Sa):d4 K H' d po a Sa:=by
 cases po with
 |lst xs=>obtain⟨⟨vs,e,q⟩,w⟩:=h;exact⟨⟨vs,c a _ ((w a).mpr rfl) e,l _ _ q⟩,w⟩
 |dK i=>obtain⟨⟨g,e,q⟩,w⟩:=h;exact⟨⟨g,c a _ ((w a).mpr rfl) e,q.mono j⟩,w⟩
 |lls D=>obtain⟨u,e,q,p,m,w⟩:=h;exact⟨u,c a _ ((w a).mpr (.inl rfl)) e,q.mono l λb o r=>c b o ((w b).mpr (.inr r)),p,m,w⟩
 |dL i=>obtain⟨u,e,q,p,m,w⟩:=h;exact⟨u,c a _ ((w a).mpr (.inl rfl)) e,q.mono l λb o r=>c b o ((w b).mpr (.inr r)),p,m,w⟩
 |ins C fs=>obtain⟨⟨s,g,e,q⟩,w⟩:=h;exact⟨⟨s,g,c a _ ((w a).mpr rfl) e,q.mono j⟩,w⟩
 |dT i=>obtain⟨⟨g,e,q⟩,w⟩:=h;exact⟨⟨g,c a _ ((w a).mpr rfl) e,q.mono j⟩,w⟩
 |dN i=>obtain⟨⟨g,e,q⟩,w⟩:=h;exact⟨⟨g,c a _ ((w a).mpr rfl) e,q.mono j⟩,w⟩
 |inl C fs y xs=>obtain⟨s,g,b,vs,e,q,n,B,z,A,w⟩:=h;exact⟨s,g,b,vs,c a _ ((w a).mpr (.inl rfl)) e,q.mono j,n,c b _ ((w b).mpr (.inr rfl)) B,l _ _ z,A,w⟩
theorem aJ.al(r:aJ K F S f σ H)(a:Al F d H H'):aJ K d S f σ H' where
 len:=r.len
 ex:=λb h=>(a.fnew b h).elim (λz=>let ⟨o,q⟩:=r.ex b z;⟨o,a.same _ _ q⟩) λz=>z.2
 val:=λi pv e=>let ⟨v,j,g⟩:=r.val i pv e;⟨v,j,a.rep g⟩
 own:=λi m e=>let ⟨b,j,g⟩:=r.own i m e;⟨b,j,g.mono (λ_ _ q=>a.rep q) (λ_ _ q=>a.reps q) λc o _ q=>a.same _ _ q⟩
 foot:=λi b h=>by
  obtain⟨j,g,o,l,n⟩:=r.foot i b h;refine⟨j,λz=>?_,o,a.same _ _ l,n⟩;rcases a.fnew b z with y|⟨y,_⟩
  .exact g y
  .rw[l]at y;cases y
 dist:=r.dist
end
inductive R(α:Type) where
 |ok (a:α) (ε:af)|er (c:ai) (ε:af)|no
def R.bind{d b:Type}(r:R d)(k:d->af->R b):R b:=match r with
 |.ok a ε=>k a ε
 |.er c ε=>.er c ε
 |.no=>.no
def aB{b:Type}(o:Option b)(ε:af):R b:=match o with
 |some a=>.ok a ε
 |none=>.no
@[simp] theorem R.bind_ok{b c:Type}(a:b)(ε:af)(k:b->af->R c):(R.ok a ε).bind k=k a ε:=rfl
@[simp] theorem R.bind_er{b d:Type}(c:ai)(a:af)(k:b->af->R d):(R.er c a:R b).bind k=.er c a:=rfl
@[simp] theorem R.bind_no{a b:Type}(k:a->af->R b):(R.no:R a).bind k=.no:=rfl
@[simp] theorem cf{c:Type}(a:c)(b:af):aB (aa a) b=.ok a b:=rfl
@[simp] theorem Pn{b:Type}(a:af):aB (ae:Option b) a=.no:=rfl
def Ok(K:ar)(E:XK)(h:St)(F:ac->Prop)(S:Nat->ac->Prop)(H:Hp){i:Type}(r:R i)(C:i->af->(ac->Prop)->(Nat->ac->Prop)->Hp->Prop):Prop:=match r with
 |.ok a b=>∀g f d,aJ K g f b h d->a8 (U S) (U f) F g H d->C a b g f d
 |.er c b=>∀x g f d,aJ K g f b h d->a8 (U S) (U f) F g H d->E c x d
 |.no=>False
section
variable{K:ar}{E:XK}{b:St}{F:ac->Prop}{S:Nat->ac->Prop}{H:Hp}{d i:Type}{C C':d->af->(ac->Prop)->(Nat->ac->Prop)->Hp->Prop}{D:i->af->(ac->Prop)->(Nat->ac->Prop)->Hp->Prop}
theorem Ok.imp{r:R d}(h:Ok K E b F S H r C)(f:∀a j m l H',aJ K m l j b H'->a8 (U S) (U l) F m H H'->C a j m l H'->C' a j m l H'):Ok K E b F S H r C':=by
 cases r with
 |ok a j=>exact λm l H' r g=>f a j m l H' r g (h m l H' r g)
 |er c j=>exact h
 |no=>exact h
theorem Ok.from{r:R i}{q:ac->Prop}{o:Nat->ac->Prop}{p:Hp}(h:Ok K E b F S H r D)(g:a8 (U S) (U o) F q H p):Ok K E b q o p r D:=by
 cases r with
 |ok a f=>exact λn l m j g'=>h n l m j (g.trans g')
 |er c f=>exact λx n l m j g'=>h x n l m j (g.trans g')
 |no=>exact h
theorem Ok.bind{r:R d}{k:d->af->R i}(h:Ok K E b F S H (r.bind k) D):Ok K E b F S H r (λa ε1 m j l=>Ok K E b m j l (k a ε1) D):=by
 cases r with
 |ok a f=>exact λp n o r g=>Ok.from h g
 |er c f=>exact h
 |no=>exact h
end
structure Bx(p:Prop):Prop where
 run:p
def gd(X:Cx)(e:ay):TE:=λa H Q=>Bx (∀b s,Inv X b a H s->aw (aA X.prog X.w) X.A (aL e X.env) (EP X b a Q) X.xe s)
def xr(X:Cx)(e:ay):TT:=λa H Q=>Bx (∀b s,Inv X b a H s->aw (aA X.prog X.w) X.A (lP e X.env (aL e X.env)) (TP X b a Q) X.xe s)
def wpS(X:Cx)(c:aV):TS:=λD b H=>Bx (∀a s,Inv X a b H s->aw (aA X.prog X.w) X.A (exec c X.env) (SP X a D) X.xe s)
def nR(X:Cx)(b:List aV):TS:=λD σ H=>Bx (∀a s,Inv X a σ H s->aw (aA X.prog X.w) X.A (execs b X.env) (SP X a D) X.xe s)
section
variable{X:Cx}{e:ay}{b:aV}{a:List aV}
theorem bz:PE X e (gd X e):=λc s _ _ _ I h=>h.run c s I
theorem lu:PT X e (xr X e):=λc s _ _ _ I h=>h.run c s I
theorem o4:PS X b (wpS X b):=λc s _ _ _ I h=>h.run c s I
theorem lG:jU X a (nR X a):=λc s _ _ _ I h=>h.run c s I
theorem bX{t:TE}(h:PE X e t){σ:St}{H:Hp}{Q:VK}(q:t σ H Q):gd X e σ H Q:=⟨λc s I=>h c s σ H Q I q⟩
theorem sx{t:TT}(h:PT X e t){c:St}{H:Hp}{Q:Bool->Hp->Prop}(q:t c H Q):xr X e c H Q:=⟨λd s I=>h d s c H Q I q⟩
theorem eQ{t:TS}(h:PS X b t){σ:St}{H:Hp}{D:jK}(q:t D σ H):wpS X b D σ H:=⟨λc s I=>h c s σ H D I q⟩
theorem sd{t:TS}(h:jU X a t){c:St}{H:Hp}{D:jK}(q:t D c H):nR X a D c H:=⟨λd s I=>h d s c H D I q⟩
end
def DE(X:Cx)(E:XK)(e:ay)(d:af->R PV):Prop :=
 ∀F S b a H Q,aJ X.K F S b a H->Ok X.K E a F S H (d b) (λpv _ f _ c=>∀v,aO X.K c f pv v->Q v c)->gd X e a H Q
def DN(X:Cx)(E:XK)(e:ay)(d:af->R PO):Prop :=
 ∀F S g c H Q,aJ X.K F S g c H->Ok X.K E c F S H (d g) (λj _ i l f=>∀a h,d4 X.K f i j a h->(∀b,h b->H b=ae/\¬i b/\¬U l b/\∃o,f b=aa o/\dr o)->Q (.ref a) f)->gd X e c H Q
def DT(X:Cx)(E:XK)(e:ay)(d:af->R Bool):Prop :=
 ∀F S ε a H Q,aJ X.K F S ε a H->Ok X.K E a F S H (d ε) (λb _ _ _ c=>Q b c)->xr X e a H Q
end Pu
namespace Pu
open L2
section
variable{X:Cx}{E:XK}{a b c:ay}{m db A:af->R PV}{pos:Pos}
def dC(pv:PV):af->R PV:=λε=>.ok pv ε
theorem aW{i j pos}:DE X E (.Constant (.int i) j pos) (dC (.int i)):=λF S f d H Q r h=>bX Oa (h F S H r (a8.refl ..) _ rfl)
theorem mB{i j pos}:DE X E (.Constant (.bool i) j pos) (dC (.bl i)):=λF S f d H Q r h=>bX Lm (h F S H r (a8.refl ..) _ rfl)
theorem AO{j pos}:DE X E (.Constant .none j pos) (dC .non):=λF S f d H Q r h=>bX LG (h F S H r (a8.refl ..) _ rfl)
theorem kA(l:Tx){x:Str}{j pos}(d:x=tS l:=by decide +kernel)(f:l.length<=bQ:=by decide):DE X E (.Constant (.str x) j pos) (dC (.str l)):=λF S i g H Q r h=>bX Kk (h F S H r (a8.refl ..) _ (by rw[d];exact⟨rfl,f⟩))
def dV(i:Nat):af->R PV:=λε=>match ε[i]? with
 |some (.val pv)=>.ok pv ε
 |_=>.no
theorem ao(i:Nat){x:Str}{pos:Pos}(g:X.N[i]?=aa x:=by rfl)(d:dw X.env.scope x:=by eq_refl)(f:(x==("__debug__":Str))=aj:=by decide)(n:(x==("__classdict__":Str))=aj:=by decide):DE X E (.Name x pos) (dV i):=λF S q o H Q r h=>by
 unfold dV at h;split at h
 .rename_i p e;obtain⟨v,l,j⟩:=r.val i p e;exact bX (eu g d f n) ⟨v,l,h F S H r (a8.refl ..) v j⟩
 .exact h.elim
theorem zr{x:Str}{i:Int}{pos:Pos}(h:∃t,X.mg x=aa (.int i t))(d:Gl X x:=by rfl)(f:(x==("__debug__":Str))=aj:=by decide):DE X E (.Name x pos) (dC (.int i)):=λF S j g H Q r q=>by obtain⟨t,e⟩:=h;exact bX (De (v:=.int i) d e ⟨t,rfl⟩ f) (q F S H r (a8.refl ..) _ rfl)
theorem zv{x:Str}{l:Tx}{pos:Pos}(h:∃t,X.mg x=aa (.str (tS l) t))(f:Gl X x:=by rfl)(d:l.length<=bQ:=by decide)(g:(x==("__debug__":Str))=aj:=by decide):DE X E (.Name x pos) (dC (.str l)):=λF S j i H Q r q=>by obtain⟨t,e⟩:=h;exact bX (De (v:=tV l) f e ⟨t,rfl⟩ g) (q F S H r (a8.refl ..) _ ⟨rfl,d⟩)
def aJ.frz{K:ar}{F:ac->Prop}{S:Nat->ac->Prop}{n:af}{s:St}{H:Hp}{i:Nat}{p:List PV}(r:aJ K F S n s H)(e:n[i]?=aa (.own (.lst p))):∃a y J,aJ K y J (n.set i (.val (.lst p))) s H/\a8 (U S) (U J) F y H H/\s[i]?=aa (aa (.ref a))/\aO K H y (.lst p) (.ref a):=by
 obtain⟨a,I,⟨L,D,M⟩,G⟩:=r.own i _ e;have C:i<n.length:=(cI.mp e).1;have sub:∀b,F b->F b\/b=a:=λb h=>.inl h;have mono:∀x v,aO K H F x v->aO K H (λb=>F b\/b=a) x v:=aO.mono sub (λ_ _ _ q=>q) (λ_ _ q _=>q);have d:∀x v,aY K H F x v->aY K H (λb=>F b\/b=a) x v:=aY.mono sub (λ_ _ _ q=>q) (λ_ _ q _=>q);have B:aO K H (λb=>F b\/b=a) (.lst p) (.ref a):=⟨a,L,rfl,.inl D,.inr rfl,d _ _ M⟩
 refine⟨a,λb=>F b\/b=a,λj b=>S j b/\j≠i,⟨by rw[hZ];exact r.len,λb h=>?_,λj pv q=>?_,λj w q=>?_,λj b h=>?_,λj k b O N=>r.dist j k b O.1 N.1⟩,?_,I,B⟩
 .rcases h with h|rfl
  .exact r.ex b h
  .exact⟨_,D⟩
 .by_cases f:i=j
  .subst f;rw[cU C]at q;cases q;exact⟨_,I,B⟩
  .rw[cA f]at q;obtain⟨v,l,g⟩:=r.val j pv q;exact⟨v,l,mono _ _ g⟩
 .by_cases f:i=j
  .subst f;rw[cU C]at q;cases q
  .rw[cA f]at q;obtain⟨v,l,g⟩:=r.own j w q;refine⟨v,l,?_⟩;have u:=g.mono (H':=H) mono d λ_ _ _ z=>z;have P:(λb=>S j b/\j≠i)=S j:=by funext b;simp[d_ f]
   rw[P];exact u
 .obtain⟨⟨w,l⟩,g,u⟩:=r.foot j b h.1;refine⟨⟨w,by rw[cA (d_ h.2)];exact l⟩,λz=>?_,u⟩;rcases z with z|rfl
  .exact g z
  .exact h.2 (r.dist j i b h.1 ((G b).mpr rfl))
 .refine⟨λ_ h=>.inl h,λb o h _=>h,λb o h=>⟨o,h⟩,λb h=>?_,λb ⟨j,h⟩=>.inl ⟨j,h.1⟩⟩;rcases h with h|rfl
  .exact .inl h
  .exact .inr (.inr ⟨i,(G b).mpr rfl⟩)
def dM(i:Nat):af->R PV:=λε=>match ε[i]? with
 |some (.own (.lst d))=>.ok (.lst d) (ε.set i (.val (.lst d)))
 |_=>.no
theorem Op(i:Nat){x:Str}{pos:Pos}(l:X.N[i]?=aa x:=by rfl)(f:dw X.env.scope x:=by eq_refl)(j:(x==("__debug__":Str))=aj:=by decide)(q:(x==("__classdict__":Str))=aj:=by decide):DE X E (.Name x pos) (dM i):=λF S w v H Q r h=>by
 unfold dM at h;split at h
 .rename_i p e;obtain⟨a,u,s,d,g,o,n⟩:=r.frz e;exact bX (eu l f j q) ⟨_,o,h u s H d g _ n⟩
 .exact h.elim
def P2(K:ar)(r:R2)(f:PV->PV->Option PV):Prop:=∀(F:ac->Prop) (H:Hp) (x y:PV) (v u:V) (Q:VK) (pv:PV),aO K H F x v->aO K H F y u->f x y=aa pv->(∀w g d,Al F g H d->aO K d g pv w->Q w d)->r v u H Q
def d2(f:PV->PV->Option PV)(m db:af->R PV):af->R PV:=λε=>(m ε).bind λx ε1=>(db ε1).bind λy ε2=>aB (f x y) ε2
theorem v6{r:R2}{f:PV->PV->Option PV}(G:P2 X.K r f)(J:DE X E a m)(I:DE X E b db){F:ac->Prop}{S:Nat->ac->Prop}{l:af}{d:St}{H:Hp}{Q:VK}(C:aJ X.K F S l d H)(h:Ok X.K E d F S H (d2 f m db l) (λpv _ q _ i=>∀v,aO X.K i q pv v->Q v i)):gd X a d H λx p=>gd X b d p λy o=>r x y o Q:=by
 refine J F S l d H _ C ((Ok.bind h).imp λx j P N p r1 T K v z=>?_);refine I P N j d p _ r1 ((Ok.bind K).imp λy s O M o D L g u B=>?_);cases e:f x y with
 |none=>rw[e]at g;exact g.elim
 |some pv=>rw[e]at g;exact G O o x y v u Q pv (z.grow L r1.fit) B e λw q i al n=>g q M i (D.al al) al.grow w n
theorem cy{d:Operator}{r:R2}{f:PV->PV->Option PV}(j:b8 X (i_ d) r)(i:P2 X.K r f)(n:DE X E a m)(l:DE X E b db):DE X E (.BinOp a d b pos) (d2 f m db):=λF S p o H Q g h=>bX (FA j bz bz) (v6 i n l g h)
theorem oa{d:CmpOp}{r:R2}{f:PV->PV->Option PV}(j:b8 X (eh d) r)(i:P2 X.K r f)(o:DE X E a m)(n:DE X E b db)(l:oh d b=aj):DE X E (.Compare a [d] [b] pos) (d2 f m db):=λF S q p H Q g h=>bX (Mz j bz bz l) (v6 i o n g h)
def gw:PV->Option Bool
 |.bl b=>aa b
 |_=>ae
def dB(d:af->R PV):af->R Bool:=λε=>(d ε).bind λx ε1=>aB (gw x) ε1
theorem Ee{K:ar}{H:Hp}{F:ac->Prop}{x:PV}{v:V}{k:Bool}(h:aO K H F x v)(e:gw x=aa k):v=.bl k:=by
 cases x <;> simp[gw]at e;subst e;exact h
theorem qW{F:ac->Prop}{S:Nat->ac->Prop}{j:af}{i:St}{H:Hp}{Q:Bool->Hp->Prop}{d:af->R PV}(h:Ok X.K E i F S H (dB d j) (λk _ _ _ g=>Q k g)):Ok X.K E i F S H (d j) (λpv _ r _ g=>∀v,aO X.K g r pv v->∃k,v=.bl k/\Q k g):=by
 refine(Ok.bind h).imp λx l q o p r1 s f v n=>?_;cases e:gw x with
 |none=>rw[e]at f;exact f.elim
 |some k=>rw[e]at f;exact⟨k,Ee n e,f q o p r1 (a8.refl ..)⟩
theorem d3{d:CmpOp}{r:R2}{f:PV->PV->Option PV}(j:b8 X (eh d) r)(i:P2 X.K r f)(o:DE X E a m)(n:DE X E b db)(l:oh d b=aj):DT X E (.Compare a [d] [b] pos) (dB (d2 f m db)):=λF S s q H Q g h=>sx (IY j bz bz l) (v6 (Q:=λx p=>∃k,x=.bl k/\Q k p) i o n g (qW h))
theorem mU{e:ay}{d:af->R PV}(n:DE X E e d)(l:∀f,lP e X.env f=(do let v <-f;standAt e.pos;holding [v] (truthy v)):=by intro _;rfl):DT X E e (dB d):=λF S i g H Q j h=>sx (MJ bz l) (n F S i g H _ j (qW h))
def rM(f g:PV->PV->Option PV)(m db A:af->R PV):af->R PV:=λj=>(m j).bind λx i=>(db i).bind λy d=>(aB ((f x y).bind gw) d).bind λk d=>
 match k with
 |true=>(A d).bind λz h=>aB (g y z) h
 |false=>.ok (.bl aj) d
theorem D6{r N:R2}{f g:PV->PV->Option PV}(hp:P2 X.K r f)(j8:P2 X.K N g)(ha:DE X E a m)(hb:DE X E b db)(hc:DE X E c A){F:ac->Prop}{S:Nat->ac->Prop}{B:af}{j:St}{H:Hp}{Q:VK}(rl:aJ X.K F S B j H)(h:Ok X.K E j F S H (rM f g m db A B) (λpv _ l _ i=>∀v,aO X.K i l pv v->Q v i)):xV r N (gd X a) (gd X b) (gd X c) j H Q:=by
 refine ha F S B j H _ rl ((Ok.bind h).imp λx s F1 S1 H1 r1 g1 h1 v Z=>?_);refine hb F1 S1 s j H1 _ r1 ((Ok.bind h1).imp λy n P L O r2 g2 d u M=>?_);cases e:f x y with
 |none=>rw[e]at d;exact d.elim
 |some pv=>
  rw[e]at d;refine hp P O x y v u _ pv (Z.grow g2 r1.fit) M e λw l i al D=>?_;cases K:gw pv with
  |none=>rw[gu,K]at d;exact d.elim
  |some k=>
   rw[gu,K]at d;refine⟨k,Ee D K,?_⟩;have I:=r2.al al;cases k with
   |false=>exact mj (Ok.from d al.grow l L i I (a8.refl ..) _ rfl)
   |true=>
    have h3:Ok X.K E j P L O ((A n).bind λz q=>aB (g y z) q) (λpv _ l _ i=>∀v,aO X.K i l pv v->Q v i):=d;refine mF (hc l L n j i _ I ((Ok.bind (Ok.from h3 al.grow)).imp λz T F4 S4 H4 r4 g4 p Y G=>?_));cases J:g y z with
    |none=>rw[J]at p;exact p.elim
    |some pz=>rw[J]at p;exact j8 F4 H4 y z u Y Q pz ((al.rep M).grow g4 I.fit) G J λW F5 H5 o C=>p F5 S4 H5 (r4.al o) o.grow W C
theorem Oc{i d:CmpOp}{r j:R2}{f g:PV->PV->Option PV}(q:b8 X (eh i) r)(o:b8 X (eh d) j)(p:P2 X.K r f)(n:P2 X.K j g)(w:DE X E a m)(v:DE X E b db)(u:DE X E c A)(s:lastMarks [i,d] [b,c]=aj:=by with_unfolding_all rfl):DE X E (.Compare a [i,d] [b,c] pos) (rM f g m db A):=λF S y x H Q l h=>bX (Ly q o bz bz bz s) (D6 p n w v u l h)
theorem Hh{i d:CmpOp}{r j:R2}{f g:PV->PV->Option PV}(q:b8 X (eh i) r)(o:b8 X (eh d) j)(p:P2 X.K r f)(n:P2 X.K j g)(w:DE X E a m)(v:DE X E b db)(u:DE X E c A)(s:lastMarks [i,d] [b,c]=aj:=by with_unfolding_all rfl):DT X E (.Compare a [i,d] [b,c] pos) (dB (rM f g m db A)):=λF S B z H Q l h=>sx (L3 q o bz bz bz s) (D6 (Q:=λx y=>∃k,x=.bl k/\Q k y) p n w v u l (qW h))
variable{n B:af->R Bool}{rest:List ay}
def DW(X:Cx)(E:XK)(e:ay)(d:af->R Bool):Prop:=∀F S g f H Q,aJ X.K F S g f H->Ok X.K E f F S H (d g) (λb _ _ _ i=>Q b i)->∀(h:Sem ai) ag s,Inv X ag f H s->aw (aA X.prog X.w) X.A (lP e X.env h) (TP X ag f Q) X.xe s
def Ih(X:Cx)(e:ay):TT:=λd H Q=>∀(f:Sem ai) ag s,Inv X ag d H s->aw (aA X.prog X.w) X.A (lP e X.env f) (TP X ag d Q) X.xe s
theorem D9{e:ay}:PW X e (Ih X e):=λd f s _ _ _ I h=>h d f s I
theorem DW.dt{e:ay}{d:af->R Bool}(h:DW X E e d):DT X E e d:=λF S ε f H Q g q=>⟨λi s I=>h F S ε f H Q g q _ i s I⟩
def gT(n B:af->R Bool):af->R Bool:=λε=>(n ε).bind λk d=>match k with
 |true=>B d
 |false=>.ok aj d
def kT(n B:af->R Bool):af->R Bool:=λf=>(n f).bind λk d=>match k with
 |true=>.ok ah d
 |false=>B d
def iX(n:af->R Bool):af->R Bool:=λε=>(n ε).bind λk d=>.ok (!k) d
theorem AQ(h:DT X E a n):DW X E (.BoolOp .And [a] pos) n:=λF S f d H Q g q i j s I=>Ll lu i j s d H Q I (h F S f d H Q g q)
theorem xH(h:DT X E a n):DW X E (.BoolOp .Or [a] pos) n:=λF S f d H Q g q i j s I=>JT lu i j s d H Q I (h F S f d H Q g q)
theorem Ce(r:DT X E a n)(p:DW X E (.BoolOp .And (b::rest) pos) B):DW X E (.BoolOp .And (a::b::rest) pos) (gT n B):=λF S l d H Q o q u v s I=>by
 refine JF lu D9 u v s d H Q I (r F S l d H _ o ((Ok.bind q).imp λk f j h i r1 w g=>?_));cases k with
 |true=>exact mF (p j h f d i Q r1 g)
 |false=>exact mj (g j h i r1 (a8.refl ..))
theorem uP(r:DT X E a n)(p:DW X E (.BoolOp .Or (b::rest) pos) B):DW X E (.BoolOp .Or (a::b::rest) pos) (kT n B):=λF S l d H Q o q u v s I=>by
 refine Lx lu D9 u v s d H Q I (r F S l d H _ o ((Ok.bind q).imp λk f j h i r1 w g=>?_));cases k with
 |true=>exact mF (g j h i r1 (a8.refl ..))
 |false=>exact mj (p j h f d i Q r1 g)
theorem nJ(i:DT X E a n):DT X E (.UnaryOp .Not a pos) (iX n):=λF S g d H Q h q=>sx (HG lu) (i F S g d H _ h ((Ok.bind q).imp λk f p l o r1 r j=>j p l o r1 (a8.refl ..)))
def kY(m db:af->R PV):af->R PV:=λf=>(dB m f).bind λk d=>match k with
 |true=>db d
 |false=>.ok (.bl aj) d
def Pp(m db:af->R PV):af->R PV:=λf=>(dB m f).bind λk d=>match k with
 |true=>.ok (.bl ah) d
 |false=>db d
def D7(m:af->R PV):af->R PV:=λf=>(dB m f).bind λk d=>.ok (.bl (!k)) d
theorem D8{d:af->R PV}{q:Type}{D:q->af->(ac->Prop)->(Nat->ac->Prop)->Hp->Prop}{k:Bool->af->R q}{F:ac->Prop}{S:Nat->ac->Prop}{p:af}{o:St}{H:Hp}{P:Bool->Hp->Prop}(h:Ok X.K E o F S H ((dB d p).bind k) D) (f:∀c g l j i,aJ X.K l j g o i->a8 (U S) (U j) F l H i->Ok X.K E o l j i (k c g) D->P c i):Ok X.K E o F S H (d p) (λpv _ x _ r=>∀v,aO X.K r x pv v->∃c,v=.bl c/\P c r):=by have s:=(Ok.bind h).imp (C':=λc g l j i=>P c i) λc g l j i r1 w u=>f c g l j i r1 w u;exact qW s
theorem qU{op}{d:af->R PV}(h:DE X E a d):DE X E (.BoolOp op [a] pos) d:=λF S g f H Q i q=>bX (IN bz) (h F S g f H Q i q)
theorem pF(r:DE X E a m)(p:DE X E (.BoolOp .And (b::rest) pos) db):DE X E (.BoolOp .And (a::b::rest) pos) (kY m db):=λF S l f H Q o q=>by
 refine bX (FP bz bz) (r F S l f H _ o (D8 q λk d j h i r1 s g=>?_));cases k with
 |true=>exact mF (p j h d f i Q r1 g)
 |false=>exact mj (g j h i r1 (a8.refl ..) _ rfl)
theorem MC(i:DE X E a m):DE X E (.UnaryOp .Not a pos) (D7 m):=λF S g d H Q h q=>bX (M8 bz) (i F S g d H _ h (D8 q λk f p l o r1 r j=>j p l o r1 (a8.refl ..) _ rfl))
def bA{d:Type}(t:af->R Bool)(m db:af->R d):af->R d:=λε=>(t ε).bind λk ε1=>match k with
 |true=>m ε1
 |false=>db ε1
theorem Le(p:DT X E c n)(s:DE X E a m)(r:DE X E b db):DE X E (.IfExp c a b pos) (bA n m db):=λF S l f H Q o q=>by
 refine bX (JK lu bz bz) (p F S l f H _ o ((Ok.bind q).imp λk d j h i r1 u g=>?_));cases k with
 |true=>exact mF (s j h d f i Q r1 g)
 |false=>exact mj (r j h d f i Q r1 g)
def P1(K:ar)(r:V->Hp->VK->Prop)(f:PV->Option PV):Prop:=∀(F:ac->Prop) (H:Hp) (x:PV) (v:V) (Q:VK) (pv:PV),aO K H F x v->f x=aa pv->(∀w g d,Al F g H d->aO K d g pv w->Q w d)->r v H Q
def d1(f:PV->Option PV)(m:af->R PV):af->R PV:=λε=>(m ε).bind λx ε1=>aB (f x) ε1
theorem LK{r:V->Hp->VK->Prop}{f:PV->Option PV}(y:P1 X.K r f)(z:DE X E a m){F:ac->Prop}{S:Nat->ac->Prop}{j:af}{d:St}{H:Hp}{Q:VK}(u:aJ X.K F S j d H)(h:Ok X.K E d F S H (d1 f m j) (λpv _ p _ i=>∀v,aO X.K i p pv v->Q v i)):gd X a d H λx o=>r x o Q:=by
 refine z F S j d H _ u ((Ok.bind h).imp λx q D C o r1 G g v s=>?_);cases e:f x with
 |none=>rw[e]at g;exact g.elim
 |some pv=>rw[e]at g;exact y D o x v Q pv s e λw p i al l=>g p C i (r1.al al) al.grow w l
theorem CT{d:UnaryOp}{r:V->Hp->VK->Prop}{f:PV->Option PV}(j:wj X (unaryOp d) r)(i:P1 X.K r f)(l:DE X E a m):DE X E (.UnaryOp d a pos) (d1 f m):=λF S p o H Q g h=>bX (MU j bz) (LK i l g h)
end
def nB(X:Cx)(d:List ay):TA:=λb H Q=>Bx (∀a c s,Inv X c b H s->aw (aA X.prog X.w) X.A (spliced (cm a (aP d X.env))) (AP X c b Q) X.xe s)
def DA(X:Cx)(E:XK)(h:List ay)(d:af->R (List PV)):Prop :=
 ∀F S c a H Q,aJ X.K F S c a H->Ok X.K E a F S H (d c) (λb _ i _ g=>∀f,aY X.K g i b f->Q f g)->nB X h a H Q
section
variable{X:Cx}{E:XK}{a b c e:ay}{es:List ay}{B db D d:af->R PV}{j:af->R (List PV)}{pos:Pos}
theorem gG{es:List ay}:PA X es (nB X es):=λpos f s _ _ _ I h=>h.run pos f s I
theorem mq{t:TA}(h:PA X es t){f:St}{H:Hp}{Q:List V->Hp->Prop}(q:t f H Q):nB X es f H Q:=⟨λpos g s I=>h pos g s f H Q I q⟩
def ax:af->R (List PV):=λε=>.ok [] ε
def aq(d:af->R PV)(j:af->R (List PV)):af->R (List PV):=λε=>(d ε).bind λx ε1=>(j ε1).bind λxs ε2=>.ok (x::xs) ε2
theorem aZ:DA X E [] ax:=λF S i g H Q f h=>mq i6 (h F S H f (a8.refl ..) _ rfl)
theorem Kj(u:DE X E e d)(s:DA X E es j)(r:aP (e::es) X.env=(aj,aL e X.env)::aP es X.env:=by rfl):DA X E (e::es) (aq d j):=λF S l g H Q o h=>by refine mq (ip bz gG r) (u F S l g H _ o ((Ok.bind h).imp λx f K C I r1 M y v n=>?_));refine s K C f g I _ r1 ((Ok.bind y).imp λL i J A G p z w m q=>?_);exact w J A G p (a8.refl ..) _ ⟨v,m,rfl,n.grow z r1.fit,q⟩
theorem aJ.more{K:ar}{F N:ac->Prop}{S:Nat->ac->Prop}{n:af}{m:St}{H:Hp}(r:aJ K F S n m H)(p:∀b,N b->¬U S b/\∃o,H b=aa o):aJ K (λb=>F b\/N b) S n m H:=by
 have mono:∀x v,aO K H F x v->aO K H (λb=>F b\/N b) x v:=aO.mono (λ_ h=>.inl h) (λ_ _ _ q=>q) (λ_ _ q _=>q);have f:∀x v,aY K H F x v->aY K H (λb=>F b\/N b) x v:=aY.mono (λ_ h=>.inl h) (λ_ _ _ q=>q) (λ_ _ q _=>q);refine⟨r.len,λb h=>h.elim (r.ex b) λz=>(p b z).2,λi pv e=>?_,λi s e=>?_,λi b h=>?_,r.dist⟩
 .obtain⟨v,l,g⟩:=r.val i pv e;exact⟨v,l,mono _ _ g⟩
 .obtain⟨v,l,g⟩:=r.own i s e;exact⟨v,l,g.mono mono f λ_ _ _ z=>z⟩
 .obtain⟨l,g,u⟩:=r.foot i b h;exact⟨l,λz=>z.elim g λw=>(p b w).1 ⟨i,h⟩,u⟩
def k9:PO->Option PV
 |.lst f=>aa (.lst f)
 |_=>ae
def dF(d:af->R PO):af->R PV:=λε=>(d ε).bind λf ε1=>aB (k9 f) ε1
theorem DN.de{d:af->R PO}(h:DN X E e d):DE X E e (dF d):=λF S ε r H Q v q=>by
 unfold dF at q;refine h F S ε r H Q v ?_;cases i:d ε with
 |no=>rw[i]at q;exact q.elim
 |er c s=>rw[i]at q;exact q
 |ok x ε1=>
  rw[i]at q;intro N l m r1 g a p A n;cases x with
  |dK f=>exact q.elim
  |lls M=>exact q.elim
  |dL M=>exact q.elim
  |ins C fs=>exact q.elim
  |dT f=>exact q.elim
  |dN f=>exact q.elim
  |inl C fs y xs=>exact q.elim
  |lst xs=>
   have K:∀b,p b->¬U l b/\∃o,m b=aa o:=λb z=>let ⟨_,_,x3,o,x4,_⟩:=n b z;⟨x3,o,x4⟩
   obtain⟨⟨u,I,G⟩,J⟩:=A;have L:a8 (U S) (U l) F (λb=>N b\/p b) H m:=⟨λb z=>.inl (g.fro b z),g.keep,g.there,λb z=>z.elim (g.fnew b) λw=>.inr (.inl (n b w).1),g.onew⟩
   exact q _ l m (r1.more K) L _ ⟨a,u,rfl,.inl I,.inr ((J a).mpr rfl),aY.mono (λ_ z=>.inl z) (λ_ _ _ z=>z) (λ_ _ z _=>z) _ _ G⟩
def eR(f:List PV):Option PV:=if f.length<=1000 then aa (.tup f)else ae
def dz(xs:List PV):Option PO:=if xs.length<=1000 then aa (.lst xs)else ae
def dL{g:Type}(f:List PV->Option g)(j:af->R (List PV)):af->R g:=λε=>(j ε).bind λxs ε1=>aB (f xs) ε1
def PL(K:ar)(r:List V->Hp->VK->Prop)(f:List PV->Option PV):Prop:=∀(F:ac->Prop) (H:Hp) (h:List PV) (i:List V) (Q:VK) (pv:PV),aY K H F h i->f h=aa pv->(∀w l g,Al F l H g->aO K g l pv w->Q w g)->r i H Q
def k_(K:ar)(r:List V->Hp->VK->Prop)(f:List PV->Option PO):Prop:=∀(F:ac->Prop) (H:Hp) (i:List PV) (l:List V) (Q:VK) (m:PO),(∀a,F a->∃o,H a=aa o)->aY K H F i l->f i=aa m ->
 (∀a h g n,Al F h H g->d4 K g h m a n->(∀b,n b->H b=ae/\¬h b/\∃o,g b=aa o/\dr o)->Q (.ref a) g)->r l H Q
theorem yW{r:List V->Hp->VK->Prop}{f:List PV->Option PV}(z:PL X.K r f)(A:DA X E es j){F:ac->Prop}{S:Nat->ac->Prop}{n:af}{g:St}{H:Hp}{Q:VK}(x:aJ X.K F S n g H)(h:Ok X.K E g F S H (dL f j n) (λpv _ q _ m=>∀v,aO X.K m q pv v->Q v m)):nB X es g H λi p=>r i p Q:=by
 refine A F S n g H _ x ((Ok.bind h).imp λi s G C p r1 I l u y=>?_);cases e:f i with
 |none=>rw[e]at l;exact l.elim
 |some pv=>rw[e]at l;exact z G p i u Q pv y e λw q m al o=>l q C m (r1.al al) al.grow w o
theorem mi{O i F l:ac->Prop}{H f:Hp}(g:a8 O i F l H f){b:ac}(h:f b=ae):H b=ae:=by
 cases q:H b with
 |none=>rfl
 |some o=>obtain⟨o',e⟩:=g.there b o q;rw[h]at e;cases e
theorem vn{r:List V->Hp->VK->Prop}{f:List PV->Option PO}(N:k_ X.K r f)(O:DA X E es j){F:ac->Prop}{S:Nat->ac->Prop}{s:af}{l:St}{H:Hp}{Q:VK}(K:aJ X.K F S s l H)(h:Ok X.K E l F S H (dL f j s) (λu _ q Y g=>∀a p,d4 X.K g q u a p->(∀b,p b->H b=ae/\¬q b/\¬U Y b/\∃o,g b=aa o/\dr o)->Q (.ref a) g)):nB X es l H λm v=>r m v Q:=by
 refine O F S s l H _ K ((Ok.bind h).imp λm A Z W v r1 P n J M=>?_);cases e:f m with
 |none=>rw[e]at n;exact n.elim
 |some u=>
  rw[e]at n;refine N Z v m J Q u r1.ex M e λa q g p al L T=>n q W g (r1.al al) al.grow a p L λb z=>?_;obtain⟨x,I,o,G,C⟩:=T b z;refine⟨mi P x,I,λ⟨i,w⟩=>?_,o,G,C⟩;obtain⟨_,_,o',y,_⟩:=r1.foot i b w;rw[x]at y;cases y
theorem yw{n:Nat}(h:n<=1000):n<=a6:=kF (y6 h)
theorem Jj{K:ar}:PL K (λf H Q=>f.length<=a6/\∀p,H p=ae->Q (.ref p) (upd H p (.tup f))) eR:=λF H f i Q pv g e q=>by
 unfold eR at e;split at e
 .cases e;refine⟨by rw[g.len];exact yw (by assumption),λp h=>q _ F _ (Al.new0 h) ⟨p,i,rfl,bT,(Al.new0 h).reps g⟩⟩
 .cases e
theorem u5{K:ar}{F:ac->Prop}{H:Hp}{l:ac}{g:List PV}{f:List V}(i:H l=ae)(h:aY K H F g f):d4 K (upd H l (.lst f)) F (.lst g) l (λb=>b=l):=⟨⟨f,bT,(Al.new0 i).reps h⟩,λb=>oz⟩
theorem vk{F:ac->Prop}{H:Hp}{l:ac}{o:HO}(g:H l=ae)(i:∀a,F a->∃o,H a=aa o)(h:dr o):∀b,b=l->H b=ae/\¬F b/\∃f,(upd H l o) b=aa f/\dr f:=λb z=>by
 subst z;exact⟨g,(λw=>by obtain⟨o,q⟩:=i b w;rw[g]at q;cases q),o,bT,h⟩
theorem Nt{K:ar}:k_ K (λf H Q=>f.length<=a6/\∀p,H p=ae->Q (.ref p) (upd H p (.lst f))) dz:=λF H f l Q m i h e q=>by
 unfold dz at e;split at e
 .cases e;exact⟨by rw[h.len];exact yw (by assumption),λp g=>q p F _ _ (Al.new0 g) (u5 g h) (vk g i trivial)⟩
 .cases e
theorem oZ{x1}(h:DA X E es j):DE X E (.Tuple es x1 pos) (dL eR j):=λF S i g H Q f q=>bX (Hx gG) (yW Jj h f q)
theorem o0(h:DA X E es j):DN X E (.List es pos) (dL dz j):=λF S i g H Q f q=>bX (Ef gG) (vn Nt h f q)
theorem n9(h:DA X E es j):DE X E (.List es pos) (dF (dL dz j)):=(o0 h).de
variable{x:Str}{p:Pos}{m T:String}{r:List V->Hp->VK->Prop}{f:List PV->Option PV}{A:List PV->Option PO}
theorem cz(u:ff X (.builtin m) r)(i:PL X.K r f)(n:X.mg x=ae)(h:dQ x=aa (.builtin m))(v:DA X E (e::es) j)(o:Gl X x:=by rfl)(l:x≠"__name__":=by decide)(w:(x==("__debug__":Str))=aj:=by decide)(s:aP (e::es) X.env=(aj,aL e X.env)::aP es X.env:=by rfl) (y:(cm pos (aP es X.env)).any (·.1)=aj:=by rfl):DE X E (.Call (.Name x p) (e::es) [] pos) (dL f j):=λF S C z H Q g q=>bX (sA u o n h gG l w s y) (yW i v g q)
theorem xO(u:ff X (.builtin m) r)(i:k_ X.K r A)(n:X.mg x=ae)(h:dQ x=aa (.builtin m))(v:DA X E (e::es) j)(o:Gl X x:=by rfl)(l:x≠"__name__":=by decide)(w:(x==("__debug__":Str))=aj:=by decide)(s:aP (e::es) X.env=(aj,aL e X.env)::aP es X.env:=by rfl) (y:(cm pos (aP es X.env)).any (·.1)=aj:=by rfl):DN X E (.Call (.Name x p) (e::es) [] pos) (dL A j):=λF S C z H Q g q=>bX (sA u o n h gG l w s y) (vn i v g q)
theorem sF(u:ff X (.type T) r)(i:PL X.K r f)(n:X.mg x=ae)(h:dQ x=aa (.type T))(v:DA X E (e::es) j)(o:Gl X x:=by rfl)(l:x≠"__name__":=by decide)(w:(x==("__debug__":Str))=aj:=by decide)(s:aP (e::es) X.env=(aj,aL e X.env)::aP es X.env:=by rfl) (y:(cm pos (aP es X.env)).any (·.1)=aj:=by rfl):DE X E (.Call (.Name x p) (e::es) [] pos) (dL f j):=λF S C z H Q g q=>bX (si u o n h gG l w s y) (yW i v g q)
theorem Cs(u:ff X (.type T) r)(i:k_ X.K r A)(n:X.mg x=ae)(h:dQ x=aa (.type T))(v:DA X E (e::es) j)(o:Gl X x:=by rfl)(l:x≠"__name__":=by decide)(w:(x==("__debug__":Str))=aj:=by decide)(s:aP (e::es) X.env=(aj,aL e X.env)::aP es X.env:=by rfl) (y:(cm pos (aP es X.env)).any (·.1)=aj:=by rfl):DN X E (.Call (.Name x p) (e::es) [] pos) (dL A j):=λF S C z H Q g q=>bX (si u o n h gG l w s y) (vn i v g q)
theorem gx{r:R2}{f:PV->PV->Option PV}(l:ke X r)(n:P2 X.K r f)(q:DE X E a B)(o:DE X E b db)(i:yM b:=by exact λ_ _=>rfl):DE X E (.Subscript a b pos) (d2 f B db):=λF S u s H Q g h=>bX (Cm l bz bz i) (v6 n q o g h)
def yT(X:Cx)(e:Option ay):TO:=λg H Q=>Bx (∀h s,Inv X h g H s->aw (aA X.prog X.w) X.A (evalPart e X.env) (λu l=>∃o i,Inv X h g i l/\lU u o/\Q o i) X.xe s)
theorem AX{o:Option ay}:L2.PO X o (yT X o):=λg s _ _ _ I h=>h.run g s I
theorem Er{o:Option ay}{t:TO}(h:L2.PO X o t){g:St}{H:Hp}{Q:Option Int->Hp->Prop}(q:t g H Q):yT X o g H Q:=⟨λi s I=>h i s g H Q I q⟩
def DO(X:Cx)(E:XK)(e:Option ay)(d:af->R (Option Int)):Prop:=∀F S h g H Q,aJ X.K F S h g H->Ok X.K E g F S H (d h) (λo _ _ _ i=>Q o i)->yT X e g H Q
def eK:af->R (Option Int):=λε=>.ok ae ε
def M4:PV->Option Int
 |.int i=>aa i
 |_=>ae
def cG(d:af->R PV):af->R (Option Int):=λε=>(d ε).bind λx g=>aB ((M4 x).map aa) g
theorem ph:DO X E ae eK:=λF S l i H Q g h=>Er Jp (h F S H g (a8.refl ..))
theorem kg(u:DE X E e d):DO X E (aa e) (cG d):=λF S o l H Q s h=>by
 refine Er (Ld bz) (u F S o l H _ s ((Ok.bind h).imp λx n z w y r1 C g v q=>?_));cases x <;> first|exact(show False from g).elim|skip
 rename_i i;exact⟨i,q,g z w y r1 (a8.refl ..)⟩
def c5{n:Type}(f:PV->Option Int->Option Int->Option n)(d:af->R PV)(q o:af->R (Option Int)):af->R n:=λε=>(d ε).bind λx i=>(q i).bind λl h=>(o h).bind λu g=>aB (f x l u) g
def CL(K:ar)(r:V->Option Int->Option Int->Hp->VK->Prop)(f:PV->Option Int->Option Int->Option PV):Prop:=∀(F:ac->Prop) (H:Hp) (x:PV) (h i:Option Int) (v:V) (Q:VK) (pv:PV),aO K H F x v->f x h i=aa pv->(∀w l g,Al F l H g->aO K g l pv w->Q w g)->r v h i H Q
theorem mL{r:V->Option Int->Option Int->Hp->VK->Prop}{f:PV->Option Int->Option Int->Option PV}{z C:Option ay}{I G:af->R (Option Int)}{O:Pos}(W:lj X r)(Y:CL X.K r f)(he:DE X E e d)(Z:DO X E z I)(P:DO X E C G):DE X E (.Subscript e (.Slice z C ae O) pos) (c5 f d I G):=λF S K i H Q M h=>by
 refine bX (Kv W bz AX AX) (he F S K i H _ M ((Ok.bind h).imp λx o F1 S1 H1 r1 g1 h1 v L=>?_));refine Z F1 S1 o i H1 _ r1 ((Ok.bind h1).imp λl n F2 S2 H2 y g2 h2=>?_);refine P F2 S2 n i H2 _ y ((Ok.bind h2).imp λu J F3 S3 H3 N g3 g=>?_);cases s:f x l u with
 |none=>rw[s]at g;exact g.elim
 |some pv=>rw[s]at g;exact Y F3 H3 x l u v Q pv ((L.grow g2 r1.fit).grow g3 y.fit) s λw F' H' al q=>g F' S3 H' (N.al al) al.grow w q
end
inductive aG where
 |next|ret (s:Slot)|brk|cont
def pD(K:ar)(H:Hp)(F:ac->Prop)(s:Slot)(v:V)(c:ac->Prop):Prop:=match s with
 |.val pv=>aO K H F pv v/\∀b,¬c b
 |.own d=>∃a,v=.ref a/\d4 K H F d a c
 |.none=>False
def ig(b:List Nat)(σ a:St):Prop:=∀i∈b,a[i]?=σ[i]?
theorem ig.refl(a:List Nat)(σ:St):ig a σ σ:=λ_ _=>rfl
theorem ig.trans{c:List Nat}{σ f d:St}(a:ig c σ f)(b:ig c f d):ig c σ d:=λi h=>(b i h).trans (a i h)
theorem ig.set{a:List Nat}{σ:St}{i:Nat}{x:Option V}(h:i∉a):ig a σ (σ.set i x):=λj b=>by rw[cA (by rintro rfl;exact h b)]
def pM(f:ac->Prop)(c:Nat->ac->Prop)(d:Hp)(a:ac->Prop):Prop:=∀b,a b->¬f b/\¬U c b/\∃o,d b=aa o/\dr o
def g8(K:ar)(E:XK)(i:List Nat)(j:St)(F:ac->Prop)(S:Nat->ac->Prop)(H:Hp)(r:R aG)(D:jK):Prop:=match r with
 |.ok .next f=>∀g h a d,aJ K g h f a d->a8 (U S) (U h) F g H d->ig i j a->D.nx a d
 |.ok .brk f=>∀g h a d,aJ K g h f a d->a8 (U S) (U h) F g H d->ig i j a->D.bk a d
 |.ok .cont f=>∀g h a d,aJ K g h f a d->a8 (U S) (U h) F g H d->ig i j a->D.ct a d
 |.ok (.ret s) f=>∀v g h a d l,aJ K g h f a d->a8 (U S) (λb=>U h b\/l b) F g H d->ig i j a->pD K d g s v l->pM g h d l->D.rt v d
 |.er c f=>∀x g h a d,aJ K g h f a d->a8 (U S) (U h) F g H d->ig i j a->E c x d
 |.no=>False
def DS(X:Cx)(E:XK)(a:List Nat)(c:aV)(d:af->R aG):Prop:=∀F S b σ H D,aJ X.K F S b σ H->g8 X.K E a σ F S H (d b) D->wpS X c D σ H
def fH(X:Cx)(E:XK)(a:List Nat)(c:List aV)(d:af->R aG):Prop:=∀F S b σ H D,aJ X.K F S b σ H->g8 X.K E a σ F S H (d b) D->nR X c D σ H
section
variable{K:ar}{E:XK}{b:List Nat}{d i:St}{F m:ac->Prop}{S j:Nat->ac->Prop}{H l:Hp}{D:jK}
theorem g8.from{r:R aG}(h:g8 K E b d F S H r D)(g:a8 (U S) (U j) F m H l)(p:ig b d i):g8 K E b i m j l r D:=by
 cases r with
 |no=>exact h
 |er c y=>exact λx w q a u n g' o=>h x w q a u n (g.trans g') (p.trans o)
 |ok f y=>
  cases f with
  |next=>exact λw q a u n g' o=>h w q a u n (g.trans g') (p.trans o)
  |brk=>exact λw q a u n g' o=>h w q a u n (g.trans g') (p.trans o)
  |cont=>exact λw q a u n g' o=>h w q a u n (g.trans g') (p.trans o)
  |ret s=>exact λv w q a u z n g' o=>h v w q a u z n (g.trans g') (p.trans o)
theorem g8.bindE{o:Type}{r:R o}{k:o->af->R aG}(h:g8 K E b d F S H (r.bind k) D):Ok K E d F S H r (λa f m j l=>g8 K E b d m j l (k a f) D):=by
 cases r with
 |no=>exact h
 |er c g=>exact λx u q s p n=>h x u q d s p n (ig.refl _ _)
 |ok a g=>exact λu q s p n=>h.from n (ig.refl _ _)
end
section
variable{X:Cx}{E:XK}{pin:List Nat}{l:aV}{rest:List aV}{d d1 d2:af->R aG}{e:ay}{de:af->R PV}{pos:Pos}
def cg:af->R aG:=λε=>.ok .next ε
theorem fW:fH X E pin [] cg:=λF S c a H D b h=>sd Hf (h F S a H b (a8.refl ..) (ig.refl _ _))
def aH(d1 d2:af->R aG):af->R aG:=λε=>match d1 ε with
 |.ok .next ε1=>d2 ε1
 |r=>r
theorem bi(u:DS X E pin l d1)(q:fH X E pin rest d2):fH X E pin (l::rest) (aH d1 d2):=λF S i m H D n h=>by
 refine sd (xg o4 lG) (u F S i m H {D with nx:=nR X rest D} n ?_);unfold aH at h;split at h
 .rename_i g w;rw[w];exact λz x b y o v p=>q z x g b y D o (h.from v p)
 .rename_i r j;generalize d1 i=r1 at h j;cases r1 with
  |no=>exact h
  |er c a=>exact h
  |ok f a=>
   cases f with
   |next=>exact absurd rfl (j a)
   |brk=>exact h
   |cont=>exact h
   |ret s=>exact h
theorem be(f:DS X E pin l d1):fH X E pin [l] d1:=λF S b a H D c h=>sd (xL o4) (f F S b a H D c h)
def Ep(f:aG):af->R aG:=λa=>.ok f a
def Pw(d:af->R PV):af->R aG:=λb=>(d b).bind λ_ a=>.ok .next a
def a_(d:af->R PV):af->R aG:=λε=>(d ε).bind λx ε1=>.ok (.ret (.val x)) ε1
theorem a8.cup{O c F i:ac->Prop}{H f:Hp}(g:a8 O c F i H f):a8 O (λb=>c b\/False) F i H f:=⟨g.fro,g.keep,g.there,g.fnew,λa h=>h.elim (g.onew a) jb⟩
theorem cR(i:DE X E e de):DS X E pin (.Return (aa e) pos) (a_ de):=λF S c a H D g h=>eQ (oY bz) (i F S c a H _ g (h.bindE.imp λx b o m n r1 p j v f=>j v o m a n (λ_=>False) r1 (a8.refl ..).cup (ig.refl _ _) ⟨f,λ_ z=>z⟩ λ_ z=>z.elim))
theorem NY:DS X E pin (.Return ae pos) (Ep (.ret (.val .non))):=λF S c a H D b h=>eQ Os (h _ F S a H (λ_=>False) b (a8.refl ..).cup (ig.refl _ _) ⟨rfl,λ_ z=>z⟩ λ_ z=>z.elim)
def jH(d:af->R PO):af->R aG:=λε=>(d ε).bind λx ε1=>.ok (.ret (.own x)) ε1
theorem vf{dn:af->R PO}(s:DN X E e dn):DS X E pin (.Return (aa e) pos) (jH dn):=λF S j g H D p h=>by
 refine eQ (oY bz) (s F S j g H _ p ?_);unfold jH at h;cases i:dn j with
 |no=>rw[i]at h;exact h.elim
 |er c o=>rw[i]at h;exact λx I A C q u=>h x I A g C q u (ig.refl _ _)
 |ok J n=>rw[i]at h;intro G y B r1 f a v r m;exact h _ G y g B v r1 ⟨f.fro,f.keep,f.there,f.fnew,λb z=>z.elim (f.onew b) λw=>.inr (m b w).1⟩ (ig.refl _ _) ⟨a,rfl,r⟩ λb z=>let ⟨_,x2,x3,x4⟩:=m b z;⟨x2,x3,x4⟩
def pC(i:Nat):af->R aG:=λa=>match a[i]? with
 |some (.own b)=>.ok (.ret (.own b)) (a.set i .none)
 |_=>.no
theorem aJ.drop{K:ar}{F:ac->Prop}{S:Nat->ac->Prop}{c:af}{σ:St}{H:Hp}(r:aJ K F S c σ H)(i:Nat):aJ K F (λj b=>S j b/\j≠i) (c.set i .none) σ H:=by
 have no:∀{j s},(c.set i .none)[j]?=aa s->s≠.none->j≠i/\c[j]?=aa s:=λ{j s} e p=>by
  by_cases f:i=j
  .subst f;by_cases q:i<c.length
   .rw[cU q]at e;exact absurd (eD e).symm p
   .rw[qm (by rw[hZ];lia)]at e;cases e
  .rw[cA f]at e;exact⟨d_ f,e⟩
 refine⟨by rw[hZ];exact r.len,r.ex,λj pv e=>r.val j pv (no e (by intro z;cases z)).2,λj po e=>?_,λj b h=>?_,λj k b m g=>r.dist j k b m.1 g.1⟩
 .obtain⟨f,e⟩:=no e (by intro z;cases z);obtain⟨a,m,g⟩:=r.own j po e;have u:(λb=>S j b/\j≠i)=S j:=by funext b;simp[f]
  exact⟨a,m,by rw[u];exact g⟩
 .obtain⟨⟨po,o⟩,n⟩:=r.foot j b h.1;exact⟨⟨po,by rw[cA (d_ h.2)];exact o⟩,n⟩
theorem Dd(i:Nat){x:Str}{p:Pos}(s:X.N[i]?=aa x:=by rfl)(n:dw X.env.scope x:=by eq_refl)(r:(x==("__debug__":Str))=aj:=by decide)(v:(x==("__classdict__":Str))=aj:=by decide):DS X E pin (.Return (aa (.Name x p)) pos) (pC i):=λF S y f H D c h=>by
 unfold pC at h;split at h
 .rename_i g e;obtain⟨a,u,m⟩:=c.own i g e;refine eQ (oY (eu s n r v)) ⟨_,u,h _ F (λj b=>S j b/\j≠i) f H (S i) (c.drop i) ⟨λ_ z=>z,λ_ _ z _=>z,λ_ o z=>⟨o,z⟩,λ_ z=>.inl z,λb z=>?_⟩ (ig.refl _ _) ⟨a,rfl,m⟩ λb z=>?_⟩
  .rcases z with⟨j,z,_⟩|z
   .exact .inl ⟨j,z⟩
   .exact .inl ⟨i,z⟩
  .exact⟨(c.foot i b z).2.1,λ⟨j,w,q⟩=>q (c.dist j i b w z),(c.foot i b z).2.2⟩
 .exact h.elim
theorem aJ.set{K:ar}{F:ac->Prop}{S:Nat->ac->Prop}{f:af}{σ:St}{H:Hp}{i:Nat}{pv:PV}{v:V}(r:aJ K F S f σ H)(h:aO K H F pv v):aJ K F (λj b=>S j b/\j≠i) (f.set i (.val pv)) (σ.set i (aa v)) H:=by
 have o:=r.drop i;have len:(f.set i (.val pv)).length=(σ.set i (aa v)).length:=by rw[hZ,hZ];exact r.len
 refine⟨len,r.ex,λj p e=>?_,λj po e=>?_,λj b h=>?_,o.dist⟩
 .by_cases c:i=j
  .subst c;have g:i<f.length:=by have:=(cI.mp e).1;rw[hZ]at this;exact this
   rw[cU g]at e;cases e;exact⟨v,cU (by rw[<-r.len];exact g),h⟩
  .rw[cA c]at e;obtain⟨w,n,m⟩:=r.val j p e;exact⟨w,by rw[cA c];exact n,m⟩
 .have c:i≠j:=by
   rintro rfl;have g:i<f.length:=by have:=(cI.mp e).1;rw[hZ]at this;exact this
   rw[cU g]at e;cases e
  rw[cA c]at e;obtain⟨a,n,m⟩:=r.own j po e;have u:(λb=>S j b/\j≠i)=S j:=by funext b;simp[d_ c]
  exact⟨a,by rw[cA c];exact n,by rw[u];exact m⟩
 .obtain⟨⟨po,q⟩,s⟩:=o.foot j b h;refine⟨⟨po,?_⟩,s⟩;rw[cA (d_ h.2)]at q ⊢;exact q
theorem a8.less{S:Nat->ac->Prop}{F:ac->Prop}{H:Hp}(i:Nat):a8 (U S) (U λj b=>S j b/\j≠i) F F H H:=⟨λ_ z=>z,λ_ _ z _=>z,λ_ o z=>⟨o,z⟩,λ_ z=>.inl z,λb ⟨j,z⟩=>.inl ⟨j,z.1⟩⟩
theorem aJ.setOwn{K:ar}{F:ac->Prop}{S:Nat->ac->Prop}{q:af}{x:St}{H:Hp}{i:Nat}{s:PO}{a:ac}{n:ac->Prop}(r:aJ K F S q x H)(o:i<q.length)(h:d4 K H F s a n)(u:pM F S H n):aJ K F (λj b=>(S j b/\j≠i)\/(j=i/\n b)) (q.set i (.own s)) (x.set i (aa (.ref a))) H:=by
 have B:=r.drop i;refine⟨by rw[hZ,hZ];exact r.len,r.ex,λj p e=>?_,λj g e=>?_,λj b h=>?_,λj k b f c=>?_⟩
 .have m:i≠j:=by rintro rfl;rw[cU o]at e;cases e
  rw[cA m]at e;obtain⟨w,f,c⟩:=r.val j p e;exact⟨w,by rw[cA m];exact f,c⟩
 .by_cases m:i=j
  .subst m;rw[cU o]at e;cases e;have v:(λb=>(S i b/\i≠i)\/(i=i/\n b))=n:=by funext b;simp
   exact⟨a,cU (by rw[<-r.len];exact o),by rw[v];exact h⟩
  .rw[cA m]at e;obtain⟨D,f,c⟩:=r.own j g e;have v:(λb=>(S j b/\j≠i)\/(j=i/\n b))=S j:=by funext b;simp[d_ m]
   exact⟨D,by rw[cA m];exact f,by rw[v];exact c⟩
 .rcases h with h|⟨rfl,h⟩
  .obtain⟨⟨g,y⟩,C⟩:=B.foot j b h;refine⟨⟨g,?_⟩,C⟩;rw[cA (d_ h.2)]at y ⊢;exact y
  .obtain⟨A,G,z⟩:=u b h;exact⟨⟨s,cU o⟩,A,z⟩
 .rcases f with f|⟨rfl,f⟩ <;> rcases c with c|⟨rfl,c⟩
  .exact r.dist j k b f.1 c.1
  .exact absurd ⟨j,f.1⟩ (u b c).2.1
  .exact absurd ⟨k,c.1⟩ (u b f).2.1
  .rfl
def bd(i:Nat)(d:af->R PV):af->R aG:=λε=>(d ε).bind λx ε1=>.ok .next (ε1.set i (.val x))
theorem eJ(i:Nat){x:Str}{p:Pos}(s:X.N.Nodup)(r:DE X E e de)(n:i∉pin:=by decide)(o:X.N[i]?=aa x:=by rfl)(j:Loc X.env.scope x:=by first|exact Or.inl rfl|exact Or.inr rfl)(m:g_ e (aa (.Name x p)) pos.line X.env=pure aj:=by rfl)(q:X.fn x=ah\/X.env.scope.names.lookup x=aa .local:=by first|exact .inl rfl|exact .inr rfl):DS X E pin (.Assign [.Name x p] e pos) (bd i de):=λF S c a H D g h=>eQ (Ej s o j bz m q) (r F S c a H _ g (h.bindE.imp λx b y A w r1 z u v f=>u y _ _ w (r1.set f) (a8.less i) (ig.set n)))
def gg(i:Nat)(d:af->R PO):af->R aG:=λε=>(d ε).bind λx ε1=>if i<ε1.length then .ok .next (ε1.set i (.own x))else .no
theorem mJ(i:Nat){x:Str}{p:Pos}{dn:af->R PO}(J:X.N.Nodup)(I:DN X E e dn)(B:i∉pin:=by decide)(C:X.N[i]?=aa x:=by rfl)(y:Loc X.env.scope x:=by first|exact Or.inl rfl|exact Or.inr rfl)(A:g_ e (aa (.Name x p)) pos.line X.env=pure aj:=by rfl)(G:X.fn x=ah\/X.env.scope.names.lookup x=aa .local:=by first|exact .inl rfl|exact .inr rfl):DS X E pin (.Assign [.Name x p] e pos) (gg i dn):=λF S q o H D u h=>by
 refine eQ (Ej J C y bz A G) (I F S q o H _ u ?_);unfold gg at h;cases n:dn q with
 |no=>rw[n]at h;exact h.elim
 |er c s=>rw[n]at h;exact λx P L N v K=>h x P L o N v K (ig.refl _ _)
 |ok Q g=>
  rw[n]at h;simp only[R.bind_ok]at h;intro O W M r1 f a T w r;by_cases m:i<g.length
  .rw[if_pos m]at h;refine h O _ _ M (r1.setOwn m w λb z=>(r b z).2) ⟨f.fro,f.keep,f.there,f.fnew,λb ⟨j,z⟩=>?_⟩ (ig.set B);rcases z with z|⟨_,z⟩
   .exact f.onew b ⟨j,z.1⟩
   .exact .inr (r b z).1
  .rw[if_neg m]at h;exact h.elim
theorem fY{c:ay}{a b:List aV}{t:af->R Bool}(q:DT X E c t)(s:fH X E pin a d1)(r:fH X E pin b d2):DS X E pin (.If c a b pos) (bA t d1 d2):=λF S o g H D p h=>by
 refine eQ (N4 lu lG lG) (q F S o g H _ p (h.bindE.imp λk f n j m r1 u i=>?_));cases k with
 |true=>exact mF (s n j f g m D r1 i)
 |false=>exact mj (r n j f g m D r1 i)
def ve:af->R aG:=λ_=>.no
theorem zC{a:List aV}:fH X E pin a ve:=λ_ _ _ _ _ _ _ h=>h.elim
def cq(r:R aG):R aG:=match r with
 |.er _ _=>.no
 |r=>r
theorem jI(h:DS X.nox E0 pin l d):DS X E pin l (λa=>cq (d a)):=λF S a b H D i q=>Bx.mk λm s I=>by
 have q:g8 X.K E pin b F S H (cq (d a)) D:=q;have j:g8 X.K E0 pin b F S H (d a) D:=by
  cases e:d a with
  |no=>rw[e]at q;exact q
  |er c g=>rw[e]at q;exact q.elim
  |ok f g=>rw[e]at q;cases f <;> exact q
 exact eW ((h F S a b H D i j).run m s (I.wish _)) (λ_ _ z=>z.unwish) λ_ _ z=>z.elim
def pO(X:Cx)(f a:ay):TI:=λb H h=>Bx (∀c s,Inv X c b H s->aw (aA X.prog X.w) X.A (aL a X.env) (λv g=>aw (aA X.prog X.w) X.A (mW v) (uI X c b f h) X.xe g) X.xe s)
theorem wm{b a:ay}:PI X b a (pO X b a):=λc s _ _ _ I h=>h.run c s I
theorem IE{f a:ay}{t:TI}(h:PI X f a t){b:St}{H:Hp}{c:It->Hp->Prop}(q:t b H c):pO X f a b H c:=⟨λg s I=>h g s b H c I q⟩
def DI(X:Cx)(E:XK)(p a:ay)(d:af->R (List PV)):Prop:=∀F S ε c H m,aJ X.K F S ε c H ->
 Ok X.K E c F S H (d ε) (λg _ o q i=>∀J f n,aY X.K i o g f->f.length<=a6->Walk J f n->(∀h j b,a8 (U q) (U h) o j i b->n b)->m J i)->pO X p a c H m
def eU(i:Nat)(db:af->R aG):List PV->af->R aG
 |[],ε=>.ok .next ε
 |x::xs,ε=>match db (ε.set i (.val x))with
  |.ok .next a=>eU i db xs a
  |.ok .cont a=>eU i db xs a
  |.ok .brk a=>.ok .next a
  |r=>r
def c6(i:Nat)(a:af->R (List PV))(db:af->R aG):af->R aG:=λε=>(a ε).bind λxs ε1=>eU i db xs ε1
theorem lh(i:Nat){x:Str}{p:Pos}{o:ay}{r:List aV}{di:af->R (List PV)}{I:af->R aG}(tW:ww (aA X.prog X.w) X.A X.env X.xe)(hc:X.calm=ah)(hN:X.N.Nodup)(hi:DI X E (.Name x p) o di)(hb:fH X E pin r I)(hp:i∉pin:=by decide) (C:X.N[i]?=aa x:=by rfl) (Q:Loc X.env.scope x:=by first|exact Or.inl rfl|exact Or.inr rfl) (hs:∀x,mX o X.env x=pure x:=by intro _;rfl)(hf:X.fn x=ah\/X.env.scope.names.lookup x=aa .local:=by first|exact .inl rfl|exact .inr rfl):DS X E pin (.For (.Name x p) o r [] pos) (c6 i di I):=λF S ε σ H D rl h=>by
 refine eQ (CF tW hc wm (pX hN C Q hf) lG hs) (hi F S ε σ H _ rl (h.bindE.imp λz L F1 S1 H1 r1 g1 h1 J vs RR Z hz hw A=>?_));refine Dr hw (λk a n=>∃u w m,aJ X.K u w m a n/\a8 (U S1) (U w) F1 u H1 n/\g8 X.K E pin a u w n (eU i I (z.drop k) m) D) ⟨F1,S1,L,r1,a8.refl ..,h1⟩ (λk a n _ ⟨u,w,m,_,g,_⟩=>A w u n g) ?_ ?_
 .rintro k v a n hv ⟨u,w,m,O,G,q⟩;obtain⟨x,C,rx⟩:=Z.back hv;have hk:k<z.length:=(cI.mp C).1;have ed:z.drop k=x::z.drop (k+1):=by rw[Am hk];congr 1;exact(cI.mp C).2
  rw[ed]at q;have M:=rx.grow G r1.fit;have r2:=O.set (i:=i) M;have T:a8 (U w) (U λj b=>w j b/\j≠i) u u n n:=a8.less i;show nR X r _ (a.set i (aa v)) n;refine hb u _ _ _ n _ r2 ?_;unfold eU at q;have q:=q.from T (ig.set (x:=aa v) hp);cases e:I (m.set i (.val x))with
  |no=>rw[e]at q;exact q
  |er c y=>rw[e]at q;exact q
  |ok f y=>
   rw[e]at q;cases f with
   |next=>exact λY W K H3 N B P=>⟨Y,W,y,N,(G.trans T).trans B,q.from B P⟩
   |cont=>exact λY W K H3 N B P=>⟨Y,W,y,N,(G.trans T).trans B,q.from B P⟩
   |brk=>exact q
   |ret s=>exact q
 .rintro a n ⟨u,w,m,O,G,q⟩;have Q:vs.length=z.length:=Z.len;rw[Q,An]at q;exact q u w a n O (a8.refl ..) (ig.refl _ _)
def fk(t:af->R Bool)(b:af->R aG):Nat->af->R aG
 |0,_=>.no
 |n+1,ε=>(t ε).bind λk ε1=>match k with
  |false=>.ok .next ε1
  |true=>match b ε1 with
   |.ok .next a=>fk t b n a
   |.ok .cont a=>fk t b n a
   |.ok .brk a=>.ok .next a
   |r=>r
theorem Cw{c:ay}{n:List aV}{t:af->R Bool}{j:af->R aG}(O:af->Nat)(P:ww (aA X.prog X.w) X.A X.env X.xe)(T:DT X E c t)(W:fH X E pin n j):DS X E pin (.While c n [] pos) (λv=>fk t j (O v) v):=λF S v σ H D Q h=>by
 refine eQ (Nw P lu lG) ⟨λm b u=>∃y x a,aJ X.K y x a b u/\g8 X.K E pin b y x u (fk t j m a) D,⟨O v,F,S,v,Q,h⟩,?_⟩;rintro m i H1 ⟨F1,Y,A,r1,q⟩;cases m with
 |zero=>exact q.elim
 |succ m=>
  refine T F1 Y A i H1 _ r1 (q.bindE.imp λk p M J K N g2 g=>?_);cases k with
  |false=>exact mj (g M J i K N (a8.refl ..) (ig.refl _ _))
  |true=>
   refine mF ⟨λb u=>∃y x a,aJ X.K y x a b u/\g8 X.K E pin b y x u (fk t j m a) D,λb u w=>⟨m,ja m,w⟩,W M J p i K _ N ?_⟩;have g:g8 X.K E pin i M J K (match j p with
    |.ok .next a=>fk t j m a
    |.ok .cont a=>fk t j m a
    |.ok .brk a=>.ok .next a
    |r=>r) D:=g
   cases e:j p with
   |no=>rw[e]at g;exact g
   |er c o=>rw[e]at g;exact g
   |ok f o=>
    rw[e]at g;cases f with
    |next=>exact λL I z Z B G C=>⟨L,I,o,B,g.from G C⟩
    |cont=>exact λL I z Z B G C=>⟨L,I,o,B,g.from G C⟩
    |brk=>exact g
    |ret s=>exact g
end
def vX(K:ar)(E:XK)(i:List V)(F:ac->Prop)(S:Nat->ac->Prop)(H:Hp)(r:R Slot)(Q:VK):Prop:=match r with
 |.ok s h=>∀v d f a g,aJ K d f h (i.map aa) a->a8 (U S) (λb=>U f b\/g b) F d H a->pD K a d s v g->pM d f a g->(∀b,g b->H b=ae)->Q v a
 |.er c h=>∀x d f a,aJ K d f h (i.map aa) a->a8 (U S) (U f) F d H a->E c x a
 |.no=>False
def bn(K:ar)(g:af->R Slot):Sp:=λa H Q E=>∃F S b,aJ K F S b (a.map aa) H/\vX K E a F S H (g b) Q
structure cO(CX:dZ)(P:a4)(w:aT)(K:ar)(mg:Str->Option ai)(base:aF)(x:Str)(k:Nat)(ps:List Str)(sp:Sp):Prop where
 ex:∃f fd,mg x=aa (.ref f)/\gz P w K mg base CX k f fd ps sp/\Binds K fd ps []/\kH K (.ref f)=ah
def back:af->af->Option af
 |[],_=>aa []
 |.own _::a,.own po::b=>(back a b).map (.own po::·)
 |.own _::_,_=>ae
 |s::a,_::b=>(back a b).map (s::·)
 |_::_,[]=>ae
theorem vh:∀{a c b:af},back a c=aa b->b.length=a.length/\∀(i:Nat) (s:Slot),b[i]?=aa s->(∃g f,a[i]?=aa (.own g)/\c[i]?=aa (.own f)/\s=.own f)\/(a[i]?=aa s/\∀g,s≠.own g)
 |[],_,b,h=>by cases h;exact⟨rfl,λi s e=>by simp at e⟩
 |.own g::a,.own f::c,b,h=>by
  unfold back at h;cases e:back a c with
  |none=>rw[e]at h;cases h
  |some r=>
   rw[e]at h;cases h;obtain⟨l,q⟩:=vh e;refine⟨by simp[l],λi s d=>?_⟩;cases i with
   |zero=>simp at d;subst d;exact .inl ⟨g,f,rfl,rfl,rfl⟩
   |succ i=>simpa using q i s (by simpa using d)
 |.own g::a,.none::c,b,h=>by cases h
 |.own g::a,.val _::c,b,h=>by cases h
 |.own g::a,[],b,h=>by cases h
 |.none::a,[],b,h=>by cases h
 |.val _::a,[],b,h=>by cases h
 |.none::a,x::c,b,h=>by
  have h:(back a c).map (Slot.none::·)=aa b:=by unfold back at h;cases x <;> exact h
  cases e:back a c with
  |none=>rw[e]at h;cases h
  |some r=>
   rw[e]at h;cases h;obtain⟨l,q⟩:=vh e;refine⟨by simp[l],λi s d=>?_⟩;cases i with
   |zero=>simp at d;subst d;exact .inr ⟨rfl,λ_ z=>by cases z⟩
   |succ i=>simpa using q i s (by simpa using d)
 |.val pv::a,x::c,b,h=>by
  have h:(back a c).map (Slot.val pv::·)=aa b:=by unfold back at h;cases x <;> exact h
  cases e:back a c with
  |none=>rw[e]at h;cases h
  |some r=>
   rw[e]at h;cases h;obtain⟨l,q⟩:=vh e;refine⟨by simp[l],λi s d=>?_⟩;cases i with
   |zero=>simp at d;subst d;exact .inr ⟨rfl,λ_ z=>by cases z⟩
   |succ i=>simpa using q i s (by simpa using d)
def a5(n:Nat)(d:af->R aG):af->R Slot:=λf=>match d (f++cM n .none)with
 |.ok (.ret r) a=>(aB (back f a) []).bind λb _=>.ok r b
 |.ok .next a=>(aB (back f a) []).bind λb _=>.ok (.val .non) b
 |.er c a=>(aB (back f a) []).bind λb _=>.er c b
 |_=>.no
section
variable{K:ar}{F x:ac->Prop}{S o:Nat->ac->Prop}{c l m:af}{f:St}{H u:Hp}{d:List V}
theorem aJ.start(r:aJ K F S c (d.map aa) H)(n:Nat):aJ K F S (c++cM n .none) (d.map aa++cM n ae) H:=by
 have A:c.length=(d.map aa).length:=r.len;have no:∀{j:Nat}{s:Slot},(c++cM n Slot.none)[j]?=aa s->s≠.none->c[j]?=aa s:=λ{j s} e y=>by
  by_cases B:j<c.length
  .rw[iw B]at e;exact e
  .rw[oj ∅,List.getElem?_replicate]at e;split at e
   .exact absurd (eD e).symm y
   .cases e
 have p:∀{j:Nat}{v:Option V},(d.map aa)[j]?=aa v->(d.map aa++cM n ae)[j]?=aa v:=λ{j v} e=>by rw[iw (cI.mp e).1];exact e
 refine⟨by simp[A],r.ex,λj pv e=>?_,λj a e=>?_,λj b h=>?_,r.dist⟩
 .obtain⟨v,i,g⟩:=r.val j pv (no e (by intro z;cases z));exact⟨v,p i,g⟩
 .obtain⟨v,i,g⟩:=r.own j a (no e (by intro z;cases z));exact⟨v,p i,g⟩
 .obtain⟨⟨a,q⟩,w⟩:=r.foot j b h;exact⟨⟨a,by rw[iw (cI.mp q).1];exact q⟩,w⟩
theorem BU{i:PO}{a:ac}{n:ac->Prop}(h:d4 K H F i a n)(j:gZ i=ah):∀b,n b↔b=a:=by
 cases i with
 |lst p=>exact h.2
 |dK g=>exact h.2
 |lls q=>cases j
 |dL q=>cases j
 |ins C fs=>exact h.2
 |dT g=>exact h.2
 |dN g=>exact h.2
 |inl C fs y p=>cases j
theorem Jq{g:PO}{a:ac}{i:ac->Prop}(h:d4 K H F g a i):i a:=by
 cases g with
 |lst j=>exact(h.2 a).mpr rfl
 |dK b=>exact(h.2 a).mpr rfl
 |lls n=>obtain⟨p,_,_,_,_,w⟩:=h;exact(w a).mpr (.inl rfl)
 |dL n=>obtain⟨p,_,_,_,_,w⟩:=h;exact(w a).mpr (.inl rfl)
 |ins C fs=>exact(h.2 a).mpr rfl
 |dT b=>exact(h.2 a).mpr rfl
 |dN b=>exact(h.2 a).mpr rfl
 |inl C fs y j=>obtain⟨_,_,_,_,_,_,_,_,_,_,w⟩:=h;exact(w a).mpr (.inl rfl)
theorem aJ.back{X:ac->Prop}{C:List Nat}{n:Nat}(B:aJ K F S c (d.map aa) H)(r:aJ K x o l f u)(g:a8 (U S) X F x H u)(p:ig C (d.map aa++cM n ae) f)(Q:∀(i:Nat) (po:PO),c[i]?=aa (.own po)->i∈C)(P:back c l=aa m):∃A,aJ K x A m (d.map aa) u/\(∀b,U A b->U o b)/\((∀(i:Nat) (po:PO),c[i]?=aa (.own po)->gZ po=ah)->∀b,U S b->U A b):=by
 obtain⟨L,E⟩:=vh P;have inj:∀(i:Nat) (po:PO),c[i]?=aa (.own po)->∃a,(d.map aa)[i]?=aa (aa (.ref a))/\f[i]?=aa (aa (.ref a))/\d4 K H F po a (S i):=λi po e=>by obtain⟨a,w,y⟩:=B.own i po e;refine⟨a,w,?_,y⟩;rw[p i (Q i po e),iw (cI.mp w).1];exact w
 have bk:∀(i:Nat) (po:PO),c[i]?=aa (.own po)->∃s,m[i]?=aa (.own s)/\l[i]?=aa (.own s):=λi po e=>by
  have M:i<m.length:=by rw[L];exact(cI.mp e).1
  rcases E i m[i] (by simp[M])with⟨p1,p2,q1,q2,q3⟩|⟨q1,q2⟩
  .exact⟨p2,by rw[eO M,q3],q2⟩
  .rw[e]at q1;exact absurd (eD q1).symm (q2 po)
 refine⟨λi b=>o i b/\∃po,c[i]?=aa (.own po),⟨by rw[L];exact B.len,r.ex,λi pv e=>?_,λi po e=>?_,λi b h=>?_,λi j b w y=>r.dist i j b w.1 y.1⟩,λb ⟨i,h⟩=>⟨i,h.1⟩,λO b ⟨i,h⟩=>?_⟩
 .rcases E i _ e with⟨_,_,_,_,z⟩|⟨q1,_⟩
  .cases z
  .obtain⟨v,w,y⟩:=B.val i pv q1;exact⟨v,w,y.grow g B.fit⟩
 .rcases E i _ e with⟨p1,p2,q1,q2,q3⟩|⟨_,q2⟩
  .cases q3;obtain⟨a,w,y,N⟩:=inj i p1 q1;obtain⟨W,D,G⟩:=r.own i po q2;rw[y]at D;cases D;refine⟨a,w,?_⟩;have T:(λb=>o i b/\∃po,c[i]?=aa (.own po))=o i:=by funext b;exact propext ⟨λz=>z.1,λz=>⟨z,p1,q1⟩⟩
   rw[T];exact G
  .exact absurd rfl (q2 po)
 .obtain⟨po,q⟩:=h.2;obtain⟨s,J,I⟩:=bk i po q;exact⟨⟨s,J⟩,(r.foot i b h.1).2⟩
 .obtain⟨⟨po,q⟩,_⟩:=B.foot i b h;obtain⟨a,w,y,N⟩:=inj i po q;obtain⟨s,J,I⟩:=bk i po q;obtain⟨W,D,G⟩:=r.own i s I;rw[y]at D;cases D;have e:b=a:=(BU N (O i po q) b).mp h;exact⟨i,e ▸ Jq G,po,q⟩
end
theorem pG{K:ar}{E:XK}{a:List V}{F:ac->Prop}{S:Nat->ac->Prop}{H:Hp}{r:R Slot}{Q:VK}(h:vX K E a F S H r Q):r≠.no:=λz=>by rw[z]at h;exact h
theorem xF{K:ar}{g:af->R Slot}{m:Nat}(f:∀a,g a≠.no->a.length=m):∀b H Q E,bn K g b H Q E->b.length=m:=λb H Q E ⟨F,S,a,c,ok⟩=>by have:=f a (pG ok);have d:=c.len;rw[bO]at d;lia
theorem Ol{X:Cx}{E:XK}{s:List aV}{N P:List Str}{q:List V}{H:Hp}{Q:VK}{n:Nat}{g:af->R Slot}{d:af->R aG}{y:List Nat}(hn:N.length=P.length+n)(bu:∀a,g a≠.no->a.length=P.length) (gL:∀a,g a≠.no->∀(i:Nat) po,a[i]?=aa (.own po)->i∈y) (Z:∀a o m,g a=.ok o m->(∃pv,o=.val pv)\/∀(i:Nat) po,a[i]?=aa (.own po)->gZ po=ah) (hg:∀a,g a≠.no->a5 n d a=g a)(hb:fH X E y s d) (iS:bn X.K g q H Q E):nR X s {nx:=λ_ l=>Q .non l,rt:=Q} (L2.start N q) H:=by
 obtain⟨F,S,a,K,ok⟩:=iS;have hl:=bu a (pG ok);have h2:=K.len;rw[bO]at h2;have es:L2.start N q=q.map aa++cM n ae:=by unfold L2.start;rw[show N.length-q.length=n by lia]
 rw[es];refine hb F S _ _ H _ (K.start n) ?_;have W:=gL a (pG ok);have O:=hg a (pG ok);have J:=Z a;rw[<-O]at ok J;unfold a5 at ok J;generalize d (a++cM n .none)=r at ok J ⊢;cases r with
 |no=>exact ok
 |er c h=>
  intro x p B j l C f D;have ok:vX X.K E q F S H ((aB (back a h) []).bind λm _=>.er c m) Q:=ok;cases e:back a h with
  |none=>rw[e]at ok;exact ok.elim
  |some m=>rw[e]at ok;obtain⟨A,u,sub,_⟩:=K.back C f D W e;exact ok x p A l u ⟨f.fro,f.keep,f.there,f.fnew,λb z=>f.onew b (sub b z)⟩
 |ok fl h=>
  have G:∀(o:Slot),(∀m,back a h=aa m->(∃pv,o=.val pv)\/∀(i:Nat) po,a[i]?=aa (.own po)->gZ po=ah)->vX X.K E q F S H ((aB (back a h) []).bind λm _=>.ok o m) Q->∀(v:V) p B j l I,aJ X.K p B h j l->a8 (U S) (λb=>U B b\/I b) F p H l->ig y (q.map aa++cM n ae) j->pD X.K l p o v I->pM p B l I->Q v l:=by
   intro o M ok v p B j l I C f D T L;cases e:back a h with
   |none=>rw[e]at ok;exact ok.elim
   |some m=>
    rw[e]at ok;obtain⟨A,u,sub,Y⟩:=K.back C f D W e;refine ok v p A l I u ⟨f.fro,f.keep,f.there,f.fnew,λb z=>f.onew b (z.imp (sub b) id)⟩ T (λb z=>⟨(L b z).1,λw=>(L b z).2.1 (sub b w),(L b z).2.2⟩) λb z=>?_;rcases M m e with⟨pv,rfl⟩|hf
    .exact absurd z (T.2 b)
    rcases f.onew b (.inr z)with w|w
    .exact absurd (sub b (Y hf b w)) (L b z).2.1
    .exact w
  cases fl with
  |brk=>exact ok.elim
  |cont=>exact ok.elim
  |ret o=>exact G o (λm e=>J o m (by show(aB (back a h) []).bind _=_;rw[e];rfl)) ok
  |next=>exact λp B j l C f D=>G (.val .non) (λ_ _=>.inl ⟨_,rfl⟩) ok .non p B j l (λ_=>False) C ⟨f.fro,f.keep,f.there,f.fnew,λb z=>z.elim (f.onew b) jb⟩ D ⟨rfl,λ_ z=>z⟩ λ_ z=>z.elim
theorem xu{f:ac}{p:gJ}{D:dZ}{P:a4}{w:aT}{K:ar}{v:Str->Option ai}{j:aF}{x b:Str}{h:aV}{N l:List Str}{k n:Nat}{g:af->R Slot}{d:af->R aG}{m:List Nat}(Z:ko K x b h f p)(Y:bS N l (aI h))(M:N.length=l.length+n)(hb:∀(kV o u:ai) (B:Option ac) (C y:ai) (q:List ai),q.length=l.length->dU (fP x b (fX h) (dj h) (aI h) .none kV o u B C y) ⟨q,[]⟩=pure (l.zip q))(z:∀c,g c≠.no->c.length=l.length) (T:∀c,g c≠.no->∀(i:Nat) po,c[i]?=aa (.own po)->i∈m) (G:∀c r X,g c=.ok r X->(∃pv,r=.val pv)\/∀(i:Nat) po,c[i]?=aa (.own po)->gZ po=ah) (O:∀c,g c≠.no->a5 n d c=g c)(S:∀(A:aX) (a:List Env) (s:am) (H:Hp) (E:XK),Room k (A.deeper (fO b (aI h) s.heap.objs.size f p.code))->fH (eZ D P w K v j N b (aI h) f p.code A a s H E) E m (dj h) d):gz P w K v j D (k+1) f p l (bn K g):=by obtain⟨oc,od,kV,o,u,B,C,y,F,rfl,I,W⟩:=Z.ex;exact xa I W Y (xF z) λA a s H vs Q E L J=>⟨_,lG,Ol M z T G O (S A a s H E L) J⟩
theorem CK{f:ac}{u:gJ}{B:dZ}{P:a4}{w:aT}{K:ar}{y:Str->Option ai}{l:aF}{x b:Str}{j:aV}{N m:List Str}{k n:Nat}{g:af->R Slot}{d:af->R aG}{p:List Nat}(Q:ko K x b j f u)(O:bS N m (aI j))(D:N.length=m.length+n)(G:∀(kV v C:ai) (M:Option ac) (q J:ai) (r:List ai),r.length=m.length->dU (fP x b (fX j) (dj j) (aI j) .none kV v C M q J) ⟨r,[]⟩=pure (m.zip r))(L:∀c,g c≠.no->c.length=m.length) (z:∀c,g c≠.no->∀(i:Nat) o,c[i]?=aa (.own o)->i∈p/\gZ o=ah) (F:∀c,g c≠.no->a5 n d c=g c)(I:∀(f:ac) (q:ai) (A:aX) (a:List Env) (s:am) (H:Hp) (E:XK),Room k (A.deeper (fO b (aI j) s.heap.objs.size f q))->fH (eZ B P w K y l N b (aI j) f q A a s H E) E p (dj j) d):gz P w K y l B (k+1) f u m (bn K g):=xu Q O D G L (λc h i o e=>(z c h i o e).1) (λc S T h=>.inr λi o e=>(z c (by rw[h];exact nofun) i o e).2) F λA a s H E=>I f u.code A a s H E
theorem OI{v:dZ}{P:a4}{w:aT}{K:ar}{p:Str->Option ai}{c:aF}{x:Str}{b:aV}{N j:List Str}{k n:Nat}{g:af->R Slot}{d:af->R aG}{l:List Nat}(D:cP K p x b)(O:bS N j (aI b))(z:N.length=j.length+n)(u:∀(kV q y:ai) (M:Option ac) (m J:ai) (o:List ai),o.length=j.length->dU (fP x x (fX b) (dj b) (aI b) .none kV q y M m J) ⟨o,[]⟩=pure (j.zip o))(L:∀a,g a≠.no->a.length=j.length) (G:∀a,g a≠.no->∀(i:Nat) po,a[i]?=aa (.own po)->i∈l/\gZ po=ah) (C:∀a,g a≠.no->a5 n d a=g a)(F:∀(f:ac) (m:ai) (A:aX) (h:List Env) (s:am) (H:Hp) (E:XK),Room k (A.deeper (fO x (aI b) s.heap.objs.size f m))->fH (eZ v P w K p c N x (aI b) f m A h s H E) E l (dj b) d):cO v P w K p c x (k+1) j (bn K g):=by obtain⟨f,I,B,r⟩:=D.ex;exact⟨f,I,B,CK r O z u L G C F,r.binds u,r.kp⟩
abbrev bY:=Sum PV Nat
def fg(K:ar)(b:St)(F:ac->Prop)(H:Hp):List bY->List V->Prop
 |[],a=>a=[]
 |.inl pv::c,a=>∃v r,a=v::r/\aO K H F pv v/\fg K b F H c r
 |.inr i::c,a=>∃v r,a=v::r/\b[i]?=aa (aa v)/\fg K b F H c r
def DG(X:Cx)(E:XK)(g:List ay)(d:af->R (List bY)):Prop :=
 ∀F S b a H Q,aJ X.K F S b a H->Ok X.K E a F S H (d b) (λh _ i _ f=>∀c,fg X.K a i f h c->Q c f)->nB X g a H Q
section
variable{X:Cx}{E:XK}{e:ay}{b:List ay}{de:af->R PV}{c:af->R (List bY)}{f:Pos}
def bH:af->R (List bY):=λε=>.ok [] ε
def gV(d:af->R PV)(c:af->R (List bY)):af->R (List bY):=λε=>(d ε).bind λx ε1=>(c ε1).bind λxs a=>.ok (.inl x::xs) a
def gO(i:Nat)(c:af->R (List bY)):af->R (List bY):=λε=>match ε[i]? with
 |some (.own _)=>(c ε).bind λxs a=>.ok (.inr i::xs) a
 |_=>.no
theorem bN:DG X E [] bH:=λF S g d H Q a h=>mq i6 (h F S H a (a8.refl ..) _ rfl)
theorem Hi(r:DE X E e de)(q:DG X E b c)(p:aP (e::b) X.env=(aj,aL e X.env)::aP b X.env:=by rfl):DG X E (e::b) (gV de c):=λF S i d H Q m h=>by refine mq (ip bz gG p) (r F S i d H _ m ((Ok.bind h).imp λx a D z B r1 I u v l=>?_));refine q D z a d B _ r1 ((Ok.bind u).imp λG g C y A n w s j o=>?_);exact s C y A n (a8.refl ..) _ ⟨v,j,rfl,l.grow w r1.fit,o⟩
theorem gU(i:Nat){x:Str}{p:Pos}(v:DG X E b c)(y:X.N[i]?=aa x:=by rfl)(s:dw X.env.scope x:=by eq_refl)(w:(x==("__debug__":Str))=aj:=by decide)(A:(x==("__classdict__":Str))=aj:=by decide) (u:aP (.Name x p::b) X.env=(aj,aL (.Name x p) X.env)::aP b X.env:=by rfl):DG X E (.Name x p::b) (gO i c):=λF S m j H Q d h=>by
 unfold gO at h;split at h
 .rename_i q e;obtain⟨a,g,_⟩:=d.own i q e;refine mq (ip (eu y s w A) gG u) ⟨_,g,v F S m j H _ d ((Ok.bind h).imp λG l D B C o I z n r=>?_)⟩;exact z D B C o (a8.refl ..) _ ⟨_,n,rfl,g,r⟩
 .exact h.elim
end
def b9(ε:af):List bY->Option af
 |[]=>aa []
 |.inl pv::a=>(b9 ε a).map (.val pv::·)
 |.inr i::a=>match ε[i]? with
  |some (.own b)=>(b9 ε a).map (.own b::·)
  |_=>ae
def cu:af->List bY->af->af
 |ε,.inl _::b,_::a=>cu ε b a
 |ε,.inr i::b,s::a=>cu (ε.set i s) b a
 |ε,_,_=>ε
def bq:List bY->List Nat
 |[]=>[]
 |.inl _::as=>bq as
 |.inr i::as=>i::bq as
theorem Cp:∀{as:List bY}{i:Nat},i∈bq as↔∃k:Nat,as[k]?=aa (.inr i)
 |[],i=>by simp[bq]
 |.inl _::as,i=>by
  unfold bq;rw[Cp];constructor
  .rintro⟨k,h⟩;exact⟨k+1,by simpa using h⟩
  .rintro⟨k,h⟩;cases k with
   |zero=>simp at h
   |succ k=>exact⟨k,by simpa using h⟩
 |.inr j::as,i=>by
  unfold bq;rw[bW,Cp];constructor
  .rintro(rfl|⟨k,h⟩)
   .exact⟨0,rfl⟩
   .exact⟨k+1,by simpa using h⟩
  .rintro⟨k,h⟩;cases k with
   |zero=>simp at h;exact .inl h.symm
   |succ k=>exact .inr ⟨k,by simpa using h⟩
theorem vK{d:af}:∀{a:List bY}{c:af},b9 d a=aa c->c.length=a.length/\∀(k:Nat) (s:Slot),c[k]?=aa s->(∃pv,a[k]?=aa (.inl pv)/\s=.val pv)\/∃i f,a[k]?=aa (.inr i)/\d[i]?=aa (.own f)/\s=.own f
 |[],c,h=>by cases h;exact⟨rfl,λk s e=>by simp at e⟩
 |.inl pv::a,c,h=>by
  unfold b9 at h;cases e:b9 d a with
  |none=>rw[e]at h;cases h
  |some r=>
   rw[e]at h;cases h;obtain⟨l,q⟩:=vK e;refine⟨by simp[l],λk s b=>?_⟩;cases k with
   |zero=>simp at b;exact .inl ⟨pv,rfl,b.symm⟩
   |succ k=>simpa using q k s (by simpa using b)
 |.inr i::a,c,h=>by
  unfold b9 at h;split at h
  .rename_i f g;cases e:b9 d a with
   |none=>rw[e]at h;cases h
   |some r=>
    rw[e]at h;cases h;obtain⟨l,q⟩:=vK e;refine⟨by simp[l],λk s b=>?_⟩;cases k with
    |zero=>simp at b;exact .inr ⟨i,f,rfl,g,b.symm⟩
    |succ k=>simpa using q k s (by simpa using b)
  .cases h
theorem uR:∀(c:List bY) (a b:af),(cu a c b).length=a.length
 |[],a,b=>by cases b <;> rfl
 |.inl _::c,a,[]=>rfl
 |.inr _::c,a,[]=>rfl
 |.inl _::c,a,s::b=>uR c a b
 |.inr i::c,a,s::b=>by show(cu (a.set i s) c b).length=_;rw[uR,hZ]
theorem pK:∀(a:List bY) (b c:af) (j:Nat),j∉bq a->(cu b a c)[j]?=b[j]?
 |[],b,c,j,_=>by cases c <;> rfl
 |.inl _::a,b,[],j,_=>rfl
 |.inr _::a,b,[],j,_=>rfl
 |.inl _::a,b,s::c,j,h=>pK a b c j h
 |.inr i::a,b,s::c,j,h=>by
  have d:¬(j=i\/j∈bq a):=by simpa[bq]using h
  show(cu (b.set i s) a c)[j]?=_;rw[pK a _ c j λz=>d (.inr z),cA λz=>d (.inl z.symm)]
theorem qR:∀(a:List bY) (b c:af) (j k:Nat) (s:Slot),(bq a).Nodup->j<b.length->a[k]?=aa (.inr j)->c[k]?=aa s->(cu b a c)[j]?=aa s
 |[],b,c,j,k,s,_,_,h,_=>by simp at h
 |_::a,b,[],j,k,s,_,_,_,h=>by simp at h
 |.inl _::a,b,t::c,j,0,s,_,_,h,_=>by simp at h
 |.inl _::a,b,t::c,j,k+1,s,nd,hj,h,g=>qR a b c j k s nd hj (by simpa using h) (by simpa using g)
 |.inr i::a,b,t::c,j,0,s,nd,hj,h,g=>by simp at h g;subst h g;have d:i∉bq a:=(jc.mp nd).1;show(cu (b.set i t) a c)[i]?=_;rw[pK a _ c i d,cU hj]
 |.inr i::a,b,t::c,j,k+1,s,nd,hj,h,g=>qR a (b.set i t) c j k s (jc.mp nd).2 (by rw[hZ];exact hj) (by simpa using h) (by simpa using g)
theorem fg.len{K:ar}{σ:St}{F:ac->Prop}{H:Hp}:∀{a:List bY}{vs:List V},fg K σ F H a vs->vs.length=a.length
 |[],_,h=>by rw[show _=[] from h];rfl
 |.inl _::a,_,⟨v,r,e,_,h⟩=>by rw[e,eX,eX,fg.len h]
 |.inr _::a,_,⟨v,r,e,_,h⟩=>by rw[e,eX,eX,fg.len h]
theorem fg.val{K:ar}{σ:St}{F:ac->Prop}{H:Hp}:∀{as:List bY}{vs:List V}{k:Nat}{pv:PV},fg K σ F H as vs->as[k]?=aa (.inl pv)->∃v,vs[k]?=aa v/\aO K H F pv v
 |[],_,k,_,_,e=>by simp at e
 |.inl x::as,_,0,pv,⟨v,r,e,h,_⟩,q=>by simp at q;subst q e;exact⟨v,rfl,h⟩
 |.inr _::as,_,0,pv,_,q=>by simp at q
 |.inl x::as,_,k+1,pv,⟨v,r,e,_,h⟩,q=>by obtain⟨w,a,b⟩:=fg.val (k:=k) h (by simpa using q);subst e;exact⟨w,by simpa using a,b⟩
 |.inr x::as,_,k+1,pv,⟨v,r,e,_,h⟩,q=>by obtain⟨w,a,b⟩:=fg.val (k:=k) h (by simpa using q);subst e;exact⟨w,by simpa using a,b⟩
theorem fg.own{K:ar}{σ:St}{F:ac->Prop}{H:Hp}:∀{as:List bY}{vs:List V}{k i:Nat},fg K σ F H as vs->as[k]?=aa (.inr i)->∃v,vs[k]?=aa v/\σ[i]?=aa (aa v)
 |[],_,k,_,_,e=>by simp at e
 |.inr x::as,_,0,pv,⟨v,r,e,h,_⟩,q=>by simp at q;subst q e;exact⟨v,rfl,h⟩
 |.inl _::as,_,0,pv,_,q=>by simp at q
 |.inl x::as,_,k+1,pv,⟨v,r,e,_,h⟩,q=>by obtain⟨w,a,b⟩:=fg.own (k:=k) h (by simpa using q);subst e;exact⟨w,by simpa using a,b⟩
 |.inr x::as,_,k+1,pv,⟨v,r,e,_,h⟩,q=>by obtain⟨w,a,b⟩:=fg.own (k:=k) h (by simpa using q);subst e;exact⟨w,by simpa using a,b⟩
section
variable{K:ar}{F A:ac->Prop}{S m:Nat->ac->Prop}{c s f:af}{u:St}{H y:Hp}{as:List bY}{d:List V}
def kt(as:List bY)(S:Nat->ac->Prop)(k:Nat)(b:ac):Prop:=∃i,as[k]?=aa (.inr i)/\S i b
theorem vt(b:ac)(h:U (kt as S) b):U S b:=let ⟨_,i,_,h⟩:=h;⟨i,h⟩
theorem wg:∀{as:List bY}{i k l:Nat},(bq as).Nodup->as[k]?=aa (.inr i)->as[l]?=aa (.inr i)->k=l
 |[],_,_,_,_,h,_=>by simp at h
 |.inl _::as,i,0,_,_,h,_=>by simp at h
 |.inl _::as,i,_,0,_,_,h=>by simp at h
 |.inl _::as,i,k+1,l+1,nd,h1,h2=>by rw[wg (as:=as) (i:=i) (k:=k) (l:=l) nd (by simpa using h1) (by simpa using h2)]
 |.inr j::as,i,0,0,_,_,_=>rfl
 |.inr j::as,i,0,l+1,nd,h1,h2=>by simp at h1;subst h1;exact absurd (Cp.mpr ⟨l,by simpa using h2⟩) (jc.mp nd).1
 |.inr j::as,i,k+1,0,nd,h1,h2=>by simp at h2;subst h2;exact absurd (Cp.mpr ⟨k,by simpa using h1⟩) (jc.mp nd).1
 |.inr j::as,i,k+1,l+1,nd,h1,h2=>by rw[wg (as:=as) (i:=i) (k:=k) (l:=l) (jc.mp nd).2 (by simpa using h1) (by simpa using h2)]
theorem aJ.cal(r:aJ K F S c u H)(C:fg K u F H as d)(J:b9 c as=aa s)(nd:(bq as).Nodup):aJ K F (kt as S) s (d.map aa) H:=by
 obtain⟨G,B⟩:=vK J;have D:∀{k:Nat}{v:V},d[k]?=aa v->(d.map aa)[k]?=aa (aa v):=λ{k v} e=>by rw[iP,e];rfl
 refine⟨by rw[G,bO,C.len],r.ex,λk pv e=>?_,λk E e=>?_,λk b h=>?_,λk l b g o=>?_⟩
 .rcases B k _ e with⟨p,q1,n⟩|⟨_,_,_,_,z⟩
  .cases n;obtain⟨v,x,w⟩:=C.val q1;exact⟨v,D x,w⟩
  .cases z
 .rcases B k _ e with⟨_,_,z⟩|⟨i,p,q1,n,q3⟩
  .cases z
  .cases q3;obtain⟨v,x,w⟩:=C.own q1;obtain⟨a,b1,b2⟩:=r.own i E n;rw[w]at b1;cases b1;have L:kt as S k=S i:=by
    funext b;exact propext ⟨λ⟨j,g,o⟩=>by rw[q1]at g;cases g;exact o,λh=>⟨i,q1,h⟩⟩
   exact⟨a,D x,by rw[L];exact b2⟩
 .obtain⟨i,g,o⟩:=h;obtain⟨⟨E,q⟩,n⟩:=r.foot i b o;have I:k<s.length:=by rw[G];exact(cI.mp g).1
  refine⟨?_,n⟩;rcases B k s[k] (by simp[I])with⟨_,z,_⟩|⟨j,p,z1,z2,z3⟩
  .rw[g]at z;cases z
  .exact⟨p,by rw[eO I,z3]⟩
 .obtain⟨i,x,w⟩:=g;obtain⟨j,b1,b2⟩:=o;have:=r.dist i j b w b2;subst this;exact wg nd x b1
theorem aJ.called{O':ac->Prop}(r:aJ K F S c u H)(ha:fg K u F H as d)(hs:b9 c as=aa s)(nd:(bq as).Nodup)(O:aJ K A m f (d.map aa) y)(g:a8 (U (kt as S)) O' F A H y)(hO:∀b,U m b->O' b)(M:∀(k:Nat) i,as[k]?=aa (.inr i)->∃D,f[k]?=aa (.own D)):∃Y,aJ K A Y (cu c as f) u y/\a8 (U S) (U Y) F A H y/\∀b,U Y b->U m b\/U S b:=by
 have up:∀{k:Nat}{v:V},(d.map aa)[k]?=aa (aa v)->d[k]?=aa v:=λ{k v} e=>by
  rw[iP]at e;cases q:d[k]? with
  |none=>rw[q]at e;cases e
  |some x=>rw[q]at e;cases e;rfl
 have fit:Fit (U (kt as S)) F H:=λb h=>r.fit b (vt b h);have L:∀i D,c[i]?=aa (.own D)->i<c.length:=λi D e=>(cI.mp e).1;have lt:∀(k:Nat) i,as[k]?=aa (.inr i)->i<c.length:=λk i e=>by
  obtain⟨hl,hg⟩:=vK hs;have E:k<s.length:=by rw[hl];exact(cI.mp e).1
  rcases hg k s[k] (by simp[E])with⟨_,z,_⟩|⟨j,p,z1,z2,z3⟩
  .rw[e]at z;cases z
  .rw[e]at z1;cases z1;exact L _ _ z2
 refine⟨λj b=>(∃k:Nat,as[k]?=aa (.inr j)/\m k b)\/(j∉bq as/\S j b),⟨by rw[uR];exact r.len,O.ex,λj pv e=>?_,λj D e=>?_,λj b h=>?_,λi j b B C=>?_⟩,⟨g.fro,λb o e n=>g.keep b o e λz=>n (vt b z),g.there,λa z=>(g.fnew a z).imp id λw=>w.imp id (vt a),λb ⟨j,z⟩=>?_⟩,λb ⟨j,z⟩=>?_⟩
 .by_cases I:j∈bq as
  .obtain⟨k,E⟩:=Cp.mp I;obtain⟨D,q⟩:=M k j E;rw[qR as c f j k _ nd (lt k j E) E q]at e;cases e
  .rw[pK as c f j I]at e;obtain⟨v,B,C⟩:=r.val j pv e;exact⟨v,B,C.grow g fit⟩
 .by_cases I:j∈bq as
  .obtain⟨k,E⟩:=Cp.mp I;obtain⟨po',q⟩:=M k j E;rw[qR as c f j k _ nd (lt k j E) E q]at e;cases e;obtain⟨a,B,C⟩:=O.own k D q;obtain⟨v,Q,X⟩:=ha.own E;rw[up B]at Q;cases Q;have W:(λb=>(∃k:Nat,as[k]?=aa (.inr j)/\m k b)\/(j∉bq as/\S j b))=m k:=by
    funext b;refine propext ⟨λz=>?_,λz=>.inl ⟨k,E,z⟩⟩;rcases z with⟨l,z1,z2⟩|⟨z,_⟩
    .rw[wg nd E z1];exact z2
    .exact absurd I z
   exact⟨a,X,by rw[W];exact C⟩
  .rw[pK as c f j I]at e;obtain⟨a,B,C⟩:=r.own j D e;have W:(λb=>(∃k:Nat,as[k]?=aa (.inr j)/\m k b)\/(j∉bq as/\S j b))=S j:=by
    funext b;refine propext ⟨λz=>?_,λz=>.inr ⟨I,z⟩⟩;rcases z with⟨l,z1,z2⟩|⟨_,z⟩
    .exact absurd (Cp.mpr ⟨l,z1⟩) I
    .exact z
   have h3:d4 K y A D a (S j):=by refine C.mono (λ_ _ q=>q.grow g fit) (λ_ _ q=>q.grow g fit) λb o z q=>g.keep b o q λ⟨l,i,N,J⟩=>?_;have:=r.dist i j b J z;subst this;exact I (Cp.mpr ⟨l,N⟩)
   exact⟨a,B,by rw[W];exact h3⟩
 .rcases h with⟨k,B,C⟩|⟨B,C⟩
  .obtain⟨⟨D,q⟩,T⟩:=O.foot k b C;exact⟨⟨D,qR as c f j k _ nd (lt k j B) B q⟩,T⟩
  .obtain⟨⟨D,q⟩,T,o,P,q4⟩:=r.foot j b C;have no:¬U (kt as S) b:=λ⟨l,i,N,J⟩=>by have:=r.dist i j b J C;subst this;exact B (Cp.mpr ⟨l,N⟩)
   refine⟨⟨D,by rw[pK as c f j B];exact q⟩,λz=>?_,o,g.keep b o P no,q4⟩;rcases g.fnew b z with w|w|w
   .exact T w
   .rw[P]at w;cases w
   .exact no w
 .have G:∀{i j:Nat}{b:ac},(∃k:Nat,as[k]?=aa (.inr i)/\m k b)->(j∉bq as/\S j b)->False:=λ{i j b} ⟨k,N,J⟩ ⟨w3,Z⟩=>by
   obtain⟨_,_,o,P,_⟩:=r.foot j b Z;rcases g.onew b (hO b ⟨k,J⟩)with⟨l,i',z1,z2⟩|z
   .have:=r.dist i' j b z2 Z;subst this;exact w3 (Cp.mpr ⟨l,z1⟩)
   .rw[P]at z;cases z
  rcases B with B|B <;> rcases C with C|C
  .obtain⟨k,Q,X⟩:=B;obtain⟨l,b1,b2⟩:=C;have:=O.dist k l b X b2;subst this;rw[Q]at b1;cases b1;rfl
  .exact(G B C).elim
  .exact(G C B).elim
  .exact r.dist i j b B.2 C.2
 .rcases z with⟨k,_,z⟩|⟨_,z⟩
  .rcases g.onew b (hO b ⟨k,z⟩)with w|w
   .exact .inl (vt b w)
   .exact .inr w
  .exact .inl ⟨j,z⟩
 .rcases z with⟨k,_,z⟩|⟨_,z⟩
  .exact .inl ⟨k,z⟩
  .exact .inr ⟨j,z⟩
end
def DR(X:Cx)(E:XK)(e:ay)(d:af->R Slot):Prop :=
 ∀F S f a H Q,aJ X.K F S f a H->Ok X.K E a F S H (d f) (λs _ h i c=>∀v g,pD X.K c h s v g->(∀b,g b->H b=ae/\¬h b/\¬U i b/\∃o,c b=aa o/\dr o)->Q v c)->gd X e a H Q
def cr:List bY->af->Bool
 |[],_=>ah
 |.inl _::as,_::ss=>cr as ss
 |.inr _::as,.own _::ss=>cr as ss
 |_,_=>aj
theorem lp:∀{as:List bY}{ss:af},cr as ss=ah->∀(k:Nat) i,as[k]?=aa (.inr i)->∃a,ss[k]?=aa (.own a)
 |[],_,_,k,i,h=>by simp at h
 |.inl _::as,s::ss,q,0,i,h=>by simp at h
 |.inl _::as,s::ss,q,k+1,i,h=>by simpa using lp (as:=as) (ss:=ss) (by unfold cr at q;exact q) k i (by simpa using h)
 |.inr _::as,.own a::ss,q,0,i,h=>⟨a,rfl⟩
 |.inr _::as,.own a::ss,q,k+1,i,h=>by simpa using lp (as:=as) (ss:=ss) (by unfold cr at q;exact q) k i (by simpa using h)
 |.inr _::as,.val _::ss,q,k,i,h=>by cases q
 |.inr _::as,.none::ss,q,k,i,h=>by cases q
 |.inl _::as,[],q,k,i,h=>by cases q
 |.inr _::as,[],q,k,i,h=>by cases q
def cp{d:Type}(ε:af)(b:List bY)(r:R d):R d:=match r with
 |.ok s a=>if cr b a then .ok s (cu ε b a)else .no
 |.er c a=>if cr b a then .er c (cu ε b a)else .no
 |.no=>.no
def aC(g:af->R Slot)(c:af->R (List bY)):af->R Slot:=λε=>(c ε).bind λa ε1=>(aB (if(bq a).Nodup then b9 ε1 a else ae) ε1).bind λb ε1=>cp ε1 a (g b)
section
variable{l:dZ}{X:Cx}{E:XK}{pin:List Nat}{e:ay}{es:List ay}{j:af->R (List bY)}{pos:Pos}{x:Str}{k:Nat}{m:List Str}{g:af->R Slot}{p:Pos}{d:af->R Slot}
theorem Mv{K:ar}{F0 r:ac->Prop}{S0 A:Nat->ac->Prop}{a:af}{D:St}{H n:Hp}{c:List bY}{W:List V}{Q:VK}(r1:aJ K r A a D n)(g1:a8 (U S0) (U A) F0 r H n)(N:fg K D r n c W)(q:Ok K E D r A n ((aB (if(bq c).Nodup then b9 a c else ae) a).bind λB a=>cp a c (g B)) λs _ u S h=>∀v C,pD K h u s v C->(∀b,C b->H b=ae/\¬u b/\¬U S b/\∃o,h b=aa o/\dr o)->Q v h):bn K g W n Q E:=by
 have q:=Ok.bind q;by_cases nd:(bq c).Nodup
 .rw[if_pos nd]at q;cases es:b9 a c with
  |none=>rw[es]at q;exact q.elim
  |some B=>
   rw[es]at q;have q:=q r A n r1 (a8.refl ..);dsimp only at q;refine⟨r,kt c A,B,r1.cal N es nd,?_⟩;cases M:g B with
   |no=>rw[M]at q;exact q.elim
   |er cv O=>
    rw[M]at q;intro y u S h G L;unfold cp at q;dsimp only at q;by_cases f:cr c O=ah
    .rw[if_pos f]at q;obtain⟨P,F,J,_⟩:=r1.called N es nd G L (λ_ z=>z) (lp f);exact q y u P h F J
    .rw[if_neg f]at q;exact q.elim
   |ok s O=>
    rw[M]at q;intro v u S h C G L rv I Y;unfold cp at q;dsimp only at q;by_cases f:cr c O=ah
    .rw[if_pos f]at q;obtain⟨P,F,J,Z⟩:=r1.called N es nd G L (λ_ z=>.inl z) (lp f);refine q u P h F J v C rv λb z=>⟨mi g1 (Y b z),(I b z).1,λw=>?_,(I b z).2.2⟩
     rcases Z b w with w|⟨i,w⟩
     .exact(I b z).2.1 w
     .obtain⟨_,_,o,T,_⟩:=r1.foot i b w;rw[Y b z]at T;cases T
    .rw[if_neg f]at q;exact q.elim
 .rw[if_neg nd]at q;exact q.elim
theorem bV(c:cO l X.prog X.w X.K X.mg X.base x k m (bn X.K g))(r:Room k X.A)(o:jL l X E)(z:DG X E (e::es) j)(v:Gl X x:=by rfl)(w:(x==("__debug__":Str))=aj:=by decide) (B:aP (e::es) X.env=(aj,aL e X.env)::aP es X.env:=by rfl) (A:(cm pos (aP es X.env)).any (·.1)=aj:=by rfl):DR X E (.Call (.Name x p) (e::es) [] pos) (aC g j):=λF S i a H Q n h=>by obtain⟨f,J,s,G,y,u⟩:=c.ex;refine bX (BF G r v s u y .nil o gG w B A) (z F S i a H _ n ((Ok.bind h).imp λK b N L M r1 C q I D=>?_));rw[jC];exact Mv r1 C D q
def iF:Slot->Option PV
 |.val pv=>aa pv
 |.own (.lst xs)=>aa (.lst xs)
 |_=>ae
def az(d:af->R Slot):af->R PV:=λε=>(d ε).bind λs ε1=>aB (iF s) ε1
def LS:Slot->Option PO
 |.own a=>aa a
 |_=>ae
def rQ(d:af->R Slot):af->R PO:=λb=>(d b).bind λs a=>aB (LS s) a
theorem DR.dn(h:DR X E e d):DN X E e (rQ d):=λF S f i H Q u q=>by
 unfold rQ at q;refine h F S f i H Q u ?_;cases b:d f with
 |no=>rw[b]at q;exact q.elim
 |er c o=>rw[b]at q;exact q
 |ok s n=>
  rw[b]at q;cases s with
  |none=>exact q.elim
  |val pv=>exact q.elim
  |own G=>intro D B C r1 y v A r z;obtain⟨a,rfl,w⟩:=r;exact q D B C r1 y a A w z
theorem DR.de(h:DR X E e d):DE X E e (az d):=λF S ε f H Q i q=>by
 unfold az at q;cases b:d ε with
 |no=>rw[b]at q;exact q.elim
 |er c n=>refine h F S ε f H Q i ?_;rw[b]at q ⊢;exact q
 |ok s ε1=>
  cases s with
  |none=>rw[b]at q;exact q.elim
  |val pv=>refine h F S ε f H Q i ?_;rw[b]at q ⊢;exact λB z A r1 u v G o D=>q B z A r1 u v o.1
  |own r=>
   refine h.dn.de F S ε f H Q i ?_;unfold dF rQ;rw[b]at q ⊢;cases r with
   |lst xs=>exact q
   |dK a=>exact q
   |lls w=>exact q
   |dL w=>exact q
   |ins C fs=>exact q
   |dT a=>exact q
   |dN a=>exact q
   |inl C fs y xs=>exact q
def oQ(d:af->R Slot):af->R aG:=λε=>(d ε).bind λs a=>.ok (.ret s) a
theorem xn(B:DR X E e d):DS X E pin (.Return (aa e) pos) (oQ d):=λF S n f H D y h=>by
 refine eQ (oY bz) (B F S n f H _ y ?_);unfold oQ at h;cases i:d n with
 |no=>rw[i]at h;exact h.elim
 |er c r=>rw[i]at h;exact λx N J L A C=>h x N J f L A C (ig.refl _ _)
 |ok s q=>rw[i]at h;intro M I K r1 a v G u o;exact h v M I f K G r1 ⟨a.fro,a.keep,a.there,a.fnew,λb z=>z.elim (a.onew b) λw=>.inr (o b w).1⟩ (ig.refl _ _) u λb z=>(o b z).2
def pR(d:af->R Slot):af->R aG:=λb=>(d b).bind λ_ a=>.ok .next a
theorem xi(n:DR X E e d)(i:g_ e ae pos.line X.env=pure aj:=by rfl):DS X E pin (.Expr e pos) (pR d):=λF S c a H D f h=>eQ (vC bz i) (n F S c a H _ f (h.bindE.imp λx b s q r r1 w o v z u y=>o s q a r r1 (a8.refl ..) (ig.refl _ _)))
end
end Pu
namespace L2
section
variable{X:Cx}{m:List (ac×Obj)}{j:St}{H:Hp}{s:am}{d:c8}{x:Str}{l:List Str}{i:List Nat}
theorem Kg{F r T:ay}{y:Str}{py K G:Pos}{J k:Nat}{S:V->Hp->St->Prop}{E:List ay}{wi:TI}{ts:TT}{te:TE}(B:gA X d x l i)(hk:k<=i.length)(hc:X.calm=ah)(hi:PI X T r wi)(fD:∀C w A ex Y,PG (cH X d l C w A ex Y) T λv P H Q=>∃vs,vs.length=k+1/\P.length=l.length/\S v H vs/\Q (vs++P.drop (k+1)) H)(ht:∀C w A ex Y,pA (cH X d l C w A ex Y) E ts) (he:∀C w A ex Y,PE (cH X d l C w A ex Y) F te) (hN:X.N.Nodup) (tX:X.N[J]?=aa y) (oK:Loc X.env.scope y) (tY:g_ (.ListComp F [⟨T,r,E,0⟩] d K) (aa (.Name y py)) G.line X.env=pure ah) (hf:X.fn y=ah\/X.env.scope.names.lookup y=aa .local) (hs:∀x,mX r X.env x=pure x):PS X (.Assign [.Name y py] (.ListComp F [⟨T,r,E,0⟩] d K) G) (λD j H=>zP wi S k ts te i j H λv H'=>D.nx (j.set J (aa v)) H'):=by
 intro m s j H D I h;rw[exec_Assign_Name_used _ _ _ _ tY];refine au (wpAny_standAt (au ?_));show aw _ X.A (do let _ <-comprehension (.ListComp F [⟨T,r,E,0⟩] d K) d X.env _ (newList []) aj (aL r X.env) (aa (assign (.Name y py) X.env))) _ _ s;refine au (eW (?_:aw _ X.A _ (λ_ s'=>SP X m D .next s') X.xe s) (λ_ s' hq=>aQ (aQ hq)) λ_ _ e=>e);refine DL (use:=aa (assign (.Name y py) X.env)) B hk hc hi fD ht he hs I h λ{N s6 H3 H5 fp σ5 a f} I3 f3 I6 q=>?_;obtain⟨mm,hn6,_⟩:=I6.loc;have J6:Inv X m j _ _:=I3.unblock f3 I6 (Heap.SameBut.refl _ _);have Z:N.heap.objs.size≠X.env.locals:=λe=>absurd I3.lt (by rw[<-e];exact d9 _);have nce:∀z c,X.env.cells.lookup z=aa c->c≠N.heap.objs.size:=λz c e M=>by obtain⟨vv,oo,ho,_⟩:=I3.cell z c e;exact absurd (br ho) (by rw[M];exact d9 _)
 refine wpAny_assign_Name (Dz (v:=.ref a) J6 hN tX oK rfl (λs7 I7 ⟨a7,sb7,ha7⟩=>?_) hf);have na7:N.heap.objs.size≠a7:=by
  rcases ha7 with z|z
  .rw[z];exact Z
  .exact(nce _ _ z).symm
 refine⟨mm,hn6.sameBut sb7 na7,λkQ W=>⟨_,_,?_,q⟩⟩;have L:H5 N.heap.objs.size=ae:=I6.free;refine I7.call' (s':={s7 with heap:=kQ}) (ch:=[N.heap.objs.size]) rfl ⟨λb o e n hb O=>?_,λb o e n hb O=>?_,λb o e n O=>n,λb o e O=>?_,λb xs e=>e,λb o u e=>e,λb ps e=>⟨e,λc o M g=>⟨(W.2 c (λz=>by rw[z,L]at M;cases M)).trans g,M⟩⟩⟩ ?_ I7.bare λb hb=>?_
 .exact(W.2 b (by simpa using O)).trans e
 .exact⟨o.slots,(W.2 b (by simpa using O)).trans (by simpa using e)⟩
 .exact⟨o,(W.2 b (by simpa using O)).trans e⟩
 .intro b u e;refine(I7.hok b u e).stay (λc v hc q=>(W.2 c ?_).trans q) (λ_ q=>q) λ_ _ q=>q;rintro rfl;rcases hc with z|z
  .rw[<-z,L]at e;cases e
  .rw[L]at z;cases z
 .have e:b=N.heap.objs.size:=by simpa using hb
  subst e;refine⟨.inr I3.sz,Z,nce,λp hp M=>?_⟩;obtain⟨e3,_⟩:=I3.pin p hp;exact absurd (br e3) (by rw[M];exact d9 _)
theorem N6{n a:ay}{y:Str}{p u o f:Pos}{g:Nat}{h:List ay}{wi:TI}{ts:TT}{te:TE}(B:gA X d x l i)(K:X.calm=ah)(G:PI X (.Name x p) a wi)(E:∀C b c r q,pA (cH X d l C b c r q) h ts) (J:∀C b c r q,PE (cH X d l C b c r q) n te) (L:X.N.Nodup) (z:X.N[g]?=aa y) (A:Loc X.env.scope y) (w:g_ (.ListComp n [⟨.Name x p,a,h,0⟩] d o) (aa (.Name y u)) f.line X.env=pure ah) (I:X.fn y=ah\/X.env.scope.names.lookup y=aa .local) (F:∀x,mX a X.env x=pure x):PS X (.Assign [.Name y u] (.ListComp n [⟨.Name x p,a,h,0⟩] d o) f) (λD j H=>zO wi ts te i j H λv M=>D.nx (j.set g (aa v)) M):=Kg B (iN _) K G (A5 B) E J L z A w I F
end
end L2
namespace Pu
open L2
def cE(ε:af):List Nat->Option (List bY)
 |[]=>aa []
 |j::cap=>match ε[j]? with
  |some (.val pv)=>(cE ε cap).map (.inl pv::·)
  |some (.own _)=>(cE ε cap).map (.inr j::·)
  |_=>ae
def bD{b:Type}(cap:List Nat)(d:af->R b)(x:PV):af->R b:=λε=>(aB (cE ε cap) ε).bind λa _=>(aB (if(bq a).Nodup then b9 ε (.inl x::a)else ae) ε).bind λc _=>cp ε (.inl x::a) (d c)
def bg{a:Type}(r:R a):R a:=match r with
 |.er _ _=>.no
 |r=>r
def dA(cap:List Nat)(dt:af->R Bool)(de:af->R PV):List PV->List PV->af->R (List PV)
 |[],b,ε=>.ok b ε
 |x::d,b,ε=>(bg (bD cap dt x ε)).bind λk a=>match k with
  |true=>(bg (bD cap de x a)).bind λy c=>dA cap dt de d (b++[y]) c
  |false=>dA cap dt de d b a
def bK(cap:List Nat)(c:af->R (List PV))(dt:af->R Bool)(de:af->R PV):af->R PO:=λε=>(c ε).bind λxs ε1=>(dA cap dt de xs [] ε1).bind λb a=>.ok (.lst b) a
theorem xm{K:ar}{F:ac->Prop}{S:Nat->ac->Prop}{f:af}{d:St}{H:Hp}(r:aJ K F S f d H):∀{b:List Nat}{i:List bY},cE f b=aa i->∃c,fg K d F H i c/\eA d b=c.map aa
 |[],i,h=>by cases h;exact⟨[],rfl,rfl⟩
 |j::b,i,h=>by
  unfold cE at h;split at h
  .rename_i pv e;cases q:cE f b with
   |none=>rw[q]at h;cases h
   |some bs=>
    rw[q]at h;cases h;obtain⟨c,m,l⟩:=xm r q;obtain⟨v,g,n⟩:=r.val j pv e;refine⟨v::c,⟨v,c,rfl,n,m⟩,?_⟩;show(d[j]?).join::eA d b=_;rw[g,l];rfl
  .rename_i o e;cases q:cE f b with
   |none=>rw[q]at h;cases h
   |some bs=>
    rw[q]at h;cases h;obtain⟨c,m,l⟩:=xm r q;obtain⟨a,g,n⟩:=r.own j o e;refine⟨.ref a::c,⟨_,c,rfl,g,m⟩,?_⟩;show(d[j]?).join::eA d b=_;rw[g,l];rfl
  .cases h
theorem uJ{K:ar}{E:XK}{F:ac->Prop}{S:Nat->ac->Prop}{s:af}{f:St}{H:Hp}{G:Type}{b:List Nat}{d:af->R G}{x:PV}{v:V}{C:G->af->(ac->Prop)->(Nat->ac->Prop)->Hp->Prop}(r:aJ K F S s f H) (N:aO K H F x v) (h:Ok K E f F S H (bg (bD b d x s)) C):∃L l,aJ K F L l (aa v::eA f b) H/\Ok K E0 (aa v::eA f b) F L H (d l) (λa _ q _ p=>∃j w,aJ K q w j f p/\a8 (U S) (U w) F q H p/\C a j q w p):=by
 unfold bD at h;cases B:cE s b with
 |none=>rw[B]at h;exact h.elim
 |some g=>
  rw[B]at h;simp only[cf,R.bind_ok]at h;by_cases nd:(bq g).Nodup
  .rw[if_pos nd]at h;cases u:b9 s (.inl x::g)with
   |none=>rw[u]at h;exact h.elim
   |some l=>
    rw[u]at h;simp only[cf,R.bind_ok]at h;obtain⟨y,T,Q⟩:=xm r B;have o:fg K f F H (.inl x::g) (v::y):=⟨v,y,rfl,N,T⟩
    have n:aa v::eA f b=(v::y).map aa:=by rw[Q];rfl
    have m:(bq (.inl x::g)).Nodup:=nd;refine⟨kt (.inl x::g) S,l,by rw[n];exact r.cal o u m,?_⟩;rw[n];cases A:d l with
    |no=>rw[A]at h;exact h.elim
    |er c D=>
     rw[A]at h;unfold cp at h;dsimp only at h;by_cases i:cr (.inl x::g) D=ah
     .rw[if_pos i]at h;exact h.elim
     .rw[if_neg i]at h;exact h.elim
    |ok a D=>
     rw[A]at h;intro q w p O P;unfold cp at h;dsimp only at h;by_cases i:cr (.inl x::g) D=ah
     .rw[if_pos i]at h;obtain⟨M,I,J,_⟩:=r.called o u m O P (λ_ z=>z) (lp i);exact⟨_,M,I,J,h q M p I J⟩
     .rw[if_neg i]at h;exact h.elim
  .rw[if_neg nd]at h;exact h.elim
def vA(X:Cx)(a:List ay):TT:=λb H Q=>Bx (∀d s,Inv X d b H s->aw (aA X.prog X.w) X.A (forIn a ah λc r=>if r=ah then do let ok <-lP c X.env (aL c X.env);pure (ForInStep.yield ok)else pure (ForInStep.yield r)) (TP X d b Q) X.xe s)
def DF(X:Cx)(E:XK)(c:List ay)(d:af->R Bool):Prop:=∀F S f a H Q,aJ X.K F S f a H->Ok X.K E a F S H (d f) (λb _ _ _ g=>Q b g)->vA X c a H Q
def bP:af->R Bool:=λε=>.ok ah ε
theorem k6{X:Cx}{E:XK}:DF X E [] bP:=λF S d a H Q b h=>⟨λc s I=>Ji c s a H Q I (h F S H b (a8.refl ..))⟩
theorem mD{X:Cx}{E:XK}{c:ay}{d:af->R Bool}(h:DT X E c d):DF X E [c] d:=λF S b a H Q f q=>⟨λg s I=>OL lu g s a H Q I (h F S b a H Q f q)⟩
theorem Ok.bindB{K:ar}{E:XK}{b:St}{F s:ac->Prop}{S n:Nat->ac->Prop}{H p:Hp}{j i:Type}{D:i->af->(ac->Prop)->(Nat->ac->Prop)->Hp->Prop}{r:R j}{k:j->af->R i}(h:Ok K E b F S H (r.bind k) D)(g:a8 (U S) (U n) F s H p):Ok K E b s n p r (λa d _ _ _=>Ok K E b F S H (k a d) D):=by
 cases r with
 |no=>exact h
 |er c f=>exact λx u o q l m=>h x u o q l (g.trans m)
 |ok a f=>exact λu o q l m=>h
section
variable{X:Cx}{E:XK}{c:c8}{x:Str}{N':List Str}{cap:List Nat}
theorem a8.stay{O a F d:ac->Prop}{H b:Hp}(g:a8 O a F d H b){l:ac}{o:HO}(e:H l=aa o)(n:¬O l)(f:¬F l):b l=aa o/\¬d l/\¬a l :=
 ⟨g.keep l o e n,λz=>(g.fnew l z).elim f λw=>w.elim (λq=>by rw[e]at q;cases q) n,λz=>(g.onew l z).elim n λq=>by rw[e]at q;cases q⟩
theorem aJ.lay{K:ar}{F:ac->Prop}{S:Nat->ac->Prop}{h:af}{g:St}{H:Hp}{l:ac}{o o':HO}(r:aJ K F S h g H)(v:H l=aa o)(no:dr o)(u:¬F l)(nS:¬U S l):a8 (λb=>U S b\/b=l) (U S) F F H (L2.upd H l o')/\Fit (λb=>U S b\/b=l) F H/\aJ K F S h g (L2.upd H l o'):=by
 have f:a8 (λb=>U S b\/b=l) (U S) F F H (L2.upd H l o'):=⟨λ_ z=>z,λb o e n=>by rw[bj λz=>n (.inr z)];exact e,λb o e=>by
  by_cases i:b=l
  .subst i;exact⟨_,bT⟩
  .exact⟨o,by rw[bj i];exact e⟩,λ_ z=>.inl z,λ_ z=>.inl (.inl z)⟩
 have ft:Fit (λb=>U S b\/b=l) F H:=λb z=>by
  rcases z with z|rfl
  .exact r.fit b z
  .exact⟨u,_,v,no⟩
 refine⟨f,ft,r.len,λb z=>let ⟨o,q⟩:=r.ex b z;f.there b o q,λj pv e=>?_,λj s e=>?_,λj b z=>?_,r.dist⟩
 .obtain⟨w,d,a⟩:=r.val j pv e;exact⟨w,d,a.grow f ft⟩
 .obtain⟨w,d,a⟩:=r.own j s e;refine⟨w,d,a.mono (λ_ _ q=>q.grow f ft) (λ_ _ q=>q.grow f ft) λb o z q=>?_⟩;rw[bj (by rintro rfl;exact nS ⟨j,z⟩)];exact q
 .obtain⟨d,a,o,p,m⟩:=r.foot j b z;exact⟨d,a,o,by rw[bj (by rintro rfl;exact nS ⟨j,z⟩)];exact p,m⟩
theorem a8.lay{O d F h:ac->Prop}{H f:Hp}{l:ac}{o':HO}(g:a8 O d F h H f)(a:H l=ae):a8 O d F h H (L2.upd f l o'):=by
 refine⟨g.fro,λb o e n=>?_,λb o e=>?_,g.fnew,g.onew⟩
 .rw[bj (by rintro rfl;rw[a]at e;cases e)];exact g.keep b o e n
 .obtain⟨i,q⟩:=g.there b o e;exact⟨i,by rw[bj (by rintro rfl;rw[a]at e;cases e)];exact q⟩
theorem Cy{elt B:ay}{px:Pos}{ifs:List ay}{di:af->R (List PV)}{dt:af->R Bool}{de:af->R PV}(hi:DI X E (.Name x px) B di)(ht:∀C d f r p,DF (cH X c N' C d f r p) E0 ifs dt) (he:∀C d f r p,DE (cH X c N' C d f r p) E0 elt de){F:ac->Prop}{S:Nat->ac->Prop}{ε:af}{j:St}{H:Hp}{Q:VK} (rl:aJ X.K F S ε j H) (h:Ok X.K E j F S H (bK cap di dt de ε) (λpo _ s M g=>∀a Sa,d4 X.K g s po a Sa->(∀b,Sa b->H b=ae/\¬s b/\¬U M b/\∃o,g b=aa o/\dr o)->Q (.ref a) g)):zO (pO X (.Name x px) B) (λj H Q=>∀C d f r p,vA (cH X c N' C d f r p) ifs j H Q) (λj H Q=>∀C d f r p,gd (cH X c N' C d f r p) elt j H Q) cap j H Q:=by
 refine hi F S ε j H _ rl ((Ok.bind h).imp λA ε1 O S1 H1 r1 g1 h1 J vs RR rs hz hw keep l hl=>?_);have h1:=h1.bind;have hvl:vs.length=A.length:=rs.len;have a0:Al O O H1 (upd H1 l (.lst [])):=Al.new0 hl;have nF1:¬O l:=λz=>by obtain⟨o,q⟩:=r1.ex l z;rw[hl]at q;cases q
 have nS1:¬U S1 l:=λ⟨i,z⟩=>by obtain⟨_,_,o,q,_⟩:=r1.foot i l z;rw[hl]at q;cases q
 have hH:H l=ae:=mi g1 hl;refine⟨λi m G g=>m=A.length-i/\i<=A.length/\∃s M Z T,aJ X.K s M Z j g/\a8 (U S1) (U M) O s H1 g/\g l=aa (.lst G)/\¬s l/\¬U M l/\aY X.K g s T G/\G.length<=i /\ Ok X.K E j O S1 H1 (dA cap dt de (A.drop i) T Z) (λys' w W S2 N=>Ok X.K E j W S2 N (R.ok (PO.lst ys') w) (λpo _ s M g=>∀a Sa,d4 X.K g s po a Sa->(∀b,Sa b->H b=ae/\¬s b/\¬U M b/\∃o,g b=aa o/\dr o)->Q (.ref a) g)),⟨_,rfl,iN _,O,S1,ε1,[],r1.al a0,a0.grow,bT,nF1,nS1,rfl,ba _,h1⟩,?_⟩;rintro i m G N ⟨rfl,hi,W,S2,w,T,P,L,el,nF2,nS2,n,hyl,q2⟩;have RH:=keep S2 W N L;by_cases bR:i<A.length
 .obtain⟨v,hv⟩:∃v,vs[i]?=aa v:=⟨_,eO ∅⟩
  obtain⟨go,yl⟩:=(hw N RH i).1 v hv;refine .inr ⟨go,λv' g y=>⟨[aa v'],rfl,rfl,?_⟩⟩;obtain⟨e1,e2⟩:=yl v' g y;subst e1 e2;obtain⟨px',hx,rx⟩:=rs.back hv;have ed:A.drop i=px'::A.drop (i+1):=by rw[Am bR];congr 1;exact(cI.mp hx).2
  rw[ed]at q2;have rx2:=rx.grow L r1.fit;have q3:=Ok.bindB q2 L;obtain⟨Sb,ss,rb,okb⟩:=uJ P rx2 q3;intro C d f r p;refine ht C d f r p W Sb ss _ g _ rb (okb.imp λb _ F3 _ H3 _ _ ⟨Y,S3,r3,K,q4⟩=>?_);obtain⟨el3,nF3,nS3⟩:=K.stay el nS2 nF2;cases b with
  |false=>exact mj ⟨_,∅,rfl,bR,F3,S3,Y,T,r3,L.trans K,el3,nF3,nS3,n.grow K P.fit,∅,q4⟩
  |true=>refine mF ?_;have q5:Ok X.K E j O S1 H1 ((bg (bD cap de px' Y)).bind λy w=>dA cap dt de (A.drop (i+1)) (T++[y]) w) _:=q4;obtain⟨Sc,sc,rc,okc⟩:=uJ r3 (rx2.grow K P.fit) (Ok.bindB q5 (L.trans K));intro C d f r p;refine he C d f r p F3 Sc sc _ H3 _ rc (okc.imp λy _ F4 _ H4 _ _ ⟨ε4,S4,r4,g4,q6⟩ u ru=>?_);obtain⟨el4,nF4,nS4⟩:=g4.stay el3 nS3 nF3;have I:=(n.grow K P.fit).grow g4 r3.fit;obtain⟨gl,D,r5⟩:=r4.lay (o':=.lst (G++[u])) el4 trivial nF4 nS4;have g5:=((L.trans K).trans g4).lay (o':=.lst (G++[u])) hl;refine⟨el4,?_,_,∅,rfl,bR,F4,S4,ε4,T++[y],r5,g5,bT,nF4,nS4,(I.grow gl D).app (.one (ru.grow gl D)),by simp;lia,q6⟩;lia
 .have e:i=A.length:=∅
  subst e;refine .inl ⟨(hw N RH _).2 hvl.symm,?_⟩;rw[An]at q2;exact q2 W S2 N P L W S2 N P (a8.refl ..) l (λb=>b=l) ⟨⟨G,el,n⟩,λb=>oz⟩ λb z=>by subst z;exact⟨hH,nF2,nS2,_,el,trivial⟩
theorem gQ{j d:ay}{m pos:Pos}{i:List ay}{o:af->R (List PV)}{dt:af->R Bool}{de:af->R PV}(B:gA X c x N' cap)(w:X.calm=ah)(u:DI X E (.Name x m) d o)(q:∀C a b g f,DF (cH X c N' C a b g f) E0 i dt) (v:∀C a b g f,DE (cH X c N' C a b g f) E0 j de) (r:∀x,mX d X.env x=pure x:=by intro _;rfl):DN X E (.ListComp j [⟨.Name x m,d,i,0⟩] c pos) (bK cap o dt de):=λF S y l H Q p h=>bX (J8 (wi:=pO X (.Name x m) d) (ts:=λl H Q=>∀C a b g f,vA (cH X c N' C a b g f) i l H Q) (te:=λl H Q=>∀C a b g f,gd (cH X c N' C a b g f) j l H Q) (pos:=pos) B w wm (λC a b g f n s l H Q I h=>(h C a b g f).run n s I) (λC a b g f n s l H Q I h=>(h C a b g f).run n s I) r) (Cy u q v p h)
end
theorem HJ(x y:Tx):tS x++tS y=tS (x++y):=by
 show(⟨x.toArray++y.toArray⟩:Str)=⟨(x++y).toArray⟩
 simp
def a9:PV->PV->Option PV
 |.int i,.int j=>aa (.int (i+j))
 |.str x,.str y=>if(x++y).length<=bQ then aa (.str (x++y))else ae
 |.tup b,.tup a=>if b≠[]/\a≠[]/\b.length+a.length<=1000 then aa (.tup (b++a))else ae
 |.lst b,.lst a=>if b.length+a.length<=bQ then aa (.lst (b++a))else ae
 |_,_=>ae
def eT:PV->PV->Option PV
 |.int i,.int j=>aa (.int (i-j))
 |_,_=>ae
def sv(i:Int):Bool:=decide (-(2^64)<i/\i<2^64)
def jT:PV->PV->Option PV
 |.int i,.int j=>if sv i||sv j then aa (.int (i*j))else ae
 |.str x,.int j=>if 0<=j/\j<=100/\x.length<=100 then aa (.str (cM j.toNat x).flatten)else ae
 |_,_=>ae
def gy:PV->PV->Option PV
 |.int i,.int j=>if 0<j then aa (.int (i % j))else ae
 |_,_=>ae
def rG:PV->PV->Option PV
 |.int i,.int j=>if 0<=j/\j<=1000000/\i.natAbs<2^64 then aa (.int (i^j.toNat))else ae
 |_,_=>ae
def jw:PV->Option PV
 |.int i=>aa (.int (-i))
 |_=>ae
def CY:R2:=λx y H Q=>∃l b c a,x=.ref l/\y=.ref b/\Rd H l (.lst c)/\Rd H b (.lst a)/\c.length+a.length<=a6/\∀p,H p=ae->Q (.ref p) (upd H p (.lst (c++a)))
def Ca(K:ar):R2:=λx y H Q=>((kh λi j=>V.int (i+j)) x y H Q\/∃i j,x=.str i/\y=.str j/\i.length+j.length<=a6/\Q (.str (i++j)) H)\/(BI K x y H Q\/CY x y H Q)
def Da:R2:=λx y H Q=>rI yU (λi j=>.int (i*j)) x y H Q\/∃(z:Tx) (n:Nat),x=tV z/\y=.int n/\n<=100/\z.length<=100/\Q (tV (cM n z).flatten) H
section
variable{X:Cx}{K:ar}
theorem nD:P2 K (kh λi j=>.int (i-j)) eT:=λF H x y v u Q pv b a e q=>by
 unfold eT at e;split at e
 .cases e;exact⟨_,_,b,a,q _ F H (Al.refl ..) rfl⟩
 .cases e
theorem sG:P2 K (rI (λ_ j=>0<j) λi j=>.int (i % j)) gy:=λF H x y v u Q pv b a e q=>by
 unfold gy at e;split at e
 .split at e
  .cases e;exact⟨_,_,b,a,by assumption,q _ F H (Al.refl ..) rfl⟩
  .cases e
 .cases e
theorem OM:P2 K (rI B5 λi j=>.int (i^j.toNat)) rG:=λF H x y v u Q pv b a e q=>by
 unfold rG at e;split at e
 .split at e
  .cases e;exact⟨_,_,b,a,by assumption,q _ F H (Al.refl ..) rfl⟩
  .cases e
 .cases e
theorem Ei:P1 K (rU λi=>.int (-i)) jw:=λF H x v Q pv a e q=>by
 unfold jw at e;split at e
 .cases e;exact⟨_,a,q _ F H (Al.refl ..) rfl⟩
 .cases e
theorem y_{d:List (ac×Obj)}{c:St}{H:Hp}{s:am}{l:ac}{b:List V}(I:Inv X d c H s)(h:Rd H l (.lst b)):∃(a:List ai) (n:Nat),bx b a/\s.heap.get? l=aa {cls:=.type "list",data:=.seq a.toArray n}/\b.length<=a6:=by obtain⟨z,a,n,r,e⟩:=h.ok I.hok;exact⟨a,n,r,e,z⟩
theorem IG:b8 X (i_ .Add) CY:=by
 intro D s p H x y v u Q I i g h;obtain⟨l,b,z,w,rfl,rfl,f,j,C,q⟩:=h;cases i;cases g;obtain⟨c,n,r,e,_⟩:=y_ I f;obtain⟨a,A,d,o,_⟩:=y_ I j;have f:=r.length;have B:=d.length;refine PySem.P.add_list e o ?_ (by rw[cD,cD];lia);have m:c.toArray++a.toArray=(c++a).toArray:=by simp
 rw[m];exact⟨.ref _,_,I.lnew (t':=s.toks) (r.append d) (by rw[eN];lia),rfl,q _ I.fresh⟩
theorem fc:b8 X (i_ .Add) (Ca X.K):=(Pm.or Ix).or (Pg.or IG)
theorem eY:P2 K (Ca K) a9:=λF H x y v u Q pv l j e q=>by
 unfold a9 at e;split at e
 .cases e;exact .inl (.inl ⟨_,_,l,j,q _ F H (Al.refl ..) rfl⟩)
 .rename_i x y;split at e
  .rename_i c;cases e;refine .inl (.inr ⟨_,_,l.1,j.1,?_,?_⟩)
   .rw[kq,kq];rw[eN]at c;exact c4 c jy
   .exact q _ F H (Al.refl ..) ⟨by rw[HJ];rfl,c⟩
  .cases e
 .rename_i w s;split at e
  .rename_i c;cases e;obtain⟨a,n,rfl,r,f⟩:=l;obtain⟨b,m,rfl,o,d⟩:=j;have h:=f.len;have g:=d.len;refine .inr (.inl ⟨a,b,n,m,rfl,rfl,cS.of r,cS.of o,λz=>c.1 (by rw[z]at h;exact sW h.symm),by rw[h,g];exact yw c.2.2,λz=>absurd (by rw[z]at g;exact sW g.symm) c.2.1,λ_ p i=>?_⟩);exact q _ F _ (Al.new0 i) ⟨p,_,rfl,bT,(Al.new0 i).reps (f.app d)⟩
  .cases e
 .rename_i w s;split at e
  .rename_i c;cases e;obtain⟨a,n,rfl,r,B,f⟩:=l;obtain⟨b,m,rfl,o,A,d⟩:=j;have h:=f.len;have g:=d.len;refine .inr (.inr ⟨a,b,n,m,rfl,rfl,r,o,by rw[h,g];exact c4 c jy,λp i=>?_⟩);exact q _ _ _ (Al.new i) ⟨p,_,rfl,.inl bT,.inr rfl,(Al.new i).reps (f.app d)⟩
  .cases e
 .cases e
theorem yB:b8 X (i_ .Mult) Da:=O_.or Lw
theorem yd:P2 K Da jT:=λF H x y v u Q pv b a e q=>by
 unfold jT at e;split at e
 .rename_i i j;split at e
  .rename_i h;cases e;refine .inl ⟨_,_,b,a,?_,q _ F H (Al.refl ..) rfl⟩;rw[oq]at h;exact h.imp of_decide_eq_true of_decide_eq_true
  .cases e
 .rename_i x j;split at e
  .rename_i h;cases e;refine .inr ⟨x,j.toNat,b.1,?_,∅,h.2.2,q _ F H (Al.refl ..) ⟨rfl,?_⟩⟩
   .rw[show u=V.int j from a];congr 1;lia
   .rw[Ky];have c:j.toNat<=100:=∅
    exact c4 (Nat.mul_le_mul c h.2.2) (by decide)
  .cases e
 .cases e
def b0(f:Int->Int->Bool):PV->PV->Option PV
 |.int i,.int j=>aa (.bl (f i j))
 |_,_=>ae
theorem g6{f:Int->Int->Bool}:P2 K (kh λi j=>.bl (f i j)) (b0 f):=λF H x y v u Q pv b a e q=>by
 unfold b0 at e;split at e
 .cases e;exact⟨_,_,b,a,q _ F H (Al.refl ..) rfl⟩
 .cases e
def dy:PV->Option V
 |.non=>aa .non
 |.bl b=>aa (.bl b)
 |.int i=>aa (.int i)
 |.str x=>aa (tV x)
 |_=>ae
theorem jq{H:Hp}{F:ac->Prop}{x:PV}{v w:V}(r:aO K H F x v)(e:dy x=aa w):v=w:=by
 cases x <;> simp[dy]at e <;> subst e
 .exact r
 .exact r
 .exact r
 .exact r.1
theorem ut{x:PV}{w:V}(e:dy x=aa w):g7 w=ah:=by
 cases x <;> simp[dy]at e <;> subst e <;> rfl
mutual
def cY:PV->PV->Option Bool
 |.tup c,y=>match y with
  |.tup a=>fZ c a
  |_=>ae
 |.lst c,y=>match y with
  |.lst a=>fZ c a
  |_=>ae
 |.non,y=>(dy y).map (fI .non)
 |.bl b,y=>(dy y).map (fI (.bl b))
 |.int i,y=>(dy y).map (fI (.int i))
 |.str x,y=>(dy y).map (fI (tV x))
 |.raw _,_=>ae
 |.exc _,_=>ae
def fZ:List PV->List PV->Option Bool
 |[],c=>aa c.isEmpty
 |x::d,c=>match c with
  |[]=>aa aj
  |y::c=>(cY x y).bind λa=>(fZ d c).map λb=>a&&b
end
mutual
def iq:PV->Nat
 |.tup a=>fq a+1
 |.lst a=>fq a+1
 |_=>0
def fq:List PV->Nat
 |[]=>0
 |x::a=>max (iq x) (fq a)
end
theorem Ey{H:Hp}{d a:Nat}{x y:V}{k:Bool}(h:gX K H d x y k)(l:d<=a):gX K H a x y k:=λX g i b s u v A I f c j=>h X g i b s u v A I f c ∅
theorem vB{H:Hp}{F:ac->Prop}{w:V}{y:PV}{u:V}{k:Bool}{d:Nat}(b:g7 w=ah)(e:(dy y).map (fI w)=aa k)(a:aO K H F y u):gX K H d w u k:=by
 cases q:dy y with
 |none=>rw[q]at e;cases e
 |some z=>
  rw[q]at e;cases e;rw[jq a q];exact G8 b (ut q)
theorem GJ{H:Hp}{a:ac}{c b:List V}(h:Rd H a (.lst c))(g:Rd H a (.lst b)):c=b:=by
 rcases h with h|⟨o,h⟩ <;> rcases g with g|⟨d,g⟩ <;> rw[h]at g <;> cases g <;> rfl
theorem Ox{a:Bool}{e:Nat->Bool}{n m:Nat}:fJ (λj=>if j=0 then a else e (j-1)) (n+1) (m+1)=(a&&fJ e n m):=by
 unfold fJ;rw[show min (n+1) (m+1)=min n m+1 by lia,Ae,p8,wH,if_pos rfl,Bool.and_assoc];congr 1;congr 1
 .simp
mutual
theorem ym{H:Hp}{F:ac->Prop}:∀(x y:PV) {v:V}{k:Bool},cY x y=aa k->aO K H F x v->aO K H F y v->k=ah
 |.tup h,y,v,k,e,d,c=>by
  unfold cY at e;split at e
  .obtain⟨a,n,rfl,j,f⟩:=d;obtain⟨b,m,l,g,i⟩:=c;cases l;rw[j]at g;cases g;exact y4 h _ e f i
  .cases e
 |.lst h,y,v,k,e,d,c=>by
  unfold cY at e;split at e
  .obtain⟨a,n,rfl,j,_,f⟩:=d;obtain⟨b,m,l,g,_,i⟩:=c;cases l;rw[GJ j g]at f;exact y4 h _ e f i
  .cases e
 |.non,y,v,k,e,d,c=>by
  unfold cY at e;cases q:dy y with
  |none=>rw[q]at e;cases e
  |some z=>rw[q]at e;cases e;rw[<-jq c q,show v=V.non from d];rfl
 |.bl b,y,v,k,e,d,c=>by
  unfold cY at e;cases q:dy y with
  |none=>rw[q]at e;cases e
  |some z=>rw[q]at e;cases e;rw[<-jq c q,show v=V.bl b from d];exact beq_self_eq_true b
 |.int b,y,v,k,e,d,c=>by
  unfold cY at e;cases q:dy y with
  |none=>rw[q]at e;cases e
  |some z=>rw[q]at e;cases e;rw[<-jq c q,show v=V.int b from d];exact beq_self_eq_true b
 |.str b,y,v,k,e,d,c=>by
  unfold cY at e;cases q:dy y with
  |none=>rw[q]at e;cases e
  |some z=>rw[q]at e;cases e;rw[<-jq c q,show v=tV b from d.1];exact beq_self_eq_true (tS b)
 |.raw _,_,_,_,e,_,_=>by unfold cY at e;cases e
 |.exc _,_,_,_,e,_,_=>by unfold cY at e;cases e
theorem y4{H:Hp}{F:ac->Prop}:∀(d c:List PV) {f:List V}{k:Bool},fZ d c=aa k->aY K H F d f->aY K H F c f->k=ah
 |[],c,f,k,e,i,g=>by
  unfold fZ at e;rw[show f=[] from i]at g;have:=g.len;cases c with
  |nil=>cases e;rfl
  |cons=>simp at this
 |x::d,c,f,k,e,i,g=>by
  unfold fZ at e;obtain⟨v,r,rfl,m,l⟩:=i;cases c with
  |nil=>have:=g.len;simp at this
  |cons y c=>
   obtain⟨q,s,p,o,n⟩:=g;cases p;simp only at e;cases h:cY x y with
   |none=>rw[h]at e;cases e
   |some a=>
    cases j:fZ d c with
    |none=>rw[h,j]at e;cases e
    |some b=>
     rw[h,j]at e;cases e;rw[ym x y h m o,y4 d c j l n];rfl
end
mutual
theorem ON{H:Hp}{F:ac->Prop}:∀(x y:PV) {v u:V}{k:Bool},cY x y=aa k->aO K H F x v->aO K H F y u->gX K H (iq x) v u k
 |.tup i,y,v,u,k,e,d,c=>by
  have p:=e;unfold cY at e;split at e
  .rename_i h;obtain⟨a,r,rfl,o,l⟩:=id d;obtain⟨b,q,rfl,n,j⟩:=id c;by_cases g:a=b
   .subst g;rw[ym _ _ p d c];exact A_
   .obtain⟨f,m,rfl⟩:=rW i h e l j;unfold iq;exact Ic (cS.of o) (cS.of n) g m
  .cases e
 |.lst i,y,v,u,k,e,d,c=>by
  have p:=e;unfold cY at e;split at e
  .rename_i h;obtain⟨a,r,rfl,o,_,l⟩:=id d;obtain⟨b,q,rfl,n,_,j⟩:=id c;by_cases g:a=b
   .subst g;rw[ym _ _ p d c];exact A_
   .obtain⟨f,m,rfl⟩:=rW i h e l j;unfold iq;exact FO (.inl o) (.inl n) g m
  .cases e
 |.non,y,v,u,k,e,d,c=>by unfold cY at e;rw[show v=V.non from d];exact vB rfl e c
 |.bl b,y,v,u,k,e,d,c=>by unfold cY at e;rw[show v=V.bl b from d];exact vB rfl e c
 |.int b,y,v,u,k,e,d,c=>by unfold cY at e;rw[show v=V.int b from d];exact vB rfl e c
 |.str b,y,v,u,k,e,d,c=>by unfold cY at e;rw[show v=tV b from d.1];exact vB rfl e c
 |.raw _,_,_,_,_,e,_,_=>by unfold cY at e;cases e
 |.exc _,_,_,_,_,e,_,_=>by unfold cY at e;cases e
theorem rW{H:Hp}{F:ac->Prop}:∀(d c:List PV) {g i:List V}{k:Bool},fZ d c=aa k->aY K H F d g->aY K H F c i -> ∃f:Nat->Bool,(∀(j:Nat) x y,g[j]?=aa x->i[j]?=aa y->gX K H (fq d) x y (f j))/\k=fJ f g.length i.length
 |[],c,g,i,k,e,n,l=>by
  unfold fZ at e;rw[show g=[] from n];refine⟨λ_=>ah,λj x y h=>by simp at h,?_⟩;have:=l.len;cases e;unfold fJ;cases c with
  |nil=>simp at this;simp[this]
  |cons=>rw[this];simp
 |x::d,c,g,i,k,e,n,l=>by
  unfold fZ at e;obtain⟨v,r,rfl,B,A⟩:=n;cases c with
  |nil=>
   cases e;rw[show i=[] from l];exact⟨λ_=>ah,λj x y _ h=>by simp at h,by simp[fJ]⟩
  |cons y c=>
   obtain⟨u,E,rfl,D,C⟩:=l;simp only at e;cases m:cY x y with
   |none=>rw[m]at e;cases e
   |some a=>
    cases o:fZ d c with
    |none=>rw[m,o]at e;cases e
    |some b=>
     rw[m,o]at e;cases e;obtain⟨f,z,rfl⟩:=rW d c o A C;refine⟨λj=>if j=0 then a else f (j-1),λj p q w s=>?_,by rw[eX,eX,Ox]⟩;cases j with
     |zero=>simp at w s;subst w s;show gX K H _ _ _ (if(0:Nat)=0 then a else f (0-1));rw[if_pos rfl];exact Ey (ON x y m B D) (by unfold fq;exact Nat.le_max_left _ _)
     |succ j=>show gX K H _ _ _ (if j+1=0 then a else f (j+1-1));rw[if_neg ∅];exact Ey (z j p q (by simpa using w) (by simpa using s)) (show fq d<=max (iq x) (fq d)from Nat.le_max_right _ _)
end
def eqT(neg:Bool)(x y:PV):Option PV:=match dy x,dy y with
 |some v,aa u=>if nY v u then aa (.bl (neg^^decide (v=u)))else ae
 |none,ae=>if iq x<=8 then(cY x y).map λk=>.bl (neg^^k)else ae
 |_,_=>ae
def D4(K:ar):R2:=λx y H Q=>C3 x y H Q\/rn K aj x y H Q
def A6(K:ar):R2:=λx y H Q=>Cc x y H Q\/rn K ah x y H Q
theorem ir(a:X.A.units+64<cLine):b8 X (eh .Eq) (D4 X.K):=Pi.or (Gb a)
theorem uO(a:X.A.units+64<cLine):b8 X (eh .NotEq) (A6 X.K):=Px.or (L1 a)
theorem D5{H:Hp}{F:ac->Prop}{x y:PV}{v u:V}{k:Bool}{Q:VK}{neg:Bool}(h:dy x=ae)(e:cY x y=aa k)(B:iq x<=8)(A:aO K H F x v)(w:aO K H F y u)(q:Q (.bl (neg^^k)) H):rn K neg v u H Q:=by
 have d:∀{g:Bool},k=g->Q (.bl (if neg=ah then !g else g)) H:=λ{g} z=>by subst z;cases neg <;> simpa using q
 cases x with
 |tup c=>
  unfold cY at e;split at e
  .rename_i i;obtain⟨a,l,rfl,r,n⟩:=A;obtain⟨b,j,rfl,p,m⟩:=w;obtain⟨f,o,s⟩:=rW c i e n m;unfold iq at B;exact⟨a,b,l,j,fq c,f,rfl,rfl,.inr ⟨cS.of r,cS.of p⟩,∅,o,d s⟩
  .cases e
 |lst c=>
  unfold cY at e;split at e
  .rename_i i;obtain⟨a,l,rfl,r,_,n⟩:=A;obtain⟨b,j,rfl,p,_,m⟩:=w;obtain⟨f,o,s⟩:=rW c i e n m;unfold iq at B;exact⟨a,b,l,j,fq c,f,rfl,rfl,.inl ⟨.inl r,.inl p⟩,∅,o,d s⟩
  .cases e
 |raw _=>unfold cY at e;cases e
 |exc _=>unfold cY at e;cases e
 |non=>cases h
 |bl _=>cases h
 |int _=>cases h
 |str _=>cases h
theorem ik:P2 K (D4 K) (eqT aj):=λF H x y v u Q pv g f e q=>by
 unfold eqT at e;split at e
 .rename_i a b d h;split at e
  .rename_i i;cases e;rw[jq g d,jq f h];refine .inl ⟨i,?_⟩;have:=q (.bl (decide (a=b))) F H (Al.refl ..) (by simp[aO]);exact this
  .cases e
 .rename_i d h;split at e
  .rename_i j;cases c:cY x y with
   |none=>rw[c]at e;cases e
   |some k=>
    rw[c]at e;cases e;exact .inr (D5 (neg:=aj) d c j g f (q _ F H (Al.refl ..) rfl))
  .cases e
 .cases e
theorem vG:P2 K (A6 K) (eqT ah):=λF H x y v u Q pv g f e q=>by
 unfold eqT at e;split at e
 .rename_i a b d h;split at e
  .rename_i i;cases e;rw[jq g d,jq f h];refine .inl ⟨i,?_⟩;have:=q (.bl (!decide (a=b))) F H (Al.refl ..) (by simp[aO]);exact this
  .cases e
 .rename_i d h;split at e
  .rename_i j;cases c:cY x y with
   |none=>rw[c]at e;cases e
   |some k=>
    rw[c]at e;cases e;exact .inr (D5 (neg:=ah) d c j g f (q _ F H (Al.refl ..) rfl))
  .cases e
 .cases e
end
end Pu
namespace Pu
open L2
section
variable{X:Cx}{K:ar}
def ur(i j:Tx):Bool:=!(EH (tS j) (tS i) 0 (tS j).length 1).isEmpty
def i8:List PV->Option (List V)
 |[]=>aa []
 |x::a=>(dy x).bind λv=>(i8 a).map λr=>v::r
theorem xC{H:Hp}{F:ac->Prop}:∀{a:List PV}{d b:List V},aY K H F a d->i8 a=aa b->d=b/\b.all g7=ah
 |[],_,_,r,e=>by cases e;exact⟨r,rfl⟩
 |x::a,_,b,⟨v,r,rfl,g,f⟩,e=>by
  unfold i8 at e;cases q:dy x with
  |none=>rw[q]at e;cases e
  |some w=>
   cases c:i8 a with
   |none=>rw[q,c]at e;cases e
   |some j=>
    rw[q,c]at e;cases e;obtain⟨i,h⟩:=xC f c;exact⟨by rw[jq g q,i],by rw[p8,ut q,h];rfl⟩
def oU(neg:Bool):PV->PV->Option PV
 |.str x,.str y=>aa (.bl (neg^^ur x y))
 |x,.lst a=>(dy x).bind λv=>(i8 a).map λb=>.bl (neg^^rK v b)
 |x,.tup a=>(dy x).bind λv=>(i8 a).map λb=>.bl (neg^^rK v b)
 |_,_=>ae
def Eo(K:ar):R2:=λx y H Q=>(∃i j,x=.str i/\y=.str j/\Q (.bl (!(EH j i 0 j.length 1).isEmpty)) H)\/yA K aj x y H Q
theorem M_:b8 X (eh .In) (Eo X.K):=Pd.or Nh
theorem BJ{H:Hp}{F:ac->Prop}{x:PV}{c:List PV}{v:V}{p:ac}{b:List V}{Q:VK}{neg:Bool}{pv:PV}(g:aO K H F x v)(i:cb K H p b\/cS K H p b)(h:aY K H F c b)(e:((dy x).bind λv=>(i8 c).map λf=>PV.bl (neg^^rK v f))=aa pv) (q:∀w,aO K H F pv w->Q w H):yA K neg v (.ref p) H Q:=by
 cases a:dy x with
 |none=>rw[a]at e;cases e
 |some w=>
  cases d:i8 c with
  |none=>rw[a,d]at e;cases e
  |some f=>
   rw[a,d]at e;cases e;obtain⟨rfl,j⟩:=xC h d;rw[jq g a];refine⟨p,b,rfl,i,ut a,j,?_⟩;have:=q _ rfl;cases neg <;> simpa using this
theorem FT:P2 K (Eo K) (oU aj):=λF H x y v u Q pv d c e q=>by
 unfold oU at e;split at e
 .cases e;exact .inl ⟨_,_,d.1,c.1,by have:=q _ F H (Al.refl ..) rfl;simpa[ur]using this⟩
 .obtain⟨a,h,rfl,g,_,f⟩:=c;exact .inr (BJ (neg:=aj) d (.inl (.inl g)) f e λw b=>q w F H (Al.refl ..) b)
 .obtain⟨a,h,rfl,g,f⟩:=c;exact .inr (BJ (neg:=aj) d (.inr (cS.of g)) f e λw b=>q w F H (Al.refl ..) b)
 .cases e
def rm(a:Bool):PV->PV->Option PV
 |x,.non=>match x with
  |.non=>aa (.bl (a^^ah))
  |.raw _=>ae
  |_=>aa (.bl (a^^aj))
 |_,_=>ae
theorem F8{H:Hp}{F:ac->Prop}{x:PV}{v:V}(r:aO K H F x v)(h:x≠.non)(c:∀w,x≠.raw w):decide (v=V.non)=aj:=by
 refine decide_eq_false λz=>?_;subst z;cases x with
 |non=>exact h rfl
 |raw w=>exact c w rfl
 |bl _=>cases r
 |int _=>cases r
 |str _=>cases r.1
 |tup _=>obtain⟨a,b,e,_⟩:=r;cases e
 |lst _=>obtain⟨a,b,e,_⟩:=r;cases e
 |exc _=>obtain⟨a,e,_⟩:=r;cases e
theorem FU{H:Hp}{F:ac->Prop}{x y:PV}{v u:V}{Q:VK}{pv:PV}{a:Bool}(c:aO K H F x v)(f:aO K H F y u)(e:rm a x y=aa pv)(q:∀w d b,Al F d H b->aO K b d pv w->Q w b):u=.non/\Q (.bl (a^^decide (v=V.non))) H:=by
 unfold rm at e;split at e
 .refine⟨f,?_⟩;split at e
  .cases e;rw[show v=V.non from c];exact q _ F H (Al.refl ..) rfl
  .cases e
  .rename_i h g;cases e;rw[F8 c (λz=>h z) (λw z=>g w z)];exact q _ F H (Al.refl ..) rfl
 .cases e
theorem Nf:P2 K (λx y H Q=>y=.non/\Q (.bl (decide (x=.non))) H) (rm aj):=λF H x y v u Q pv b a e q=>by have:=FU b a e q;simpa using this
def aN:List PV->Option PV
 |[.str x]=>aa (.int x.length)
 |[.lst xs]=>aa (.int xs.length)
 |[.tup xs]=>aa (.int xs.length)
 |_=>ae
theorem gY{H:Hp}{F:ac->Prop}{x:PV}{a:List V}(r:aY K H F [x] a):∃v,a=[v]/\aO K H F x v:=by obtain⟨v,b,rfl,d,c⟩:=r;rw[show b=[] from c];exact⟨v,rfl,d⟩
theorem dP:PL K (λg H Q=>∃x n,g=[x]/\BA K x H n/\Q (.int n) H) aN:=λF H g i Q pv c e q=>by
 unfold aN at e;split at e
 .cases e;obtain⟨v,rfl,h⟩:=gY c;rw[h.1];exact⟨_,_,rfl,⟨by rw[kq];exact c4 h.2 jy,rfl⟩,by rw[kq];exact q _ F H (Al.refl ..) rfl⟩
 .cases e;obtain⟨v,rfl,a,b,rfl,f,_,d⟩:=gY c;exact⟨_,_,rfl,.inl ⟨b,.inl f,rfl⟩,by rw[d.len];exact q _ F H (Al.refl ..) rfl⟩
 .cases e;obtain⟨v,rfl,a,b,rfl,f,d⟩:=gY c;exact⟨_,_,rfl,.inr ⟨b,cS.of f,rfl⟩,by rw[d.len];exact q _ F H (Al.refl ..) rfl⟩
 .cases e
def jM:List PV->Option PO
 |[.lst a]=>aa (.lst a)
 |[.tup a]=>aa (.lst a)
 |_=>ae
theorem yL:k_ K (λh H Q=>∃p c,h=[.ref p]/\(cb K H p c\/cS K H p c)/\∀l,H l=ae->Q (.ref l) (upd H l (.lst c))) jM:=λF H h m Q n j i e q=>by
 unfold jM at e;split at e
 .cases e;obtain⟨v,rfl,a,d,rfl,g,_,f⟩:=gY i;exact⟨a,d,rfl,.inl (.inl g),λl b=>q l F _ _ (Al.new0 b) (u5 b f) (vk b j trivial)⟩
 .cases e;obtain⟨v,rfl,a,d,rfl,g,f⟩:=gY i;exact⟨a,d,rfl,.inr (cS.of g),λl b=>q l F _ _ (Al.new0 b) (u5 b f) (vk b j trivial)⟩
 .cases e
def iB:List PV->Option PV
 |[.lst a]=>aa (.tup a)
 |[.tup a]=>aa (.tup a)
 |_=>ae
theorem sq:PL K (λg H Q=>∃p d,g=[.ref p]/\((cb K H p d/\∀l,H l=ae->Q (.ref l) (upd H l (.tup d)))\/(cS K H p d/\Q (.ref p) H))) iB:=λF H g j Q pv h e q=>by
 unfold iB at e;split at e
 .cases e;obtain⟨v,rfl,a,b,rfl,c,_,f⟩:=gY h;exact⟨a,b,rfl,.inl ⟨.inl c,λl i=>q _ F _ (Al.new0 i) ⟨l,b,rfl,bT,(Al.new0 i).reps f⟩⟩⟩
 .cases e;obtain⟨v,rfl,a,b,rfl,c,f⟩:=gY h;exact⟨a,b,rfl,.inr ⟨cS.of c,q _ F H (Al.refl ..) ⟨a,b,rfl,c,f⟩⟩⟩
 .cases e
def f8:List PV->Option (List Tx)
 |[]=>aa []
 |.str x::a=>(f8 a).map (x::·)
 |_=>ae
def ak(a:List Tx):List PV:=a.map .str
theorem nI(a:List Tx):f8 (ak a)=aa a:=by
 induction a with
 |nil=>rfl
 |cons x a b=>show(f8 (ak a)).map (x::·)=_;rw[b];rfl
theorem xl:∀{a:List PV}{b:List Tx},f8 a=aa b->a=ak b
 |[],b,e=>by cases e;rfl
 |.str x::a,b,e=>by
  unfold f8 at e;cases q:f8 a with
  |none=>rw[q]at e;cases e
  |some r=>rw[q]at e;cases e;rw[xl q];rfl
 |.non::_,_,e=>by cases e
 |.bl _::_,_,e=>by cases e
 |.int _::_,_,e=>by cases e
 |.tup _::_,_,e=>by cases e
 |.lst _::_,_,e=>by cases e
 |.raw _::_,_,e=>by cases e
 |.exc _::_,_,e=>by cases e
theorem Pa{H:Hp}{F:ac->Prop}:∀{a:List Tx}{b:List V},aY K H F (ak a) b↔b=c7 a/\∀x∈a,x.length<=bQ
 |[],b=>by simp[ak,aY,c7]
 |x::a,b=>by
  show(∃v r,b=v::r/\(v=tV x/\x.length<=bQ)/\aY K H F (ak a) r)↔_;constructor
  .rintro⟨v,r,rfl,⟨rfl,f⟩,h2⟩;obtain⟨rfl,d⟩:=Pa.mp h2;exact⟨rfl,λy c=>by
    rcases bW.mp c with rfl|c
    .exact f
    .exact d y c⟩
  .rintro⟨rfl,h⟩;exact⟨tV x,c7 a,rfl,⟨rfl,h x (by simp)⟩,Pa.mpr ⟨rfl,λy c=>h y (by simp[c])⟩⟩
def lw:List PV->Option PO
 |[.lst b]=>(f8 b).bind λa=>if a.length<64 then aa (.lst (ak (bw a)))else ae
 |[.tup b]=>(f8 b).bind λa=>if a.length<64 then aa (.lst (ak (bw a)))else ae
 |_=>ae
theorem xX:k_ K (λm H Q=>∃(p:ac) (b:List Tx),m=[.ref p]/\(cb K H p (c7 b)\/cS K H p (c7 b))/\b.length<64/\∀l,H l=ae->Q (.ref l) (upd H l (.lst (c7 (bw b))))) lw:=λF H m z Q o y n e q=>by
 have f:∀{g:List PV}{c:List V}{a:ac},((f8 g).bind λb=>if b.length<64 then aa (PO.lst (ak (bw b)))else ae)=aa o->aY K H F g c->(cb K H a c\/cS K H a c) ->
   ∃(p:ac) (b:List Tx),[V.ref a]=[.ref p]/\(cb K H p (c7 b)\/cS K H p (c7 b))/\b.length<64/\∀l,H l=ae->Q (.ref l) (upd H l (.lst (c7 (bw b)))):=λ{g c a} e d u=>by
  cases h:f8 g with
  |none=>rw[h]at e;cases e
  |some b=>
   rw[h]at e;simp only[gu]at e;split at e
   .rename_i r;cases e;rw[xl h]at d;obtain⟨rfl,w⟩:=Pa.mp d;refine⟨a,b,rfl,u,r,λl i=>q l F _ _ (Al.new0 i) (u5 i (Pa.mpr ⟨rfl,λx s=>w x ((jr b).mem_iff.mp s)⟩)) (vk i y trivial)⟩
   .cases e
 unfold lw at e;split at e
 .obtain⟨v,rfl,a,c,rfl,j,_,d⟩:=gY n;exact f e d (.inl (.inl j))
 .obtain⟨v,rfl,a,c,rfl,j,d⟩:=gY n;exact f e d (.inr (cS.of j))
 .cases e
def kW:List PV->Option (List Bool)
 |[]=>aa []
 |.bl b::a=>(kW a).map (b::·)
 |_=>ae
theorem CA{H:Hp}{F:ac->Prop}:∀{a:List PV}{c:List V}{bs:List Bool},aY K H F a c->kW a=aa bs->c=bs.map V.bl
 |[],_,_,r,e=>by cases e;exact r
 |.bl b::a,_,bs,⟨v,r,rfl,f,d⟩,e=>by
  unfold kW at e;cases q:kW a with
  |none=>rw[q]at e;cases e
  |some g=>rw[q]at e;cases e;rw[CA d q,show v=V.bl b from f];rfl
 |.non::_,_,_,_,e=>by cases e
 |.str _::_,_,_,_,e=>by cases e
 |.int _::_,_,_,_,e=>by cases e
 |.tup _::_,_,_,_,e=>by cases e
 |.lst _::_,_,_,_,e=>by cases e
 |.raw _::_,_,_,_,e=>by cases e
 |.exc _::_,_,_,_,e=>by cases e
def pw:List PV->Option PV
 |[.lst a]=>(kW a).map λbs=>.bl (bs.all id)
 |_=>ae
theorem zU:PL K (λc H Q=>∃(p:ac) (bs:List Bool),c=[.ref p]/\cb K H p (bs.map V.bl)/\Q (.bl (bs.all id)) H) pw:=λF H c i Q pv g e q=>by
 unfold pw at e;split at e
 .rename_i f;cases b:kW f with
  |none=>rw[b]at e;cases e
  |some bs=>
   rw[b]at e;cases e;obtain⟨v,rfl,a,j,rfl,d,_,h⟩:=gY g;rw[CA h b]at d;exact⟨a,bs,rfl,.inl d,q _ F H (Al.refl ..) rfl⟩
 .cases e
def sC:PV->Option String
 |.non=>aa "NoneType"
 |.bl _=>aa "bool"
 |.int _=>aa "int"
 |.str _=>aa "str"
 |.tup _=>aa "tuple"
 |.lst _=>aa "list"
 |_=>ae
def iG:List PV->Option PV
 |[x,.raw (.ty T)]=>(sC x).bind λt=>(iO [] (.type t) (.type T)).map λb=>.bl b
 |_=>ae
theorem qX:ff X (.builtin "isinstance") (λa H Q=>∃x t T b,a=[x,.ty T]/\iu X.K H x (.type t)/\iO X.K (.type t) (.type T)=aa b/\Q (.bl b) H):=by
 intro l s g H a i Q I r h;obtain⟨x,t,T,b,rfl,ty,e,q⟩:=h;cases r with
 |cons r1 f=>
  cases f with
  |cons d c=>
   cases c;cases d;exact Jc I r1 ty e λj=>⟨.bl b,H,I.tok _,rfl,q⟩
theorem JO{H:Hp}{F:ac->Prop}{x:PV}{v:V}{t:String}(r:aO K H F x v)(e:sC x=aa t):iu K H v (.type t):=by
 cases x with
 |non=>cases e;rw[show v=V.non from r];exact .non
 |bl b=>cases e;rw[show v=V.bl b from r];exact .bl b
 |int b=>cases e;rw[show v=V.int b from r];exact .int b
 |str b=>cases e;rw[show v=tV b from r.1];exact .str _
 |tup d=>cases e;obtain⟨a,f,rfl,c,_⟩:=r;exact .tup c
 |lst d=>
  cases e;obtain⟨a,f,rfl,c,_⟩:=r;rcases c with c|⟨o,c⟩
  .exact .lst c
  .exact .frz c
 |raw _=>cases e
 |exc _=>cases e
theorem rP:PL K (λd H Q=>∃x t T b,d=[x,.ty T]/\iu K H x (.type t)/\iO K (.type t) (.type T)=aa b/\Q (.bl b) H) iG:=λF H d j Q pv f e q=>by
 unfold iG at e;split at e
 .rename_i x T;cases a:sC x with
  |none=>rw[a]at e;cases e
  |some t=>
   cases c:iO [] (.type t) (.type T)with
   |none=>rw[a,gu,c]at e;cases e
   |some b=>
    rw[a,gu,c]at e;cases e;obtain⟨v,l,rfl,i,h⟩:=f;obtain⟨u,rfl,g⟩:=gY h;rw[show u=V.ty T from g];exact⟨v,t,T,b,rfl,JO i a,c,q _ F H (Al.refl ..) rfl⟩
 .cases e
theorem q_{E:XK}{x:Str}{T:String}{f:Pos}(c:X.mg x=ae)(a:dQ x=aa (.type T))(d:Gl X x:=by rfl)(b:x≠"__name__":=by decide)(g:(x==("__debug__":Str))=aj:=by decide):DE X E (.Name x f) (dC (.raw (.ty T))):=λF S i h H Q r q=>bX (JE (v:=.ty T) d c a rfl b g) (q F S H r (a8.refl ..) _ rfl)
def bB:PV->PV->Option PV
 |.lst xs,.int i=>c9 xs i
 |.tup xs,.int i=>c9 xs i
 |.str x,.int i=>(c9 x i).map λc=>.str [c]
 |_,_=>ae
theorem Be{H:Hp}{F:ac->Prop}{a:List PV}{b:List V}{i:Int}{x:PV}(r:aY K H F a b)(e:c9 a i=aa x):∃v,c9 b i=aa v/\aO K H F x v:=by
 unfold c9 at e ⊢;rw[r.len];cases q:li a.length i with
 |none=>rw[q]at e;cases e
 |some j=>rw[q]at e;exact r.get e
theorem gn:P2 K (DV K) bB:=λF H x y v u Q pv b f e q=>by
 unfold bB at e;split at e
 .rename_i n i;obtain⟨a,d,rfl,j,_,g⟩:=b;obtain⟨w,m,l⟩:=Be g e;exact .inl ⟨a,d,i,w,rfl,f,.inl j,m,q _ F H (Al.refl ..) l⟩
 .rename_i n i;obtain⟨a,d,rfl,j,g⟩:=b;obtain⟨w,m,l⟩:=Be g e;exact .inr (.inl ⟨a,d,i,w,rfl,f,cS.of j,m,q _ F H (Al.refl ..) l⟩)
 .rename_i x i;cases h:c9 x i with
  |none=>rw[h]at e;cases e
  |some c=>
   rw[h]at e;cases e;rw[b.1];exact .inr (.inr ⟨_,i,c,rfl,f,by rw[kq];exact c4 b.2 jy,by rw[lD];exact h,q _ F H (Al.refl ..) ⟨rfl,by show 1<=bQ;decide⟩⟩)
 .cases e
def dH{b:Type}(a:List b)(c d:Option Int):List b:=(a.drop (HT.sIx a.length 0 c)).take (HT.sIx a.length a.length d-HT.sIx a.length 0 c)
theorem K7{b:Type}(a:List b)(c d:Option Int):(dH a c d).length<=a.length:=by unfold dH;rw[p4,m_];lia
def cF:PV->Option Int->Option Int->Option PV
 |.str x,b,c=>aa (.str (dH x b c))
 |.lst a,b,c=>aa (.lst (dH a b c))
 |.tup a,b,c=>if HT.sIx a.length 0 b=0/\HT.sIx a.length a.length c=a.length then ae else aa (.tup (dH a b c))
 |_,_,_=>ae
def Co(K:ar):V->Option Int->Option Int->Hp->VK->Prop:=λx a b H Q=>CD x a b H Q\/(Ch K x a b H Q\/Ds K x a b H Q)
theorem mT:lj X (Co X.K):=O9.or (Pb.or IX)
theorem Bv{H:Hp}{F:ac->Prop}{a:List PV}{b:List V}(r:aY K H F a b)(c d:Option Int):aY K H F (dH a c d) (mh b c d):=by unfold dH mh;rw[r.len];exact(r.drop _).take _
theorem mO:CL K (Co K) cF:=λF H x h i v Q pv b e q=>by
 unfold cF at e;split at e
 .cases e;rw[b.1];refine .inl ⟨_,rfl,by rw[kq];exact c4 b.2 jy,?_⟩;refine q _ F H (Al.refl ..) ⟨?_,c4 (K7 ..) b.2⟩;unfold kn dH;rw[kq,lD];rfl
 .cases e;obtain⟨a,f,rfl,g,_,d⟩:=b;exact .inr (.inl ⟨a,f,rfl,.inl g,λp c=>q _ _ _ (Al.new c) ⟨p,_,rfl,.inl bT,.inr rfl,(Al.new c).reps (Bv d h i)⟩⟩)
 .split at e
  .cases e
  .rename_i j;cases e;obtain⟨a,f,rfl,g,d⟩:=b;exact .inr (.inr ⟨a,f,rfl,cS.of g,by rw[d.len];exact j,λp c=>q _ _ _ (Al.new0 c) ⟨p,_,rfl,bT,(Al.new0 c).reps (Bv d h i)⟩⟩)
 .cases e
variable{E:XK}{g l a b:ay}{d:af->R PV}{m:af->R (List PV)}{p f:Pos}
def gH:PV->Option (List PV)
 |.lst h=>aa h
 |.tup h=>aa h
 |.str x=>aa (x.map λc=>.str [c])
 |_=>ae
def bp(d:af->R PV):af->R (List PV):=λε=>(d ε).bind λx ε1=>aB (gH x) ε1
theorem B3{H:Hp}{F:ac->Prop}:∀(x:Tx),aY K H F (x.map λc=>PV.str [c]) (x.map sg)
 |[]=>rfl
 |c::x=>⟨sg c,x.map sg,rfl,⟨rfl,by show 1<=bQ;decide⟩,B3 x⟩
theorem f9(he:DE X E l d):DI X E g l (bp d):=λF S ε Y H Rr rl h=>Bx.mk λag s I=>by
 have w:=he F S ε Y H (λv r=>∃B D u x,aJ X.K B D u Y r/\aO X.K r B x v/\Ok X.K E Y B D r (aB (gH x) u) (λpvs _ F' S' H'=>∀J G RR,aY X.K H' F' pvs G->G.length<=a6->Walk J G RR->(∀S'' F'' W,a8 (U S') (U S'') F' F'' H' W->RR W)->Rr J H')) rl
  ((Ok.bind h).imp λx u B D r r1 g1 q v M=>⟨B,D,u,x,r1,M,q⟩)
 refine aR (w.run ag s I) λv c ⟨x,r,y,rx,B,D,u,pv,r1,M,q⟩=>?_;cases pv with
 |lst xs=>
  obtain⟨a,L,rfl,C,hF,ra⟩:=M;cases rx;obtain⟨N,rr,pp,O⟩:=y.list (.inl C);refine qb pp.isList ?_;refine⟨c.heap.objs.size,[c.heap.objs.size],_,_,r,rfl,y.kept (t':=c.toks) λb o e=>bf _ e,CO a _,⟨_,cj _ rfl,rfl,rfl⟩,λb P=>?_,q B D r r1 (a8.refl ..) (xM X.K a) L (λH=>cb X.K H a L) ra O CZ λS2 F2 H2 g2=>.inl (g2.lst r1.fit hF C)⟩;have e:b=c.heap.objs.size:=by simpa using P
  subst e;exact y.fpOk (ba _) (y.hok.fresh (ba _))
 |tup xs=>
  obtain⟨a,L,rfl,C,ra⟩:=M;cases rx;obtain⟨N,rr,pp,O⟩:=y.tuple (cS.of C);refine wpAny_pyIter_tuple (show c.heap.IsTuple a N.toArray from pp) ?_;refine⟨c.heap.objs.size,[c.heap.objs.size],_,_,r,rfl,y.kept (t':=c.toks) λb o e=>bf _ e,Nb a _,⟨_,cj _ rfl,rfl,rfl⟩,λb P=>?_,q B D r r1 (a8.refl ..) (yY X.K a) L (λH=>cS X.K H a L) ra O Gn λS2 F2 H2 g2=>cS.of (g2.imm r1.fit C id)⟩;have e:b=c.heap.objs.size:=by simpa using P
  subst e;exact y.fpOk (ba _) (y.hok.fresh (ba _))
 |str z=>
  obtain⟨rfl,O⟩:=M;obtain⟨t,rfl⟩:=rx;have qq:Rr (sB (tS z)) r:=q B D r r1 (a8.refl ..) (sB (tS z)) (z.map sg) (λ_=>True) (B3 z) (by rw[bO];exact c4 O jy) (by have:=LL (z:=tS z);rw[lD]at this;exact this) λ_ _ _ _=>trivial;have T:∀(n:String) (j:Nat->aF->Prop),(∀i h,j i h->∃o n G,h.get? c.heap.objs.size=aa o/\o.cls=.type n/\o.data=.fields G /\ ["enumerate","zip","dict_itemiterator","dict_reverseitemiterator","odict_iterator","itertools.zip_longest","itertools.pairwise"].contains n=aj) ->
    (∀(A:aX) (i:Nat) (s:am) (Q:ai->am->Prop) (E:ai->am->Prop),j i s.heap->Q (.ref c.heap.objs.size) s->aw (aA X.prog X.w) A (mW (.ref c.heap.objs.size)) Q E s) ->
    (∀A:aX,A.handled=ae->Walks X.prog X.w A c.heap.objs.size [c.heap.objs.size] [c.heap.objs.size] (tS z).cps.size (SignAt (tS z)) j) ->
    j 0 (c.heap.push {cls:=.type n,data:=.fields #[.str (tS z) t,.int 0 0]}) ->
    uI X ag Y g Rr (.ref c.heap.objs.size) {c with heap:=c.heap.push {cls:=.type n,data:=.fields #[.str (tS z) t,.int 0 0]}}:=λn j q h2 h3 h4=>by
   refine⟨c.heap.objs.size,[c.heap.objs.size],j,sB (tS z),r,rfl,y.kept (t':=c.toks) λb o e=>bf _ e,MR q h2 h3,h4,λb P=>?_,qq⟩;have e:b=c.heap.objs.size:=by simpa using P
   subst e;exact y.fpOk (ba _) (y.hok.fresh (ba _))
  cases C:(tS z).cps.all (· < 128)
  .refine wpAny_pyIter_wide C (T "str_iterator" (λi h=>h.IsStrIter c.heap.objs.size "str_iterator" (tS z) t i) (λi h ⟨o,e1,e2,e3⟩=>⟨o,_,_,e1,e2,e3,by decide⟩) (λA i s Q E Z h=>wpAny_pyIter_striter_wide Z h) (λA' hA=>Walks.strWide hA _ (tS z) t) ⟨_,cj _ rfl,rfl,rfl⟩)
  .refine wpAny_pyIter_ascii C (T "str_ascii_iterator" (λi h=>h.IsStrIter c.heap.objs.size "str_ascii_iterator" (tS z) t i) (λi h ⟨o,e1,e2,e3⟩=>⟨o,_,_,e1,e2,e3,by decide⟩) (λA i s Q E Z h=>wpAny_pyIter_striter_ascii Z h) (λA' hA=>Walks.strAscii hA _ (tS z) t) ⟨_,cj _ rfl,rfl,rfl⟩)
 |non=>exact(show False from q).elim
 |bl _=>exact(show False from q).elim
 |int _=>exact(show False from q).elim
 |raw _=>exact(show False from q).elim
 |exc _=>exact(show False from q).elim
def fG(c:Int)(n:Nat):List PV:=(bG n).map λi=>PV.int (c+(i:Nat))
theorem G6{H:Hp}{F:ac->Prop}(c:Int)(n:Nat):aY K H F (fG c n) (pb c n):=by
 unfold fG pb
 induction (bG n)with
 |nil=>rfl
 |cons x i h=>exact⟨_,_,rfl,rfl,h⟩
def fj:List PV->Option (List PV)
 |[.int j]=>if j<=1000000/\-1000000<=j then aa (fG 0 j.toNat)else ae
 |_=>ae
theorem nH(w:X.mg "range"=ae)(y:DA X E [a] m)(x:Gl X "range":=by rfl)(u:aP [a] X.env=[(aj,aL a X.env)]:=by rfl):DI X E g (.Call (.Name "range" p) [a] [] f) (dL fj m):=λF S o i H J r h=>by
 refine IE (Ov x w gG u) (y F S o i H _ r ((Ok.bind h).imp λC n B z A r1 I c D s=>?_));unfold fj at c;split at c
 .rename_i j;split at c
  .rename_i G;obtain⟨v,rfl,q⟩:=gY s;refine⟨j,by rw[show v=V.int j from q],∅,∅,c B z A r1 (a8.refl ..) _ _ _ (G6 0 j.toNat) (by rw[x9,oi];lia) Jk λ_ _ _ _=>trivial⟩
  .exact c.elim
 .exact c.elim
end
section
variable{K:ar}{F:ac->Prop}{S:Nat->ac->Prop}{f:af}{l:St}{H:Hp}{i:Nat}{xs m:List PV}{d:List V}{a:ac}
theorem aJ.lstAt(r:aJ K F S f l H)(e:f[i]?=aa (.own (.lst xs))):∃a c,l[i]?=aa (aa (.ref a))/\H a=aa (.lst c)/\aY K H F xs c/\S i a/\∀b,S i b->b=a:=by obtain⟨a,o,⟨c,n,j⟩,g⟩:=r.own i _ e;exact⟨a,c,o,n,j,(g a).mpr rfl,λb h=>(g b).mp h⟩
theorem aJ.upd(r:aJ K F S f l H)(e:f[i]?=aa (.own (.lst xs)))(D:l[i]?=aa (aa (.ref a)))(h:aY K H F m d):aJ K F S (f.set i (.own (.lst m))) l (upd H a (.lst d))/\a8 (U S) (U S) F F H (upd H a (.lst d)):=by
 obtain⟨M,vs,E,L,J,x,B⟩:=r.lstAt e;rw[D]at E;cases E;have A:i<f.length:=(cI.mp e).1;have g:a8 (U S) (U S) F F H (L2.upd H a (.lst d)):=⟨λ_ z=>z,λb o q n=>by rw[bj (by rintro rfl;exact n ⟨i,x⟩)];exact q,λb o q=>by
  by_cases C:b=a
  .subst C;exact⟨_,bT⟩
  .exact⟨o,by rw[bj C];exact q⟩,λ_ z=>.inl z,λ_ z=>.inl z⟩
 refine⟨⟨by rw[hZ];exact r.len,λb z=>let ⟨o,q⟩:=r.ex b z;g.there b o q,λj pv q=>?_,λj y q=>?_,λj b z=>?_,r.dist⟩,g⟩
 .have p:i≠j:=by rintro rfl;rw[cU A]at q;cases q
  rw[cA p]at q;obtain⟨v,u,s⟩:=r.val j pv q;exact⟨v,u,s.grow g r.fit⟩
 .by_cases p:i=j
  .subst p;rw[cU A]at q;cases q;exact⟨a,D,⟨d,bT,h.grow g r.fit⟩,λb=>⟨B b,λz=>by rw[z];exact x⟩⟩
  .rw[cA p]at q;obtain⟨c,u,s⟩:=r.own j y q;refine⟨c,u,s.mono (λ_ _ z=>z.grow g r.fit) (λ_ _ z=>z.grow g r.fit) λb o z w=>?_⟩;rw[bj (by rintro rfl;exact p (r.dist i j b x z))];exact w
 .obtain⟨⟨y,u⟩,s,o,I,G⟩:=r.foot j b z;by_cases p:i=j
  .subst p;rw[B b z];exact⟨⟨_,cU A⟩,by rw[<-B b z];exact s,_,bT,trivial⟩
  .exact⟨⟨y,by rw[cA p];exact u⟩,s,o,by rw[bj (by rintro rfl;exact p (r.dist i j b x z))];exact I,G⟩
end
section
variable{X:Cx}{E:XK}{pin:List Nat}{e b:ay}{de db:af->R PV}{d:Pos}
def fV(a:af)(i:Nat):Option (List PV):=match a[i]? with
 |some (.own (.lst c))=>aa c
 |_=>ae
theorem lE{a:af}{i:Nat}{c:List PV}(h:fV a i=aa c):a[i]?=aa (.own (.lst c)):=by
 unfold fV at h;split at h
 .cases h;assumption
 .cases h
def mz(i:Nat)(de:af->R PV):af->R aG:=λc=>(aB (fV c i) c).bind λ_ c=>(de c).bind λy a=>(aB (fV a i) a).bind λf a=>if f.length<bQ then .ok .next (a.set i (.own (.lst (f++[y]))))else .no
theorem yJ(i:Nat){x:Str}{p f c:Pos}(M:DE X E e de)(P:X.N[i]?=aa x:=by rfl)(J:dw X.env.scope x:=by eq_refl)(N:(x==("__debug__":Str))=aj:=by decide)(bc:(x==("__classdict__":Str))=aj:=by decide) (Y:hV (.Name x p) "append" X.env (aL (.Name x p) X.env)=aL (.Name x p) X.env:=by rfl)(W:((cm c (aP [e] X.env)).all (λx=>!x.1)&&(mZ c (m8 [] X.env)).all (λx=>x.1.isSome)&&decide ([e].length+([]:List je).length+(if([]:List je).isEmpty then 0 else 1)<30))=ah:=by rfl)(T:(f.endLine == c.line)=ah:=by rfl) (w:aP [e] X.env=(aj,aL e X.env)::aP [] X.env:=by rfl) (Q:(cm c (aP [] X.env)).any (·.1)=aj:=by rfl)(K:g_ (.Call (.Attribute (.Name x p) "append" f) [e] [] c) ae d.line X.env=pure aj:=by rfl):DS X E pin (.Expr (.Call (.Attribute (.Name x p) "append" f) [e] [] c) d) (mz i de):=λF S r o H D s h=>by
 unfold mz at h;cases n:fV r i with
 |none=>rw[n]at h;exact h.elim
 |some z=>
  rw[n]at h;simp only[cf,R.bind_ok]at h;obtain⟨a,A,m,O,_,_,_⟩:=s.lstAt (lE n);refine eQ (vC (zq EY PySem.F.slot_list_append PySem.F.type_list_append yK (eu P J N bc) (ip bz i6 w) Y W T w Q) K) ⟨.ref a,m,.inl ⟨rfl,_,cb.of O⟩,?_⟩;refine M F S r o H _ s (h.bindE.imp λy l F1 S1 H1 r1 g1 q v C=>?_);cases j:fV l i with
  |none=>rw[j]at q;exact q.elim
  |some xs=>
   rw[j]at q;simp only[cf,R.bind_ok]at q;obtain⟨a',B,g,I,u,_,_⟩:=r1.lstAt (lE j);rw[m]at g;cases g;split at q
   .rename_i L;obtain⟨G,Z⟩:=r1.upd (lE j) m (u.app (.one C));exact⟨a,B,v,rfl,rfl,I,by rw[u.len];exact eV L jy,q F1 S1 o _ G Z (ig.refl _ _)⟩
   .exact q.elim
def KP:V->List V->Hp->VK->Prop:=λx f H Q=>∃l b c a,x=.ref l/\f=[.ref b]/\H l=aa (.lst c)/\Rd H b (.lst a)/\c.length+a.length<=a6/\Q .non (L2.upd H l (.lst (c++a)))
theorem Lh:zQ X "list.extend" KP:=by
 intro N s B H x G v J Q I j m h;obtain⟨l,b,D,C,rfl,rfl,i,w,L,q⟩:=h;cases j;obtain⟨u,rfl,o⟩:=m.one;cases o;obtain⟨z,c,n,r,M,e⟩:=I.lstM i;obtain⟨a,p,g,y,_⟩:=y_ I w;have K:=g.length;have f:c.toArray.size+a.toArray.size<=a6:=by rw[cD,cD];lia
 have A:¬(!c.toArray.isEmpty&&EN (c.toArray.size+a.toArray.size))=ah:=by rw[MH f,Bool.and_false];exact fu
 refine call_meets F.slot_list_extend ⟨_,e,rfl⟩ F.entry_list_extend (F.args_list_extend_2 _ _)
  (AutoSeq1.list_extend_list_list_0 l c.toArray n b a.toArray p A (by rw[cD];lia) ∅) ⟨e,y,?_⟩
 refine⟨.non,_,I.lset (its':=c++a) i e (by simp) (r.append g) ?_,rfl,q⟩;rw[eN];lia
def nW(i:Nat)(de:af->R PV):af->R aG:=λε=>(aB (fV ε i) ε).bind λ_ ε=>(de ε).bind λy ε1=>(aB (fV ε1 i) ε1).bind λc ε1=>match y with
 |.lst a=>if c.length+a.length<=bQ then .ok .next (ε1.set i (.own (.lst (c++a))))else .no
 |_=>.no
theorem JA(i:Nat){x:Str}{p g f:Pos}(P:DE X E e de)(Y:X.N[i]?=aa x:=by rfl)(M:dw X.env.scope x:=by eq_refl)(Q:(x==("__debug__":Str))=aj:=by decide)(bc:(x==("__classdict__":Str))=aj:=by decide) (h1:hV (.Name x p) "extend" X.env (aL (.Name x p) X.env)=aL (.Name x p) X.env:=by rfl)(h2:((cm f (aP [e] X.env)).all (λx=>!x.1)&&(mZ f (m8 [] X.env)).all (λx=>x.1.isSome)&&decide ([e].length+([]:List je).length+(if([]:List je).isEmpty then 0 else 1)<30))=ah:=by rfl)(h3:(g.endLine == f.line)=ah:=by rfl) (A:aP [e] X.env=(aj,aL e X.env)::aP [] X.env:=by rfl) (Z:(cm f (aP [] X.env)).any (·.1)=aj:=by rfl)(N:g_ (.Call (.Attribute (.Name x p) "extend" g) [e] [] f) ae d.line X.env=pure aj:=by rfl):DS X E pin (.Expr (.Call (.Attribute (.Name x p) "extend" g) [e] [] f) d) (nW i de):=λF S s r H D u h=>by
 unfold nW at h;cases o:fV s i with
 |none=>rw[o]at h;exact h.elim
 |some B=>
  rw[o]at h;simp only[cf,R.bind_ok]at h;obtain⟨a,C,n,W,_,_,_⟩:=u.lstAt (lE o);refine eQ (vC (zq EY PySem.F.slot_list_extend PySem.F.type_list_extend Lh (eu Y M Q bc) (ip bz i6 A) h1 h2 h3 A Z) N) ⟨.ref a,n,.inl ⟨rfl,_,cb.of W⟩,?_⟩;refine P F S s r H _ u (h.bindE.imp λy m F1 S1 H1 r1 g1 q v J=>?_);cases l:fV m i with
  |none=>rw[l]at q;exact q.elim
  |some xs=>
   rw[l]at q;simp only[cf,R.bind_ok]at q;obtain⟨a',G,j,L,z,_,_⟩:=r1.lstAt (lE l);rw[n]at j;cases j;split at q
   .rename_i ys;split at q
    .rename_i O;obtain⟨c,I,rfl,T,_,w⟩:=J;obtain⟨K,g2⟩:=r1.upd (lE l) n (z.app w);exact⟨a,c,G,I,rfl,rfl,L,T,by rw[z.len,w.len];exact c4 O jy,q F1 S1 r _ K g2 (ig.refl _ _)⟩
    .exact q.elim
   .exact q.elim
end
mutual
def imm:PV->Bool
 |.lst _=>aj
 |.tup a=>mv a
 |_=>ah
def mv:List PV->Bool
 |[]=>ah
 |x::a=>imm x&&mv a
end
mutual
theorem aO.imm{K:ar}{H:Hp}{F i:ac->Prop}:∀(x:PV) {v:V},imm x=ah->aO K H F x v->aO K H i x v
 |.non,_,_,h=>h
 |.bl _,_,_,h=>h
 |.int _,_,_,h=>h
 |.str _,_,_,h=>h
 |.raw _,_,_,h=>h
 |.exc _,_,_,h=>h
 |.lst _,_,e,_=>by simp[Pu.imm]at e
 |.tup b,_,e,⟨a,c,g,f,d⟩=>⟨a,c,g,f,aY.imm b (by simpa[Pu.imm]using e) d⟩
theorem aY.imm{K:ar}{H:Hp}{F i:ac->Prop}:∀(a:List PV) {b:List V},mv a=ah->aY K H F a b->aY K H i a b
 |[],_,_,h=>h
 |x::a,_,e,⟨v,r,g,f,d⟩=>by
  have c:imm x=ah/\mv a=ah:=by simpa[mv]using e
  exact⟨v,r,g,aO.imm x c.1 f,aY.imm a c.2 d⟩
end
section
variable{K:ar}{F:ac->Prop}{S:Nat->ac->Prop}{d:af}{c:St}{H:Hp}{i:Nat}{f:List PV}
theorem aJ.look(r:aJ K F S d c H)(e:d[i]?=aa (.own (.lst f))):∃a,c[i]?=aa (aa (.ref a))/\¬F a/\aO K H (λb=>F b\/b=a) (.lst f) (.ref a)/\(∀b,F b\/b=a->∃o,H b=aa o) /\ (∀{h g},Al (λb=>F b\/b=a) h H g->Al F (λb=>h b/\b≠a) H g):=by
 obtain⟨a,m,q,l,p,n,s⟩:=r.lstAt e;have j:¬F a:=(r.foot i a n).2.1;refine⟨a,q,j,⟨a,m,rfl,.inl l,.inr rfl,aY.mono (λ_ z=>.inl z) (λ_ _ _ z=>z) (λ_ _ z _=>z) _ _ p⟩,λb z=>z.elim (r.ex b) λz=>by rw[z];exact⟨_,l⟩,λ{h g} al=>⟨λb z=>⟨al.fro b (.inl z),by rintro rfl;exact j z⟩,al.same,λb z=>?_⟩⟩;rcases al.fnew b z.1 with(w|w)|w
 .exact .inl w
 .exact absurd w z.2
 .exact .inr w
end
section
variable{X:Cx}{E:XK}{e b:ay}{de d:af->R PV}{c p:Pos}{x y:Str}{g T:String}{r:List V->Hp->VK->Prop}{f:List PV->Option PV}{j:List PV->Option PO}
def mn(o:Option PV):Option PV:=o.bind λv=>if imm v then aa v else ae
theorem AM{o:Option PV}{v:PV}(h:mn o=aa v):o=aa v/\imm v=ah:=by
 cases o with
 |none=>cases h
 |some w=>
  have h:(if imm w then aa w else ae)=aa v:=h;split at h
  .cases h;exact⟨rfl,by assumption⟩
  .cases h
def DC:PO->Bool
 |.lst a=>mv a
 |_=>aj
def vJ{h:Type}(f:List PV->Option h)(i:Nat):af->R h:=λa=>(aB (fV a i) a).bind λl a=>aB (f [.lst l]) a
theorem Ot{F:ac->Prop}{S:Nat->ac->Prop}{o:af}{n:St}{H:Hp}{Q:VK}{i:Nat}(D:PL X.K r f)(z:aJ X.K F S o n H)(h:Ok X.K E n F S H (vJ (λl=>mn (f l)) i o) (λpv _ B _ m=>∀v,aO X.K m B pv v->Q v m)):∃a,n[i]?=aa (aa (.ref a))/\r [.ref a] H Q:=by
 unfold vJ at h;cases u:fV o i with
 |none=>rw[u]at h;exact h.elim
 |some l=>
  rw[u]at h;simp only[cf,R.bind_ok]at h;obtain⟨a,G,L,C,K,A⟩:=z.look (lE u);refine⟨a,G,?_⟩;cases s:mn (f [.lst l])with
  |none=>rw[s]at h;exact h.elim
  |some pv=>rw[s]at h;obtain⟨J,I⟩:=AM s;exact D _ H [.lst l] [.ref a] Q pv (.one C) J λw B m al q=>h _ S m (z.al (A al)) (A al).grow w (aO.imm pv I q)
theorem L8(i:Nat)(B:ff X (.builtin g) r)(u:PL X.K r f)(w:X.mg x=ae)(o:dQ x=aa (.builtin g))(C:X.N[i]?=aa y:=by rfl)(I:dw X.env.scope y:=by eq_refl)(A:(y==("__debug__":Str))=aj:=by decide) (K:(y==("__classdict__":Str))=aj:=by decide) (z:Gl X x:=by rfl) (v:x≠"__name__":=by decide) (D:(x==("__debug__":Str))=aj:=by decide) {h:Pos}(l:aP [.Name y h] X.env=(aj,aL (.Name y h) X.env)::aP [] X.env:=by rfl) (J:(cm c (aP [] X.env)).any (·.1)=aj:=by rfl):DE X E (.Call (.Name x p) [.Name y h] [] c) (vJ (λm=>mn (f m)) i):=λF S M L H Q n q=>by obtain⟨a,G,s⟩:=Ot u n q;exact bX (sA B z w o (ip (eu C I A K) i6 l) v D l J) ⟨_,G,s⟩
def vN(o:Option PO):Option PO:=o.bind λv=>if DC v then aa v else ae
def ny(f:PV->PV->Option PV)(i:Nat)(d:af->R PV):af->R PV:=λε=>(aB (fV ε i) ε).bind λ_ ε=>(d ε).bind λk ε1=>(aB (fV ε1 i) ε1).bind λxs ε1=>aB (mn (f (.lst xs) k)) ε1
theorem Nn{F:ac->Prop}{S:Nat->ac->Prop}{n:af}{l:St}{H:Hp}{Q:VK}{i:Nat}{r:R2}{f:PV->PV->Option PV}(W:P2 X.K r f)(Y:DE X E b d)(J:aJ X.K F S n l H)(h:Ok X.K E l F S H (ny f i d n) (λpv _ M _ o=>∀v,aO X.K o M pv v->Q v o)):∃a,l[i]?=aa (aa (.ref a))/\gd X b l H λu G=>r (.ref a) u G Q:=by
 unfold ny at h;cases D:fV n i with
 |none=>rw[D]at h;exact h.elim
 |some N=>
  rw[D]at h;simp only[cf,R.bind_ok]at h;obtain⟨a,vs,K,_⟩:=J.lstAt (lE D);refine⟨a,K,Y F S n l H _ J ((Ok.bind h).imp λk s F1 S1 G r1 g1 q u O=>?_)⟩;cases C:fV s i with
  |none=>rw[C]at q;exact q.elim
  |some I=>
   rw[C]at q;simp only[cf,R.bind_ok]at q;obtain⟨a',m,nF,P,tZ,L⟩:=r1.look (lE C);rw[K]at m;cases m;cases B:mn (f (.lst I) k)with
   |none=>rw[B]at q;exact q.elim
   |some pv=>rw[B]at q;obtain⟨e3,Z⟩:=AM B;exact W _ G (.lst I) k (.ref a) u Q pv P (aO.mono (λ_ z=>.inl z) (λ_ _ _ z=>z) (λ_ _ z _=>z) _ _ O) e3 λw M o al A=>q _ S1 o (r1.al (L al)) (L al).grow w (aO.imm pv Z A)
theorem Np(i:Nat){l:Pos}{r:R2}{f:PV->PV->Option PV}(q:ke X r)(s:P2 X.K r f)(v:DE X E b d)(w:X.N[i]?=aa y:=by rfl)(A:dw X.env.scope y:=by eq_refl)(u:(y==("__debug__":Str))=aj:=by decide) (B:(y==("__classdict__":Str))=aj:=by decide) (o:yM b:=by exact λ_ _=>rfl):DE X E (.Subscript (.Name y l) b c) (ny f i d):=λF S D C H Q m h=>by obtain⟨a,z,n⟩:=Nn s v m h;exact bX (Cm q (eu w A u B) bz o) ⟨_,z,n⟩
end
end Pu
namespace Pu
open L2
def nU(h:aF)(e T:ac)(c g:ai):Prop:=∃a b f d,h.get? e=aa a/\a.cls=c/\(a.data=.fields b/\a.dict=ae)/\b[1]?=aa (.ref T)/\T≠e/\h.get? T=aa f/\f.data=.fields d/\d[3]?=aa g
def Made(h:aF)(e:ac)(c:ai):Prop:=∃a b,h.get? e=aa a/\a.cls=c/\(a.data=.fields b/\a.dict=ae)/\b[1]?=aa .none
structure Kp(fs:List ac)(X:ac->Prop)(h h':aF):Prop where
 keep:∀b o,h.get? b=aa o->b∉fs->¬X b->h'.get? b=aa o
 slot:∀b o,h.get? b=aa o->b∈fs->¬X b->∃sl,h'.get? b=aa {o with slots:=sl}
 there:∀b o,h.get? b=aa o->∃o',h'.get? b=aa o'
theorem Kp.trans{fs:List ac}{X Y:ac->Prop}{h g f:aF}(a:Kp fs X h g)(b:Kp fs Y g f):Kp fs (λc=>X c\/Y c) h f where
 keep:=λc o e n x=>b.keep c o (a.keep c o e n λz=>x (.inl z)) n λz=>x (.inr z)
 slot:=λc o e n x=>by obtain⟨l,j⟩:=a.slot c o e n λz=>x (.inl z);obtain⟨d,i⟩:=b.slot c _ j n λz=>x (.inr z);exact⟨d,i⟩
 there:=λc o e=>let ⟨o',e'⟩:=a.there c o e;b.there c o' e'
theorem Kp.imp{fs d:List ac}{X Y:ac->Prop}{h j:aF}(a:Kp fs X h j)(f:∀b,b∈fs->b∈d)(g:∀b o,h.get? b=aa o->X b->Y b):Kp d Y h j where
 keep:=λc o e n x=>a.keep c o e (λz=>n (f c z)) λz=>x (g c o e z)
 slot:=λc o e n x=>by
  by_cases i:c∈fs
  .exact a.slot c o e i λz=>x (g c o e z)
  .exact⟨o.slots,a.keep c o e i λz=>x (g c o e z)⟩
 there:=a.there
theorem Jb(f:Array ai->Array ai)(o:Obj):(oA f o).dict=o.dict:=by
 obtain⟨c,d,dt,a⟩:=o;cases dt <;> rfl
section
variable{M:Model}{A:aX}{E:ai->am->Prop}{s:am}
theorem BV{B:aF}{l:Env}{g:List Env}{L e:ac}{y:Obj}{H:Array ai}{C:ai}{OV:Bool}{Q:Unit->am->Prop}(jG:A.frames=aa (l::g)) (S:s.heap.FunFrames B (l::g)) (hf:l.frame=aa L) (W:s.heap.get? e=aa y) (J:y.data=.fields H) (me:y.dict=ae) (w:1<H.size)(h:∀N T,Kp (fh (l::g)) (λb=>b=e) s.heap N->nU N e T y.cls .none->s.heap.objs.size<=T->Q () {s with heap:=N}):aw M A (do let a <-frameOf l;let u <-entryPlaceOf L OV;let b <-EntryCells.newEntry C a .none (dR L) .none u;l5 (.ref e) 1 b) (λ_ Z=>aw M A (setFlight (.ref e) ae) Q E Z) E s:=by
 have z:e∉(l::g).filterMap (·.frame):=λhm=>by obtain⟨_,o,G,Y⟩:=S.mem hm;rw[W]at G;injection G with G;subst G;exact Y H J
 refine au (wpAny_frameOf_fun jG S hf λc d=>?_);refine au (wpAny_entryPlaceOf λu X=>?_);unfold EntryCells.newEntry newFields;refine au (lW ?_ (X.sizeOk5 _ _ _ _ _));have p:c.get? e=aa y:=(d.2.1 e z).trans W;have n:=bf (h:=c) {cls:=.type "traceback",dict:=ae,data:=.fields ([C,.ref L,.none,dR L,.none]++(if u.isEmpty then cM 6 Value.none else u)).toArray} p;refine sY n J w ?_;have D:c.objs.size≠e:=iL (br p);have j:=Ao J (·.setIfInBounds 1 (Value.ref c.objs.size));have i:=qf (oA (·.setIfInBounds 1 (Value.ref c.objs.size))) n (EZ j);have r:=(p9 (c.push {cls:=.type "traceback",dict:=ae,data:=.fields ([C,.ref L,.none,dR L,.none]++(if u.isEmpty then cM 6 Value.none else u)).toArray}) (oA (·.setIfInBounds 1 (Value.ref c.objs.size))) (d_ D)).trans (cj c rfl);unfold setFlight;refine au (p6 i j (x:=.ref c.objs.size) (by simp[w]) ?_);rw[if_pos (show(Value.ref c.objs.size != Value.none)=ah from by simp)];refine sY r rfl (by simp only[cD,eN,eX,lX] <;> lia) (h _ c.objs.size ?_ ?_ ?_)
 .have m:∀b o,b≠e->c.get? b=aa o ->
    (((c.push {cls:=.type "traceback",dict:=ae,data:=.fields ([C,.ref L,.none,dR L,.none]++(if u.isEmpty then cM 6 Value.none else u)).toArray}).update e (oA (·.setIfInBounds 1 (Value.ref c.objs.size)))).update c.objs.size (oA (·.setIfInBounds 3 ((ae:Option ac).elim Value.none λf=>dR f)))).get? b=aa o:=λb o F v=>by
   have K:c.objs.size≠b:=iL (br v);rw[p9 _ _ K,p9 _ _ (d_ F)];exact bf _ v
  refine⟨λb o v P I=>m b o I ((d.2.1 b P).trans v),λb o v P I=>?_,λb o v=>?_⟩
  .obtain⟨O,q⟩:=d.2.2 b o v;exact⟨O,m b _ I q⟩
  .by_cases F:b=e
   .subst F;exact⟨_,(p9 _ _ D).trans i⟩
   .obtain⟨O,q⟩:=d.2.2 b o v;exact⟨_,m b _ F q⟩
 .refine⟨_,_,_,_,(p9 _ _ D).trans i,Obj.cls_mapFields _ _,⟨j,by rw[Jb];exact me⟩,by simp[w],D,qf _ r (EZ (Ao rfl _)),Ao rfl _,by first | (simp;done) | (rcases X with rfl|⟨_,_,_,_,_,_,_,rfl⟩ <;> simp)⟩
 .exact lS d.1.symm
theorem LO{f:aF}{d:Env}{a:List Env}{L e:ac}{c:ai}{Q:Unit->am->Prop}(o:A.frames=aa (d::a))(q:s.heap.FunFrames f (d::a))(i:d.frame=aa L)(p:Made s.heap e c)(h:∀g T,Kp (fh (d::a)) (λb=>b=e) s.heap g->nU g e T c .none->s.heap.objs.size<=T->Q () {s with heap:=g}):aw M A (leaving d (.ref e)) Q E s:=by obtain⟨v,u,j,r,⟨l,n⟩,m⟩:=p;subst r;unfold leaving noteFrame;simp only[i];refine au (au (p6 j l m ?_));rw[if_neg (by decide)];exact BV o q i j l n (wI.mp m).1 h
theorem Lj{n:aF}{i:Env}{d:List Env}{L e T:ac}{c:ai}{Q:Unit->am->Prop}(J:A.frames=aa (i::d))(O:s.heap.FunFrames n (i::d))(w:i.frame=aa L)(K:nU s.heap e T c .none)(h:∀m p,Kp (fh (i::d)) (λb=>b=e\/b=T) s.heap m->nU m e p c .none->s.heap.objs.size<=p->Q () {s with heap:=m}):aw M A (noteFrame (.ref e) i) (λ_ F=>aw M A (setFlight (.ref e) ae) Q E F) E s:=by
 obtain⟨X,v,Y,D,x,W,⟨y,H⟩,C,G,r,j,B⟩:=K;subst W;unfold noteFrame;simp only[w];refine au (p6 x y C ?_);rw[if_pos (show(Value.ref T != Value.none)=ah from by simp)];refine au (p6 r j B ?_);rw[if_neg (show ¬((Value.none == dR L)=ah)from by simp[dR])];refine au (sY r j (wI.mp B).1 ?_);have a:∀b,b≠T->(s.heap.update T (oA (·.setIfInBounds 3 Value.none))).get? b=s.heap.get? b:=λb f=>p9 _ _ (d_ f);have g:∀b o,s.heap.get? b=aa o->(∀v,o.data≠.fields v)->b≠T:=λb o f u q=>by rw[q,r]at f;injection f with f;subst f;exact u D j
 refine BV J (O.of_keeps λb o f u=>⟨o,(a b (g b o f u)).trans f,rfl⟩) w ((a e (d_ G)).trans x) y H (wI.mp C).1 λm p k P N=>?_;have I:Kp (fh (i::d)) (λb=>b=T) s.heap (s.heap.update T (oA (·.setIfInBounds 3 Value.none))):=by
  refine⟨λb o f _ l=>(a b l).trans f,λb o f _ l=>⟨o.slots,(a b l).trans f⟩,λb o f=>?_⟩;by_cases l:b=T
  .subst l;exact⟨_,qf _ r (EZ (Ao j _))⟩
  .exact⟨o,(a b l).trans f⟩
 refine h m p ((I.trans k).imp (λ_ z=>z) λb o _ z=>z.symm) P ?_;have S:(s.heap.update T (oA (·.setIfInBounds 3 Value.none))).objs.size<=p:=N;rwa[Heap.size_update]at S
theorem Nq{f:aF}{d:Env}{a:List Env}{L e T:ac}{c:ai}{Q:Unit->am->Prop}(j:A.frames=aa (d::a))(m:s.heap.FunFrames f (d::a))(n:d.frame=aa L)(l:nU s.heap e T c .none)(h:∀g i,Kp (fh (d::a)) (λb=>b=e\/b=T) s.heap g->nU g e i c .none->s.heap.objs.size<=i->Q () {s with heap:=g}):aw M A (leaving d (.ref e)) Q E s:=by unfold leaving;exact au (Lj j m n l h)
end
def b7(P:a4)(w:aT):dZ:=λb H s E e s'=>∃(a T:ac) (c:ai) (d:Hp),e=.ref a/\s'.os=s.os/\lM s'.gens/\Un (fh b) [] H d s.heap s'.heap/\df P w d s'.heap/\nU s'.heap a T c .none /\
 (s.heap.get? a=ae/\s.heap.get? T=ae/\d a=ae/\d T=ae)/\E c ae d
theorem FM{P:a4}{w:aT}{H:Hp}{h:aF}{a:ac}{o:HO}(x:cV P w H h a o):∃u,h.get? a=aa u:=by
 cases o with
 |lst c=>obtain⟨_,_,_,_,e⟩:=x;exact⟨_,e⟩
 |tup c=>obtain⟨_,_,_,⟨o,e,_⟩,_⟩:=x;exact⟨_,e⟩
 |dK b=>obtain⟨_,_,_,_,o,_,_,e,_⟩:=x;exact⟨_,e⟩
 |dT b=>obtain⟨_,_,_,_,o,_,_,e,_⟩:=x;exact⟨_,e⟩
 |dN b=>obtain⟨_,_,_,_,o,_,_,e,_⟩:=x;exact⟨_,e⟩
 |set S n=>obtain⟨o,_,_,_,e,_⟩:=x;exact⟨_,e⟩
 |ins C m fs=>obtain⟨_,_,_,e,_⟩:=x;exact⟨_,e⟩
 |own y=>exact x
 |xd fs=>obtain⟨_,⟨_,_,_,e,_⟩,_⟩:=x;exact⟨_,e⟩
 |rng j l=>obtain⟨_,_,_,e⟩:=x;exact⟨_,e⟩
 |frz i u=>obtain⟨e,_⟩:=x;exact⟨_,e⟩
 |tbl g=>obtain⟨_,e,_⟩:=x;exact⟨_,e⟩
 |met f y=>exact⟨_,x⟩
 |ext d=>obtain⟨_,e,_⟩:=x;exact e
theorem Il{P:a4}{w:aT}{H:Hp}{h:aF}{a:ac}(x:df P w H h)(e:h.get? a=ae):H a=ae:=by
 cases q:H a with
 |none=>rfl
 |some u=>obtain⟨o,z⟩:=FM (x a u q);rw[e]at z;cases z
theorem su{fs:List ac}{H c:Hp}{h b:aF}{a:ac}(u:Un fs [] H c h b)(e:b.get? a=ae):h.get? a=ae:=by
 cases q:h.get? a with
 |none=>rfl
 |some o=>obtain⟨d,z⟩:=u.there a o q (by simp);rw[e]at z;cases z
theorem DU{fs a:List ac}{H p:Hp}{h v s:aF}{X:ac->Prop}(u:Un fs [] H p h v)(k:Kp a X v s)(y:∀b o,h.get? b=aa o->b∈a->b∈fs)(l:∀b o,h.get? b=aa o->¬X b)(x:∀b∈a,p b=ae):Un fs [] H p h s where
 keep:=λb o e n j d=>k.keep b o (u.keep b o e n j d) (λz=>j (y b o e z)) (l b o e)
 slot:=λb o e n j d=>by
  obtain⟨w,i⟩:=u.slot b o e n j d;by_cases r:b∈a
  .obtain⟨m,f⟩:=k.slot b _ i r (l b o e);exact⟨m,f⟩
  .exact⟨w,k.keep b _ i r (l b o e)⟩
 free:=u.free
 there:=λb o e d=>let ⟨o',e'⟩:=u.there b o e d;k.there b o' e'
 tups:=u.tups
 frzs:=u.frzs
 tbls:=λb q e=>⟨(u.tbls b q e).1,λc o f g=>⟨k.keep c o ((u.tbls b q e).2 c o f g).1 (λz=>by have i:=((u.tbls b q e).2 c o f g).2;rw[x c z]at i;cases i) (l c o g),((u.tbls b q e).2 c o f g).2⟩⟩
theorem Cz{P:a4}{w:aT}{fs:List ac}{H:Hp}{h d:aF}{X:ac->Prop}(x:df P w H h)(k:Kp fs X h d)(f:∀b∈fs,H b=ae)(g:∀b,X b->H b=ae):df P w H d:=λb u e=>
 (x b u e).stay (λc v a q=>k.keep c v q (λz=>by
   have:=f c z;rcases a with rfl|a
   .rw[e]at this;cases this
   .rw[a]at this;cases this) λz=>by
   have:=g c z;rcases a with rfl|a
   .rw[e]at this;cases this
   .rw[a]at this;cases this) (λ_ q=>q) λ_ _ q=>q
section
variable{P:a4}{w:aT}{K:ar}{n:Str->Option ai}{l:aF}{N:List Str}{j:Str}{g:c8}{f:ac}{p:ai}{A:aX}{i:List Env}{d:am}{m:Hp}{E:XK}
theorem cN:jL (b7 P w) (eZ (b7 P w) P w K n l N j g f p A i d m E) E:=λag Y H s e s' I h=>by
 obtain⟨a,T,c,X,rfl,J,M,un,B,Q,⟨S,W,G,Z⟩,O⟩:=h;have r:=I.call' (s':=s') (ch:=[]) J un B M (λb z=>absurd z (by simp));refine Nq (L:=d.heap.objs.size) I.ok.frames r.stack rfl Q λkQ F k C y=>?_;have JZ:(eZ (b7 P w) P w K n l N j g f p A i d m E).ex=[]:=rfl;have v:d.heap.get? a=ae:=su I.base S;have D:d.heap.get? T=ae:=su I.base W;have x:d.heap.get? F=ae:=su r.base (EG y);have u:∀b o,d.heap.get? b=aa o->b≠a/\b≠T:=λb o e=>⟨(by rintro rfl;rw[v]at e;cases e),(by rintro rfl;rw[D]at e;cases e)⟩
 refine⟨a,F,c,X,rfl,r.os,r.bare,DU r.base k (λb o e z=>?_) (λb o e z=>z.elim (u b o e).1 (u b o e).2) r.stkFree,Cz r.hok k r.stkFree (λb z=>by rcases z with rfl|rfl <;> assumption),C,⟨v,x,G,r.hok.fresh y⟩,O⟩;rcases bW.mp (I.stkSub b z)with q|q
 .exact absurd (br e) (by rw[q];exact d9 _)
 .exact q
end
section
variable{X:Cx}{E:XK}{pin:List Nat}{e:ay}{de:af->R PV}{x:Str}{C:ac}{i:List ai}{d f B:String}{l g j:Pos}
def AH(X:Cx)(E:XK):Prop:=∀(n:List (ac×Obj)) (m:St) (H:Hp) (s:am) (a:ac) (c:ai) (h:aF),Inv X n m H s->(∀b o,s.heap.get? b=aa o->h.get? b=aa o)->Made h a c->s.heap.get? a=ae->(E c ae H)->X.xe (.ref a) {s with heap:=h}
def uS(c:ai)(de:af->R PV):af->R aG:=λb=>(de b).bind λ_ a=>.er c a
theorem K_{h c:aF}{e:ac}{a:ai}{b:List ai}(m:Heap.MadeExcOf h c e a b):Made c e a:=by obtain⟨t,n,_,_⟩:=m.there;exact⟨_,_,n,rfl,⟨rfl,rfl⟩,rfl⟩
theorem yO(hx:AH X E)(hc:X.calm=ah)(O:OwnCls x C i d X.mg X.base)(P:ExcBaseFacts B d f i)(he:DE X.nox E0 e de)(hg:Gl X x:=by rfl)(hd:(x==("__debug__":Str))=aj:=by decide)(L:aP [e] X.env=[(aj,aL e X.env)]:=by rfl):DS X E pin (.Raise (aa (.Call (.Name x l) [e] [] g)) ae j) (uS (.ref C) (λw=>bg (de w))):=λF S w n H D Y q=>Bx.mk λM s I=>by
 obtain⟨Q,N,nm,Z,bs,hdct,sn,sub,ab,col,dd,k0,k1,k2,k3,k5,mN,hC,hN,J,T⟩:=O.obj;refine wpAny_Raise_call_subT (C:=C) (nm:=nm) (q:=Z) (N:=N) (bs:=bs) (bm:=Q) (hdct:=hdct) (sn:=sn) (sub:=sub) (ab:=ab) (col:=col) (dd:=dd) (k0:=k0) (k1:=k1) (k2:=k2) (k3:=k3) (k5:=k5)
  P (mN:=mN) (T.hasType P.hasBase) (I.ok.hd hc) (by rw[L];rfl) J (wf I hg O.bound ⟨rfl,?_⟩ hd)
 have q2:Ok X.K E0 n F S H (de w) (λ_ b r o p=>g8 X.K E pin n r o p (.er (.ref C) b) D):=by
  have q:g8 X.K E pin n F S H ((bg (de w)).bind λ_ b=>.er (.ref C) b) D:=q;cases K:de w with
  |no=>rw[K]at q;exact q.elim
  |er c A=>rw[K]at q;exact q.elim
  |ok v A=>rw[K]at q;exact λF' S' H' r' g'=>q.from g' (ig.refl _ _)
 rw[L];refine wC (eW (sO (eW ((he F S w n H (λv p=>∃r o b,aJ X.K r o b n p/\g8 X.K E pin n r o p (.er (.ref C) b) D) Y (q2.imp λv b r o p r1 g1 h v' rv=>⟨r,o,b,r1,h⟩)).run M s (I.wish _)) (λu W ⟨v,p,y,r1,r,o,b,G,ok⟩=>?_) λ_ _ z=>z.elim)) (λ_ _ z=>z) λ_ _ z=>z);have y:=y.unwish;refine z5 ⟨rfl,(by show 1<=a6;decide),y.bk _ _ hC,hN.keeps y.bk,T.keeps y.bk,λh' a m=>?_⟩;exact hx M n p W a (.ref C) h' y m.keeps (K_ m) m.new (ok ae r o n p G (a8.refl ..) (ig.refl _ _))
end
section
variable{P:a4}{w:aT}{K:ar}{m:Str->Option ai}{j:aF}{N:List Str}{i:Str}{g:c8}{f:ac}{n:ai}{A:aX}{h:List Env}{d:am}{l:Hp}{E:XK}
theorem xG:AH (eZ (b7 P w) P w K m j N i g f n A h d l E) E:=λM D H s a c B I G F new J=>by
 have p:Inv _ M D H {s with heap:=B}:=I.kept (t':=s.toks) G;refine LO (s:={s with heap:=B}) (L:=d.heap.objs.size) I.ok.frames p.stack rfl F λO C k x v=>?_;have r:d.heap.get? a=ae:=su I.base new;have u:d.heap.get? C=ae:=su p.base (EG v);have y:H a=ae:=Il I.hok new;refine⟨a,C,c,H,rfl,p.os,p.bare,DU p.base k (λb o e z=>?_) (λb o e z=>by rw[show b=a from z,r]at e;cases e) p.stkFree,Cz p.hok k p.stkFree (λb z=>by rw[show b=a from z];exact y),x,⟨r,u,y,p.hok.fresh v⟩,J⟩;rcases bW.mp (I.stkSub b z)with q|q
 .exact absurd (br e) (by rw[q];exact d9 _)
 .exact q
end
def XP(X:Cx)(g:List (ac×Obj))(d:St)(h:ai->Hp->Prop)(e:ai)(f:am):Prop:=∃a b,Inv X g d b a/\b7 X.prog X.w X.stack b a (λc _ i=>h c i) e f
section
variable{X:Cx}{K:ar}
variable{E:XK}{e:ay}{de:af->R PV}{a:Pos}{y:Str}
def nL(b:List PV)(y:PV):Option PV:=(dy y).bind λv=>(i8 b).map λc=>.int (c.countP λz=>fI z v)
end
theorem GP(c:Nat)(x:Tx):ur [c] x=x.contains c:=by unfold ur;have:=StrLaws.found_one (tS x) c;rw[lD]at this;rw[show(tS [c])=⟨#[c]⟩from rfl,this];simp[List.contains_eq_mem]
section
variable{K:ar}{F m:ac->Prop}{S l:Nat->ac->Prop}{ε g:af}{σ:St}{H H':Hp}{i:Nat}{po:PO}
variable{a b:ac}{f:List (List PV)}{as:List ac}{j:Nat}{xs:List PV}{vs:List V}
theorem gq.len(h:gq K H F f as):as.length=f.length:=by
 unfold gq at h
 induction h with
 |nil=>rfl
 |cons _ _ c=>simp[c]
theorem gq.get(h:gq K H F f as)(e:f[j]?=aa xs):∃b vs,as[j]?=aa b/\H b=aa (.lst vs)/\aY K H F xs vs:=by
 unfold gq at h
 induction h generalizing j with
 |nil=>simp at e
 |cons r _ c=>
  cases j with
  |zero=>simp at e;subst e;obtain⟨vs,n,d⟩:=r;exact⟨_,vs,rfl,n,d⟩
  |succ j=>obtain⟨b,vs,q⟩:=c (j:=j) (by simpa using e);exact⟨b,vs,by simpa using q⟩
theorem gq.set(h:gq K H F f as)(nd:as.Nodup)(e:as[j]?=aa b){H':Hp}(u:∀x v,aY K H F x v->aY K H' F x v)(s:∀c o,c∈as->c≠b->H c=aa o->H' c=aa o)(B:∃p,H' b=aa (.lst p)/\aY K H' F xs p):gq K H' F (f.set j xs) as:=by
 unfold gq at h ⊢
 induction h generalizing j with
 |nil=>exact .nil
 |cons r A z=>
  rename_i x c f as;have n:=jc.mp nd;cases j with
  |zero=>simp at e;subst e;refine .cons B ?_;exact gq.mono (K:=K) u (λd o q=>s d o (by simp[q]) (by rintro rfl;exact n.1 q)) A
  |succ j=>
   have w:as[j]?=aa b:=by simpa using e
   have y:b∈as:=z6 w;obtain⟨vs,D,C⟩:=r;exact .cons ⟨vs,s c _ (by simp) (by rintro rfl;exact n.1 y) D,u _ _ C⟩ (z n.2 w λd o q=>s d o (by simp[q]))
theorem gq.frz(h:gq K H F f as)(c:∀b∈as,F b):aY K H F (f.map .lst) (as.map .ref):=by
 unfold gq at h
 induction h with
 |nil=>rfl
 |cons r _ d=>obtain⟨vs,p,o⟩:=r;exact⟨_,_,rfl,⟨_,vs,rfl,.inl p,c _ (by simp),o⟩,d λb n=>c b (by simp[n])⟩
end
theorem gq.snoc{K:ar}{H:Hp}{F:ac->Prop}{d:List (List PV)}{f:List ac}{c:List PV}{b:ac}{a:List V}(h:gq K H F d f)(i:H b=aa (.lst a))(g:aY K H F c a):gq K H F (d++[c]) (f++[b]):=wD h ⟨a,i,g⟩
section
variable{X:Cx}{E:XK}{n:c8}{x:Str}{N':List Str}{cap:List Nat}
variable{pin:List Nat}
theorem GZ{F:ac->Prop}{S:Nat->ac->Prop}{m:af}{f:St}{H:Hp}{D:jK}{i:Nat}{dn:af->R PO}(P:i∉pin)(rl:aJ X.K F S m f H)(h:g8 X.K E pin f F S H (bd i (dF dn) m) D):Ok X.K E f F S H (dn m) (λr _ q u l=>∀a d,d4 X.K l q r a d->(∀b,d b->H b=ae/\¬q b/\¬U u b/\∃o,l b=aa o/\dr o)->D.nx (f.set i (aa (.ref a))) l):=by
 unfold bd dF at h;cases s:dn m with
 |no=>rw[s]at h;exact h.elim
 |er c J=>rw[s]at h;exact λx q u l M Z=>h x q u f l M Z (ig.refl _ _)
 |ok r I=>
  rw[s]at h;intro G B p r1 j a d N A;cases r with
  |dK g=>exact h.elim
  |lls dE=>exact h.elim
  |dL dE=>exact h.elim
  |ins C fs=>exact h.elim
  |dT g=>exact h.elim
  |dN g=>exact h.elim
  |inl C fs y v=>exact h.elim
  |lst v=>
   have W:∀b,d b->¬U B b/\∃o,p b=aa o:=λb z=>let ⟨_,_,x3,o,x4,_⟩:=A b z;⟨x3,o,x4⟩
   obtain⟨⟨K,Q,O⟩,T⟩:=N;have Y:a8 (U S) (U B) F (λb=>G b\/d b) H p:=⟨λb z=>.inl (j.fro b z),j.keep,j.there,λb z=>z.elim (j.fnew b) λw=>.inr (.inl (A b w).1),j.onew⟩
   have L:aO X.K p (λb=>G b\/d b) (.lst v) (.ref a):=⟨a,K,rfl,.inl Q,.inr ((T a).mpr rfl),aY.mono (λ_ z=>.inl z) (λ_ _ _ z=>z) (λ_ _ z _=>z) _ _ O⟩
   exact h _ _ _ p ((r1.more W).set L) (Y.trans (a8.less i)) (ig.set P)
section
variable{c a:ay}{y:Str}{g j f d:Pos}{l:af->R (List PV)}{dt:af->R Bool}{de:af->R PV}{m:af->R PO}{b:List ay}
theorem F_(i:Nat)(T:X.N.Nodup)(B:gA X n x N' cap)(P:X.calm=ah)(M:DI X E (.Name x g) a l)(J:∀C o p r q,DF (cH X n N' C o p r q) E0 b dt) (O:∀C o p r q,DE (cH X n N' C o p r q) E0 c de)(L:i∉pin:=by decide) (A:X.N[i]?=aa y:=by rfl) (G:Loc X.env.scope y:=by first|exact Or.inl rfl|exact Or.inr rfl) (z:g_ (.ListComp c [⟨.Name x g,a,b,0⟩] n f) (aa (.Name y j)) d.line X.env=pure ah:=by rfl)(N:X.fn y=ah\/X.env.scope.names.lookup y=aa .local:=by first|exact .inl rfl|exact .inr rfl) (K:∀x,mX a X.env x=pure x:=by intro _;rfl):DS X E pin (.Assign [.Name y j] (.ListComp c [⟨.Name x g,a,b,0⟩] n f) d) (bd i (dF (bK cap l dt de))):=λF S W u H D w h=>eQ (N6 (wi:=pO X (.Name x g) a) (ts:=λu H Q=>∀C o p r q,vA (cH X n N' C o p r q) b u H Q) (te:=λu H Q=>∀C o p r q,gd (cH X n N' C o p r q) c u H Q) B P wm (λC o p r q v s u H Q I h=>(h C o p r q).run v s I) (λC o p r q v s u H Q I h=>(h C o p r q).run v s I) T A G z N K) (Cy M J O w (GZ L w h))
end
end
def fL(a:List Nat):Nat->af->Bool
 |_,[]=>ah
 |i,.own c::b=>a.contains i&&gZ c&&fL a (i+1) b
 |i,_::b=>fL a (i+1) b
theorem rh{c:List Nat}:∀{b:af}{k:Nat},fL c k b=ah->∀(i:Nat) a,b[i]?=aa (.own a)->k+i∈c/\gZ a=ah
 |[],_,_,i,a,e=>by simp at e
 |.own q::b,k,h,0,a,e=>by simp only[List.getElem?_cons_zero,Option.some.injEq,Slot.own.injEq]at e;subst e;simp only[fL,dW]at h;exact⟨by simpa using h.1.1,h.1.2⟩
 |.own q::b,k,h,i+1,a,e=>by simp only[fL,dW]at h;have:=rh (k:=k+1) h.2 i a (by simpa using e);rwa[sZ,s_]at this
 |.val q::b,k,h,0,a,e=>by simp at e
 |.none::b,k,h,0,a,e=>by simp at e
 |.val q::b,k,h,i+1,a,e=>by have:=rh (k:=k+1) (by simpa[fL]using h) i a (by simpa using e);rwa[sZ,s_]at this
 |.none::b,k,h,i+1,a,e=>by have:=rh (k:=k+1) (by simpa[fL]using h) i a (by simpa using e);rwa[sZ,s_]at this
def bh(len:Nat)(b:List Nat)(g:af->R Slot):af->R Slot:=λa=>if a.length=len/\fL b 0 a=ah then g a else .no
theorem cW{q:dZ}{P:a4}{w:aT}{K:ar}{o:Str->Option ai}{g:aF}{x:Str}{c:aV}{N b:List Str}{k n:Nat}{d:af->R aG}{pin:List Nat}(D:cP K o x c)(G:bS N b (aI c))(v:N.length=b.length+n)(y:∀(kV p u:ai) (F:Option ac) (l C:ai) (m:List ai),m.length=b.length->dU (fP x x (fX c) (dj c) (aI c) .none kV p u F l C) ⟨m,[]⟩=pure (b.zip m))(B:∀(f:ac) (l:ai) (A:aX) (j:List Env) (s:am) (H:Hp) (E:XK),Room k (A.deeper (fO x (aI c) s.heap.objs.size f l))->fH (eZ q P w K o g N x (aI c) f l A j s H E) E pin (dj c) d):cO q P w K o g x (k+1) b (bn K (bh b.length pin (a5 n d))):=by
 have no:∀{a},bh b.length pin (a5 n d) a≠.no->a.length=b.length/\fL pin 0 a=ah:=λ{a} h=>by
  unfold bh at h;by_cases z:a.length=b.length/\fL pin 0 a=ah
  .exact z
  .rw[if_neg z]at h;exact absurd rfl h
 exact OI D G v y (λa h=>(no h).1) (λa h i r e=>by have:=rh (no h).2 i r e;rwa[tf]at this) (λa h=>by unfold bh;rw[if_pos (no h)]) B
theorem Cd{f:ac}{r:gJ}{u:dZ}{P:a4}{w:aT}{K:ar}{q:Str->Option ai}{j:aF}{x a:Str}{g:aV}{N c:List Str}{k n:Nat}{d:af->R aG}{pin:List Nat}(J:ko K x a g f r)(I:bS N c (aI g))(B:N.length=c.length+n)(C:∀(kV p y:ai) (G:Option ac) (m F:ai) (o:List ai),o.length=c.length->dU (fP x a (fX g) (dj g) (aI g) .none kV p y G m F) ⟨o,[]⟩=pure (c.zip o))(D:∀(f:ac) (m:ai) (A:aX) (l:List Env) (s:am) (H:Hp) (E:XK),Room k (A.deeper (fO a (aI g) s.heap.objs.size f m))->fH (eZ u P w K q j N a (aI g) f m A l s H E) E pin (dj g) d):gz P w K q j u (k+1) f r c (bn K (bh c.length pin (a5 n d))):=by
 have no:∀{b},bh c.length pin (a5 n d) b≠.no->b.length=c.length/\fL pin 0 b=ah:=λ{b} h=>by
  unfold bh at h;by_cases z:b.length=c.length/\fL pin 0 b=ah
  .exact z
  .rw[if_neg z]at h;exact absurd rfl h
 exact CK J I B C (λb h=>(no h).1) (λb h i v e=>by have:=rh (no h).2 i v e;rwa[tf]at this) (λb h=>by unfold bh;rw[if_pos (no h)]) D
theorem Ec{P:List ai->Prop}(h:∀a,P [a])(c:List ai)(d:c.length=1):P c:=by
 cases c with
 |nil=>cases d
 |cons a r=>cases r with
  |nil=>exact h a
  |cons b r=>cases d
theorem Et{P:List ai->Prop}(h:∀a b,P [a,b])(c:List ai)(d:c.length=2):P c:=by
 cases c with
 |nil=>cases d
 |cons a r=>exact Ec (P:=λr=>P (a::r)) (h a) r (wQ d)
theorem BH{P:List ai->Prop}(h:∀a b c,P [a,b,c])(d:List ai)(f:d.length=3):P d:=by
 cases d with
 |nil=>cases f
 |cons a r=>exact Et (P:=λr=>P (a::r)) (h a) r (wQ f)
theorem NO{P:List ai->Prop}(h:∀a b c d,P [a,b,c,d])(f:List ai)(g:f.length=4):P f:=by
 cases f with
 |nil=>cases g
 |cons a r=>exact BH (P:=λr=>P (a::r)) (h a) r (wQ g)
theorem Pk{d:gJ}{c:List Str}(h:∀a,dU d ⟨[a],[]⟩=pure (c.zip [a]))(b:List ai)(f:b.length=1):dU d ⟨b,[]⟩=pure (c.zip b):=Ec (P:=λb=>dU d ⟨b,[]⟩=pure (c.zip b)) h b f
theorem O8{f:gJ}{d:List Str}(h:∀a b,dU f ⟨[a,b],[]⟩=pure (d.zip [a,b]))(c:List ai)(g:c.length=2):dU f ⟨c,[]⟩=pure (d.zip c):=Et (P:=λc=>dU f ⟨c,[]⟩=pure (d.zip c)) h c g
theorem Ph{g:gJ}{f:List Str}(h:∀a b c,dU g ⟨[a,b,c],[]⟩=pure (f.zip [a,b,c]))(d:List ai)(i:d.length=3):dU g ⟨d,[]⟩=pure (f.zip d):=BH (P:=λd=>dU g ⟨d,[]⟩=pure (f.zip d)) h d i
theorem Pt{i:gJ}{g:List Str}(h:∀a b c d,dU i ⟨[a,b,c,d],[]⟩=pure (g.zip [a,b,c,d]))(f:List ai)(j:f.length=4):dU i ⟨f,[]⟩=pure (g.zip f):=NO (P:=λf=>dU i ⟨f,[]⟩=pure (g.zip f)) h f j
theorem eM{P:a4}{w:aT}{X:Cx}:jL (b7 P w) X E0:=λ_ _ _ _ _ _ _ h=>by obtain⟨a,T,c,b,_,_,_,_,_,_,_,z⟩:=h;exact z.elim
theorem dG:dQ "len"=aa (.builtin "len"):=by decide +kernel
theorem zN:dQ "all"=aa (.builtin "all"):=by decide +kernel
theorem Ls:dQ "any"=aa (.builtin "any"):=by decide +kernel
theorem vm:dQ "sorted"=aa (.builtin "sorted"):=by decide +kernel
theorem rV:dQ "isinstance"=aa (.builtin "isinstance"):=by decide +kernel
theorem LJ:dQ "int"=aa (.type "int"):=by decide +kernel
theorem Lu:dQ "bool"=aa (.type "bool"):=by decide +kernel
theorem JU:dQ "str"=aa (.type "str"):=by decide +kernel
theorem xZ:dQ "list"=aa (.type "list"):=by decide +kernel
theorem nK:dQ "tuple"=aa (.type "tuple"):=by decide +kernel
theorem JL:dQ "set"=aa (.type "set"):=by decide +kernel
def ku:ay->Bool
 |.Starred _ _=>ah
 |_=>aj
theorem iV{e:ay}{es:List ay}{env:Env}(h:ku e=aj):aP (e::es) env=(aj,aL e env)::aP es env:=by
 cases e <;> first|rfl|cases h
section
variable{X:Cx}{E:XK}{e:ay}{a:List ay}{d:af->R PV}{b:af->R (List PV)}{c:af->R (List bY)}
theorem aS(g:DE X E e d)(f:DA X E a b)(h:ku e=aj:=by rfl):DA X E (e::a) (aq d b):=Kj g f (iV h)
theorem aU(g:DE X E e d)(f:DG X E a c)(h:ku e=aj:=by rfl):DG X E (e::a) (gV d c):=Hi g f (iV h)
end
def vy:List ai:=[.type "ValueError",.type "Exception",.type "BaseException",.type "object"]
theorem NC{K:ar}{h:aF}{C:ac}{B:List ai}{nw:String}(X:K.In h)(q:qo K C B nw=ah):∃g N u n bs A i sub E b D z y x w v f,h.get? C=aa (excClassObj u n C N bs g A i sub E b D z y x w v nw)/\h.Ns N f/\f "__init__"=ae/\OwnTail h B g:=by
 unfold qo at q;split at q
 case h_2=>cases q
 case h_1 d0 cdata slots look=>
  split at q
  case h_2=>cases q
  case h_1 C2 tl s0 s1 s2 s3 nn s5 em es=>
   rw[dW,dW,dW,dW,dW]at q;obtain⟨⟨⟨⟨⟨s,r⟩,d⟩,p⟩,a⟩,o⟩:=q;have r1:=beq_iff_eq.mp s;have m:=beq_iff_eq.mp r;have c:=beq_iff_eq.mp o;subst r1 m;cases cdata;dsimp only at em d a c;subst em;have l:=Bool.not_eq_true' _ |>.mp d
   subst l;have j:slots=#[s0,s1,s2,s3,aa (.builtin nn),s5]:=by cases slots;exact congrArg Array.mk es
   subst j;exact⟨tl,_,_,_,_,_,_,_,_,_,d0,s0,s1,s2,s3,s5,_,X _ _ look,Heap.Ns.of_isNs (PySem.W.isNs_of_in X a),PySem.W.nsMap_none_of_in X a c,PySem.W.tail_of_in X p⟩
theorem xR{K:ar}{h:aF}{a:Str->Option ai}{x:Str}{C:ac}{B:List ai}{nw:String}(X:K.In h)(e:a x=aa (.ref C))(q:qo K C B nw=ah):OwnCls x C B nw a h:=⟨e,NC X q⟩
def subB(K:ar)(D C:ac):Bool:=match K.lookup C with
 |some ⟨_,_,.cls a,_⟩=>a.mro.contains (.ref D)
 |_=>aj
def CN(K:ar)(C:ac):Bool :=
 g9 K (.ref C) "__getattribute__" == aa (aa (.builtin "BaseException.__getattribute__"))&&g9 K (.ref C) "__getattr__" == aa ae&&g9 K (.ref C) "__class__" == aa (aa (.builtin "object.__class__")) &&
 PySem.W.specialIn K (.builtin "object.__class__") "__get__" == aa (aa (.builtin "getset_descriptor.__get__"))&&PySem.W.takesIn K (.builtin "object.__class__") == aa ah&&PySem.W.mroIn K C (.type "object") == aa ah&&PySem.W.mroIn K C (.type "BaseException") == aa ah&&(PySem.W.clsIn K C).isSome
def w_(K:ar):Bool:=K.all λp=>match p.2.cls with
 |.type t=>t != "list"
 |_=>ah
theorem DQ{a:ac}{o:Obj}:∀{K:ar},K.lookup a=aa o->(a,o)∈K
 |[],e=>by cases e
 | (b,u)::K,e=>by
  rw[iQ]at e;cases q:a == b with
  |true=>rw[q]at e;cases e;rw[beq_iff_eq.mp q];exact lN ..
  |false=>rw[q]at e;exact iK _ (DQ e)
theorem CB{K:ar}{H:Hp}{F:ac->Prop}:∀a:List Int,aY K H F (a.map .int) (a.map V.int)
 |[]=>rfl
 |x::a=>⟨.int x,a.map V.int,rfl,rfl,CB a⟩
theorem MT{K:ar}{H:Hp}{a:ac}{b:List V}(h:w_ K=ah)(s:cb K H a b):Rd H a (.lst b):=by
 rcases s with s|⟨o,d,n,c,f,_⟩
 .exact s
 .have:=gK.mp h _ (DQ c);rw[f]at this;simp at this
theorem NJ{K:ar}{g:af->R Slot}{H:Hp}{a:ac}{c:List Int}{E:XK}(d:Rd H a (.lst (c.map V.int)))(h:g [.val (.lst (c.map .int))]=.ok (.val (.bl ah)) [.val (.lst (c.map .int))]):bn K g [.ref a] H (λv _=>v=.bl ah) E:=by
 refine⟨λb=>b=a,λ_ _=>False,[.val (.lst (c.map .int))],⟨rfl,λb e=>?_,λi pv e=>?_,λi l e=>?_,λi b z=>z.elim,λi j b z=>z.elim⟩,?_⟩
 .subst e;rcases d with d|⟨o,d⟩ <;> exact⟨_,d⟩
 .cases i with
  |zero=>cases e;exact⟨_,rfl,a,_,rfl,d,rfl,CB c⟩
  |succ i=>simp at e
 .cases i with
  |zero=>cases e
  |succ i=>simp at e
 .rw[h];exact λv q n p m _ _ f _ _=>f.1
theorem Pq{K:ar}{x:Str}{i:Int}{t:Tok}(e:dm K b_ x=aa (aa (.int i t))):∃t,dm K b_ x=aa (aa (.int i t)):=⟨t,e⟩
theorem Pl{K:ar}{x:Str}{l:Tx}{t:Tok}(e:dm K b_ x=aa (aa (.str (tS l) t))):∃t,dm K b_ x=aa (aa (.str (tS l) t)):=⟨t,e⟩
def cZ(K:ar)(x:Str)(a:aV):Prop:=∃f oc g kV h d j b i c,dm K b_ x=aa (aa (.ref f))/\K.lookup f=aa ⟨oc,g,.func (fP x x (fX a) (dj a) (aI a) .none kV h d j b i),c⟩/\p5 K b x=ah/\kH K (.ref f)=ah
theorem O7{K:ar}{x:Str}{b:aV}{f:ac}{oc kV j h d m:ai}{i n:Option ac}{g:Array (Option ai)}(a:dm K b_ x=aa (aa (.ref f)))(l:K.lookup f=aa ⟨oc,i,.func (fP x x (fX b) (dj b) (aI b) .none kV j h n d m),g⟩)(c:p5 K d x=ah) (k:kH K (.ref f)=ah):cZ K x b:=⟨f,oc,i,kV,j,h,n,d,m,g,a,l,c,k⟩
theorem cZ.at{K:ar}{h:aF}{mg:Str->Option ai}{x:Str}{b:aV}(d:cZ K x b)(X:K.In h)(G:h.Ns b_ mg):cP K mg x b:=by obtain⟨f,oc,j,kV,m,i,p,o,n,g,a,l,c,k⟩:=d;exact⟨f,_,ji X G a,vQ l c k⟩
def iZ(a:List (aD×PV))(k:aD):Option PV:=(a.find? λb=>decide (b.1=k)).map (·.2)
def oV(a:List (aD×PV))(k:aD)(v:PV):List (aD×PV):=if(a.any λb=>decide (b.1=k))=ah then a.map (λb=>if b.1=k then(b.1,v)else b)else a++[(k,v)]
def ge:PV->Option aD
 |.int i=>aa (.inl i)
 |.str x=>aa (.inr (tS x))
 |_=>ae
section
variable{K:ar}{F:ac->Prop}{S:Nat->ac->Prop}{ε:af}{σ:St}{H:Hp}{i:Nat}{kvs:List (aD×PV)}{d:List (aD×V)}{a:ac}
theorem so{x:PV}{v:V}{k:aD}(r:aO K H F x v)(e:ge x=aa k):v=kV k:=by
 cases x <;> simp[ge]at e
 .subst e;exact r
 .subst e;exact r.1
theorem f_.len(h:f_ K H F kvs d):d.length=kvs.length:=by
 unfold f_ at h
 induction h with
 |nil=>rfl
 |cons _ _ b=>simp[b]
theorem f_.val(h:f_ K H F kvs d)(k:aD):(∃x v,iZ kvs k=aa x/\d7 d k=aa v/\aO K H F x v)\/(iZ kvs k=ae/\d7 d k=ae):=by
 unfold f_ at h
 induction h with
 |nil=>exact .inr ⟨rfl,rfl⟩
 |@cons p q ps qs r _ ih=>
  by_cases e:p.1=k
  .refine .inl ⟨p.2,q.2,by simp[iZ,fQ,e],?_,r.2⟩;rw[pE (by rw[<-r.1];exact e)]
  .have b:¬q.1=k:=by rw[<-r.1];exact e
   rw[nQ b];have:iZ (p::ps) k=iZ ps k:=by simp[iZ,fQ,e]
   rw[this];exact ih
theorem f_.any(h:f_ K H F kvs d)(k:aD):(kvs.any λb=>decide (b.1=k))=d.any λb=>decide (b.1=k):=by
 unfold f_ at h
 induction h with
 |nil=>rfl
 |cons r _ c=>rw[kJ,kJ,c,r.1]
theorem f_.put(h:f_ K H F kvs d)(k:aD){x:PV}{v:V}(r:aO K H F x v):f_ K H F (oV kvs k x) (eC d k v):=by
 unfold oV eC;rw[h.any k];split
 .rename_i b;clear b;unfold f_ at h ⊢
  induction h with
  |nil=>exact .nil
  |@cons p q ps qs r1 _ ih=>
   refine .cons ?_ ih;dsimp only;by_cases e:p.1=k
   .rw[if_pos e,if_pos (by rw[<-r1.1];exact e)];exact⟨r1.1,r⟩
   .rw[if_neg e,if_neg (by rw[<-r1.1];exact e)];exact r1
 .exact wD h ⟨rfl,r⟩
theorem aJ.dkAt(r:aJ K F S ε σ H)(e:ε[i]?=aa (.own (.dK kvs))):∃a d,σ[i]?=aa (aa (.ref a))/\H a=aa (.dK d)/\f_ K H F kvs d/\S i a/\∀b,S i b->b=a:=by obtain⟨a,l,⟨f,j,g⟩,c⟩:=r.own i _ e;exact⟨a,f,l,j,g,(c a).mpr rfl,λb h=>(c b).mp h⟩
theorem aJ.updO{l po':PO}{o':HO}(r:aJ K F S ε σ H)(e:ε[i]?=aa (.own l))(N:gZ l=ah)(D:σ[i]?=aa (aa (.ref a)))(M:dr o')(h:∀u,(∀x v,aO K H F x v->aO K u F x v)->(∀x v,aY K H F x v->aY K u F x v)->u a=aa o'->∀G:ac->Prop,(∀b,G b↔b=a)->d4 K u F po' a G):aJ K F S (ε.set i (.own po')) σ (L2.upd H a o')/\a8 (U S) (U S) F F H (L2.upd H a o'):=by
 obtain⟨O,E,L⟩:=r.own i l e;rw[D]at E;cases E;have m:=BU L N;have A:S i a:=(m a).mpr rfl;have C:∀b,S i b->b=a:=λb z=>(m b).mp z;have y:i<ε.length:=(cI.mp e).1;have g:a8 (U S) (U S) F F H (L2.upd H a o'):=⟨λ_ z=>z,λb o q n=>by rw[bj (by rintro rfl;exact n ⟨i,A⟩)];exact q,λb o q=>by
  by_cases B:b=a
  .subst B;exact⟨_,bT⟩
  .exact⟨o,by rw[bj B];exact q⟩,λ_ z=>.inl z,λ_ z=>.inl z⟩
 refine⟨⟨by rw[hZ];exact r.len,λb z=>let ⟨o,q⟩:=r.ex b z;g.there b o q,λj pv q=>?_,λj l q=>?_,λj b z=>?_,r.dist⟩,g⟩
 .have f:i≠j:=by rintro rfl;rw[cU y]at q;cases q
  rw[cA f]at q;obtain⟨v,s,p⟩:=r.val j pv q;exact⟨v,s,p.grow g r.fit⟩
 .by_cases f:i=j
  .subst f;rw[cU y]at q;cases q;exact⟨a,D,h _ (λ_ _ z=>z.grow g r.fit) (λ_ _ z=>z.grow g r.fit) bT _ m⟩
  .rw[cA f]at q;obtain⟨c,s,p⟩:=r.own j l q;refine⟨c,s,p.mono (λ_ _ z=>z.grow g r.fit) (λ_ _ z=>z.grow g r.fit) λb o z w=>?_⟩;rw[bj (by rintro rfl;exact f (r.dist i j b A z))];exact w
 .obtain⟨⟨l,s⟩,p,o,J,I⟩:=r.foot j b z;by_cases f:i=j
  .subst f;rw[C b z];exact⟨⟨_,cU y⟩,by rw[<-C b z];exact p,_,bT,M⟩
  .exact⟨⟨l,by rw[cA f];exact s⟩,p,o,by rw[bj (by rintro rfl;exact f (r.dist i j b A z))];exact J,I⟩
end
def dO(ε:af)(i:Nat):Option (List (aD×PV)):=match ε[i]? with
 |some (.own (.dK a))=>aa a
 |_=>ae
theorem lK{b:af}{i:Nat}{a:List (aD×PV)}(h:dO b i=aa a):b[i]?=aa (.own (.dK a)):=by
 unfold dO at h;split at h
 .cases h;assumption
 .cases h
section
variable{X:Cx}{E:XK}{pin:List Nat}{e b c:ay}{de db f:af->R PV}{d:Pos}
def yu:af->R PO:=λa=>.ok (.dK []) a
theorem Hr:DN X E (.Dict [] [] d) yu:=λF S l i H Q g h=>bX BM λp a=>by
 have al:Al F F H (upd H p (.dK [])):=Al.new0 a;refine h F S _ (g.al al) al.grow p (λb=>b=p) ⟨⟨[],bT,.nil⟩,λb=>oz⟩ λb z=>?_;subst z;refine⟨a,λz=>?_,λ⟨j,z⟩=>?_,_,bT,trivial⟩
 .obtain⟨o,q⟩:=g.ex b z;rw[a]at q;cases q
 .obtain⟨_,_,o,q,_⟩:=g.foot j b z;rw[a]at q;cases q
def iD(i:Nat)(db:af->R PV):af->R PV:=λε=>(aB (dO ε i) ε).bind λ_ ε=>(db ε).bind λk a=>(aB (dO a i) a).bind λg a=>aB ((ge k).bind λk=>iZ g k) a
theorem yr(i:Nat){y:Str}{z:Pos}(Z:X.A.units+64<cLine)(K:DE X E b db)(M:X.N[i]?=aa y:=by rfl)(N:dw X.env.scope y:=by eq_refl)(J:(y==("__debug__":Str))=aj:=by decide) (O:(y==("__classdict__":Str))=aj:=by decide) (G:vo b:=by exact λ_ _=>rfl):DE X E (.Subscript (.Name y z) b d) (iD i db):=λF S o w H Q p h=>by
 unfold iD at h;cases n:dO o i with
 |none=>rw[n]at h;exact h.elim
 |some r=>
  rw[n]at h;simp only[cf,R.bind_ok]at h;obtain⟨a,A,s,_⟩:=p.dkAt (lK n);refine bX (AI ∅ (eu M N J O) bz G) ⟨.ref a,s,K F S o w H _ p ((Ok.bind h).imp λk j W P T r1 g1 q u B=>?_)⟩;cases m:dO j i with
  |none=>rw[m]at q;exact q.elim
  |some D=>
   rw[m]at q;simp only[cf,R.bind_ok]at q;obtain⟨a',Y,g,L,I,_⟩:=r1.dkAt (lK m);rw[s]at g;cases g;cases l:ge k with
   |none=>rw[l]at q;exact q.elim
   |some C=>
    rw[l,gu]at q;rw[so B l];rcases I.val C with⟨x,v,h1,h2,h3⟩|⟨h1,h2⟩
    .rw[h1]at q;exact⟨a,v,rfl,by rw[<-h2];exact kl.k L,q W P T r1 (a8.refl ..) v h3⟩
    .rw[h1]at q;exact q.elim
def lH(i:Nat)(db f:af->R PV):af->R PV:=λg=>(aB (dO g i) g).bind λ_ g=>(db g).bind λk h=>(f h).bind λz a=>(aB (dO a i) a).bind λj a=>aB ((ge k).map λk=>(iZ j k).getD z) a
theorem Dx(i:Nat){y:Str}{j g:Pos}(hu:X.A.units+64<cLine)(hb:DE X E b db)(hc:DE X E c f)(hN:X.N[i]?=aa y:=by rfl)(dY:dw X.env.scope y:=by eq_refl)(hd:(y==("__debug__":Str))=aj:=by decide) (bc:(y==("__classdict__":Str))=aj:=by decide)(l:hV (.Name y j) "get" X.env (aL (.Name y j) X.env)=aL (.Name y j) X.env:=by rfl) (A:(g.endLine == d.line)=ah:=by rfl) (s1:ku b=aj:=by rfl) (Z:ku c=aj:=by rfl):DE X E (.Call (.Attribute (.Name y j) "get" g) [b,c] [] d) (lH i db f):=λF S I G H Q K h=>by
 have J:aP [b,c] X.env=[(aj,aL b X.env),(aj,aL c X.env)]:=by rw[iV s1,iV Z];rfl
 have m:M2 X (.Name y j) "get" g b c d:=⟨l,by rw[J];rfl,A,by rw[J];rfl⟩
 unfold lH at h;cases D:dO I i with
 |none=>rw[D]at h;exact h.elim
 |some L=>
  rw[D]at h;simp only[cf,R.bind_ok]at h;obtain⟨a,W,N,Y,_⟩:=K.dkAt (lK D);refine bX (Iz ∅ (eu hN dY hd bc) bz bz m) ⟨.ref a,N,a,rfl,.inl ⟨_,.inl Y⟩,hb F S I G H _ K ((Ok.bind h).imp λk p F1 S1 H1 r1 g1 q u ru=>?_)⟩;refine hc F1 S1 p G H1 _ r1 ((Ok.bind q).imp λz o T O P s g2 q w r=>?_);cases C:dO o i with
  |none=>rw[C]at q;exact q.elim
  |some kvs=>
   rw[C]at q;simp only[cf,R.bind_ok]at q;obtain⟨a',ws,n,M,hk,_⟩:=s.dkAt (lK C);rw[N]at n;cases n;cases B:ge k with
   |none=>rw[B]at q;exact q.elim
   |some ky=>
    rw[B,oy]at q;rw[so ru B];rcases hk.val ky with⟨x,v,l,h2,A⟩|⟨l,h2⟩
    .rw[l]at q;exact⟨aa v,by rw[<-h2];exact kl.k M,q T O P s (a8.refl ..) v A⟩
    .rw[l]at q;exact⟨ae,by rw[<-h2];exact kl.k M,q T O P s (a8.refl ..) w r⟩
def kU(i:Nat)(db de:af->R PV):af->R aG:=λj=>(de j).bind λy g=>(aB (dO g i) g).bind λ_ g=>(db g).bind λk a=>(aB (dO a i) a).bind λh a=>(aB (ge k) a).bind λk a=>if h.length<bQ then .ok .next (a.set i (.own (.dK (oV h k y))))else .no
theorem zG(i:Nat){y:Str}{A j:Pos}(hu:X.A.units+64<cLine)(hb:DE X E b db)(he:DE X E e de)(hN:X.N[i]?=aa y:=by rfl)(dY:dw X.env.scope y:=by eq_refl)(hd:(y==("__debug__":Str))=aj:=by decide) (bc:(y==("__classdict__":Str))=aj:=by decide) (Y:g_ e (aa (.Subscript (.Name y A) b j)) d.line X.env=pure aj:=by rfl):DS X E pin (.Assign [.Subscript (.Name y A) b j] e d) (kU i db de):=λF S I o H D O h=>by
 refine eQ (Bm ∅ (eu hN dY hd bc) bz bz Y) (he F S I o H _ O (h.bindE.imp λy l F1 S1 H1 r1 g1 q v M=>?_));cases z:dO l i with
 |none=>rw[z]at q;exact q.elim
 |some C=>
  rw[z]at q;simp only[cf,R.bind_ok]at q;obtain⟨a,J,w,t5,_⟩:=r1.dkAt (lK z);refine⟨.ref a,w,hb F1 S1 l o H1 _ r1 (q.bindE.imp λk p F2 S2 H2 B g2 g u N=>?_)⟩;cases n:dO p i with
  |none=>rw[n]at g;exact g.elim
  |some s=>
   rw[n]at g;simp only[cf,R.bind_ok]at g;obtain⟨a',K,m,ha,G,_⟩:=B.dkAt (lK n);rw[w]at m;cases m;cases x:ge k with
   |none=>rw[x]at g;exact g.elim
   |some r=>
    rw[x]at g;simp only[cf,R.bind_ok]at g;split at g
    .rename_i Z;rw[so N x];have W:=G.put r (M.grow g2 r1.fit);obtain⟨P,g3⟩:=B.updO (po':=.dK (oV s r y)) (o':=.dK (eC K r v)) (lK n) rfl w trivial λH' T m2 L Sa Q=>⟨⟨_,L,W.mono T⟩,Q⟩
     exact⟨a,_,rfl,wp.k ha (by rw[G.len];exact eV Z jy),g F2 S2 o _ P g3 (ig.refl _ _)⟩
    .exact g.elim
end
section
variable{X:Cx}
def rX(a d:ac):HO:=.ext λh=>h.IsValuesView a d
theorem KY:wn X "dict.values" (λx c H Q=>∃d b,x=.ref d/\c=[]/\H d=aa (.dK b)/\∀a,H a=ae->Q (.ref a) (upd H a (rX a d))):=by
 intro A s r H x c v u Q I i j h;obtain⟨d,b,rfl,rfl,p,q⟩:=h;cases i;cases j.zero;obtain⟨z,n,g,rel,f⟩:=rY I.hok p;refine Ab PySem.F.slot_dict_values f.typeIs PySem.F.entry_dict_values (PySem.F.args_dict_values_1 _) (meets_dict_values (gf X.prog X.w) d n) ⟨⟨g,f⟩,?_⟩;refine⟨.ref s.heap.objs.size,_,I.laid (a:=s.heap.objs.size) (o:=rX s.heap.objs.size d) (t':=s.toks) (λ_ _ q=>bf _ q) (ba _) ?_,rfl,q _ I.fresh⟩;exact⟨⟨_,cj _ rfl,rfl,rfl⟩,⟨_,cj _ rfl⟩,λy w ⟨o,m,l⟩ k=>⟨o,k o m,l⟩⟩
theorem KV.at{kvs:List (aD×V)}{vs:List (aD×ai)}(r:KV kvs vs){i:Nat}{k:aD}{u:ai}(h:vs[i]?=aa (k,u)):∃v,kvs[i]?=aa (k,v)/\RelV v u:=by
 unfold KV at r
 induction r generalizing i with
 |nil=>simp at h
 |@cons p q ps qs r1 _ ih=>
  cases i with
  |zero=>simp at h;subst h;exact⟨p.2,by simp[show k=p.1 from r1.1.symm],r1.2⟩
  |succ i=>exact ih (by simpa using h)
def jA(a:List (aD×V)):Option Bool:=match a with
 |[]=>aa aj
 | (_,.int i)::r=>(jA r).map λb=>(decide (i≠0))||b
 |_=>ae
theorem Cr:∀{a:List (aD×V)}{b:Bool},jA a=aa b->(∀(i:Nat) k v,a[i]?=aa (k,v)->∃n,v=.int n)/\b=(bG a.length).any λi=>match a[i]? with|aa (_,.int n)=>decide (n≠0)|_=>aj
 |[],b,h=>by simp[jA]at h;subst h;exact⟨by simp,rfl⟩
 | (k,.int n)::r,b,h=>by
  simp only[jA,sT]at h;obtain⟨l,j,g⟩:=h;obtain⟨f,d⟩:=Cr j;refine⟨λi c v e=>?_,?_⟩
  .cases i with
   |zero=>simp at e;exact⟨n,e.2.symm⟩
   |succ i=>exact f i c v (by simpa using e)
  .rw[eX,Ae,kJ,List.any_map,<-g,d];rfl
 | (_,.non)::_,_,h=>by simp[jA]at h
 | (_,.bl _)::_,_,h=>by simp[jA]at h
 | (_,.str _)::_,_,h=>by simp[jA]at h
 | (_,.ref _)::_,_,h=>by simp[jA]at h
 | (_,.ty _)::_,_,h=>by simp[jA]at h
theorem Hq(O:X.calm=ah):ff X (.builtin "any") (λy H Q=>∃(p d:ac) (a:List (aD×V)) (b:Bool),y=[.ref p]/\H p=aa (rX p d)/\H d=aa (.dK a)/\jA a=aa b/\Q (.bl b) H):=by
 intro Z s C H y us Q I r h;obtain⟨p,d,a,b,rfl,l,N,S,q⟩:=h;obtain⟨u,rfl,E⟩:=vals1 r;cases E;obtain⟨j,_,_⟩:=(show cV X.prog X.w H s.heap p (rX p d)from I.hok p _ l)
 obtain⟨z,hs,f,rel,Y⟩:=rY I.hok N;obtain⟨A,g⟩:=Y.dictAt;obtain⟨L,K⟩:=Cr S;refine call_any_walk (wpAny_pyIter_values j g ?_);refine⟨s.heap.objs.size,_,_,_,_,_,λi=>match a[i]? with|aa (_,.int n)=>decide (n≠0)|_=>aj,rfl,Walks.dictValues (qT (I.ok.hd O)) _ d (cT g.lt_size) f A,⟨⟨_,cj _ rfl,rfl,rfl⟩,g.push _⟩,λi v s' Q' E' j m=>?_,λh' D k=>?_⟩
 .obtain⟨J,M⟩:=j;obtain⟨w,B,W⟩:=KV.at rel M;obtain⟨n,rfl⟩:=L i J w B;obtain⟨t,rfl⟩:=W;dsimp only at m;rw[B]at m;exact PyProof.Rows.truthy_int (by rw[show(n != 0)=decide (n≠0) by by_cases z:n=0 <;> simp[z]];exact m)
 .have I1:Inv X Z C H {s with heap:=s.heap.push {cls:=.type "dict_valueiterator",data:=.fields #[.ref d,.int 0 0,.int f.length 0,.int A 0]},toks:=s.toks}:=I.kept (t':=s.toks) λb o e=>bf _ e;have T:(bG f.length).any (λi=>match a[i]? with|aa (_,.int n)=>decide (n≠0)|_=>aj)=b:=by rw[<-rel.length];exact K.symm
  rw[T];exact⟨.bl _,H,Inv.turned (t':=D) I1 (it:=s.heap.objs.size) (λb o P e=>k b o (by simpa using P) e) I.fresh (iL I.lt) (.inr I.sz) (λx c e z=>by obtain⟨v,F⟩:=I.cell x c e;exact absurd F.lt (by rw[z];exact d9 _)) (λG l z=>absurd (br (I.pin G l).1) (by rw[z];exact d9 _)),rfl,q⟩
end
section
variable{X:Cx}{E:XK}{pin:List Nat}{e b c:ay}{de db G:af->R PV}{pos:Pos}
def n8:List (aD×PV)->Option Bool
 |[]=>aa aj
 | (_,.int i)::r=>(n8 r).map λb=>(decide (i≠0))||b
 |_=>ae
theorem LV{K:ar}{H:Hp}{F:ac->Prop}{a:List (aD×PV)}{d:List (aD×V)}{k:Bool}(h:f_ K H F a d)(e:n8 a=aa k):jA d=aa k:=by
 unfold f_ at h
 induction h generalizing k with
 |nil=>exact e
 |@cons p q C qs r _ ih=>
  obtain⟨j,pv⟩:=p;obtain⟨i,g⟩:=q;cases pv <;> simp only[n8,sT]at e <;> try cases e
  obtain⟨r1,f⟩:=r;obtain rfl:g=V.int _:=f;rename_i h;simp only[jA,ih h.1,oy];rw[<-h.2]
def rO(i:Nat):af->R PV:=λa=>(aB (dO a i) a).bind λd a=>aB ((n8 d).map .bl) a
theorem K2(i:Nat){y:Str}{g p f d:Pos}(D:X.calm=ah)(z:X.mg "any"=ae)(I:X.N[i]?=aa y:=by rfl)(K:dw X.env.scope y:=by eq_refl)(C:(y==("__debug__":Str))=aj:=by decide) (N:(y==("__classdict__":Str))=aj:=by decide) (B:Gl X "any":=by rfl)(x:hV (.Name y g) "values" X.env (aL (.Name y g) X.env)=aL (.Name y g) X.env:=by rfl) (w:(f.endLine == d.line)=ah:=by rfl)(u:aP [.Call (.Attribute (.Name y g) "values" f) [] [] d] X.env=(aj,aL (.Call (.Attribute (.Name y g) "values" f) [] [] d) X.env)::aP [] X.env:=by rfl) (L:(cm pos (aP [] X.env)).any (·.1)=aj:=by rfl):DE X E (.Call (.Name "any" p) [.Call (.Attribute (.Name y g) "values" f) [] [] d] [] pos) (rO i):=λF S v O H Q s h=>by
 unfold rO at h;cases o:dO v i with
 |none=>rw[o]at h;exact h.elim
 |some l=>
  rw[o]at h;simp only[cf,R.bind_ok]at h;obtain⟨a,r,J,j,A,P,_⟩:=s.dkAt (lK o);cases n:n8 l with
  |none=>rw[n]at h;exact h.elim
  |some k=>
   rw[n,oy]at h;refine bX (sA (Hq D) B z Ls (ip (Ia ER PySem.F.slot_dict_values PySem.F.type_dict_values KY (eu I K C N) x w) i6 u) (by decide) (by decide) u L) ⟨.ref a,J,.inr (.inr (.inl ⟨rfl,.inl ⟨_,j⟩⟩)),a,r,rfl,rfl,j,λq m=>?_⟩;have al:Al F F H (L2.upd H q (rX q a)):=Al.new0 m;have M:a≠q:=by rintro rfl;rw[j]at m;cases m
   exact⟨q,a,r,k,rfl,bT,by rw[bj M];exact j,LV A n,h F S _ (s.al al) al.grow _ rfl⟩
def u7(X:Cx)(E:XK)(m:List ay)(d:af->R (PO×List bY)):Prop :=
 ∀F S i f H Q,aJ X.K F S i f H->Ok X.K E f F S H (d i) (λp _ h n g=>∀a l j,d4 X.K g h p.1 a l->(∀b,l b->H b=ae/\¬h b/\¬U n b/\∃o,g b=aa o/\dr o)->fg X.K (f++[aa (.ref a)]) h g p.2 j->Q j g)->nB X m f H Q
theorem fg.app{K:ar}{g:St}{F:ac->Prop}{H:Hp}(d:St):∀{j:List bY}{vs:List V},fg K g F H j vs->fg K (g++d) F H j vs
 |[],_,h=>h
 |.inl _::_,_,⟨v,r,e,a,f⟩=>⟨v,r,e,a,f.app d⟩
 |.inr i::_,_,⟨v,r,e,a,f⟩=>⟨v,r,e,by rw[iw (cI.mp a).1];exact a,f.app d⟩
theorem d4.stay{K:ar}{O i F h:ac->Prop}{H f:Hp}{po:PO}{a:ac}{Sa:ac->Prop}(n:d4 K H F po a Sa)(g:a8 O i F h H f)(fit:Fit O F H)(d:∀b,Sa b->¬F b/\¬O b/\∃o,H b=aa o/\dr o):d4 K f h po a Sa/\∀b,Sa b->¬h b/\¬i b/\∃o,f b=aa o/\dr o:=by refine⟨n.mono (λ_ _ z=>z.grow g fit) (λ_ _ z=>z.grow g fit) λb o z w=>(g.stay w (d b z).2.1 (d b z).1).1,λb z=>?_⟩;obtain⟨s,r,o,q,p⟩:=d b z;obtain⟨m,l,j⟩:=g.stay q r s;exact⟨l,j,o,m,p⟩
variable{m:List ay}{dn:af->R PO}{B:af->R (List bY)}{A:af->R (PO×List bY)}
def gN(dn:af->R PO)(B:af->R (List bY)):af->R (PO×List bY):=λε=>(dn ε).bind λf d=>(B d).bind λg a=>.ok (f,.inr a.length::g) a
theorem BQ(v:DN X E e dn)(u:DG X E m B)(s:ku e=aj:=by rfl):u7 X E (e::m) (gN dn B):=λF S p i H Q q h=>by refine mq (ip bz gG (iV s)) (v F S p i H _ q ((Ok.bind h).imp λO d N J L r1 P x a D r n=>?_));refine u N J d i L _ r1 ((Ok.bind x).imp λT o M I K l y w j C=>?_);obtain⟨f,g⟩:=r.stay y r1.fit λb z=>(n b z).2;refine w M I K l (a8.refl ..) a D (.ref a::j) f (λb z=>⟨(n b z).1,g b z⟩) ⟨.ref a,j,rfl,?_,C.app _⟩;rw[l.len,oj (ba _),Ap];rfl
def lq(d:af->R PV)(A:af->R (PO×List bY)):af->R (PO×List bY):=λε=>(d ε).bind λx f=>(A f).bind λp a=>.ok (p.1,.inl x::p.2) a
theorem xw(w:DE X E e de)(u:u7 X E m A)(s:ku e=aj:=by rfl):u7 X E (e::m) (lq de A):=λF S j f H Q o h=>by refine mq (ip bz gG (iV s)) (w F S j f H _ o ((Ok.bind h).imp λx d T M O r1 I C v n=>?_));refine u T M d f O _ r1 ((Ok.bind C).imp λp i P L N q D y a K l r g J=>?_);exact y P L N q (a8.refl ..) a K _ r (λb z=>⟨mi I (g b z).1,(g b z).2⟩) ⟨v,l,rfl,n.grow D r1.fit,J⟩
theorem aJ.push{K:ar}{F:ac->Prop}{S:Nat->ac->Prop}{d:af}{y:St}{H:Hp}{w:PO}{a:ac}{i:ac->Prop}(r:aJ K F S d y H)(C:d4 K H F w a i)(x:∀b,i b->¬F b/\¬U S b/\∃o,H b=aa o/\dr o):aJ K F (λj b=>S j b\/(j=d.length/\i b)) (d++[.own w]) (y++[aa (.ref a)]) H:=by
 have lt:∀j b,S j b->j<d.length:=λj b z=>by obtain⟨⟨p,q⟩,_⟩:=r.foot j b z;exact(cI.mp q).1
 refine⟨by simp[r.len],r.ex,λj pv q=>?_,λj p q=>?_,λj b z=>?_,λj k b g f=>?_⟩
 .by_cases h:j<d.length
  .rw[iw h]at q;obtain⟨v,u,l⟩:=r.val j pv q;exact⟨v,by rw[iw (by rw[<-r.len];exact h)];exact u,l⟩
  .rw[oj ∅]at q;cases s:j-d.length with
   |zero=>rw[s]at q;simp at q
   |succ n=>rw[s]at q;simp at q
 .by_cases h:j<d.length
  .rw[iw h]at q;obtain⟨v,u,l⟩:=r.own j p q;refine⟨v,by rw[iw (by rw[<-r.len];exact h)];exact u,?_⟩;have:(λb=>S j b\/(j=d.length/\i b))=S j:=by funext b;exact propext ⟨λz=>z.elim id λz=>absurd z.1 (cT h),.inl⟩
   rw[this];exact l
  .rw[oj ∅]at q;cases s:j-d.length with
   |zero=>
    rw[s]at q;simp at q;subst q;have J:j=d.length:=∅
    subst J;refine⟨a,by rw[r.len,oj (ba _),Ap];rfl,?_⟩;have:(λb=>S d.length b\/(d.length=d.length/\i b))=i:=by funext b;exact propext ⟨λz=>z.elim (λz=>absurd (lt _ _ z) (d9 _)) (·.2),λz=>.inr ⟨rfl,z⟩⟩
    rw[this];exact C
   |succ n=>rw[s]at q;simp at q
 .rcases z with z|⟨rfl,z⟩
  .obtain⟨⟨p,q⟩,l⟩:=r.foot j b z;exact⟨⟨p,by rw[iw (lt j b z)];exact q⟩,l⟩
  .obtain⟨I,L,D⟩:=x b z;exact⟨⟨w,by rw[oj (ba _),Ap];rfl⟩,I,D⟩
 .rcases g with g|⟨rfl,g⟩ <;> rcases f with f|⟨rfl,f⟩
  .exact r.dist j k b g f
  .exact absurd ⟨j,g⟩ (x b f).2.1
  .exact absurd ⟨k,f⟩ (x b g).2.1
  .rfl
theorem aJ.pop{K:ar}{F:ac->Prop}{S:Nat->ac->Prop}{d:af}{n:Slot}{h:St}{u:Option V}{H:Hp}(r:aJ K F S (d++[n]) (h++[u]) H):aJ K F (λj b=>S j b/\j<d.length) d h H:=by
 have len:d.length=h.length:=by have:=r.len;simpa using this
 refine⟨len,r.ex,λj pv q=>?_,λj p q=>?_,λj b z=>?_,λj k b l i=>r.dist j k b l.1 i.1⟩
 .have a:=(cI.mp q).1;obtain⟨v,g,f⟩:=r.val j pv (by rw[iw a];exact q);exact⟨v,by rw[iw (by rw[<-len];exact a)]at g;exact g,f⟩
 .have a:=(cI.mp q).1;obtain⟨v,g,f⟩:=r.own j p (by rw[iw a];exact q);refine⟨v,by rw[iw (by rw[<-len];exact a)]at g;exact g,?_⟩;have:(λb=>S j b/\j<d.length)=S j:=by funext b;simp[a]
  rw[this];exact f
 .obtain⟨⟨p,q⟩,f⟩:=r.foot j b z.1;exact⟨⟨p,by rw[iw z.2]at q;exact q⟩,f⟩
def yt{a:Type}:R a->R a
 |.ok s ε=>.ok s ε.dropLast
 |.er c ε=>.er c ε.dropLast
 |.no=>.no
def kX(g:af->R Slot)(A:af->R (PO×List bY)):af->R Slot:=λε=>(A ε).bind λp a=>(aB (if(bq p.2).Nodup then b9 (a++[.own p.1]) p.2 else ae) a).bind λd a=>yt (cp (a++[.own p.1]) p.2 (g d))
theorem AV{a:af}{n:Nat}(h:a.length=n+1):∃l x,a=l++[x]/\l.length=n:=by
 refine⟨a.dropLast,a.getLast (by intro z;rw[z]at h;cases h),(List.dropLast_concat_getLast _).symm,by rw[Aq,h];rfl⟩
theorem a8.pushed{K:ar}{F s:ac->Prop}{S i:Nat->ac->Prop}{f H p:Hp}{n:Nat}{h:ac->Prop}(g:a8 (U λj b=>S j b\/(j=n/\h b)) (U i) F s H p){r:ac->Prop}{l:Nat->ac->Prop}(a:a8 (U l) (U S) r F f H)(d:∀b,h b->f b=ae):a8 (U l) (U λj b=>i j b/\j<n) r s f p where
 fro:=λb z=>g.fro b (a.fro b z)
 keep:=λb o q no=>g.keep b o (a.keep b o q no) λ⟨j,z⟩=>by
  rcases z with z|⟨_,z⟩
  .rcases a.onew b ⟨j,z⟩with w|w
   .exact no w
   .rw[w]at q;cases q
  .rw[d b z]at q;cases q
 there:=λb o q=>let ⟨o',q'⟩:=a.there b o q;g.there b o' q'
 fnew:=λb z=>by
  rcases g.fnew b z with w|w|⟨j,w|⟨_,w⟩⟩
  .exact a.fnew b w
  .exact .inr (.inl (mi a w))
  .exact .inr ((a.onew b ⟨j,w⟩).symm)
  .exact .inr (.inl (d b w))
 onew:=λb ⟨j,z,_⟩=>by
  rcases g.onew b ⟨j,z⟩with⟨k,w|⟨_,w⟩⟩|w
  .exact a.onew b ⟨k,w⟩
  .exact .inr (d b w)
  .exact .inr (mi a w)
variable{D:dZ}{x:Str}{k:Nat}{C:List Str}{g:af->R Slot}{p:Pos}
theorem DJ(c:cO D X.prog X.w X.K X.mg X.base x k C (bn X.K g))(hr:Room k X.A)(hx:jL D X E)(ha:u7 X E (e::m) A)(hg:Gl X x:=by rfl)(hd:(x==("__debug__":Str))=aj:=by decide) (h1:aP (e::m) X.env=(aj,aL e X.env)::aP m X.env:=by rfl) (h2:(cm pos (aP m X.env)).any (·.1)=aj:=by rfl):DR X E (.Call (.Name x p) (e::m) [] pos) (kX g A):=λF S ε P H Q rl h=>by
 obtain⟨f,fd,hm,Fn,hb,hk⟩:=c.ex;refine bX (BF Fn hr hg hm hk hb .nil hx gG hd h1 h2) (ha F S ε P H _ rl ?_);unfold kX at h;cases ed:A ε with
 |no=>rw[ed]at h;exact h.elim
 |er cv d=>rw[ed]at h;exact h
 |ok pa d=>
  obtain⟨N,q⟩:=pa;rw[ed]at h;simp only[R.bind_ok]at h;intro F1 S1 H1 r1 g1 a Sa vs ow W O;dsimp only at h O ow;have M:=r1.push ow λb z=>(W b z).2;by_cases nd:(bq q).Nodup
  .rw[if_pos nd]at h;cases m:b9 (d++[.own N]) q with
   |none=>rw[m]at h;exact h.elim
   |some ss=>
    rw[m]at h;simp only[cf,R.bind_ok]at h;rw[jC];refine⟨F1,kt q _,ss,M.cal O m nd,?_⟩;have len:∀n,(cu (d++[.own N]) q n).length=d.length+1:=λn=>by rw[uR];simp
    cases eg:g ss with
    |no=>rw[eg]at h;exact h.elim
    |er cv n=>
     rw[eg]at h;intro y F' S' H' T g';unfold cp at h;dsimp only at h;by_cases u:cr q n=ah
     .rw[if_pos u]at h;obtain⟨S2,I,Z,_⟩:=M.called O m nd T g' (λ_ z=>z) (lp u);obtain⟨l,sl,L,Y⟩:=AV (len n);rw[L]at I;have h:Ok X.K E P F S H (R.er cv (cu (d++[.own N]) q n).dropLast:R Slot) _:=h;rw[L,List.dropLast_concat]at h;have J:=a8.pushed (K:=X.K) Z g1 λb z=>(W b z).1;rw[<-Y]at J;exact h y F' _ H' I.pop J
     .rw[if_neg u]at h;exact h.elim
    |ok s n=>
     rw[eg]at h;intro v F' S' H' Sr T g' rv r fr;unfold cp at h;dsimp only at h;by_cases u:cr q n=ah
     .rw[if_pos u]at h;obtain⟨S2,I,Z,u2⟩:=M.called O m nd T g' (λ_ z=>.inl z) (lp u);obtain⟨l,sl,L,Y⟩:=AV (len n);rw[L]at I;have h:Ok X.K E P F S H (R.ok s (cu (d++[.own N]) q n).dropLast:R Slot) _:=h;rw[L,List.dropLast_concat]at h;have J:=a8.pushed (K:=X.K) Z g1 λb z=>(W b z).1;rw[<-Y]at J;refine h F' _ H' I.pop J v Sr rv λb z=>⟨mi g1 (fr b z),(r b z).1,λ⟨j,w,_⟩=>?_,(r b z).2.2⟩
      rcases u2 b ⟨j,w⟩with w|⟨i,w⟩
      .exact(r b z).2.1 w
      .obtain⟨_,_,o,y1,_⟩:=M.foot i b w;rw[fr b z]at y1;cases y1
     .rw[if_neg u]at h;exact h.elim
  .rw[if_neg nd]at h;exact h.elim
end
section
variable{X:Cx}{E:XK}{pin:List Nat}{e b c o:ay}{de db u d:af->R PV}{n:af->R (List PV)}{g p q m:Pos}
def rT:List PV->Option PO
 |[.lst f]=>(f8 f).bind λa=>if a≠[]/\(e_ a).length<60 then aa (.lst (ak (bw (e_ a))))else ae
 |_=>ae
def LZ(X:Cx)(r:List V->Hp->VK->Prop):List V->Hp->VK->Prop:=λh H Q=>∃(p:ac) (f:List Tx),h=[.ref p]/\cb X.K H p (c7 f)/\(e_ f).length<4000/\∀a,H a=ae->r [.ref a] (upd H a (nG X a (e_ f))) Q
def Ik(X:Cx):List V->Hp->VK->Prop:=λf H Q=>∃(p:ac) (a:List Tx),f=[.ref p]/\H p=aa (nG X p a)/\a≠[]/\a.length<64/\∀l,H l=ae->Q (.ref l) (upd H l (.lst (c7 (bw a))))
theorem ID{l:List Tx}(h:l≠[]):e_ l≠[]:=λz=>by
 cases l with
 |nil=>exact h rfl
 |cons x r=>have:x∈e_ (x::r):=(rL _ _).mpr (by simp);rw[z]at this;simp at this
theorem GQ:k_ X.K (LZ X (Ik X)) rT:=λF H K L Q N I y e q=>by
 unfold rT at e;split at e
 .obtain⟨v,rfl,a,M,rfl,G,_,s⟩:=gY y;obtain⟨i,J,r⟩:=Ar.mp e;rw[xl J]at s;obtain⟨rfl,B⟩:=Pa.mp s;split at r
  .rename_i C;cases r;refine⟨a,i,rfl,.inl G,∅,λb D=>⟨b,e_ i,rfl,bT,ID C.1,∅,λl f=>?_⟩⟩;have j:l≠b:=by rintro rfl;rw[bT]at f;cases f
   have h:H l=ae:=by rw[bj j]at f;exact f
   have al:Al F F H (upd (upd H b (nG X b (e_ i))) l (.lst (c7 (bw (e_ i))))):=(Al.new0 D).trans (Al.new0 f);refine q l F _ (λc=>c=l) al ⟨⟨_,bT,Pa.mpr ⟨rfl,λx A=>B x ((rL _ _).mp ((jr _).mem_iff.mp A))⟩⟩,λc=>oz⟩ λc z=>?_;subst z;exact⟨h,λz=>Exists.elim (I _ z) (λo w=>by rw[h]at w;cases w),_,bT,trivial⟩
  .cases r
 .cases e
theorem Ka(i:X.calm=ah)(s:DA X E [e] n)(l:X.mg "sorted"=ae)(a:X.mg "set"=ae)(r:Gl X "sorted":=by rfl)(f:Gl X "set":=by rfl)(h:ku e=aj:=by rfl):DN X E (.Call (.Name "sorted" p) [.Call (.Name "set" q) [e] [] m] [] g) (dL rT n):=λF S x w H Q j v=>bX (sA (Gv i) r l vm (ip (si (I0 i) f a JL gG (by decide) (by decide) (iV h) rfl) i6 (iV rfl)) (by decide) (by decide) (iV rfl) rfl) (vn GQ s j v)
def jN(i j:Nat)(d:af->R PV):af->R aG:=λε=>(d ε).bind λx ε1=>match x with
 |.tup [a,b]=>.ok .next ((ε1.set i (.val a)).set j (.val b))
 |_=>.no
theorem zH(i j:Nat){x y:Str}{k:Nat}{f r l:Pos}(hc:X.calm=ah)(w:X.N.Nodup)(he:DE X E e de)(Z:i∉pin:=by decide)(gM:j∉pin:=by decide)(hi:X.N[i]?=aa x:=by rfl)(hj:X.N[j]?=aa y:=by rfl)(T:Loc X.env.scope x:=by first|exact Or.inl rfl|exact Or.inr rfl) (Q:Loc X.env.scope y:=by first|exact Or.inl rfl|exact Or.inr rfl)(hf:X.fn x=ah\/X.env.scope.names.lookup x=aa .local:=by first|exact .inl rfl|exact .inr rfl) (O:X.fn y=ah\/X.env.scope.names.lookup y=aa .local:=by first|exact .inl rfl|exact .inr rfl)(Y:swapsWithSole [.Tuple [.Name x r,.Name y l] k f] e g.line X.env=pure aj:=by rfl) (W:swappedStores [.Tuple [.Name x r,.Name y l] k f] e X.env=pure ae:=by rfl):DS X E pin (.Assign [.Tuple [.Name x r,.Name y l] k f] e g) (jN i j de):=λF S C A H D L h=>by
 refine eQ (JH bz (Dw hc (wc (pX w hi T hf) (wc (pX w hj Q O) Dt))) Y W rfl) (he F S C A H _ L (h.bindE.imp λz B F1 S1 H1 r1 g1 s v J=>?_));split at s
 .rename_i a b;obtain⟨p,us,rfl,P,K⟩:=J;obtain⟨I,ra,rfl,N,G,rb,rfl,M,rfl⟩:=K;refine⟨p,_,rfl,cS.of P,rfl,I,_,rfl,G,_,rfl,rfl,?_⟩;exact s F1 _ _ H1 ((r1.set N).set M) ((a8.less i).trans (a8.less j)) ((ig.set Z).trans (ig.set gM))
 .exact s.elim
def IW(K:ar)(r:V->List V->Hp->VK->Prop)(i:TE)(t:TA):TE:=λf H Q=>i f H λx h=>(∃p a,x=.ref p/\h p=aa (.tup a))/\t f h λa j=>r x a j Q
theorem Gc{i:Str}{y:String}{r:V->List V->Hp->VK->Prop}{C:TE}{t:TA}{l f:Pos}{es:List ay}(w:PySem.Slot "tuple" i y)(Y:typeOf (.builtin y)=pure (.type "method_descriptor"))(hm:wn X y r)(ho:PE X o C)(ha:PA X (e::es) t)(l8:hV o i X.env (aL o X.env)=aL o X.env:=by rfl)(AC:((cm f (aP (e::es) X.env)).all (λx=>!x.1)&&(mZ f (m8 [] X.env)).all (λx=>x.1.isSome)&&decide ((e::es).length+([]:List je).length+(if([]:List je).isEmpty then 0 else 1)<30))=ah:=by rfl)(Z:(l.endLine == f.line)=ah:=by rfl) (hs:aP (e::es) X.env=(aj,aL e X.env)::aP es X.env:=by rfl) (j:(cm f (aP es X.env)).any (·.1)=aj:=by rfl):PE X (.Call (.Attribute o i l) (e::es) [] f) (IW X.K r C t):=by
 intro B s A H Q I h;refine wpAny_Call_method_late l8 AC Z rfl (aR (ho B s A H _ I h) λv D h'=>?_);obtain⟨x,J,G,r1,⟨p,K,rfl,hp⟩,S⟩:=h';cases r1;obtain⟨_,its,_,⟨T,e1,e2,_⟩,W,e3,e4⟩:=(show cV X.prog X.w J D.heap p (.tup K)from G.hok p _ hp)
 refine⟨"tuple",y,PySem.F.plainAttrs_tuple,w,Y,⟨T,e1,e2⟩,λa z=>?_,?_⟩
 .cases z;exact⟨W,e3,e4⟩
 have F:=ha f B D A J _ G S;rw[hs]at F ⊢;refine wB (by show(aj||(cm f (aP es X.env)).any (·.1))=aj;rw[j] <;> rfl) (wC ?_);exact aR F λM N h2=>by obtain⟨L,H2,I2,O,P⟩:=h2;exact hm B N A H2 (.ref p) L (.ref p) M Q I2 rfl O P
def oX(f:List PV->PV->Option PV)(d de:af->R PV):af->R PV:=λε=>(d ε).bind λx h=>match x with
 |.tup i=>(de h).bind λk a=>aB (f i k) a
 |_=>.no
theorem CV{f a:Pos}(T:DE X E o d)(Y:DE X E e de)(P:hV o "count" X.env (aL o X.env)=aL o X.env:=by rfl)(O:(f.endLine == a.line)=ah:=by rfl) (Z:ku e=aj:=by rfl):DE X E (.Call (.Attribute o "count" f) [e] [] a) (oX nL d de):=λF S I A H Q M h=>by
 have s:=iV (es:=[]) (env:=X.env) Z;refine bX (Gc PySem.F.slot_tuple_count PySem.F.type_tuple_count FD bz (ip bz i6 s) P (by rw[s];rfl) O s rfl) (T F S I A H _ M ((Ok.bind h).imp λx j F1 S1 H1 r1 g1 y v K=>?_));split at y
 .rename_i J;obtain⟨p,B,rfl,C,L⟩:=K;refine⟨⟨p,B,rfl,C⟩,Y F1 S1 j A H1 _ r1 ((Ok.bind y).imp λk G F2 S2 H2 N D q w l=>?_)⟩;unfold nL at q;cases i:dy k with
  |none=>rw[i]at q;exact q.elim
  |some z=>
   cases r:i8 J with
   |none=>rw[i,r]at q;exact q.elim
   |some ws=>rw[i,r]at q;obtain⟨rfl,W⟩:=xC (L.grow D r1.fit) r;rw[jq l i];exact⟨p,B,z,rfl,rfl,cS.of (D.imm r1.fit C id),ut i,W,q F2 S2 H2 N (a8.refl ..) _ rfl⟩
 .exact y.elim
end
theorem xk(a:Nat->Nat->Bool):∀k,j4 a k<=k
 |0=>ba _
 |k+1=>by
  unfold j4;split
  .exact ba _
  .exact Nat.le_succ_of_le (xk a k)
section
variable{X:Cx}
theorem Fv:dQ "min"=aa (.builtin "min"):=by decide +kernel
theorem B2:∀(a:List ai) (b:List Str),a.length=b.length->(∀(i:Nat) v x,a[i]?=aa v->b[i]?=aa x->∃t,v=.str x t)->fR a b
 |[],[],_,_=>.nil
 |v::a,x::b,c,h=>by obtain⟨t,rfl⟩:=h 0 v x rfl rfl;exact .cons x t (B2 a b (wQ c) λi v x f d=>h (i+1) v x (by simpa using f) (by simpa using d))
 |[],_::_,c,_=>by cases c
 |_::_,[],c,_=>by cases c
def mK:List (aD×PV)->Option (List Tx)
 |[]=>aa []
 | (.inr k,_)::r=>(mK r).map (k.cps.toList::·)
 |_=>ae
theorem Dp:∀{a:List (aD×PV)}{b:List Tx},mK a=aa b->a.map (·.1)=b.map (λx=>Sum.inr (tS x))
 |[],b,h=>by cases h;rfl
 | (.inr k,_)::r,b,h=>by simp only[mK,sT]at h;obtain⟨l,c,rfl⟩:=h;rw[dD,dD,Dp c,CG]
 | (.inl _,_)::_,_,h=>by cases h
def Jh(b:List (aD×PV)):Option PO:=(mK b).bind λa=>if a.length<64/\(∀x∈a,x.length<=bQ)then aa (.lst (ak (bw a)))else ae
def Oi(i:Nat):af->R PO:=λa=>(aB (dO a i) a).bind λb a=>aB (Jh b) a
theorem f_.keys{K:ar}{H:Hp}{F:ac->Prop}{a:List (aD×PV)}{b:List (aD×V)}(h:f_ K H F a b):b.map (·.1)=a.map (·.1):=by
 unfold f_ at h
 induction h with
 |nil=>rfl
 |cons r _ c=>rw[dD,dD,c,r.1]
end
end Pu
namespace L2
def Hb(b:KeyKind)(p:Keyed):Prop:=∃a,b.keyOf p.1=aa a
structure SB(kz:SortKind)(st:SortSt):Prop where
 kind:kindOf st=kz
 failed:failedOf st=ae
section
variable{d:KeyKind}{f:SortKind}
theorem Nz(a:Array Keyed)(i j:Nat):(a.extract i j).toList=(a.toList.drop i).take (j-i):=by simp[Array.toList_extract,List.extract_eq_take_drop]
variable{a b c:Array Keyed}{h g:Nat}
end
section
variable{d:KeyKind}{g:SortKind}
theorem JZ(a:Array Keyed)(n:Nat):(a.extract 0 n).toList=a.toList.take n:=by rw[Nz];simp
variable{a b c:Array Keyed}{f nb:Nat}
end
section
variable{b:KeyKind}{c:SortKind}
def AllK(b:KeyKind)(a:Array Keyed):Prop:=∀i (d:i<a.size),Hb b a[i]
end
end L2
namespace Pu
open L2
def jp:List Int->Int
 |[]=>0
 |x::r=>r.foldl (λb y=>if y > b then y else b) x
theorem NF(l:List Int)(y:Int)(h:l≠[]):jp (l++[y])=if y > jp l then y else jp l:=by
 cases l with
 |nil=>exact absurd rfl h
 |cons x r=>show(r++[y]).foldl _ x=_;rw[EV];rfl
theorem ED(a:List Int):∀k,k<a.length->a[j4 (λi j=>decide (a.getD i 0 > a.getD j 0)) k]?=aa (jp (a.take (k+1)))
 |0,h=>by
  cases a with
  |nil=>cases h
  |cons x r=>simp[j4,jp]
 |k+1,h=>by
  have b:=ED a k ∅;have e:a.take (k+1+1)=a.take (k+1)++[a[k+1]]:=by rw[OU h]
  have g:=xk (λi j=>decide (a.getD i 0 > a.getD j 0)) k;rw[e,NF _ _ (by intro z;have:=congrArg lT z;rw[p4,lX]at this;lia)];unfold j4;have f:a.getD (k+1) 0=a[k+1]:=by simp[wJ,h]
  have d:a.getD (j4 (λi j=>decide (a.getD i 0 > a.getD j 0)) k) 0=jp (a.take (k+1)):=by rw[ti,b];rfl
  rw[f,d];by_cases c:a[k+1] > jp (a.take (k+1))
  .rw[if_pos (by simpa using c),if_pos c];simp[h]
  .rw[if_neg (by simpa using c),if_neg c];exact b
section
variable{X:Cx}
theorem pY{b:List Int}{a:List ai}(r:bx (b.map V.int) a){i:Nat}{v:ai}(h:a.toArray[i]?=aa v):∃t,v=.int (b.getD i 0) t:=by
 have d:=r.length;rw[bO]at d;have g:i<a.length:=by have:=(wI.mp h).1;simpa using this
 have e:(b.map V.int)[i]?=aa (V.int (b.getD i 0)):=by rw[iP,eO ∅];simp[wJ,eO (show i<b.length by lia)]
 obtain⟨u,c,f⟩:=r.get e;have:a[i]?=aa v:=by simpa using h
 rw[this]at c;cases c;exact f
theorem BE(n:X.calm=ah):ff X (.builtin "max") (λw H Q=>∃(p:ac) (a:List Int),w=[.ref p]/\cb X.K H p (a.map V.int)/\a≠[]/\Q (.int (jp a)) H):=by
 intro S s A H w us Q I r h;obtain⟨p,a,rfl,J,P,q⟩:=h;obtain⟨u,rfl,D⟩:=vals1 r;cases D;obtain⟨d,l,m,hz⟩:=I.list J;have y:=l.length;rw[bO]at y;have hn:0<a.length:=by cases a with|nil=>exact absurd rfl P|cons=>simp
 refine call_max_walk (qb m.isList ?_);have W:p≠s.heap.objs.size:=by obtain⟨o,f,_⟩:=m.isList;exact cT (br f)
 refine⟨s.heap.objs.size,_,_,_,_,_,λi j=>decide (a.getD i 0 > a.getD j 0),rfl,qc (qT (I.ok.hd n)) s.heap.objs.size p W d.toArray,⟨⟨_,cj _ rfl,rfl,rfl⟩,?_⟩,?_,by rw[cD];lia,λi j Z Y s' Q' E' M L O=>?_,λv h' B G k=>?_⟩
 .obtain⟨o,f,n,N⟩:=m.isList;exact⟨o,bf _ f,n,N⟩
 .intro b g;obtain⟨o,f,_⟩:=m.isList;have C:p<s.heap.objs.size:=br f;have sz:∀o:Obj,(s.heap.push o).objs.size=s.heap.objs.size+1:=λo=>by simp[Heap.push]
  rcases bW.mp g with rfl|g
  .show _<(s.heap.push _).objs.size;rw[sz];exact ja _
  .rw[gs.mp g];show _<(s.heap.push _).objs.size;rw[sz];exact jD C
 .obtain⟨t,rfl⟩:=pY l M;obtain⟨t',rfl⟩:=pY l L;exact gt_int O
 .obtain⟨t,rfl⟩:=pY l G;have e:a.getD (j4 (λi j=>decide (a.getD i 0 > a.getD j 0)) (d.toArray.size-1)) 0=jp a:=by rw[cD,<-y,ti,ED a _ ∅,show a.length-1+1=a.length by lia,List.take_length];rfl
  rw[e];have T:Inv X S A H {s with heap:=s.heap.push {cls:=.type "list_iterator",data:=.fields #[.ref p,.int 0 0]},toks:=s.toks}:=I.kept (t':=s.toks) λb o e=>bf _ e;exact⟨.int (jp a),H,Inv.turned (t':=B) T (it:=s.heap.objs.size) (λb o g e=>k b o (by simpa using g) e) I.fresh (iL I.lt) (.inr I.sz) (λx c e z=>by obtain⟨v,E⟩:=I.cell x c e;exact absurd E.lt (by rw[z];exact d9 _)) (λF K z=>absurd (br (I.pin F K).1) (by rw[z];exact d9 _)),⟨t,rfl⟩,q⟩
def eF:List PV->Option (List Int)
 |[]=>aa []
 |.int i::r=>(eF r).map (i::·)
 |_=>ae
theorem xq{K:ar}{H:Hp}{F:ac->Prop}:∀{a:List PV}{c:List V}{b:List Int},aY K H F a c->eF a=aa b->c=b.map V.int
 |[],_,_,r,e=>by cases e;exact r
 |.int i::a,_,b,⟨v,r,rfl,f,d⟩,e=>by
  cases q:eF a with
  |none=>simp[eF,q]at e
  |some g=>simp[eF,q]at e;subst e;rw[xq d q,show v=V.int i from f];rfl
 |.non::_,_,_,_,e=>by simp[eF]at e
 |.bl _::_,_,_,_,e=>by simp[eF]at e
 |.str _::_,_,_,_,e=>by simp[eF]at e
 |.tup _::_,_,_,_,e=>by simp[eF]at e
 |.lst _::_,_,_,_,e=>by simp[eF]at e
 |.raw _::_,_,_,_,e=>by simp[eF]at e
 |.exc _::_,_,_,_,e=>by simp[eF]at e
def nX:List PV->Option PV
 |[.lst b]=>(eF b).bind λa=>if a≠[] then aa (.int (jp a))else ae
 |_=>ae
theorem Bj:PL X.K (λd H Q=>∃(p:ac) (b:List Int),d=[.ref p]/\cb X.K H p (b.map V.int)/\b≠[]/\Q (.int (jp b)) H) nX:=λF H d m Q pv g e q=>by
 unfold nX at e;split at e
 .obtain⟨v,rfl,a,n,rfl,j,_,f⟩:=gY g;obtain⟨h,l,c⟩:=Ar.mp e;have:=xq f l;subst this;split at c
  .rename_i i;cases c;exact⟨a,h,rfl,.inl j,i,q _ F H (Al.refl ..) rfl⟩
  .cases c
 .cases e
end
theorem yj:dQ "max"=aa (.builtin "max"):=by decide +kernel
def pJ(f:Str)(v:PV):List (Str×PV)->List (Str×PV)
 |[]=>[(f,v)]
 | (g,x)::r=>if g=f then(g,v)::r else(g,x)::pJ f v r
section
variable{K:ar}{H:Hp}{F:ac->Prop}
theorem io.look{f:Str}{pv:PV}{fs:List (Str×PV)}{a:List (Str×V)}(h:io K H F fs a)(e:fs.lookup f=aa pv):∃v,a.lookup f=aa v/\aO K H F pv v:=by
 unfold io at h
 induction h with
 |nil=>cases e
 |@cons p q ps qs r _ ih=>
  obtain⟨i,g⟩:=p;obtain⟨j,d⟩:=q;obtain⟨r1,b⟩:=r;simp only at r1 b;subst r1;rw[iQ]at e ⊢;cases c:f == i with
  |true=>rw[c]at e;cases e;exact⟨d,rfl,b⟩
  |false=>rw[c]at e;exact ih e
theorem io.miss{f:Str}{fs:List (Str×PV)}{a:List (Str×V)}(h:io K H F fs a)(e:fs.lookup f=ae):a.lookup f=ae:=by
 unfold io at h
 induction h with
 |nil=>rfl
 |@cons p q ps qs r _ ih=>
  obtain⟨g,d⟩:=p;obtain⟨j,i⟩:=q;obtain⟨r1,c⟩:=r;simp only at r1 c;subst r1;rw[iQ]at e ⊢;cases b:f == g with
  |true=>rw[b]at e;cases e
  |false=>rw[b]at e;exact ih e
theorem io.len{fs:List (Str×PV)}{a:List (Str×V)}(h:io K H F fs a):a.length=fs.length:=by
 unfold io at h
 induction h with
 |nil=>rfl
 |cons _ _ b=>simp[b]
theorem io.put{f:Str}{y:PV}{v:V}{fs:List (Str×PV)}{a:List (Str×V)}(h:io K H F fs a)(r:aO K H F y v):io K H F (pJ f y fs) (eB f v a):=by
 unfold io at h ⊢
 induction h with
 |nil=>exact .cons ⟨rfl,r⟩ .nil
 |@cons p q ps qs r' t ih=>
  obtain⟨i,c⟩:=p;obtain⟨g,d⟩:=q;obtain⟨r1,b⟩:=r';simp only at r1 b;subst r1;unfold pJ eB;split
  .exact .cons ⟨rfl,r⟩ t
  .exact .cons ⟨rfl,b⟩ ih
end
def nN(a:af)(C:ac)(i:Nat):Option (List (Str×PV)):=match a[i]? with
 |some (.own (.ins D fs))=>if D=C then aa fs else ae
 |_=>ae
theorem uG{a:af}{C:ac}{i:Nat}{fs:List (Str×PV)}(h:nN a C i=aa fs):a[i]?=aa (.own (.ins C fs)):=by
 unfold nN at h;split at h
 .rename_i D c e;split at h
  .rename_i b;subst b;cases h;exact e
  .cases h
 .cases h
section
variable{X:Cx}{E:XK}{pin:List Nat}{e b:ay}{f x:Str}{C:ac}{p g d:Pos}{j:af->R PV}
def x6(C:ac)(i:Nat)(f:Str)(j:af->R PV):af->R aG:=λc=>(j c).bind λy a=>(aB (nN a C i) a).bind λfs a=>if fs.length<1000 then .ok .next (a.set i (.own (.ins C (pJ f y fs))))else .no
theorem KF(i:Nat)(c:Cls X.K C)(n:iH X.K C f)(AF:DE X E b j)(T:X.N[i]?=aa x:=by rfl)(M:dw X.env.scope x:=by eq_refl)(P:(x==("__debug__":Str))=aj:=by decide)(Y:(x==("__classdict__":Str))=aj:=by decide) (N:g_ b (aa (.Attribute (.Name x p) f d)) g.line X.env=pure aj:=by rfl):DS X E pin (.Assign [.Attribute (.Name x p) f d] b g) (x6 C i f j):=λF S z o H D G h=>by
 refine eQ (Bc (eu T M P Y) bz N) (AF F S z o H _ G (h.bindE.imp λy m F1 Z H1 r1 g1 q v B=>?_));cases l:nN m C i with
 |none=>rw[l]at q;exact q.elim
 |some fs=>
  rw[l]at q;simp only[cf,R.bind_ok]at q;obtain⟨a,u,⟨w,r,Q,s⟩,_⟩:=r1.own i _ (uG l);split at q
  .rename_i O;have K:=s.put (f:=f) B;obtain⟨I,W⟩:=r1.updO (po':=.ins C (pJ f y fs)) (o':=.ins C w (eB f v r)) (uG l) rfl u trivial λH' L m2 A Sa J=>⟨⟨_,_,A,K.mono L⟩,J⟩
   exact⟨.ref a,u,a,C,w,r,rfl,Q,c,n,by rw[s.len];exact O,q F1 Z o _ I W (ig.refl _ _)⟩
  .exact q.elim
end
def pd(a:af)(b:List bY)(g:af->R Slot):R Slot:=(aB (if(bq b).Nodup then b9 a b else ae) a).bind λc a=>cp a b (g c)
section
variable{K:ar}{E:XK}{F:ac->Prop}{S:Nat->ac->Prop}{f:af}{d:St}{H:Hp}{a:List bY}{vs:List V}{g:af->R Slot}
theorem Cv{D:Slot->af->(ac->Prop)->(Nat->ac->Prop)->Hp->Prop}(r:aJ K F S f d H)(L:fg K d F H a vs)(h:Ok K E d F S H (pd f a g) D):bn K g vs H (λv j=>∃s n c m A,aJ K c m n d j/\a8 (U S) (U m) F c H j/\pD K j c s v A/\(∀b,A b->H b=ae/\¬c b/\¬U m b/\∃o,j b=aa o/\dr o)/\D s n c m j) E:=by
 unfold pd at h;have q:=Ok.bind h;by_cases nd:(bq a).Nodup
 .rw[if_pos nd]at q;cases p:b9 f a with
  |none=>rw[p]at q;exact q.elim
  |some O=>
   rw[p]at q;have q:=q F S H r (a8.refl ..);dsimp only at q;refine⟨F,kt a S,O,r.cal L p nd,?_⟩;cases J:g O with
   |no=>rw[J]at q;exact q.elim
   |er W M=>
    rw[J]at q;intro y c m j C I;unfold cp at q;dsimp only at q;by_cases l:cr a M=ah
    .rw[if_pos l]at q;obtain⟨B,u,x,_⟩:=r.called L p nd C I (λ_ z=>z) (lp l);exact q y c B j u x
    .rw[if_neg l]at q;exact q.elim
   |ok s M=>
    rw[J]at q;intro v c m j A C I T G P;unfold cp at q;dsimp only at q;by_cases l:cr a M=ah
    .rw[if_pos l]at q;obtain⟨B,u,x,Q⟩:=r.called L p nd C I (λ_ z=>.inl z) (lp l);refine⟨s,_,c,B,A,u,x,T,λb z=>⟨P b z,(G b z).1,λw=>?_,(G b z).2.2⟩,q c B j u x⟩;rcases Q b w with w|⟨i,w⟩
     .exact(G b z).2.1 w
     .obtain⟨_,_,o,N,_⟩:=r.foot i b w;rw[P b z]at N;cases N
    .rw[if_neg l]at q;exact q.elim
 .rw[if_neg nd]at q;exact q.elim
theorem Dk{Q l:VK}(h:bn K g vs H Q E)(q:∀v b,Q v b->l v b):bn K g vs H l E:=by
 obtain⟨F,S,j,n,ok⟩:=h;refine⟨F,S,j,n,?_⟩;cases i:g j with
 |no=>rw[i]at ok;exact ok
 |er c u=>rw[i]at ok;exact ok
 |ok z u=>rw[i]at ok;exact λv y x b w o r m p s=>q v b (ok v y x b w o r m p s)
theorem fg.al{j:ac->Prop}{i:Hp}(al:Al F j H i):∀{a:List bY}{vs:List V},fg K d F H a vs->fg K d j i a vs
 |[],_,h=>h
 |.inl _::_,_,⟨v,r,e,c,b⟩=>⟨v,r,e,al.rep c,fg.al al b⟩
 |.inr _::_,_,⟨v,r,e,c,b⟩=>⟨v,r,e,c,fg.al al b⟩
end
structure zT(CX:dZ)(P:a4)(w:aT)(K:ar)(mg:Str->Option ai)(base:aF)(C:ac)(k:Nat)(ps:List Str)(sp:Sp):Prop where
 ex:∃f fd,Mk K C f/\gz P w K mg base CX k f fd ps sp/\Binds K fd ps []
structure lm(CX:dZ)(P:a4)(w:aT)(K:ar)(mg:Str->Option ai)(base:aF)(C:ac)(m:Str)(k:Nat)(ps:List Str)(sp:Sp):Prop where
 ex:∃f fd,uA K C m f/\gz P w K mg base CX k f fd ps sp/\Binds K fd ps []
def u0(K:ar)(C:ac)(a:Str)(b:aV):Prop:=∃f c,Mk K C f/\ko K "__init__" a b f c
def i3(K:ar)(C:ac)(m a:Str)(b:aV):Prop:=∃f c,uA K C m f/\ko K m a b f c
theorem Pf{K:ar}{C:ac}{a:Str}{b:aV}{f:ac}{oc kV o h d q:ai}{j r:Option ac}{g:Array (Option ai)}(m:PySem.W.makesIn K C=ah)(i:g9 K (.ref C) "__init__"=aa (aa (.ref f)))(n:wx K (.ref f)=ah)(p:kH K (.ref C)=ah)(l:K.lookup f=aa ⟨oc,j,.func (fP "__init__" a (fX b) (dj b) (aI b) .none kV o h r d q),g⟩) (c:p5 K d a=ah) (k:kH K (.ref f)=ah):u0 K C a b:=⟨f,_,⟨m,i,n,p⟩,vQ l c k⟩
theorem Ps{K:ar}{C:ac}{m a:Str}{b:aV}{f:ac}{oc kV o h d p:ai}{j q:Option ac}{g:Array (Option ai)}(i:g9 K (.ref C) m=aa (aa (.ref f)))(n:wx K (.ref f)=ah)(l:K.lookup f=aa ⟨oc,j,.func (fP m a (fX b) (dj b) (aI b) .none kV o h q d p),g⟩) (c:p5 K d a=ah) (k:kH K (.ref f)=ah):i3 K C m a b:=⟨f,_,⟨i,n,k⟩,vQ l c k⟩
section
variable{i:dZ}{P:a4}{w:aT}{K:ar}{h:Str->Option ai}{c:aF}{C:ac}{m a:Str}{b:aV}{N g:List Str}{k n:Nat}{d:af->R aG}{pin:List Nat}
theorem IQ(D:u0 K C a b)(F:bS N g (aI b))(v:N.length=g.length+n)(q:∀(kV p u:ai) (B:Option ac) (l z:ai) (o:List ai),o.length=g.length->dU (fP "__init__" a (fX b) (dj b) (aI b) .none kV p u B l z) ⟨o,[]⟩=pure (g.zip o))(x:∀(f:ac) (l:ai) (A:aX) (j:List Env) (s:am) (H:Hp) (E:XK),Room k (A.deeper (fO a (aI b) s.heap.objs.size f l))->fH (eZ i P w K h c N a (aI b) f l A j s H E) E pin (dj b) d):zT i P w K h c C (k+1) g (bn K (bh g.length pin (a5 n d))):=by obtain⟨f,y,M,r⟩:=D;exact⟨f,y,M,Cd r F v q x,r.binds q⟩
end
end Pu
namespace Mx
def F5:Nat->Nat->Nat
 |0,x=>x
 |n+1,x=>F5 n (5*x+1)
end Mx
namespace Pu
open L2
def rZ:List PV->Option PV
 |[.int i,.int j]=>aa (.int (if j > i then j else i))
 |_=>ae
theorem Ib{K:ar}:PL K (λa H Q=>∃i j,a=[.int i,.int j]/\Q (.int (if j > i then j else i)) H) rZ:=λF H a g Q pv b e q=>by
 unfold rZ at e;split at e
 .cases e;obtain⟨v,h,rfl,f,d⟩:=b;obtain⟨u,rfl,c⟩:=gY d;exact⟨_,_,by rw[show v=V.int _ from f,show u=V.int _ from c],q _ F H (Al.refl ..) rfl⟩
 .cases e
section
variable{X:Cx}{E:XK}{f:List Nat}{e b c:ay}{de a g:af->R PV}{d:Pos}
def Im(j:Bool)(i:Nat)(a:af->R PV):af->R PV:=λm=>(a m).bind λk h=>(aB (dO h i) h).bind λl h=>aB ((ge k).map λk=>.bl (j^^(iZ l k).isSome)) h
end
end Pu
namespace L2
theorem IH{d:Pos}{a b:Int}{c g:ai}(l:List ai)(h:TriplesOk l)(e:sK d (l++[dR a,dR b,c])=aa g):sK d l=aa g\/g=c:=by
 fun_induction TriplesOk l with
 |case1=>simp[sK,dR]at e;exact .inr e.2.symm
 |case2 o t n u x rest i=>
  simp only[E1,sK]at e ⊢;split at e
  .rename_i f;rw[if_pos f];exact .inl e
  .rename_i f;rw[if_neg f];exact i h e
 |case3 l m j=>exact h.elim
section
variable{X:Cx}{i:List (ac×Obj)}{d:St}{H:Hp}{s:am}
structure u6(X:Cx)(x:Str)(c P:ac):Prop where
 mem:x∈sw
 tab:jt X.K x=aa (c,P)
 hd:wE X.K c P=ah
 code:X.env.code=.ref c
theorem NA(I:Inv X i d H s){x:Str}{c P:ac}(L:u6 X x c P){j:sR}{y:ay}{l:c8}{F:Pos}{w:List (Str×ac)}(hq:X.env.qual++"<lambda>"=x++".<locals>.<lambda>") (l_:closureFor l X.env=pure w) (tw:defaultsOf j X.env=([],[])) {Q:ai->am->Prop}(h:∀f c' p H' s',Inv X i d H' s'->(∀b o,H b=aa o->H' b=aa o)->s'.heap.get? f=aa (As "<lambda>" (X.env.qual++"<lambda>") j y l w ((X.mg "__name__").getD .none) c' p)->f≠X.env.locals -> s'.heap.CodeRec (.ref c') (X.env.qual++"<lambda>")->c'≠X.env.locals->H' c'=aa (.own P)->s.heap.objs.size<=f->H' f=ae->Q (.ref f) s'):aw (aA X.prog X.w) X.A (aL (.Lambda j y l F) X.env) Q X.xe s:=by
 have E:=I.tab x L.mem c P L.tab;obtain⟨ps,hP,C,g⟩:=I.hok P _ E;have K:s.heap.Ns b_ X.mg:=I.mod.glob.keeps I.bk;have hgP:b_≠P:=λz=>by
  obtain⟨o,es,ep,e,hd,_⟩:=K;rw[z,hP]at e;cases e;cases hd
 have W:s.heap.BuiltinsAt X.mg P:=by
  obtain⟨bm,ob,b1,b2,b3,b4,b5,b6⟩:=I.mod.bm;refine⟨bm,ob,b1,b2,λz=>?_,λz=>?_,I.bk _ _ b3,b4,b5,b6⟩
  .obtain⟨o,es,ep,e,hd,_⟩:=I.mod.glob;rw[<-z,b3]at e;cases e;rw[b6]at hd;cases hd
  .have e:=I.bk _ _ b3;rw[z,hP]at e;cases e;simp at b4
 have hC:=PySem.W.codeHd_of_K I.kIn L.hd;have Lne:X.env.locals≠P:=λz=>by have:=I.free;rw[z,E]at this;cases this
 refine PySem.W.kla_eval tw ?_;cases hf:sK F ps.toList with
 |some cv=>
  obtain⟨c1,rfl,gL,wY⟩:=g F _ hf;refine PySem.W.kla_makeFunctionHit (mg:=X.mg) l_ I.ok.glob K L.code hC hP C hf W λp Z tk hk G=>?_;have B:∀b o,s.heap.get? b=aa o->(Z.push (As "<lambda>" (X.env.qual++"<lambda>") j y l w ((X.mg "__name__").getD .none) c1 p)).get? b=aa o:=λb o e=>bf _ (hk b o e);refine h _ c1 p H _ (I.un (Un.kept B) (I.hok.kept B)) (λ_ _ e=>e) (cj _ rfl) (iL (eV I.lt G)) ?_ (λz=>?_) gL G (I.hok.fresh G)
  .have J:s.heap.CodeRec (.ref c1) (X.env.qual++"<lambda>"):=by rw[hq];exact wY
   exact J.keeps B
  .have:=I.free;rw[<-z,gL]at this;cases this
 |none=>
  refine PySem.W.kla_makeFunction (mg:=X.mg) l_ I.ok.glob K L.code hC hP C hf hgP W λc1 p Z tk hx O bR wY T=>?_;generalize ho:As "<lambda>" (X.env.qual++"<lambda>") j y l w ((X.mg "__name__").getD .none) c1 p=fo;have B:∀b o,b≠P->s.heap.get? b=aa o->(Z.push fo).get? b=aa o:=λb o n e=>bf _ (hx b o n e);have fr:H c1=ae:=I.hok.fresh O;have A:(Z.push fo).CodeRec (.ref c1) (X.env.qual++"<lambda>"):=wY.keeps λb o e=>bf _ e;have nP:∀b,H b=ae->b≠P:=λb n z=>by rw[z,E]at n;cases n
  have nc:∀b o,s.heap.get? b=aa o->b≠c1:=λb o e=>cT (eV (br e) O);have D:∀b o,H b=aa o->(upd H c1 (.own P)) b=aa o:=λb o e=>by rw[bj (mr e fr)];exact e
  have I':Inv X i d (upd H c1 (.own P)) {s with heap:=Z.push fo,gens:=s.gens,drawn:=s.drawn,toks:=tk}:=by
   refine I.step (ch:=[]) (λ_ z=>nomatch z) (λb o _ _ _ e n=>B b o (nP b n) e) (λb o _ _ _ e n=>⟨o.slots,B b o (nP b n) e⟩) (λb o _ e n=>by rw[bj (nc b o e)];exact n)
    (λb o _ e=>?_) (λb xs e=>D b _ e) (λb o u e=>D b _ e) (λb q e=>⟨D b _ e,λc o N g=>⟨B c o (λz=>by rw[z,E]at N;cases N) g,D c _ N⟩⟩) (λm hm=>?_) (λa u e=>?_) I.bare
   .by_cases Y:b=P
    .subst Y;exact⟨_,bf _ T⟩
    .exact⟨o,B b o Y e⟩
   .exact(hm.extBut hx Lne).push _
   .by_cases ha:a=c1
    .subst ha;rw[bT]at e;cases e;obtain⟨_,o,_,_,z,N,_⟩:=A;cases z;exact⟨o,N⟩
    .rw[bj ha]at e;by_cases Y:a=P
     .subst Y;rw[E]at e;cases e;refine⟨_,bf _ T,by rw[Array.toList_append];exact TriplesOk_snoc _ _ _ _ C,λS cv M=>?_⟩;rw[Array.toList_append]at M;rcases IH _ C M with z|rfl
      .obtain⟨c2,rfl,h1,h2⟩:=g S cv z;refine⟨c2,rfl,D c2 _ h1,?_⟩;obtain⟨c3,o,vs,t,z,N,r⟩:=h2;cases z;exact⟨c2,o,vs,t,rfl,B c2 o (λz=>by rw[z,E]at h1;cases h1) N,r⟩
      .exact⟨c1,rfl,bT,hq ▸ A⟩
     .refine(I.hok a u e).stay (λb v M r=>B b v ?_ r) (λb r=>D b _ r) λb xs r=>D b _ r;rcases M with rfl|M
      .exact Y
      .rintro rfl;rw[E]at M;cases M
  exact h _ c1 p _ _ I' D (by rw[<-ho];exact cj _ rfl) (iL (eV I.lt (c4 O (kF bR)))) A (iL (eV I.lt O)) bT (c4 O (kF bR)) (by rw[bj (iL bR)];exact I.hok.fresh (c4 O (kF bR)))
end
open Att
theorem DP:∀{c:List V}{d:List ai}{i:Nat}{v:ai},bx c d->d[i]?=aa v->∃x,c[i]?=aa x/\RelV x v
 |_,_,_,_,.nil,e=>by simp at e
 |_,_,0,_,.cons h _,e=>by simp at e;subst e;exact⟨_,rfl,h⟩
 |_,_,i+1,_,.cons _ t,e=>by obtain⟨x,a,b⟩:=DP (i:=i) t (by simpa using e);exact⟨x,by simpa using a,b⟩
end L2
namespace Pu
open L2
structure ye(K:ar)(x:Str)(C:ac)(m:Str)(c T:ac):Prop where
 tab:jt K x=aa (c,T)
 hd:wE K c T=ah
 code:∀f fd oc od osl,g9 K (.ref C) m=aa (aa (.ref f))->K.lookup f=aa ⟨oc,od,.func fd,osl⟩->fd.code=.ref c
theorem Ho{K:ar}{x:Str}{C c T:ac}(i:dm K b_ "Seeker"=aa (aa (.ref C)))(a:jt K x=aa (c,T))(h:wE K c T=ah):ye K x C "best" c T:=by
 refine⟨a,h,λf m oc l b g d=>?_⟩;unfold jt at a;rw[i]at a;dsimp only at a;rw[g]at a;dsimp only at a;rw[d]at a;dsimp only at a;split at a
 .rename_i n j;split at a
  .split at a
   .cases a;exact j
   .cases a
  .cases a
 .cases a
end Pu
theorem L2.Room.d1{k:Nat}{A:PySem.Around}(r:L2.Room k A):A.depth+1<PySem.recursionLimit:=by have:=r.dp;lia
namespace L2
open Mx
section
variable{P:a4}{w:aT}{A:aX}{E:ai->am->Prop}{s:am}
structure Keyd(P:a4)(w:aT)(K:Type)[DecidableEq K] where
 is:aF->K->ai->Prop
 hash:K->Int
 room:aX->Prop
 keep:∀{h h':aF}{k:K}{v:ai},is h k v->(∀b o,h.get? b=aa o->o.cls=.type "tuple"->h'.get? b=aa o)->is h' k v
 ref:∀{h:aF}{k:K}{v:ai},is h k v->∃a o,v=.ref a/\h.get? a=aa o
 eqBool:∀{A:aX}{E:ai->am->Prop}{s:am}{x y:K}{u v:ai}{Q:Bool->am->Prop},room A->is s.heap x u->is s.heap y v->Q (decide (x=y)) s->aw (aA P w) A (PySem.eqBool u v) Q E s
 quiet:∀{A:aX}{E:ai->am->Prop}{s:am}{k:K}{v:ai}{Q:Bool->am->Prop},is s.heap k v->Q ah s->aw (aA P w) A (eqIsQuiet 8 v) Q E s
 cls:∀{A:aX}{E:ai->am->Prop}{s:am}{k:K}{v:ai}{Q:Bool->am->Prop},is s.heap k v->Q aj s->aw (aA P w) A (ofAClassStatement 8 v) Q E s
 hbv:∀{A:aX}{E:ai->am->Prop}{s:am}{k:K}{v:ai}{Q:Bool->am->Prop},is s.heap k v->Q aj s->aw (aA P w) A (hashByValue 8 v) Q E s
variable{K:Type}[DecidableEq K]{c:Keyd P w K}
end
section
open PySem.SeqAt
open PySem.AutoSeq1 (wpAny_loadPart')
open PySem.MeetsSeq PySem.MeetsSeq2 PySem.MeetsSeq3
end
end L2
namespace Pu
open L2
def Dq{f:Type}(b:List Nat)(d:af->R f)(x y:PV):af->R f:=λa=>(aB (cE a b) a).bind λc _=>(aB (if(bq c).Nodup then b9 a (.inl x::.inl y::c)else ae) a).bind λg _=>cp a (.inl x::.inl y::c) (d g)
def yo(a:List Nat)(dt:af->R Bool)(de:af->R PV):List (PV×PV)->List PV->af->R (List PV)
 |[],c,f=>.ok c f
 |x::g,c,f=>(bg (Dq a dt x.1 x.2 f)).bind λk b=>match k with
  |true=>(bg (Dq a de x.1 x.2 b)).bind λy d=>yo a dt de g (c++[y]) d
  |false=>yo a dt de g c b
def Ln(c:List Nat)(h:af->R (List (PV×PV)))(dt:af->R Bool)(de:af->R PV):af->R PO:=λd=>(h d).bind λg b=>(yo c dt de g [] b).bind λf a=>.ok (.lst f) a
section
variable{X:Cx}{E:XK}{a:c8}{x y:Str}{c:List Str}{b:List Nat}
def Bs{g d:Type}(f:Nat->d):Nat->List g->List (d×g)
 |_,[]=>[]
 |n,x::h=>(f n,x)::Bs f (n+1) h
def L9(d:List PV):List (PV×PV):=Bs (λi=>PV.int (i:Nat)) 0 d
end
section
variable{X:Cx}{E:XK}
def J4(d:af->R (List PV)):af->R (List (PV×PV)):=λb=>(d b).bind λx a=>match x with
 |[.tup c]=>.ok (L9 c) a
 |_=>.no
end
abbrev ci:=List aD
def fi(a:List (ci×PV))(k:ci):Option PV:=(a.find? λb=>decide (b.1=k)).map (·.2)
def jn(kvs:List (ci×PV))(k:ci)(v:PV):List (ci×PV):=if(kvs.any λa=>decide (a.1=k))=ah then kvs.map (λa=>if a.1=k then(a.1,v)else a)else kvs++[(k,v)]
def oW:List PV->Option ci
 |[]=>aa []
 |x::a=>(ge x).bind λk=>(oW a).map (k::·)
def lJ:PV->Option ci
 |.tup a=>oW a
 |_=>ae
section
variable{K:ar}{F:ac->Prop}{S:Nat->ac->Prop}{ε:af}{σ:St}{H:Hp}{i:Nat}{kvs:List (ci×PV)}{c:List (ci×V)}{a:ac}
theorem Ct:∀{d:List PV}{b:List V}{k:ci},aY K H F d b->oW d=aa k->b=k.map kV
 |[],b,k,r,e=>by cases r;cases e;rfl
 |x::d,b,k,⟨v,r,h,g,f⟩,e=>by simp only[oW,Ar,sT]at e;obtain⟨m,l,ks,j,rfl⟩:=e;rw[h,so g l,Ct f j];rfl
theorem xj{x:PV}{v:V}{k:ci}(r:aO K H F x v)(e:lJ x=aa k):∃b,v=.ref b/\H b=aa (.tup (k.map kV)):=by
 cases x <;> simp[lJ]at e;obtain⟨b,g,rfl,f,d⟩:=r;exact⟨b,rfl,by rw[f,Ct d e]⟩
theorem iE.len(h:iE K H F kvs c):c.length=kvs.length:=by
 unfold iE at h
 induction h with
 |nil=>rfl
 |cons _ _ b=>simp[b]
theorem iE.val(h:iE K H F kvs c)(k:ci):(∃x v,fi kvs k=aa x/\d7 c k=aa v/\aO K H F x v)\/(fi kvs k=ae/\d7 c k=ae):=by
 unfold iE at h
 induction h with
 |nil=>exact .inr ⟨rfl,rfl⟩
 |@cons p q ps qs r _ ih=>
  by_cases e:p.1=k
  .refine .inl ⟨p.2,q.2,by simp[fi,fQ,e],?_,r.2⟩;rw[pE (by rw[<-r.1];exact e)]
  .have b:¬q.1=k:=by rw[<-r.1];exact e
   rw[nQ b];have:fi (p::ps) k=fi ps k:=by simp[fi,fQ,e]
   rw[this];exact ih
theorem iE.any(h:iE K H F kvs c)(k:ci):(kvs.any λb=>decide (b.1=k))=c.any λb=>decide (b.1=k):=by
 unfold iE at h
 induction h with
 |nil=>rfl
 |cons r _ d=>rw[kJ,kJ,d,r.1]
theorem iE.put(h:iE K H F kvs c)(k:ci){x:PV}{v:V}(r:aO K H F x v):iE K H F (jn kvs k x) (eC c k v):=by
 unfold jn eC;rw[h.any k];split
 .rename_i b;clear b;unfold iE at h ⊢
  induction h with
  |nil=>exact .nil
  |@cons p q ps qs r1 _ ih=>
   refine .cons ?_ ih;dsimp only;by_cases e:p.1=k
   .rw[if_pos e,if_pos (by rw[<-r1.1];exact e)];exact⟨r1.1,r⟩
   .rw[if_neg e,if_neg (by rw[<-r1.1];exact e)];exact r1
 .exact wD h ⟨rfl,r⟩
theorem aJ.dtAt(r:aJ K F S ε σ H)(e:ε[i]?=aa (.own (.dT kvs))):∃a c,σ[i]?=aa (aa (.ref a))/\H a=aa (.dT c)/\iE K H F kvs c/\S i a/\∀b,S i b->b=a:=by obtain⟨a,l,⟨f,j,g⟩,d⟩:=r.own i _ e;exact⟨a,f,l,j,g,(d a).mpr rfl,λb h=>(d b).mp h⟩
end
def ie(b:af)(i:Nat):Option (List (ci×PV)):=match b[i]? with
 |some (.own (.dT a))=>aa a
 |_=>ae
theorem pc{b:af}{i:Nat}{a:List (ci×PV)}(h:ie b i=aa a):b[i]?=aa (.own (.dT a)):=by
 unfold ie at h;split at h
 .cases h;assumption
 .cases h
section
variable{X:Cx}{E:XK}{pin:List Nat}{e b c:ay}{de d g:af->R PV}{f:Pos}
def pZ(i:Nat)(d:af->R PV):af->R PV:=λh=>(aB (ie h i) h).bind λ_ h=>(d h).bind λk a=>(aB (ie a i) a).bind λj a=>aB ((lJ k).bind λk=>fi j k) a
theorem Kc(i:Nat){y:Str}{A:Pos}(hu:X.A.units+64<cLine)(M:DE X E b d)(O:X.N[i]?=aa y:=by rfl)(P:dw X.env.scope y:=by eq_refl)(L:(y==("__debug__":Str))=aj:=by decide) (T:(y==("__classdict__":Str))=aj:=by decide) (J:vo b:=by exact λ_ _=>rfl):DE X E (.Subscript (.Name y A) b f) (pZ i d):=λF S p z H Q r h=>by
 unfold pZ at h;cases o:ie p i with
 |none=>rw[o]at h;exact h.elim
 |some s=>
  rw[o]at h;simp only[cf,R.bind_ok]at h;obtain⟨a,B,w,_⟩:=r.dtAt (pc o);refine bX (AI ∅ (eu O P L T) bz J) ⟨.ref a,w,M F S p z H _ r ((Ok.bind h).imp λk l Z W Y r1 g1 q u C=>?_)⟩;cases n:ie l i with
  |none=>rw[n]at q;exact q.elim
  |some I=>
   rw[n]at q;simp only[cf,R.bind_ok]at q;obtain⟨a',ws,j,N,K,_⟩:=r1.dtAt (pc n);rw[w]at j;cases j;cases m:lJ k with
   |none=>rw[m]at q;exact q.elim
   |some G=>
    rw[m,gu]at q;obtain⟨bb,rfl,D⟩:=xj C m;rcases K.val G with⟨x,v,h1,h2,h3⟩|⟨h1,h2⟩
    .rw[h1]at q;exact⟨a,v,rfl,by rw[<-h2];exact kl.t N D,q Z W Y r1 (a8.refl ..) v h3⟩
    .rw[h1]at q;exact q.elim
def rq(i:Nat)(d de:af->R PV):af->R aG:=λl=>(de l).bind λy h=>(aB (ie h i) h).bind λ_ h=>(d h).bind λk a=>(aB (ie a i) a).bind λj a=>(aB (lJ k) a).bind λk a=>if j.length<bQ then .ok .next (a.set i (.own (.dT (jn j k y))))else .no
theorem OH(i:Nat){y:Str}{B l:Pos}(hu:X.A.units+64<cLine)(hb:DE X E b d)(he:DE X E e de)(hN:X.N[i]?=aa y:=by rfl)(dY:dw X.env.scope y:=by eq_refl)(hd:(y==("__debug__":Str))=aj:=by decide) (bc:(y==("__classdict__":Str))=aj:=by decide) (hs:g_ e (aa (.Subscript (.Name y B) b l)) f.line X.env=pure aj:=by rfl):DS X E pin (.Assign [.Subscript (.Name y B) b l] e f) (rq i d de):=λF S J p H D P h=>by
 refine eQ (Bm ∅ (eu hN dY hd bc) bz bz hs) (he F S J p H _ P (h.bindE.imp λy m F1 S1 H1 r1 g1 q v N=>?_));cases A:ie m i with
 |none=>rw[A]at q;exact q.elim
 |some G=>
  rw[A]at q;simp only[cf,R.bind_ok]at q;obtain⟨a,K,x,t5,_⟩:=r1.dtAt (pc A);refine⟨.ref a,x,hb F1 S1 m p H1 _ r1 (q.bindE.imp λk r F2 S2 H2 C g2 j u O=>?_)⟩;cases o:ie r i with
  |none=>rw[o]at j;exact j.elim
  |some w=>
   rw[o]at j;simp only[cf,R.bind_ok]at j;obtain⟨a',L,n,ha,I,_⟩:=C.dtAt (pc o);rw[x]at n;cases n;cases z:lJ k with
   |none=>rw[z]at j;exact j.elim
   |some s=>
    rw[z]at j;simp only[cf,R.bind_ok]at j;split at j
    .rename_i hl;obtain⟨bb,rfl,W⟩:=xj O z;have Z:=I.put s (N.grow g2 r1.fit);obtain⟨Q,g3⟩:=C.updO (po':=.dT (jn w s y)) (o':=.dT (eC L s v)) (pc o) rfl x trivial λH' Y m2 M Sa T=>⟨⟨_,M,Z.mono Y⟩,T⟩
     exact⟨a,_,rfl,wp.t ha W (by rw[I.len];exact eV hl jy),j F2 S2 p _ Q g3 (ig.refl _ _)⟩
    .exact j.elim
def pH:af->R PO:=λε=>.ok (.dT []) ε
theorem BN:DN X E (.Dict [] [] f) pH:=λF S m l H Q i h=>bX NR λp a=>by
 have al:Al F F H (upd H p (.dT [])):=Al.new0 a;refine h F S _ (i.al al) al.grow p (λb=>b=p) ⟨⟨[],bT,.nil⟩,λb=>oz⟩ λb z=>?_;subst z;refine⟨a,λz=>?_,λ⟨j,z⟩=>?_,_,bT,trivial⟩
 .obtain⟨o,q⟩:=i.ex b z;rw[a]at q;cases q
 .obtain⟨_,_,o,q,_⟩:=i.foot j b z;rw[a]at q;cases q
def lv(h:Bool)(i:Nat)(d:af->R PV):af->R PV:=λε=>(d ε).bind λk a=>(aB (ie a i) a).bind λkvs a=>aB ((lJ k).map λk=>.bl (h^^(fi kvs k).isSome)) a
theorem Mb{i:Nat}(l:Bool){F:ac->Prop}{S:Nat->ac->Prop}{p:af}{j:St}{H:Hp}{Q:VK}(L:DE X E b d)(G:aJ X.K F S p j H)(h:Ok X.K E j F S H (lv l i d p) (λpv _ O _ A=>∀v,aO X.K A O pv v->Q v A)):gd X b j H λy m=>∃x,j[i]?=aa (aa x)/\∃a o,x=.ref a/\kl m a y o/\Q (.bl (l^^o.isSome)) m:=by
 unfold lv at h;refine L F S p j H _ G ((Ok.bind h).imp λk n B z m r1 P q u D=>?_);cases s:ie n i with
 |none=>rw[s]at q;exact q.elim
 |some J=>
  rw[s]at q;simp only[cf,R.bind_ok]at q;obtain⟨a,C,N,M,K,_⟩:=r1.dtAt (pc s);cases r:lJ k with
  |none=>rw[r]at q;exact q.elim
  |some w=>
   rw[r,oy]at q;obtain⟨T,rfl,I⟩:=xj D r;refine⟨.ref a,N,a,d7 C w,rfl,kl.t M I,?_⟩;rcases K.val w with⟨x,v,h1,h2,h3⟩|⟨h1,h2⟩
   .rw[h1]at q;rw[h2];exact q B z m r1 (a8.refl ..) _ rfl
   .rw[h1]at q;rw[h2];exact q B z m r1 (a8.refl ..) _ rfl
theorem OC(i:Nat){y:Str}{a:Pos}(w:X.A.units+64<cLine)(n:DE X E b d)(o:X.N[i]?=aa y:=by rfl)(p:dw X.env.scope y:=by eq_refl)(m:(y==("__debug__":Str))=aj:=by decide) (q:(y==("__classdict__":Str))=aj:=by decide) (l:oh .NotIn (.Name y a)=aj:=by rfl):DT X E (.Compare b [.NotIn] [.Name y a] f) (dB (lv ah i d)):=λF S u s H Q j h=>by refine sx (Nd (L7 ∅ bz (eu o p m q)) l) ?_;have:=Mb (Q:=λv r=>∃k,v=.bl k/\Q k r) ah n j (qW h);simp only[Bool.true_xor]at this;exact this
end
section
variable{X:Cx}
theorem vE{b:List ai}{a:List Tx}(h:fR b (a.map tS)):bx (c7 a) b:=by
 induction a generalizing b with
 |nil=>cases h;exact .nil
 |cons x a c=>
  cases h with
  |cons _ t h=>exact .cons ⟨_,rfl⟩ (c h)
theorem OD(K:X.calm=ah):ff X (.type "list") (λj H Q=>∃(d:ac) (kvs:List (aD×V)) (a:List Tx),j=[.ref d]/\H d=aa (.dK kvs)/\kvs.map (·.1)=a.map (λx=>Sum.inr (tS x))/\∀l,H l=ae->Q (.ref l) (upd H l (.lst (c7 a)))):=by
 intro Z s T H j Y Q I r h;obtain⟨d,kvs,a,rfl,J,n,q⟩:=h;obtain⟨u,rfl,D⟩:=vals1 r;cases D;obtain⟨z,G,m,rel,P⟩:=rY I.hok J;obtain⟨ep,C⟩:=P.dictAt;have w:m.length=a.length:=by have f:=congrArg lT n;simp only[bO]at f;rw[<-rel.length];exact f
 have F:a.length<=a6:=by rw[<-w,<-rel.length];exact z
 refine PySem.W.kdl_call (PySem.W.kdl_dict (knd:=gf X.prog X.w) (kvs:=m) (ep:=ep) G) (I.ok.hd K) C (by rw[<-rel.length];exact z) λL B A S k e o=>?_;have b:fR A.toList (a.map tS):=by
  refine B2 _ _ (by rw[bO,wu,o.1,w]) λi v x f c=>?_;obtain⟨E,y,O,N⟩:=o.2 i v (by rw[<-Array.getElem?_toList];exact f);obtain⟨W,M,_⟩:=KV.at rel O;have g:(kvs.map (·.1))[i]?=aa E:=by rw[iP,M];rfl
  rw[n,iP]at g;rw[iP]at c;cases p:a[i]? with
  |none=>rw[p]at c;cases c
  |some l=>
   rw[p]at g c;cases g;cases c;exact Value.isStrOf_shape N
 refine⟨.ref s.heap.objs.size,_,I.laid (t':=B) k (ba _) (show cV X.prog X.w _ L _ (.lst (c7 a))from⟨by unfold c7;rw[bO];exact F,A.toList,S,vE b,?_⟩),rfl,q _ (I.hok.fresh (ba _))⟩;rw[Array.toArray_toList];exact e
def u9(a:List (aD×PV)):Option PO:=(mK a).bind λb=>if ∀x∈b,x.length<=bQ then aa (.lst (ak b))else ae
def ri(i:Nat):af->R PO:=λε=>(aB (dO ε i) ε).bind λa ε=>aB (u9 a) ε
theorem Kx:dQ "list"=aa (.type "list"):=by decide +kernel
theorem HR{E:XK}(i:Nat){y:Str}{u p g:Pos}(G:X.calm=ah)(x:X.mg "list"=ae)(J:X.N[i]?=aa y:=by rfl)(L:dw X.env.scope y:=by eq_refl)(D:(y==("__debug__":Str))=aj:=by decide) (M:(y==("__classdict__":Str))=aj:=by decide) (C:Gl X "list":=by rfl):DN X E (.Call (.Name "list" p) [.Name y u] [] g) (ri i):=λF S s N H Q d h=>by
 unfold ri at h;cases q:dO s i with
 |none=>rw[q]at h;exact h.elim
 |some m=>
  rw[q]at h;simp only[cf,R.bind_ok]at h;obtain⟨a,v,K,I,A,O,_⟩:=d.dkAt (lK q);unfold u9 at h;cases n:mK m with
  |none=>rw[n]at h;exact h.elim
  |some r=>
   rw[n,gu]at h;split at h
   .rename_i B;refine bX (si (OD G) C x Kx (ip (eu J L D M) i6 (iV rfl)) (by decide) (by decide) (iV rfl) rfl) ⟨.ref a,K,a,v,r,rfl,I,by rw[A.keys];exact Dp n,λl f=>?_⟩;have al:Al F F H (L2.upd H l (.lst (c7 r))):=Al.new0 f;refine h F S _ (d.al al) al.grow l (λc=>c=l) ⟨⟨_,bT,Pa.mpr ⟨rfl,B⟩⟩,λc=>oz⟩ λb z=>?_;subst z;exact⟨f,λz=>Exists.elim (d.ex _ z) (λo w=>by rw[f]at w;cases w),λ⟨j,z⟩=>Exists.elim (d.foot j b z).2.2 (λo w=>by rw[f]at w;cases w.1),_,bT,trivial⟩
   .exact h.elim
end
section
variable{K:ar}{F f:ac->Prop}{S:Nat->ac->Prop}{c:af}{σ:St}{H d:Hp}
theorem aJ.putOwn{j:Nat}{po:PO}{a:ac}{Sa:ac->Prop}(r:aJ K F S c σ H)(i:j<c.length)(e:σ[j]?=aa (aa (.ref a)))(h:d4 K H F po a Sa)(l:pM F S H Sa):aJ K F (λk b=>(S k b/\k≠j)\/(k=j/\Sa b)) (c.set j (.own po)) σ H:=by
 have:=r.setOwn i h l;have m:σ.set j (aa (.ref a))=σ:=by
  apply wO;intro k;by_cases g:j=k
  .subst g;rw[cU (by rw[<-r.len];exact i),e]
  .rw[cA g]
 rw[m]at this;exact this
end
end Pu
namespace L2
open Mx
def eG(k:List Tx):List aD:=k.map λx=>Sum.inr (tS x)
end L2
namespace Pu
open L2
def uv:ci->Option (List Tx)
 |[]=>aa []
 |.inr z::r=>(uv r).map (z.cps.toList::·)
 |_=>ae
theorem B8(t:List Tx):uv (eG t)=aa t:=by
 induction t with
 |nil=>rfl
 |cons x t a=>show uv (Sum.inr (tS x)::eG t)=_;simp[uv,a,lD]
def ju(k:List Tx):PV:=.tup (ak k)
def iA:List Int->Int
 |[]=>0
 |x::r=>r.foldl (λb y=>if y<b then y else b) x
theorem GD(l:List Int)(y:Int)(h:l≠[]):iA (l++[y])=if y<iA l then y else iA l:=by
 cases l with
 |nil=>exact absurd rfl h
 |cons x r=>show(r++[y]).foldl _ x=_;rw[EV];rfl
theorem DY(a:List Int):∀k,k<a.length->a[j4 (λi j=>decide (a.getD i 0<a.getD j 0)) k]?=aa (iA (a.take (k+1)))
 |0,h=>by
  cases a with
  |nil=>cases h
  |cons x r=>simp[j4,iA]
 |k+1,h=>by
  have b:=DY a k ∅;have e:a.take (k+1+1)=a.take (k+1)++[a[k+1]]:=by rw[OU h]
  have g:=xk (λi j=>decide (a.getD i 0<a.getD j 0)) k;rw[e,GD _ _ (by intro z;have:=congrArg lT z;rw[p4,lX]at this;lia)];unfold j4;have f:a.getD (k+1) 0=a[k+1]:=by simp[wJ,h]
  have d:a.getD (j4 (λi j=>decide (a.getD i 0<a.getD j 0)) k) 0=iA (a.take (k+1)):=by rw[ti,b];rfl
  rw[f,d];by_cases c:a[k+1]<iA (a.take (k+1))
  .rw[if_pos (by simpa using c),if_pos c];simp[h]
  .rw[if_neg (by simpa using c),if_neg c];exact b
section
variable{X:Cx}
theorem FS(n:X.calm=ah):ff X (.builtin "min") (λw H Q=>∃(p:ac) (a:List Int),w=[.ref p]/\cb X.K H p (a.map V.int)/\a≠[]/\Q (.int (iA a)) H):=by
 intro S s A H w us Q I r h;obtain⟨p,a,rfl,J,P,q⟩:=h;obtain⟨u,rfl,D⟩:=vals1 r;cases D;obtain⟨d,l,m,hz⟩:=I.list J;have y:=l.length;rw[bO]at y;have hn:0<a.length:=by cases a with|nil=>exact absurd rfl P|cons=>simp
 refine call_min_walk (qb m.isList ?_);have W:p≠s.heap.objs.size:=by obtain⟨o,f,_⟩:=m.isList;exact cT (br f)
 refine⟨s.heap.objs.size,_,_,_,_,_,λi j=>decide (a.getD i 0<a.getD j 0),rfl,qc (qT (I.ok.hd n)) s.heap.objs.size p W d.toArray,⟨⟨_,cj _ rfl,rfl,rfl⟩,?_⟩,?_,by rw[cD];lia,λi j Z Y s' Q' E' M L O=>?_,λv h' B G k=>?_⟩
 .obtain⟨o,f,n,N⟩:=m.isList;exact⟨o,bf _ f,n,N⟩
 .intro b g;obtain⟨o,f,_⟩:=m.isList;have C:p<s.heap.objs.size:=br f;have sz:∀o:Obj,(s.heap.push o).objs.size=s.heap.objs.size+1:=λo=>by simp[Heap.push]
  rcases bW.mp g with rfl|g
  .show _<(s.heap.push _).objs.size;rw[sz];exact ja _
  .rw[gs.mp g];show _<(s.heap.push _).objs.size;rw[sz];exact jD C
 .obtain⟨t,rfl⟩:=pY l M;obtain⟨t',rfl⟩:=pY l L;exact lt_int O
 .obtain⟨t,rfl⟩:=pY l G;have e:a.getD (j4 (λi j=>decide (a.getD i 0<a.getD j 0)) (d.toArray.size-1)) 0=iA a:=by rw[cD,<-y,ti,DY a _ ∅,show a.length-1+1=a.length by lia,List.take_length];rfl
  rw[e];have T:Inv X S A H {s with heap:=s.heap.push {cls:=.type "list_iterator",data:=.fields #[.ref p,.int 0 0]},toks:=s.toks}:=I.kept (t':=s.toks) λb o e=>bf _ e;exact⟨.int (iA a),H,Inv.turned (t':=B) T (it:=s.heap.objs.size) (λb o g e=>k b o (by simpa using g) e) I.fresh (iL I.lt) (.inr I.sz) (λx c e z=>by obtain⟨v,E⟩:=I.cell x c e;exact absurd E.lt (by rw[z];exact d9 _)) (λF K z=>absurd (br (I.pin F K).1) (by rw[z];exact d9 _)),⟨t,rfl⟩,q⟩
def pQ:List PV->Option PV
 |[.lst b]=>(eF b).bind λa=>if a≠[] then aa (.int (iA a))else ae
 |_=>ae
theorem FN:PL X.K (λd H Q=>∃(p:ac) (b:List Int),d=[.ref p]/\cb X.K H p (b.map V.int)/\b≠[]/\Q (.int (iA b)) H) pQ:=λF H d m Q pv g e q=>by
 unfold pQ at e;split at e
 .obtain⟨v,rfl,a,n,rfl,j,_,f⟩:=gY g;obtain⟨h,l,c⟩:=Ar.mp e;have:=xq f l;subst this;split at c
  .rename_i i;cases c;exact⟨a,h,rfl,.inl j,i,q _ F H (Al.refl ..) rfl⟩
  .cases c
 .cases e
end
def lc(a:af)(C:ac)(y:Str)(i:Nat):Option (List (Str×PV)×List PV):=match a[i]? with
 |some (.own (.inl D fs z xs))=>if D=C/\z=y then aa (fs,xs)else ae
 |_=>ae
theorem yI{a:af}{C:ac}{y:Str}{i:Nat}{p:List (Str×PV)×List PV}(h:lc a C y i=aa p):a[i]?=aa (.own (.inl C p.1 y p.2)):=by
 unfold lc at h;split at h
 .rename_i D fs z xs e;split at h
  .rename_i b;obtain⟨rfl,rfl⟩:=b;cases h;exact e
  .cases h
 .cases h
theorem Nx{a:List (Str×V)}{f:Str}{v:V}{r:List (Str×V)}(h:a.lookup f=aa v):(a++r).lookup f=aa v:=by rw[sU,h];rfl
theorem Bl{a:List (Str×V)}{y:Str}{v:V}(h:a.lookup y=ae):(a++[(y,v)]).lookup y=aa v:=by rw[sU,h];simp[iM]
section
variable{K:ar}{F h:ac->Prop}{S q:Nat->ac->Prop}{l:af}{j:St}{H g:Hp}{i:Nat}{C a b f:ac}{fs:List (Str×PV)}{d:List (Str×V)}{y:Str}{m p:List PV}{n:List V}
theorem aJ.lookI(r:aJ K F S l j H)(e:l[i]?=aa (.own (.inl C fs y m))):∃a b f d,j[i]?=aa (aa (.ref a))/\H a=aa (.ins C f d)/\d.lookup y=aa (.ref b)/\aO K H (λc=>F c\/c=b) (.lst m) (.ref b)/\(∀c,F c\/c=b->∃o,H c=aa o) /\ (∀{h g},Al (λc=>F c\/c=b) h H g->Al F (λc=>h c/\c≠b) H g):=by
 obtain⟨a,E,f,d,b,n,A,D,v,s,x,G,B⟩:=r.own i _ e;have u:¬F b:=(r.foot i b ((B b).mpr (.inr rfl))).2.1;refine⟨a,b,f,_,E,A,Bl (D.miss v),⟨b,n,rfl,.inl s,.inr rfl,aY.mono (λ_ z=>.inl z) (λ_ _ _ z=>z) (λ_ _ z _=>z) _ _ x⟩,λc z=>z.elim (r.ex c) λz=>by rw[z];exact⟨_,s⟩,λ{h g} al=>⟨λc z=>⟨al.fro c (.inl z),λw=>u (w ▸ z)⟩,al.same,λc z=>?_⟩⟩;rcases al.fnew c z.1 with(w|w)|w
 .exact .inl w
 .exact absurd w z.2
 .exact .inr w
end
section
variable{X:Cx}{E:XK}{pin:List Nat}{e d:ay}{f x y u:Str}{C:ac}{p g j:Pos}{w de:af->R PV}{m T:String}{r:List V->Hp->VK->Prop}{o:List PV->Option PV}{s:List PV->Option PO}
def nz(C:ac)(y:Str)(i:Nat)(f:Str):af->R PV:=λa=>(aB (lc a C y i) a).bind λq a=>aB (q.1.lookup f) a
theorem Hn(i:Nat)(y:Str)(c:Cls X.K C)(n:iH X.K C f)(M:X.N[i]?=aa x:=by rfl)(I:dw X.env.scope x:=by eq_refl)(J:(x==("__debug__":Str))=aj:=by decide)(W:(x==("__classdict__":Str))=aj:=by decide) (K:hV (.Name x p) f X.env (aL (.Name x p) X.env)=aL (.Name x p) X.env:=by rfl):DE X E (.Attribute (.Name x p) f g) (nz C y i f):=λF S D Y H Q B h=>by
 unfold nz at h;cases A:lc D C y i with
 |none=>rw[A]at h;exact h.elim
 |some q=>
  rw[A]at h;simp only[cf,R.bind_ok]at h;obtain⟨a,O,P,Z,b,vs,L,N,hy,qK,hx,iz,hS⟩:=B.own i _ (yI A);cases z:q.1.lookup f with
  |none=>rw[z]at h;exact h.elim
  |some pv=>rw[z]at h;obtain⟨v,l,G⟩:=N.look z;exact bX (yP (eu M I J W) K) ⟨.ref a,O,a,C,P,_,v,rfl,L,c,n,Nx l,h F S H B (a8.refl ..) v G⟩
def ro{b:Type}(f:List PV->Option b)(C:ac)(y:Str)(i:Nat):af->R b:=λa=>(aB (lc a C y i) a).bind λq a=>aB (f [.lst q.2]) a
end
theorem B4{f:Str}{v:V}:∀{a:List (Str×V)},a.lookup f=ae->eB f v a=a++[(f,v)]
 |[],_=>rfl
 | (g,x)::r,h=>by
  by_cases q:g=f
  .subst q;simp[iM]at h
  .have b:r.lookup f=ae:=by
    have:(f == g)=aj:=by simpa using λe=>q e.symm
    simpa[iM,this]using h
   rw[eB,if_neg q,B4 b];rfl
section
variable{K:ar}{F s:ac->Prop}{S D:Nat->ac->Prop}{f A:af}{m:St}{H p:Hp}{i:Nat}{C a b l:ac}{h:PO}{fs:List (Str×PV)}{y:Str}{u B:List PV}{x:List V}
theorem aJ.giveI{I:List (Str×V)}{Q:ac->Prop}(r:aJ K F S f m H)(e:f[i]?=aa (.own (.ins C fs)))(ea:m[i]?=aa (aa (.ref a)))(ha:H a=aa (.ins C l I))(fr:io K H F fs I)(hS:∀c,S i c↔c=a)(hy:fs.lookup y=ae)(ow:d4 K H F (.lst u) b Q) (T:pM F S H Q):aJ K F (λj c=>S j c\/(j=i/\Q c)) (f.set i (.own (.inl C fs y u))) m (L2.upd H a (.ins C l (eB y (.ref b) I)))/\a8 (U S) (U S) F F H (L2.upd H a (.ins C l (eB y (.ref b) I))):=by
 obtain⟨⟨x,hb,hx⟩,O⟩:=ow;have W:S i a:=(hS a).mpr rfl;have hi:i<f.length:=(cI.mp e).1;have hbL:=T b ((O b).mpr rfl);have iz:a≠b:=by rintro rfl;exact hbL.2.1 ⟨i,W⟩
 have g:a8 (U S) (U S) F F H (L2.upd H a (.ins C l (eB y (.ref b) I))):=⟨λ_ z=>z,λc o q n=>by rw[bj (by rintro rfl;exact n ⟨i,W⟩)];exact q,λc o q=>by
  by_cases N:c=a
  .subst N;exact⟨_,bT⟩
  .exact⟨o,by rw[bj N];exact q⟩,λ_ z=>.inl z,λ_ z=>.inl z⟩
 refine⟨⟨by rw[hZ];exact r.len,λb z=>let ⟨o,q⟩:=r.ex b z;g.there b o q,λk pv q=>?_,λk h q=>?_,λk c z=>?_,λj k c L E=>?_⟩,g⟩
 .have G:i≠k:=by rintro rfl;rw[cU hi]at q;cases q
  rw[cA G]at q;obtain⟨v,M,J⟩:=r.val k pv q;exact⟨v,M,J.grow g r.fit⟩
 .by_cases G:i=k
  .subst G;rw[cU hi]at q;cases q;refine⟨a,ea,l,I,b,x,?_,fr.mono (λ_ _ z=>z.grow g r.fit),hy,by rw[bj iz.symm];exact hb,hx.grow g r.fit,iz,λc=>?_⟩
   .rw[bT,B4 (fr.miss hy)]
   .show(S i c\/i=i/\Q c)↔_;rw[hS,O];simp
  .rw[cA G]at q;obtain⟨c,M,J⟩:=r.own k h q;have:(λc=>S k c\/(k=i/\Q c))=S k:=by funext c;exact propext ⟨λz=>z.elim id λz=>absurd z.1.symm G,.inl⟩
   refine⟨c,M,?_⟩;rw[this];refine J.mono (λ_ _ z=>z.grow g r.fit) (λ_ _ z=>z.grow g r.fit) λd o z w=>?_;rw[bj (by rintro rfl;exact G (r.dist i k d W z))];exact w
 .have up:∀{c:ac}{o:HO},H c=aa o->dr o->∃o',(L2.upd H a (.ins C l (eB y (.ref b) I))) c=aa o'/\dr o':=λ{c o} h1 h2=>by
   by_cases N:c=a
   .subst N;exact⟨_,bT,trivial⟩
   .exact⟨o,by rw[bj N];exact h1,h2⟩
  have P:∀{k:Nat}{h:PO},f[k]?=aa (.own h)->∃Z,(f.set i (.own (.inl C fs y u)))[k]?=aa (.own Z):=λ{k h} q=>by
   by_cases G:i=k
   .subst G;exact⟨_,cU hi⟩
   .exact⟨h,by rw[cA G];exact q⟩
  rcases z with z|⟨rfl,z⟩
  .obtain⟨⟨h,M⟩,J,o,Y,X⟩:=r.foot k c z;exact⟨P M,J,up Y X⟩
  .obtain⟨J,_,o,Y,X⟩:=T c z;exact⟨P e,J,up Y X⟩
 .rcases L with L|⟨rfl,L⟩
  .rcases E with E|⟨rfl,E⟩
   .exact r.dist j k c L E
   .exact absurd ⟨j,L⟩ (T c E).2.1
  .rcases E with E|⟨rfl,E⟩
   .exact absurd ⟨k,E⟩ (T c L).2.1
   .rfl
theorem aJ.aside{O n:ac->Prop}(r:aJ K F S f m H)(g:a8 O n F s H p)(d:∀c,O c->H c=ae)(j:∀c,s c->∃o,p c=aa o):aJ K s S f m p/\a8 (U S) (U S) F s H p:=by
 have no:∀c o,H c=aa o->¬O c:=λc o q z=>by rw[d c z]at q;cases q
 have al:Al F s H p:=⟨g.fro,λc o q=>g.keep c o q (no c o q),λc z=>by
  rcases g.fnew c z with w|w|w
  .exact .inl w
  .exact .inr ⟨w,j c z⟩
  .exact .inr ⟨d c w,j c z⟩⟩
 exact⟨r.al al,al.grow⟩
end
section
variable{X:Cx}{E:XK}{pin:List Nat}{e d:ay}{f x y m:Str}{C:ac}{p g l:Pos}{A de:af->R PV}{u T:String}{r:List V->Hp->VK->Prop}{v:List PV->Option PV}{s:List PV->Option PO}
theorem NG{F:ac->Prop}{S:Nat->ac->Prop}{D:af}{B:St}{H:Hp}{Q:VK}{i:Nat}(hp:k_ X.K r s)(K:aJ X.K F S D B H)(h:Ok X.K E B F S H (ro (λxs=>vN (s xs)) C y i D) (λL _ P S' n=>∀a I,d4 X.K n P L a I->(∀b,I b->H b=ae/\¬P b/\¬U S' b/\∃o,n b=aa o/\dr o)->Q (.ref a) n)):∃a b O G,B[i]?=aa (aa (.ref a))/\H a=aa (.ins C O G)/\G.lookup y=aa (.ref b)/\r [.ref b] H Q:=by
 unfold ro at h;cases N:lc D C y i with
 |none=>rw[N]at h;exact h.elim
 |some q=>
  rw[N]at h;simp only[cf,R.bind_ok]at h;obtain⟨a,b,O,G,ea,ha,hl,ra,tZ,Z⟩:=K.lookI (yI N);refine⟨a,b,O,G,ea,ha,hl,?_⟩;cases M:s [.lst q.2]with
  |none=>rw[M]at h;exact h.elim
  |some L=>
   rw[M]at h;cases L with
   |lst J=>
    have h:Ok X.K E B F S H (aB (if mv J then aa (PO.lst J)else ae) D) _:=h;split at h
    .rename_i hi;refine hp _ H [.lst q.2] [.ref b] Q _ tZ (.one ra) M λc P n I al ow fr=>h _ S n (K.al (Z al)) (Z al).grow c I ?_ λb z=>?_
     .obtain⟨⟨vs,o1,o2⟩,o3⟩:=ow;exact⟨⟨vs,o1,aY.imm J hi o2⟩,o3⟩
     .obtain⟨W,z2,o,z3,z4⟩:=fr b z;refine⟨W,λw=>z2 w.1,λ⟨j,w⟩=>?_,o,z3,z4⟩;obtain⟨_,_,o',Y,_⟩:=K.foot j b w;rw[W]at Y;cases Y
    .exact h.elim
   |_=>exact h.elim
theorem MN(i:Nat)(c:Cls X.K C)(n:iH X.K C y)(O:ff X (.type T) r)(I:k_ X.K r s)(K:X.mg m=ae)(D:dQ m=aa (.type T))(Y:X.N[i]?=aa x:=by rfl)(dY:dw X.env.scope x:=by eq_refl)(N:(x==("__debug__":Str))=aj:=by decide) (bc:(x==("__classdict__":Str))=aj:=by decide) (M:Gl X m:=by rfl) (J:m≠"__name__":=by decide) (Z:(m==("__debug__":Str))=aj:=by decide) {h j:Pos}(P:hV (.Name x h) y X.env (aL (.Name x h) X.env)=aL (.Name x h) X.env:=by rfl)(o:aP [.Attribute (.Name x h) y j] X.env=(aj,aL (.Attribute (.Name x h) y j) X.env)::aP [] X.env:=by rfl) (ce:(cm g (aP [] X.env)).any (·.1)=aj:=by rfl):DN X E (.Call (.Name m p) [.Attribute (.Name x h) y j] [] g) (ro (λw=>vN (s w)) C y i):=λF S ε σ H Q B q=>by obtain⟨a,b,dx,z,ea,W,L,G⟩:=NG I B q;exact bX (si O M K D (ip (yP (eu Y dY N bc) P) i6 o) J Z o ce) ⟨.ref a,ea,a,C,dx,z,.ref b,rfl,W,c,n,L,G⟩
def uW(C:ac)(i:Nat)(y:Str)(dn:af->R PO):af->R aG:=λb=>(dn b).bind λh a=>match h with
 |.lst c=>(aB (nN a C i) a).bind λfs a=>if fs.length<1000/\fs.lookup y=ae then .ok .next (a.set i (.own (.inl C fs y c)))else .no
 |_=>.no
theorem Mt(i:Nat)(c:Cls X.K C)(n:iH X.K C y){dn:af->R PO}(AF:DN X E d dn)(hN:X.N[i]?=aa x:=by rfl)(hv:dw X.env.scope x:=by eq_refl)(hd:(x==("__debug__":Str))=aj:=by decide)(bc:(x==("__classdict__":Str))=aj:=by decide) (hs:g_ d (aa (.Attribute (.Name x p) y l)) g.line X.env=pure aj:=by rfl):DS X E pin (.Assign [.Attribute (.Name x p) y l] d g) (uW C i y dn):=λF S I w H D W h=>by
 refine eQ (Bc (eu hN hv hd bc) bz hs) (AF F S I w H _ W ?_);unfold uW at h;cases G:dn I with
 |no=>rw[G]at h;exact h.elim
 |er c P=>rw[G]at h;exact λx F' S' H' Z g'=>h x F' S' w H' Z g' (ig.refl _ _)
 |ok po B=>
  rw[G]at h;simp only[R.bind_ok]at h;intro F1 S1 H1 r1 M b Sb ow N;cases po with
  |lst xs=>
   dsimp only at h;cases q:nN B C i with
   |none=>rw[q]at h;exact h.elim
   |some fs=>
    rw[q]at h;simp only[cf,R.bind_ok]at h;obtain⟨a,O,⟨dx,Q,L,K⟩,hS⟩:=r1.own i _ (uG q);split at h
    .rename_i J;obtain⟨Y,g2⟩:=r1.giveI (uG q) O L K hS J.2 ow λb z=>(N b z).2;refine⟨.ref a,O,a,C,dx,Q,rfl,L,c,n,by rw[K.len];exact J.1,h F1 _ w _ Y ?_ (ig.refl _ _)⟩;have o:=M.trans g2;refine⟨o.fro,o.keep,o.there,o.fnew,λb ⟨j,z⟩=>?_⟩;rcases z with z|⟨_,z⟩
     .exact M.onew b ⟨j,z⟩
     .exact .inr (N b z).1
    .exact h.elim
  |_=>exact h.elim
end
section
variable{K:ar}{F:ac->Prop}{S:Nat->ac->Prop}{ε:af}{σ c:St}{H:Hp}{i:Nat}{C:ac}{m:Str}
def o7(ε:af)(C:ac)(m:Str)(i:Nat):Bool:=match ε[i]? with
 |some (.own (.ins D fs))=>decide (D=C)&&(fs.lookup m).isNone
 |some (.own (.inl D fs y _))=>decide (D=C)&&(fs.lookup m).isNone&&decide (m≠y)
 |_=>aj
theorem NK(r:aJ K F S ε σ H)(h:o7 ε C m i=ah):∃a f d,σ[i]?=aa (aa (.ref a))/\H a=aa (.ins C f d)/\d.lookup m=ae:=by
 unfold o7 at h;split at h
 .rename_i D fs e;simp only[dW,decide_eq_true_eq,Option.isNone_iff_eq_none]at h;obtain⟨rfl,g⟩:=h;obtain⟨a,n,⟨f,d,l,j⟩,_⟩:=r.own i _ e;exact⟨a,f,d,n,l,j.miss g⟩
 .rename_i D fs y p e;simp only[dW,decide_eq_true_eq,Option.isNone_iff_eq_none]at h;obtain⟨⟨rfl,g⟩,o⟩:=h;obtain⟨a,n,f,d,b,q,l,j,_⟩:=r.own i _ e;refine⟨a,f,_,n,l,?_⟩;have:(m == y)=aj:=by simpa using o
  rw[sU,j.miss g];simp[iM,this]
 .cases h
theorem fg.bare:∀{b:List bY}{d:List V},bq b=[]->fg K σ F H b d->fg K c F H b d
 |[],_,_,h=>h
 |.inl _::_,_,a,⟨v,r,e,g,f⟩=>⟨v,r,e,g,fg.bare a f⟩
 |.inr _::_,_,a,_=>by cases a
theorem aJ.only{po:PO}{a:ac}{Sa:ac->Prop}(l:∀b,F b->∃o,H b=aa o)(g:d4 K H F po a Sa)(h:∀b,Sa b->¬F b/\∃o,H b=aa o/\dr o):aJ K F (λj b=>j=0/\Sa b) [.own po] [aa (.ref a)] H:=by
 refine⟨rfl,l,λj pv q=>?_,λj p q=>?_,λj b z=>?_,λj k b f d=>f.1.trans d.1.symm⟩
 .match j,q with
  |0,q=>cases q
 .match j,q with
  |0,q=>
   cases q;refine⟨a,rfl,?_⟩;have:(λb=>0=0/\Sa b)=Sa:=by funext b;exact propext ⟨λz=>z.2,λz=>⟨rfl,z⟩⟩
   rw[this];exact g
 .obtain⟨rfl,z⟩:=z;exact⟨⟨po,rfl⟩,h b z⟩
end
section
variable{u:dZ}{X:Cx}{E:XK}{pin:List Nat}{e:ay}{n:List ay}{s:af->R (List bY)}{p d l:Pos}{x m:Str}{C:ac}{k:Nat}{A:List Str}{g r B:af->R Slot}
def et(C:ac)(m:Str)(i:Nat)(g:af->R Slot):af->R Slot:=λε=>if o7 ε C m i then pd ε [.inr i] g else .no
theorem mR{pl:Sem Bool}(i:Nat)(c:Cls X.K C)(I:lm u X.prog X.w X.K X.mg X.base C m k A (bn X.K g))(M:Room k X.A)(J:jL u X E)(Y:X.N[i]?=aa x:=by rfl) (K:dw X.env.scope x:=by eq_refl) (T:(x==("__debug__":Str))=aj:=by decide) (bc:(x==("__classdict__":Str))=aj:=by decide)(L:aL (.Call (.Attribute (.Name x p) m l) [] [] d) X.env=(do
   let ov <-aL (.Name x p) X.env
   standAt l.atName
   let (f,first) <-holding [ov] (getMethod ov m pl)
   callWith d f first (cm d (aP [] X.env)) (mZ d (m8 [] X.env))):=by rfl) :
  DR X E (.Call (.Attribute (.Name x p) m l) [] [] d) (et C m i g):=λF S z w H Q o h=>by
 unfold et at h;by_cases b:o7 z C m i=ah
 .rw[if_pos b]at h;obtain⟨f,fd,O,Fn,W⟩:=I.ex;obtain⟨a,dx,D,q,Z,P⟩:=NK o b;refine bX (G1 (pl:=pl) (eu Y K T bc) c O Fn M W .nil J L) ⟨.ref a,q,a,dx,D,rfl,Z,P,?_⟩;have j:fg X.K w F H [.inr i] [.ref a]:=⟨.ref a,[],rfl,q,rfl⟩
  exact Dk (Cv o j h) λv H' ⟨sl,y,F',S',Sr,r',g',G,fr,N⟩=>N v Sr G fr
 .rw[if_neg b]at h;exact h.elim
def pf(C:ac)(r:af->R Slot)(s:af->R (List bY)):af->R PO:=λε=>(s ε).bind λa ε1=>if bq a=[] then(match pd [.own (.ins C [])] (.inr 0::a) r with
 |.ok (.val .non) [.own b]=>.ok b ε1
 |.er c _=>.er c ε1
 |_=>.no)else .no
theorem Hz(mk:zT u X.prog X.w X.K X.mg X.base C k A (bn X.K r))(hr:Room (k+1) X.A)(hx:jL u X E)(hm:X.mg x=aa (.ref C))(ha:DG X E (e::n) s)(hg:Gl X x:=by rfl)(hd:(x==("__debug__":Str))=aj:=by decide) (h1:aP (e::n) X.env=(aj,aL e X.env)::aP n X.env:=by rfl) (h2:(cm d (aP n X.env)).any (·.1)=aj:=by rfl):DN X E (.Call (.Name x p) (e::n) [] d) (pf C r s):=λF S ε σ H Q rl h=>by
 obtain⟨f,fd,M,Fn,hb⟩:=mk.ex;refine bX (Kd M Fn hr hg hm hb .nil hx gG hd h1 h2) (ha F S ε σ H _ rl ((Ok.bind h).imp λas ε1 O S1 J r1 g1 q vs av a I G hdx ca=>?_));rw[jC];by_cases Z:bq as=[]
 .rw[if_pos Z]at q;have al:Al O O J (L2.upd (L2.upd J I (.own a)) a (.ins C I [])):=(Al.new0 hdx).trans (Al.new0 (by rw[bj (d_ ca)];exact G));have nF:¬O a:=λz=>by obtain⟨o,q⟩:=r1.ex a z;rw[G]at q;cases q
  have ow:d4 X.K (L2.upd (L2.upd J I (.own a)) a (.ins C I [])) O (.ins C []) a (λb=>b=a):=⟨⟨I,[],bT,.nil⟩,λb=>oz⟩
  have rp:=aJ.only (r1.al al).ex ow λb z=>by subst z;exact⟨nF,_,bT,trivial⟩
  have av2:fg X.K [aa (.ref a)] O (L2.upd (L2.upd J I (.own a)) a (.ins C I [])) (.inr 0::as) (.ref a::vs):=⟨.ref a,vs,rfl,rfl,fg.bare Z (av.al al)⟩
  have hU:∀c,U (λj b=>j=0/\b=a) c->J c=ae:=λc ⟨j,_,z⟩=>by rw[z];exact G
  refine Dk (Cv (D:=λsl L P T K=>sl=.val .non/\Q (.ref a) K) rp av2 ?_) λv K ⟨sl,L,P,T,Sr,i,N,rs,fr,hs,hq⟩=>⟨by subst hs;exact rs.1,hq⟩
  split at q
  .rename_i po e0;rw[e0];intro P T K i N;obtain⟨a',ea',Y⟩:=i.own 0 _ rfl;cases ea';obtain⟨W,g2⟩:=r1.aside (al.grow.trans N) hU i.ex;refine⟨rfl,q P S1 K W g2 a (T 0) Y λb z=>?_⟩;have hn:J b=ae:=by
    rcases N.onew b ⟨0,z⟩with w|w
    .exact hU b w
    .exact al.same.free w
   exact⟨mi g1 hn,(i.foot 0 b z).2.1,(λ⟨j,w⟩=>by obtain⟨_,_,o,w1,_⟩:=r1.foot j b w;rw[hn]at w1;cases w1),(i.foot 0 b z).2.2⟩
  .rename_i c L e0;rw[e0];intro y P T K i N;obtain⟨W,g2⟩:=r1.aside (al.grow.trans N) hU i.ex;exact q y P S1 K W g2
  .exact q.elim
 .rw[if_neg Z]at q;exact q.elim
end
def gh(a:List Nat):Nat->af->Bool
 |_,[]=>ah
 |i,.own _::b=>a.contains i&&gh a (i+1) b
 |i,_::b=>gh a (i+1) b
theorem o8{c:List Nat}:∀{b:af}{k:Nat},gh c k b=ah->∀(i:Nat) a,b[i]?=aa (.own a)->k+i∈c
 |[],_,_,i,a,e=>by simp at e
 |.own q::b,k,h,0,a,e=>by simp only[gh,dW]at h;simpa using h.1
 |.own q::b,k,h,i+1,a,e=>by simp only[gh,dW]at h;have:=o8 (k:=k+1) h.2 i a (by simpa using e);rwa[sZ,s_]at this
 |.val q::b,k,h,0,a,e=>by simp at e
 |.none::b,k,h,0,a,e=>by simp at e
 |.val q::b,k,h,i+1,a,e=>by have:=o8 (k:=k+1) (by simpa[gh]using h) i a (by simpa using e);rwa[sZ,s_]at this
 |.none::b,k,h,i+1,a,e=>by have:=o8 (k:=k+1) (by simpa[gh]using h) i a (by simpa using e);rwa[sZ,s_]at this
def mE:R Slot->R Slot
 |.ok (.val v) a=>.ok (.val v) a
 |.er c a=>.er c a
 |_=>.no
theorem Bi{r:R Slot}(h:mE r≠.no):mE r=r:=by unfold mE at h ⊢;split <;> simp_all
def gC(len:Nat)(b:List Nat)(g:af->R Slot):af->R Slot:=λa=>if a.length=len/\gh b 0 a=ah then mE (g a)else .no
section
variable{l:dZ}{P:a4}{w:aT}{K:ar}{j:Str->Option ai}{g:aF}{C:ac}{m x a:Str}{b:aV}{N c:List Str}{k n:Nat}{d:af->R aG}{pin:List Nat}
theorem NE{f:ac}{u:gJ}(M:ko K x a b f u)(L:bS N c (aI b))(D:N.length=c.length+n)(F:∀(kV v B:ai) (J:Option ac) (q I:ai) (r:List ai),r.length=c.length->dU (fP x a (fX b) (dj b) (aI b) .none kV v B J q I) ⟨r,[]⟩=pure (c.zip r))(G:∀(f:ac) (q:ai) (A:aX) (o:List Env) (s:am) (H:Hp) (E:XK),Room k (A.deeper (fO a (aI b) s.heap.objs.size f q))->fH (eZ l P w K j g N a (aI b) f q A o s H E) E pin (dj b) d):gz P w K j g l (k+1) f u c (bn K (gC c.length pin (a5 n d))):=by
 have no:∀{p},gC c.length pin (a5 n d) p≠.no->p.length=c.length/\gh pin 0 p=ah:=λ{p} h=>by
  unfold gC at h;by_cases z:p.length=c.length/\gh pin 0 p=ah
  .exact z
  .rw[if_neg z]at h;exact absurd rfl h
 refine xu M L D F (λp h=>(no h).1) (λp h i y e=>by have:=o8 (no h).2 i y e;rwa[tf]at this) (λp O Q h=>.inl ?_) (λp h=>?_) λA o s H E=>G f u.code A o s H E
 .unfold gC at h;split at h
  .unfold mE at h;split at h
   .cases h;exact⟨_,rfl⟩
   .cases h
   .cases h
  .cases h
 .have z:=no h;unfold gC at h ⊢;rw[if_pos z]at h ⊢;exact(Bi h).symm
theorem Ko(D:i3 K C m a b)(G:bS N c (aI b))(v:N.length=c.length+n)(q:∀(kV p u:ai) (F:Option ac) (i B:ai) (o:List ai),o.length=c.length->dU (fP m a (fX b) (dj b) (aI b) .none kV p u F i B) ⟨o,[]⟩=pure (c.zip o))(y:∀(f:ac) (i:ai) (A:aX) (h:List Env) (s:am) (H:Hp) (E:XK),Room k (A.deeper (fO a (aI b) s.heap.objs.size f i))->fH (eZ l P w K j g N a (aI b) f i A h s H E) E pin (dj b) d):lm l P w K j g C m (k+1) c (bn K (gC c.length pin (a5 n d))):=by obtain⟨f,z,M,r⟩:=D;exact⟨f,z,M,NE r G v q y,r.binds q⟩
end
section
variable{X:Cx}{E:XK}{a:List Nat}{pos:Pos}
def kB(i j:Nat)(d:af->R aG):List PV->af->R aG
 |[],c=>.ok .next c
 |x::xs,c=>match x with
  |.tup [u,v]=>match d ((c.set i (.val u)).set j (.val v))with
   |.ok .next b=>kB i j d xs b
   |.ok .cont b=>kB i j d xs b
   |.ok .brk b=>.ok .next b
   |r=>r
  |_=>.no
end
section
variable{n:dZ}{P:a4}{w:aT}{K:ar}{l:Str->Option ai}{j:aF}{C:ac}{m x d:Str}{i:aV}{N g:List Str}{k:Nat}{e:ay}{o:Pos}
def pi(len:Nat)(dn:af->R PO):af->R Slot:=λa=>if a.length=len then(dn a).bind λb c=>.ok (.own b) c else .no
theorem F9{dn:af->R PO}(D:i3 K C m d i)(Sc:bS N g (aI i))(hn:N.length=g.length)(hb:∀(kV u L:ai) (W:Option ac) (v O:ai) (B:List ai),B.length=g.length->dU (fP m d (fX i) (dj i) (aI i) .none kV u L W v O) ⟨B,[]⟩=pure (g.zip B))(he:dj i=[.Return (aa e) o])(me:∀(f:ac) (v:ai) (A:aX) (p:List Env) (s:am) (H:Hp) (E:XK),Room k (A.deeper (fO d (aI i) s.heap.objs.size f v))->DN (eZ n P w K l j N d (aI i) f v A p s H E) E e dn):lm n P w K l j C m (k+1) g (bn K (pi g.length dn)):=by
 obtain⟨f,fd,M,X⟩:=D;refine⟨f,fd,M,?_,X.binds hb⟩;have T:∀q,pi g.length dn q≠.no->q.length=g.length:=λq h=>by
  unfold pi at h;by_cases z:q.length=g.length
  .exact z
  .rw[if_neg z]at h;exact absurd rfl h
 obtain⟨oc,od,kV,u,L,W,v,O,osl,rfl,lk,bc⟩:=X.ex;refine xa lk bc Sc (xF T) λA p s H y Q E hr iS=>⟨_,lG,?_⟩
 obtain⟨F,S,q,J,ok⟩:=iS;have hl:=T q (pG ok);have h2:=J.len;rw[bO]at h2;have es:L2.start N y=y.map aa:=by unfold L2.start;rw[show N.length-y.length=0 by lia];simp
 rw[es,he];refine sd (xL o4) (eQ (oY bz) (me _ _ A p s H E hr F S q _ H _ J ?_));unfold pi at ok;rw[if_pos hl]at ok;cases I:dn q with
 |no=>rw[I]at ok;exact ok.elim
 |er c Y=>rw[I]at ok;exact λx F' S' H' Z g'=>ok x F' S' H' Z g'
 |ok po aK=>rw[I]at ok;intro F1 S1 H1 r1 r a Sa ow G;exact ok _ F1 S1 H1 Sa r1 ⟨r.fro,r.keep,r.there,r.fnew,λb z=>z.elim (r.onew b) λw=>.inr (G b w).1⟩ ⟨a,rfl,ow⟩ (λb z=>let ⟨_,x2,x3,x4⟩:=G b z;⟨x2,x3,x4⟩) λb z=>(G b z).1
end
section
variable{X:Cx}{E:XK}{pin:List Nat}{pos:Pos}{C:ac}{y:Str}
def mw(C:ac)(y:Str)(i d c:Nat)(f:af->R aG):af->R aG:=λb=>(aB (lc b C y i) b).bind λq b=>match kB d c f q.2 (b.set i .none)with
 |.ok .next a=>if i<a.length then .ok .next (a.set i (.own (.inl C q.1 y q.2)))else .no
 |_=>.no
theorem JB(i K J:Nat)(c:Cls X.K C)(n:iH X.K C y){x O N:Str}{p ap p1 p2 Y:Pos}{k:Nat}{G:List aV}{db:af->R aG}(tW:ww (aA X.prog X.w) X.A X.env X.xe)(hc:X.calm=ah)(hN:X.N.Nodup)(hb:fH X E (i::pin) G db)(hp:K∉i::pin:=by decide) (gM:J∉i::pin:=by decide) (hNi:X.N[i]?=aa x:=by rfl) (hv:dw X.env.scope x:=by eq_refl)(hd:(x==("__debug__":Str))=aj:=by decide) (bc:(x==("__classdict__":Str))=aj:=by decide) (t_:hV (.Name x p) y X.env (aL (.Name x p) X.env)=aL (.Name x p) X.env:=by rfl)(hx:X.N[K]?=aa O:=by rfl) (hy:X.N[J]?=aa N:=by rfl) (hl:Loc X.env.scope O:=by first|exact Or.inl rfl|exact Or.inr rfl) (j9:Loc X.env.scope N:=by first|exact Or.inl rfl|exact Or.inr rfl)(tU:∀u,mX (.Attribute (.Name x p) y ap) X.env u=pure u:=by intro _;rfl)(hf:X.fn O=ah\/X.env.scope.names.lookup O=aa .local:=by first|exact .inl rfl|exact .inr rfl) (qG:X.fn N=ah\/X.env.scope.names.lookup N=aa .local:=by first|exact .inl rfl|exact .inr rfl):DS X E pin (.For (.Tuple [.Name O p1,.Name N p2] k Y) (.Attribute (.Name x p) y ap) G [] pos) (mw C y i K J db):=λF S ε σ H D rl h=>by
 unfold mw at h;cases e0:lc ε C y i with
 |none=>rw[e0]at h;exact h.elim
 |some T=>
  rw[e0]at h;simp only[cf,R.bind_ok]at h;split at h;rotate_left
  .exact h.elim
  rename_i εe O4;split at h;rotate_left
  .exact h.elim
  rename_i hie;obtain⟨a,ea,dx,ws,b,vs,ha,jG,hno,hB,rs,iz,hS⟩:=rl.own i _ (yI e0);have qL:S i a:=(hS a).mpr (.inl rfl);have hSb:S i b:=(hS b).mpr (.inr rfl);have ua:∀c,c=a\/c=b->¬U (λk b=>S k b/\k≠i) c:=λc hc ⟨k,O,N⟩=>N (rl.dist k i c O ((hS c).mpr hc));have hF0:∀c,c=a\/c=b->¬F c:=λc hc=>(rl.foot i c ((hS c).mpr hc)).2.1;have r0:aJ X.K F (λk b=>S k b/\k≠i) (ε.set i .none) σ H:=rl.drop i;have hlk:(ws++[(y,V.ref b)]).lookup y=aa (.ref b):=Bl (io.miss jG hno);have fin:∀r B d l,aJ X.K r B εe d l->a8 (U λk b=>S k b/\k≠i) (U B) F r H l->ig (i::pin) σ d->D.nx d l:=by
   intro r B d l r' j Z;have qJ:l a=aa (.ins C dx (ws++[(y,.ref b)])):=j.keep a _ ha (ua a (.inl rfl));have hB':l b=aa (.lst vs):=j.keep b _ hB (ua b (.inr rfl));obtain⟨_,nFa,nSa⟩:=j.stay ha (ua a (.inl rfl)) (hF0 a (.inl rfl));obtain⟨_,nFb,nSb⟩:=j.stay hB (ua b (.inr rfl)) (hF0 b (.inr rfl));have r4:=r'.putOwn (po:=.inl C T.1 y T.2) (Sa:=λc=>c=a\/c=b) hie (by rw[Z i (by simp)];exact ea) ⟨dx,ws,b,vs,qJ,jG.mono (λ_ _ z=>z.grow j r0.fit),hno,hB',rs.grow j r0.fit,iz,λ_=>oz⟩ λc z=>by
    rcases z with rfl|rfl
    .exact⟨nFa,nSa,_,qJ,trivial⟩
    .exact⟨nFb,nSb,_,hB',trivial⟩
   refine h r _ d _ r4 ⟨j.fro,λc o' e n=>j.keep c o' e λ⟨k,z⟩=>n ⟨k,z.1⟩,j.there,λc z=>?_,λc ⟨k,z⟩=>?_⟩ λk hk=>Z k (by simp[hk])
   .rcases j.fnew c z with w|w|⟨k,w⟩
    .exact .inl w
    .exact .inr (.inl w)
    .exact .inr (.inr ⟨k,w.1⟩)
   .rcases z with z|⟨_,z⟩
    .rcases j.onew c ⟨k,z.1⟩with⟨k',w⟩|w
     .exact .inl ⟨k',w.1⟩
     .exact .inr w
    .exact .inl ⟨i,(hS c).mpr z⟩
  refine eQ (CF tW hc wm (Dw hc (wc (pX hN hx hl hf) (wc (pX hN hy j9 qG) Dt))) lG tU) (Bx.mk λag s I=>?_);have w:=bX (X:=X) (yP (f:=y) (pos:=ap) (eu hNi hv hd bc) t_) (σ:=σ) (H:=H) (Q:=λv H1=>v=.ref b/\H1=H) ⟨.ref a,ea,a,C,dx,_,.ref b,rfl,ha,c,n,hlk,rfl,rfl⟩;refine aR (w.run ag s I) λv s1 ⟨x',H1,I1,rx,ex,eH⟩=>?_;subst ex eH;obtain rfl:v=Value.ref b:=rx;obtain⟨its,rr,pp,hz⟩:=I1.list (cb.of hB);refine qb pp.isList ?_;refine⟨s1.heap.objs.size,[s1.heap.objs.size],_,_,H1,rfl,I1.kept (t':=s1.toks) λb o e=>bf _ e,CO b _,⟨_,cj _ rfl,rfl,rfl⟩,λc ub=>?_,?_⟩
  .have e:c=s1.heap.objs.size:=by simpa using ub
   subst e;exact I1.fpOk (ba _) (I1.hok.fresh (ba _))
  refine Dr (CZ (xs:=vs)) (λm d l=>∃r B A,aJ X.K r B A d l/\a8 (U λk b=>S k b/\k≠i) (U B) F r H1 l/\ig (i::pin) σ d/\kB K J db (T.2.drop m) A=.ok .next εe) ⟨F,_,_,r0,a8.refl ..,ig.refl _ _,O4⟩ (λm d l _ ⟨r,B,A,_,g,_⟩=>cb.of (g.keep b _ hB (ua b (.inr rfl)))) ?_ ?_
  .rintro m v d l hv' ⟨r,B,A,r',j,Z,q⟩;obtain⟨xv,hxv,rxv⟩:=rs.back hv';have hk:m<T.2.length:=(cI.mp hxv).1;have ed:T.2.drop m=xv::T.2.drop (m+1):=by rw[Am hk];congr 1;exact(cI.mp hxv).2
   rw[ed]at q;have rx':=rxv.grow j r0.fit;unfold kB at q;split at q
   .rename_i u w';obtain⟨pp',us,rfl,j8,ru⟩:=rx';obtain⟨va,ra,rfl,r2,vb,rb,rfl,P,rfl⟩:=ru;have r5:=(r'.set (i:=K) r2).set (i:=J) P;have gl:a8 (U B) (U λj' b=>(B j' b/\j'≠K)/\j'≠J) r r l l:=(a8.less K).trans (a8.less J);refine⟨pp',_,rfl,cS.of j8,rfl,va,_,rfl,vb,_,rfl,rfl,?_⟩;show nR X G _ ((d.set K (aa va)).set J (aa vb)) l;refine hb r _ _ _ l _ r5 ?_;have W:=(Z.trans (ig.set (x:=aa va) hp)).trans (ig.set (x:=aa vb) gM);cases e:db ((A.set K (.val u)).set J (.val w'))with
    |no=>rw[e]at q;cases q
    |er c M=>rw[e]at q;cases q
    |ok f M=>
     rw[e]at q;cases f with
     |next=>exact λF3 S3 L H3 P g3 Y=>⟨F3,S3,M,P,(j.trans gl).trans g3,W.trans Y,q⟩
     |cont=>exact λF3 S3 L H3 P g3 Y=>⟨F3,S3,M,P,(j.trans gl).trans g3,W.trans Y,q⟩
     |brk=>
      cases q;exact λF3 S3 L H3 P g3 Y=>fin F3 S3 L H3 P ((j.trans gl).trans g3) (W.trans Y)
     |ret s=>cases q
   .cases q
  .rintro d l ⟨r,B,A,r',j,Z,q⟩;have hl:vs.length=T.2.length:=rs.len;rw[hl,An]at q;cases q;exact fin r B d l r' j Z
end
def mG(len n:Nat)(f:List Nat)(d1 d2:af->R aG)(dn:af->R PO):af->R Slot:=λa=>if a.length=len/\gh f 0 a=ah then
 match d1 (a++cM n .none)with
 |.ok .next d=>match d2 d with
  |.ok .next c=>match dn c with
   |.ok g b=>(aB (back a b) []).bind λh _=>.ok (.own g) h
   |_=>.no
  |_=>.no
 |_=>.no else .no
section
variable{u:dZ}{P:a4}{w:aT}{K:ar}{r:Str->Option ai}{j:aF}{C:ac}{m d:Str}{l x v:aV}{N p:List Str}{k n:Nat}{pin:List Nat}{e:ay}{y:Pos}{d1 d2:af->R aG}{dn:af->R PO}
theorem G9(D:i3 K C m d l)(Sc:bS N p (aI l))(hn:N.length=p.length+n)(hb:∀(kV O pm:ai) (an:Option ac) (I ct:ai) (Z:List ai),Z.length=p.length->dU (fP m d (fX l) (dj l) (aI l) .none kV O pm an I ct) ⟨Z,[]⟩=pure (p.zip Z))(he:dj l=[x,v,.Return (aa e) y])(h1:∀(f:ac) (I:ai) (A:aX) (B:List Env) (s:am) (H:Hp) (E:XK),Room k (A.deeper (fO d (aI l) s.heap.objs.size f I))->DS (eZ u P w K r j N d (aI l) f I A B s H E) E pin x d1)(h2:∀(f:ac) (I:ai) (A:aX) (B:List Env) (s:am) (H:Hp) (E:XK),Room k (A.deeper (fO d (aI l) s.heap.objs.size f I))->DS (eZ u P w K r j N d (aI l) f I A B s H E) E pin v d2)(me:∀(f:ac) (I:ai) (A:aX) (B:List Env) (s:am) (H:Hp) (E:XK),Room k (A.deeper (fO d (aI l) s.heap.objs.size f I))->DN (eZ u P w K r j N d (aI l) f I A B s H E) E e dn):lm u P w K r j C m (k+1) p (bn K (mG p.length n pin d1 d2 dn)):=by
 obtain⟨f,fd,M,Fn⟩:=D;refine⟨f,fd,M,?_,Fn.binds hb⟩;have uc:∀G,mG p.length n pin d1 d2 dn G≠.no->G.length=p.length/\gh pin 0 G=ah:=λG h=>by
  unfold mG at h;by_cases z:G.length=p.length/\gh pin 0 G=ah
  .exact z
  .rw[if_neg z]at h;exact absurd rfl h
 have bu:∀G,mG p.length n pin d1 d2 dn G≠.no->G.length=p.length:=λG h=>(uc G h).1;obtain⟨oc,od,kV,O,pm,an,I,ct,osl,rfl,lk,bc⟩:=Fn.ex;refine xa lk bc Sc (xF bu) λA B s H Y Q E hr iS=>⟨_,lG,?_⟩
 obtain⟨F,S,G,rl,ok⟩:=iS;obtain⟨hl,L⟩:=uc G (pG ok);have gL:∀(i:Nat) T,G[i]?=aa (.own T)->i∈pin:=λi T e=>by have:=o8 L i T e;rwa[tf]at this
 have hvl:=rl.len;rw[bO]at hvl;have es:L2.start N Y=Y.map aa++cM n ae:=by unfold L2.start;rw[show N.length-Y.length=n by lia]
 unfold mG at ok;rw[if_pos ⟨hl,L⟩]at ok;rw[es,he];refine sd (xg o4 (xg o4 (xL o4))) ?_;refine h1 _ _ A B s H E hr F S _ _ H _ (rl.start n) ?_;generalize e1:d1 (G++cM n .none)=q1 at ok;cases q1 with
 |no=>exact ok.elim
 |er c ε=>exact ok.elim
 |ok f1 X=>
  cases f1 with
  |brk=>exact ok.elim
  |cont=>exact ok.elim
  |ret _=>exact ok.elim
  |next=>
   intro F1 S1 σ1 H1 r1 g1 p1;refine h2 _ _ A B s H E hr F1 S1 _ _ H1 _ r1 ?_;dsimp only at ok;generalize e2:d2 X=q2 at ok;cases q2 with
   |no=>exact ok.elim
   |er c ε=>exact ok.elim
   |ok f2 J=>
    cases f2 with
    |brk=>exact ok.elim
    |cont=>exact ok.elim
    |ret _=>exact ok.elim
    |next=>
     intro F2 S2 σ2 H2 r2 g2 p2;refine eQ (oY bz) (me _ _ A B s H E hr F2 S2 J _ H2 _ r2 ?_);dsimp only at ok;generalize e3:dn J=q3 at ok;cases q3 with
     |no=>exact ok.elim
     |er c ε=>exact ok.elim
     |ok T W=>
      dsimp only at ok;cases e4:back G W with
      |none=>rw[e4]at ok;exact ok.elim
      |some aK=>
       rw[e4]at ok;intro F3 S3 H3 r3 g3 a Sa ow fr;have g:=(g1.trans g2).trans g3;obtain⟨S'',r'',sub,_⟩:=rl.back r3 g (p1.trans p2) gL e4;have nw:∀b,Sa b->H b=ae:=λb z=>by
        cases q:H b with
        |none=>rfl
        |some o=>
         obtain⟨o',q'⟩:=(g1.trans g2).there b o q;rw[(fr b z).1]at q';cases q'
       refine ok _ F3 S'' H3 Sa r'' ⟨g.fro,g.keep,g.there,g.fnew,λb z=>z.elim (λw=>g.onew b (sub b w)) λw=>.inr (nw b w)⟩ ⟨a,rfl,ow⟩ (λb z=>let ⟨_,x2,x3,x4⟩:=fr b z;⟨x2,λw=>x3 (sub b w),x4⟩) nw
end
end Pu
namespace L2
section
variable{X:Cx}{d:List (ac×Obj)}{c:St}{H:Hp}{s:am}{a:ac}{b:List (aD×V)}{k:aD}{v:V}{u r:ai}{A:aX}{E:ai->am->Prop}
theorem Lf{Q:ai->am->Prop}(I:Inv X d c H s)(e:H a=aa (.dK b))(l:b.length<a6)(p:RelV (kV k) u)(x:RelV v r)(K:∀w j h,d7 b k=aa w->RelV w j->Inv X d c H h->Q j h) (J:d7 b k=ae->∀h,Inv X d c (upd H a (.dK (eC b k v))) h->Q r h):aw (aA X.prog X.w) A (call (.builtin "dict.setdefault") [.ref a,u,r]) Q E s:=by
 obtain⟨z,n,m,rel,o⟩:=rY I.hok e;have y:m.length<=a6:=by rw[<-rel.length];exact z
 have F:(eC b k v).length<=a6:=by have:=zI b k v;lia
 have f:=rel.val k;refine Ab PySem.F.slot_dict_setdefault o.typeIs PySem.F.entry_dict_setdefault (PySem.F.args_dict_setdefault_3 _ _ _) (kt_meets_setdefault (gf X.prog X.w) a (pV p) n r) ⟨m,o,y,λj B=>?_,λD L i C=>?_⟩
 .rw[B]at f;cases g:d7 b k with
  |none=>rw[g]at f;exact f.elim
  |some w=>rw[g]at f;exact K w j _ g f (I.tok _)
 .rw[D]at f;cases g:d7 b k with
  |some w=>rw[g]at f;exact f.elim
  |none=>
   have G:∃q,L.get? a=aa q:=let ⟨q,_,_,hq,_⟩:=i;⟨q,hq⟩
   exact J g _ (xy I (by rw[e];exact True.intro) C G (A4 F n (rel.put k x) i))
end
def H_(g ty:TE):TE:=λd H Q=>g d H λx f=>∃a,x=.ref a/\xT f a/\ty d f λy c=>∀l,c l=ae->∃b k,upd c l (.lst []) a=aa (.dK b)/\y=kV k/\b.length<a6 /\
 (∀v,d7 b k=aa v->Q v (upd c l (.lst [])))/\(d7 b k=ae->Q (.ref l) (upd (upd c l (.lst [])) a (.dK (eC b k (.ref l)))))
theorem J9{X:Cx}{o e:ay}{f c b:Pos}{r ty:TE}(W:PE X o r)(Z:PE X e ty)(m:M2 X o "setdefault" f e (.List [] b) c):PE X (.Call (.Attribute o "setdefault" f) [e,.List [] b] [] c) (H_ r ty):=by intro n s g H Q I h;refine wpAny_Call_method m.base m.few m.line ER PySem.F.slot_dict_setdefault PySem.F.type_dict_setdefault (aR (W n s g H _ I h) λu G ⟨x,H1,B,L,a,ex,d,P⟩=>?_);subst ex;obtain rfl:u=Value.ref a:=L;obtain⟨E,D,_⟩:=C8 B d;refine⟨E,D,?_⟩;rw[m.trees];refine wB rfl (wC (sO (aR (Z n G g H1 _ B P) λiv F ⟨y,q,I2,K,O⟩=>sO (aR (Ef i6 n F g q (λv C=>∃l,v=.ref l/\q l=ae/\C=upd q l (.lst [])) I2 ⟨by rw[oi];simp,λl j=>⟨l,rfl,j,rfl⟩⟩) λfv s3 ⟨z,C,I3,A,l,ez,j,e3⟩=>z5 ?_))));subst ez e3;obtain⟨S,k,ea,ey,bu,N,M⟩:=O l j;subst ey;exact Lf I3 ea bu K A (λw w' J T i p=>⟨w,_,p,i,N w T⟩) λY J p=>⟨_,_,p,A,M Y⟩
end L2
namespace Pu
open L2
def fe(kvs:List (aD×List PV))(as:List ac):List (aD×V):=(kvs.map (·.1)).zip (as.map V.ref)
def addL:List (aD×List PV)->aD->PV->List (aD×List PV)
 |[],k,x=>[(k,[x])]
 |p::r,k,x=>if p.1=k then(p.1,p.2++[x])::r else p::addL r k x
theorem xD(k:aD):∀{kvs:List (aD×List PV)}{as:List ac},as.length=kvs.length -> (∃j xs b,(kvs.map (·.2))[j]?=aa xs/\as[j]?=aa b/\d7 (fe kvs as) k=aa (.ref b)/\∀x,fe (addL kvs k x) as=fe kvs as/\(addL kvs k x).map (·.2)=(kvs.map (·.2)).set j (xs++[x])) \/ (d7 (fe kvs as) k=ae/\∀x l,fe (addL kvs k x) (as++[l])=fe kvs as++[(k,.ref l)]/\(addL kvs k x).map (·.2)=kvs.map (·.2)++[[x]])
 |[],[],_=>.inr ⟨rfl,λx l=>⟨rfl,rfl⟩⟩
 |p::r,b::as,h=>by
  have g:fe (p::r) (b::as)=(p.1,.ref b)::fe r as:=rfl;by_cases e:p.1=k
  .refine .inl ⟨0,p.2,b,rfl,rfl,?_,λx=>?_⟩
   .rw[g];exact pE e
   .have a:addL (p::r) k x=(p.1,p.2++[x])::r:=by rw[addL,if_pos e]
    rw[a];exact⟨rfl,rfl⟩
  .have a:∀x,addL (p::r) k x=p::addL r k x:=λx=>by rw[addL,if_neg e]
   rcases xD k (kvs:=r) (as:=as) (by simpa using h)with⟨j,xs,c,h1,h2,h3,h4⟩|⟨h1,h2⟩
   .refine .inl ⟨j+1,xs,c,by simpa using h1,by simpa using h2,by rw[g,nQ e];exact h3,λx=>?_⟩;rw[a];obtain⟨f,d⟩:=h4 x;refine⟨?_,?_⟩
    .show(p.1,V.ref b)::fe (addL r k x) as=_;rw[f];rfl
    .rw[dD,d];rfl
   .refine .inr ⟨by rw[g,nQ e];exact h1,λx l=>?_⟩;rw[a];obtain⟨f,d⟩:=h2 x l;refine⟨?_,?_⟩
    .show(p.1,V.ref b)::fe (addL r k x) (as++[l])=_;rw[f];rfl
    .rw[dD,d];rfl
section
variable{K:ar}{F:ac->Prop}{S:Nat->ac->Prop}{y:af}{A:St}{H:Hp}{i j:Nat}{s u:List (aD×List PV)}{f:List ac}{a b l:ac}{xs:List PV}{vs:List V}{x:PV}{v:V}{k:aD}
theorem aJ.updDL(r:aJ K F S y A H)(e:y[i]?=aa (.own (.dL s)))(ea:A[i]?=aa (aa (.ref a)))(Z:H a=aa (.dK (fe s f)))(T:gq K H F (s.map (·.2)) f)(nd:f.Nodup)(M:a∉f)(O:∀b,S i b↔b=a\/b∈f)(N:f[j]?=aa b)(X:fe u f=fe s f) (Y:u.map (·.2)=(s.map (·.2)).set j xs) (h:aY K H F xs vs):aJ K F S (y.set i (.own (.dL u))) A (L2.upd H b (.lst vs))/\a8 (U S) (U S) F F H (L2.upd H b (.lst vs)):=by
 have J:b∈f:=z6 N;have D:S i b:=(O b).mpr (.inr J);have W:a≠b:=by rintro rfl;exact M J
 have G:i<y.length:=(cI.mp e).1;have g:a8 (U S) (U S) F F H (L2.upd H b (.lst vs)):=⟨λ_ z=>z,λc o q n=>by rw[bj (by rintro rfl;exact n ⟨i,D⟩)];exact q,λc o q=>by
  by_cases p:c=b
  .subst p;exact⟨_,bT⟩
  .exact⟨o,by rw[bj p];exact q⟩,λ_ z=>.inl z,λ_ z=>.inl z⟩
 refine⟨⟨by rw[hZ];exact r.len,λb z=>let ⟨o,q⟩:=r.ex b z;g.there b o q,λk pv q=>?_,λk E q=>?_,λk c z=>?_,r.dist⟩,g⟩
 .have m:i≠k:=by rintro rfl;rw[cU G]at q;cases q
  rw[cA m]at q;obtain⟨v,C,B⟩:=r.val k pv q;exact⟨v,C,B.grow g r.fit⟩
 .by_cases m:i=k
  .subst m;rw[cU G]at q;cases q;refine⟨a,ea,f,by rw[bj W];show _=aa (HO.dK (fe u f));rw[X];exact Z,?_,nd,M,O⟩;rw[Y];exact T.set nd N (λ_ _ z=>z.grow g r.fit) (λc o _ p w=>by rw[bj p];exact w) ⟨vs,bT,h.grow g r.fit⟩
  .rw[cA m]at q;obtain⟨c,C,B⟩:=r.own k E q;refine⟨c,C,B.mono (λ_ _ z=>z.grow g r.fit) (λ_ _ z=>z.grow g r.fit) λd o z w=>?_⟩;rw[bj (by rintro rfl;exact m (r.dist i k d D z))];exact w
 .obtain⟨⟨E,C⟩,B,o,Q,P⟩:=r.foot k c z;have I:∃L,(L2.upd H b (.lst vs)) c=aa L/\dr L:=by
   by_cases p:c=b
   .subst p;exact⟨_,bT,trivial⟩
   .exact⟨o,by rw[bj p];exact Q,P⟩
  by_cases m:i=k
  .subst m;exact⟨⟨_,cU G⟩,B,I⟩
  .exact⟨⟨E,by rw[cA m];exact C⟩,B,I⟩
theorem aJ.newDL{ws':List (aD×V)}(r:aJ K F S y A H)(e:y[i]?=aa (.own (.dL s)))(ea:A[i]?=aa (aa (.ref a)))(ha:H a=aa (.dK (fe s f)))(lr:gq K H F (s.map (·.2)) f)(nd:f.Nodup)(na:a∉f)(X:∀b,S i b↔b=a\/b∈f)(J:H l=ae)(hz:fe u (f++[l])=ws') (hm:u.map (·.2)=s.map (·.2)++[xs]) (h:aY K H F xs vs):∃S',aJ K F S' (y.set i (.own (.dL u))) A (L2.upd (L2.upd (L2.upd H l (.lst [])) a (.dK ws')) l (.lst vs))/\a8 (U S) (U S') F F H (L2.upd (L2.upd (L2.upd H l (.lst [])) a (.dK ws')) l (.lst vs)):=by
 have eE:a≠l:=λz=>by rw[z,J]at ha;cases ha
 have qN:S i a:=(X a).mpr (.inl rfl);have Q:i<y.length:=(cI.mp e).1;obtain⟨D,P⟩:∃D,D=L2.upd (L2.upd (L2.upd H l (.lst [])) a (.dK ws')) l (.lst vs):=⟨_,rfl⟩
 rw[<-P];have Z:D l=aa (.lst vs):=by rw[P];exact bT
 have G:D a=aa (.dK ws'):=by rw[P,bj eE];exact bT
 have M:∀c,c≠a->c≠l->D c=H c:=λc C B=>by rw[P,bj B,bj C,bj B]
 clear P;have O:∀j c,S j c->c≠l:=λj c z w=>by obtain⟨_,_,o,q,_⟩:=r.foot j c z;rw[w,J]at q;cases q
 have nF:¬F l:=λz=>by obtain⟨o,q⟩:=r.ex l z;rw[J]at q;cases q
 have g:a8 (U S) (U λj c=>S j c\/j=i/\c=l) F F H D:=⟨λ_ z=>z,λc o q n=>by
   rw[M c (by rintro rfl;exact n ⟨i,qN⟩) (by rintro rfl;rw[J]at q;cases q)];exact q,λc o q=>by
   by_cases C:c=a
   .subst C;exact⟨_,G⟩
   .exact⟨o,by rw[M c C (by rintro rfl;rw[J]at q;cases q)];exact q⟩,λ_ z=>.inl z,λc ⟨j,z⟩=>by
   rcases z with z|⟨_,rfl⟩
   .exact .inl ⟨j,z⟩
   .exact .inr J⟩
 refine⟨λj c=>S j c\/j=i/\c=l,⟨by rw[hZ];exact r.len,λb z=>let ⟨o,q⟩:=r.ex b z;g.there b o q,λk pv q=>?_,λk W q=>?_,λk c z=>?_,λk m c C B=>?_⟩,g⟩
 .have p:i≠k:=by rintro rfl;rw[cU Q]at q;cases q
  rw[cA p]at q;obtain⟨v,L,I⟩:=r.val k pv q;exact⟨v,L,I.grow g r.fit⟩
 .by_cases p:i=k
  .subst p;rw[cU Q]at q;cases q;have N:l∉f:=λz=>O i l ((X l).mpr (.inr z)) rfl;refine⟨a,ea,f++[l],by rw[G,<-hz];rfl,?_,?_,?_,λc=>?_⟩
   .rw[hm];refine gq.snoc (gq.mono (K:=K) (λ_ _ z=>z.grow g r.fit) (λc o E w=>?_) lr) Z (h.grow g r.fit);rw[M c (by rintro rfl;exact na E) (by rintro rfl;exact N E)];exact w
   .rw[wP];exact⟨nd,List.pairwise_singleton ..,λc E d hd=>by rw[gs.mp hd];rintro rfl;exact N E⟩
   .intro z;rcases lO.mp z with z|z
    .exact na z
    .exact eE (gs.mp z)
   .show(S i c\/i=i/\c=l)↔_;rw[X c,lO,gs];constructor
    .rintro((z|z)|⟨_,z⟩)
     .exact .inl z
     .exact .inr (.inl z)
     .exact .inr (.inr z)
    .rintro(z|z|z)
     .exact .inl (.inl z)
     .exact .inl (.inr z)
     .exact .inr ⟨rfl,z⟩
  .rw[cA p]at q;obtain⟨c,L,I⟩:=r.own k W q;refine⟨c,L,?_⟩;have T:=I.mono (H':=D) (λ_ _ z=>z.grow g r.fit) (λ_ _ z=>z.grow g r.fit) λd o z w=>by rw[M d (by rintro rfl;exact p (r.dist i k d qN z)) (O k d z)];exact w
   have eS:(λc=>S k c\/k=i/\c=l)=S k:=by funext c;simp[d_ p]
   rw[eS];exact T
 .rcases z with z|⟨rfl,rfl⟩
  .obtain⟨⟨W,L⟩,I,o,T,q4⟩:=r.foot k c z;have Y:∃o',D c=aa o'/\dr o':=by
    by_cases E:c=a
    .subst E;exact⟨_,G,trivial⟩
    .exact⟨o,by rw[M c E (O k c z)];exact T,q4⟩
   by_cases p:i=k
   .subst p;exact⟨⟨_,cU Q⟩,I,Y⟩
   .exact⟨⟨W,by rw[cA p];exact L⟩,I,Y⟩
  .exact⟨⟨_,cU Q⟩,nF,_,Z,trivial⟩
 .rcases C with C|⟨rfl,rfl⟩
  .rcases B with B|⟨_,rfl⟩
   .exact r.dist k m c C B
   .exact absurd rfl (O k c C)
  .rcases B with B|⟨rfl,_⟩
   .exact absurd rfl (O m c B)
   .rfl
theorem FY{s:List (aD×List PV)}:∀{f:List ac},aY K H F ((s.map (·.2)).map .lst) (f.map .ref)->f_ K H F (s.map λp=>(p.1,.lst p.2)) (fe s f):=by
 induction s with
 |nil=>intro f h;exact .nil
 |cons p r c=>
  intro f h;obtain⟨v,q,e,g,d⟩:=h;cases f with
  |nil=>cases e
  |cons b f=>cases e;exact .cons ⟨rfl,g⟩ (c d)
theorem aJ.frzDL(r:aJ K F S y A H)(e:y[i]?=aa (.own (.dL s))):∃M L,aJ K M L (y.set i (.own (.dK (s.map λp=>(p.1,.lst p.2))))) A H/\a8 (U S) (U L) F M H H:=by
 obtain⟨a,X,f,T,O,nd,N,B⟩:=r.own i _ e;have E:i<y.length:=(cI.mp e).1;have mono:∀x v,aO K H F x v->aO K H (λb=>F b\/b∈f) x v:=aO.mono (λ_ h=>.inl h) (λ_ _ _ q=>q) (λ_ _ q _=>q);have d:∀x v,aY K H F x v->aY K H (λb=>F b\/b∈f) x v:=aY.mono (λ_ h=>.inl h) (λ_ _ _ q=>q) (λ_ _ q _=>q);have P:=FY ((O.mono d λ_ _ _ z=>z).frz λb Q=>(.inr Q:F b\/b∈f));refine⟨λb=>F b\/b∈f,λj c=>S j c/\c∉f,⟨by rw[hZ];exact r.len,λb h=>?_,λj pv q=>?_,λj D q=>?_,λj b h=>?_,λj k b I G=>r.dist j k b I.1 G.1⟩,λ_ h=>.inl h,λb o h _=>h,λb o h=>⟨o,h⟩,λb h=>?_,λb ⟨j,h⟩=>.inl ⟨j,h.1⟩⟩
 .rcases h with h|h
  .exact r.ex b h
  .obtain⟨_,_,o,q,_⟩:=r.foot i b ((B b).mpr (.inr h));exact⟨o,q⟩
 .have g:i≠j:=by rintro rfl;rw[cU E]at q;cases q
  rw[cA g]at q;obtain⟨v,n,m⟩:=r.val j pv q;exact⟨v,n,mono _ _ m⟩
 .by_cases g:i=j
  .subst g;rw[cU E]at q;cases q;refine⟨a,X,⟨_,T,P⟩,λc=>?_⟩;constructor
   .rintro⟨I,G⟩;exact((B c).mp I).resolve_right G
   .rintro rfl;exact⟨(B c).mpr (.inl rfl),N⟩
  .rw[cA g]at q;obtain⟨v,n,m⟩:=r.own j D q;refine⟨v,n,?_⟩;have C:=m.mono (H':=H) mono d λ_ _ _ z=>z;have W:(λc=>S j c/\c∉f)=S j:=by funext c;exact propext ⟨λz=>z.1,λz=>⟨z,λw=>g (r.dist i j c ((B c).mpr (.inr w)) z)⟩⟩
   rw[W];exact C
 .obtain⟨⟨D,n⟩,m,C⟩:=r.foot j b h.1;have J:¬(F b\/b∈f):=λz=>z.elim m h.2;by_cases g:i=j
  .subst g;exact⟨⟨_,cU E⟩,J,C⟩
  .exact⟨⟨D,by rw[cA g];exact n⟩,J,C⟩
 .exact h.imp id λz=>.inr ⟨i,(B b).mpr (.inr z)⟩
end
section
variable{X:Cx}{E:XK}{pin:List Nat}{e b c:ay}{n:aV}{d:af->R aG}{r:af->R PV}{f:Pos}
def mH(g:af)(i:Nat):Option (List (aD×List PV)):=match g[i]? with
 |some (.own (.dL a))=>aa a
 |_=>ae
theorem r8{g:af}{i:Nat}{a:List (aD×List PV)}(h:mH g i=aa a):g[i]?=aa (.own (.dL a)):=by
 unfold mH at h;split at h
 .cases h;assumption
 .cases h
def rj:af->R PO:=λa=>.ok (.dL []) a
theorem Ny:DN X E (.Dict [] [] f) rj:=λF S l i H Q g h=>bX BM λp a=>by
 have al:Al F F H (upd H p (.dK [])):=Al.new0 a;refine h F S _ (g.al al) al.grow p (λb=>b=p) ⟨[],bT,.nil,List.Pairwise.nil,(λz=>by cases z),λb=>by simp⟩ λb z=>?_;subst z;refine⟨a,λz=>?_,λ⟨j,z⟩=>?_,_,bT,trivial⟩
 .obtain⟨o,q⟩:=g.ex b z;rw[a]at q;cases q
 .obtain⟨_,_,o,q,_⟩:=g.foot j b z;rw[a]at q;cases q
def rR(i:Nat)(d:af->R aG):af->R aG:=λg=>match mH g i with
 |some a=>d (g.set i (.own (.dK (a.map λp=>(p.1,.lst p.2)))))
 |none=>.no
theorem N5(i:Nat)(h:DS X E pin n d):DS X E pin n (rR i d):=λF S u a H D j q=>by
 unfold rR at q;split at q
 .rename_i m o;obtain⟨s,p,l,g⟩:=j.frzDL (r8 o);exact h s p _ a H D l (q.from g (ig.refl _ _))
 .exact q.elim
def sy(a:List (aD×List PV)):Bool:=decide (a.length<bQ)&&a.all λp=>decide (p.2.length<bQ)
def rJ(i j:Nat)(r:af->R PV):af->R aG:=λh=>(aB (mH h i) h).bind λ_ h=>(r h).bind λk a=>(aB (mH a i) a).bind λg a=>(aB (ge k) a).bind λk a=>match a[j]? with
 |some (.val x)=>if sy g then .ok .next (a.set i (.own (.dL (addL g k x))))else .no
 |_=>.no
theorem HF(i j:Nat){y z:Str}{B Q ap v s A g:Pos}(hu:X.A.units+64<cLine)(hb:DE X E b r)(hN:X.N[i]?=aa y:=by rfl)(dY:dw X.env.scope y:=by eq_refl)(hd:(y==("__debug__":Str))=aj:=by decide) (bc:(y==("__classdict__":Str))=aj:=by decide)(hNz:X.N[j]?=aa z:=by rfl) (hvz:dw X.env.scope z:=by eq_refl)(hdz:(z==("__debug__":Str))=aj:=by decide) (hcz:(z==("__classdict__":Str))=aj:=by decide)(h1:hV (.Name y B) "setdefault" X.env (aL (.Name y B) X.env)=aL (.Name y B) X.env:=by rfl) (h3:(v.endLine == s.line)=ah:=by rfl) (s1:ku b=aj:=by rfl)(k1:hV (.Call (.Attribute (.Name y B) "setdefault" v) [b,.List [] g] [] s) "append" X.env (aL (.Call (.Attribute (.Name y B) "setdefault" v) [b,.List [] g] [] s) X.env)=aL (.Call (.Attribute (.Name y B) "setdefault" v) [b,.List [] g] [] s) X.env:=by rfl)(k2:((cm A (aP [.Name z Q] X.env)).all (λx=>!x.1)&&(mZ A (m8 [] X.env)).all (λx=>x.1.isSome)&&decide ([Expr.Name z Q].length+([]:List je).length+(if([]:List je).isEmpty then 0 else 1)<30))=ah:=by rfl)(k3:(ap.endLine == A.line)=ah:=by rfl) (k5:(cm A (aP [] X.env)).any (·.1)=aj:=by rfl)(hs:g_ (.Call (.Attribute (.Call (.Attribute (.Name y B) "setdefault" v) [b,.List [] g] [] s) "append" ap) [.Name z Q] [] A) ae f.line X.env=pure aj:=by rfl):DS X E pin (.Expr (.Call (.Attribute (.Call (.Attribute (.Name y B) "setdefault" v) [b,.List [] g] [] s) "append" ap) [.Name z Q] [] A) f) (rJ i j r):=λF S ε σ H D rl h=>by
 have n:aP [b,.List [] g] X.env=[(aj,aL b X.env),(aj,aL (.List [] g) X.env)]:=by rw[iV s1];rfl
 have m:M2 X (.Name y B) "setdefault" v b (.List [] g) s:=⟨h1,by rw[n];rfl,h3,by rw[n];rfl⟩
 unfold rJ at h;cases e0:mH ε i with
 |none=>rw[e0]at h;exact h.elim
 |some kvs0=>
  rw[e0]at h;simp only[cf,R.bind_ok]at h;obtain⟨a,Z,as0,t5,_⟩:=rl.own i _ (r8 e0);refine eQ (vC (zq EY PySem.F.slot_list_append PySem.F.type_list_append yK (J9 (eu hN dY hd bc) bz m) (ip (eu hNz hvz hdz hcz) i6 rfl) k1 k2 k3 rfl k5) hs) ⟨.ref a,Z,a,rfl,.inl ⟨_,.inl t5⟩,?_⟩;refine hb F S ε σ H _ rl (h.bindE.imp λk ε1 F1 S1 H1 r1 g1 q u ru=>?_);cases P:mH ε1 i with
  |none=>rw[P]at q;exact q.elim
  |some C=>
   rw[P]at q;simp only[cf,R.bind_ok]at q;cases e2:ge k with
   |none=>rw[e2]at q;exact q.elim
   |some K=>
    rw[e2]at q;simp only[cf,R.bind_ok]at q;split at q
    .rename_i x ex;split at q
     .rename_i T;rw[so ru e2];unfold sy at T;rw[dW,decide_eq_true_iff,gK]at T;obtain⟨a',O,as,M,W,nd,na,hS⟩:=r1.own i _ (r8 P);rw[Z]at O;cases O;obtain⟨I,N,J⟩:=r1.val j x ex;intro l Y;have eE:a≠l:=λz=>by rw[z,Y]at M;cases M
      have bu:=W.len;rw[bO]at bu;have hzl:(fe C as).length<a6:=by unfold fe;rw[List.length_zip,bO];exact wF (Nat.min_le_left _ _) (eV T.1 jy)
      refine⟨fe C as,K,by rw[bj eE];exact M,rfl,hzl,λw G=>?_,λG=>?_⟩
      .rcases xD K bu with⟨jj,xs,bb,f1,f2,f3,f4⟩|⟨f1,_⟩
       .rw[f3]at G;cases G;obtain⟨b',vs,f5,f6,f7⟩:=W.get f1;rw[f2]at f5;cases f5;have al:Al F1 F1 H1 (upd H1 l (.lst [])):=Al.new0 Y;have r2:=r1.al al;have hbl:bb≠l:=λz=>by rw[z,Y]at f6;cases f6
        have L:upd H1 l (.lst []) bb=aa (.lst vs):=by rw[bj hbl];exact f6
        obtain⟨q1,q2⟩:=f4 x;have ue:=al.rep J;obtain⟨r3,g3⟩:=r2.updDL (r8 P) Z (by rw[bj eE];exact M) (W.mono (λ_ _ z=>al.reps z) λc o hc w=>al.same _ _ w) nd na hS f2 q1 q2 ((al.reps f7).app (.one ue));have hxl:xs.length<bQ:=by obtain⟨p,hp,rfl⟩:=bJ.mp (z6 f1);exact of_decide_eq_true (T.2 p hp)
        refine⟨.inl ⟨rfl,_,cb.of L⟩,I,N,bb,vs,I,rfl,rfl,L,by rw[f7.len];exact eV hxl jy,?_⟩;exact q F1 S1 σ _ r3 (al.grow.trans g3) (ig.refl _ _)
       .rw[f1]at G;cases G
      .rcases xD K bu with⟨jj,xs,bb,f1,f2,f3,f4⟩|⟨_,f2⟩
       .rw[f3]at G;cases G
       .obtain⟨q1,q2⟩:=f2 x l;have ud:upd (upd H1 l (.lst [])) a (.dK (eC (fe C as) K (.ref l))) l=aa (.lst []):=by rw[bj (d_ eE)];exact bT
        obtain⟨S',r3,g3⟩:=r1.newDL (xs:=[x]) (vs:=[I]) (ws':=eC (fe C as) K (.ref l)) (r8 P) Z M W nd na hS Y (by rw[HP _ G];exact q1) q2 (.one J);refine⟨.inl ⟨rfl,_,cb.of ud⟩,I,N,l,[],I,rfl,rfl,ud,by rw[oi];simp,?_⟩;exact q F1 S' σ _ r3 g3 (ig.refl _ _)
     .exact q.elim
    .exact q.elim
end
end Pu
local macro_rules | `(⇑$x) => `(.val (.int $x))
local macro_rules | `(↥$x) => `(.val (.str $x))
namespace Sh
open L2 Pu
set_option genInjectivity false in
structure Ad where
 SlitError:ac
 NoText:ac
 NoWidth:ac
 NoView:ac
 NoWindow:ac
 Never:ac
 Full:ac
 Nothing:ac
 Unlike:ac
 NoPlace:ac
 NoLetters:ac
 BadText:ac
 Seeker:ac
 Slit:ac
def yak(a:Ad):af->R aG:=a_ (dL pw (aq (dF (bK [1] (bp (dV 0)) (bP) (d2 (oU aj) (dV 0) (dV 1)))) (ax)))
def v9(a:Ad):af->R Slot:=bh 2 [] (a5 0 (yak a))
def yan(a:Ad):af->R aG:=a_ (kY (dL iG (aq (dV 0) (aq (dC (.raw (.ty "int"))) (ax)))) (D7 (dL iG (aq (dV 0) (aq (dC (.raw (.ty "bool"))) (ax))))))
def uF(a:Ad):af->R Slot:=bh 1 [] (a5 0 (yan a))
def yao(a:Ad):af->R aG:=a_ (kY (az (aC (uF a) (gV (dV 0) (bH)))) (rM (b0 λi j=>decide (i<=j)) (b0 λi j=>decide (i<=j)) (dC (.int 1)) (dV 0) (dC (.int 4))))
def pP(a:Ad):af->R Slot:=bh 1 [] (a5 0 (yao a))
def yap(a:Ad):af->R aG:=a_ (kY (dL iG (aq (dV 0) (aq (dC (.raw (.ty "str"))) (ax)))) (kY (d2 (eqT aj) (dL aN (aq (dV 0) (ax))) (dV 1)) (az (aC (v9 a) (gV (dV 0) (gV (dV 2) (bH)))))))
def pI(a:Ad):af->R Slot:=bh 3 [] (a5 0 (yap a))
def yah(a:Ad):af->R aG:=aH (bA (kT (iX (dB (dL iG (aq (dV 0) (aq (dC (.raw (.ty "tuple"))) (ax)))))) (iX (dB (rM (b0 λi j=>decide (i<=j)) (b0 λi j=>decide (i<=j)) (dC (.int 1)) (dL aN (aq (dV 0) (ax))) (dC (.int 9)))))) (a_ (dC (.bl aj))) (cg))
 (aH (bA (iX (dB (dL pw (aq (dF (bK [1,2] (bp (dV 0)) (bP) (az (aC (pI a) (gV (dV 0) (gV (dV 1) (gV (dV 2) (bH)))))))) (ax))))) (a_ (dC (.bl aj))) (cg))
 (a_ (d2 (eqT aj) (dF (dL jM (aq (dV 0) (ax)))) (dF (dL lw (aq (dV 0) (ax)))))))
def mC(a:Ad):af->R Slot:=bh 3 [] (a5 0 (yah a))
def yam(a:Ad):af->R aG:=aH (bA (kT (iX (dB (dL iG (aq (dV 0) (aq (dC (.raw (.ty "tuple"))) (ax)))))) (dB (d2 (eqT ah) (dL aN (aq (dV 0) (ax))) (dC (.int 2))))) (a_ (dC (.bl aj))) (cg))
 (a_ (kY (az (aC (pP a) (gV (d2 bB (dV 0) (dC (.int 0))) (bH)))) (az (aC (mC a) (gV (d2 bB (dV 0) (dC (.int 1))) (gV (d2 bB (dV 0) (dC (.int 0))) (gV (dV 1) (bH))))))))
def pj(a:Ad):af->R Slot:=bh 2 [] (a5 0 (yam a))
def yal(a:Ad):af->R aG:=oQ (aC (pj a) (gV (dV 0) (gV (dC (.str [97,98,99])) (bH))))
def vF(a:Ad):af->R Slot:=bh 1 [] (a5 0 (yal a))
def yai(a:Ad):af->R aG:=bA (iX (dB (az (aC (vF a) (gV (dV 0) (bH)))))) (uS (.ref a.NoView) (λb=>bg ((dC (.str [97,32,118,105,101,119,32,105,115,32,97,32,116,117,112,108,101,32,111,102,32,97,32,119,105,100,116,104,32,97,110,100,32,97,32,114,105,115,105,110,103,32,116,117,112,108,101,32,111,102,32,49,32,116,111,32,57,32,119,105,110,100,111,119,115])) b))) (cg)
def uZ(a:Ad):af->R Slot:=bh 1 [] (a5 0 (yai a))
def yaj(a:Ad):af->R aG:=aH (gg 1 (yu))
 (aH (λb=>cq (c6 2 (bp (dV 0)) (kU 1 (dV 2) (d2 a9 (lH 1 (dV 2) (dC (.int 0))) (dC (.int 1)))) b))
 (pC 1))
def sE(a:Ad):af->R Slot:=bh 1 [] (a5 2 (yaj a))
def yaf(a:Ad)(c:af->R Slot):af->R aG:=aH (bA (iX (dB (rO 2))) (aH (mz 3 (dV 0)) (Ep (.ret (.val .non)))) (cg))
 (aH (bd 4 (c5 cF (dV 0) (cG (d2 a9 (d2 eT (dL aN (aq (dV 0) (ax))) (dV 1)) (dC (.int 1)))) (eK)))
 (λb=>cq (c6 5 (bp (dC (.str [97,98,99]))) (aH (bd 6 (d2 a9 (dV 4) (dV 5)))
 (bA (dB (d2 (b0 λi j=>decide (j<i)) (lH 2 (dV 6) (dC (.int 0))) (dC (.int 0)))) (aH (kU 2 (dV 6) (d2 eT (iD 2 (dV 6)) (dC (.int 1))))
 (aH (pR (aC (c) (gV (d2 a9 (dV 0) (dV 5)) (gV (dV 1) (gO 2 (gO 3 (bH)))))))
 (kU 2 (dV 6) (d2 a9 (iD 2 (dV 6)) (dC (.int 1)))))) (cg))) b)))
def mP(a:Ad):Nat->af->R Slot
 |0=>bh 4 [2,3] (a5 3 ve)
 |k+1=>bh 4 [2,3] (a5 3 (yaf a (mP a k)))
def yaH(a:Ad):af->R aG:=aH (pR (aC (uZ a) (gV (dV 0) (bH))))
 (aH (bd 1 (d2 bB (dV 0) (dC (.int 0))))
 (aH (gg 2 (dL dz (ax)))
 (aH (λb=>cq (c6 3 (bp (dF (dL rT (aq (dF (bK [] (bp (d2 bB (dV 0) (dC (.int 1)))) (bP) (c5 cF (dV 0) (eK) (cG (d1 jw (dC (.int 1))))))) (ax))))) (pR (kX (mP a 12) (lq (dV 3) (lq (dV 1) (gN (rQ (aC (sE a) (gV (d2 bB (dV 0) (dC (.int 1))) (bH)))) (gO 2 (bH))))))) b))
 (pC 2))))
def vW(a:Ad):af->R Slot:=bh 1 [] (a5 3 (yaH a))
def yat(a:Ad):af->R aG:=aH (bA (dB (d2 (b0 λi j=>decide (i<j)) (dV 1) (dL aN (aq (dV 0) (ax))))) (a_ (d2 bB (dV 0) (dV 1))) (cg))
 (aH (bA (dB (d2 (eqT aj) (dV 0) (dF (dL dz (ax))))) (a_ (dC (.int 0))) (cg))
 (a_ (d2 a9 (d2 jT (d2 bB (dV 0) (d2 gy (dV 1) (dL aN (aq (dV 0) (ax))))) (dC (.int 31))) (dV 1))))
def pe(a:Ad):af->R Slot:=bh 2 [] (a5 0 (yat a))
def yay(a:Ad):af->R aG:=aH (bd 3 (d2 gy (d2 a9 (d2 a9 (d2 jT (az (aC (pe a) (gV (dV 0) (gV (dV 1) (bH))))) (dC (.int 1103515245))) (d2 jT (dC (.int 7919)) (dV 1))) (dC (.int 12345))) (dC (.int 2147483647))))
 (a_ (d2 gy (d2 gy (d2 gy (d2 rG (dV 3) (dC (.int 5))) (dC (.int 2147483647))) (dC (.int 999983))) (dV 2)))
def v7(a:Ad):af->R Slot:=bh 3 [] (a5 1 (yay a))
def yau(a:Ad):af->R aG:=aH (mz 1 (dC (.int 0)))
 (oQ (aC (v7 a) (gV (dV 0) (gV (vJ (λb=>mn (aN b)) 1) (gV (dV 2) (bH))))))
def kC(a:Ad):af->R Slot:=bh 3 [1] (a5 0 (yau a))
def yaA(a:Ad):af->R aG:=a_ (d2 bB (dV 2) (az (aC (kC a) (gV (dV 0) (gO 1 (gV (dL aN (aq (dV 2) (ax))) (bH)))))))
def jJ(a:Ad):af->R Slot:=bh 3 [1] (a5 0 (yaA a))
def yaC(a:Ad):af->R aG:=aH (bd 4 (az (aC (jJ a) (gV (dV 0) (gO 1 (gV (dF (dL dz (aq (dC (.int 1)) (aq (dC (.int 2)) (aq (dC (.int 2)) (aq (dC (.int 3)) (aq (dC (.int 3)) (aq (dC (.int 3)) (ax))))))))) (bH)))))))
 (aH (bd 5 (dC (.str [])))
 (aH (λb=>cq (c6 6 (dL fj (aq (d2 a9 (dV 2) (az (aC (kC a) (gV (dV 0) (gO 1 (gV (d2 a9 (d2 eT (dV 3) (dV 2)) (dC (.int 1))) (bH))))))) (ax))) (bd 5 (d2 a9 (dV 5) (d2 bB (dC (.str [97,98,99])) (az (aC (kC a) (gV (dV 0) (gO 1 (gV (dV 4) (bH))))))))) b))
 (a_ (dV 5))))
def mf(a:Ad):af->R Slot:=bh 4 [1] (a5 3 (yaC a))
def yaB(a:Ad):af->R aG:=a_ (dL iB (aq (dF (dL lw (aq (dF (bK [0,1] (dL fj (aq (dL aN (aq (dV 0) (ax))) (ax))) (dB (d2 (b0 λi j=>decide (i<=j)) (d2 a9 (dV 0) (dV 2)) (dL aN (aq (dV 1) (ax))))) (c5 cF (dV 1) (cG (dV 0)) (cG (d2 a9 (dV 0) (dV 2)))))) (ax)))) (ax)))
def im(a:Ad):af->R Slot:=bh 2 [] (a5 0 (yaB a))
def yaD(a:Ad):af->R aG:=aH (bd 3 (az (aC (im a) (gV (dV 0) (gV (dV 1) (bH))))))
 (a_ (dL pw (aq (dF (bK [3,2] (bp (dV 3)) (bP) (d2 (b0 λi j=>decide (i<=j)) (oX nL (dV 1) (dV 0)) (oX nL (dV 2) (dV 0))))) (ax))))
def mM(a:Ad):af->R Slot:=bh 3 [] (a5 1 (yaD a))
def yar(a:Ad):af->R aG:=aH (jN 1 2 (dV 0))
 (aH (bd 3 (dF (dL dz (aq (dC (.str [])) (ax)))))
 (aH (λε=>cq (c6 4 (dL fj (aq (d2 eT (d2 a9 (dL aN (aq (dV 2) (ax))) (dV 1)) (dC (.int 1))) (ax))) (aH (gg 5 (dL dz (ax)))
 (aH (c6 6 (bp (dV 3)) (nW 5 (dF (bK [6,1,2] (bp (dC (.str [97,98,99]))) (dB (az (aC (mM a) (gV (d2 a9 (dV 1) (dV 0)) (gV (dV 2) (gV (dV 3) (bH))))))) (d2 a9 (dV 1) (dV 0))))))
 (bd 3 (dM 5)))) ε))
 (jH (bK [1,2] (bp (dV 3)) (dB (d2 (eqT aj) (az (aC (im a) (gV (dV 0) (gV (dV 1) (bH))))) (dV 2))) (dV 0)))))
def lg(a:Ad):af->R Slot:=bh 1 [] (a5 6 (yar a))
def yax(a:Ad):af->R aG:=aH (bd 4 (d2 a9 (dC (.int 1)) (az (aC (jJ a) (gV (dV 0) (gO 1 (gV (dF (dL dz (aq (dC (.int 1)) (aq (dC (.int 1)) (aq (dC (.int 2)) (aq (dC (.int 2)) (aq (dC (.int 3)) (ax)))))))) (bH))))))))
 (aH (bd 5 (az (aC (mf a) (gV (dV 0) (gO 1 (gV (dV 2) (gV (dC (.int 4)) (bH))))))))
 (aH (λb=>cq (fk (dB (d2 (b0 λi j=>decide (i<j)) (dL aN (aq (dV 5) (ax))) (d2 eT (dV 3) (dC (.int 2))))) (bd 5 (d2 a9 (dV 5) (az (aC (jJ a) (gV (dV 0) (gO 1 (gV (dF (dL dz (aq (c5 cF (dV 5) (eK) (cG (dC (.int 2)))) (aq (c5 cF (dV 5) (eK) (cG (dC (.int 3)))) (aq (c5 cF (dV 5) (cG (dC (.int 1))) (cG (dC (.int 3)))) (aq (dC (.str [97])) (aq (dC (.str [98])) (aq (c5 cF (dV 5) (cG (d1 jw (dC (.int 2)))) (eK)) (ax))))))))) (bH)))))))) 1000 b))
 (a_ (dL eR (aq (c5 cF (dV 5) (eK) (cG (dL rZ (aq (dV 4) (aq (d2 eT (dV 3) (az (aC (kC a) (gV (dV 0) (gO 1 (gV (dC (.int 3)) (bH))))))) (ax)))))) (aq (dV 4) (ax)))))))
def k8(a:Ad):af->R Slot:=bh 4 [1] (a5 2 (yax a))
def yaI(a:Ad):af->R aG:=a_ (dL iB (aq (dF (bK [1,2] (bp (dV 0)) (dB (d2 (eqT aj) (d2 bB (dV 0) (dV 1)) (dV 2))) (dV 0))) (ax)))
def i4(a:Ad):af->R Slot:=bh 3 [] (a5 0 (yaI a))
def yag(a:Ad):af->R aG:=jH (bK [0,1] (bp (dC (.str [97,98,99]))) (dB (d2 (b0 λi j=>decide (j<i)) (dL aN (aq (az (aC (i4 a) (gV (dV 1) (gV (dV 2) (gV (dV 0) (bH)))))) (ax))) (dC (.int 0)))) (dV 0))
def jQ(a:Ad):af->R Slot:=bh 2 [] (a5 0 (yag a))
def yaG(a:Ad):af->R aG:=jH (bK [0] (dL fj (aq (dL aN (aq (d2 bB (dV 0) (dC (.int 0))) (ax))) (ax))) (dB (d2 (b0 λi j=>decide (j<i)) (dL aN (aq (az (aC (jQ a) (gV (dV 1) (gV (dV 0) (bH))))) (ax))) (dC (.int 1)))) (dV 0))
def jv(a:Ad):af->R Slot:=bh 1 [] (a5 0 (yaG a))
def yaE(a:Ad)(b:af->R Slot):af->R aG:=aH (bd 3 (dF (bK [1,0] (bp (az (aC (jQ a) (gV (dV 1) (gV (dV 0) (bH)))))) (bP) (az (aC (i4 a) (gV (dV 1) (gV (dV 2) (gV (dV 0) (bH)))))))))
 (a_ (d2 a9 (dC (.int 1)) (dL nX (aq (dF (bK [2] (bp (dV 3)) (bP) (az (aC (b) (gV (dV 0) (gO 1 (bH))))))) (ax)))))
def jo(a:Ad)(rc:af->R Slot):af->R Slot:=bh 3 [2] (a5 1 (yaE a rc))
def yaF(a:Ad)(rc:af->R Slot):af->R aG:=aH (bA (dB (d2 (eqT aj) (dL aN (aq (dV 0) (ax))) (dC (.int 1)))) (a_ (dC (.int 0))) (cg))
 (aH (bA (dB (lv ah 1 (dV 0))) (rq 1 (dV 0) (dL pQ (aq (dF (bK [0,1] (bp (az (aC (jv a) (gV (dV 0) (bH))))) (bP) (az (aC (jo a rc) (gV (dV 0) (gV (dV 1) (gO 2 (bH)))))))) (ax)))) (cg))
 (a_ (pZ 1 (dV 0))))
def fM(a:Ad):Nat->af->R Slot
 |0=>bh 2 [1] (a5 0 ve)
 |k+1=>bh 2 [1] (a5 0 (yaF a (fM a k)))
def yav(a:Ad):af->R aG:=aH (jN 2 3 (az (aC (k8 a) (gV (dV 0) (gO 1 (gV (dC (.int 2)) (gV (dC (.int 8)) (bH))))))))
 (aH (bd 4 (dL eR (aq (dV 3) (aq (az (aC (im a) (gV (dV 2) (gV (dV 3) (bH))))) (ax)))))
 (aH (bd 5 (az (aC (lg a) (gV (dV 4) (bH)))))
 (aH (λb=>cq (fk (dB (d2 (b0 λi j=>decide (j<i)) (dL aN (aq (dV 5) (ax))) (dC (.int 16)))) (aH (bd 4 (bA (dB (d2 (b0 λi j=>decide (i<j)) (dV 3) (dC (.int 4)))) (dL eR (aq (d2 a9 (dV 3) (dC (.int 1))) (aq (az (aC (im a) (gV (dV 2) (gV (d2 a9 (dV 3) (dC (.int 1))) (bH))))) (ax)))) (dL eR (aq (dC (.int 1)) (aq (dL eR (aq (dC (.str [97])) (ax))) (ax))))))
 (aH (bd 3 (d2 bB (dV 4) (dC (.int 0))))
 (bd 5 (az (aC (lg a) (gV (dV 4) (bH))))))) 1000 b))
 (a_ (dL eR (aq (dV 4) (aq (dV 5) (ax))))))))
def rH(a:Ad):af->R Slot:=bh 2 [1] (a5 4 (yav a))
def yaz(a:Ad):af->R aG:=aH (gg 2 rj)
 (aH (λb=>cq (c6 3 (bp (dV 0)) (rJ 2 3 (d2 bB (dV 3) (dV 1))) b))
 (rR 2 (jH (bK [2] (bp (dF (dL lw (aq (dF (ri 2)) (ax))))) (bP) (iD 1 (dV 0))))))
def mx(a:Ad):af->R Slot:=bh 2 [] (a5 2 (yaz a))
def yas(a:Ad)(rc:af->R Slot):af->R aG:=aH (bA (dB (d2 (eqT aj) (dL aN (aq (dV 0) (ax))) (dC (.int 1)))) (a_ (dC (.bl ah))) (cg))
 (aH (bA (dB (d2 (eqT aj) (dV 1) (dC (.int 0)))) (a_ (dC (.bl aj))) (cg))
 (aH (λb=>cq (c6 2 (dL fj (aq (dL aN (aq (d2 bB (dV 0) (dC (.int 0))) (ax))) (ax))) (aH (bd 3 (az (aC (mx a) (gV (dV 0) (gV (dV 2) (bH))))))
 (bA (gT (dB (d2 (b0 λi j=>decide (j<i)) (dL aN (aq (dV 3) (ax))) (dC (.int 1)))) (dB (d2 (eqT aj) (dF (bK [1] (bp (dV 3)) (iX (dB (az (aC (rc) (gV (dV 0) (gV (d2 eT (dV 1) (dC (.int 1))) (bH))))))) (dV 0))) (dF (dL dz (ax)))))) (a_ (dC (.bl ah))) (cg))) b))
 (a_ (dC (.bl aj)))))
def jS(a:Ad):Nat->af->R Slot
 |0=>bh 2 [] (a5 2 ve)
 |k+1=>bh 2 [] (a5 2 (yas a (jS a k)))
def yaw(a:Ad):af->R aG:=a_ (d2 bB (dF (bK [0] (dL fj (aq (dL aN (aq (dV 0) (ax))) (ax))) (dB (az (aC (jS a 17) (gV (dV 1) (gV (dV 0) (bH)))))) (dV 0))) (dC (.int 0)))
def kZ(a:Ad):af->R Slot:=bh 1 [] (a5 0 (yaw a))
end Sh
namespace L2
open Mx SeqAt
section
variable{P:a4}{w:aT}{A:aX}{E:ai->am->Prop}{s:am}{q l I S:ac}{n:Nat}{a:Nat->ai->Prop}{kf:Nat->Int}{R:Result->am->Prop}{Q:ai->am->Prop}{J:Nat->am->Prop}
def AU(P:a4)(w:aT)(A:aX)(q I S:ac)(a:Nat->ai->Prop)(kf:Nat->Int)(J:Nat->am->Prop):Prop:=∀(i:Nat) (v:ai) (s:am) (d c:Obj),a i v->J i s->s.heap.get? I=aa d->s.heap.get? S=aa c->(∀z,d.data≠.cell z)->(∀z,c.data≠.cell z) ->
 aw (aA P w) A.in1 (call (.ref q) [v]) (λu b=>(∃t,u=.int (kf i) t)/\J (i+1) b/\b.heap.get? I=aa d/\b.heap.get? S=aa c) (λ_ _=>False) s
def rA(f:ac)(J:Nat->am->Prop):Prop:=∀(i:Nat) (s:am) (c:aF) (d:Nat),J i s->(∀b o,b≠f->s.heap.get? b=aa o->c.get? b=aa o)->J i {s with heap:=c,toks:=d}
structure HC(J:Nat->am->Prop)(l I S:ac)(a:Nat->ai->Prop)(kf:Nat->Int)(j i:Nat)(s:am):Prop where
 inv:J (j+1) s
 it:s.heap.IsListIter I l (j+1)
 st:∃vb t c,s.heap.get? S=aa (j3 "list" #[vb,.int (kf i) t] c)/\a i vb
 ij:i<=j
 best:∀j',j'<=j->kf i<=kf j'/\(j'<i->kf i<kf j')
def uY(l:ac)(n:Nat)(a:Nat->ai->Prop)(s:am):Prop:=∃b:List ai,b.length=n/\s.heap.IsList l b.toArray/\∀(i:Nat) v,b[i]?=aa v->a i v
theorem FK(hh:A.handled=ae)(uf:l≠I)(N:S≠I)(hl:∀i s,J i s->uY l n a s)(mI:rA I J)(mS:rA S J)(B:AU P w A q I S a kf J)(hR:∀i v s',a i v->(∀j,j<n->kf i<=kf j/\(j<i->kf i<kf j))->J n s'->R (.ok (.ret v)) s'):∀(r j i:Nat) (s:am),n-(j+1)=r->j+1<=n->HC J l I S a kf j i s->kG (aA P w) A (.builtin "min.loop" ⟨[.ref I,.ref q,.ref S],[]⟩) R s:=by
 have tt:(toString "min"++toString ".loop" : String) = "min.loop":=by decide
 intro r
 induction r with
 |zero=>
  intro j i s hr hj M;obtain⟨L,t,c,G,g⟩:=M.st;obtain⟨d,rfl,p,F⟩:=hl _ _ M.inv;have W:=qc (prog:=P) (w:=w) (A:=A.in1) hh I l uf d.toArray;have m:d.toArray.size=d.length:=cD ..;have bu:d.length=j+1:=∅
  refine ng E2 ?_;rw[ou qp _];refine au (Aj G rfl ?_);refine au (tj (W.done _ _ _ ⟨by rw[m,bu];exact M.it,p⟩ λh' O qI=>?_));have J1:=mI (j+1) s h' O M.inv λb o n e=>qI b o (by simpa using n) e;have K:=ot h' S (kK λ_=>(#[]:Array ai));refine au ?_;refine wpAny_updateSeq (qI S _ (by simpa using N) G) rfl (au (At (aQ ?_)));refine hR i L _ g (λf D=>M.best f ∅) ?_;rw[bu];exact mS (j+1) _ _ _ J1 λb o n e=>(K.2 b n).trans e
 |succ r ih=>
  intro j i s hr hj M;obtain⟨L,t,c,G,g⟩:=M.st;obtain⟨d,rfl,p,F⟩:=hl _ _ M.inv;have W:=qc (prog:=P) (w:=w) (A:=A.in1) hh I l uf d.toArray;have m:d.toArray.size=d.length:=cD ..;have Z:j+1<d.length:=∅
  refine ng E2 ?_;rw[ou qp _];refine au (Aj G rfl ?_);refine au (tj (W.item (j+1) _ _ _ (by rw[m];exact Z) ⟨M.it,p⟩ λv h1 C hP fD uh=>?_));have hv:a (j+1) v:=F _ _ (by simpa using hP);obtain⟨X,eI,oF,T⟩:=id fD.1;have J1:=mI (j+1) s h1 C M.inv λb o n e=>uh b o (by simpa using n) e;have Y:=uh S _ (by simpa using N) G;refine au (tj (lV (eW (B (j+1) v {s with heap:=h1,toks:=C} X _ hv J1 eI Y (λz=>by rw[T];exact nofun) (λz=>nofun)) (λu s2 he=>?_) λ_ _ hF=>hF.elim)));obtain⟨⟨y,rfl⟩,J2,H,x⟩:=he;refine au (tj (lV (au (CmpOf.ints_lt (prog:=P) (w:=w) (A:=A.in1) (P:=λi v=>∃t,v=.int (kf i) t) kf (λi v h=>h) (j+1) i _ _ _ _ _ ⟨y,rfl⟩ ⟨t,rfl⟩ ?_))));refine au (lV (lQ ?_));refine au (At (aQ ?_));by_cases qK:kf (j+1)<kf i
  .have K:=ot s2.heap S (kK λ_=>#[v,.int (kf (j+1)) y]);obtain⟨c2,nk⟩:∃c2,(s2.heap.update S (kK λ_=>#[v,.int (kf (j+1)) y])).get? S=aa (j3 "list" #[v,.int (kf (j+1)) y] c2):=⟨_,Ak x λ_=>#[v,.int (kf (j+1)) y]⟩
   simp only[qK,decide_true,if_true];refine au ?_;refine wpAny_updateSeq x rfl (au (At ?_));rw[tt];refine aQ ⟨ox qp _,ih (j+1) (j+1) _ ∅ Z ⟨mS _ _ _ _ J2 λb o n e=>(K.2 b n).trans e,⟨X,(K.2 I N.symm).trans H,oF,T⟩,⟨v,y,c2,nk,hv⟩,ba _,λf D=>?_⟩⟩;by_cases e:f=j+1
   .subst e;exact⟨∅,λ_=>∅⟩
   .have hb1:=(M.best f ∅).1;exact⟨∅,λ_=>∅⟩
  .simp only[qK,decide_false,wL,if_false];refine au (At ?_);rw[tt];refine aQ ⟨ox qp _,ih (j+1) i _ ∅ Z ⟨J2,⟨X,H,oF,T⟩,⟨L,t,c,x,g⟩,by have:=M.ij;lia,λf D=>?_⟩⟩;by_cases e:f=j+1
   .subst e;have:=M.ij;exact⟨∅,λ_=>∅⟩
   .exact M.best f ∅
theorem iA(hh:A.handled=ae)(ca:0<n)(d:uY l n a s)(m:s.heap.objs.size=I)(hS:I+1=S)(hl:∀i s,J i s->uY l n a s)(mI:rA I J)(mS:rA S J)(c:AU P w A q I S a kf J)(start:∀(h':aF) (tk:Nat),(∀b o,s.heap.get? b=aa o->h'.get? b=aa o)->J 0 {s with heap:=h',toks:=tk})(hQ:∀i v Y,a i v->(∀j,j<n->kf i<=kf j/\(j<i->kf i<kf j))->J n Y->Q v Y):aw (aA P w) A (call (.builtin "min") [.ref l] [(cn "key",.ref q)]) Q E s:=by
 have O:(toString "min"++toString ".loop" : String) = "min.loop":=by decide
 obtain⟨p,rfl,d,G⟩:=d;refine kmk_tree PySem.F.kind_min PySem.F.plain_min PySem.F.entry_min (kmk_min_key _ _) ?_;refine au (wpAny_of_eq (show Builtin.Builtins.bindParams "min" ["key","default"] 0 ⟨[],[(cn "key",.ref q)]⟩=pure [aa (.ref q),ae] from rfl) ?_);refine au (aQ ?_);refine au (qb d ?_);refine au (wpAny_newList ?_ (iN _));rw[O];rw[m];generalize F:s.heap.push {cls:=.type "list_iterator",data:=.fields #[.ref l,.int 0 0]}=g1;have D:g1.get? I=aa {cls:=.type "list_iterator",data:=.fields #[.ref l,.int 0 0]}:=by rw[<-F,<-m];exact cj _ rfl
 have C:∀b o,s.heap.get? b=aa o->g1.get? b=aa o:=λb o e=>by rw[<-F];exact bf _ e
 have N:g1.objs.size=S:=by rw[<-F,<-hS,<-m];exact jf ..
 rw[N];have M:l≠I:=λz=>by obtain⟨o,e,_⟩:=d;exact absurd (br e) (by rw[z,m];exact d9 _)
 have x:S≠I:=λz=>by rw[<-hS]at z;exact Nat.succ_ne_self _ z
 refine aQ ⟨ox qp _,?_⟩;have k0:∀b o,s.heap.get? b=aa o->(g1.push (j3 "list" #[] 0)).get? b=aa o:=λb o e=>bf _ (C b o e);have gS:(g1.push (j3 "list" #[] 0)).get? S=aa (j3 "list" #[] 0):=by rw[<-N];exact cj _ rfl
 have gI:(g1.push (j3 "list" #[] 0)).get? I=aa {cls:=.type "list_iterator",data:=.fields #[.ref l,.int 0 0]}:=bf _ D;have W:=qc (prog:=P) (w:=w) (A:=A.in1) hh I l M p.toArray;have B:p.toArray.size=p.length:=cD ..;have J0:=start (g1.push (j3 "list" #[] 0)) s.toks k0;refine ng E2 ?_;rw[ou qp _];refine au (Aj gS rfl ?_);refine au (tj (W.item 0 _ _ _ (by rw[B];exact ca) ⟨⟨_,gI,rfl,rfl⟩,(let ⟨o,e,r⟩:=d;⟨o,k0 _ _ e,r⟩)⟩ λv h1 y hP fD L=>?_));have hv:a 0 v:=G _ _ (by simpa using hP);obtain⟨oI,eI,oF,Z⟩:=id fD.1;have J1:=mI 0 _ h1 y J0 λb o n e=>L b o (by simpa using n) e;have H:=L S _ (by simpa using x) gS;refine au (tj (lV (eW (c 0 v _ oI _ hv J1 eI H (λz=>by rw[Z];exact nofun) (λz=>nofun)) (λu T he=>?_) λ_ _ hF=>hF.elim)));obtain⟨⟨f,rfl⟩,J2,K,g⟩:=he;have X:=ot T.heap S (kK λ_=>#[v,.int (kf 0) f]);obtain⟨c2,nk⟩:∃c2,(T.heap.update S (kK λ_=>#[v,.int (kf 0) f])).get? S=aa (j3 "list" #[v,.int (kf 0) f] c2):=⟨_,Ak g λ_=>#[v,.int (kf 0) f]⟩
 refine au ?_;refine wpAny_updateSeq g rfl ?_;rw[O];refine aQ ⟨ox qp _,FK hh M x hl mI mS c hQ _ 0 0 _ rfl ca ⟨mS _ _ _ _ J2 λb o n e=>(X.2 b n).trans e,⟨oI,(X.2 _ x.symm).trans K,oF,Z⟩,⟨v,f,c2,nk,hv⟩,ba _,λj' hj'=>?_⟩⟩;obtain rfl:j'=0:=∅
 exact⟨∅,λh=>∅⟩
end
open Att
def yv(X:Cx)(a:c8)(b:Str)(f:ac)(c:ai)(s:am):Env:=newEnv a s.heap.objs.size b_ (fK X.env a.names []) b (aa f) c ae mV
def nZ(X:Cx)(A:aX)(a:c8)(d:List Str)(b:Str)(f:ac)(c:ai)(s:am)(H:Hp):Cx where
 prog:=X.prog
 w:=X.w
 K:=X.K
 mg:=X.mg
 base:=X.base
 A:=A.deeper (yv X a b f c s)
 N:=d
 s₀:=s
 H₀:=H
 env:=yv X a b f c s
 outer:=X.stack
 stack:=yv X a b f c s::X.stack
 ex:=[]
 fn:=λ_=>aj
 calm:=ah
 pn:=[]
 xe:=λ_ _=>False
section
variable{X:Cx}{C:List (ac×Obj)}{m:St}{H:Hp}{s:am}{a:c8}{x:Str}{n:List Str}{g:List Nat}{A:aX}{d:Str}{f:ac}{D:ai}
theorem Inv.lam{q:aF}{t':Nat}{v:V}{u:ai}(I:Inv X C m H s)(B:gA X a x n g)(nc:∀z∈a.names,z.2≠.cell)(lx:a.names.lookup x=aa .local)(hA:A.handled=ae)(hf:A.frames=aa X.stack)(r:RelV v u)(jF:q.Ns s.heap.objs.size (λy=>[(x,u)].reverse.lookup y)) (E:∀b o,s.heap.get? b=aa o->q.get? b=aa o):Inv (nZ X A a n d f D s H) [] (aa v::eA m g) H {s with heap:=q,toks:=t'}:=by
 have F:∀y,a.names.lookup y=aa .free->∃c,(fK X.env a.names []).lookup y=aa c:=λy h=>uu a.names [] (C6 h);refine⟨⟨I.ok.mod,B.kind,rfl,rfl,ba _,λy z c h1 h2=>I.ok.inj y z c (I.clIn B h1) (I.clIn B h2),λy K=>?_,λy c h _=>(nomatch h),λ_=>hA,Around.frames_deeper hf,.inr ⟨rfl,rfl⟩,λb G=>(nomatch G),λb o e=>I.bs b o e,c4 I.ok.bsz I.sz,λb o _ G=>(nomatch G),λb G=>(nomatch G),I.stack,(λb G=>I.stkFree b G),I.tab⟩,rfl,I.bare,Un.kept E,⟨_,jF,λi y w Y W e3=>?_⟩,λy c h=>?_,I.hok.fresh (ba _),λy c h=>I.freeC y c (I.clIn B h),λp hp=>(nomatch hp),I.hok.kept E,?_⟩
 .rcases K with K|K
  .exact absurd rfl (nc _ (jd (show a.names.lookup y=aa .cell from K)))
  .exact F y K
 .cases i with
  |zero=>
   have hx:n[0]?=aa x:=by rw[<-List.head?_eq_getElem?];exact B.hd
   have ey:x=y:=eD (hx.symm.trans Y);subst ey;have ev:v=w:=by simpa using W
   subst ev;exact⟨u,r,.inl ⟨lx,by simp⟩⟩
  |succ i=>
   have J:(eA m g)[i]?=aa (aa w):=by simpa using W
   unfold eA at J;rw[iP]at J;cases N:g[i]? with
   |none=>rw[N]at J;cases J
   |some j=>
    rw[N]at J;have L:(m[j]?).join=aa w:=eD J;have T:m[j]?=aa (aa w):=by
     cases Q:m[j]? with
     |none=>rw[Q]at L;cases L
     |some o=>rw[Q]at L;exact congrArg aa L
    obtain⟨b1,b2⟩:=(B.caps i j y Y N).elim id λz=>by have:=(cI.mp T).1;rw[I.len]at this;exact absurd this (wG.mpr z.1)
    obtain⟨mm,hn,hl⟩:=I.loc;have P:=B.free _ (jd b2) rfl;obtain⟨Z,r',l⟩:=hl j y w b1 T (P.elim (λz=>.inr (.inl z)) λz=>.inr (.inr z));refine⟨Z,r',.inr ⟨.inr b2,?_⟩⟩;rcases l with⟨l,_⟩|⟨_,c,hc,qx⟩
    .rcases P with z|z <;> rw[l]at z <;> cases z
    .obtain⟨c',S⟩:=F y b2;have:=I.clIn B S;rw[hc]at this;cases this;obtain⟨o,M,O⟩:=qx;exact⟨c,S,o,E _ _ M,O⟩
 .obtain⟨w,o,M,O⟩:=I.cell y c (I.clIn B h);exact⟨w,o,E _ _ M,O⟩
 .show(aa v::eA m g).length=n.length;rw[B.len];simp[eA]
theorem GF{c:sR}{i:ay}{G K:ai}{F:ac}{v:V}{u:ai}{M:TE}{Q:V->Hp->Prop}(I:Inv X C m H s)(B:gA X a x n g)(N:∀z∈a.names,z.2≠.cell)(O:a.names.lookup x=aa .local)(co:a.isCoroutine=aj) (J:a.isGenerator=aj) (bind:∀(p d:Str) (i:ay) (cl:List (Str×ac)) (G aE ct v:ai),dU (PySem.W.kla_fn p d c i a cl G aE ct) ⟨[v],[]⟩=pure [(x,v)])(O5:A.depth<z0) (hA:A.handled=ae) (hf:A.frames=aa X.stack) (r:RelV v u)(Z:s.heap.get? f=aa (As "<lambda>" d c i a (fK X.env a.names []) G F K)) (bc:s.heap.CodeRec (.ref F) d)(he:PE (nZ X A a n (d++".<locals>.") f (.ref F) s H) i M) (h:M (aa v::eA m g) H Q):aw (aA X.prog X.w) A (call (.ref f) [u]) (λL s'=>∃y E,Inv X C m E s'/\Un (fh X.stack) [] H E s.heap s'.heap/\RelV y L/\Q y E) (λ_ _=>False) s:=by refine wpAny_call (PySem.W.kla_callFunE O5 Z rfl co J rfl bc ?_);rw[bind];refine aQ (wpAny_newFunctionEnv N (λz W=>by rw[gs.mp W];exact O) (λl T S=>?_) B.kind);have j:∀b o,s.heap.get? b=aa o->l.get? b=aa o:=λb o e=>(S.2 b (cT (br e))).trans (bf _ e);refine⟨I.nolimit.keeps j,PySem.W.kla_codeExpr ?_⟩;have I1:Inv (nZ X A a n (d++".<locals>.") f (.ref F) s H) [] (aa v::eA m g) H {s with heap:=l,toks:=s.toks + [(x,u)].length}:=I.lam B N O hA hf r T j;refine eW (he [] _ _ H Q I1 h) (λL s' Y=>?_) λ_ _ z=>z.elim;obtain⟨y,E,w,P,q⟩:=Y;exact⟨y,E,I.call' (s':=s') (ch:=[]) w.os w.base w.hok w.bare (λb hb=>(nomatch hb)),w.base,P,q⟩
end
def JS(d:List Nat)(l:TA)(h:TE):TE:=λf H Q=>l f H λm n=>∃(a:ac) (c:List V) (kf:Nat->Int) (W:Nat->Hp->Prop),m=[.ref a]/\c≠[]/\(∀g,(∀b o,n b=aa o->g b=aa o)->W 0 g)/\(∀i H,W i H->Rd H a (.lst c)) /\
 (∀i v H,c[i]?=aa v->W i H->h (aa v::eA f d) H λy p=>y=.int (kf i)/\W (i+1) p)/\∀i v H,c[i]?=aa v->(∀j,j<c.length->kf i<=kf j/\(j<i->kf i<kf j))->W c.length H->Q v H
section
variable{X:Cx}{m:List (ac×Obj)}{r:St}{H:Hp}{s:am}{d:c8}{x:Str}{D:List Str}{C:List Nat}
structure AN(X:Cx)(m:List (ac×Obj))(r:St)(W:Nat->Hp->Prop)(P c' I S f:ac)(q:Str)(fo oc:Obj)(i:Nat)(s:am):Prop where
 ex:∃H,Inv X m r H s/\W i H/\(∀b∈[I,S,f],iI X m H b)/\s.heap.get? f=aa fo/\H P=aa (.tbl q)/\H c'=aa (.own P)/\s.heap.get? c'=aa oc
theorem AN.move{W:Nat->Hp->Prop}{P v I S f:ac}{q:Str}{l oc:Obj}{a:ac}(b:a∈[I,S,f])(j:a≠f):rA a (AN X m r W P v I S f q l oc):=λi s B A ⟨H,y,w,c,e,p,o,g⟩ k=>by
 obtain⟨h,u,f2,f3,f4,n⟩:=c a b;exact⟨H,y.turned k h u f3 f4 n,w,c,k _ _ (d_ j) e,p,o,k _ _ (λz=>by rw[z,h]at o;cases o) g⟩
theorem My{n:Str}{l E:ay}{c P:ac}{g:sR}{p Y kp F:Pos}{ta:TA}{tl:TE}(hc:X.calm=ah)(hr:X.A.depth+1<z0)(LA:u6 X n c P)(hq:X.env.qual++"<lambda>"=n++".<locals>.<lambda>")(B:gA X d x D C) (nc:∀z∈d.names,z.2≠.cell) (lx:d.names.lookup x=aa .local)(co:d.isCoroutine=aj) (gen:d.isGenerator=aj) (bind:∀(T O:Str) (E:ay) (cl:List (Str×ac)) (pm aE ct v:ai),dU (PySem.W.kla_fn T O g E d cl pm aE ct) ⟨[v],[]⟩=pure [(x,v)])(tw:defaultsOf g X.env=([],[])) (hg:Gl X "min") (hm:X.mg "min"=ae) (hs:cm F (aP [l] X.env)=(aj,aL l X.env)::cm F (aP [] X.env)) (ce:(cm F (aP [l] X.env)).any (·.1)=aj) (ha:PA X [l] ta) (he:∀q f cd s H,PE (nZ X X.A.in1 d D q f cd s H) E tl):PE X (.Call (.Name "min" p) [l] [⟨aa "key",.Lambda g E d Y,kp⟩] F) (JS C ta tl):=by
 intro m s r H Q I h;refine wy (sr I hg hm (show dQ "min"=aa (.builtin "min") by kernel_rfl) ?_ (by decide) (by decide));refine callWith_kw (aR (ha F m s r H _ I h) λus s1 ⟨vs,H1,I1,r1,q⟩=>?_) (he:=hs) (hplain:=ce);obtain⟨a,xs,kf,W,rfl,ca,w0,wl,wt,wq⟩:=q;obtain⟨u,rfl⟩:∃u,us=[u]:=by
  cases r1 with
  |cons _ t=>cases t;exact⟨_,rfl⟩
 obtain rfl:u=.ref a:=by
  cases r1 with
  |cons z _=>exact z
 refine kws_cons (NA I1 LA hq (Ek (I1.freeHas B)) tw λf c' ctv H2 G M sub hf hfL wY hcL gL hfs tF=>kws_nil ?_);have w2:=w0 H2 sub;have tb:=M.tab n LA.mem c P LA.tab;obtain⟨cc,oc,vc,tc,zc,ec,rc⟩:=id wY;cases zc;have lst:∀{H':Hp}{s':am}{i:Nat},Inv X m r H' s'->W i H'->uY a xs.length (λi u=>∃v,xs[i]?=aa v/\RelV v u) s':=λ{H' s' i} I' w'=>by obtain⟨_,its,n0,rv,eL⟩:=(wl i H' w').ok I'.hok;exact⟨its,rv.length.symm,⟨_,eL,rfl,n0,rfl⟩,λj v Z=>DP rv Z⟩
 have hh:=M.ok.hd hc;obtain⟨fo,efo,hfo⟩:∃fo,G.heap.get? f=aa fo/\fo=_:=⟨_,hf,rfl⟩
 have fp1:iI X m H2 f:=I1.fpOk hfs tF;have Ft:f<G.heap.objs.size:=br hf;show aw _ _ (call (.builtin "min") [.ref a] [(cn "key",.ref f)]) _ _ _;have fpN:∀b,G.heap.objs.size<=b->iI X m H2 b:=λb w=>M.fpOk w (M.hok.fresh w);refine iA (J:=AN X m r W P c' G.heap.objs.size (G.heap.objs.size+1) f (n++".<locals>.<lambda>") fo oc) (kf:=kf) hh (l6.mpr ca) (lst M w2) rfl rfl (λi s3 ⟨H3,L,N,_⟩=>lst L N)
  (AN.move (by simp) (iL Ft)) (AN.move (by simp) (iL (jD Ft))) (λi v s3 oI oS Z ⟨H3,L,N,fp3,e3,p3,o3,g3⟩ eI eS dI dS=>?_) (λh' tk k=>?_) λi v s3 Z tz ⟨H3,L,N,_⟩=>?_
 .obtain⟨xv,hx,rx⟩:=Z;have S:∀b∈[G.heap.objs.size,G.heap.objs.size+1,f],∃o,s3.heap.get? b=aa o/\∀v,o.data≠.cell v:=λb w=>by
   simp only[bW,iR,or_false]at w;rcases w with rfl|rfl|rfl
   .exact⟨_,eI,dI⟩
   .exact⟨_,eS,dS⟩
   .exact⟨_,e3,λv z=>by rw[hfo]at z;cases z⟩
  have I4:=L.pinned fp3 S;refine aR (GF I4 B nc lx co gen bind (A:=X.A.in1) (Nat.lt_of_succ_lt hr) hh L.ok.frames rx (e3.trans (congrArg aa hfo)) ⟨c',oc,vc,tc,rfl,g3,rc⟩ (he _ _ _ _ _) (wt i xv H3 hx N)) λu' s5 ⟨y,H5,I5,un,r5,q5,w5⟩=>?_;subst q5;have K:∀{b:ac}{o:Obj},b∈[G.heap.objs.size,G.heap.objs.size+1,f]->s3.heap.get? b=aa o->s5.heap.get? b=aa o/\H5 b=ae:=λ{b o} w e=>by have z:=I5.pin (b,o) (jY _ (jY _ (r_ w e)));exact⟨z.1,z.2.1⟩
  obtain⟨t1,t2⟩:=un.tbls P _ p3;obtain⟨t3,t4⟩:=t2 c' oc o3 g3;exact⟨r5,⟨H5,I5.unpinned,w5,λb w=>(let ⟨o,e,_⟩:=S b w;⟨(K w e).2,(fp3 b w).2⟩),(K (by simp) e3).1,t1,t4,t3⟩,(K (by simp) eI).1,(K (by simp) eS).1⟩
 .refine⟨H2,M.kept k,w2,λb w=>?_,k _ _ efo,tb,gL,k _ _ ec⟩;simp only[bW,iR,or_false]at w;rcases w with rfl|rfl|rfl
  .exact fpN _ (ba _)
  .exact fpN _ (sQ _)
  .exact fp1
 .obtain⟨xv,hx,rx⟩:=Z;exact⟨xv,H3,L,rx,wq i xv H3 hx tz N⟩
end
end L2
namespace Pu
open L2
def ml(a:List PV)(ks:List Int):Option PV:=((a.zip ks).find? λq=>ks.all λk=>decide (q.2<=k)).map (·.1)
def K9:PV->Option (List PV)
 |.lst a=>aa a
 |_=>ae
def oR(d:af->R PV):af->R (List PV):=λε=>(d ε).bind λx a=>aB (K9 x) a
def re(c:List Nat)(g:af->R (List PV))(de:af->R PV):af->R PV:=λε=>(g ε).bind λd b=>(dA c bP de d [] b).bind λf a=>aB ((eF f).bind (ml d)) a
theorem NZ{a:List PV}{ks:List Int}{x:PV}{i:Nat}(m:ks.length=a.length)(d:a[i]?=aa x)(f:∀j,j<a.length->ks.getD i 0<=ks.getD j 0/\(j<i->ks.getD i 0<ks.getD j 0)):ml a ks=aa x:=by
 have c:i<a.length:=(cI.mp d).1;have b:∀j (h:j<a.length),ks.getD j 0=ks[j]'∅:=λj h=>by rw[ti,eO ∅];rfl
 unfold ml;have:(a.zip ks).find? (λq=>ks.all λk=>decide (q.2<=k))=aa (x,ks[i]'∅):=by
  rw[List.find?_eq_some_iff_getElem];refine⟨?_,i,by simp;lia,?_,λj g=>?_⟩
  .rw[gK];intro k l;obtain⟨j,g,rfl⟩:=List.getElem_of_mem l;have:=(f j ∅).1;rw[b i c,b j ∅]at this;exact decide_eq_true this
  .rw[List.getElem_zip];exact congrArg (·,_) (cI.mp d).2
  .rw[List.getElem_zip,Bool.not_eq_true',List.all_eq_false];refine⟨ks[i]'∅,wK _,?_⟩;have:=(f j ∅).2 g;rw[b i c,b j ∅]at this;simpa using this
 rw[this];rfl
theorem v5{d:List Nat}{de:af->R PV}:∀{n i j:List PV}{g f:af},dA d bP de n i g=.ok j f->j.length=i.length+n.length/\i <+: j
 |[],i,j,g,f,h=>by cases h;exact⟨rfl,List.prefix_refl _⟩
 |x::n,i,j,g,f,h=>by
  unfold dA at h;cases a:bg (bD d bP x g)with
  |no=>rw[a]at h;cases h
  |er c m=>rw[a]at h;cases h
  |ok b l=>
   rw[a,R.bind_ok]at h;cases b with
   |false=>
    unfold bD at a;cases q:cE g d with
    |none=>rw[q]at a;cases a
    |some r=>
     rw[q]at a;simp only[cf,R.bind_ok]at a;by_cases nd:(bq r).Nodup
     .rw[if_pos nd]at a;cases p:b9 g (.inl x::r)with
      |none=>rw[p]at a;cases a
      |some w=>
       rw[p]at a;simp only[cf,R.bind_ok,bP,cp]at a;split at a
       .cases a
       .cases a
     .rw[if_neg nd]at a;cases a
   |true=>
    dsimp only at h;cases o:bg (bD d de x l)with
    |no=>rw[o]at h;cases h
    |er c m=>rw[o]at h;cases h
    |ok y s=>rw[o,R.bind_ok]at h;obtain⟨v,u⟩:=v5 h;refine⟨by rw[v];simp;lia,(List.prefix_append i [y]).trans u⟩
theorem w8{d:List Nat}{de:af->R PV}:∀{n m:List PV}{f a:af}{c:ai},dA d bP de n m f≠.er c a
 |[],m,f,a,c,h=>by cases h
 |x::n,m,f,a,c,h=>by
  unfold dA at h;cases i:bg (bD d bP x f)with
  |no=>rw[i]at h;cases h
  |er c l=>unfold bg at i;split at i <;> simp_all
  |ok b j=>
   rw[i,R.bind_ok]at h;cases b with
   |false=>exact w8 h
   |true=>
    dsimp only at h;cases g:bg (bD d de x j)with
    |no=>rw[g]at h;cases h
    |er c l=>unfold bg at g;split at g <;> simp_all
    |ok y o=>rw[g,R.bind_ok]at h;exact w8 h
theorem C1:∀{a:List PV}{ks:List Int},eF a=aa ks->a=ks.map PV.int
 |[],ks,h=>by cases h;rfl
 |.int i::a,ks,h=>by
  unfold eF at h;cases e:eF a with
  |none=>rw[e]at h;cases h
  |some r=>rw[e]at h;cases h;rw[C1 e];rfl
 |.non::_,_,h=>by cases h
 |.bl _::_,_,h=>by cases h
 |.str _::_,_,h=>by cases h
 |.tup _::_,_,h=>by cases h
 |.lst _::_,_,h=>by cases h
 |.raw _::_,_,h=>by cases h
 |.exc _::_,_,h=>by cases h
theorem Ij{K:ar}{F:ac->Prop}{S:Nat->ac->Prop}{i c:af}{f:St}{H:Hp}{g:List Nat}{x:PV}{v:V}{b:Bool}(r:aJ K F S i f H)(j:aO K H F x v)(h:bg (bD g bP x i)=.ok b c):∃d,aJ K F d c f H/\a8 (U S) (U d) F F H H:=by
 obtain⟨o,p,l,ok⟩:=uJ (E:=E0) (C:=λ_ a _ _ _=>a=c) r j (by rw[h];exact λ_ _ _ _ _=>rfl);obtain⟨a,d,m,n,e⟩:=(show ∃a d,aJ K F d a f H/\a8 (U S) (U d) F F H H/\a=c from ok F o H l (a8.refl ..))
 subst e;exact⟨d,m,n⟩
section
variable{X:Cx}{E:XK}{d:c8}{x:Str}{N':List Str}{cap:List Nat}
theorem Gz{k:Nat}{n:Str}{l A:ay}{c P:ac}{w:sR}{p lpos kp K:Pos}{dl de:af->R PV}(B:gA X d x N' cap)(hc:X.calm=ah)(hr:Room (k+2) X.A)(LA:u6 X n c P)(hm:X.mg "min"=ae)(hl:DE X E l dl)(he:∀q f M g m,Room k (nZ X X.A.in1 d N' q f M g m).A->DE (nZ X X.A.in1 d N' q f M g m) E0 A de)(hq:X.env.qual++"<lambda>"=n++".<locals>.<lambda>":=by rfl) (nc:∀z∈d.names,z.2≠.cell:=by decide) (lx:d.names.lookup x=aa .local:=by rfl)(co:d.isCoroutine=aj:=by rfl) (gen:d.isGenerator=aj:=by rfl) (bind:∀(name qual:Str) (A:ay) (cl:List (Str×ac)) (pm aE ct v:ai),dU (PySem.W.kla_fn name qual w A d cl pm aE ct) ⟨[v],[]⟩=pure [(x,v)]:=by exact λ_ _ _ _ _ _ _ _=>rfl)(tw:defaultsOf w X.env=([],[]):=by rfl) (hg:Gl X "min":=by rfl) (hs:cm K (aP [l] X.env)=(aj,aL l X.env)::cm K (aP [] X.env):=by rfl) (ce:(cm K (aP [l] X.env)).any (·.1)=aj:=by rfl) (fD:aP [l] X.env=(aj,aL l X.env)::aP [] X.env:=by rfl):DE X E (.Call (.Name "min" p) [l] [⟨aa "key",.Lambda w A d lpos,kp⟩] K) (re cap (oR dl) de):=λF S ε Z H Q rl h=>by
 refine bX (My (tl:=λZ H Q=>∀q f M g m,gd (nZ X X.A.in1 d N' q f M g m) A Z H Q) hc hr.d1 LA hq B nc lx co gen bind tw hg hm hs ce gG λq f M g m ag s Z H Q I h=>(h q f M g m).run ag s I) ?_;refine mq (ip (te:=gd X l) bz i6 fD) (hl F S ε Z H _ rl (h.bind.bind.imp λx1 O F1 S1 H1 r1 g1 h1 v rv=>?_));cases x1 with
 |lst G=>
  obtain⟨a,us,rfl,ha,hF,ra⟩:=rv;have J:Ok X.K E Z F1 S1 H1 ((dA cap bP de G [] O).bind λys N=>aB ((eF ys).bind (ml G)) N) _:=h1 F1 S1 H1 r1 (a8.refl ..);cases ec:dA cap bP de G [] O with
  |no=>rw[ec]at J;exact J.elim
  |er c D=>exact(w8 ec).elim
  |ok ys N=>
   rw[ec,R.bind_ok]at J;cases e3:eF ys with
   |none=>rw[e3]at J;exact J.elim
   |some ks=>
    rw[e3,gu]at J;cases e4:ml G ks with
    |none=>rw[e4]at J;exact J.elim
    |some pv=>
     rw[e4,cf]at J;have eys:=C1 e3;have lys:ys.length=G.length:=by have:=(v5 ec).1;simpa using this
     have lks:ks.length=G.length:=by rw[<-lys,eys,bO]
     have L:us.length=G.length:=ra.len;show ∃(a':ac) (xs':List V) (kf:Nat->Int) (W:Nat->Hp->Prop),_;refine⟨a,us,λi=>ks.getD i 0,λi Y=>∃F' S' D aM,aJ X.K F' S' D Z Y/\a8 (U S1) (U S') F1 F' H1 Y/\aM.length=i/\dA cap bP de (G.drop i) aM D=.ok ys N,rfl,λz=>?_,λH2 sub=>?_,λi Y ⟨F2,S2,_,_,_,T,_,_⟩=>T.lst r1.fit hF ha,λi v Y hv ⟨F2,S2,εa,aM,r2,T,el,r⟩=>?_,λi v Y hv tz ⟨F2,S2,εa,aM,r2,T,el,r⟩=>?_⟩
     .rw[z]at L;obtain rfl:=sW L.symm;cases e4
     .have al:Al F1 F1 H1 H2:=⟨λ_ z=>z,λb o e=>sub b o e,λ_ z=>.inl z⟩
      exact⟨F1,S1,O,[],r1.al al,al.grow,rfl,ec⟩
     .obtain⟨px,hx,rx⟩:=ra.back hv;have il:i<G.length:=(cI.mp hx).1;have ed:G.drop i=px::G.drop (i+1):=by rw[Am il];congr 1;exact(cI.mp hx).2
      rw[ed]at r;unfold dA at r;have rx2:=rx.grow T r1.fit;cases e5:bg (bD cap bP px εa)with
      |no=>rw[e5]at r;cases r
      |er c D=>rw[e5]at r;cases r
      |ok b ε3=>
       obtain⟨S3,r3,g3⟩:=Ij r2 rx2 e5;rw[e5,R.bind_ok]at r;cases b with
       |false=>have:=(v5 r).1;rw[m_]at this;lia
       |true=>
        dsimp only at r;cases e6:bg (bD cap de px ε3)with
        |no=>rw[e6]at r;cases r
        |er c D=>rw[e6]at r;cases r
        |ok y ε4=>
         rw[e6,R.bind_ok]at r;obtain⟨t,ht⟩:=(v5 r).2;have ey:y=.int (ks.getD i 0):=by
          have e7:ys[i]?=aa y:=by rw[<-ht,qj,oj ∅,el,Ap];rfl
          rw[eys,iP,eO ∅]at e7;rw[ti,eO ∅];exact(eD e7).symm
         obtain⟨Sc,sc,rc,okc⟩:=uJ (E:=E0) (C:=λy' D _ _ _=>y'=y/\D=ε4) r3 rx2 (by rw[e6];exact λ_ _ _ _ _=>⟨rfl,rfl⟩);intro q f M g m;refine he q f M g m (Room.deeper (Room.in1 hr) _) F2 Sc sc _ Y _ rc (okc.imp λy' _ F4 _ H4 _ _ ⟨ε4',S4,r4,g4,e8,e9⟩ u ru=>?_);subst e9;subst e8;subst ey;exact⟨ru,F4,S4,_,_,r4,(T.trans g3).trans g4,by simp[el],r⟩
     .obtain⟨px,hx,rx⟩:=ra.back hv;rw[L,An]at r;have:ml G ks=aa px:=NZ lks hx λj hj=>tz j (by rw[L];exact hj);rw[this]at e4;cases e4;cases r;exact J F2 S2 Y r2 T v (rx.grow T r1.fit)
 |_=>exact h1.elim
end
section
variable{o:dZ}{P:a4}{w:aT}{K:ar}{l:Str->Option ai}{b:aF}{C:ac}{m x a:Str}{g:aV}{N j:List Str}{k n:Nat}{d:af->R aG}{pin:List Nat}
theorem JD(LF:∃c T,ye K x C m c T)(S:x∈sw)(D:i3 K C m a g)(Sc:bS N j (aI g))(X:N.length=j.length+n)(G:∀(kV B J:ai) (an:Option ac) (r Z:ai) (u:List ai),u.length=j.length->dU (fP m a (fX g) (dj g) (aI g) .none kV B J an r Z) ⟨u,[]⟩=pure (j.zip u))(Y:∀(f:ac) (r:ai) (c T:ac) (A:aX) (p:List Env) (s:am) (H:Hp) (E:XK),Room k (A.deeper (fO a (aI g) s.heap.objs.size f r))->u6 (eZ o P w K l b N a (aI g) f r A p s H E) x c T->fH (eZ o P w K l b N a (aI g) f r A p s H E) E pin (dj g) d):lm o P w K l b C m (k+1) j (bn K (gC j.length pin (a5 n d))):=by
 obtain⟨f,y,M,F⟩:=D;obtain⟨c,T,L⟩:=LF;have no:∀{q},gC j.length pin (a5 n d) q≠.no->q.length=j.length/\gh pin 0 q=ah:=λ{q} h=>by
  unfold gC at h;by_cases z:q.length=j.length/\gh pin 0 q=ah
  .exact z
  .rw[if_neg z]at h;exact absurd rfl h
 refine⟨f,y,M,xu (d:=d) F Sc X G (λq h=>(no h).1) (λq h i I e=>by have:=o8 (no h).2 i I e;rwa[tf]at this) (λq rs aK h=>.inl ?_) (λq h=>?_) λA p s H E W=>?_,F.binds G⟩
 .unfold gC at h;split at h
  .unfold mE at h;split at h
   .cases h;exact⟨_,rfl⟩
   .cases h
   .cases h
  .cases h
 .have z:=no h;unfold gC at h ⊢;rw[if_pos z]at h ⊢;exact(Bi h).symm
 .obtain⟨oc,O,_,_,_,_,_,_,v,_,Q,_⟩:=F.ex;exact Y f y.code c T A p s H E W ⟨S,L.tab,L.hd,L.code f y oc O v M.at_ Q⟩
end
end Pu
local macro_rules | `(tactic| simp! [$xs,*]) => `(tactic| simp [Pu.aH, Pu.bA, Pu.dB, Pu.d2, Pu.d1, Pu.dV, Pu.dC, Pu.dL, Pu.dF, Pu.aq, Pu.ax, Pu.a_, Pu.oQ, Pu.bd, Pu.gg, Pu.aC, Pu.gV, Pu.gO, Pu.bH, Pu.cp, Pu.cr, Pu.bq, Pu.b9, Pu.cu, Pu.R.bind, Pu.aB, Pu.bh, Pu.fL, Pu.a5, Pu.back, Pu.gZ, Pu.gw, Pu.M4, Pu.k9, Pu.iF, Pu.LS, Pu.az, Pu.rQ, Pu.dz, Pu.eR, Pu.cg, Pu.Ep, Pu.pR, Pu.Pw, Pu.iX, Pu.D7, Pu.gT, Pu.kT, Pu.kY, Pu.Pp, Pu.rM, Pu.b0, Pu.fV, Pu.mz, Pu.vJ, Pu.mn, Pu.imm, Pu.vN, Pu.mv, cM, lT, $xs,*])
local macro_rules | `(tactic| and_intros) => `(tactic| (refine' Pu.O7 ?a ?l ?c ?k; (case a => k_is); (case l => k_is); (case c => k_is); (case k => k_is)))
namespace K31
open L2 Pu Sh
def cL(i:Nat):aV:=PySem.Challenge.pw_slitview_k31_whole_needed.main.body.getD i (.Pass ⟨0,0,0,0⟩)
def sh(s:aV)(j:Nat):aV:=match s with
 |.ClassDef _ _ _ b _ _ _ _ _ _ _=>b.getD j (.Pass ⟨0,0,0,0⟩)
 |_=>.Pass ⟨0,0,0,0⟩
abbrev xE:aV:=cL 31
abbrev xf:aV:=cL 32
abbrev yE:aV:=cL 33
abbrev zD:aV:=cL 34
abbrev yx:aV:=cL 35
abbrev y9:aV:=cL 36
abbrev uw:aV:=cL 37
abbrev wb:aV:=cL 38
abbrev qV:aV:=cL 39
abbrev yH:aV:=cL 40
abbrev vq:aV:=cL 41
abbrev uy:aV:=cL 42
abbrev uT:aV:=cL 43
abbrev x_:aV:=cL 11
abbrev zR:aV:=cL 12
abbrev uV:aV:=cL 10
abbrev zf:aV:=cL 13
abbrev uX:aV:=cL 14
abbrev y8:aV:=cL 15
abbrev yR:aV:=cL 16
abbrev zS:aV:=cL 17
abbrev yh:aV:=cL 20
abbrev xS:aV:=cL 19
abbrev we:aV:=cL 21
abbrev yX:aV:=sh (cL 29) 0
abbrev vY:aV:=cL 24
abbrev yf:aV:=sh (cL 29) 1
abbrev vU:aV:=cL 25
abbrev q8:aV:=cL 27
abbrev uB:aV:=cL 26
abbrev u8:aV:=cL 28
abbrev zg:aV:=sh (cL 29) 2
abbrev x0:aV:=sh (cL 29) 5
abbrev wd:aV:=sh (cL 29) 3
abbrev qS:aV:=cL 44
def n5(a:Ad):List ac:=[a.NoView,a.Never,a.Full]
structure cK(K:ar)(mg:Str->Option ai)(base:aF)(a:Ad):Prop where
 yat:cP K mg "_law_cell_at" xE
 yay:cP K mg "_law_mixed" xf
 yau:cP K mg "_law_draw" yE
 yaA:cP K mg "_law_pick" zD
 yaC:cP K mg "_law_text" yx
 yax:cP K mg "_law_like" y9
 yaB:cP K mg "_law_seen" uw
 yaD:cP K mg "_law_under" wb
 yar:cP K mg "_law_all" qV
 yav:cP K mg "_law_few" yH
 yaz:cP K mg "_law_parts" vq
 yas:cP K mg "_law_can" uy
 yaw:cP K mg "_law_least" uT
 yan:cP K mg "is_whole_number" x_
 yao:cP K mg "is_width" zR
 yak:cP K mg "has_only" uV
 yap:cP K mg "is_window" zf
 yah:cP K mg "are_windows" uX
 yam:cP K mg "is_view_with" y8
 yal:cP K mg "is_view" yR
 yai:cP K mg "check_view" zS
 yaf:cP K mg "add_endings" yh
 yaj:cP K mg "counted" xS
 yaH:cP K mg "texts" we
 yaJ:u0 K a.Seeker "Seeker.__init__" yX
 yaI:cP K mg "with_letter" vY
 ya6:i3 K a.Seeker "left" "Seeker.left" yf
 yag:cP K mg "answers_to" vU
 yaE:cP K mg "needed_by" q8
 yaG:cP K mg "places_to_ask" uB
 yaF:cP K mg "needed_for" u8
 ya7:i3 K a.Seeker "needed" "Seeker.needed" zg
 ya5:i3 K a.Seeker "heard" "Seeker.heard" x0
 ya4:i3 K a.Seeker "best" "Seeker.best" wd
 yaq:cP K mg "law" qS
 k_Seeker:Cls K a.Seeker
 ya0:iH K a.Seeker "having"
 yaZ:iH K a.Seeker "answers"
 yaL:mg "all"=ae
 yaM:mg "any"=ae
 yaN:mg "bool"=ae
 yaO:mg "int"=ae
 yaP:mg "isinstance"=ae
 yaQ:mg "len"=ae
 yaR:mg "list"=ae
 yaS:mg "max"=ae
 yaT:mg "min"=ae
 yaU:mg "range"=ae
 yaV:mg "set"=ae
 yaW:mg "sorted"=ae
 yaX:mg "str"=ae
 yaY:mg "tuple"=ae
 ya8:∃t,mg "LETTERS"=aa (.str (tS [97,98,99]) t)
 ya9:∃t,mg "MOST_TEXTS"=aa (.int 16 t)
 yba:∃t,mg "MOST_WINDOWS"=aa (.int 9 t)
 ybb:∃t,mg "WIDEST"=aa (.int 4 t)
 yae:mg "SlitError"=aa (.ref a.SlitError)
 yac:mg "NoView"=aa (.ref a.NoView)
 yab:mg "Never"=aa (.ref a.Never)
 yaa:mg "Full"=aa (.ref a.Full)
 yad:mg "Seeker"=aa (.ref a.Seeker)
 ya3:OwnCls "NoView" a.NoView [.type "ValueError",.type "Exception",.type "BaseException",.type "object"] "ValueError.__new__" mg base
 ya2:OwnCls "Never" a.Never [.type "ValueError",.type "Exception",.type "BaseException",.type "object"] "ValueError.__new__" mg base
 ya1:OwnCls "Full" a.Full [.type "ValueError",.type "Exception",.type "BaseException",.type "object"] "ValueError.__new__" mg base
 yaK:∃c T,ye K "Seeker.best" a.Seeker "best" c T
section
variable{P:a4}{w:aT}{K:ar}{d:Str->Option ai}{b:aF}{a:Ad}
theorem L_:bS ["_law_script","_law_k"] ["_law_script","_law_k"] (aI xE):=by ac_nf
theorem Mi(G:cK K d b a):cO (b7 P w) P w K d b "_law_cell_at" 1 ["_law_script","_law_k"] (bn K (pe a)) :=
 cW (k:=0) (pin:=[]) G.yat L_ rfl (λ_ _ _ _ _ _ g i=>Pu.O8 (λ_ _=>rfl) g i) (λf j A c s H E h=>by exact
  (bi (fY (d3 zo g6 (ao 1) (cz dJ dP G.yaQ dG (aS (ao 0) aZ)) rfl) (be (cR (gx gk gn (ao 0) (ao 1)))) fW)
  (bi (fY (d3 (ir h.units) ik (ao 0) (n9 aZ) rfl) (be (cR aW)) fW)
  (be (cR (cy fc eY (cy yB yd (gx gk gn (ao 0) (cy qZ sG (ao 1) (cz dJ dP G.yaQ dG (aS (ao 0) aZ)))) aW) (ao 1)))))))
theorem Lg:bS ["_law_script","_law_k","_law_many","_law_drawn"] ["_law_script","_law_k","_law_many"] (aI xf):=by ac_nf
theorem Fy(G:cK K d b a):cO (b7 P w) P w K d b "_law_mixed" 2 ["_law_script","_law_k","_law_many"] (bn K (v7 a)) :=
 cW (k:=1) (pin:=[]) G.yay Lg rfl (λ_ _ _ _ _ _ g i=>Pu.Ph (λ_ _ _=>rfl) g i) (λf j A c s H E h=>by exact
  (bi (eJ 3 Lg.nd (cy qZ sG (cy fc eY (cy fc eY (cy yB yd ((bV (Mi G) (h.mono (by decide)) cN (aU (ao 0) (aU (ao 1) bN)))).de aW) (cy yB yd aW (ao 1))) aW) aW))
  (be (cR (cy qZ sG (cy qZ sG (cy qZ sG (cy MW OM (ao 3) aW) aW) aW) (ao 2))))))
theorem N2:bS ["_law_script","_law_town","_law_many"] ["_law_script","_law_town","_law_many"] (aI yE):=by ac_nf
theorem uz(G:cK K d b a):cO (b7 P w) P w K d b "_law_draw" 3 ["_law_script","_law_town","_law_many"] (bn K (kC a)) :=
 cW (k:=2) (pin:=[1]) G.yau N2 rfl (λ_ _ _ _ _ _ g i=>Pu.Ph (λ_ _ _=>rfl) g i) (λf j A c s H E h=>by exact
  (bi (yJ 1 aW)
  (be (xn (bV (Fy G) (h.mono (by decide)) cN (aU (ao 0) (aU (L8 1 dJ dP G.yaQ dG) (aU (ao 2) bN))))))))
theorem Lk:bS ["_law_script","_law_town","_law_some"] ["_law_script","_law_town","_law_some"] (aI zD):=by ac_nf
theorem zL(G:cK K d b a):cO (b7 P w) P w K d b "_law_pick" 4 ["_law_script","_law_town","_law_some"] (bn K (jJ a)) :=
 cW (k:=3) (pin:=[1]) G.yaA Lk rfl (λ_ _ _ _ _ _ g i=>Pu.Ph (λ_ _ _=>rfl) g i) (λf j A c s H E h=>by exact
  (be (cR (gx gk gn (ao 2) ((bV (uz G) (h.mono (by decide)) cN (aU (ao 0) (gU 1 (aU (cz dJ dP G.yaQ dG (aS (ao 2) aZ)) bN))))).de))))
theorem Oy:bS ["_law_script","_law_town","_law_low","_law_most","_law_few_here","_law_made","_law_k"] ["_law_script","_law_town","_law_low","_law_most"] (aI yx):=by ac_nf
theorem G3(G:cK K d b a):cO (b7 P w) P w K d b "_law_text" 5 ["_law_script","_law_town","_law_low","_law_most"] (bn K (mf a)) :=
 cW (k:=4) (pin:=[1]) G.yaC Oy rfl (λ_ _ _ _ _ _ h i=>Pu.Pt (λ_ _ _ _=>rfl) h i) (λf j A c s H E g=>by exact
  (bi (eJ 4 Oy.nd ((bV (zL G) (g.mono (by decide)) cN (aU (ao 0) (gU 1 (aU (n9 (aS aW (aS aW (aS aW (aS aW (aS aW (aS aW aZ))))))) bN))))).de)
  (bi (eJ 5 Oy.nd (kA []))
  (bi (jI (lh 6 j5 rfl Oy.nd (nH G.yaU (aS (cy fc eY (ao 2) ((bV (uz G) (g.mono (by decide)) eM (aU (ao 0) (gU 1 (aU (cy fc eY (cy nA nD (ao 3) (ao 2)) aW) bN))))).de) aZ)) (be (eJ 5 Oy.nd (cy fc eY (ao 5) (gx gk gn (kA [97,98,99]) ((bV (uz G) (g.mono (by decide)) eM (aU (ao 0) (gU 1 (aU (ao 4) bN))))).de))))))
  (be (cR (ao 5)))))))
theorem JW:bS ["_law_script","_law_town","_law_low","_law_most","_law_width","_law_made"] ["_law_script","_law_town","_law_low","_law_most"] (aI y9):=by ac_nf
theorem HI(G:cK K d b a):cO (b7 P w) P w K d b "_law_like" 6 ["_law_script","_law_town","_law_low","_law_most"] (bn K (k8 a)) :=
 cW (k:=5) (pin:=[1]) G.yax JW rfl (λ_ _ _ _ _ _ h i=>Pu.Pt (λ_ _ _ _=>rfl) h i) (λf j A g s H E c=>by exact
  (bi (eJ 4 JW.nd (cy fc eY aW ((bV (zL G) (c.mono (by decide)) cN (aU (ao 0) (gU 1 (aU (n9 (aS aW (aS aW (aS aW (aS aW (aS aW aZ)))))) bN))))).de))
  (bi (eJ 5 JW.nd ((bV (G3 G) (c.mono (by decide)) cN (aU (ao 0) (gU 1 (aU (ao 2) (aU aW bN)))))).de)
  (bi (jI (Cw (λ_=>1000) j5 (d3 zo g6 (cz dJ dP G.yaQ dG (aS (ao 5) aZ)) (cy nA nD (ao 3) aW) rfl) (be (eJ 5 JW.nd (cy fc eY (ao 5) ((bV (zL G) (c.mono (by decide)) eM (aU (ao 0) (gU 1 (aU (n9 (aS (mL mT mO (ao 5) ph (kg aW)) (aS (mL mT mO (ao 5) ph (kg aW)) (aS (mL mT mO (ao 5) (kg aW) (kg aW)) (aS (kA [97]) (aS (kA [98]) (aS (mL mT mO (ao 5) (kg (CT BZ Ei aW)) ph) aZ))))))) bN))))).de)))))
  (be (cR (oZ (aS (mL mT mO (ao 5) ph (kg (cz (KW rfl) Ib G.yaS yj (aS (ao 4) (aS (cy nA nD (ao 3) ((bV (uz G) (c.mono (by decide)) cN (aU (ao 0) (gU 1 (aU aW bN))))).de) aZ))))) (aS (ao 4) aZ)))))))))
theorem Ni:bS ["_law_text_here","_law_width"] ["_law_text_here","_law_width"] (aI uw):=by ac_nf
theorem uC(G:cK K d b a):cO (b7 P w) P w K d b "_law_seen" 1 ["_law_text_here","_law_width"] (bn K (im a)) :=
 cW (k:=0) (pin:=[]) G.yaB Ni rfl (λ_ _ _ _ _ _ i l=>Pu.O8 (λ_ _=>rfl) i l) (λf o A h s H E n=>by exact
  (be (cR (sF sm sq G.yaY nK (aS (xO xA xX G.yaW vm (aS (gQ (cap:=[0,1]) (N':=["_law_at","_law_text_here","_law_width"]) (gA.of ["_law_text_here","_law_width"] (aI uw) rfl rfl (by decide +kernel)) rfl (nH G.yaU (aS (cz dJ dP G.yaQ dG (aS (ao 0) aZ)) aZ)) (λC c g m j=>by exact mD (d3 oP g6 (cy fc eY (ao 0) (ao 2)) (cz dJ dP G.yaQ dG (aS (ao 1) aZ)) rfl)) (λC c g m j=>by exact(mL mT mO (ao 1) (kg (ao 0)) (kg (cy fc eY (ao 0) (ao 2)))))).de aZ)).de aZ)))))
theorem Gg:bS ["_law_text_here","_law_width","_law_windows","_law_made"] ["_law_text_here","_law_width","_law_windows"] (aI wb):=by ac_nf
theorem KM(G:cK K d b a):cO (b7 P w) P w K d b "_law_under" 2 ["_law_text_here","_law_width","_law_windows"] (bn K (mM a)) :=
 cW (k:=1) (pin:=[]) G.yaD Gg rfl (λ_ _ _ _ _ _ i m=>Pu.Ph (λ_ _ _=>rfl) i m) (λf o A h s H E l=>by exact
  (bi (eJ 3 Gg.nd ((bV (uC G) (l.mono (by decide)) cN (aU (ao 0) (aU (ao 1) bN)))).de)
  (be (cR (cz (zt rfl) zU G.yaL zN (aS (gQ (cap:=[3,2]) (N':=["_law_window","_law_made","_law_windows"]) (gA.of ["_law_text_here","_law_width","_law_windows","_law_made"] (aI wb) rfl rfl (by decide +kernel)) rfl (f9 (ao 3)) (λC c g n j=>by exact k6) (λC c g n j=>by exact(oa oP g6 (CV (ao 1) (ao 0)) (CV (ao 2) (ao 0)) rfl))).de aZ))))))
theorem Ie:bS ["_law_asked","_law_width","_law_windows","_law_rows","_law_k","_law_longer","_law_line"] ["_law_asked"] (aI qV):=by ac_nf
theorem Bt(G:cK K d b a):cO (b7 P w) P w K d b "_law_all" 3 ["_law_asked"] (bn K (lg a)) :=
 cW (k:=2) (pin:=[]) G.yar Ie rfl (λ_ _ _ _ _ _ m n=>Pu.Pk (λ_=>rfl) m n) (λf o A i s H E j=>by exact
  (bi (zH 1 2 rfl Ie.nd (ao 0))
  (bi (eJ 3 Ie.nd (n9 (aS (kA []) aZ)))
  (bi (jI (lh 4 j5 rfl Ie.nd (nH G.yaU (aS (cy nA nD (cy fc eY (cz dJ dP G.yaQ dG (aS (ao 2) aZ)) (ao 1)) aW) aZ)) (bi (mJ 5 Ie.nd (o0 aZ))
  (bi (lh 6 j5 rfl Ie.nd (f9 (ao 3)) (be (JA 5 (gQ (cap:=[6,1,2]) (N':=["_law_letter","_law_line","_law_width","_law_windows"]) (gA.of ["_law_asked","_law_width","_law_windows","_law_rows","_law_k","_law_longer","_law_line"] (aI qV) rfl rfl (by decide +kernel)) rfl (f9 (kA [97,98,99])) (λC c g l h=>by exact mD (mU ((bV (KM G) (j.mono (by decide)) eM (aU (cy fc eY (ao 1) (ao 0)) (aU (ao 2) (aU (ao 3) bN))))).de)) (λC c g l h=>by exact(cy fc eY (ao 1) (ao 0)))).de)))
  (be (eJ 3 Ie.nd (Op 5)))))))
  (be (vf (gQ (cap:=[1,2]) (N':=["_law_line","_law_width","_law_windows"]) (gA.of ["_law_asked","_law_width","_law_windows","_law_rows","_law_k","_law_longer","_law_line"] (aI qV) rfl rfl (by decide +kernel)) rfl (f9 (ao 3)) (λC c g l h=>by exact mD (d3 (ir j.units) ik ((bV (uC G) (j.mono (by decide)) eM (aU (ao 0) (aU (ao 1) bN)))).de (ao 2) rfl)) (λC c g l h=>by exact(ao 0)))))))))
theorem MV:bS ["_law_script","_law_town","_law_text_here","_law_width","_law_asked","_law_lines"] ["_law_script","_law_town"] (aI yH):=by ac_nf
theorem J3(G:cK K d b a):cO (b7 P w) P w K d b "_law_few" 7 ["_law_script","_law_town"] (bn K (rH a)) :=
 cW (k:=6) (pin:=[1]) G.yav MV rfl (λ_ _ _ _ _ _ h i=>Pu.O8 (λ_ _=>rfl) h i) (λf j A g s H E c=>by exact
  (bi (zH 2 3 rfl MV.nd ((bV (HI G) (c.mono (by decide)) cN (aU (ao 0) (gU 1 (aU aW (aU aW bN)))))).de)
  (bi (eJ 4 MV.nd (oZ (aS (ao 3) (aS ((bV (uC G) (c.mono (by decide)) cN (aU (ao 2) (aU (ao 3) bN)))).de aZ))))
  (bi (eJ 5 MV.nd ((bV (Bt G) (c.mono (by decide)) cN (aU (ao 4) bN))).de)
  (bi (jI (Cw (λ_=>1000) j5 (d3 nM g6 (cz dJ dP G.yaQ dG (aS (ao 5) aZ)) aW rfl) (bi (eJ 4 MV.nd (Le (d3 zo g6 (ao 3) aW rfl) (oZ (aS (cy fc eY (ao 3) aW) (aS ((bV (uC G) (c.mono (by decide)) eM (aU (ao 2) (aU (cy fc eY (ao 3) aW) bN)))).de aZ))) (oZ (aS aW (aS (oZ (aS (kA [97]) aZ)) aZ)))))
  (bi (eJ 3 MV.nd (gx gk gn (ao 4) aW))
  (be (eJ 5 MV.nd ((bV (Bt G) (c.mono (by decide)) eM (aU (ao 4) bN))).de))))))
  (be (cR (oZ (aS (ao 4) (aS (ao 5) aZ))))))))))
theorem GS:bS ["_law_some","_law_at","_law_made","_law_text_here"] ["_law_some","_law_at"] (aI vq):=by ac_nf
theorem El(G:cK K d b a):cO (b7 P w) P w K d b "_law_parts" 1 ["_law_some","_law_at"] (bn K (mx a)) :=
 cW (k:=0) (pin:=[]) G.yaz GS rfl (λ_ _ _ _ _ _ j m=>Pu.O8 (λ_ _=>rfl) j m) (λf o A h s H E i=>by exact
  (bi (mJ 2 GS.nd Ny)
  (bi (jI (lh 3 j5 rfl GS.nd (f9 (ao 0)) (be (HF 2 3 i.units (gx gk gn (ao 3) (ao 1))))))
  (be (N5 2 (vf (gQ (cap:=[2]) (N':=["_law_letter","_law_made"]) (gA.of ["_law_some","_law_at","_law_made","_law_text_here"] (aI vq) rfl rfl (by decide +kernel)) rfl (f9 (xO xA xX G.yaW vm (aS (HR 2 rfl G.yaR).de aZ)).de) (λC c g n l=>by exact k6) (λC c g n l=>by exact(yr 1 i.units (ao 0))))))))))
theorem Cj:bS ["_law_some","_law_most","_law_at","_law_parts_here"] ["_law_some","_law_most"] (aI uy):=by ac_nf
theorem OP(G:cK K d b a)(m:Nat):cO (b7 P w) P w K d b "_law_can" (2+m) ["_law_some","_law_most"] (bn K (jS a m)):=by
 induction m with
 |zero=>exact cW (k:=1) (pin:=[]) G.yas Cj rfl (λ_ _ _ _ _ _ j l=>Pu.O8 (λ_ _=>rfl) j l) (λf q A c s H E g=>zC)
 |succ m o=>exact cW (k:=2+m) (pin:=[]) G.yas Cj rfl (λ_ _ _ _ _ _ j l=>Pu.O8 (λ_ _=>rfl) j l) (λf q A c s H E g=>by exact
  (bi (fY (d3 (ir g.units) ik (cz dJ dP G.yaQ dG (aS (ao 0) aZ)) aW rfl) (be (cR mB)) fW)
  (bi (fY (d3 (ir g.units) ik (ao 1) aW rfl) (be (cR mB)) fW)
  (bi (jI (lh 2 j5 rfl Cj.nd (nH G.yaU (aS (cz dJ dP G.yaQ dG (aS (gx gk gn (ao 0) aW) aZ)) aZ)) (bi (eJ 3 Cj.nd ((bV (El G) (g.mono ∅) eM (aU (ao 0) (aU (ao 2) bN)))).de)
  (be (fY ((Ce (d3 nM g6 (cz dJ dP G.yaQ dG (aS (ao 3) aZ)) aW rfl) (AQ (d3 (ir g.units) ik (gQ (cap:=[1]) (N':=["_law_part","_law_most"]) (gA.of ["_law_some","_law_most","_law_at","_law_parts_here"] (aI uy) rfl rfl (by decide +kernel)) rfl (f9 (ao 3)) (λC h i p n=>by exact mD (nJ (mU ((bV o (g.mono ∅) eM (aU (ao 0) (aU (cy nA nD (ao 1) aW) bN)))).de))) (λC h i p n=>by exact(ao 0))).de (n9 aZ) rfl)))).dt (be (cR mB)) fW)))))
  (be (cR mB))))))
theorem M3:bS ["_law_some"] ["_law_some"] (aI uT):=by ac_nf
theorem yq(G:cK K d b a):cO (b7 P w) P w K d b "_law_least" 20 ["_law_some"] (bn K (kZ a)) :=
 cW (k:=19) (pin:=[]) G.yaw M3 rfl (λ_ _ _ _ _ _ i m=>Pu.Pk (λ_=>rfl) i m) (λf o A h s H E l=>by exact
  (be (cR (gx gk gn (gQ (cap:=[0]) (N':=["_law_most","_law_some"]) (gA.of ["_law_some"] (aI uT) rfl rfl (by decide +kernel)) rfl (nH G.yaU (aS (cz dJ dP G.yaQ dG (aS (ao 0) aZ)) aZ)) (λC c g n j=>by exact mD (mU ((bV (OP G 17) (l.mono (by decide)) eM (aU (ao 1) (aU (ao 0) bN)))).de)) (λC c g n j=>by exact(ao 0))).de aW))))
theorem Jl:bS ["thing"] ["thing"] (aI x_):=by ac_nf
theorem GX(G:cK K d b a):cO (b7 P w) P w K d b "is_whole_number" 1 ["thing"] (bn K (uF a)) :=
 cW (k:=0) (pin:=[]) G.yan Jl rfl (λ_ _ _ _ _ _ g h=>Pu.Pk (λ_=>rfl) g h) (λf j A c s H E i=>by exact
  (be (cR (pF (cz qX rP G.yaP rV (aS (ao 0) (aS (q_ G.yaO LJ) aZ))) (qU (MC (cz qX rP G.yaP rV (aS (ao 0) (aS (q_ G.yaN Lu) aZ)))))))))
theorem NI:bS ["thing"] ["thing"] (aI zR):=by ac_nf
theorem Jg(G:cK K d b a):cO (b7 P w) P w K d b "is_width" 2 ["thing"] (bn K (pP a)) :=
 cW (k:=1) (pin:=[]) G.yao NI rfl (λ_ _ _ _ _ _ g i=>Pu.Pk (λ_=>rfl) g i) (λf j A c s H E h=>by exact
  (be (cR (pF ((bV (GX G) (h.mono (by decide)) cN (aU (ao 0) bN))).de (qU (Oc oP oP g6 g6 aW (ao 0) (zr G.ybb)))))))
theorem He:bS ["text","signs"] ["text","signs"] (aI uV):=by ac_nf
theorem Lp(G:cK K d b a):cO (b7 P w) P w K d b "has_only" 1 ["text","signs"] (bn K (v9 a)) :=
 cW (k:=0) (pin:=[]) G.yak He rfl (λ_ _ _ _ _ _ i l=>Pu.O8 (λ_ _=>rfl) i l) (λf o A h s H E n=>by exact
  (be (cR (cz (zt rfl) zU G.yaL zN (aS (gQ (cap:=[1]) (N':=["sign","signs"]) (gA.of ["text","signs"] (aI uV) rfl rfl (by decide +kernel)) rfl (f9 (ao 0)) (λC c g m j=>by exact k6) (λC c g m j=>by exact(oa M_ FT (ao 0) (ao 1) rfl))).de aZ)))))
theorem Hk:bS ["thing","width","signs"] ["thing","width","signs"] (aI zf):=by ac_nf
theorem IV(G:cK K d b a):cO (b7 P w) P w K d b "is_window" 2 ["thing","width","signs"] (bn K (pI a)) :=
 cW (k:=1) (pin:=[]) G.yap Hk rfl (λ_ _ _ _ _ _ h i=>Pu.Ph (λ_ _ _=>rfl) h i) (λf j A c s H E g=>by exact
  (be (cR (pF (cz qX rP G.yaP rV (aS (ao 0) (aS (q_ G.yaX JU) aZ))) (pF (oa (ir g.units) ik (cz dJ dP G.yaQ dG (aS (ao 0) aZ)) (ao 1) rfl) (qU ((bV (Lp G) (g.mono (by decide)) cN (aU (ao 0) (aU (ao 2) bN)))).de))))))
theorem MK:bS ["thing","width","signs"] ["thing","width","signs"] (aI uX):=by ac_nf
theorem JN(G:cK K d b a):cO (b7 P w) P w K d b "are_windows" 3 ["thing","width","signs"] (bn K (mC a)) :=
 cW (k:=2) (pin:=[]) G.yah MK rfl (λ_ _ _ _ _ _ j m=>Pu.Ph (λ_ _ _=>rfl) j m) (λf o A h s H E i=>by exact
  (bi (fY ((uP (nJ (mU (cz qX rP G.yaP rV (aS (ao 0) (aS (q_ G.yaY nK) aZ))))) (xH (nJ (Hh oP oP g6 g6 aW (cz dJ dP G.yaQ dG (aS (ao 0) aZ)) (zr G.yba)))))).dt (be (cR mB)) fW)
  (bi (fY (nJ (mU (cz (zt rfl) zU G.yaL zN (aS (gQ (cap:=[1,2]) (N':=["window","width","signs"]) (gA.of ["thing","width","signs"] (aI uX) rfl rfl (by decide +kernel)) rfl (f9 (ao 0)) (λC c g n l=>by exact k6) (λC c g n l=>by exact((bV (IV G) (i.mono (by decide)) eM (aU (ao 0) (aU (ao 1) (aU (ao 2) bN))))).de)).de aZ)))) (be (cR mB)) fW)
  (be (cR (oa (ir i.units) ik (Cs zM yL G.yaR xZ (aS (ao 0) aZ)).de (xO xA xX G.yaW vm (aS (ao 0) aZ)).de rfl))))))
theorem FJ:bS ["thing","signs"] ["thing","signs"] (aI y8):=by ac_nf
theorem Hm(G:cK K d b a):cO (b7 P w) P w K d b "is_view_with" 4 ["thing","signs"] (bn K (pj a)) :=
 cW (k:=3) (pin:=[]) G.yam FJ rfl (λ_ _ _ _ _ _ h i=>Pu.O8 (λ_ _=>rfl) h i) (λf j A c s H E g=>by exact
  (bi (fY ((uP (nJ (mU (cz qX rP G.yaP rV (aS (ao 0) (aS (q_ G.yaY nK) aZ))))) (xH (d3 (uO g.units) vG (cz dJ dP G.yaQ dG (aS (ao 0) aZ)) aW rfl)))).dt (be (cR mB)) fW)
  (be (cR (pF ((bV (Jg G) (g.mono (by decide)) cN (aU (gx gk gn (ao 0) aW) bN))).de (qU ((bV (JN G) (g.mono (by decide)) cN (aU (gx gk gn (ao 0) aW) (aU (gx gk gn (ao 0) aW) (aU (ao 1) bN))))).de))))))
theorem GL:bS ["thing"] ["thing"] (aI yR):=by ac_nf
theorem ME(G:cK K d b a):cO (b7 P w) P w K d b "is_view" 5 ["thing"] (bn K (vF a)) :=
 cW (k:=4) (pin:=[]) G.yal GL rfl (λ_ _ _ _ _ _ g i=>Pu.Pk (λ_=>rfl) g i) (λf j A c s H E h=>by exact
  (be (xn (bV (Hm G) (h.mono (by decide)) cN (aU (ao 0) (aU (zv G.ya8) bN))))))
theorem OB:bS ["thing"] ["thing"] (aI zS):=by ac_nf
theorem M5(G:cK K d b a):cO (b7 P w) P w K d b "check_view" 6 ["thing"] (bn K (uZ a)) :=
 cW (k:=5) (pin:=[]) G.yai OB rfl (λ_ _ _ _ _ _ g i=>Pu.Pk (λ_=>rfl) g i) (λf j A c s H E h=>by exact
  (be (fY (nJ (mU ((bV (ME G) (h.mono (by decide)) cN (aU (ao 0) bN))).de)) (be (yO xG rfl G.ya3 E3 (kA [97,32,118,105,101,119,32,105,115,32,97,32,116,117,112,108,101,32,111,102,32,97,32,119,105,100,116,104,32,97,110,100,32,97,32,114,105,115,105,110,103,32,116,117,112,108,101,32,111,102,32,49,32,116,111,32,57,32,119,105,110,100,111,119,115]))) fW)))
theorem Bf:bS ["text","width","left","found","head","letter","window"] ["text","width","left","found"] (aI yh):=by ac_nf
theorem Kf(G:cK K d b a)(m:Nat):cO (b7 P w) P w K d b "add_endings" (1+m) ["text","width","left","found"] (bn K (mP a m)):=by
 induction m with
 |zero=>exact cW (k:=0) (pin:=[2,3]) G.yaf Bf rfl (λ_ _ _ _ _ _ h i=>Pu.Pt (λ_ _ _ _=>rfl) h i) (λf l A c s H E g=>zC)
 |succ m j=>exact cW (k:=1+m) (pin:=[2,3]) G.yaf Bf rfl (λ_ _ _ _ _ _ h i=>Pu.Pt (λ_ _ _ _=>rfl) h i) (λf l A c s H E g=>by exact
  (bi (fY (nJ (mU (K2 2 rfl G.yaM))) (bi (yJ 3 (ao 0))
  (be NY)) fW)
  (bi (eJ 4 Bf.nd (mL mT mO (ao 0) (kg (cy fc eY (cy nA nD (cz dJ dP G.yaQ dG (aS (ao 0) aZ)) (ao 1)) aW)) ph))
  (be (jI (lh 5 j5 rfl Bf.nd (f9 (zv G.ya8)) (bi (eJ 6 Bf.nd (cy fc eY (ao 4) (ao 5)))
  (be (fY (d3 nM g6 (Dx 2 g.units (ao 6) aW) aW rfl) (bi (zG 2 g.units (ao 6) (cy nA nD (yr 2 g.units (ao 6)) aW))
  (bi (xi (bV j (g.mono ∅) eM (aU (cy fc eY (ao 0) (ao 5)) (aU (ao 1) (gU 2 (gU 3 bN))))))
  (be (zG 2 g.units (ao 6) (cy fc eY (yr 2 g.units (ao 6)) aW))))) fW)))))))))
theorem Gu:bS ["windows","counts","window"] ["windows"] (aI xS):=by ac_nf
theorem HX(G:cK K d b a):cO (b7 P w) P w K d b "counted" 1 ["windows"] (bn K (sE a)) :=
 cW (k:=0) (pin:=[]) G.yaj Gu rfl (λ_ _ _ _ _ _ h i=>Pu.Pk (λ_=>rfl) h i) (λf j A c s H E g=>by exact
  (bi (mJ 1 Gu.nd (Hr))
  (bi (jI (lh 2 j5 rfl Gu.nd (f9 (ao 0)) (be (zG 1 g.units (ao 2) (cy fc eY (Dx 1 g.units (ao 2) aW) aW)))))
  (be (Dd 1)))))
theorem OF:bS ["view","width","found","head"] ["view"] (aI we):=by ac_nf
theorem Gx(G:cK K d b a):cO (b7 P w) P w K d b "texts" 14 ["view"] (bn K (vW a)) :=
 cW (k:=13) (pin:=[]) G.yaH OF rfl (λ_ _ _ _ _ _ j m=>Pu.Pk (λ_=>rfl) j m) (λf o A h s H E i=>by exact
  (bi (xi (bV (M5 G) (i.mono (by decide)) cN (aU (ao 0) bN)))
  (bi (eJ 1 OF.nd (gx gk gn (ao 0) aW))
  (bi (mJ 2 OF.nd (o0 aZ))
  (bi (jI (lh 3 j5 rfl OF.nd (f9 (Ka rfl (aS (gQ (cap:=[]) (N':=["window"]) (gA.of ["view","width","found","head"] (aI we) rfl rfl (by decide +kernel)) rfl (f9 (gx gk gn (ao 0) aW)) (λC c g n l=>by exact k6) (λC c g n l=>by exact(mL mT mO (ao 0) ph (kg (CT BZ Ei aW))))).de aZ) G.yaW G.yaV).de) (be (xi (DJ (Kf G 12) (i.mono (by decide)) eM (xw (ao 3) (xw (ao 1) (BQ (((bV (HX G) (i.mono (by decide)) eM (aU (gx gk gn (ao 0) aW) bN))).dn) (gU 2 bN)))))))))
  (be (Dd 2)))))))
def C5(a:Ad):af->R aG:=aH (bd 2 (az (aC (vW a) (gV (dV 1) (bH)))))
 (aH (bA (dB (d2 (eqT aj) (dL aN (aq (dV 2) (ax))) (dC (.int 0)))) (uS (.ref a.Never) (λc=>bg ((dC (.str [110,111,32,116,101,120,116,32,104,97,115,32,116,104,105,115,32,118,105,101,119])) c))) (cg))
 (aH (bA (dB (d2 (b0 λi j=>decide (j<i)) (dL aN (aq (dV 2) (ax))) (dC (.int 16)))) (uS (.ref a.Full) (λc=>bg ((dC (.str [97,32,115,101,101,107,101,114,32,116,97,107,101,115,32,97,32,118,105,101,119,32,116,104,97,116,32,117,112,32,116,111,32,49,54,32,116,101,120,116,115,32,104,97,118,101])) c))) (cg))
 (aH (x6 a.Seeker 0 "having" (dL iB (aq (dV 2) (ax))))
 (uW a.Seeker 0 "answers" (dL dz (ax))))))
def nE(a:Ad):af->R Slot:=bh 2 [0] (a5 1 (C5 a))
theorem Io:bS ["self","view","having"] ["self","view"] (aI yX):=by ac_nf
theorem JV(G:cK K d b a):zT (b7 P w) P w K d b a.Seeker 15 ["self","view"] (bn K (nE a)) :=
 IQ (k:=14) (pin:=[0]) G.yaJ Io rfl (λ_ _ _ _ _ _ h i=>Pu.O8 (λ_ _=>rfl) h i) (λf j A c s H E g=>by exact
  (bi (eJ 2 Io.nd ((bV (Gx G) (g.mono (by decide)) cN (aU (ao 1) bN))).de)
  (bi (fY (d3 (ir g.units) ik (cz dJ dP G.yaQ dG (aS (ao 2) aZ)) aW rfl) (be (yO xG rfl G.ya2 E3 (kA [110,111,32,116,101,120,116,32,104,97,115,32,116,104,105,115,32,118,105,101,119]))) fW)
  (bi (fY (d3 nM g6 (cz dJ dP G.yaQ dG (aS (ao 2) aZ)) (zr G.ya9) rfl) (be (yO xG rfl G.ya1 E3 (kA [97,32,115,101,101,107,101,114,32,116,97,107,101,115,32,97,32,118,105,101,119,32,116,104,97,116,32,117,112,32,116,111,32,49,54,32,116,101,120,116,115,32,104,97,118,101]))) fW)
  (bi (KF 0 G.k_Seeker G.ya0 (sF sm sq G.yaY nK (aS (ao 2) aZ)))
  (be (Mt 0 G.k_Seeker G.yaZ (o0 aZ))))))))
theorem LD:bS ["left","place","letter"] ["left","place","letter"] (aI vY):=by ac_nf
theorem xP(G:cK K d b a):cO (b7 P w) P w K d b "with_letter" 1 ["left","place","letter"] (bn K (i4 a)) :=
 cW (k:=0) (pin:=[]) G.yaI LD rfl (λ_ _ _ _ _ _ i m=>Pu.Ph (λ_ _ _=>rfl) i m) (λf o A h s H E l=>by exact
  (be (cR (sF sm sq G.yaY nK (aS (gQ (cap:=[1,2]) (N':=["text","place","letter"]) (gA.of ["left","place","letter"] (aI vY) rfl rfl (by decide +kernel)) rfl (f9 (ao 0)) (λC c g n j=>by exact mD (d3 (ir l.units) ik (gx gk gn (ao 0) (ao 1)) (ao 2) rfl)) (λC c g n j=>by exact(ao 0))).de aZ)))))
def jP(a:Ad):af->R Slot:=mG 1 3 [0] (bd 1 (nz a.Seeker "answers" 0 "having")) (λε=>cq (mw a.Seeker "answers" 0 2 3 (bd 1 (az (aC (i4 a) (gV (dV 1) (gV (dV 2) (gV (dV 3) (bH))))))) ε)) (dL jM (aq (dV 1) (ax)))
theorem HW:bS ["self","found","place","letter"] ["self"] (aI yf):=by ac_nf
theorem zy(G:cK K d b a):lm (b7 P w) P w K d b a.Seeker "left" 2 ["self"] (bn K (jP a)) :=
 G9 (k:=1) (pin:=[0]) G.ya6 HW rfl (λ_ _ _ _ _ _ i j=>Pu.Pk (λ_=>rfl) i j) rfl (λf h A c s H E g=>by exact
  ((eJ 1 HW.nd (Hn 0 "answers" G.k_Seeker G.ya0)))) (λf h A c s H E g=>by exact
  ((jI (JB 0 2 3 G.k_Seeker G.yaZ j5 rfl HW.nd (be (eJ 1 HW.nd ((bV (xP G) (g.mono (by decide)) eM (aU (ao 1) (aU (ao 2) (aU (ao 3) bN))))).de)))))) (λf h A c s H E g=>by exact
  (Cs zM yL G.yaR xZ (aS (ao 1) aZ)))
theorem N7:bS ["left","place"] ["left","place"] (aI vU):=by ac_nf
theorem Do(G:cK K d b a):cO (b7 P w) P w K d b "answers_to" 2 ["left","place"] (bn K (jQ a)) :=
 cW (k:=1) (pin:=[]) G.yag N7 rfl (λ_ _ _ _ _ _ i m=>Pu.O8 (λ_ _=>rfl) i m) (λf o A h s H E l=>by exact
  (be (vf (gQ (cap:=[0,1]) (N':=["letter","left","place"]) (gA.of ["left","place"] (aI vU) rfl rfl (by decide +kernel)) rfl (f9 (zv G.ya8)) (λC c g n j=>by exact mD (d3 nM g6 (cz dJ dP G.yaQ dG (aS ((bV (xP G) (l.mono (by decide)) eM (aU (ao 1) (aU (ao 2) (aU (ao 0) bN))))).de aZ)) aW rfl)) (λC c g n j=>by exact(ao 0))))))
theorem Kt:bS ["place","left","known","parts"] ["place","left","known"] (aI q8):=by ac_nf
theorem CJ(G:cK K d b a){m:Nat}{n:af->R Slot}(r:2<=m)(p:cO (b7 P w) P w K d b "needed_for" m ["left","known"] (bn K n)):cO (b7 P w) P w K d b "needed_by" (m+1) ["place","left","known"] (bn K (jo a n)) :=
 cW (k:=m) (pin:=[2]) G.yaE Kt rfl (λ_ _ _ _ _ _ o q=>Pu.Ph (λ_ _ _=>rfl) o q) (λf u A i s H E j=>by exact
  (bi (F_ 3 Kt.nd (cap:=[1,0]) (N':=["letter","left","place"]) (gA.of ["place","left","known","parts"] (aI q8) rfl rfl (by decide +kernel)) rfl (f9 ((bV (Do G) (j.mono ∅) cN (aU (ao 1) (aU (ao 0) bN)))).de) (λC c g l h=>by exact k6) (λC c g l h=>by exact((bV (xP G) (j.mono ∅) eM (aU (ao 1) (aU (ao 2) (aU (ao 0) bN))))).de))
  (be (cR (cy fc eY aW (cz (BE rfl) Bj G.yaS yj (aS (gQ (cap:=[2]) (N':=["part","known"]) (gA.of ["place","left","known","parts"] (aI q8) rfl rfl (by decide +kernel)) rfl (f9 (ao 3)) (λC c g l h=>by exact k6) (λC c g l h=>by exact((bV p (j.mono ∅) eM (aU (ao 0) (gU 1 bN)))).de)).de aZ)))))))
theorem Gf:bS ["left"] ["left"] (aI uB):=by ac_nf
theorem Eh(G:cK K d b a):cO (b7 P w) P w K d b "places_to_ask" 3 ["left"] (bn K (jv a)) :=
 cW (k:=2) (pin:=[]) G.yaG Gf rfl (λ_ _ _ _ _ _ i m=>Pu.Pk (λ_=>rfl) i m) (λf o A h s H E l=>by exact
  (be (vf (gQ (cap:=[0]) (N':=["place","left"]) (gA.of ["left"] (aI uB) rfl rfl (by decide +kernel)) rfl (nH G.yaU (aS (cz dJ dP G.yaQ dG (aS (gx gk gn (ao 0) aW) aZ)) aZ)) (λC c g n j=>by exact mD (d3 nM g6 (cz dJ dP G.yaQ dG (aS ((bV (Do G) (l.mono (by decide)) eM (aU (ao 1) (aU (ao 0) bN)))).de aZ)) aW rfl)) (λC c g n j=>by exact(ao 0))))))
theorem A9:bS ["left","known"] ["left","known"] (aI u8):=by ac_nf
theorem By(G:cK K d b a)(m:Nat):cO (b7 P w) P w K d b "needed_for" (4+2*m) ["left","known"] (bn K (fM a m)):=by
 induction m with
 |zero=>exact cW (k:=3) (pin:=[1]) G.yaF A9 rfl (λ_ _ _ _ _ _ j l=>Pu.O8 (λ_ _=>rfl) j l) (λf q A c s H E g=>zC)
 |succ m o=>exact cW (k:=4+2*m+1) (pin:=[1]) G.yaF A9 rfl (λ_ _ _ _ _ _ j l=>Pu.O8 (λ_ _=>rfl) j l) (λf q A c s H E g=>by exact
  (bi (fY (d3 (ir g.units) ik (cz dJ dP G.yaQ dG (aS (ao 0) aZ)) aW rfl) (be (cR aW)) fW)
  (bi (fY (OC 1 g.units (ao 0)) (be (OH 1 g.units (ao 0) (cz (FS rfl) FN G.yaT Fv (aS (gQ (cap:=[0,1]) (N':=["place","left","known"]) (gA.of ["left","known"] (aI u8) rfl rfl (by decide +kernel)) rfl (f9 ((bV (Eh G) (g.mono ∅) cN (aU (ao 0) bN))).de) (λC h i p n=>by exact k6) (λC h i p n=>by exact((bV (CJ G ∅ o) (g.mono ∅) eM (aU (ao 0) (aU (ao 1) (gU 2 bN))))).de)).de aZ)))) fW)
  (be (cR (Kc 1 g.units (ao 0)))))))
def Bz(a:Ad):af->R aG:=oQ (kX (fM a 17) (lq (dL iB (aq (az (et a.Seeker "left" 0 (jP a))) (ax))) (gN (pH) (bH))))
def mQ(a:Ad):af->R Slot:=gC 1 [0] (a5 0 (Bz a))
theorem LM:bS ["self"] ["self"] (aI zg):=by ac_nf
theorem BR(G:cK K d b a):lm (b7 P w) P w K d b a.Seeker "needed" 39 ["self"] (bn K (mQ a)) :=
 Ko (k:=38) (pin:=[0]) G.ya7 LM rfl (λ_ _ _ _ _ _ h i=>Pu.Pk (λ_=>rfl) h i) (λf j A c s H E g=>by exact
  (be (xn (DJ (By G 17) (g.mono (by decide)) cN (xw (sF sm sq G.yaY nK (aS ((mR 0 G.k_Seeker (zy G) (g.mono (by decide)) cN)).de aZ)) (BQ (BN) bN))))))
def pB(a:Ad):af->R Slot:=pi 1 (ro (λc=>vN (jM c)) a.Seeker "answers" 0)
theorem Mm:bS ["self"] ["self"] (aI x0):=by ac_nf
theorem JQ(G:cK K d b a):lm (b7 P w) P w K d b a.Seeker "heard" 1 ["self"] (bn K (pB a)) :=
 F9 (k:=0) G.ya5 Mm rfl (λ_ _ _ _ _ _ g h=>Pu.Pk (λ_=>rfl) g h) rfl (λf j A c s H E i=>by exact
  (MN 0 G.k_Seeker G.yaZ zM yL G.yaR xZ))
def MF(a:Ad):af->R aG:=aH (bd 1 (dL iB (aq (az (et a.Seeker "left" 0 (jP a))) (ax))))
 (aH (bA (dB (d2 (eqT aj) (dL aN (aq (dV 1) (ax))) (dC (.int 1)))) (a_ (dC .non)) (cg))
 (aH (gg 2 pH)
 (a_ (re [1,2] (oR (az (aC (jv a) (gV (dV 1) (bH))))) (az (aC (jo a (fM a 17)) (gV (dV 0) (gV (dV 1) (gO 2 (bH))))))))))
def lA(a:Ad):af->R Slot:=gC 1 [0] (a5 2 (MF a))
theorem Gh:bS ["self","left","known"] ["self"] (aI wd):=by ac_nf
theorem Dv(G:cK K d b a):lm (b7 P w) P w K d b a.Seeker "best" 42 ["self"] (bn K (lA a)) :=
 JD G.yaK (by decide) (k:=41) (pin:=[0]) G.ya4 Gh rfl (λ_ _ _ _ _ _ m n=>Pu.Pk (λ_=>rfl) m n) (λf p c T A h s H E g j=>by exact
  (bi (eJ 1 Gh.nd (sF sm sq G.yaY nK (aS ((mR 0 G.k_Seeker (zy G) (g.mono (by decide)) cN)).de aZ)))
  (bi (fY (d3 (ir g.units) ik (cz dJ dP G.yaQ dG (aS (ao 1) aZ)) aW rfl) (be (cR AO)) fW)
  (bi (mJ 2 Gh.nd BN)
  (be (cR (Gz (x:="place") (cap:=[1,2]) (N':=["place","left","known"]) (gA.of ["self","left","known"] (aI wd) rfl rfl (by decide +kernel)) rfl g (by first|exact j|exact u6.nox j) G.yaT (((bV (Eh G) (g.mono (by decide)) cN (aU (ao 1) bN))).de) (λq f o i l g=>by exact((bV (CJ G ∅ (By G 17)) (g.mono (by decide)) eM (aU (ao 0) (aU (ao 1) (gU 2 bN))))).de))))))))
def yaq(a:Ad):af->R aG:=aH (gg 1 (dL dz (ax)))
 (aH (jN 2 3 (az (aC (rH a) (gV (dV 0) (gO 1 (bH))))))
 (aH (gg 4 (pf a.Seeker (nE a) (gV (dV 2) (bH))))
 (aH (bA (kT (dB (d2 (eqT ah) (az (et a.Seeker "left" 4 (jP a))) (dV 3))) (kT (dB (d2 (eqT ah) (az (et a.Seeker "needed" 4 (mQ a))) (az (aC (kZ a) (gV (dV 3) (bH)))))) (dB (d2 (eqT ah) (az (et a.Seeker "heard" 4 (pB a))) (dF (dL dz (ax))))))) (a_ (dC (.bl aj))) (cg))
 (aH (bA (dB (d2 (eqT aj) (dL aN (aq (dV 3) (ax))) (dC (.int 1)))) (a_ (kY (d2 (rm aj) (az (et a.Seeker "best" 4 (lA a))) (dC .non)) (d2 (eqT aj) (az (et a.Seeker "needed" 4 (mQ a))) (dC (.int 0))))) (cg))
 (aH (gg 5 (dL dz (ax)))
 (aH (λε=>cq (c6 6 (dL fj (aq (dL aN (aq (d2 bB (dV 3) (dC (.int 0))) (ax))) (ax))) (aH (bd 7 (az (aC (mx a) (gV (dV 3) (gV (dV 6) (bH))))))
 (bA (gT (dB (d2 (b0 λi j=>decide (j<i)) (dL aN (aq (dV 7) (ax))) (dC (.int 1)))) (dB (d2 (eqT aj) (d2 a9 (dC (.int 1)) (dL nX (aq (dF (bK [] (bp (dV 7)) (bP) (az (aC (kZ a) (gV (dV 0) (bH)))))) (ax)))) (az (aC (kZ a) (gV (dV 3) (bH))))))) (mz 5 (dV 6)) (cg))) ε))
 (a_ (d2 (eqT aj) (az (et a.Seeker "best" 4 (lA a))) (ny bB 5 (dC (.int 0)))))))))))
def rf(a:Ad):af->R Slot:=bh 1 [] (a5 7 (yaq a))
theorem K1:bS ["_law_script","_law_town","_law_asked","_law_lines","_law_seeker","_law_due","_law_at","_law_parts_here"] ["_law_script"] (aI qS):=by ac_nf
theorem KG(G:cK K d b a){f:ac}{j:gJ}(p:ko K "law" "law" qS f j):gz P w K d b (b7 P w) 43 f j ["_law_script"] (bn K (rf a)) :=
 Cd (k:=42) (pin:=[]) p K1 rfl (λ_ _ _ _ _ _ l n=>Pu.Pk (λ_=>rfl) l n) (λf q A i s H E c=>by exact
  (bi (mJ 1 K1.nd (o0 aZ))
  (bi (zH 2 3 rfl K1.nd ((bV (J3 G) (c.mono (by decide)) cN (aU (ao 0) (gU 1 bN)))).de)
  (bi (mJ 4 K1.nd (Hz (JV G) (c.mono (by decide)) cN G.yad (aU (ao 2) bN)))
  (bi (fY ((uP (d3 (uO c.units) vG ((mR 4 G.k_Seeker (zy G) (c.mono (by decide)) cN)).de (ao 3) rfl) (uP (d3 (uO c.units) vG ((mR 4 G.k_Seeker (BR G) (c.mono (by decide)) cN)).de ((bV (yq G) (c.mono (by decide)) cN (aU (ao 3) bN))).de rfl) (xH (d3 (uO c.units) vG ((mR 4 G.k_Seeker (JQ G) (c.mono (by decide)) cN)).de (n9 aZ) rfl))))).dt (be (cR mB)) fW)
  (bi (fY (d3 (ir c.units) ik (cz dJ dP G.yaQ dG (aS (ao 3) aZ)) aW rfl) (be (cR (pF (oa FE Nf ((mR 4 G.k_Seeker (Dv G) (c.mono (by decide)) cN)).de AO rfl) (qU (oa (ir c.units) ik ((mR 4 G.k_Seeker (BR G) (c.mono (by decide)) cN)).de aW rfl))))) fW)
  (bi (mJ 5 K1.nd (o0 aZ))
  (bi (jI (lh 6 j5 rfl K1.nd (nH G.yaU (aS (cz dJ dP G.yaQ dG (aS (gx gk gn (ao 3) aW) aZ)) aZ)) (bi (eJ 7 K1.nd ((bV (El G) (c.mono (by decide)) eM (aU (ao 3) (aU (ao 6) bN)))).de)
  (be (fY ((Ce (d3 nM g6 (cz dJ dP G.yaQ dG (aS (ao 7) aZ)) aW rfl) (AQ (d3 (ir c.units) ik (cy fc eY aW (cz (BE rfl) Bj G.yaS yj (aS (gQ (cap:=[]) (N':=["_law_part"]) (gA.of ["_law_script","_law_town","_law_asked","_law_lines","_law_seeker","_law_due","_law_at","_law_parts_here"] (aI qS) rfl rfl (by decide +kernel)) rfl (f9 (ao 7)) (λC g h o m=>by exact k6) (λC g h o m=>by exact((bV (yq G) (c.mono (by decide)) eM (aU (ao 0) bN))).de)).de aZ))) ((bV (yq G) (c.mono (by decide)) eM (aU (ao 3) bN))).de rfl)))).dt (be (yJ 5 (ao 6))) fW)))))
  (be (cR (oa (ir c.units) ik ((mR 4 G.k_Seeker (Dv G) (c.mono (by decide)) cN)).de (Np 5 gk gn aW) rfl)))))))))))
end
end K31
namespace Mx
open L2 Pu
def bF:Tx:=[97,98,99]
def c_:Nat->List Tx
 |0=>[[]]
 |k+1=>bF.flatMap λc=>(c_ k).map (c::·)
theorem lz:∀(k:Nat) (x:Tx),x∈c_ k↔x.length=k/\∀c∈x,c∈bF
 |0,x=>by
  simp only[c_,gs];constructor
  .rintro rfl;simp
  .rintro⟨h,_⟩;exact E4.mp h
 |k+1,x=>by
  simp only[c_,List.mem_flatMap,bJ];constructor
  .rintro⟨c,i,y,g,rfl⟩;obtain⟨f,b⟩:=(lz k y).mp g;refine⟨by simp[f],λd a=>?_⟩;rcases bW.mp a with rfl|a
   .exact i
   .exact b d a
  .rintro⟨f,b⟩;cases x with
   |nil=>cases f
   |cons c y=>exact⟨c,b c (by simp),y,(lz k y).mpr ⟨wQ f,λd a=>b d (by simp[a])⟩,rfl⟩
theorem zA:∀k:Nat,(c_ k).length=3^k
 |0=>rfl
 |k+1=>by simp only[c_,bF,qr,E5,eN,bO,zA k,lX,Nat.pow_succ];lia
theorem CH(i j:Nat):c_ (i+j)=(c_ i).flatMap λh=>(c_ j).map (h++·):=by
 induction i with
 |zero=>simp[c_]
 |succ i a=>rw[show i+1+j=(i+j)+1 by lia];simp only[c_,a,List.flatMap_assoc,List.map_flatMap,List.flatMap_map,dX,Function.comp_def,E1]
theorem GA(k:Nat):c_ (k+1)=(c_ k).flatMap λh=>bF.map λc=>h++[c]:=by rw[CH k 1];congr 1
theorem zh:∀k:Nat,(c_ k).Pairwise (λa b=>a<b)
 |0=>by simp[c_]
 |k+1=>by
  simp only[c_];rw[List.pairwise_flatMap];refine⟨λc _=>?_,?_⟩
  .rw[EU];exact(zh k).imp λh=>List.cons_lt_cons_iff.mpr (.inr ⟨rfl,h⟩)
  .have:bF.Pairwise (λa b=>a<b):=by decide
   refine this.imp λh=>?_;intro x f y d;obtain⟨i,_,rfl⟩:=bJ.mp f;obtain⟨g,_,rfl⟩:=bJ.mp d;exact List.cons_lt_cons_iff.mpr (.inl h)
theorem FI{a b:Tx}(h:a<b):c0 a b=ah:=by simp only[c0,decide_eq_true_eq];exact List.le_of_lt h
theorem Gq(k:Nat):(c_ k).Pairwise (λa b=>c0 a b=ah):=(zh k).imp FI
theorem CC(k:Nat):(c_ k).Nodup:=(zh k).imp λh z=>by subst z;exact List.lt_irrefl _ h
def bE(z:Tx)(w:Nat):List Tx:=((bG z.length).filter λi=>decide (i+w<=z.length)).map λi=>(z.drop i).take w
theorem CW(w L:Nat):∀m:Nat,(bG m).filter (λi=>decide (i+w<=L))=bG (min m (L+1-w))
 |0=>by simp
 |m+1=>by
  rw[sV,Au,CW w L m];by_cases h:m+w<=L
  .rw[show min m (L+1-w)=m by lia,show min (m+1) (L+1-w)=m+1 by lia,sV];simp[h]
  .rw[show min (m+1) (L+1-w)=min m (L+1-w) by lia];simp[h]
theorem vR(z:Tx)(w:Nat)(a:1<=w):bE z w=(bG (z.length+1-w)).map λi=>(z.drop i).take w:=by unfold bE;rw[CW,show min z.length (z.length+1-w)=z.length+1-w by lia]
def nw(w:Nat)(t:Tx):Tx->List Tx
 |[]=>[]
 |c::s=>(t.drop (t.length+1-w)++[c])::nw w (t++[c]) s
theorem D_(w:Nat)(b:1<=w):∀(s t:Tx),w<=t.length+1->nw w t s=(bG s.length).map λi=>((t++s).drop (t.length+1-w+i)).take w
 |[],t,_=>by simp[nw]
 |c::s,t,h=>by
  rw[nw,D_ w b s (t++[c]) (by simp;lia),eX,Ae,dD,dX];congr 1
  .show _=((t++c::s).drop (t.length+1-w)).take w;rw[ES ∅,List.take_append];have a:(t.drop (t.length+1-w)).length=w-1:=by rw[m_];lia
   rw[a,om (by rw[a];lia),show w-(w-1)=1 by lia];rfl
  .refine j0 λi _=>?_;simp only[nh];rw[eN,sS,show t.length+1+1-w+i=t.length+1-w+Nat.succ i by lia];simp
theorem Bn{w:Nat}(a:1<=w){h s:Tx}(b:h.length=w-1):bE (h++s) w=nw w h s:=by rw[vR _ _ a,D_ w a s h ∅,eN,show h.length+s.length+1-w=s.length by lia];refine j0 λi _=>?_;rw[show h.length+1-w+i=i by lia]
theorem MX{w:Nat}(a:1<=w)(t:Tx)(c:Nat):bE (t++[c]) w=bE t w++(if w<=t.length+1 then [((t++[c]).drop (t.length+1-w)).take w] else []):=by
 rw[vR _ _ a,vR _ _ a,eN,sS];by_cases h:w<=t.length+1
 .rw[if_pos h,show t.length+1+1-w=(t.length+1-w)+1 by lia,sV,qd];congr 1;refine j0 λi b=>?_;have b:i<t.length+1-w:=by simpa using b
  rw[ES ∅,List.take_append_of_le_length (by rw[m_];lia)]
 .rw[if_neg h,show t.length+1+1-w=0 by lia,show t.length+1-w=0 by lia];simp
theorem Pe{z:Tx}{w:Nat}{x:Tx}(a:x∈bE z w):x.length=w/\∀c∈x,c∈z:=by simp only[bE,bJ,fN,kE,decide_eq_true_eq]at a;obtain⟨i,⟨_,h⟩,rfl⟩:=a;exact⟨by rw[p4,m_];lia,λc b=>E6 (wR b)⟩
def gF(w:Nat):Nat->Tx->List Tx->List Tx
 |0,t,_=>[t]
 |r+1,t,q=>bF.flatMap λc=>if t.drop (t.length+1-w)++[c]∈q then gF w r (t++[c]) (q.erase (t.drop (t.length+1-w)++[c]))else []
theorem AW(w:Nat):∀(r:Nat) (t:Tx) (q:List Tx),q.length=r->gF w r t q=((c_ r).filter λs=>(nw w t s).isPerm q).map (t++·)
 |0,t,q,hq=>by have:q=[]:=E4.mp hq;subst this;simp[gF,c_,nw,List.isPerm]
 |r+1,t,q,hq=>by
  simp only[gF,c_,E7,List.map_flatMap];congr 1;funext c;rw[kL,dX];by_cases h:t.drop (t.length+1-w)++[c]∈q
  .rw[if_pos h,AW w r (t++[c]) _ (by rw[List.length_erase_of_mem h,hq];rfl)];have e:((λs=>(nw w t s).isPerm q) ∘ λx=>c::x)=λs=>(nw w (t++[c]) s).isPerm (q.erase (t.drop (t.length+1-w)++[c])):=by funext s;show(q.contains (t.drop (t.length+1-w)++[c])&&(nw w (t++[c]) s).isPerm (q.erase (t.drop (t.length+1-w)++[c])))=_;rw[List.contains_iff_mem.mpr h,Af]
   rw[e];refine j0 λs _=>?_;simp
  .rw[if_neg h];have e:((λs=>(nw w t s).isPerm q) ∘ λx=>c::x)=λ_=>aj:=by
    funext s;show(q.contains (t.drop (t.length+1-w)++[c])&&(nw w (t++[c]) s).isPerm (q.erase (t.drop (t.length+1-w)++[c])))=_;have:q.contains (t.drop (t.length+1-w)++[c])=aj:=by rw[Bool.eq_false_iff];intro z;exact h (List.contains_iff_mem.mp z)
    rw[this,Bool.false_and]
   rw[e];simp
def bZ(w:Nat)(a:List Tx):List Tx:=(bw (e_ (a.map oB))).flatMap λh=>gF w a.length h a
theorem CS{a b:Type}{l:List a}{f:a->List b}(p:a->Bool)(h:∀x∈l,p x=aj->f x=[]):l.flatMap f=(l.filter p).flatMap f:=by
 induction l with
 |nil=>rfl
 |cons x l c=>
  rw[qr,c λy d=>h y (by simp[d]),E8];cases e:p x with
  |true=>simp
  |false=>rw[h x (by simp) e];simp
theorem sj{w:Nat}{a:List Tx}(g:1<=w)(D:1<=a.length)(j:∀x∈a,x.length=w/\∀c∈x,c∈bF):bZ w a=(c_ (w-1+a.length)).filter λz=>(bE z w).isPerm a:=by
 rw[CH,E7];have B:(λh=>((c_ a.length).map (h++·)).filter λz=>(bE z w).isPerm a)=λh=>((c_ a.length).filter λs=>(bE (h++s) w).isPerm a).map (h++·):=by funext h;rw[kL];rfl
 rw[B,CS (λh=>decide (h∈a.map oB))]
 .have A:(c_ (w-1)).filter (λh=>decide (h∈a.map oB))=bw (e_ (a.map oB)):=by
   refine vS ?_ ((Gq (w-1)).filter _);refine(List.perm_ext_iff_of_nodup ((CC (w-1)).filter _) (Og _)).mpr λx=>?_;rw[fN,decide_eq_true_eq,rL,lz];refine⟨λh=>h.2,λh=>⟨?_,h⟩⟩;obtain⟨y,d,rfl⟩:=bJ.mp h;obtain⟨u,r⟩:=j y d;exact⟨by rw[Aq,u],λc q=>r c ((List.dropLast_sublist _).mem q)⟩
  rw[A];unfold bZ;have:∀l:List Tx,(∀h∈l,h.length=w-1)->l.flatMap (λh=>gF w a.length h a)=l.flatMap λh=>((c_ a.length).filter λs=>(bE (h++s) w).isPerm a).map (h++·):=by
   intro l
   induction l with
   |nil=>intro _;rfl
   |cons h l n=>
    intro b;rw[qr,qr,n λy d=>b y (by simp[d]),AW w _ h a rfl];have v:(λs=>(nw w h s).isPerm a)=λs=>(bE (h++s) w).isPerm a:=by funext s;rw[Bn g (b h (by simp))]
    rw[v]
  refine this _ λh b=>?_;have p:=(rL _ _).mp ((jr _).mem_iff.mp b);obtain⟨y,d,rfl⟩:=bJ.mp p;rw[Aq,(j y d).1]
 .intro h b i;have C:=((lz _ h).mp b).1;rw[List.map_eq_nil_iff,Av];intro s o f;have m:=((lz _ s).mp o).1;rw[Bn g C,List.isPerm_iff]at f;cases s with
  |nil=>rw[lX]at m;lia
  |cons c s=>rw[nw,show h.length+1-w=0 by lia,Ag]at f;have:h++[c]∈a:=f.mem_iff.mp (by simp);rw[decide_eq_false_iff_not]at i;exact i (bJ.mpr ⟨_,this,by simp⟩)
def unD(w:Nat)(a:List Tx)(t:Tx):Bool:=(bE t w).all λx=>decide ((bE t w).count x<=a.count x)
theorem Cf{w:Nat}{a:List Tx}{t:Tx}:unD w a t=ah↔∀x,(bE t w).count x<=a.count x:=by
 unfold unD;rw[gK];constructor
 .intro h x;by_cases b:x∈bE t w
  .simpa using h x b
  .rw[E9 b];lia
 .intro h x _;simpa using h x
theorem Hs{w:Nat}(b:1<=w){a:List Tx}{t:Tx}{c:Nat}(h:unD w a (t++[c])=ah):unD w a t=ah:=by rw[Cf]at h ⊢;intro x;have:=h x;rw[MX b,E_]at this;lia
def rowsOf(w:Nat)(a:List Tx)(k:Nat):List Tx:=(c_ k).filter (unD w a)
theorem FW{w:Nat}(b:1<=w)(a:List Tx):rowsOf w a 0=[[]]:=by simp[rowsOf,c_,unD,bE]
theorem Mq{w:Nat}(f:1<=w)(a:List Tx)(k:Nat):rowsOf w a (k+1)=(rowsOf w a k).flatMap λt=>(bF.map λc=>t++[c]).filter (unD w a):=by
 unfold rowsOf;rw[GA,E7];refine CS _ λt _ b=>?_;rw[Av];intro z d g;obtain⟨c,_,rfl⟩:=bJ.mp d;rw[Hs f g]at b;cases b
theorem Oh(w:Nat)(a:List Tx)(k:Nat):(rowsOf w a k).length<=3^k:=by rw[<-zA k];exact Aw _ _
theorem Hc{w:Nat}{c:List Tx}(d:c.Pairwise (λa b=>c0 a b=ah))(L:Nat):(rowsOf w c L).filter (λz=>decide (bw (bE z w)=c))=(c_ L).filter λz=>(bE z w).isPerm c:=by
 unfold rowsOf;rw[List.filter_filter];refine Fa λz _=>?_;rw[lR,dW,decide_eq_true_eq,List.isPerm_iff];constructor
 .rintro⟨h,_⟩;rw[<-h];exact(jr _).symm
 .intro h;refine⟨by rw[xI h,vT d],?_⟩;rw[Cf];intro x;rw[h.count_eq];exact ba _
end Mx
namespace Sh
open L2 Pu Mx
theorem kx{a:Type}{f:List PV->Option a}{b:af->R (List PV)}{ε ε1:af}{xs:List PV}{v:a}(h:b ε=.ok xs ε1)(c:f xs=aa v):dL f b ε=.ok v ε1:=by unfold dL;rw[h];show aB (f xs) ε1=_;rw[c];rfl
theorem i5{d:af->R PV}{b:af->R (List PV)}{ε ε1 a:af}{x:PV}{xs:List PV}(h:d ε=.ok x ε1)(c:b ε1=.ok xs a):aq d b ε=.ok (x::xs) a:=by unfold aq;rw[h];show(b ε1).bind _=_;rw[c];rfl
theorem kj{ε:af}:ax ε=.ok [] ε:=rfl
theorem iC(pv:PV)(ε:af):dC pv ε=.ok pv ε:=rfl
theorem gE{f:PV->PV->Option PV}{b a:af->R PV}{ε ε1 ε2:af}{x y z:PV}(h:b ε=.ok x ε1)(d:a ε1=.ok y ε2)(c:f x y=aa z):d2 f b a ε=.ok z ε2:=by unfold d2;rw[h];show(a ε1).bind _=_;rw[d];show aB (f x y) ε2=_;rw[c];rfl
section
theorem Ki{a:List Tx}(h:a.length<64):lw [.lst (ak a)]=aa (.lst (ak (bw a))):=by show(f8 (ak a)).bind _=_;rw[nI,gu,if_pos h]
end
section
variable{a:Ad}
abbrev bo(b:List Int):Slot:=.val (.lst (b.map .int))
theorem En(b:List Int)(k:Int)(d:0<=k)(h:k<b.length):∃v,c9 (b.map PV.int) k=aa (.int v):=by
 have c:k.toNat<b.length:=∅
 refine⟨b[k.toNat],?_⟩;rw[Dl d (by rw[bO];exact c)];simp
theorem IJ(b:List Int):Pu.eqT aj (.lst (b.map .int)) (.lst [])=aa (.bl b.isEmpty):=by
 cases b with
 |nil=>rfl
 |cons x c=>
  have f:∀l:List Int,fq (l.map .int)=0:=λl=>by induction l with|nil=>rfl|cons y l d=>simp[fq,iq,d]
  have:fq ((x::c).map .int)=0:=f _;simp only[dD]at this;simp[Pu.eqT,dy,cY,fZ,iq,this]
theorem jO(b:Bool)(i j:Int):Pu.eqT b (.int i) (.int j)=aa (.bl (b^^decide (i=j))):=by show(if nY (V.int i) (V.int j)then aa (PV.bl (b^^decide (V.int i=V.int j)))else ae)=_;have:nY (V.int i) (V.int j)=ah:=rfl;rw[if_pos this];simp
theorem Jz(b:Bool)(x y:Tx):Pu.eqT b (.str x) (.str y)=aa (.bl (b^^decide (x=y))):=by show(if nY (tV x) (tV y)then aa (PV.bl (b^^decide (tV x=tV y)))else ae)=_;have:nY (tV x) (tV y)=ah:=rfl;rw[if_pos this];have e:(tV x=tV y)=(x=y):=propext ⟨Jd,λh=>by rw[h]⟩;simp only[e]
theorem GE(b:List Int)(k:Int)(j:0<=k):∃v,pe a [bo b,⇑k]=.ok (⇑v) [bo b,⇑k]:=by
 by_cases h:k<b.length
 .obtain⟨v,d⟩:=En b k j h;refine⟨v,?_⟩;simp![pe,yat,aN,bB,d,h]
 .have e:=IJ b;by_cases f:b=[]
  .subst f;refine⟨0,?_⟩;simp only[List.map_nil,Fb]at e;have l:¬k<0:=∅
   simp![pe,yat,aN,bB,e,l]
  .have g:0<b.length:=by cases b with|nil=>exact absurd rfl f|cons=>simp
   obtain⟨v,d⟩:=En b (k % b.length) (Int.emod_nonneg _ ∅) (Fc _ ∅);refine⟨v*31+k,?_⟩;have m:b.isEmpty=aj:=by cases b with|nil=>exact absurd rfl f|cons=>rfl
   rw[m]at e;have i:gy (.int k) (.int (b.length:Int))=aa (.int (k % b.length)):=by simp[gy];lia
   have c:jT (.int v) (.int 31)=aa (.int (v*31)):=by simp[jT,sv]
   simp![pe,yat,aN,bB,h,e,i,d,c,a9]
theorem KJ(b:List Int)(k m:Int)(q:0<=k)(i:0<m):∃v,0<=v/\v<m/\v7 a [bo b,⇑k,⇑m]=.ok (⇑v) [bo b,⇑k,⇑m]:=by
 obtain⟨c,p⟩:=GE (a:=a) b k q;have r:0<=(c*1103515245+7919*k+12345) % 2147483647:=Int.emod_nonneg _ (by decide);have d1:(c*1103515245+7919*k+12345) % 2147483647<2147483647:=Fc _ (by decide);have o:jT (.int c) (.int 1103515245)=aa (.int (c*1103515245)):=by simp[jT,sv]
 have n:jT (.int 7919) (.int k)=aa (.int (7919*k)):=by simp[jT,sv]
 have h:gy (.int (c*1103515245+7919*k+12345)) (.int 2147483647)=aa (.int ((c*1103515245+7919*k+12345) % 2147483647)):=by simp[gy]
 generalize (c*1103515245+7919*k+12345) % 2147483647=d at r d1 h;have l:rG (.int d) (.int 5)=aa (.int (d^5)):=by
  have:d.natAbs<2^64:=∅
  simp[rG,this]
 have g:gy (.int (d^5)) (.int 2147483647)=aa (.int (d^5 % 2147483647)):=by simp[gy]
 generalize d^5 % 2147483647=d5 at g;have f:gy (.int d5) (.int 999983)=aa (.int (d5 % 999983)):=by simp[gy]
 generalize d5 % 999983=d6 at f;have j:gy (.int d6) (.int m)=aa (.int (d6 % m)):=by simp[gy,i]
 refine⟨d6 % m,Int.emod_nonneg _ ∅,Fc _ i,?_⟩;simp![v7,yay,p,o,n,h,l,g,f,j,a9]
theorem wa(c:List Int)(b:List PV)(m:Int)(i:0<m)(j:b.length<=1000):∃v,0<=v/\v<m/\kC a [bo c,.own (.lst b),⇑m]=.ok (⇑v) [bo c,.own (.lst (b++[.int 0])),⇑m]:=by
 obtain⟨v,g,f,h⟩:=KJ (a:=a) c ((b.length:Int)+1) m ∅ i;refine⟨v,g,f,?_⟩;have d:b.length<bQ:=by unfold bQ;lia
 simp![kC,yau,aN,d,h]
theorem B0{c:Type}(b:List c)(v:Int)(f:0<=v)(g:v<b.length):∃x∈b,c9 b v=aa x:=by
 have d:v.toNat<b.length:=∅
 exact⟨b[v.toNat],wK _,Dl f d⟩
theorem zb(d:List Int)(c b:List PV)(i:c.length<=1000)(m:0<b.length):∃x∈b,jJ a [bo d,.own (.lst c),.val (.lst b)]=.ok (.val x) [bo d,.own (.lst (c++[.int 0])),.val (.lst b)]:=by obtain⟨v,g,f,j⟩:=wa (a:=a) d c (b.length:Nat) ∅ i;obtain⟨x,l,h⟩:=B0 b v g f;refine⟨x,l,?_⟩;simp![jJ,yaA,aN,bB,j,h]
theorem n_{n:Nat}(h:n<=1000000):fj [.int n]=aa (fG 0 n):=by show(if(n:Int)<=1000000/\-1000000<=(n:Int)then aa (fG 0 (n:Int).toNat)else ae)=_;rw[if_pos ⟨∅,∅⟩];simp
theorem rN{x y:Tx}(h:x.length+y.length<=bQ):a9 (.str x) (.str y)=aa (.str (x++y)):=by show(if(x++y).length<=bQ then aa (PV.str (x++y))else ae)=_;rw[if_pos (by rw[eN];exact h)]
theorem cx{d1 d2:af->R aG}{ε ε1:af}(h:d1 ε=.ok .next ε1):aH d1 d2 ε=d2 ε1:=by unfold aH;rw[h]
theorem jB{i:Nat}{d:af->R PV}{ε ε1:af}{x:PV}(h:d ε=.ok x ε1):bd i d ε=.ok .next (ε1.set i (.val x)):=by unfold bd;rw[h];rfl
theorem x5{i:Nat}{db:af->R aG}{I:Nat->af->Prop}{N:Nat}(step:∀k ε x,k<N->I k ε->∃b,db (ε.set i (.val x))=.ok .next b/\I (k+1) b):∀(c:List PV) (k:Nat) (ε:af),k+c.length<=N->I k ε->∃b,eU i db c ε=.ok .next b/\I (k+c.length) b
 |[],k,ε,_,h=>⟨ε,rfl,h⟩
 |x::c,k,ε,f,h=>by simp only[eX]at f;obtain⟨ε1,m,j⟩:=step k ε x ∅ h;obtain⟨d,l,g⟩:=x5 step c (k+1) ε1 ∅ j;refine⟨d,by unfold eU;rw[m];exact l,?_⟩;rw[eX,show k+(c.length+1)=k+1+c.length by lia];exact g
theorem sD{i:Nat}{db:af->R aG}{I:List PV->af->Prop}(step:∀(x:PV) (r:List PV) ε,I (x::r) ε->∃b,db (ε.set i (.val x))=.ok .next b/\I r b):∀(c:List PV) (ε:af),I c ε->∃b,eU i db c ε=.ok .next b/\I [] b
 |[],ε,h=>⟨ε,rfl,h⟩
 |x::c,ε,h=>by obtain⟨f,m,j⟩:=step x c ε h;obtain⟨d,l,g⟩:=sD step c f j;exact⟨d,by unfold eU;rw[m];exact l,g⟩
theorem LB(o:List Int)(l:List PV)(g b:Nat)(P:g<=b)(Z:b<=100)(Y:l.length<=500):∃(z:Tx) (j:List PV),g<=z.length/\z.length<=b/\(∀c∈z,c∈bF)/\j.length<=l.length+2+b /\ mf a [bo o,.own (.lst l),⇑g,⇑b]=.ok (↥z) [bo o,.own (.lst j),⇑g,⇑b]:=by
 obtain⟨f,A,M⟩:=zb (a:=a) o l [.int 1,.int 2,.int 2,.int 3,.int 3,.int 3] ∅ (by decide);obtain⟨h,rfl,S,f1⟩:∃h:Int,f=.int h/\0<h/\h<=3:=by simp only[bW,iR,or_false]at A;rcases A with rfl|rfl|rfl|rfl|rfl|rfl <;> exact⟨_,rfl,by decide,by decide⟩
 obtain⟨m,X,W,p⟩:=wa (a:=a) o (l++[.int 0]) ((b:Int)-g+1) ∅ (by simp;lia);obtain⟨n,O⟩:∃n:Nat,(g:Int)+m=n:=⟨(g+m).toNat,∅⟩
 have L:fj [.int ((g:Int)+m)]=aa (fG 0 n):=by rw[O];exact n_ ∅
 have bu:(fG 0 n).length=n:=by simp[fG]
 obtain⟨C,B,j,z,q,rfl,y,J,u⟩:=x5 (i:=6) (db:=bd 5 (d2 a9 (dV 5) (d2 bB (dC (.str [97,98,99])) (az (aC (kC a) (gV (dV 0) (gO 1 (gV (dV 4) (Pu.bH)))))))))
  (I:=λk w=>∃j z q,w=[bo o,.own (.lst j),⇑g,⇑b,⇑h,↥z,q]/\z.length=k/\j.length<=l.length+2+k/\∀c∈z,c∈bF) (N:=n)
  (by
   rintro k w x hk ⟨j,z,q,rfl,y,J,u⟩;obtain⟨v,D,T,K⟩:=wa (a:=a) o j h S ∅;obtain⟨c,Q,F⟩:=B0 bF v D (by simp[bF];lia);refine⟨[bo o,.own (.lst (j++[.int 0])),⇑g,⇑b,⇑h,↥(z++[c]),.val x],?_,j++[.int 0],z++[c],.val x,rfl,by simp[y],by simp;lia,λd p=>?_⟩
   .have E:bB (.str [97,98,99]) (.int v)=aa (.str [c]):=by
     show(c9 bF v).map _=_;rw[F];rfl
    have G:a9 (.str z) (.str [c])=aa (.str (z++[c])):=rN (by simp[bQ];lia);simp![K,E,G]
   .simp only[lO,gs]at p;rcases p with p|rfl
    .exact u d p
    .exact Q)
  (fG 0 n) 0 [bo o,.own (.lst (l++[.int 0]++[.int 0])),⇑g,⇑b,⇑h,.val (.str []),.none] ∅ ⟨l++[.int 0]++[.int 0],[],.none,rfl,rfl,by simp,by simp⟩
 refine⟨z,j,∅,∅,u,∅,?_⟩;have H:eT (.int b) (.int g)=aa (.int ((b:Int)-g)):=rfl;have s:a9 (.int ((b:Int)-g)) (.int 1)=aa (.int ((b:Int)-g+1)):=rfl;have r:a9 (.int g) (.int m)=aa (.int ((g:Int)+m)):=rfl;simp only[qj,E1,fS]at B;simp![mf,yaC,M,H,s,r,p,c6,L,cq,B]
theorem gW{cap:List Nat}{dt:af->R Bool}{de:af->R PV}{ε:af}(p:PV->Bool)(f:PV->PV):∀(xs:List PV),(∀x∈xs,bg (bD cap dt x ε)=.ok (p x) ε/\(p x=ah->bg (bD cap de x ε)=.ok (f x) ε))->∀b,dA cap dt de xs b ε=.ok (b++(xs.filter p).map f) ε
 |[],_,b=>by simp[dA]
 |x::xs,h,b=>by
  have g:=h x (by simp);have d:=gW p f xs (λy i=>h y (by simp[i]));unfold dA;rw[g.1];simp only[R.bind_ok];cases c:p x with
  |false=>simp only[d b,E8,c];simp
  |true=>simp only[g.2 c,R.bind_ok,d (b++[f x]),E8,c];simp
theorem Kq{z:Tx}{i w:Nat}(h:i+w<=z.length):dH z (aa (i:Int)) (aa ((i:Int)+w))=(z.drop i).take w:=by
 unfold dH;have c:HT.sIx z.length 0 (aa (i:Int))=i:=by rw[HT.sIx_nat];lia
 have b:HT.sIx z.length z.length (aa ((i:Int)+w))=i+w:=by rw[show(i:Int)+w=((i+w:Nat):Int) by lia,HT.sIx_nat];lia
 rw[c,b,Nat.add_sub_cancel_left]
theorem vO(z:Tx)(w:Nat)(o:z.length<=60):im a [↥z,⇑w]=.ok (.val (.tup (ak (bw (bE z w))))) [↥z,⇑w]:=by
 have g:fj [.int (z.length:Nat)]=aa (fG 0 z.length):=n_ ∅;have b:=gW (cap:=[0,1]) (dt:=(dB (d2 (b0 λi j=>decide (i<=j)) (d2 a9 (dV 0) (dV 2)) (dL aN (aq (dV 1) (ax)))))) (de:=(c5 cF (dV 1) (cG (dV 0)) (cG (d2 a9 (dV 0) (dV 2)))))
  (ε:=[↥z,⇑w]) (λx=>match x with|.int i=>decide (i+w<=z.length)|_=>aj) (λx=>match x with|.int i=>.str (dH z (aa i) (aa (i+w)))|_=>.non) (fG 0 z.length)
  (by
   intro x d;simp only[fG,bJ]at d;obtain⟨i,f,rfl⟩:=d;refine⟨?_,λh=>?_⟩
   .simp![bD,cE,bg,aN,a9]
   .simp![bD,cE,bg,aN,a9,c5,cG,cF]) []
 have l:(bE z w).length<64:=by unfold bE;rw[bO];have:=Aw (λi=>decide (i+w<=z.length)) (bG z.length);rw[ET]at this;lia
 have m:(((fG 0 z.length).filter (λx=>match x with|.int i=>decide (i+w<=z.length)|_=>aj)).map (λx=>match x with|.int i=>PV.str (dH z (aa i) (aa (i+w)))|_=>.non))=ak (bE z w):=by
  unfold fG bE ak;rw[kL,dX,dX];have n:((λx=>match x with|PV.int i=>decide (i+(w:Int)<=(z.length:Nat))|_=>aj) ∘ λ(i:Nat)=>PV.int (0+(i:Nat)))=λi=>decide (i+w<=z.length):=by funext i;simp only[nh];congr 1;simp;lia
  rw[n];refine j0 λi f=>?_;have:=(fN.mp f).2;simp only[decide_eq_true_eq]at this;simp only[nh,Int.zero_add];rw[Kq this]
 simp only[fS]at b;rw[m]at b;have c:=Ki l;generalize ak (bw (bE z w))=T at c;generalize ak (bE z w)=B at b c;simp![im,yaB,aN,g,bK,b,c,iB]
structure Good(l:Tx)(w:Nat)(ls:List Tx):Prop where
 len:∀x∈ls,x.length=w
 abc:∀x∈ls,∀c∈x,c∈l
 some:1<=ls.length
 few:ls.length<=9
theorem gD(b:List Tx):(ak b).length=b.length:=by simp[ak]
theorem pN{n:Nat}{v:Int}(c:0<=v)(b:v<n):li n v=aa v.toNat:=by unfold li;rw[if_pos c,if_pos b]
theorem IZ{c:Type}(b:List c)(n:Nat):dH b ae (aa (n:Int))=b.take n:=by
 unfold dH;have d:HT.sIx b.length 0 ae=0:=rfl;rw[d,HT.sIx_nat,Ag,Nat.sub_zero];by_cases h:n<=b.length
 .rw[Ax h]
 .rw[Fe ∅,om (ba _),om ∅]
theorem KS{c:Type}(b:List c)(n:Nat):dH b (aa (n:Int)) ae=b.drop n:=by
 unfold dH;have d:HT.sIx b.length b.length ae=b.length:=rfl;rw[d,HT.sIx_nat];by_cases h:n<=b.length
 .rw[Ax h,om (by rw[m_];lia)]
 .rw[Fe ∅,Ay ∅,Ay ∅];simp
theorem pr{t T:String}{b:Bool}{x:PV}(h:sC x=aa t)(e:iO [] (.type t) (.type T)=aa b):iG [x,.raw (.ty T)]=aa (.bl b):=by show((sC x).bind λt=>(iO [] (.type t) (.type T)).map λb=>PV.bl b)=_;rw[h,gu,e];rfl
theorem Lr:iO [] (.type "int") (.type "int")=aa ah:=by decide +kernel
theorem Na:iO [] (.type "int") (.type "bool")=aa aj:=by decide +kernel
theorem KH:iO [] (.type "str") (.type "str")=aa ah:=by decide +kernel
theorem xN:iO [] (.type "tuple") (.type "tuple")=aa ah:=by decide +kernel
theorem G7(bs:List Bool):kW (bs.map .bl)=aa bs:=by
 induction bs with
 |nil=>rfl
 |cons b bs c=>show(kW (bs.map .bl)).map (b::·)=_;rw[c];rfl
theorem yg(bs:List Bool):pw [.lst (bs.map .bl)]=aa (.bl (bs.all id)):=by show(kW (bs.map .bl)).map _=_;rw[G7];rfl
theorem J7(z s:Tx):v9 a [↥z,↥s]=.ok (.val (.bl (z.all s.contains))) [↥z,↥s]:=by
 have b:=gW (cap:=[1]) (dt:=bP) (de:=(d2 (oU aj) (dV 0) (dV 1))) (ε:=[↥z,↥s]) (λ_=>ah) (λx=>match x with|.str [c]=>.bl (s.contains c)|_=>.non) (z.map λc=>.str [c])
  (by
   intro x g;obtain⟨c,_,rfl⟩:=bJ.mp g;refine⟨by simp![bD,cE,bg,bP],λ_=>?_⟩;have i:oU aj (.str [c]) (.str s)=aa (.bl (s.contains c)):=by rw[<-GP];simp[oU]
   simp![bD,cE,bg,i]) []
 have h:((z.map λc=>PV.str [c]).filter (λ_=>ah)).map (λx=>match x with|.str [c]=>PV.bl (s.contains c)|_=>.non)=(z.map s.contains).map .bl:=by rw[qt.mpr (by simp),dX,dX];rfl
 rw[fS,h]at b;have f:(z.map s.contains).all id=z.all s.contains:=by rw[wH];rfl
 generalize z.map s.contains=bs at b f;have d:=yg bs;rw[f]at d;simp![v9,yak,bK,bp,gH,b,d]
def iW(w:Int)(s z:Tx):Bool:=decide ((z.length:Int)=w)&&z.all s.contains
theorem Hj(z s:Tx)(w:Int):pI a [↥z,⇑w,↥s]=.ok (.val (.bl (iW w s z))) [↥z,⇑w,↥s]:=by
 have d:iG [.str z,.raw (.ty "str")]=aa (.bl ah):=pr rfl KH;have f:=J7 (a:=a) z s;have c:aN [.str z]=aa (.int (z.length:Nat)):=rfl;have b:=jO aj (z.length:Nat) w;unfold iW;by_cases h:((z.length:Nat):Int)=w
 .simp only[h,decide_true,Bool.xor_true,Bool.not_false]at b;simp![pI,yap,d,c,b,f,h]
 .simp only[h,decide_false,Bool.xor_false]at b;simp![pI,yap,d,c,b,h]
theorem A8(d c:List Tx):fZ (ak d) (ak c)=aa (decide (d=c)):=by
 induction d generalizing c with
 |nil=>cases c <;> simp[ak,fZ]
 |cons x d f=>
  cases c with
  |nil=>simp[ak,fZ]
  |cons y c=>
   show(cY (.str x) (.str y)).bind (λa=>(fZ (ak d) (ak c)).map λb=>a&&b)=_;rw[f];have:cY (.str x) (.str y)=aa (decide (x=y)):=by
    show aa (tS x == tS y)=_;by_cases h:x=y
    .subst h;simp
    .have:tS x≠tS y:=λz=>h (o9 z);simp[h,this]
   rw[this];simp[qu]
theorem xJ(b:List Tx):fq (ak b)=0:=by
 induction b with
 |nil=>rfl
 |cons x b c=>show max (iq (.str x)) (fq (ak b))=0;rw[c];rfl
theorem Eg(b:Bool)(c d:List Tx):Pu.eqT b (.lst (ak c)) (.lst (ak d))=aa (.bl (b^^decide (c=d))):=by show(if iq (.lst (ak c))<=8 then(fZ (ak c) (ak d)).map (λk=>PV.bl (b^^k))else ae)=_;rw[if_pos (by show fq (ak c)+1<=8;rw[xJ];decide),A8];rfl
theorem HD(b:List Tx)(w:Int)(s:Tx)(q:1<=b.length)(p:b.length<=9):mC a [.val (.tup (ak b)),⇑w,↥s]=.ok (.val (.bl (b.all (iW w s)&&decide (b=bw b)))) [.val (.tup (ak b)),⇑w,↥s]:=by
 have h:iG [.tup (ak b),.raw (.ty "tuple")]=aa (.bl ah):=pr rfl xN;have i:aN [.tup (ak b)]=aa (.int (b.length:Nat)):=by simp[aN,gD]
 have c1:(1:Int)<=(b.length:Nat):=∅
 have c2:((b.length:Nat):Int)<=9:=∅
 have d:=gW (cap:=[1,2]) (dt:=bP) (de:=(az (aC (pI a) (gV (dV 0) (gV (dV 1) (gV (dV 2) (Pu.bH))))))) (ε:=[.val (.tup (ak b)),⇑w,↥s]) (λ_=>ah) (λx=>match x with|.str z=>.bl (iW w s z)|_=>.non) (ak b)
  (by intro x m;obtain⟨z,_,rfl⟩:=bJ.mp m;refine⟨by simp![bD,cE,bg,bP],λ_=>?_⟩;have n:=Hj (a:=a) z s w;simp![bD,cE,bg,n]) []
 have o:((ak b).filter (λ_=>ah)).map (λx=>match x with|.str z=>PV.bl (iW w s z)|_=>.non)=(b.map (iW w s)).map .bl:=by rw[qt.mpr (by simp)];unfold ak;rw[dX,dX];rfl
 rw[fS,o]at d;have g:(b.map (iW w s)).all id=b.all (iW w s):=by rw[wH];rfl
 generalize b.map (iW w s)=bs at d g;have f:=yg bs;have l:b.length<64:=∅
 have c:=Eg aj b (bw b);cases j:b.all (iW w s)with
 |false=>rw[g,j]at f;simp![mC,yah,h,i,c1,c2,bK,bp,gH,d,f]
 |true=>rw[g,j]at f;simp only[tm]at c;simp![mC,yah,h,i,c1,c2,bK,bp,gH,d,f,jM,lw,nI,l,c]
theorem OA(b:List Tx)(w:Int)(s:Tx)(f:b.length=0\/9<b.length):mC a [.val (.tup (ak b)),⇑w,↥s]=.ok (.val (.bl aj)) [.val (.tup (ak b)),⇑w,↥s]:=by
 have c:iG [.tup (ak b),.raw (.ty "tuple")]=aa (.bl ah):=pr rfl xN;have d:aN [.tup (ak b)]=aa (.int (b.length:Nat)):=by simp[aN,gD]
 by_cases c1:(1:Int)<=(b.length:Nat)
 .have c2:¬((b.length:Nat):Int)<=9:=∅
  simp![mC,yah,c,d,c1,c2]
 .simp![mC,yah,c,d,c1]
theorem M6(i:Int):uF a [⇑i]=.ok (.val (.bl ah)) [⇑i]:=by have c:iG [.int i,.raw (.ty "int")]=aa (.bl ah):=pr rfl Lr;have b:iG [.int i,.raw (.ty "bool")]=aa (.bl aj):=pr rfl Na;simp![uF,yan,c,b]
theorem Iw(i:Int):pP a [⇑i]=.ok (.val (.bl (decide (1<=i/\i<=4)))) [⇑i]:=by
 have h:=M6 (a:=a) i;by_cases c1:1<=i
 .by_cases c2:i<=4
  .simp![pP,yao,h,c1,c2]
  .simp![pP,yao,h,c1,c2]
 .simp![pP,yao,h,c1]
def qY(s:Tx)(w:Int)(b:List Tx):Bool:=decide (1<=w/\w<=4)&&(decide (1<=b.length/\b.length<=9)&&(b.all (iW w s)&&decide (b=bw b)))
theorem OJ(s:Tx)(w:Int)(b:List Tx):pj a [.val (.tup [.int w,.tup (ak b)]),↥s]=.ok (.val (.bl (qY s w b))) [.val (.tup [.int w,.tup (ak b)]),↥s]:=by
 have g:iG [.tup [.int w,.tup (ak b)],.raw (.ty "tuple")]=aa (.bl ah):=pr rfl xN;have j:aN [.tup [.int w,.tup (ak b)]]=aa (.int 2):=rfl;have f:=jO ah 2 2;simp only[decide_true,Bool.true_xor,Bool.not_true]at f;have i:bB (.tup [.int w,.tup (ak b)]) (.int 0)=aa (.int w):=rfl;have h:bB (.tup [.int w,.tup (ak b)]) (.int 1)=aa (.tup (ak b)):=rfl;have d:=Iw (a:=a) w;unfold qY;by_cases c:1<=w/\w<=4
 .rw[decide_eq_true c]at d ⊢;by_cases c2:1<=b.length/\b.length<=9
  .have l:=HD (a:=a) b w s c2.1 c2.2;rw[decide_eq_true c2];simp![pj,yam,g,j,f,i,h,d,l]
  .have l:=OA (a:=a) b w s ∅;rw[decide_eq_false c2];simp![pj,yam,g,j,f,i,h,d,l]
 .rw[decide_eq_false c]at d ⊢;simp![pj,yam,g,j,f,i,h,d]
abbrev vw(w:Int)(b:List Tx):Bool:=qY bF w b
theorem IT(w:Int)(b:List Tx):vF a [.val (.tup [.int w,.tup (ak b)])]=.ok (.val (.bl (vw w b))) [.val (.tup [.int w,.tup (ak b)])]:=by have c:=OJ (a:=a) bF w b;simp only[bF]at c;simp![vF,yal,c];rfl
theorem MP{w:Int}{b:List Tx}(h:vw w b=ah):uZ a [.val (.tup [.int w,.tup (ak b)])]=.ok (.val .non) [.val (.tup [.int w,.tup (ak b)])]:=by have c:=IT (a:=a) w b;rw[h]at c;simp![uZ,yai,c]
theorem Good.vw{w:Nat}{d:List Tx}(g:Good bF w d)(n:1<=w)(m:w<=4)(h:d.Pairwise (λa b=>c0 a b=ah)):vw w d=ah:=by
 have l:d.all (iW w bF)=ah:=by rw[gK];intro x f;unfold iW;rw[g.len x f,decide_eq_true rfl,Af,gK];intro c i;simpa using g.abc x f c i
 have j:decide (d=bw d)=ah:=decide_eq_true (vT h).symm;show qY bF w d=ah;unfold qY;rw[l,j,decide_eq_true (show 1<=(w:Int)/\(w:Int)<=4 by lia),decide_eq_true (show 1<=d.length/\d.length<=9 from⟨g.some,g.few⟩)];rfl
end
def cQ(m:List (Tx×Int))(x:Tx):Option Int:=(m.find? λp=>decide (p.1=x)).map (·.2)
def dq(m:List (Tx×Int))(x:Tx)(n:Int):List (Tx×Int):=if(m.any λp=>decide (p.1=x))=ah then m.map (λp=>if p.1=x then(p.1,n)else p)else m++[(x,n)]
def dk(m:List (Tx×Int)):List (aD×PV):=m.map λp=>(Sum.inr (tS p.1),PV.int p.2)
theorem zJ(x y:Tx):((Sum.inr (tS x):aD)=Sum.inr (tS y))=(x=y):=propext ⟨λh=>o9 (Sum.inr.inj h),λh=>by rw[h]⟩
theorem uH(m:List (Tx×Int))(x:Tx):iZ (dk m) (Sum.inr (tS x))=(cQ m x).map .int:=by
 induction m with
 |nil=>rfl
 |cons p m a=>
  show((List.find? _ ((Sum.inr (tS p.1),PV.int p.2)::dk m)).map (·.2))=_;unfold cQ;rw[fQ,fQ];simp only[zJ];by_cases h:p.1=x
  .simp[h]
  .simp only[h,decide_false];exact a
theorem N3(m:List (Tx×Int))(x:Tx):((dk m).any λa=>decide (a.1=(Sum.inr (tS x):aD)))=m.any λp=>decide (p.1=x):=by unfold dk;rw[List.any_map];congr 1;funext p;simp only[nh,zJ]
theorem xU(m:List (Tx×Int))(x:Tx)(n:Int):oV (dk m) (Sum.inr (tS x)) (.int n)=dk (dq m x n):=by
 unfold oV dq;rw[N3];split
 .unfold dk;rw[dX,dX];refine j0 λp _=>?_;simp only[nh,zJ];split <;> rfl
 .unfold dk;simp
theorem Di(m:List (Tx×Int)):n8 (dk m)=aa (m.any λp=>decide (p.2≠0)):=by
 induction m with
 |nil=>rfl
 |cons p m a=>show(n8 (dk m)).map _=_;rw[a];simp
theorem xz{m:List (Tx×Int)}{x:Tx}(h:(m.any λp=>decide (p.1=x))=aj):cQ m x=ae:=by unfold cQ;rw[Az,Ff];intro p a;have:=EI.mp h p a;simpa using this
theorem Jm{m:List (Tx×Int)}{x y:Tx}{n:Int}(h:(m.any λp=>decide (p.1=x))=aj):cQ (m++[(x,n)]) y=if y=x then aa n else cQ m y:=by
 have a:=xz h;unfold cQ at a ⊢;rw[List.find?_append];by_cases e:y=x
 .subst e;rw[Az]at a;simp[a]
 .rw[if_neg e];have:¬x=y:=λz=>e z.symm;cases b:m.find? (λp=>decide (p.1=y))with
  |none=>simp[this]
  |some p=>simp
theorem Gy{m:List (Tx×Int)}{x y:Tx}{n:Int}:cQ (m.map λp=>if p.1=x then(p.1,n)else p) y=(cQ m y).map λz=>if y=x then n else z:=by
 induction m with
 |nil=>rfl
 |cons p m a=>
  unfold cQ at a ⊢;rw[dD,fQ,fQ];by_cases h:p.1=x
  .rw[if_pos h];by_cases e:p.1=y
   .simp[e,show y=x from e.symm.trans h]
   .simp only[e,decide_false];exact a
  .rw[if_neg h];by_cases e:p.1=y
   .simp[e,show ¬y=x from λz=>h (e.trans z)]
   .simp only[e,decide_false];exact a
theorem Oq{m:List (Tx×Int)}{x:Tx}(h:(m.any λp=>decide (p.1=x))=ah):∃n,cQ m x=aa n:=by
 unfold cQ;cases a:m.find? (λp=>decide (p.1=x))with
 |none=>rw[Ff]at a;obtain⟨p,c,b⟩:=j6.mp h;exact absurd b (a p c)
 |some p=>exact⟨_,rfl⟩
theorem xc(m:List (Tx×Int))(x y:Tx)(n:Int):cQ (dq m x n) y=if y=x then aa n else cQ m y:=by
 unfold dq;by_cases h:(m.any λp=>decide (p.1=x))=ah
 .rw[if_pos h,Gy];by_cases e:y=x
  .subst e;obtain⟨k,a⟩:=Oq h;rw[a];simp
  .simp[e]
 .rw[if_neg h,Jm (Bool.eq_false_iff.mpr h)]
structure my(m:List (Tx×Int))(q:List Tx):Prop where
 nd:(m.map (·.1)).Nodup
 get:∀x,(cQ m x).getD 0=(q.count x:Nat)
theorem my.mem{m:List (Tx×Int)}{q:List Tx}(h:my m q){p:Tx×Int}(a:p∈m):cQ m p.1=aa p.2:=by
 have nd:=h.nd;clear h
 induction m with
 |nil=>cases a
 |cons r m b=>
  unfold cQ;rw[fQ];rcases bW.mp a with rfl|a
  .simp
  .rw[dD,jc]at nd;have:¬r.1=p.1:=λz=>nd.1 (bJ.mpr ⟨p,a,z.symm⟩);simp only[this,decide_false];exact b a nd.2
theorem BG{m:List (Tx×Int)}{x:Tx}{n:Int}:(dq m x n).map (·.1)=if(m.any λp=>decide (p.1=x))=ah then m.map (·.1)else m.map (·.1)++[x]:=by
 unfold dq;split
 .rw[dX];refine j0 λp _=>?_;simp only[nh];split <;> rfl
 .simp
theorem Cg{m:List (Tx×Int)}{x:Tx}{n:Int}(h:(m.map (·.1)).Nodup):((dq m x n).map (·.1)).Nodup:=by
 rw[BG];split
 .exact h
 .rename_i f;rw[wP];refine⟨h,by simp,λa g b c=>?_⟩;rw[gs]at c;subst c;rintro rfl;obtain⟨p,d,rfl⟩:=bJ.mp g;exact f (j6.mpr ⟨p,d,by simp⟩)
theorem my.any{m:List (Tx×Int)}{q:List Tx}(h:my m q):(m.any λp=>decide (p.2≠0))=!q.isEmpty:=by
 cases q with
 |nil=>rw[Fb,Bool.not_true,EI];intro p b;have a:=h.get p.1;rw[h.mem b]at a;simpa using a
 |cons x q=>
  rw[List.isEmpty_cons,Bool.not_false,j6];have a:=h.get x;rw[List.count_cons_self]at a;cases e:m.find? (λp=>decide (p.1=x))with
  |none=>unfold cQ at a;rw[e]at a;simp at a;lia
  |some p=>unfold cQ at a;rw[e]at a;refine⟨p,Fg e,?_⟩;simp at a;simp;lia
theorem my.dec{m:List (Tx×Int)}{q:List Tx}(h:my m q){x:Tx}(i:x∈q):∃n,cQ m x=aa n/\0<n/\my (dq m x (n-1)) (q.erase x)/\cQ (dq m x (n-1)) x=aa (n-1)/\dq (dq m x (n-1)) x (n-1+1)=m:=by
 have a:=h.get x;have o:0<q.count x:=List.count_pos_iff.mpr i;cases e:cQ m x with
 |none=>rw[e]at a;simp at a;lia
 |some n=>
  rw[e]at a;simp only[Fh]at a;refine⟨n,rfl,∅,⟨Cg h.nd,λy=>?_⟩,by rw[xc,if_pos rfl],?_⟩
  .rw[xc];by_cases c:y=x
   .subst c;rw[if_pos rfl,List.count_erase_self];simp only[Fh];lia
   .rw[if_neg c,List.count_erase_of_ne (d_ (d_ c))];exact h.get y
  .have f:(m.any λp=>decide (p.1=x))=ah:=by
    cases z:(m.any λp=>decide (p.1=x))with
    |true=>rfl
    |false=>rw[xz z]at e;cases e
   have j:((dq m x (n-1)).any λp=>decide (p.1=x))=ah:=by unfold dq;rw[if_pos f];obtain⟨p,d,b⟩:=j6.mp f;refine j6.mpr ⟨_,bJ.mpr ⟨p,d,rfl⟩,?_⟩;rw[decide_eq_true_eq]at b;rw[if_pos b];simpa using b
   have l:dq (dq m x (n-1)) x (n-1+1)=(m.map λp=>if p.1=x then(p.1,n-1)else p).map λp=>if p.1=x then(p.1,n-1+1)else p:=by show(if((dq m x (n-1)).any λp=>decide (p.1=x))=ah then _ else _)=_;rw[if_pos j];unfold dq;rw[if_pos f]
   rw[l,dX];have:∀p∈m,((λp:Tx×Int=>if p.1=x then(p.1,n-1+1)else p) ∘ λp:Tx×Int=>if p.1=x then(p.1,n-1)else p) p=p:=by
    intro p d;simp only[nh];by_cases c:p.1=x
    .rw[if_pos c,if_pos c];have g:=h.mem d;rw[c,e]at g;cases g;rw[show p.2-1+1=p.2 by lia]
    .rw[if_neg c,if_neg c]
   rw[j0 this,List.map_id''];intro p;rfl
theorem my.zero{m:List (Tx×Int)}{q:List Tx}(h:my m q){x:Tx}(a:x∉q):(cQ m x).getD 0=0:=by rw[h.get,E9 a];rfl
section
variable{a:Ad}
theorem Nm(b:List Tx)(G:b.length<=100):∃m,my m b/\m.length<=b.length/\sE a [.val (.tup (ak b))]=.ok (.own (.dK (dk m))) [.val (.tup (ak b))]:=by
 obtain⟨A,w,m,g,l,rfl,f,n,B⟩:=sD (i:=2) (db:=(kU 1 (dV 2) (d2 a9 (lH 1 (dV 2) (dC (.int 0))) (dC (.int 1)))))
  (I:=λr j=>∃(m:List (Tx×Int)) (g:Slot) (l:List Tx),j=[.val (.tup (ak b)),.own (.dK (dk m)),g]/\my m l/\m.length<=l.length/\∃q,b=l++q/\r=ak q)
  (by
   rintro x r j ⟨m,g,l,rfl,f,n,q,d,s⟩;cases q with
   |nil=>cases s
   |cons y q=>
    have o:x::r=.str y::ak q:=s;simp only[qu]at o;obtain⟨rfl,rfl⟩:=o;have F:m.length<bQ:=by have:=congrArg lT d;simp at this;unfold bQ;lia
    refine⟨[.val (.tup (ak b)),.own (.dK (dk (dq m y ((cQ m y).getD 0+1)))),↥y],?_,dq m y ((cQ m y).getD 0+1),_,l++[y],rfl,⟨Cg f.nd,λz=>?_⟩,?_,q,by rw[d];simp,rfl⟩
    .have p:=uH m y;have u:=xU m y ((cQ m y).getD 0+1);have v:(dk m).length<bQ:=by unfold dk;rw[bO];exact F
     have C:((cQ m y).map PV.int).getD (.int 0)=.int ((cQ m y).getD 0):=by cases cQ m y <;> rfl
     generalize dk m=D at p u v;simp![kU,lH,dO,ge,p,C,a9,v,u]
    .rw[xc];by_cases c:z=y
     .subst c;rw[if_pos rfl,E_,List.count_singleton_self];have:=f.get z;simp only[Fh];lia
     .rw[if_neg c,E_,f.get z];have:[y].count z=0:=E9 (by simpa using c);rw[this];rfl
    .have:(dq m y ((cQ m y).getD 0+1)).length<=m.length+1:=by
      unfold dq;split <;> simp
     rw[eN,sS];lia)
  (ak b) [.val (.tup (ak b)),.own (.dK (dk [])),.none] ⟨[],.none,[],rfl,⟨by simp,λx=>by simp[cQ]⟩,by simp,b,by simp,rfl⟩
 obtain⟨q,d,h⟩:=B;have:q=[]:=by cases q with|nil=>rfl|cons=>cases h
 subst this;rw[jC]at d;subst d;refine⟨m,f,n,?_⟩;have E:dk []=[]:=rfl;rw[E]at w;simp![sE,yaj,yu,c6,bp,gH,cq,w,pC]
theorem LH{t:Tx}{w:Nat}(b:w<=t.length+1)(c:1<=w):cF (.str t) (aa ((t.length:Int)-w+1)) ae=aa (.str (t.drop (t.length+1-w))):=by show aa (PV.str (dH t _ ae))=_;rw[show((t.length:Int)-w+1)=((t.length+1-w:Nat):Int) by lia,KS]
def jz(c:Nat):PV:=.str [c]
theorem CP(w:Nat)(S:1<=w):∀(r v:Nat) (t:Tx) (m:List (Tx×Int)) (q:List Tx) (b:List Tx),r<v->q.length=r->my m q->w<=t.length+1->t.length+r<=1000->m.length<=1000->b.length+(gF w r t q).length<=bQ -> mP a v [↥t,⇑w,.own (.dK (dk m)),.own (.lst (ak b))]=.ok (.val .non) [↥t,⇑w,.own (.dK (dk m)),.own (.lst (ak (b++gF w r t q)))]
 |0,0,_,_,_,_,h,_,_,_,_,_,_=>absurd h ∅
 |r+1,0,_,_,_,_,h,_,_,_,_,_,_=>absurd h ∅
 |0,v+1,t,m,q,b,_,hq,hm,hw,ht,qP,hs=>by
  have O:q=[]:=E4.mp hq;subst O;have d:=Di m;rw[hm.any]at d;simp only[Fb,Bool.not_true]at d;have Y:(ak b).length<bQ:=by rw[gD];simp only[gF,sS]at hs;lia
  have e:ak (b++gF w 0 t [])=ak b++[.str t]:=by simp[ak,gF]
  rw[e];generalize dk m=D at d;generalize ak b=L at Y;simp![mP,yaf,rO,dO,d,Y]
 |r+1,v+1,t,m,q,b,hf,hq,hm,hw,ht,qP,hs=>by
  have ca:q.isEmpty=aj:=by cases q with|nil=>cases hq|cons=>rfl
  have d:=Di m;rw[hm.any,ca]at d;simp only[Bool.not_false]at d;have C:=LH (t:=t) hw S;have bR:aN [.str t]=aa (.int (t.length:Nat)):=rfl;have jE:eT (.int (t.length:Nat)) (.int w)=aa (.int ((t.length:Int)-w)):=rfl;have kM:a9 (.int ((t.length:Int)-w)) (.int 1)=aa (.int ((t.length:Int)-w+1)):=rfl
  let H:=t.drop (t.length+1-w)
  let f:=λc=>if H++[c]∈q then gF w r (t++[c]) (q.erase (H++[c]))else []
  have Z:gF w (r+1) t q=bF.flatMap f:=rfl;have hH:H.length<=1000:=by simp only[H,m_];lia
  obtain⟨ε',u,K,J,p,rest,s,uk,rfl⟩:=sD (i:=5) (db:=(aH (bd 6 (d2 a9 (dV 4) (dV 5)))
 (bA (dB (d2 (b0 λi j=>decide (j<i)) (lH 2 (dV 6) (dC (.int 0))) (dC (.int 0)))) (aH (kU 2 (dV 6) (d2 eT (iD 2 (dV 6)) (dC (.int 1))))
 (aH (pR (aC (mP a v) (gV (d2 a9 (dV 0) (dV 5)) (gV (dV 1) (gO 2 (gO 3 (Pu.bH)))))))
 (kU 2 (dV 6) (d2 a9 (iD 2 (dV 6)) (dC (.int 1)))))) (cg))))
   (I:=λM Q=>∃(K J:Slot) (p rest:Tx),bF=p++rest/\M=rest.map jz/\Q=[↥t,⇑w,.own (.dK (dk m)),.own (.lst (ak (b++p.flatMap f))),↥H,K,J])
   (by
    rintro x M Q ⟨K,J,p,rest,s,X,rfl⟩;cases rest with
    |nil=>cases X
    |cons c rest=>
     have Fu:x::M=jz c::rest.map jz:=X;simp only[qu]at Fu;obtain⟨rfl,rfl⟩:=Fu;have A:a9 (.str H) (.str [c])=aa (.str (H++[c])):=rN (by simp[bQ];lia);have ue:a9 (.str t) (.str [c])=aa (.str (t++[c])):=rN (by simp[bQ];lia);have OW:b.length+(p.flatMap f).length+(f c).length<=bQ:=by rw[Z,s,Fi,qr,eN,eN]at hs;lia
     have W:ak (b++(p++[c]).flatMap f)=ak ((b++p.flatMap f)++f c):=by simp
     by_cases E:H++[c]∈q
     .obtain⟨n,P,g2,g3,g4,g5⟩:=hm.dec E;have l:f c=gF w r (t++[c]) (q.erase (H++[c])):=if_pos E;have y:=CP w S r v (t++[c]) (dq m (H++[c]) (n-1)) (q.erase (H++[c])) (b++p.flatMap f) ∅ (by rw[List.length_erase_of_mem E,hq];rfl) g3 (by simp;lia) (by simp;lia)
       (by
        have:(dq m (H++[c]) (n-1)).length=m.length:=by
         have:=congrArg lT (BG (m:=m) (x:=H++[c]) (n:=n-1));have d:(m.any λp=>decide (p.1=H++[c]))=ah:=by
          cases z:(m.any λp=>decide (p.1=H++[c]))with
          |true=>rfl
          |false=>rw[xz z]at P;cases P
         rw[if_pos d]at this;simpa using this
        lia)
       (by rw[<-l,eN];exact OW)
      rw[<-l]at y;have o:=uH m (H++[c]);rw[P]at o;have G:=xU m (H++[c]) (n-1);have g:=uH (dq m (H++[c]) (n-1)) (H++[c]);rw[g4]at g;have F:=xU (dq m (H++[c]) (n-1)) (H++[c]) (n-1+1);rw[g5,show n-1+1=n by lia]at F;have B:(dk m).length<bQ:=by unfold dk;rw[bO];unfold bQ;lia
      have T:(dk (dq m (H++[c]) (n-1))).length<bQ:=by
       unfold dk;rw[bO];have:(dq m (H++[c]) (n-1)).length<=m.length+1:=by unfold dq;split <;> simp
       unfold bQ;lia
      have gt:(0:Int)<n:=g2;refine⟨[↥t,⇑w,.own (.dK (dk m)),.own (.lst (ak (b++(p++[c]).flatMap f))),↥H,.val (.str [c]),↥(H++[c])],?_,_,_,p++[c],rest,by rw[s];simp,rfl,rfl⟩;rw[W];have s1:eT (.int n) (.int 1)=aa (.int (n-1)):=rfl;have s2:a9 (.int (n-1)) (.int 1)=aa (.int n):=by show aa (PV.int (n-1+1))=_;congr 2;lia
      simp only[oy]at o g;generalize dk m=D at o G F B;generalize dk (dq m (H++[c]) (n-1))=D2 at g G F y T;generalize ak (b++p.flatMap f)=L at y;generalize ak ((b++p.flatMap f)++f c)=L2 at y;clear_value H f;simp![jz,A,lH,iD,kU,dO,ge,o,gt,s1,B,G,ue,y,g,s2,T,F]
     .have l:f c=[]:=if_neg E;have N:=hm.zero E;have o:=uH m (H++[c]);have hg:((cQ m (H++[c])).map PV.int).getD (.int 0)=.int 0:=by
       cases e:cQ m (H++[c])with
       |none=>rfl
       |some k=>rw[e]at N;simp at N;subst N;rfl
      refine⟨[↥t,⇑w,.own (.dK (dk m)),.own (.lst (ak (b++(p++[c]).flatMap f))),↥H,.val (.str [c]),↥(H++[c])],?_,_,_,p++[c],rest,by rw[s];simp,rfl,rfl⟩;rw[W,l,jC];generalize dk m=D at o;generalize ak (b++p.flatMap f)=L;clear_value H f;simp![jz,A,lH,dO,ge,o,hg])
   (bF.map jz) [↥t,⇑w,.own (.dK (dk m)),.own (.lst (ak (b++([]:Tx).flatMap f))),↥H,.none,.none] ⟨.none,.none,[],bF,by simp,rfl,rfl⟩
  have um:rest=[]:=by cases rest with|nil=>rfl|cons=>cases uk
  subst um;rw[jC]at s;rw[Z];rw[<-s]at u;simp only[E5,jC]at u;have w6:gH (.str [97,98,99])=aa (bF.map jz):=rfl;have O6:cF (.str t) (aa ((t.length:Int)-w+1)) ae=aa (.str H):=C;generalize dk m=D at d u;generalize ak b=L at u;generalize ak (b++bF.flatMap f)=L2 at u;clear_value H f;simp![mP,yaf,rO,dO,d,c5,cG,eK,bR,jE,kM,O6,cq,c6,bp,w6,u]
end
section
variable{a:Ad}
abbrev bI(w:Nat)(b:List Tx):PV:=.tup [.int w,.tup (ak b)]
theorem KZ{c:Type}(b:List c):dH b ae (aa (-1))=b.dropLast:=by unfold dH;rw[show HT.sIx b.length 0 ae=0 from rfl,Ag,Nat.sub_zero,List.dropLast_eq_take];congr 1;show(HT.sIx b.length b.length (aa (-1)))=_;show(if(-1:Int)<0 then((-1:Int)+(b.length:Int)).toNat else min (-1:Int).toNat b.length)=_;rw[if_pos (by decide)];lia
theorem K5{w:Nat}{b:List Tx}(g:Good bF w b)(d:1<=w)(f:w<=4):(bZ w b).length<=531441:=by rw[sj d g.some λx c=>⟨g.len x c,g.abc x c⟩];refine c4 (Aw _ _) ?_;rw[zA];exact c4 (Fj (by decide) (show w-1+b.length<=12 by have:=g.few;lia)) (by decide)
theorem Ge(V:PV)(d:List Tx)(w:Nat)(c b:Slot):dA [] bP (c5 cF (dV 0) eK (cG (d1 jw (dC (.int 1))))) (ak d) [] [.val V,⇑w,c,b]=.ok (ak (d.map oB)) [.val V,⇑w,c,b]:=by
 have i:=gW (cap:=[]) (dt:=bP) (de:=(c5 cF (dV 0) eK (cG (d1 jw (dC (.int 1)))))) (ε:=[.val V,⇑w,c,b]) (λ_=>ah) (λx=>match x with|.str z=>.str z.dropLast|_=>.non) (ak d)
  (by
   intro x f;obtain⟨z,_,rfl⟩:=bJ.mp f;refine⟨by simp![bD,cE,bg,bP],λ_=>?_⟩;have g:cF (.str z) ae (aa (-1))=aa (.str z.dropLast):=by show aa (PV.str (dH z ae (aa (-1))))=_;rw[KZ]
   have h:jw (.int 1)=aa (.int (-1)):=rfl;simp![bD,cE,bg,c5,eK,cG,h,g]) []
 rw[i,fS,qt.mpr (by simp)];unfold ak;rw[dX,dX];rfl
theorem NV{w:Nat}{c:List Tx}(g:Good bF w c)(u:1<=w)(H:w<=4)(Y:c.Pairwise (λa b=>c0 a b=ah)):vW a [.val (bI w c)]=.ok (.own (.lst (ak (bZ w c)))) [.val (bI w c)]:=by
 have n:=MP (a:=a) (g.vw u H Y);have B:bB (bI w c) (.int 0)=aa (.int w):=rfl;have o:bB (bI w c) (.int 1)=aa (.tup (ak c)):=rfl;obtain⟨m,C,M,v⟩:=Nm (a:=a) c (by have:=g.few;lia);have W:m.length<=1000:=by have:=g.few;lia
 let hd:=bw (e_ (c.map oB))
 have E:∀h∈hd,h.length=w-1:=λh N=>by have C:=(rL _ _).mp ((jr _).mem_iff.mp N);obtain⟨y,X,rfl⟩:=bJ.mp C;rw[Aq,g.len y X]
 let f:=λh=>gF w c.length h c
 have O:bZ w c=hd.flatMap f:=rfl;have F:=K5 g u H;obtain⟨P,j,A,p,rest,q,S,rfl⟩:=sD (i:=3) (db:=(pR (kX (mP a 12) (lq (dV 3) (lq (dV 1) (gN (rQ (aC (sE a) (gV (d2 bB (dV 0) (dC (.int 1))) (Pu.bH)))) (gO 2 (Pu.bH))))))))
  (I:=λr G=>∃(A:Slot) (p rest:List Tx),hd=p++rest/\r=ak rest/\G=[.val (bI w c),⇑w,.own (.lst (ak (p.flatMap f))),A])
  (by
   rintro x r G ⟨A,p,rest,q,K,rfl⟩;cases rest with
   |nil=>cases K
   |cons h rest=>
    have J:x::r=.str h::ak rest:=K;simp only[qu]at J;obtain⟨rfl,rfl⟩:=J;have N:h.length=w-1:=E h (by rw[q];simp);have s:=CP (a:=a) w u c.length 12 h m c (p.flatMap f) (by have:=g.few;lia) rfl C ∅ (by have:=g.few;lia) W (by rw[O,q,Fi,qr,eN,eN]at F;show(p.flatMap f).length+(f h).length<=bQ;unfold bQ;lia);refine⟨[.val (bI w c),⇑w,.own (.lst (ak ((p++[h]).flatMap f))),↥h],?_,_,p++[h],rest,by rw[q];simp,rfl,rfl⟩;have e2:(p++[h]).flatMap f=p.flatMap f++gF w c.length h c:=by simp[f]
    rw[e2];generalize ak (p.flatMap f)=L at s;generalize ak (p.flatMap f++gF w c.length h c)=L2 at s;generalize dk m=D at s v;simp only[bI]at o ⊢;generalize ak c=T at v o;clear_value f hd;simp![kX,lq,gN,yt,o,v,s])
  (ak hd) [.val (bI w c),⇑w,.own (.lst (ak (([]:List Tx).flatMap f))),.none] ⟨.none,[],hd,by simp,rfl,rfl⟩
 have Q:rest=[]:=by cases rest with|nil=>rfl|cons=>cases S
 subst Q;rw[jC]at q;rw[<-q,<-O]at j;simp only[E5]at j;have d:=Ge (bI w c) c w (.own (.lst [])) .none;have l:rT [.lst (ak (c.map oB))]=aa (.lst (ak hd)):=by show(f8 (ak _)).bind _=_;have h2:=g.few;rw[nI,gu,if_pos ⟨λz=>by have:=congrArg lT z;have:=g.some;simp at *;simp_all,wF (Mc _) (by rw[bO];lia)⟩]
 have e0:ak ([]:List Tx)=[]:=rfl;rw[e0]at j;generalize ak (bZ w c)=L at j;generalize ak hd=D at j l;generalize ak (c.map oB)=D0 at d l;simp only[bI]at n B o d j ⊢;generalize Z:ak c=T at n B o d j;clear_value f hd;simp![vW,yaH,n,B,o,cq,c6,bp,gH,bK,d,l,j,pC]
theorem Jx(b:List Tx):i8 (ak b)=aa (c7 b):=by
 induction b with
 |nil=>rfl
 |cons x b c=>show(dy (.str x)).bind (λv=>(i8 (ak b)).map (v::·))=_;rw[c];rfl
theorem DB(b:List Tx)(x:Tx):nL (ak b) (.str x)=aa (.int (b.count x:Nat)):=by show(dy (.str x)).bind (λv=>(i8 (ak b)).map λc=>PV.int (c.countP λz=>fI z v))=_;rw[Jx,<-Hv];rfl
theorem Nj(w:Nat)(b:List Tx)(t:Tx)(p:t.length<=60):mM a [↥t,⇑w,.val (.tup (ak b))]=.ok (.val (.bl (unD w b t))) [↥t,⇑w,.val (.tup (ak b))]:=by
 have g:=vO (a:=a) t w p
 let M:=bw (bE t w)
 have f:=gW (cap:=[3,2]) (dt:=bP) (de:=(d2 (b0 λi j=>decide (i<=j)) (oX nL (dV 1) (dV 0)) (oX nL (dV 2) (dV 0)))) (ε:=[↥t,⇑w,.val (.tup (ak b)),.val (.tup (ak M))]) (λ_=>ah) (λx=>match x with|.str z=>.bl (decide (M.count z<=b.count z))|_=>.non) (ak M)
  (by intro x c;obtain⟨z,_,rfl⟩:=bJ.mp c;refine⟨by simp![bD,cE,bg,bP],λ_=>?_⟩;have n:=DB M z;have m:=DB b z;generalize ak M=A at n;generalize ak b=B at m;simp![bD,cE,bg,oX,n,m]) []
 have q:((ak M).filter (λ_=>ah)).map (λx=>match x with|.str z=>PV.bl (decide (M.count z<=b.count z))|_=>.non)=(M.map λz=>decide (M.count z<=b.count z)).map .bl:=by rw[qt.mpr (by simp)];unfold ak;rw[dX,dX];rfl
 rw[fS,q]at f;have o:(M.map λz=>decide (M.count z<=b.count z)).all id=unD w b t:=by
  rw[wH];unfold unD;have d:=jr (bE t w);rw[lR,gK,gK];constructor
  .intro h x c;have:=h x (d.mem_iff.mpr c);simp only[nh,id,M,d.count_eq]at this;exact this
  .intro h x c;have:=h x (d.mem_iff.mp c);simp only[nh,id,M,d.count_eq];exact this
 generalize (M.map λz=>decide (M.count z<=b.count z))=bs at f o;have l:=yg bs;rw[o]at l;change im a _=R.ok (Slot.val (.tup (ak M))) _ at g;generalize ak M=MM at g f;clear_value M;simp![mM,yaD,g,bK,bp,gH,f,l]
theorem Nk(b:Bool)(c d:List Tx):Pu.eqT b (.tup (ak c)) (.tup (ak d))=aa (.bl (b^^decide (c=d))):=by show(if iq (.tup (ak c))<=8 then(fZ (ak c) (ak d)).map (λk=>PV.bl (b^^k))else ae)=_;rw[if_pos (by show fq (ak c)+1<=8;rw[xJ];decide),A8];rfl
def nextT(w:Nat)(b:List Tx)(t:Tx):List Tx:=(bF.map λc=>t++[c]).filter (unD w b)
theorem NX(w:Nat)(g:List Tx)(V j h s:Slot)(d:List Tx)(H:∀t∈d,t.length<=50)(M:(d.flatMap (nextT w g)).length<=999999):∃l,eU 6 (nW 5 (dF (bK [6,1,2] (bp (dC (.str [97,98,99]))) (dB (az (aC (mM a) (gV (d2 a9 (dV 1) (dV 0)) (gV (dV 2) (gV (dV 3) (Pu.bH))))))) (d2 a9 (dV 1) (dV 0))))) (ak d) [V,⇑w,.val (.tup (ak g)),j,h,.own (.lst []),s]=.ok .next [V,⇑w,.val (.tup (ak g)),j,h,.own (.lst (ak (d.flatMap (nextT w g)))),l]:=by
 let f:=nextT w g
 obtain⟨C,A,l,p,rest,m,E,rfl⟩:=sD (i:=6) (db:=(nW 5 (dF (bK [6,1,2] (bp (dC (.str [97,98,99]))) (dB (az (aC (mM a) (gV (d2 a9 (dV 1) (dV 0)) (gV (dV 2) (gV (dV 3) (Pu.bH))))))) (d2 a9 (dV 1) (dV 0))))))
  (I:=λr ε=>∃(l:Slot) (p rest:List Tx),d=p++rest/\r=ak rest/\ε=[V,⇑w,.val (.tup (ak g)),j,h,.own (.lst (ak (p.flatMap f))),l])
  (by
   rintro x r ε ⟨l,p,rest,m,z,rfl⟩;cases rest with
   |nil=>cases z
   |cons t rest=>
    have y:x::r=.str t::ak rest:=z;simp only[qu]at y;obtain⟨rfl,rfl⟩:=y;have G:=H t (by rw[m];simp);have n:=gW (cap:=[6,1,2]) (dt:=(dB (az (aC (mM a) (gV (d2 a9 (dV 1) (dV 0)) (gV (dV 2) (gV (dV 3) (Pu.bH)))))))) (de:=(d2 a9 (dV 1) (dV 0))) (ε:=[V,⇑w,.val (.tup (ak g)),j,h,.own (.lst (ak (p.flatMap f))),↥t])
     (λx=>match x with|.str [c]=>unD w g (t++[c])|_=>aj) (λx=>match x with|.str [c]=>.str (t++[c])|_=>.non) (bF.map jz)
     (by
      intro x F;obtain⟨c,_,rfl⟩:=bJ.mp F;have o:=Nj (a:=a) w g (t++[c]) (by simp;lia);have u:a9 (.str t) (.str [c])=aa (.str (t++[c])):=rN (by simp[bQ];lia);simp only[jz];generalize ak (p.flatMap f)=L;generalize unD w g (t++[c])=b at o;generalize t++[c]=tc at o u;generalize ak g=B at o;refine⟨?_,λ_=>?_⟩
      .simp![bD,cE,bg,u,o]
      .simp![bD,cE,bg,u]) []
    have J:((bF.map jz).filter (λx=>match x with|.str [c]=>unD w g (t++[c])|_=>aj)).map (λx=>match x with|.str [c]=>PV.str (t++[c])|_=>.non)=ak (f t):=by simp only[f,nextT];rw[kL,dX,kL];unfold ak;rw[dX];rfl
    rw[fS,J]at n;have v:gH (.str [97,98,99])=aa (bF.map jz):=rfl;have q:(ak (p.flatMap f)).length+(ak (f t)).length<=bQ:=by
     rw[gD,gD];have N:(p.flatMap f).length+(f t).length<=(d.flatMap (nextT w g)).length:=by rw[m,Fi,qr,eN,eN];simp only[f];lia
     unfold bQ;lia
    refine⟨[V,⇑w,.val (.tup (ak g)),j,h,.own (.lst (ak ((p++[t]).flatMap f))),↥t],?_,↥t,p++[t],rest,by rw[m];simp,rfl,rfl⟩;have K:ak ((p++[t]).flatMap f)=ak (p.flatMap f)++ak (f t):=by simp[ak]
    rw[K];generalize ak (f t)=Y at n q;generalize ak (p.flatMap f)=L at n q;generalize ak g=B at n;generalize bF.map jz=A3 at n v;clear_value f;simp![nW,bK,bp,v,n,q])
  (ak d) [V,⇑w,.val (.tup (ak g)),j,h,.own (.lst (ak (([]:List Tx).flatMap f))),s] ⟨s,[],d,by simp,rfl,rfl⟩
 have D:rest=[]:=by cases rest with|nil=>rfl|cons=>cases E
 subst D;rw[jC]at m;rw[<-m]at A;exact⟨l,A⟩
theorem Nu{k:Nat}(h:k<=12):3^k<=531441:=c4 (Fj (by decide) h) (by decide)
theorem Dg{w:Nat}{c:List Tx}(g:Good bF w c)(v:1<=w)(w4:w<=4)(X:c.Pairwise (λa b=>c0 a b=ah)):lg a [.val (bI w c)]=.ok (.own (.lst (ak (bZ w c)))) [.val (bI w c)]:=by
 have J:bZ w c=(rowsOf w c (c.length+w-1)).filter (λz=>decide (bw (bE z w)=c)):=by rw[Hc X,sj v g.some λx s=>⟨g.len x s,g.abc x s⟩];congr 2;lia
 obtain⟨L,F⟩:∃L:Nat,c.length+w-1=L:=⟨_,rfl⟩
 rw[F]at J;have H:L<=12:=by have:=g.few;lia
 have K:aN [.tup (ak c)]=aa (.int (c.length:Nat)):=by simp[aN,gD]
 have E:a9 (.int (c.length:Nat)) (.int w)=aa (.int ((c.length:Int)+w)):=rfl;have C:eT (.int ((c.length:Int)+w)) (.int 1)=aa (.int L):=by show aa (PV.int ((c.length:Int)+w-1))=_;congr 2;lia
 have Y:fj [.int L]=aa (fG 0 L):=n_ ∅;have A:(fG 0 L).length=L:=by simp[fG]
 obtain⟨O,n,r,q,j,rfl⟩:=x5 (i:=4) (db:=(aH (gg 5 (dL dz (ax)))
 (aH (c6 6 (bp (dV 3)) (nW 5 (dF (bK [6,1,2] (bp (dC (.str [97,98,99]))) (dB (az (aC (mM a) (gV (d2 a9 (dV 1) (dV 0)) (gV (dV 2) (gV (dV 3) (Pu.bH))))))) (d2 a9 (dV 1) (dV 0))))))
 (bd 3 (dM 5)))))
  (I:=λk ε=>∃(r q j:Slot),ε=[.val (bI w c),⇑w,.val (.tup (ak c)),.val (.lst (ak (rowsOf w c k))),r,q,j]) (N:=L)
  (by
   rintro k ε x hk ⟨r,q,j,rfl⟩;have o:∀t∈rowsOf w c k,t.length<=50:=λt W=>by have:=((lz k t).mp (fN.mp W).1).1;lia
   have e:(rowsOf w c k).flatMap (nextT w c)=rowsOf w c (k+1):=(Mq v c k).symm;have P:((rowsOf w c k).flatMap (nextT w c)).length<=999999:=by rw[e];have m:=Oh w c (k+1);have h2:=Nu (show k+1<=12 by lia);lia
   obtain⟨Q,m⟩:=NX (a:=a) w c (.val (bI w c)) (.val (.lst (ak (rowsOf w c k)))) (.val x) j (rowsOf w c k) o P;rw[e]at m;refine⟨_,?_,.val x,.val (.lst (ak (rowsOf w c (k+1)))),Q,rfl⟩;generalize ak (rowsOf w c (k+1))=R1 at m;generalize Z:ak (rowsOf w c k)=R0 at m;simp only[bI]at m ⊢;have p:∀(d:af->R aG) (u:List PV) (ε:af),ε[3]?=aa (.val (.lst u))->c6 6 (bp (dV 3)) d ε=eU 6 d u ε:=λd u ε h=>by unfold c6 bp dV;rw[h];rfl
   refine(cx (ε1:=[.val (.tup [.int w,.tup (ak c)]),⇑w,.val (.tup (ak c)),.val (.lst R0),.val x,.own (.lst []),j]) (by simp![])).trans ?_;refine(cx ((p _ R0 _ rfl).trans m)).trans ?_;simp[bd,dM,R.bind])
  (fG 0 L) 0 [.val (bI w c),⇑w,.val (.tup (ak c)),.val (.lst (ak (rowsOf w c 0))),.none,.none,.none] ∅ ⟨.none,.none,.none,rfl⟩
 rw[A,tf,FW v]at n;have l:=gW (cap:=[1,2]) (dt:=(dB (d2 (Pu.eqT aj) (az (aC (im a) (gV (dV 0) (gV (dV 1) (Pu.bH))))) (dV 2)))) (de:=dV 0) (ε:=[.val (bI w c),⇑w,.val (.tup (ak c)),.val (.lst (ak (rowsOf w c L))),r,q,j])
  (λx=>match x with|.str z=>decide (bw (bE z w)=c)|_=>aj) (λx=>x) (ak (rowsOf w c L))
  (by
   intro x s;obtain⟨z,S,rfl⟩:=bJ.mp s;have y:z.length<=60:=by have:=((lz L z).mp (fN.mp S).1).1;lia
   have G:=vO (a:=a) z w y;have f:=Nk aj (bw (bE z w)) c;simp only[tm]at f;generalize ak (bw (bE z w))=M at G f;generalize hD:decide (bw (bE z w)=c)=D at f;generalize ak (rowsOf w c L)=RR;simp only[bI];refine⟨?_,λ_=>?_⟩
   .simp only[hD];generalize ak c=B at f;simp![bD,cE,bg,G,f]
   .generalize ak c=B;simp![bD,cE,bg]) []
 have f:((ak (rowsOf w c L)).filter (λx=>match x with|.str z=>decide (bw (bE z w)=c)|_=>aj)).map (λx=>x)=ak (bZ w c):=by rw[qw,J];unfold ak;rw[kL];rfl
 rw[fS,f]at l;have e0:ak [[]]=[.str []]:=rfl;rw[e0]at n;generalize ak (bZ w c)=T at l;generalize ak (rowsOf w c L)=RR at l n;simp only[bI]at l n ⊢;generalize ak c=B at l n K;simp![lg,yar,jN,K,E,C,cq,c6,Y,n,jH,bK,bp,gH,l]
end
end Sh
namespace Mx
open L2 Pu
def lL(z:Tx)(i:Nat):Nat:=z.getD (i % z.length) 0
def Ja(z:Tx)(w:Nat):Tx:=((cM w z).flatten).take (z.length+w-1)
end Mx
namespace Sh
open L2 Pu Mx
section
variable{a:Ad}
def Bh(t:Tx)(v:Nat):List Tx:=(bG (t.length+1-v)).map λi=>(t.drop i).take v
def o_(b c:Nat):List Nat:=List.range' b (c-b)
def part(t:Tx)(i j:Nat):Tx:=(t.drop i).take (j-i)
theorem KO(t:Tx)(i j:Nat):dH t (aa (i:Nat)) (aa (j:Nat))=part t i j:=by
 unfold dH part;rw[HT.sIx_nat,HT.sIx_nat];by_cases h:i<=t.length
 .rw[Ax h];by_cases b:j<=t.length
  .rw[Ax b]
  .rw[Fe ∅,om (by simp),om (by simp;lia)]
 .rw[show min i t.length=t.length by lia,Ay (ba _),Ay (show t.length<=i by lia)];simp
theorem IU(t:Tx)(i j:Nat):cF (.str t) (aa (i:Nat)) (aa (j:Nat))=aa (.str (part t i j)):=by show aa (PV.str (dH t (aa (i:Nat)) (aa (j:Nat))))=_;rw[KO]
theorem yN(t:Tx)(j:Nat):cF (.str t) ae (aa (j:Nat))=aa (.str (t.take j)):=by show aa (PV.str (dH t ae (aa (j:Nat))))=_;rw[IZ]
def lL(b:List Tx)(i:Nat):Tx:=b.getD i []
def Mn(t:Tx)(s e g l:Nat):Tx:=t.take s++part t g l++part t e g++part t s e++t.drop l
def MA(t:Tx)(b:List Tx)(s g e:Nat):List Tx:=(o_ (g+1) b.length).flatMap λl=>if lL b e=lL b l then [Mn t s e g l] else []
def Jn(t:Tx)(b:List Tx)(s g:Nat):List Tx:=(o_ (s+1) (g+1)).flatMap λe=>MA t b s g e
theorem La{i:Nat}{g:af->R (List PV)}{j:af->R aG}{d c b:af}{f:List PV}(h:g d=.ok f c)(l:eU i j f c=.ok .next b):c6 i g j d=.ok .next b:=by unfold c6;rw[h];exact l
theorem N8{i:Nat}{g:af->R (List PV)}{j:af->R aG}{d c b:af}{f:List PV}(h:g d=.ok f c)(l:eU i j f c=.ok .next b):(λd=>cq (c6 i g j d)) d=.ok .next b:=by show cq _=_;rw[La h l];rfl
theorem Bk{i:Nat}{c:af->R (List PV)}{d d2:af->R aG}{ε ε1 b:af}{xs:List PV}(h:c ε=.ok xs ε1)(f:eU i d xs ε1=.ok .next b):aH (λε=>cq (c6 i c d ε)) d2 ε=d2 b :=cx (d1:=λε=>cq (c6 i c d ε)) (N8 h f)
end
section
variable{a:Ad}
def GH(t:Tx)(b:List Tx)(s:Nat):List Tx:=(o_ (s+1) b.length).flatMap λg=>if lL b s=lL b g then Jn t b s g else []
def Lz(t:Tx)(b:List Tx):List Tx:=(o_ 0 b.length).flatMap λs=>GH t b s
theorem eP{i:Nat}{ε:af}{v:PV}(h:ε[i]?=aa (.val v)):dV i ε=.ok v ε:=by unfold dV;rw[h]
theorem vp{b:Type}{c:af->R Bool}{d1 d2:af->R b}{ε ε1:af}(h:c ε=.ok ah ε1):bA c d1 d2 ε=d1 ε1:=by unfold bA;rw[h];rfl
theorem pq{b:Type}{c:af->R Bool}{d1 d2:af->R b}{ε ε1:af}(h:c ε=.ok aj ε1):bA c d1 d2 ε=d2 ε1:=by unfold bA;rw[h];rfl
theorem km{d:af->R PV}{b:Bool}{ε c:af}(h:d ε=.ok (.bl b) c):dB d ε=.ok b c:=by unfold dB;rw[h];rfl
def FG(t:Tx)(m w:Nat):List Tx:=(o_ 1 m).map λp=>Ja ((t.take m).drop p++(t.take m).take p) w
def JY(t:Tx)(b:List Tx)(w:Nat):List Tx:=if lL b 0=lL b (b.length-1)then FG t (b.length-1) w else []
def HK(t:Tx)(w:Nat):List Tx:=Lz t (Bh t (w-1))++JY t (Bh t (w-1)) w
def Hd(t:Tx)(m:Nat):List Tx:=(o_ 1 m).map λp=>part (cM 3 (t.take m)).flatten p (p+t.length)
def jx(t:Tx)(b:List Tx):List Tx:=if lL b 0=lL b (b.length-1)then Hd t (b.length-1)else []
end
section
variable{a:Ad}
theorem Mp{c:Type}(b:List c)(k:Nat)(d:1<=k):dH b (aa (-(k:Int))) ae=b.drop (b.length-k):=by
 unfold dH;rw[show HT.sIx b.length b.length ae=b.length from rfl];have:HT.sIx b.length 0 (aa (-(k:Int)))=b.length-k:=by show(if(-(k:Int))<0 then((-(k:Int))+(b.length:Int)).toNat else min (-(k:Int)).toNat b.length)=_;rw[if_pos ∅];lia
 rw[this,om (by simp)]
def se(a:Ad):af->R aG:=bd 5 (d2 a9 (dV 5) (az (aC (jJ a) (gV (dV 0) (gO 1 (gV (dF (dL dz (aq (c5 cF (dV 5) (eK) (cG (dC (.int 2)))) (aq (c5 cF (dV 5) (eK) (cG (dC (.int 3)))) (aq (c5 cF (dV 5) (cG (dC (.int 1))) (cG (dC (.int 3)))) (aq (dC (.str [97])) (aq (dC (.str [98])) (aq (c5 cF (dV 5) (cG (d1 jw (dC (.int 2)))) (eK)) (ax))))))))) (Pu.bH)))))))
def sH:af->R Bool:=dB (d2 (b0 λi j=>decide (i<j)) (dL aN (aq (dV 5) (ax))) (d2 eT (dV 3) (dC (.int 2))))
theorem On:yax a=aH (bd 4 (d2 a9 (dC (.int 1)) (az (aC (jJ a) (gV (dV 0) (gO 1 (gV (dF (dL dz (aq (dC (.int 1)) (aq (dC (.int 1)) (aq (dC (.int 2)) (aq (dC (.int 2)) (aq (dC (.int 3)) (ax)))))))) (Pu.bH)))))))) (aH (bd 5 (az (aC (mf a) (gV (dV 0) (gO 1 (gV (dV 2) (gV (dC (.int 4)) (Pu.bH)))))))) (aH (λb=>cq (fk sH (se a) 1000 b)) (a_ (dL eR (aq (c5 cF (dV 5) (eK) (cG (dL rZ (aq (dV 4) (aq (d2 eT (dV 3) (az (aC (kC a) (gV (dV 0) (gO 1 (gV (dC (.int 3)) (Pu.bH))))))) (ax)))))) (aq (dV 4) (ax))))))):=rfl
theorem J_(d:List Int)(b:List PV)(L M W:PV)(z:Tx)(A:2<=z.length)(u:z.length<=12)(g:∀c∈z,c∈bF)(B:b.length<=900):∃y:Tx,1<=y.length/\y.length<=3/\(∀c∈y,c∈bF) /\ se a [bo d,.own (.lst b),.val L,.val M,.val W,↥z]=.ok .next [bo d,.own (.lst (b++[.int 0])),.val L,.val M,.val W,↥(z++y)]:=by
 obtain⟨x,n,f⟩:=zb (a:=a) d b [.str (z.take 2),.str (z.take 3),.str (part z 1 3),.str [97],.str [98],.str (z.drop (z.length-2))] ∅ (by simp);obtain⟨y,rfl,s,r,q⟩:∃y:Tx,x=.str y/\1<=y.length/\y.length<=3/\∀c∈y,c∈bF:=by
  simp only[bW,iR,or_false]at n;rcases n with rfl|rfl|rfl|rfl|rfl|rfl
  .exact⟨_,rfl,by simp;lia,by simp;lia,λc h=>g c (wR h)⟩
  .exact⟨_,rfl,by simp;lia,by simp;lia,λc h=>g c (wR h)⟩
  .exact⟨_,rfl,by unfold part;simp;lia,by unfold part;simp;lia,λc h=>g c (E6 (wR h))⟩
  .exact⟨_,rfl,by simp,by simp,by simp[bF]⟩
  .exact⟨_,rfl,by simp,by simp,by simp[bF]⟩
  .exact⟨_,rfl,by simp;lia,by simp;lia,λc h=>g c (E6 h)⟩
 refine⟨y,s,r,q,?_⟩;have m:cF (.str z) ae (aa 2)=aa (.str (z.take 2)):=yN z 2;have l:cF (.str z) ae (aa 3)=aa (.str (z.take 3)):=yN z 3;have j:cF (.str z) (aa 1) (aa 3)=aa (.str (part z 1 3)):=IU z 1 3;have i:cF (.str z) (aa (-2)) ae=aa (.str (z.drop (z.length-2))):=by show aa (PV.str (dH z (aa (-((2:Nat):Int))) ae))=_;rw[Mp _ _ (by decide)]
 have v:jw (.int 2)=aa (.int (-2)):=rfl;have o:a9 (.str z) (.str y)=aa (.str (z++y)):=rN (by unfold bQ;lia);generalize z++y=ZY at o;generalize z.take 2=Z1 at m f;generalize z.take 3=Z2 at l f;generalize part z 1 3=Z3 at j f;generalize z.drop (z.length-2)=Z4 at i f;unfold se;generalize jJ a=G at f ⊢;have p:dF (dL dz (aq (c5 cF (dV 5) (eK) (cG (dC (.int 2)))) (aq (c5 cF (dV 5) (eK) (cG (dC (.int 3)))) (aq (c5 cF (dV 5) (cG (dC (.int 1))) (cG (dC (.int 3)))) (aq (dC (.str [97])) (aq (dC (.str [98])) (aq (c5 cF (dV 5) (cG (d1 jw (dC (.int 2)))) (eK)) (ax)))))))) [bo d,.own (.lst b),.val L,.val M,.val W,↥z]=.ok (.lst [.str Z1,.str Z2,.str Z3,.str [97],.str [98],.str Z4]) [bo d,.own (.lst b),.val L,.val M,.val W,↥z]:=by simp![c5,cG,eK,m,l,j,i,v]
 have w:az (aC G (gV (dV 0) (gO 1 (gV (dF (dL dz (aq (c5 cF (dV 5) (eK) (cG (dC (.int 2)))) (aq (c5 cF (dV 5) (eK) (cG (dC (.int 3)))) (aq (c5 cF (dV 5) (cG (dC (.int 1))) (cG (dC (.int 3)))) (aq (dC (.str [97])) (aq (dC (.str [98])) (aq (c5 cF (dV 5) (cG (d1 jw (dC (.int 2)))) (eK)) (ax))))))))) (Pu.bH))))) [bo d,.own (.lst b),.val L,.val M,.val W,↥z]=.ok (.str y) [bo d,.own (.lst (b++[.int 0])),.val L,.val M,.val W,↥z]:=by generalize dF (dL dz _)=D at p ⊢;simp[az,aC,gV,gO,Pu.bH,dV,p,R.bind,aB,bq,b9,f,cp,cu,cr,iF]
 exact jB (gE (x:=.str z) rfl w o)
theorem BD(d:List Int)(c:List PV)(L W:PV)(b:Nat)(z:Tx)(i:2<=b):sH [bo d,.own (.lst c),.val L,⇑b,.val W,↥z]=.ok (decide (z.length<b-2)) [bo d,.own (.lst c),.val L,⇑b,.val W,↥z]:=by
 have g:aN [.str z]=aa (.int (z.length:Nat)):=rfl;have f:eT (.int b) (.int 2)=aa (.int ((b-2:Nat):Int)):=by show aa (PV.int _)=_;congr 2;lia
 have h:decide (((z.length:Nat):Int)<((b-2:Nat):Int))=decide (z.length<b-2):=by
  by_cases q:z.length<b-2
  .rw[decide_eq_true q,decide_eq_true ∅]
  .rw[decide_eq_false q,decide_eq_false ∅]
 rw[<-h];generalize ((b-2:Nat):Int)=m2 at f;generalize ((z.length:Nat):Int)=zl at g;simp![sH,g,f]
theorem yG{t:af->R Bool}{d:af->R aG}{n:Nat}{f c b:af}(h:t f=.ok ah c)(g:d c=.ok .next b):fk t d (n+1) f=fk t d n b:=by rw[fk,h,R.bind_ok];simp only;rw[g]
theorem vZ{t:af->R Bool}{d:af->R aG}{n:Nat}{c b:af}(h:t c=.ok aj b):fk t d (n+1) c=.ok .next b:=by rw[fk,h,R.bind_ok]
theorem JJ(i:List Int)(L W:PV)(b:Nat)(I:6<=b)(x:b<=10):∀(k h:Nat) (g:List PV) (z:Tx),b-2-z.length<=k->k<h->2<=z.length->z.length<=b->(∀c∈z,c∈bF)->g.length+k<=900 -> ∃(m:List PV) (y:Tx),b<=y.length+2/\y.length<=b/\(∀c∈y,c∈bF)/\m.length<=g.length+k/\fk sH (se a) h [bo i,.own (.lst g),.val L,⇑b,.val W,↥z]=.ok .next [bo i,.own (.lst m),.val L,⇑b,.val W,↥y]:=by
 intro k
 induction k with
 |zero=>
  intro h g z F E o n l B;obtain⟨f,rfl⟩:∃f,h=f+1:=⟨h-1,∅⟩
  have c:=BD i g L W b z ∅;rw[decide_eq_false ∅]at c;exact⟨g,z,∅,n,l,∅,vZ c⟩
 |succ k A=>
  intro h g z F E o n l B;obtain⟨f,rfl⟩:∃f,h=f+1:=⟨h-1,∅⟩
  have c:=BD i g L W b z ∅;by_cases q:z.length<b-2
  .rw[decide_eq_true q]at c;obtain⟨y,H,G,p,D⟩:=J_ (a:=a) i g L (.int b) W z o ∅ l ∅;obtain⟨m,v,w,u,s,r,C⟩:=A f (g++[.int 0]) (z++y) (by simp;lia) ∅ (by simp;lia) (by simp;lia) (λd j=>by
    rcases lO.mp j with j|j
    .exact l d j
    .exact p d j) (by simp;lia)
   refine⟨m,v,w,u,s,?_,(yG c D).trans C⟩;simp at r;lia
  .rw[decide_eq_false q]at c;exact⟨g,z,∅,n,l,∅,vZ c⟩
theorem L0(j:List Int)(l:List PV)(g b:Nat)(l2:2<=g)(L:g<=4)(K:6<=b)(x:b<=10)(hx:l.length<=400):∃(t:Tx) (w:Nat) (C:List PV),2<=w/\w<=4/\b<=t.length+2/\t.length<=b/\(∀c∈t,c∈bF)/\C.length<=l.length+30 /\ k8 a [bo j,.own (.lst l),⇑g,⇑b]=.ok (.val (.tup [.str t,.int w])) [bo j,.own (.lst C),⇑g,⇑b]:=by
 obtain⟨f,I,H⟩:=zb (a:=a) j l [.int 1,.int 1,.int 2,.int 2,.int 3] ∅ (by decide);obtain⟨i,rfl,f0,f1⟩:∃i:Nat,f=.int i/\1<=i/\i<=3:=by
  simp only[bW,iR,or_false]at I;rcases I with rfl|rfl|rfl|rfl|rfl
  .exact⟨1,rfl,by decide,by decide⟩
  .exact⟨1,rfl,by decide,by decide⟩
  .exact⟨2,rfl,by decide,by decide⟩
  .exact⟨2,rfl,by decide,by decide⟩
  .exact⟨3,rfl,by decide,by decide⟩
 obtain⟨z,s,T,S,m,A,O⟩:=LB (a:=a) j (l++[.int 0]) g 4 L (by decide) (by simp;lia);simp only[eN,sS]at A;obtain⟨r,o,c1,c2,Q,P,F⟩:=JJ (a:=a) j (.int g) (.int ((i+1:Nat):Int)) b K x 10 1000 s z ∅ ∅ ∅ ∅ m ∅;obtain⟨v,X,W,B⟩:=wa (a:=a) j r 3 (by decide) ∅;obtain⟨d,rfl⟩:∃d:Nat,v=d:=⟨v.toNat,∅⟩
 obtain⟨n,q,Z,Y⟩:∃n:Nat,rZ [.int ((i+1:Nat):Int),.int ((b:Int)-d)]=aa (.int n)/\b<=n+2/\n<=b:=by refine⟨b-d,?_,∅,∅⟩;show aa (PV.int (if((b:Int)-d) > ((i+1:Nat):Int)then((b:Int)-d)else((i+1:Nat):Int)))=_;congr 2;split <;> lia
 refine⟨o.take n,i+1,r++[.int 0],∅,∅,by simp;lia,by simp;lia,λc h=>Q c (wR h),by simp;lia,?_⟩;have E:a9 (.int 1) (.int i)=aa (.int ((i+1:Nat):Int)):=by show aa (PV.int _)=_;congr 2;lia
 have y:eT (.int b) (.int d)=aa (.int ((b:Int)-d)):=rfl;have u:=yN o n;have J:yax a [bo j,.own (.lst l),⇑g,⇑b,.none,.none]=.ok (.ret (.val (.tup [.str (o.take n),.int ((i+1:Nat):Int)]))) [bo j,.own (.lst (r++[.int 0])),⇑g,⇑b,⇑((i+1:Nat):Int),↥o]:=by
  rw[On];generalize (b:Int)-d=md at q y;generalize ((d:Nat):Int)=di at B y;generalize ((i+1:Nat):Int)=wi at q E F ⊢;generalize o.take n=ZN at u ⊢;generalize ((n:Nat):Int)=ni at q u;have N:bd 4 (d2 a9 (dC (.int 1)) (az (aC (jJ a) (gV (dV 0) (gO 1 (gV (dF (dL dz (aq (dC (.int 1)) (aq (dC (.int 1)) (aq (dC (.int 2)) (aq (dC (.int 2)) (aq (dC (.int 3)) (ax)))))))) (Pu.bH))))))) [bo j,.own (.lst l),⇑g,⇑b,.none,.none]=.ok .next [bo j,.own (.lst (l++[.int 0])),⇑g,⇑b,⇑wi,.none]:=by generalize jJ a=G at H ⊢;simp![H,E]
  have M:bd 5 (az (aC (mf a) (gV (dV 0) (gO 1 (gV (dV 2) (gV (dC (.int 4)) (Pu.bH))))))) [bo j,.own (.lst (l++[.int 0])),⇑g,⇑b,⇑wi,.none]=.ok .next [bo j,.own (.lst s),⇑g,⇑b,⇑wi,↥z]:=by have p:mf a [bo j,.own (.lst (l++[.int 0])),⇑g,⇑4]=.ok (↥z) [bo j,.own (.lst s),⇑g,⇑4]:=O;generalize mf a=G at p ⊢;simp![p]
  refine(cx N).trans ?_;refine(cx M).trans ?_;refine(cx (d1:=λε=>cq (fk sH (se a) 1000 ε)) (by show cq _=_;rw[F];rfl)).trans ?_;generalize kC a=G at B ⊢;simp![B,y,q,c5,cG,eK,u]
 unfold k8;generalize yax a=D at J;simp[bh,fL,a5,cM,J,back,aB,R.bind,gZ]
end
end Sh
namespace Mx
open L2 Pu
theorem DK{z:Tx}{w:Nat}(a:1<=w):(bE z w).length=z.length+1-w:=by rw[vR z w a];simp
def Mw(t:Tx)(w:Nat):List Tx:=(c_ t.length).filter λz=>(bE z w).isPerm (bE t w)
end Mx
namespace Sh
open L2 Pu Mx
section
variable{v:Nat}
def oc(v:Nat)(M:List Tx)(y:Tx):Nat:=(M.map λx=>if x.take v=y then 1 else 0).sum
abbrev b2(p:Prop)[Decidable p]:Nat:=if p then 1 else 0
end
inductive WN(w:Nat):Nat->Tx->Tx->Prop
 |here (n:Nat) (t:Tx):WN w n t t
 |on {n:Nat}{t u z:Tx}:WN w n t u->z∈HK u w->WN w (n+1) t z
def Full(w:Nat)(t:Tx)(k:Nat):Prop:=∀z∈Mw t w,WN w k t z
abbrev ks(m:List (Tx×Int)):List Tx:=m.map (·.1)
theorem Js{i:Nat}{de:af->R PV}{b a:af}{x:PV}{xs0 xs:List PV}(f:fV b i=aa xs0)(h:de b=.ok x a)(d:fV a i=aa xs)(c:xs.length<bQ):mz i de b=.ok .next (a.set i (.own (.lst (xs++[x])))):=by unfold mz;rw[f];simp only[cf,R.bind_ok];rw[h];simp only[R.bind_ok];rw[d];simp only[cf,R.bind_ok];rw[if_pos c]
def b1(p:Prop)[Decidable p]:Int:=if p then 1 else 0
def exc(a:List Tx)(y:Tx):Int:=(a.map λx=>b1 (x.dropLast=y)-b1 (x.tail=y)).sum
section
variable{a:Ad}
def GN:af->R PV:=c5 cF (dV 1) (eK) (cG (d1 jw (dC (.int 1))))
def f2(a:Ad):af->R aG:=bd 2 (dF (bK [1] (bp (dF (Oi 1))) (dB (d2 (b0 λi j=>decide (j<i)) (iD 1 (dV 0)) (dC (.int 0)))) (dV 0)))
def f3:af->R aG:=bA (dB (d2 (b0 λi j=>decide (j<i)) (dL aN (aq (dV 2) (ax))) (dC (.int 1)))) (a_ (dL eR (aq (dC (.str [116,119,111])) (aq (d2 bB (dV 2) (dC (.int 0))) (aq (d2 bB (dV 2) (dC (.int 1))) (ax)))))) (cg)
def f4:af->R aG:=bA (gT (dB (d2 (eqT aj) (dL aN (aq (dV 2) (ax))) (dC (.int 1)))) (dB (d2 (b0 λi j=>decide (j<i)) (iD 1 (d2 bB (dV 2) (dC (.int 0)))) (dC (.int 1))))) (a_ (dL eR (aq (dC (.str [109,111,114,101])) (aq (d2 bB (dV 2) (dC (.int 0))) (ax))))) (cg)
def f6:af->R aG:=bd 4 (dF (Ln [3] (J4 (aq (dV 0) (ax))) (dB (Im aj 2 GN)) (dV 0)))
def f7:af->R aG:=bA (dB (d2 (b0 λi j=>decide (i<j)) (dL aN (aq (dV 4) (ax))) (dL aN (aq (dV 0) (ax))))) (a_ (dL eR (aq (dC (.str [97,112,97,114,116])) (aq (dL iB (aq (dV 4) (ax))) (ax))))) (cg)
end
end Sh
namespace Mx
open L2 Pu
def ovD(a w:Tx):Nat->Nat
 |0=>0
 |k+1=>if w.take (k+1) <:+ a then k+1 else ovD a w k
def ov(a w:Tx):Nat:=ovD a w (w.length-1)
theorem LU{w:Nat}{a:List Tx}(b:1<=w)(d:1<=a.length)(f:∀x∈a,x.length=w/\∀c∈x,c∈bF):(bZ w a).Nodup:=by rw[sj b d f];exact(CC _).filter _
theorem Fx{w:Nat}{d:List Tx}(f:1<=w)(i:1<=d.length)(j:∀x∈d,x.length=w/\∀c∈x,c∈bF)(h:d.Pairwise (λa b=>c0 a b=ah)){z:Tx}(g:∀c∈z,c∈bF):z∈bZ w d↔bw (bE z w)=d:=by
 rw[sj f i j,fN,lz,List.isPerm_iff];constructor
 .rintro⟨_,p⟩;rw[xI p,vT h]
 .intro e;have p:(bE z w).Perm d:=by rw[<-e];exact(jr _).symm
  have l:=p.length_eq;rw[DK f]at l;exact⟨⟨∅,g⟩,p⟩
theorem FV{w:Nat}{a:List Tx}(b:1<=w)(d:1<=a.length)(f:∀x∈a,x.length=w/\∀c∈x,c∈bF){z:Tx}(h:z∈bZ w a):z.length=w-1+a.length/\∀c∈z,c∈bF:=by rw[sj b d f,fN,lz]at h;exact h.1
end Mx
namespace Sh
open L2 Pu Mx
theorem txKey_ii{x y:List Tx}:eG x=eG y↔x=y:=by
 constructor
 .intro h;have a:=B8 x;rw[h,B8]at a;exact(eD a).symm
 .rintro rfl;rfl
def GG:Nat->Nat
 |0=>1
 |k+1=>1+3*GG k
def wl(l:List Tx)(p c:Nat):List Tx:=l.filter λt=>decide (t[p]?=aa c)
def ans(l:List Tx)(p:Nat):Tx:=bF.filter λc=>decide (wl l p c≠[])
def parts(l:List Tx)(p:Nat):List (List Tx):=(ans l p).map (wl l p)
def wide(l:List Tx):Nat:=(l.headD []).length
def can:Nat->List Tx->Bool
 |0,l=>decide (l.length=1)
 |m+1,l=>decide (l.length=1)||(bG (wide l)).any λp=>decide (1<(parts l p).length)&&(parts l p).all (can m)
structure Ql(l:List Tx):Prop where
 ne:l≠[]
 nd:l.Nodup
 abc:∀t∈l,∀c∈t,c∈bF
 len:∀t∈l,t.length=wide l
theorem wl_sub(l:List Tx)(p c:Nat):(wl l p c).Sublist l:=Fk
theorem parts_mem{l m:List Tx}{p:Nat}:m∈parts l p↔∃c∈bF,m=wl l p c/\wl l p c≠[]:=by
 unfold parts ans;rw[bJ];constructor
 .rintro⟨c,h,rfl⟩;obtain⟨b,a⟩:=fN.mp h;exact⟨c,b,rfl,of_decide_eq_true a⟩
 .rintro⟨c,b,rfl,a⟩;exact⟨c,fN.mpr ⟨b,decide_eq_true a⟩,rfl⟩
theorem Ql.sub{l m:List Tx}(h:Ql l)(a:m.Sublist l)(c:m≠[]):Ql m:=by
 have e:wide m=wide l:=by
  cases m with
  |nil=>exact absurd rfl c
  |cons x r=>exact h.len x (a.mem (by simp))
 exact⟨c,h.nd.sublist a,λt b=>h.abc t (a.mem b),λt b=>by rw[e];exact h.len t (a.mem b)⟩
theorem Ql.part{l m:List Tx}{p:Nat}(h:Ql l)(a:m∈parts l p):Ql m/\m.Sublist l:=by obtain⟨c,_,rfl,b⟩:=parts_mem.mp a;exact⟨h.sub (wl_sub l p c) b,wl_sub l p c⟩
theorem ans_nodup(l:List Tx)(p:Nat):(ans l p).Nodup:=List.Nodup.sublist Fk (show bF.Nodup by decide)
theorem part_lt{l m:List Tx}{p:Nat}(a:1<(parts l p).length)(j:m∈parts l p):m.length<l.length:=by
 obtain⟨c,q,rfl,s⟩:=parts_mem.mp j;rw[parts,bO]at a;obtain⟨d,n,b⟩:∃d∈ans l p,d≠c:=by
  have nd:=ans_nodup l p
  match e:ans l p with
  |[]=>rw[e]at a;simp at a
  |[x]=>rw[e]at a;simp at a
  |x::y::r=>
   rw[e]at nd;by_cases z:x=c
   .refine⟨y,by simp,λw=>?_⟩;have:=(jc.mp nd).1;exact this (by rw[z,<-w];simp)
   .exact⟨x,by simp,z⟩
 have o:=of_decide_eq_true (fN.mp n).2;obtain⟨t,i⟩:=List.exists_mem_of_ne_nil _ o;obtain⟨g,h⟩:=fN.mp i;rcases wS (wl l p c).length l.length with z|z
 .exact z
 .have e:=(wl_sub l p c).eq_of_length_le z;rw[<-e]at g;have f:=of_decide_eq_true (fN.mp g).2;rw[of_decide_eq_true h]at f;exact absurd (eD f) b
theorem can_succ:∀(m:Nat) {l:List Tx},can m l=ah->can (m+1) l=ah
 |0,l,h=>by unfold can at h;unfold can;rw[h];rfl
 |m+1,l,h=>by unfold can at h ⊢;rw[oq]at h ⊢;refine h.imp id λh=>?_;obtain⟨p,b,h⟩:=j6.mp h;rw[dW]at h;exact j6.mpr ⟨p,b,by rw[dW];exact⟨h.1,gK.mpr λq a=>can_succ m (gK.mp h.2 q a)⟩⟩
theorem can_le{m n:Nat}{l:List Tx}(h:m<=n)(a:can m l=ah):can n l=ah:=by
 induction n with
 |zero=>
  obtain rfl:m=0:=∅
  exact a
 |succ n b=>
  rcases wS m (n+1)with z|z
  .exact can_succ n (b ∅)
  .obtain rfl:m=n+1:=∅
   exact a
theorem Ql.differ{l:List Tx}(h:Ql l)(m:2<=l.length):∃p,p<wide l/\1<(parts l p).length:=by
 match l,h,m with
 |x::y::r,h,_=>
  have g:x≠y:=λz=>(jc.mp h.nd).1 (by rw[z];simp);have s:=h.len x (by simp);have o:=h.len y (by simp);obtain⟨p,i,j⟩:∃p,p<wide (x::y::r)/\x[p]?≠y[p]?:=Decidable.byContradiction λz=>g (wO λp=>Decidable.byContradiction λw=>by
   rcases wS p (wide (x::y::r))with q|q
   .exact z ⟨p,q,w⟩
   .exact w (by rw[qm ∅,qm ∅]))
  refine⟨p,i,?_⟩;have b:∀t∈x::y::r,∃c,t[p]?=aa c/\c∈ans (x::y::r) p:=λt f=>by
   have v:=h.len t f;have a:p<t.length:=∅
   refine⟨t[p],eO a,fN.mpr ⟨h.abc t f _ (wK a),decide_eq_true (List.ne_nil_of_mem (fN.mpr ⟨f,decide_eq_true (eO a)⟩))⟩⟩
  obtain⟨c,c1,c2⟩:=b x (by simp);obtain⟨d,d1,d2⟩:=b y (by simp);have n:c≠d:=λz=>j (by rw[c1,d1,z]);rw[parts,bO]
  match e:ans (x::y::r) p with
  |[]=>rw[e]at c2;cases c2
  |[u]=>rw[e]at c2 d2;exact absurd ((gs.mp c2).trans (gs.mp d2).symm) n
  |_::_::_=>simp
theorem Ql.can{l:List Tx}(h:Ql l):∀(k:Nat),l.length<=k+1->Sh.can k l=ah:=by
 intro k
 induction k generalizing l with
 |zero=>intro f;have:=l6.mpr h.ne;unfold Sh.can;exact decide_eq_true ∅
 |succ k c=>
  intro f;unfold Sh.can;rw[oq];by_cases g:l.length=1
  .exact .inl (decide_eq_true g)
  .have:=l6.mpr h.ne;obtain⟨p,d,a⟩:=h.differ ∅;refine .inr (j6.mpr ⟨p,kE.mpr d,?_⟩);rw[dW];exact⟨decide_eq_true a,gK.mpr λm b=>c (h.part b).1 (by have:=part_lt a b;lia)⟩
def nd(l:List Tx):Nat:=((bG l.length).filter λm=>can m l).headD 0
theorem range_first(f:Nat->Bool):∀n,(∃m,m<n/\f m=ah)->∃m r,(bG n).filter f=m::r/\f m=ah/\(∀i,i<m->f i=aj)/\m<n:=by
 intro n
 induction n with
 |zero=>rintro⟨m,h,_⟩;lia
 |succ n c=>
  rintro⟨m,j,b⟩;rw[sV,Au];by_cases h:∃m,m<n/\f m=ah
  .obtain⟨m,r,e,g,d,l⟩:=c h;exact⟨m,r++[n].filter f,by rw[e];rfl,g,d,∅⟩
  .have e:m=n:=by
    rcases wS m n with z|z
    .exact absurd ⟨m,z,b⟩ h
    .lia
   subst e;refine⟨m,[],?_,b,λi a=>?_,∅⟩
   .rw[Av.mpr λi a=>λz=>h ⟨i,kE.mp a,z⟩];simp[b]
   .cases q:f i with
    |false=>rfl
    |true=>exact absurd ⟨i,a,q⟩ h
theorem Ql.ndS{l:List Tx}(h:Ql l):∃r,(bG l.length).filter (λm=>Sh.can m l)=Sh.nd l::r/\Sh.can (Sh.nd l) l=ah/\(∀m,m<Sh.nd l->Sh.can m l=aj)/\Sh.nd l<l.length:=by
 have d:=l6.mpr h.ne;obtain⟨m,r,e,c,b,a⟩:=range_first (λm=>Sh.can m l) l.length ⟨l.length-1,∅,h.can _ ∅⟩;have:Sh.nd l=m:=by unfold Sh.nd;rw[e];rfl
 rw[this];exact⟨r,e,c,b,a⟩
theorem Ql.nd_le{l:List Tx}(h:Ql l)(m:Nat):Sh.can m l=ah↔Sh.nd l<=m:=by
 obtain⟨_,_,c,b,_⟩:=h.ndS;constructor
 .intro a;rcases wS m (Sh.nd l)with z|z
  .rw[b m z]at a;cases a
  .exact z
 .exact λz=>can_le z c
theorem Ql.nd_one{l:List Tx}(h:Ql l)(b:l.length=1):Sh.nd l=0:=by obtain⟨_,_,_,_,a⟩:=h.ndS;lia
def mxI(l:List Nat):Nat:=l.foldl max 0
theorem mxI_le:∀(l:List Nat) (b m:Nat),l.foldl max b<=m↔b<=m/\∀x∈l,x<=m
 |[],b,m=>by simp
 |x::l,b,m=>by rw[lY,mxI_le l (max b x) m];simp only[bW,forall_eq_or_imp,Nat.max_le,and_assoc]
def plq(l:List Tx):List Nat:=(bG (wide l)).filter λp=>decide (1<(ans l p).length)
def nb(l:List Tx)(p:Nat):Nat:=1+mxI ((parts l p).map nd)
theorem Ql.nd_min{l:List Tx}(h:Ql l)(u:2<=l.length):(∃p∈plq l,nb l p=Sh.nd l)/\∀p∈plq l,Sh.nd l<=nb l p:=by
 have o:∀p,p∈plq l↔p<wide l/\1<(parts l p).length:=λp=>by unfold plq;rw[fN,kE,decide_eq_true_iff,parts,bO]
 have i:∀p∈plq l,∀m,nb l p<=m+1->Sh.can (m+1) l=ah:=λp f m s=>by obtain⟨j,n⟩:=(o p).mp f;unfold nb mxI at s;have g:=((mxI_le ((parts l p).map Sh.nd) 0 m).mp ∅).2;unfold Sh.can;rw[oq];refine .inr (j6.mpr ⟨p,kE.mpr j,?_⟩);rw[dW];exact⟨decide_eq_true n,gK.mpr λq c=>((h.part c).1.nd_le m).mpr (g _ (bJ.mpr ⟨q,c,rfl⟩))⟩
 have b:∀p∈plq l,Sh.nd l<=nb l p:=λp f=>by
  obtain⟨m,e⟩:∃m,nb l p=m+1:=⟨mxI ((parts l p).map Sh.nd),by unfold nb;lia⟩
  rw[e];exact(h.nd_le _).mp (i p f m ∅)
 refine⟨?_,b⟩;obtain⟨_,_,a,_,_⟩:=h.ndS;cases e:Sh.nd l with
 |zero=>rw[e]at a;unfold Sh.can at a;have:=of_decide_eq_true a;lia
 |succ m=>
  rw[e]at a;unfold Sh.can at a;rw[oq]at a;rcases a with a|a
  .have:=of_decide_eq_true a;lia
  .obtain⟨p,f,a⟩:=j6.mp a;rw[dW]at a;have d:=(o p).mpr ⟨kE.mp f,of_decide_eq_true a.1⟩;refine⟨p,d,?_⟩;have j:=b p d;have n:mxI ((parts l p).map Sh.nd)<=m:=(mxI_le _ 0 m).mpr ⟨iN _,λx r=>by obtain⟨q,c,rfl⟩:=bJ.mp r;exact((h.part c).1.nd_le m).mp (gK.mp a.2 q c)⟩;unfold nb at j ⊢;lia
structure Vd where
 w:Nat
 ls:List Tx
def tx(v:Vd):List Tx:=bZ v.w v.ls
section
variable{a:Ad}
theorem sk_ix{t:Tx}{p:Nat}(h:p<t.length):bB (.str t) (.int p)=aa (.str [t[p]]):=by show(c9 t ((p:Nat):Int)).map _=_;unfold c9;rw[pN ∅ ∅];simp[h]
theorem sk_test{t:Tx}{p c:Nat}(h:p<t.length):(bB (.str t) (.int p)).bind (λv=>Pu.eqT aj v (.str [c]))=aa (.bl (decide (t[p]?=aa c))):=by rw[sk_ix h,gu,Jz,tm];congr 2;exact decide_eq_decide.mpr (by rw[eO h];simp)
def hasC(p c:Nat):PV->Bool
 |.str t=>decide (t[p]?=aa c)
 |_=>aj
theorem sk_blk{t:Tx}{p c:Nat}(h:p<t.length)(f:PV):bg (bD [1,2] (dB (d2 (Pu.eqT aj) (d2 bB (dV 0) (dV 1)) (dV 2))) (.str t) [.val f,⇑p,.val (.str [c])])=.ok (decide (t[p]?=aa c)) [.val f,⇑p,.val (.str [c])]:=by have d:=sk_ix h;have b:=sk_test (c:=c) h;rw[d,gu]at b;generalize ((p:Nat):Int)=PI at d;generalize decide (t[p]?=aa c)=B at b;simp![bD,cE,bg,d,b]
theorem with_eq{L:PV}{l:List Tx}{p c:Nat}(f:gH L=aa (ak l))(h:∀t∈l,p<t.length):i4 a [.val L,⇑p,.val (.str [c])]=.ok (.val (.tup (ak (wl l p c)))) [.val L,⇑p,.val (.str [c])]:=by
 have b:=gW (cap:=[1,2]) (dt:=(dB (d2 (Pu.eqT aj) (d2 bB (dV 0) (dV 1)) (dV 2)))) (de:=dV 0) (ε:=[.val L,⇑p,.val (.str [c])]) (hasC p c) (λv=>v) (ak l) (λv g=>by obtain⟨t,d,rfl⟩:=bJ.mp g;exact⟨sk_blk (h t d) L,λ_=>by generalize ((p:Nat):Int)=PI;simp![bD,cE,bg]⟩) [];have i:((ak l).filter (hasC p c)).map (λv=>v)=ak (wl l p c):=by rw[qw];unfold ak wl;rw[kL];rfl
 rw[fS,i]at b;have d:iB [.lst (ak (wl l p c))]=aa (.tup (ak (wl l p c))):=rfl;generalize ak (wl l p c)=W at b d;generalize ak l=TL at b f;generalize ((p:Nat):Int)=PI at b;simp![i4,yaI,bp,bK,f,b,d]
def sgP(b:Tx):List PV:=b.map λc=>.str [c]
theorem sk_len{x:PV}{n:Nat}{d:af->R PV}{ε:af}(h:d ε=.ok x ε)(b:aN [x]=aa (.int n))(k:Nat):dB (d2 (b0 λi j=>decide (j<i)) (dL aN (aq d ax)) (dC (.int k))) ε=.ok (decide (k<n)) ε:=by
 have e:(b0 λi j=>decide (j<i)) (.int n) (.int k)=aa (.bl (decide (k<n))):=by show aa (PV.bl (decide (((k:Nat):Int)<(n:Nat))))=_;congr 2;exact decide_eq_decide.mpr ∅
 generalize ((n:Nat):Int)=N at b e;generalize ((k:Nat):Int)=KI at e;simp[dB,d2,dL,aq,ax,dC,h,b,e,R.bind,aB,gw]
theorem sk_call3{G:af->R Slot}{d e f:af->R PV}{ε:af}{x y z u:PV}(h:d ε=.ok x ε)(g:e ε=.ok y ε)(c:f ε=.ok z ε)(b:G [.val x,.val y,.val z]=.ok (.val u) [.val x,.val y,.val z]):az (aC G (gV d (gV e (gV f Pu.bH)))) ε=.ok u ε:=by simp[az,aC,gV,Pu.bH,h,g,c,b,R.bind,aB,cp,cr,bq,b9,cu,iF]
theorem sk_call2o{G:af->R Slot}{d e:af->R PV}{ε:af}{x y:PV}{l:List PV}(h:d ε=.ok x ε)(c:e ε=.ok y ε)(b:G [.val x,.val y]=.ok (.own (.lst l)) [.val x,.val y]):az (aC G (gV d (gV e Pu.bH))) ε=.ok (.lst l) ε:=by simp[az,aC,gV,Pu.bH,h,c,b,R.bind,aB,cp,cr,bq,b9,cu,iF,k9]
theorem sk_call1o{G:af->R Slot}{d:af->R PV}{ε:af}{x:PV}{l:List PV}(h:d ε=.ok x ε)(b:G [.val x]=.ok (.own (.lst l)) [.val x]):az (aC G (gV d Pu.bH)) ε=.ok (.lst l) ε:=by simp[az,aC,gV,Pu.bH,h,b,R.bind,aB,cp,cr,bq,b9,cu,iF,k9]
theorem blk2{f:Type}{d:af->R f}{x c b:PV}{r:f}(h:d [.val x,.val c,.val b]=.ok r [.val x,.val c,.val b]):bg (bD [0,1] d x [.val c,.val b])=.ok r [.val c,.val b]:=by simp[bD,cE,bg,bq,b9,R.bind,aB,h,cp,cu,cr]
theorem blk1{c:Type}{d:af->R c}{x b:PV}{r:c}(h:d [.val x,.val b]=.ok r [.val x,.val b]):bg (bD [0] d x [.val b])=.ok r [.val b]:=by simp[bD,cE,bg,bq,b9,R.bind,aB,h,cp,cu,cr]
def ansB(l:List Tx)(p:Nat):PV->Bool
 |.str [c]=>decide (wl l p c≠[])
 |_=>aj
theorem answers_eq{L:PV}{l:List Tx}{p:Nat}(r:gH L=aa (ak l))(o:∀t∈l,p<t.length):jQ a [.val L,⇑p]=.ok (.own (.lst (sgP (ans l p)))) [.val L,⇑p]:=by
 have b:=gW (cap:=[0,1]) (dt:=(dB (d2 (b0 λi j=>decide (j<i)) (dL aN (aq (az (aC (i4 a) (gV (dV 1) (gV (dV 2) (gV (dV 0) (Pu.bH)))))) (ax))) (dC (.int 0))))) (de:=dV 0) (ε:=[.val L,⇑p]) (ansB l p) (λv=>v) (sgP bF) (λv m=>by obtain⟨c,b,rfl⟩:=bJ.mp m;refine⟨blk2 ?_,λ_=>blk2 rfl⟩;have h:=sk_len (sk_call3 (d:=dV 1) (e:=dV 2) (f:=dV 0) (ε:=[.val (.str [c]),.val L,⇑p]) rfl rfl rfl (with_eq (a:=a) r o)) (n:=(wl l p c).length) (by simp[aN,gD]) 0;refine h.trans ?_;congr 1;exact decide_eq_decide.mpr l6) [];have q:((sgP bF).filter (ansB l p)).map (λv=>v)=sgP (ans l p):=by rw[qw];unfold sgP ans;rw[kL];rfl
 rw[fS,q]at b;have g:gH (.str [97,98,99])=aa (sgP bF):=rfl;unfold jQ yag;generalize (dB (d2 (b0 λi j=>decide (j<i)) (dL aN (aq (az (aC (i4 a) (gV (dV 1) (gV (dV 2) (gV (dV 0) (Pu.bH)))))) (ax))) (dC (.int 0))))=DT at b;generalize sgP (ans l p)=W at b;generalize sgP bF=TL at b g;generalize ((p:Nat):Int)=PI at b;simp![bp,bK,jH,g,b]
theorem sg_len(b:Tx):aN [.lst (sgP b)]=aa (.int (b.length:Nat)):=by simp[aN,sgP]
def plB(l:List Tx):PV->Bool
 |.int i=>decide (1<(ans l i.toNat).length)
 |_=>aj
def nsP(l:List Nat):List PV:=l.map λp=>.int (p:Nat)
theorem rng_ns(n:Nat):fG 0 n=nsP (bG n):=by unfold fG nsP;exact j0 λi _=>by simp
theorem places_eq{l:List Tx}(h:Ql l)(s:wide l<=1000):jv a [.val (.tup (ak l))]=.ok (.own (.lst (nsP (plq l)))) [.val (.tup (ak l))]:=by
 have b:=gW (cap:=[0]) (dt:=(dB (d2 (b0 λi j=>decide (j<i)) (dL aN (aq (az (aC (jQ a) (gV (dV 1) (gV (dV 0) (Pu.bH))))) (ax))) (dC (.int 1))))) (de:=dV 0) (ε:=[.val (.tup (ak l))]) (plB l) (λv=>v) (nsP (bG (wide l))) (λv n=>by obtain⟨p,f,rfl⟩:=bJ.mp n;have f:=kE.mp f;refine⟨blk1 ?_,λ_=>blk1 rfl⟩;have h:=sk_len (sk_call2o (d:=dV 1) (e:=dV 0) (ε:=[⇑p,.val (.tup (ak l))]) rfl rfl (answers_eq (a:=a) rfl λt o=>by rw[h.len t o];exact f)) (sg_len _) 1;exact h) [];have q:((nsP (bG (wide l))).filter (plB l)).map (λv=>v)=nsP (plq l):=by rw[qw];unfold nsP plq;rw[kL];congr 1
 rw[fS,q]at b;obtain⟨x,r,e⟩:=l7 h.ne;have m:bB (.tup (ak l)) (.int 0)=aa (.str x):=by rw[e];show c9 (ak (x::r)) ((0:Nat):Int)=_;unfold c9;rw[pN ∅ (by simp[ak])];rfl
 have g:aN [.str x]=aa (.int (wide l:Nat)):=by have:x.length=wide l:=h.len x (by rw[e];simp);show aa (PV.int (x.length:Nat))=_;rw[this]
 have c:fj [.int (wide l:Nat)]=aa (nsP (bG (wide l))):=by rw[<-rng_ns];exact n_ ∅
 unfold jv yaG;generalize (dB (d2 (b0 λi j=>decide (j<i)) (dL aN (aq (az (aC (jQ a) (gV (dV 1) (gV (dV 0) (Pu.bH))))) (ax))) (dC (.int 1))))=DT at b;generalize nsP (plq l)=W at b;generalize nsP (bG (wide l))=TL at b c;generalize ((wide l:Nat):Int)=WI at g c;generalize ak l=TX at b m;simp![bK,jH,m,g,c,b]
end
theorem ints_nat(l:List Nat):eF (nsP l)=aa (l.map λi:Nat=>(i:Int)):=by
 induction l with
 |nil=>rfl
 |cons x l a=>show(eF (nsP l)).map _=_;rw[a];rfl
theorem max_fold:∀(r:List Nat) (b:Nat),(r.map λi:Nat=>(i:Int)).foldl (λb y=>if y > b then y else b) (b:Int)=(((r.foldl max b):Nat):Int)
 |[],b=>rfl
 |x::r,b=>by
  rw[dD,lY,lY];have e:(if((x:Nat):Int) > (b:Nat)then((x:Nat):Int)else(b:Nat))=(((max b x):Nat):Int):=by split <;> lia
  rw[e];exact max_fold r (max b x)
theorem maxP_nat{l:List Nat}(h:l≠[]):nX [.lst (nsP l)]=aa (.int (mxI l:Nat)):=by
 show(eF (nsP l)).bind _=_;rw[ints_nat,gu,if_pos (by simpa using h)];congr 2
 match l,h with
 |x::r,_=>show(r.map λi:Nat=>(i:Int)).foldl (λb y=>if y > b then y else b) ((x:Nat):Int)=_;rw[max_fold];unfold mxI;rw[lY,Nat.zero_max]
theorem min_fold:∀(r:List Nat) (b m:Nat),m<=b->(∀x∈r,m<=x)->(m=b\/m∈r)->(r.map λi:Nat=>(i:Int)).foldl (λb y=>if y<b then y else b) (b:Int)=(m:Int)
 |[],b,m,_,_,h=>by
  rcases h with rfl|h
  .rfl
  .cases h
 |x::r,b,m,f,a,h=>by
  rw[dD,lY];have e:(if((x:Nat):Int)<(b:Nat)then((x:Nat):Int)else(b:Nat))=(((min b x):Nat):Int):=by split <;> lia
  rw[e];have d:=a x (by simp);refine min_fold r (min b x) m ∅ (λy c=>a y (by simp[c])) ?_;rcases h with h|h
  .exact .inl ∅
  .rcases bW.mp h with h|h
   .exact .inl ∅
   .exact .inr h
theorem minP_nat{l:List Nat}{m:Nat}(h:m∈l)(a:∀x∈l,m<=x):pQ [.lst (nsP l)]=aa (.int m):=by
 have c:=List.ne_nil_of_mem h;show(eF (nsP l)).bind _=_;rw[ints_nat,gu,if_pos (by simpa using c)];congr 2
 match l,h,a with
 |x::r,h,a=>exact min_fold r x m (a x (by simp)) (λy b=>a y (by simp[b])) (bW.mp h)
def subs:List Tx->List (List Tx)
 |[]=>[[]]
 |x::l=>subs l++(subs l).map (x::·)
theorem subs_mem:∀{l m:List Tx},m.Sublist l->m∈subs l
 |[],m,h=>by rw[List.sublist_nil.mp h];simp[subs]
 |x::l,m,h=>by
  unfold subs;rw[lO,bJ];cases h with
  |cons _ h=>exact .inl (subs_mem h)
  |cons_cons _ h=>exact .inr ⟨_,subs_mem h,rfl⟩
theorem subs_len:∀l:List Tx,(subs l).length=2^l.length
 |[]=>rfl
 |x::l=>by rw[subs,eN,bO,subs_len l,eX,Nat.pow_succ];lia
structure Kn(l0:List Tx)(kvs:List (ci×PV)):Prop where
 key:∀q∈kvs,∃l:List Tx,q.1=eG l/\q.2=.int (nd l:Nat)/\l.Sublist l0
 nd:(kvs.map (·.1)).Nodup
theorem Kn.nil(l0:List Tx):Kn l0 []:=⟨(λq h=>by cases h),List.Pairwise.nil⟩
theorem Kn.len{l0:List Tx}{kvs:List (ci×PV)}(h:Kn l0 kvs)(f:l0.length<=16):kvs.length<=65536:=by
 have d:=h.nd.length_le_of_subset (l₂:=(subs l0).map eG) λk c=>by obtain⟨q,b,rfl⟩:=bJ.mp c;obtain⟨l,e,_,a⟩:=h.key q b;exact bJ.mpr ⟨l,subs_mem a,e.symm⟩
 rw[bO,bO,subs_len]at d;have:2^l0.length<=2^16:=Fj (by decide) f;lia
theorem Kn.val{l0 l:List Tx}{kvs:List (ci×PV)}(h:Kn l0 kvs):fi kvs (eG l)=ae\/fi kvs (eG l)=aa (.int (Sh.nd l:Nat)):=by
 unfold fi;cases e:kvs.find? λa=>decide (a.1=eG l)with
 |none=>exact .inl rfl
 |some q=>obtain⟨m,d,c,_⟩:=h.key q (Fg e);have b:q.1=eG l:=of_decide_eq_true (List.find?_some (p:=λa:ci×PV=>decide (a.1=eG l)) e);rw[d]at b;have:=txKey_ii.mp b;subst this;exact .inr (by rw[oy,c])
theorem valT_none{a:List (ci×PV)}{k:ci}(h:fi a k=ae):∀q∈a,q.1≠k:=λq b e=>by unfold fi at h;rw[Az,Ff]at h;exact h q b (decide_eq_true e)
theorem putT_new{a:List (ci×PV)}{k:ci}{v:PV}(h:fi a k=ae):jn a k v=a++[(k,v)]/\fi (a++[(k,v)]) k=aa v:=by
 have c:=valT_none h;refine⟨?_,?_⟩
 .unfold jn;rw[if_neg];intro z;obtain⟨q,b,e⟩:=j6.mp z;exact c q b (of_decide_eq_true e)
 .unfold fi at h ⊢;rw[Az]at h;rw[List.find?_append,h];simp
theorem Kn.put{c l:List Tx}{a:List (ci×PV)}(h:Kn c a)(g:l.Sublist c)(f:fi a (eG l)=ae):Kn c (a++[(eG l,.int (Sh.nd l:Nat))]):=by
 refine⟨λq b=>?_,?_⟩
 .rcases lO.mp b with b|b
  .exact h.key q b
  .rw[gs.mp b];exact⟨l,rfl,rfl,g⟩
 .rw[qd,wP];refine⟨h.nd,by simp,λk i j d=>?_⟩;obtain⟨q,b,rfl⟩:=bJ.mp i;have d:j=eG l:=by simpa using d
  rw[d];exact valT_none f q b
section
variable{a:Ad}
def partE(b:af->R Slot):af->R PV:=(az (aC (b) (gV (dV 0) (gO 1 (Pu.bH)))))
theorem part_blk{d:af->R Slot}{s0 s1 s3:Slot}{m:List Tx}{c b:List (ci×PV)}{n:Nat}(h:d [.val (.tup (ak m)),.own (.dT c)]=.ok (⇑n) [.val (.tup (ak m)),.own (.dT b)]):bg (bD [2] (partE d) (ju m) [s0,s1,.own (.dT c),s3])=.ok (.int n) [s0,s1,.own (.dT b),s3]:=by have e:ju m=.tup (ak m):=rfl;rw[e];generalize ak m=M at h;generalize ((n:Nat):Int)=N at h;simp[partE,bD,cE,bg,bq,b9,R.bind,aB,az,aC,gV,gO,dV,Pu.bH,h,cp,cu,cr,iF]
theorem part_loop{rc:af->R Slot}{g:List Tx}{s0 s1 s3:Slot}:∀(d:List (List Tx)) (f:List PV) (b:List (ci×PV)),Kn g b -> (∀m∈d,∀b,Kn g b->∃c,Kn g c/\rc [.val (.tup (ak m)),.own (.dT b)]=.ok (⇑(nd m:Nat)) [.val (.tup (ak m)),.own (.dT c)]) -> ∃c,Kn g c/\dA [2] bP (partE rc) (d.map ju) f [s0,s1,.own (.dT b),s3]=.ok (f++nsP (d.map nd)) [s0,s1,.own (.dT c),s3]
 |[],f,b,j,_=>⟨b,j,by simp[dA,nsP]⟩
 |m::d,f,b,j,h=>by obtain⟨o,v,u⟩:=h m (by simp) b j;obtain⟨n,s,r⟩:=part_loop d (f++[.int (nd m:Nat)]) o v λl i=>h l (by simp[i]);refine⟨n,s,?_⟩;have q:=part_blk (s0:=s0) (s1:=s1) (s3:=s3) u;have p:bg (bD [2] bP (ju m) [s0,s1,.own (.dT b),s3])=.ok ah [s0,s1,.own (.dT b),s3]:=rfl;rw[dD,dA,p,R.bind_ok];show(bg (bD [2] (partE rc) (ju m) [s0,s1,.own (.dT b),s3])).bind _=_;rw[q,R.bind_ok,r,qj];rfl
theorem blk_v{f:Type}{d:af->R f}{x c b:PV}{i g:Slot}{r:f}(h:d [.val x,.val b,.val c]=.ok r [.val x,.val b,.val c]):bg (bD [1,0] d x [.val c,.val b,i,g])=.ok r [.val c,.val b,i,g]:=by simp[bD,cE,bg,bq,b9,R.bind,aB,h,cp,cu,cr]
def prtP(l:List Tx)(p:Nat):PV->PV
 |.str [c]=>ju (wl l p c)
 |v=>v
theorem parts_val{l:List Tx}{p:Nat}(i:∀t∈l,p<t.length)(b s3:Slot):dF (bK [1,0] (bp (az (aC (jQ a) (gV (dV 1) (gV (dV 0) (Pu.bH)))))) (bP) (az (aC (i4 a) (gV (dV 1) (gV (dV 2) (gV (dV 0) (Pu.bH))))))) [⇑p,.val (.tup (ak l)),b,s3]=.ok (.lst ((parts l p).map ju)) [⇑p,.val (.tup (ak l)),b,s3]:=by
 have g:=gW (cap:=[1,0]) (dt:=bP) (de:=(az (aC (i4 a) (gV (dV 1) (gV (dV 2) (gV (dV 0) (Pu.bH))))))) (ε:=[⇑p,.val (.tup (ak l)),b,s3]) (λ_=>ah) (prtP l p) (sgP (ans l p)) (λv j=>by obtain⟨c,g,rfl⟩:=bJ.mp j;refine⟨rfl,λ_=>blk_v ?_⟩;exact sk_call3 (d:=dV 1) (e:=dV 2) (f:=dV 0) (ε:=[.val (.str [c]),.val (.tup (ak l)),⇑p]) rfl rfl rfl (with_eq (a:=a) rfl i)) [];have n:((sgP (ans l p)).filter (λ_=>ah)).map (prtP l p)=(parts l p).map ju:=by rw[qt.mpr (λ_ _=>rfl)];unfold sgP parts;rw[dX,dX];rfl
 rw[fS,n]at g;have m:bp (az (aC (jQ a) (gV (dV 1) (gV (dV 0) (Pu.bH))))) [⇑p,.val (.tup (ak l)),b,s3]=.ok (sgP (ans l p)) [⇑p,.val (.tup (ak l)),b,s3]:=by have h:=sk_call2o (d:=dV 1) (e:=dV 0) (ε:=[⇑p,.val (.tup (ak l)),b,s3]) rfl rfl (answers_eq (a:=a) (L:=.tup (ak l)) (p:=p) rfl i);unfold bp;rw[h];rfl
 generalize (parts l p).map ju=PP at g;unfold dF bK;rw[m,R.bind_ok,g];rfl
def nbE(rc:af->R Slot):af->R aG:=(a_ (d2 a9 (dC (.int 1)) (dL nX (aq (dF (bK [2] (bp (dV 3)) (bP) (partE rc))) (ax)))))
theorem nb_def(rc:af->R Slot):jo a rc=bh 3 [2] (a5 1 (aH (bd 3 (dF (bK [1,0] (bp (az (aC (jQ a) (gV (dV 1) (gV (dV 0) (Pu.bH)))))) (bP) (az (aC (i4 a) (gV (dV 1) (gV (dV 2) (gV (dV 0) (Pu.bH))))))))) (nbE rc))):=rfl
theorem nb_ret{rc:af->R Slot}{s0 s1:Slot}{c:List PV}{b:List Nat}{j i:List (ci×PV)}(l:b≠[])(h:dA [2] bP (partE rc) c [] [s0,s1,.own (.dT j),.val (.lst c)]=.ok (nsP b) [s0,s1,.own (.dT i),.val (.lst c)]):nbE rc [s0,s1,.own (.dT j),.val (.lst c)]=.ok (.ret (⇑((1+mxI b:Nat):Int))) [s0,s1,.own (.dT i),.val (.lst c)]:=by
 have f:=maxP_nat l;have g:a9 (.int 1) (.int (mxI b:Nat))=aa (.int ((1+mxI b:Nat):Int)):=by show aa (PV.int (1+((mxI b:Nat):Int)))=_;exact congrArg (λz=>aa (PV.int z)) ∅
 generalize nsP b=NS at h f;generalize ((1+mxI b:Nat):Int)=R1 at g;generalize ((mxI b:Nat):Int)=R2 at g f;generalize d:partE rc=PE at h;unfold nbE;rw[d];simp[a_,d2,dC,dL,aq,ax,dF,bK,bp,dV,gH,R.bind,aB,h,k9,f,g]
theorem needed_by_eq{rc:af->R Slot}{f l:List Tx}{p:Nat}(u:Ql l)(n:p∈plq l){c:List (ci×PV)}(v:Kn f c)(h:∀m∈parts l p,∀c,Kn f c->∃b,Kn f b/\rc [.val (.tup (ak m)),.own (.dT c)]=.ok (⇑(nd m:Nat)) [.val (.tup (ak m)),.own (.dT b)]):∃b,Kn f b/\jo a rc [⇑p,.val (.tup (ak l)),.own (.dT c)]=.ok (⇑(nb l p:Nat)) [⇑p,.val (.tup (ak l)),.own (.dT b)]:=by
 unfold plq at n;obtain⟨g,i⟩:=fN.mp n;have g:=kE.mp g;have i:=of_decide_eq_true i;have x:∀t∈l,p<t.length:=λt r=>by rw[u.len t r];exact g
 obtain⟨j,w,o⟩:=part_loop (rc:=rc) (s0:=⇑p) (s1:=.val (.tup (ak l))) (s3:=.val (.lst ((parts l p).map ju))) (parts l p) [] c v h;rw[fS]at o;have y:(parts l p).map nd≠[]:=λz=>by have:=congrArg lT z;rw[bO,parts,bO,lX]at this;lia
 refine⟨j,w,?_⟩;have q:=parts_val (a:=a) x (.own (.dT c)) .none;have s:=nb_ret y o;rw[nb_def];have d:aH (bd 3 (dF (bK [1,0] (bp (az (aC (jQ a) (gV (dV 1) (gV (dV 0) (Pu.bH)))))) (bP) (az (aC (i4 a) (gV (dV 1) (gV (dV 2) (gV (dV 0) (Pu.bH))))))))) (nbE rc) [⇑p,.val (.tup (ak l)),.own (.dT c),.none]=.ok (.ret (⇑(nb l p:Nat))) [⇑p,.val (.tup (ak l)),.own (.dT j),.val (.lst ((parts l p).map ju))]:=(cx (jB q)).trans s;generalize aH (bd 3 _) (nbE rc)=DD at d;generalize (parts l p).map ju=PP at d;generalize ((nb l p:Nat):Int)=NB at d;generalize ((p:Nat):Int)=PI at d;generalize ak l=TX at d;simp[bh,fL,a5,cM,d,back,gZ,aB,R.bind]
def plE(a:Ad)(rc:af->R Slot):af->R PV:=(az (aC (jo a rc) (gV (dV 0) (gV (dV 1) (gO 2 (Pu.bH))))))
theorem pl_blk{d:af->R Slot}{T:PV}{p n:Nat}{c b:List (ci×PV)}(h:jo a d [⇑p,.val T,.own (.dT c)]=.ok (⇑n) [⇑p,.val T,.own (.dT b)]):bg (bD [0,1] (plE a d) (.int p) [.val T,.own (.dT c)])=.ok (.int n) [.val T,.own (.dT b)]:=by generalize f:jo a d=GG at h;generalize ((n:Nat):Int)=N at h;generalize ((p:Nat):Int)=PI at h;unfold plE;rw[f];simp[bD,cE,bg,bq,b9,R.bind,aB,az,aC,gV,gO,dV,Pu.bH,h,cp,cu,cr,iF]
theorem pl_loop{rc:af->R Slot}{l0 l:List Tx}(f:Ql l)(h:∀p∈plq l,∀m∈parts l p,∀kvs,Kn l0 kvs->∃b,Kn l0 b/\rc [.val (.tup (ak m)),.own (.dT kvs)]=.ok (⇑(nd m:Nat)) [.val (.tup (ak m)),.own (.dT b)]):∀(c:List Nat) (d:List PV) (kvs:List (ci×PV)),Kn l0 kvs->(∀p∈c,p∈plq l) -> ∃b,Kn l0 b/\dA [0,1] bP (plE a rc) (nsP c) d [.val (.tup (ak l)),.own (.dT kvs)]=.ok (d++nsP (c.map (nb l))) [.val (.tup (ak l)),.own (.dT b)]
 |[],d,kvs,i,_=>⟨kvs,i,by simp[dA,nsP]⟩
 |p::c,d,kvs,i,g=>by obtain⟨j,v,u⟩:=needed_by_eq (a:=a) f (g p (by simp)) i (h p (g p (by simp)));obtain⟨k2,s,r⟩:=pl_loop f h c (d++[.int (nb l p:Nat)]) j v λq f=>g q (by simp[f]);refine⟨k2,s,?_⟩;have o:=pl_blk u;have n:bg (bD [0,1] bP (.int p) [.val (.tup (ak l)),.own (.dT kvs)])=.ok ah [.val (.tup (ak l)),.own (.dT kvs)]:=rfl;have e:nsP (p::c)=.int p::nsP c:=rfl;rw[e,dA,n,R.bind_ok];show(bg (bD [0,1] (plE a rc) (.int p) [.val (.tup (ak l)),.own (.dT kvs)])).bind _=_;rw[o,R.bind_ok,r,qj];rfl
def nfP(a:Ad)(rc:af->R Slot):af->R aG:=(rq 1 (dV 0) (dL pQ (aq (dF (bK [0,1] (bp (az (aC (jv a) (gV (dV 0) (Pu.bH))))) (bP) (plE a rc))) (ax))))
def nfI(a:Ad)(rc:af->R Slot):af->R aG:=(bA (dB (lv ah 1 (dV 0))) (nfP a rc) (cg))
def nfH:af->R aG:=(bA (dB (d2 (Pu.eqT aj) (dL aN (aq (dV 0) (ax))) (dC (.int 1)))) (a_ (dC (.int 0))) (cg))
theorem nf_def(rc:af->R Slot):yaF a rc=aH nfH (aH (nfI a rc) (a_ (pZ 1 (dV 0)))):=rfl
theorem nfH_eq{T:PV}{n:Nat}(c:aN [T]=aa (.int n))(d:Slot):nfH [.val T,d]=if n=1 then .ok (.ret (⇑0)) [.val T,d] else .ok .next [.val T,d]:=by
 have f:=jO aj (n:Nat) 1;by_cases h:n=1
 .rw[if_pos h];have b:Pu.eqT aj (.int n) (.int 1)=aa (.bl ah):=by rw[f,decide_eq_true ∅];rfl
  generalize ((n:Nat):Int)=N at c b;simp[nfH,bA,dB,d2,dL,aq,ax,dV,dC,c,b,R.bind,aB,gw,a_]
 .rw[if_neg h];have b:Pu.eqT aj (.int n) (.int 1)=aa (.bl aj):=by rw[f,decide_eq_false ∅];rfl
  generalize ((n:Nat):Int)=N at c b;simp[nfH,bA,dB,d2,dL,aq,ax,dV,dC,c,b,R.bind,aB,gw,cg]
theorem tkey_sk(k:List Tx):lJ (.tup (ak k))=aa (eG k):=by
 show oW (ak k)=_
 induction k with
 |nil=>rfl
 |cons x k b=>show(ge (.str x)).bind _=_;show(oW (ak k)).map _=_;rw[b];rfl
theorem nf_in{l:List Tx}{kvs:List (ci×PV)}{b:Bool}(d:(fi kvs (eG l)).isSome=b):dB (lv ah 1 (dV 0)) [.val (.tup (ak l)),.own (.dT kvs)]=.ok (!b) [.val (.tup (ak l)),.own (.dT kvs)]:=by have c:=tkey_sk l;generalize ak l=TX at c;simp only[dB,lv,dV,ie,c,R.bind,aB,gw,List.getElem?_cons_zero,List.getElem?_cons_succ,oy,d,Bool.true_xor]
theorem nf_get{l:List Tx}{kvs:List (ci×PV)}{v:PV}(c:fi kvs (eG l)=aa v):a_ (pZ 1 (dV 0)) [.val (.tup (ak l)),.own (.dT kvs)]=.ok (.ret (.val v)) [.val (.tup (ak l)),.own (.dT kvs)]:=by have b:=tkey_sk l;generalize ak l=TX at b;simp[a_,pZ,dV,ie,b,c,R.bind,aB]
theorem nf_put{d:af->R PV}{l:List Tx}{b k2:List (ci×PV)}{v:PV}(f:d [.val (.tup (ak l)),.own (.dT b)]=.ok v [.val (.tup (ak l)),.own (.dT k2)])(g:k2.length<bQ):rq 1 (dV 0) d [.val (.tup (ak l)),.own (.dT b)]=.ok .next [.val (.tup (ak l)),.own (.dT (jn k2 (eG l) v))]:=by have c:=tkey_sk l;generalize ak l=TX at c f;simp[rq,dV,ie,f,c,g,R.bind,aB]
theorem nf_ret{d:af->R aG}{b v:PV}{c k2:List (ci×PV)}(h:d [.val b,.own (.dT c)]=.ok (.ret (.val v)) [.val b,.own (.dT k2)]):bh 2 [1] (a5 0 d) [.val b,.own (.dT c)]=.ok (.val v) [.val b,.own (.dT k2)]:=by simp[bh,fL,a5,cM,h,back,gZ,aB,R.bind]
theorem Kn.get{l0 l:List Tx}{kvs:List (ci×PV)}(h:Kn l0 kvs)(i:l.Sublist l0):fi (jn kvs (eG l) (.int (Sh.nd l:Nat))) (eG l)=aa (.int (Sh.nd l:Nat))/\Kn l0 (jn kvs (eG l) (.int (Sh.nd l:Nat))):=by
 rcases h.val (l:=l)with e|e
 .obtain⟨f,d⟩:=putT_new (v:=.int (Sh.nd l:Nat)) e;rw[f];exact⟨d,h.put i e⟩
 .have n:jn kvs (eG l) (.int (Sh.nd l:Nat))=kvs:=by
   unfold jn;split
   .refine(j0 λq b=>?_).trans (qw kvs);split
    .rename_i c;obtain⟨m,f,d,_⟩:=h.key q b;have:=txKey_ii.mp (f.symm.trans c);subst this;rw[<-d]
    .rfl
   .rename_i j;exfalso;refine j (j6.mpr ?_);unfold fi at e;obtain⟨q,b,_⟩:=sT.mp e;exact⟨q,Fg b,List.find?_some (p:=λg:ci×PV=>decide (g.1=eG l)) b⟩
  rw[n];exact⟨e,h⟩
theorem needed_eq{l0:List Tx}(Y:l0.length<=16)(M:∀l,Ql l->l.Sublist l0->wide l<=1000):∀(k j:Nat) (l:List Tx) (kvs:List (ci×PV)),l.length<=k+1->k+1<=j->Ql l->l.Sublist l0->Kn l0 kvs -> ∃c,Kn l0 c/\fM a j [.val (.tup (ak l)),.own (.dT kvs)]=.ok (⇑(nd l:Nat)) [.val (.tup (ak l)),.own (.dT c)]:=by
 intro k
 induction k with
 |zero=>
  intro j l kvs N O g y r;obtain⟨f,rfl⟩:∃f,j=f+1:=⟨j-1,∅⟩
  have u:l.length=1:=by have:=l6.mpr g.ne;lia
  refine⟨kvs,r,?_⟩;rw[g.nd_one u];show bh 2 [1] (a5 0 (yaF a (fM a f))) _=_;refine nf_ret ?_;rw[nf_def];have i:=nfH_eq (T:=.tup (ak l)) (n:=l.length) (by simp[aN,gD]) (.own (.dT kvs));rw[if_pos u]at i;unfold aH;rw[i];rfl
 |succ k K=>
  intro j l kvs N O g y r;obtain⟨f,rfl⟩:∃f,j=f+1:=⟨j-1,∅⟩
  have i:=nfH_eq (T:=.tup (ak l)) (n:=l.length) (by simp[aN,gD]) (.own (.dT kvs));show ∃c,Kn l0 c/\bh 2 [1] (a5 0 (yaF a (fM a f))) _=_;by_cases u:l.length=1
  .refine⟨kvs,r,?_⟩;rw[g.nd_one u];refine nf_ret ?_;rw[nf_def];rw[if_pos u]at i;unfold aH;rw[i];rfl
  .have Q:2<=l.length:=by have:=l6.mpr g.ne;lia
   rw[if_neg u]at i;rcases r.val (l:=l)with e|e
   .obtain⟨k2,C,s⟩:=pl_loop (a:=a) (rc:=fM a f) (l0:=l0) g (λp A m o c G=>by
     have B:1<(parts l p).length:=by rw[parts,bO];exact of_decide_eq_true (fN.mp A).2
     obtain⟨I,H⟩:=g.part o;have:=part_lt B o;exact K f m c ∅ ∅ I (H.trans y) G) (plq l) [] kvs r λp A=>A
    rw[fS]at s;obtain⟨⟨p,E,B⟩,F⟩:=g.nd_min Q;have o:=minP_nat (l:=(plq l).map (nb l)) (m:=nd l) (bJ.mpr ⟨p,E,B⟩) λx L=>by obtain⟨q,J,rfl⟩:=bJ.mp L;exact F q J
    have X:=places_eq (a:=a) g (M l g y);have z:bp (az (aC (jv a) (gV (dV 0) (Pu.bH)))) [.val (.tup (ak l)),.own (.dT kvs)]=.ok (nsP (plq l)) [.val (.tup (ak l)),.own (.dT kvs)]:=by have h:=sk_call1o (d:=dV 0) (ε:=[.val (.tup (ak l)),.own (.dT kvs)]) rfl X;unfold bp;rw[h];rfl
    have P:dL pQ (aq (dF (bK [0,1] (bp (az (aC (jv a) (gV (dV 0) (Pu.bH))))) (bP) (plE a (fM a f)))) (ax)) [.val (.tup (ak l)),.own (.dT kvs)]=.ok (.int (nd l:Nat)) [.val (.tup (ak l)),.own (.dT k2)]:=by generalize nsP ((plq l).map (nb l))=NN at s o;generalize (plE a (fM a f))=PE at s;generalize nsP (plq l)=PL at s z;generalize (bp (az (aC (jv a) (gV (dV 0) (Pu.bH)))))=DI at z;generalize ak l=TX at s z;generalize ((nd l:Nat):Int)=ND at o;simp[dL,aq,ax,dF,bK,z,s,k9,R.bind,aB,o]
    have v:=nf_put P (by have:=C.len Y;unfold bQ;lia);obtain⟨W,S⟩:=C.get y;refine⟨_,S,nf_ret (k2:=jn k2 (eG l) (.int (nd l:Nat))) ?_⟩;rw[nf_def];refine(cx i).trans ((cx ?_).trans (nf_get W));have w:=nf_in (l:=l) (kvs:=kvs) (b:=aj) (by rw[e];rfl);have D:nfP a (fM a f) [.val (.tup (ak l)),.own (.dT kvs)]=_:=v;unfold nfI;generalize nfP a (fM a f)=NP at D;generalize dB (lv ah 1 (dV 0))=D1 at w;simp[bA,w,R.bind,D]
   .refine⟨kvs,r,nf_ret ?_⟩;rw[nf_def];refine(cx i).trans ((cx ?_).trans (nf_get e));have w:=nf_in (l:=l) (kvs:=kvs) (b:=ah) (by rw[e];rfl);unfold nfI;generalize nfP a (fM a f)=NP;generalize dB (lv ah 1 (dV 0))=D1 at w;simp[bA,w,R.bind,cg]
end
def kyC(c:Nat):aD:=.inr (tS [c])
theorem kyC_inj{c d:Nat}(h:kyC c=kyC d):c=d:=by have a:tS [c]=tS [d]:=Sum.inr.inj h;have:=o9 a;simpa using this
def valL(a:List (aD×List PV))(k:aD):List PV:=((a.find? λq=>decide (q.1=k)).map (·.2)).getD []
theorem addL_keys:∀(a:List (aD×List PV)) (k:aD) (x:PV),(k∈a.map (·.1)->(Pu.addL a k x).map (·.1)=a.map (·.1))/\(k∉a.map (·.1)->(Pu.addL a k x).map (·.1)=a.map (·.1)++[k])
 |[],k,x=>⟨(λh=>by cases h),λ_=>rfl⟩
 |p::r,k,x=>by
  obtain⟨c,b⟩:=addL_keys r k x;unfold Pu.addL;rw[dD];by_cases h:p.1=k
  .rw[if_pos h];exact⟨λ_=>rfl,λz=>absurd (by rw[h];simp) z⟩
  .rw[if_neg h,dD];refine⟨λz=>by rw[c ((bW.mp z).resolve_left λw=>h w.symm)],λz=>?_⟩;rw[b λw=>z (iK _ w)];rfl
theorem addL_val:∀(b:List (aD×List PV)) (k j:aD) (x:PV),valL (Pu.addL b k x) j=if j=k then valL b k++[x] else valL b j
 |[],k,j,x=>by
  unfold Pu.addL valL;by_cases h:j=k
  .subst h;simp
  .rw[if_neg h];simp[d_ h]
 |p::r,k,j,x=>by
  have c:=addL_val r k j x;unfold Pu.addL;unfold valL at c ⊢;by_cases h:p.1=k
  .rw[if_pos h];by_cases a:j=k
   .subst a;simp[h]
   .have d:¬p.1=j:=λz=>a (z.symm.trans h);rw[if_neg a];simp[d]
  .rw[if_neg h];by_cases d:p.1=j
   .have a:¬j=k:=λz=>h (d.trans z);rw[if_neg a];simp[d]
   .by_cases a:j=k
    .subst a;rw[if_pos rfl]at c ⊢;simp only[fQ,decide_eq_false h,c]
    .rw[if_neg a]at c ⊢;simp only[fQ,decide_eq_false d,c]
structure Gk(p:Nat)(ls:List Tx)(kvs:List (aD×List PV)):Prop where
 keys:∃cs:Tx,kvs.map (·.1)=cs.map kyC/\cs.Nodup/\∀c,c∈cs↔c∈bF/\wl ls p c≠[]
 val:∀c,valL kvs (kyC c)=ak (wl ls p c)
theorem Gk.nil(p:Nat):Gk p [] []:=⟨⟨[],rfl,List.Pairwise.nil,λc=>by simp[wl]⟩,λc=>rfl⟩
theorem wl_snoc(a:List Tx)(t:Tx)(p c:Nat):wl (a++[t]) p c=wl a p c++if t[p]?=aa c then [t] else []:=by unfold wl;rw[Au];congr 1;by_cases h:t[p]?=aa c <;> simp[h]
theorem Gk.step{p:Nat}{f:List Tx}{a:List (aD×List PV)}(h:Gk p f a){t:Tx}{c:Nat}(u:t[p]?=aa c)(l:c∈bF):Gk p (f++[t]) (Pu.addL a (kyC c) (.str t)):=by
 obtain⟨b,v,m,i⟩:=h.keys;have g:∀d,wl (f++[t]) p d=wl f p d++if d=c then [t] else []:=λd=>by
  rw[wl_snoc,u];congr 1;by_cases z:d=c
  .rw[if_pos z,if_pos (by rw[z])]
  .rw[if_neg z,if_neg (λw=>z (eD w).symm)]
 refine⟨?_,λd=>?_⟩
 .have j:kyC c∈b.map kyC↔c∈b:=⟨λz=>by
   obtain⟨d,s,e⟩:=bJ.mp z;rw[<-kyC_inj e];exact s,λz=>bJ.mpr ⟨c,z,rfl⟩⟩
  obtain⟨o,n⟩:=addL_keys a (kyC c) (.str t);rw[v]at o n;by_cases z:c∈b
  .rw[o (j.mpr z)];refine⟨b,rfl,m,λd=>?_⟩;rw[i d,g d];by_cases e:d=c
   .rw[e];have:=((i c).mp z).2;simp[l,this]
   .rw[if_neg e];simp
  .rw[n (λw=>z (j.mp w))];refine⟨b++[c],by rw[qd];rfl,?_,λd=>?_⟩
   .rw[wP];exact⟨m,by simp,λx r y q=>by rw[gs.mp q];rintro rfl;exact z r⟩
   .rw[lO,gs,i d,g d];by_cases e:d=c
    .rw[e];simp[l]
    .rw[if_neg e];simp[e]
 .rw[addL_val,g d];by_cases e:d=c
  .subst e;rw[if_pos rfl,if_pos rfl,h.val d];simp[ak]
  .rw[if_neg (λw=>e (kyC_inj w)),if_neg e,h.val d,jC]
theorem Gk.big{p:Nat}{l:List Tx}{d:List (aD×List PV)}(h:Gk p l d)(A:l.length<=100):sy d=ah:=by
 obtain⟨y,j,o,w⟩:=h.keys;have v:d.length<=3:=by have e:=congrArg lT j;rw[bO,bO]at e;rw[e];exact o.length_le_of_subset (l₂:=bF) λc n=>((w c).mp n).1
 unfold sy;rw[dW,decide_eq_true_iff,gK];refine⟨by unfold bQ;lia,λq g=>decide_eq_true ?_⟩;have f:(d.map (·.1)).Nodup:=by rw[j];exact List.Pairwise.map _ (λa b s e=>s (kyC_inj e)) o
 obtain⟨c,n,e⟩:∃c,c∈y/\kyC c=q.1:=by have:q.1∈d.map (·.1):=bJ.mpr ⟨q,g,rfl⟩;rw[j]at this;exact bJ.mp this
 have m:=h.val c;have x:valL d (kyC c)=q.2:=by
  rw[e];clear j v m h
  induction d with
  |nil=>cases g
  |cons r d u=>
   rw[dD,jc]at f;rcases bW.mp g with rfl|g
   .simp[valL]
   .have:¬r.1=q.1:=λz=>f.1 (z ▸ bJ.mpr ⟨q,g,rfl⟩);have i:=u g f.2;unfold valL at i ⊢;simp only[fQ,decide_eq_false this,i]
 rw[<-x,m,gD];have:=(wl_sub l p c).length_le;unfold bQ;lia
section
variable{a:Ad}
def lsP(l:List Tx):PV:=.lst (ak l)
def gB:af->R aG:=(rJ 2 3 (d2 bB (dV 3) (dV 1)))
theorem gB_eq{s0 s3:Slot}{p:Nat}{t:Tx}{b:List (aD×List PV)}(d:p<t.length)(f:sy b=ah):gB [s0,⇑p,.own (.dL b),↥t]=.ok .next [s0,⇑p,.own (.dL (Pu.addL b (kyC t[p]) (.str t))),↥t]:=by have h:=sk_ix d;have c:ge (.str [t[p]])=aa (kyC t[p]):=rfl;generalize kyC t[p]=K at c;generalize PV.str [t[p]]=C at h c;generalize ((p:Nat):Int)=PI at h;simp[gB,rJ,mH,d2,dV,R.bind,aB,h,c,f]
theorem g_loop{s0:Slot}{p:Nat}:∀(l i:List Tx) (b:List (aD×List PV)) (s3:Slot),(∀t∈l,p<t.length/\∀c∈t,c∈bF)->i.length+l.length<=100->Gk p i b -> ∃f n,Gk p (i++l) f/\eU 3 gB (ak l) [s0,⇑p,.own (.dL b),s3]=.ok .next [s0,⇑p,.own (.dL f),n]
 |[],i,b,s3,_,_,g=>⟨b,s3,by rw[jC];exact g,rfl⟩
 |t::l,i,b,s3,h,v,g=>by
  rw[eX]at v;obtain⟨j,x⟩:=h t (by simp);have w:=gB_eq (s0:=s0) (s3:=s3) j (g.big ∅);have z:=g.step (eO j) (x _ (wK j));obtain⟨o,m,y,s⟩:=g_loop (s0:=s0) l (i++[t]) _ (↥t) (λu q=>h u (by simp[q])) (by simp;lia) z;refine⟨o,m,by simpa using y,?_⟩;show eU 3 gB (.str t::ak l) _=_;rw[eU];show(match gB [s0,⇑p,.own (.dL b),↥t]with
   |.ok .next d=>eU 3 gB (ak l) d
   |.ok .cont d=>eU 3 gB (ak l) d
   |.ok .brk d=>.ok .next d
   |r=>r)=_
  rw[w];exact s
theorem abcs_rise:bF.Pairwise (·<=·):=by decide
theorem ans_rise(l:List Tx)(p:Nat):((ans l p).map λc=>([c]:Tx)).Pairwise (λa b=>c0 a b=ah):=by
 have h:(ans l p).Pairwise (·<=·):=abcs_rise.sublist Fk;refine EU.mpr (h.imp λ{x y} d=>decide_eq_true ?_);intro z;cases z with
 |rel h=>exact absurd h (wG.mpr d)
 |cons h=>exact absurd h (List.not_lt_nil _)
theorem keys_list{b:List (aD×PV)}{d:Tx}(h:b.map (·.1)=d.map kyC):u9 b=aa (.lst (ak (d.map λc=>[c]))):=by
 have m:mK b=aa (d.map λc=>[c]):=by
  induction b generalizing d with
  |nil=>
   cases d with
   |nil=>rfl
   |cons=>cases h
  |cons q b g=>
   cases d with
   |nil=>cases h
   |cons c d=>obtain⟨f,l⟩:=List.cons.inj h;have i:=g l;obtain⟨k,v⟩:=q;have f:k=kyC c:=f;subst f;simp[mK,kyC,i,lD]
 unfold u9;rw[m,gu,if_pos];intro x j;obtain⟨c,_,rfl⟩:=bJ.mp j;show 1<=bQ;decide
def gR:af->R aG:=(jH (bK [2] (bp (dF (dL lw (aq (dF (ri 2)) (ax))))) (bP) (iD 1 (dV 0))))
theorem lp_def:mx a=bh 2 [] (a5 2 (aH (gg 2 rj) (aH (λb=>cq (c6 3 (bp (dV 0)) gB b)) (rR 2 gR)))):=rfl
def prtS(l:List Tx)(p:Nat):PV->PV
 |.str [c]=>lsP (wl l p c)
 |v=>v
theorem val_shift(b:List (aD×List PV))(k:aD)(h:k∈b.map (·.1)):iZ (b.map λp=>(p.1,.lst p.2)) k=aa (.lst (valL b k)):=by
 induction b with
 |nil=>cases h
 |cons q b c=>
  unfold iZ valL at c ⊢;by_cases e:q.1=k
  .simp[e]
  .have:=c ((bW.mp h).resolve_left λz=>e z.symm);simp only[dD,fQ,decide_eq_false e,this]
theorem gblk{i g f:Slot}{c:Nat}{b:List (aD×PV)}{v:PV}(h:iZ b (kyC c)=aa v):bg (bD [2] (iD 1 (dV 0)) (.str [c]) [i,g,.own (.dK b),f])=.ok v [i,g,.own (.dK b),f]:=by have d:ge (.str [c])=aa (kyC c):=rfl;generalize kyC c=K at d h;generalize PV.str [c]=C at d;simp[bD,cE,bg,bq,b9,R.bind,aB,iD,dO,dV,d,h,cp,cu,cr]
theorem gR_eq{s0 m j:Slot}{l:List Tx}{p:Nat}{b:List (aD×List PV)}(g:Gk p l b)(E:l.length<=100):gR [s0,m,.own (.dK (b.map λq=>(q.1,.lst q.2))),j]=.ok (.ret (.own (.lst ((parts l p).map lsP)))) [s0,m,.own (.dK (b.map λq=>(q.1,.lst q.2))),j]:=by
 obtain⟨f,y,w,u⟩:=g.keys;have A:(b.map λq=>(q.1,PV.lst q.2)).map (·.1)=f.map kyC:=by rw[dX];exact y
 have r:=keys_list A;have D:f.length<=3:=w.length_le_of_subset (l₂:=bF) λc d=>((u c).mp d).1;have s:f.Perm (ans l p):=(List.perm_ext_iff_of_nodup w (ans_nodup l p)).mpr λc=>by rw[u c];unfold ans;rw[fN,decide_eq_true_iff]
 have n:bw (f.map λc=>([c]:Tx))=(ans l p).map λc=>[c]:=(xI (s.map _)).trans (vT (ans_rise l p));have o:lw [.lst (ak (f.map λc=>[c]))]=aa (.lst (ak ((ans l p).map λc=>[c]))):=by show(f8 (ak _)).bind _=_;rw[nI,gu,if_pos (by rw[bO];lia),n]
 have d:=gW (cap:=[2]) (dt:=bP) (de:=(iD 1 (dV 0))) (ε:=[s0,m,.own (.dK (b.map λq=>(q.1,.lst q.2))),j]) (λ_=>ah) (prtS l p) (ak ((ans l p).map λc=>[c])) (λv i=>by
  obtain⟨x,z,rfl⟩:=bJ.mp i;obtain⟨c,d,rfl⟩:=bJ.mp z;have C:kyC c∈b.map (·.1):=by rw[y];exact bJ.mpr ⟨c,s.mem_iff.mpr d,rfl⟩
  have i:=val_shift b (kyC c) C;rw[g.val c]at i;exact⟨rfl,λ_=>gblk i⟩) []
 have B:((ak ((ans l p).map λc=>[c])).filter (λ_=>ah)).map (prtS l p)=(parts l p).map lsP:=by rw[qt.mpr (λ_ _=>rfl)];unfold ak parts;rw[dX,dX,dX];rfl
 rw[fS,B]at d;have h:k9 (.lst (ak (f.map λc=>[c])))=aa (.lst (ak (f.map λc=>[c]))):=rfl;unfold gR;generalize (parts l p).map lsP=PP at d;generalize F:ak ((ans l p).map λc=>[c])=TA at d o;generalize ak (f.map λc=>[c])=TC at r o h;generalize (b.map λq=>(q.1,PV.lst q.2))=KV at r d;simp[jH,bK,bp,gH,dF,dL,aq,ax,ri,dO,R.bind,aB,r,h,o,k9,d]
theorem lparts_eq{l:List Tx}{p:Nat}(j:∀t∈l,p<t.length/\∀c∈t,c∈bF)(h:l.length<=100):mx a [.val (lsP l),⇑p]=.ok (.own (.lst ((parts l p).map lsP))) [.val (lsP l),⇑p]:=by
 obtain⟨d,f,g,i⟩:=g_loop (s0:=.val (lsP l)) l [] [] .none j (by simp;exact h) (Gk.nil p);rw[fS]at g;rw[lp_def];have b:aH (gg 2 rj) (aH (λε=>cq (c6 3 (bp (dV 0)) gB ε)) (rR 2 gR)) [.val (lsP l),⇑p,.none,.none]=.ok (.ret (.own (.lst ((parts l p).map lsP)))) [.val (lsP l),⇑p,.own (.dK (d.map λq=>(q.1,.lst q.2))),f]:=by refine(cx (ε1:=[.val (lsP l),⇑p,.own (.dL []),.none]) rfl).trans ?_;refine(Bk (ε1:=[.val (lsP l),⇑p,.own (.dL []),.none]) rfl i).trans ?_;exact gR_eq g h
 generalize aH (gg 2 rj) _=DD at b;generalize (parts l p).map lsP=PP at b;generalize ((p:Nat):Int)=PI at b;generalize lsP l=LP at b;simp[bh,fL,a5,cM,b,back,gZ,aB,R.bind]
end
theorem deps_ls:∀X:List (List Tx),fq (X.map lsP)<=1
 |[]=>by simp[fq]
 |k::ks=>by show max (fq (ak k)+1) (fq (ks.map lsP))<=1;have:=deps_ls ks;rw[xJ];lia
theorem eq_none(X:List (List Tx)):Pu.eqT aj (.lst (X.map lsP)) (.lst [])=aa (.bl (decide (X=[]))):=by
 show(if iq (.lst (X.map lsP))<=8 then(fZ (X.map lsP) []).map (λk=>PV.bl (aj^^k))else ae)=_;rw[if_pos (by show fq (X.map lsP)+1<=8;have:=deps_ls X;lia)];cases X with
 |nil=>rfl
 |cons x r=>rfl
def notC(m:Nat):PV->Bool
 |.lst a=>match f8 a with
  |some q=>!can m q
  |none=>aj
 |_=>aj
section
variable{a:Ad}
theorem cblk{g:af->R Slot}{f d c:Slot}{m:Nat}{q:List Tx}(h:g [.val (lsP q),⇑m]=.ok (.val (.bl (can m q))) [.val (lsP q),⇑m]):bg (bD [1] (iX (dB (az (aC (g) (gV (dV 0) (gV (d2 eT (dV 1) (dC (.int 1))) (Pu.bH))))))) (lsP q) [f,⇑((m+1:Nat):Int),d,c])=.ok (notC m (lsP q)) [f,⇑((m+1:Nat):Int),d,c]:=by
 have b:eT (.int ((m+1:Nat):Int)) (.int 1)=aa (.int m):=by show aa (PV.int (((m+1:Nat):Int)-1))=_;exact congrArg (λz=>aa (PV.int z)) ∅
 have e:notC m (lsP q)=!can m q:=by
  show(match f8 (ak q)with|aa q=>!can m q|ae=>aj)=_;rw[nI]
 rw[e];generalize can m q=B at h;generalize lsP q=LQ at h;generalize ((m+1:Nat):Int)=M1 at b;generalize ((m:Nat):Int)=M0 at b h;cases B <;> simp[bD,cE,bg,bq,b9,R.bind,aB,iX,dB,gw,az,aC,gV,d2,dV,dC,Pu.bH,b,h,cp,cu,cr,iF]
def cC(b:af->R Slot):af->R PV:=(d2 (Pu.eqT aj) (dF (bK [1] (bp (dV 3)) (iX (dB (az (aC (b) (gV (dV 0) (gV (d2 eT (dV 1) (dC (.int 1))) (Pu.bH))))))) (dV 0))) (dF (dL dz (ax))))
theorem cC_eq{c:af->R Slot}{s0 s2:Slot}{m:Nat}{Q:List (List Tx)}(h:∀q∈Q,c [.val (lsP q),⇑m]=.ok (.val (.bl (can m q))) [.val (lsP q),⇑m]):cC c [s0,⇑((m+1:Nat):Int),s2,.val (.lst (Q.map lsP))]=.ok (.bl (Q.all (can m))) [s0,⇑((m+1:Nat):Int),s2,.val (.lst (Q.map lsP))]:=by
 have b:=gW (cap:=[1]) (dt:=(iX (dB (az (aC (c) (gV (dV 0) (gV (d2 eT (dV 1) (dC (.int 1))) (Pu.bH)))))))) (de:=dV 0) (ε:=[s0,⇑((m+1:Nat):Int),s2,.val (.lst (Q.map lsP))]) (notC m) (λv=>v) (Q.map lsP) (λv f=>by obtain⟨q,g,rfl⟩:=bJ.mp f;refine⟨cblk (h q g),λ_=>?_⟩;generalize ((m+1:Nat):Int)=M1;generalize lsP q=LQ;simp[bD,cE,bg,bq,b9,R.bind,aB,dV,cp,cu,cr]) [];have j:((Q.map lsP).filter (notC m)).map (λv=>v)=(Q.filter λq=>!can m q).map lsP:=by
  rw[qw,kL];congr 1;refine Fa λq _=>?_;show(match f8 (ak q)with|aa q=>!can m q|ae=>aj)=_;rw[nI]
 rw[fS,j]at b;have d:=eq_none (Q.filter λq=>!can m q);have l:decide ((Q.filter λq=>!can m q)=[])=Q.all (can m):=by rw[lR,decide_eq_true_iff,Av,gK];simp
 rw[l]at d;have i:dz []=aa (.lst []):=rfl;unfold cC;generalize (iX (dB (az (aC (c) (gV (dV 0) (gV (d2 eT (dV 1) (dC (.int 1))) (Pu.bH)))))))=DT at b;generalize (Q.filter λq=>!can m q).map lsP=FL at b d;generalize Q.map lsP=QL at b;generalize ((m+1:Nat):Int)=M1 at b;simp[d2,dF,bK,bp,gH,dV,dL,ax,k9,R.bind,aB,b,i,d]
def cB(a:Ad)(rc:af->R Slot):af->R aG:=(aH (bd 3 (az (aC (mx a) (gV (dV 0) (gV (dV 2) (Pu.bH)))))) (bA (gT (dB (d2 (b0 λi j=>decide (j<i)) (dL aN (aq (dV 3) (ax))) (dC (.int 1)))) (dB (cC rc))) (a_ (dC (.bl ah))) (cg)))
theorem cB_eq{rc:af->R Slot}{s3:Slot}{m p:Nat}{l:List Tx}(o:Ql l)(r:l.length<=100)(u:p<wide l)(h:1<(parts l p).length->∀q∈parts l p,rc [.val (lsP q),⇑m]=.ok (.val (.bl (can m q))) [.val (lsP q),⇑m]):cB a rc [.val (lsP l),⇑((m+1:Nat):Int),⇑p,s3]=if(decide (1<(parts l p).length)&&(parts l p).all (can m))=ah then .ok (.ret (.val (.bl ah))) [.val (lsP l),⇑((m+1:Nat):Int),⇑p,.val (.lst ((parts l p).map lsP))] else .ok .next [.val (lsP l),⇑((m+1:Nat):Int),⇑p,.val (.lst ((parts l p).map lsP))]:=by
 have f:=lparts_eq (a:=a) (l:=l) (p:=p) (λt g=>⟨by rw[o.len t g];exact u,o.abc t g⟩) r;have s:=sk_call2o (d:=dV 0) (e:=dV 2) (ε:=[.val (lsP l),⇑((m+1:Nat):Int),⇑p,s3]) rfl rfl f;unfold cB;refine(cx (jB s)).trans ?_;have b:=sk_len (d:=dV 3) (x:=.lst ((parts l p).map lsP)) (n:=(parts l p).length) (ε:=[.val (lsP l),⇑((m+1:Nat):Int),⇑p,.val (.lst ((parts l p).map lsP))]) rfl (by simp[aN]) 1;by_cases c1:1<(parts l p).length
 .have c:=cC_eq (s0:=.val (lsP l)) (s2:=⇑p) (h c1);rw[decide_eq_true c1,Af];rw[decide_eq_true c1]at b;show bA (gT (dB (d2 (b0 λi j=>decide (j<i)) (dL aN (aq (dV 3) (ax))) (dC (.int ((1:Nat):Int))))) (dB (cC rc))) (a_ (dC (.bl ah))) (cg) _=_;generalize (dB (d2 (b0 λi j=>decide (j<i)) (dL aN (aq (dV 3) (ax))) (dC (.int ((1:Nat):Int)))))=D1 at b;show bA (gT D1 (dB (cC rc))) (a_ (dC (.bl ah))) (cg) [.val (lsP l),⇑((m+1:Nat):Int),⇑p,.val (.lst ((parts l p).map lsP))]=_;generalize cC rc=D2 at c;generalize (parts l p).all (can m)=B at c;generalize (parts l p).map lsP=PP at b c;generalize ((m+1:Nat):Int)=M1 at b c;cases B <;> simp[bA,gT,dB,gw,a_,dC,cg,b,c,R.bind,aB]
 .rw[decide_eq_false c1,Bool.false_and,if_neg (by simp)];rw[decide_eq_false c1]at b;show bA (gT (dB (d2 (b0 λi j=>decide (j<i)) (dL aN (aq (dV 3) (ax))) (dC (.int ((1:Nat):Int))))) (dB (cC rc))) (a_ (dC (.bl ah))) (cg) _=_;generalize (dB (d2 (b0 λi j=>decide (j<i)) (dL aN (aq (dV 3) (ax))) (dC (.int ((1:Nat):Int)))))=D1 at b;show bA (gT D1 (dB (cC rc))) (a_ (dC (.bl ah))) (cg) [.val (lsP l),⇑((m+1:Nat):Int),⇑p,.val (.lst ((parts l p).map lsP))]=_;generalize cC rc=D2;generalize (parts l p).map lsP=PP at b;generalize ((m+1:Nat):Int)=M1 at b;simp[bA,gT,cg,b,R.bind]
theorem c_loop{rc:af->R Slot}{m:Nat}{l:List Tx}(f:Ql l)(i:l.length<=100)(h:∀p,1<(parts l p).length->∀q∈parts l p,rc [.val (lsP q),⇑m]=.ok (.val (.bl (can m q))) [.val (lsP q),⇑m]):∀(b:List Nat) (s2 s3:Slot),(∀p∈b,p<wide l)->∃d g,eU 2 (cB a rc) (nsP b) [.val (lsP l),⇑((m+1:Nat):Int),s2,s3]=if(b.any λp=>decide (1<(parts l p).length)&&(parts l p).all (can m))=ah then .ok (.ret (.val (.bl ah))) [.val (lsP l),⇑((m+1:Nat):Int),d,g] else .ok .next [.val (lsP l),⇑((m+1:Nat):Int),d,g]
 |[],s2,s3,_=>⟨s2,s3,rfl⟩
 |p::b,s2,s3,j=>by
  have s:=cB_eq (a:=a) (rc:=rc) (s3:=s3) (m:=m) f i (j p (by simp)) (h p);obtain⟨o,n,r⟩:=c_loop f i h b (⇑p) (.val (.lst ((parts l p).map lsP))) λq f=>j q (by simp[f]);have e:nsP (p::b)=.int p::nsP b:=rfl;rw[e];have w:((p::b).any λp=>decide (1<(parts l p).length)&&(parts l p).all (can m))=((decide (1<(parts l p).length)&&(parts l p).all (can m))||b.any λp=>decide (1<(parts l p).length)&&(parts l p).all (can m)):=kJ;rw[w];simp only[eU];have u:([.val (lsP l),⇑((m+1:Nat):Int),s2,s3]:af).set 2 (⇑p)=[.val (lsP l),⇑((m+1:Nat):Int),⇑p,s3]:=rfl;rw[u,s];by_cases c:(decide (1<(parts l p).length)&&(parts l p).all (can m))=ah
  .refine⟨⇑p,.val (.lst ((parts l p).map lsP)),?_⟩;rw[if_pos c,if_pos (by rw[c,Bool.true_or])]
  .refine⟨o,n,?_⟩;rw[if_neg c];have x:(decide (1<(parts l p).length)&&(parts l p).all (can m))=aj:=by simpa using c
   have v:((decide (1<(parts l p).length)&&(parts l p).all (can m))||b.any λp=>decide (1<(parts l p).length)&&(parts l p).all (can m))=b.any λp=>decide (1<(parts l p).length)&&(parts l p).all (can m):=by rw[x,Bool.false_or]
   rw[v];exact r
def cH1:af->R aG:=(bA (dB (d2 (Pu.eqT aj) (dL aN (aq (dV 0) (ax))) (dC (.int 1)))) (a_ (dC (.bl ah))) (cg))
def cH2:af->R aG:=(bA (dB (d2 (Pu.eqT aj) (dV 1) (dC (.int 0)))) (a_ (dC (.bl aj))) (cg))
theorem lc_def(rc:af->R Slot):yas a rc=aH cH1 (aH cH2 (aH (λb=>cq (c6 2 (dL fj (aq (dL aN (aq (d2 bB (dV 0) (dC (.int 0))) (ax))) (ax))) (cB a rc) b)) (a_ (dC (.bl aj))))):=rfl
theorem cH1_eq{L:PV}{n:Nat}(c:aN [L]=aa (.int n))(d s2 s3:Slot):cH1 [.val L,d,s2,s3]=if n=1 then .ok (.ret (.val (.bl ah))) [.val L,d,s2,s3] else .ok .next [.val L,d,s2,s3]:=by
 have f:=jO aj (n:Nat) 1;by_cases h:n=1
 .rw[if_pos h];have b:Pu.eqT aj (.int n) (.int 1)=aa (.bl ah):=by rw[f,decide_eq_true ∅];rfl
  generalize ((n:Nat):Int)=N at c b;simp[cH1,bA,dB,d2,dL,aq,ax,dV,dC,c,b,R.bind,aB,gw,a_]
 .rw[if_neg h];have b:Pu.eqT aj (.int n) (.int 1)=aa (.bl aj):=by rw[f,decide_eq_false ∅];rfl
  generalize ((n:Nat):Int)=N at c b;simp[cH1,bA,dB,d2,dL,aq,ax,dV,dC,c,b,R.bind,aB,gw,cg]
theorem cH2_eq(m:Nat)(c s2 s3:Slot):cH2 [c,⇑m,s2,s3]=if m=0 then .ok (.ret (.val (.bl aj))) [c,⇑m,s2,s3] else .ok .next [c,⇑m,s2,s3]:=by
 have d:=jO aj (m:Nat) 0;by_cases h:m=0
 .rw[if_pos h];have b:Pu.eqT aj (.int m) (.int 0)=aa (.bl ah):=by rw[d,decide_eq_true ∅];rfl
  generalize ((m:Nat):Int)=N at b;simp[cH2,bA,dB,d2,dV,dC,b,R.bind,aB,gw,a_]
 .rw[if_neg h];have b:Pu.eqT aj (.int m) (.int 0)=aa (.bl aj):=by rw[d,decide_eq_false ∅];rfl
  generalize ((m:Nat):Int)=N at b;simp[cH2,bA,dB,d2,dV,dC,b,R.bind,aB,gw,cg]
theorem lc_ret{d:af->R aG}{c b v:PV}{s2 s3:Slot}(h:d [.val c,.val b,.none,.none]=.ok (.ret (.val v)) [.val c,.val b,s2,s3]):bh 2 [] (a5 2 d) [.val c,.val b]=.ok (.val v) [.val c,.val b]:=by simp[bh,fL,a5,cM,h,back,aB,R.bind]
theorem lcan_eq:∀(k g:Nat) (l:List Tx) (m:Nat),l.length<=k+1->k+1<=g->Ql l->l.length<=100->wide l<=1000->jS a g [.val (lsP l),⇑m]=.ok (.val (.bl (can m l))) [.val (lsP l),⇑m]:=by
 intro k
 induction k with
 |zero=>
  intro g l m u G h _ _;obtain⟨f,rfl⟩:∃f,g=f+1:=⟨g-1,∅⟩
  have c:l.length=1:=by have:=l6.mpr h.ne;lia
  have s:can m l=ah:=can_le (iN m) (decide_eq_true c);rw[s];show bh 2 [] (a5 2 (yas a (jS a f))) _=_;refine lc_ret (s2:=.none) (s3:=.none) ?_;rw[lc_def];have d:=cH1_eq (L:=lsP l) (n:=l.length) (by simp[aN,lsP,gD]) (⇑m) .none .none;rw[if_pos c]at d;unfold aH;rw[d]
 |succ k E=>
  intro g l m u G h C H;obtain⟨f,rfl⟩:∃f,g=f+1:=⟨g-1,∅⟩
  show bh 2 [] (a5 2 (yas a (jS a f))) _=_;have d:=cH1_eq (L:=lsP l) (n:=l.length) (by simp[aN,lsP,gD]) (⇑m) .none .none;by_cases c:l.length=1
  .have s:can m l=ah:=can_le (iN m) (decide_eq_true c);rw[s];refine lc_ret (s2:=.none) (s3:=.none) ?_;rw[lc_def];rw[if_pos c]at d;unfold aH;rw[d]
  .rw[if_neg c]at d;have b:=cH2_eq m (.val (lsP l)) .none .none;cases m with
   |zero=>rw[if_pos rfl]at b;have s:can 0 l=aj:=decide_eq_false c;rw[s];refine lc_ret (s2:=.none) (s3:=.none) ?_;rw[lc_def];refine(cx d).trans ?_;unfold aH;rw[b]
   |succ m=>
    rw[if_neg ∅]at b;have o:can (m+1) l=(bG (wide l)).any λp=>decide (1<(parts l p).length)&&(parts l p).all (can m):=by rw[can,decide_eq_false c,Bool.false_or]
    obtain⟨s2,s3,i⟩:=c_loop (a:=a) (rc:=jS a f) (m:=m) h C (λp y q j=>by
     obtain⟨v,D⟩:=h.part j;have:=part_lt y j;have F:wide q=wide l:=by obtain⟨x,r,e⟩:=l7 v.ne;have c:=v.len x (by rw[e];simp);have I:=h.len x (D.mem (by rw[e];simp));lia
     exact E f q m ∅ ∅ v ∅ ∅) (bG (wide l)) .none .none λp y=>kE.mp y
    rw[<-o]at i;have A:dL fj (aq (dL aN (aq (d2 bB (dV 0) (dC (.int 0))) (ax))) (ax)) [.val (lsP l),⇑((m+1:Nat):Int),.none,.none]=.ok (nsP (bG (wide l))) [.val (lsP l),⇑((m+1:Nat):Int),.none,.none]:=by
     obtain⟨x,r,e⟩:=l7 h.ne;have B:bB (lsP l) (.int 0)=aa (.str x):=by rw[e];show c9 (ak (x::r)) ((0:Nat):Int)=_;unfold c9;rw[pN ∅ (by simp[ak])];rfl
     have u:aN [.str x]=aa (.int (wide l:Nat)):=by have:x.length=wide l:=h.len x (by rw[e];simp);show aa (PV.int (x.length:Nat))=_;rw[this]
     have w:fj [.int (wide l:Nat)]=aa (nsP (bG (wide l))):=by rw[<-rng_ns];exact n_ ∅
     generalize nsP (bG (wide l))=TL at w;generalize ((wide l:Nat):Int)=WI at u w;generalize lsP l=TX at B;generalize ((m+1:Nat):Int)=M1;simp[dL,aq,ax,d2,dV,dC,R.bind,aB,B,u,w]
    refine lc_ret (s2:=s2) (s3:=s3) ?_;rw[lc_def];refine(cx d).trans ((cx b).trans ?_);cases z:can (m+1) l with
    |true=>rw[z,if_pos rfl]at i;unfold aH c6;dsimp only;rw[A,R.bind_ok,i];rfl
    |false=>rw[z,if_neg (by decide)]at i;refine(cx (d1:=λε=>cq (c6 2 _ (cB a (jS a f)) ε)) (ε1:=[.val (lsP l),⇑((m+1:Nat):Int),s2,s3]) ?_).trans rfl;show cq (c6 2 _ _ _)=_;unfold c6;rw[A,R.bind_ok,i];rfl
theorem least_eq{l:List Tx}(j:Ql l)(w:l.length<=16)(o:wide l<=1000):kZ a [.val (lsP l)]=.ok (⇑(nd l:Nat)) [.val (lsP l)]:=by
 obtain⟨r,q,_⟩:=j.ndS;have b:=gW (cap:=[0]) (dt:=(dB (az (aC (jS a 17) (gV (dV 1) (gV (dV 0) (Pu.bH))))))) (de:=dV 0) (ε:=[.val (lsP l)]) (λv=>match v with|.int i=>can i.toNat l|_=>aj) (λv=>v) (nsP (bG l.length)) (λv p=>by obtain⟨m,u,rfl⟩:=bJ.mp p;refine⟨blk1 ?_,λ_=>blk1 rfl⟩;have h:=lcan_eq (a:=a) 16 17 l m ∅ ∅ j ∅ o;show dB _ _=.ok (can m l) _;generalize jS a 17=GC at h;generalize can m l=B at h;generalize lsP l=LP at h;generalize ((m:Nat):Int)=MI at h;simp[dB,gw,az,aC,gV,dV,Pu.bH,h,R.bind,aB,cp,cr,bq,b9,cu,iF]) [];have s:((nsP (bG l.length)).filter (λv=>match v with|.int i=>can i.toNat l|_=>aj)).map (λv=>v)=nsP (nd l::r):=by rw[qw,<-q];unfold nsP;rw[kL];congr 1
 rw[fS,s]at b;have c:dL fj (aq (dL aN (aq (dV 0) (ax))) (ax)) [.val (lsP l)]=.ok (nsP (bG l.length)) [.val (lsP l)]:=by
  have f:aN [lsP l]=aa (.int (l.length:Nat)):=by simp[aN,lsP,gD]
  have d:fj [.int (l.length:Nat)]=aa (nsP (bG l.length)):=by rw[<-rng_ns];exact n_ ∅
  generalize nsP (bG l.length)=NL at d;generalize ((l.length:Nat):Int)=LI at f d;generalize lsP l=LP at f;simp[dL,aq,ax,dV,R.bind,aB,f,d]
 have g:bB (.lst (nsP (nd l::r))) (.int 0)=aa (.int (nd l:Nat)):=by show c9 (nsP (nd l::r)) ((0:Nat):Int)=_;unfold c9;rw[pN ∅ (by simp[nsP])];rfl
 have n:yaw a [.val (lsP l)]=.ok (.ret (⇑(nd l:Nat))) [.val (lsP l)]:=by unfold yaw;generalize (dB (az (aC (jS a 17) (gV (dV 1) (gV (dV 0) (Pu.bH))))))=DT at b;generalize nsP (nd l::r)=NL at b g;generalize dL fj (aq (dL aN (aq (dV 0) (ax))) (ax))=DI at c;generalize nsP (bG l.length)=RL at c b;generalize lsP l=LP at b c;generalize ((nd l:Nat):Int)=ND at g;simp[a_,d2,dF,bK,dC,c,b,g,k9,R.bind,aB]
 show bh 1 [] (a5 0 (yaw a)) _=_;generalize yaw a=DD at n;simp[bh,fL,a5,cM,n,back,aB,R.bind]
end
def fbest(l:List Tx):Nat:=((plq l).find? λp=>decide (nb l p=nd l)).getD 0
theorem minAt_nat{a:List Nat}{f:Nat->Nat}{m:Nat}(l:∃p∈a,f p=m)(j:∀p∈a,m<=f p):ml (nsP a) ((a.map f).map λi:Nat=>(i:Int))=aa (.int (((a.find? λp=>decide (f p=m)).getD 0:Nat):Int)):=by
 have w:(nsP a).zip ((a.map f).map λi:Nat=>(i:Int))=a.map λp:Nat=>(PV.int p,((f p:Nat):Int)):=by
  unfold nsP
  induction a with
  |nil=>rfl
  |cons p a d=>simp only[dD,List.zip_cons_cons,qu,true_and];clear l j d;induction a with
   |nil=>rfl
   |cons p a d=>simp only[dD,List.zip_cons_cons,qu,true_and,d]
 have v:∀p∈a,(((a.map f).map λi:Nat=>(i:Int)).all λk=>decide (((f p:Nat):Int)<=k))=decide (f p=m):=λp b=>by
  rw[lR,gK,decide_eq_true_iff];constructor
  .intro h;obtain⟨q,g,e⟩:=l;have:=h (((f q:Nat):Int)) (bJ.mpr ⟨f q,bJ.mpr ⟨q,g,rfl⟩,rfl⟩);have:=of_decide_eq_true this;have:=j p b;lia
  .intro h k r;obtain⟨i,s,rfl⟩:=bJ.mp r;obtain⟨q,g,rfl⟩:=bJ.mp s;have:=j q g;exact decide_eq_true ∅
 have u:∀(c:List Nat) (ks:List Int),(∀p∈c,(ks.all λk=>decide (((f p:Nat):Int)<=k))=decide (f p=m))->(∃p∈c,f p=m)->((c.map λp:Nat=>(PV.int p,((f p:Nat):Int))).find? λq=>ks.all λk=>decide (q.2<=k)).map (·.1)=aa (.int (((c.find? λp=>decide (f p=m)).getD 0:Nat):Int)):=by
  intro c
  induction c with
  |nil=>rintro ks _ ⟨p,b,_⟩;cases b
  |cons q c d=>
   intro ks h o;have g:=h q (by simp);rw[dD,fQ,fQ];dsimp only;rw[g];by_cases e:f q=m
   .rw[decide_eq_true e];rfl
   .rw[decide_eq_false e];refine d ks (λp b=>h p (by simp[b])) ?_;obtain⟨p,b,n⟩:=o;rcases bW.mp b with rfl|b
    .exact absurd n e
    .exact⟨p,b,n⟩
 unfold ml;rw[w];exact u a _ v l
section
variable{a:Ad}
theorem best_eq{s0:Slot}{l:List Tx}(g:Ql l)(i:2<=l.length)(P:l.length<=16)(I:wide l<=1000):∃b, re [1,2] (oR (az (aC (jv a) (gV (dV 1) (Pu.bH))))) (az (aC (jo a (fM a 17)) (gV (dV 0) (gV (dV 1) (gO 2 (Pu.bH)))))) [s0,.val (.tup (ak l)),.own (.dT [])]=.ok (.int (fbest l:Nat)) [s0,.val (.tup (ak l)),.own (.dT b)]:=by
 have s:∀m,Ql m->m.Sublist l->wide m<=1000:=λm y J=>by
  obtain⟨x,r,e⟩:=l7 y.ne;have:wide m=wide l:=by rw[e];exact g.len x (J.mem (by rw[e];simp))
  lia
 have u:∀p∈plq l,∀m∈parts l p,∀b,Kn l b->∃c,Kn l c/\fM a 17 [.val (.tup (ak m)),.own (.dT b)]=.ok (⇑(nd m:Nat)) [.val (.tup (ak m)),.own (.dT c)]:=λp n m y b z=>by obtain⟨C,A⟩:=g.part y;exact needed_eq (a:=a) P s 16 17 m b (by have:=A.length_le;lia) ∅ C A z
 have o:∀(f:List Nat) (j:List PV) (b:List (ci×PV)),Kn l b->(∀p∈f,p∈plq l) ->
   ∃c,dA [1,2] bP (az (aC (jo a (fM a 17)) (gV (dV 0) (gV (dV 1) (gO 2 (Pu.bH)))))) (nsP f) j [s0,.val (.tup (ak l)),.own (.dT b)]=.ok (j++nsP (f.map (nb l))) [s0,.val (.tup (ak l)),.own (.dT c)]:=by
  intro f
  induction f with
  |nil=>intro j b _ _;exact⟨b,by simp[dA,nsP]⟩
  |cons p f F=>
   intro j b z n;obtain⟨E,M,i⟩:=needed_by_eq (a:=a) g (n p (by simp)) z (u p (n p (by simp)));obtain⟨D,L⟩:=F (j++[.int (nb l p:Nat)]) E M λq g=>n q (by simp[g]);refine⟨D,?_⟩;have e:nsP (p::f)=.int p::nsP f:=rfl;have N:j++nsP ((p::f).map (nb l))=j++[.int (nb l p:Nat)]++nsP (f.map (nb l)):=by rw[qj];rfl
   rw[e,N,<-L,dA];generalize jo a (fM a 17)=G at i ⊢;generalize ((nb l p:Nat):Int)=N1 at i ⊢;generalize ((p:Nat):Int)=N0 at i ⊢;generalize ak l=X at i ⊢;simp[bD,cE,bg,bq,b9,R.bind,aB,az,aC,gV,gO,dV,bP,Pu.bH,i,cp,cu,cr,iF]
 obtain⟨b,H⟩:=o (plq l) [] [] (Kn.nil l) λp n=>n;obtain⟨w,v⟩:=g.nd_min i;refine⟨b,?_⟩;have B:=minAt_nat w v;have O:=places_eq (a:=a) g I;have K:oR (az (aC (jv a) (gV (dV 1) (Pu.bH)))) [s0,.val (.tup (ak l)),.own (.dT [])]=.ok (nsP (plq l)) [s0,.val (.tup (ak l)),.own (.dT [])]:=by have h:=sk_call1o (d:=dV 1) (ε:=[s0,.val (.tup (ak l)),.own (.dT [])]) rfl O;unfold oR;rw[h];rfl
 unfold re;rw[K,R.bind_ok,H,R.bind_ok,fS,ints_nat,gu,B];rfl
end
end Sh
namespace K31
open L2 Pu Mx Sh
section
variable{a:Ad}
abbrev ft(T:List Tx):List (Str×PV):=[(cn "having",.tup (ak T))]
def SK(a:Ad)(T:List Tx)(L:List PV):PO:=.inl a.Seeker (ft T) (cn "answers") L
def bv(Rw:List (Nat×Nat)):List PV:=Rw.map λq=>.tup [.int (q.1:Nat),.str [q.2]]
def lf(T:List Tx)(Rw:List (Nat×Nat)):List Tx:=Rw.foldl (λl q=>wl l q.1 q.2) T
theorem zz(T:List Tx)(L:List PV)(b:af):lc (.own (SK a T L)::b) a.Seeker (cn "answers") 0=aa (ft T,L):=by show(if a.Seeker=a.Seeker/\_=_ then _ else _)=_;rw[if_pos ⟨rfl,rfl⟩]
theorem Fz(T:List Tx):(ft T).lookup (cn "having")=aa (.tup (ak T)):=rfl
theorem DM(b:List (Nat×Nat)):∀T:List Tx,(lf T b).Sublist T:=by
 induction b with
 |nil=>intro T;exact List.Sublist.refl _
 |cons q b c=>intro T;exact(c _).trans (wl_sub T q.1 q.2)
theorem GU{w:Nat}{c:List Tx}(g:Good bF w c)(r:1<=w)(q:w<=4)(s:c.Pairwise (λa b=>c0 a b=ah))(p:bZ w c≠[])(u:(bZ w c).length<=16):nE a [.own (.ins a.Seeker []),.val (bI w c)]=.ok (.val .non) [.own (SK a (bZ w c) []),.val (bI w c)]:=by
 have i:=NV (a:=a) g r q s;generalize v:bZ w c=T at i p u;have j:aN [.lst (ak T)]=aa (.int (T.length:Nat)):=by simp[aN,gD]
 have o:Pu.eqT aj (.int (T.length:Nat)) (.int 0)=aa (.bl aj):=by rw[jO,decide_eq_false (by have:=l6.mpr p;lia)];rfl
 have n:¬(16:Int)<(T.length:Nat):=∅
 have d:iB [.lst (ak T)]=aa (.tup (ak T)):=rfl;have h:pJ (cn "having") (.tup (ak T)) []=ft T:=rfl;have m:(ft T).lookup (cn "answers")=ae:=rfl;have l:(ft T).length<1000:=by simp
 unfold SK;generalize ft T=f at h m l ⊢;generalize ((T.length:Nat):Int)=N at j o n;generalize ak T=L at i j d h;generalize bI w c=V at i;generalize PV.tup L=TL at d h;simp![nE,C5,i,j,o,n,d,x6,nN,h,uW,m,l]
theorem GY{w:Nat}{c:List Tx}{ε:af}{d:af->R PV}(g:Good bF w c)(h:1<=w)(f:w<=4)(i:c.Pairwise (λa b=>c0 a b=ah))(m:bZ w c≠[])(n:(bZ w c).length<=16)(l:d ε=.ok (bI w c) ε):pf a.Seeker (nE a) (gV d Pu.bH) ε=.ok (SK a (bZ w c) []) ε:=by have j:=GU (a:=a) g h f i m n;simp[pf,gV,Pu.bH,l,pd,bq,b9,j,cp,cr,cu,aB,R.bind]
def lF(a:Ad):af->R aG:=(bd 1 (az (aC (i4 a) (gV (dV 1) (gV (dV 2) (gV (dV 3) (Pu.bH)))))))
theorem Es{s0:Slot}{n:Nat}:∀(d:List (Nat×Nat)) (T:List Tx) (g f:Slot),(∀t∈T,t.length=n)->(∀q∈d,q.1<n) -> ∃h u,kB 2 3 (lF a) (bv d) [s0,.val (.tup (ak T)),g,f]=.ok .next [s0,.val (.tup (ak (lf T d))),h,u]
 |[],T,g,f,_,_=>⟨g,f,rfl⟩
 |q::d,T,g,f,j,m=>by
  obtain⟨s,o,y⟩:=Es (s0:=s0) d (wl T q.1 q.2) (⇑(q.1:Nat)) (.val (.str [q.2])) (λt i=>j t ((wl_sub T q.1 q.2).mem i)) λx v=>m x (by simp[v]);refine⟨s,o,?_⟩;have w:=with_eq (a:=a) (L:=.tup (ak T)) (l:=T) (p:=q.1) (c:=q.2) rfl λt i=>by rw[j t i];exact m q (by simp)
  have z:lF a [s0,.val (.tup (ak T)),⇑(q.1:Nat),.val (.str [q.2])]=.ok .next [s0,.val (.tup (ak (wl T q.1 q.2))),⇑(q.1:Nat),.val (.str [q.2])]:=jB (sk_call3 rfl rfl rfl w);show kB 2 3 (lF a) (.tup [.int (q.1:Nat),.str [q.2]]::bv d) _=_;rw[kB];show(match lF a [s0,.val (.tup (ak T)),⇑(q.1:Nat),.val (.str [q.2])]with
   |.ok .next b=>kB 2 3 (lF a) (bv d) b
   |.ok .cont b=>kB 2 3 (lF a) (bv d) b
   |.ok .brk b=>.ok .next b
   |r=>r)=_
  rw[z];exact y
theorem Hl{T:List Tx}{b:List (Nat×Nat)}{n:Nat}(o:∀t∈T,t.length=n)(p:∀q∈b,q.1<n):jP a [.own (SK a T (bv b))]=.ok (.own (.lst (ak (lf T b)))) [.own (SK a T (bv b))]:=by
 obtain⟨g,d,m⟩:=Es (a:=a) (s0:=.none) b T .none .none o p;have j:bd 1 (nz a.Seeker (cn "answers") 0 (cn "having")) [.own (SK a T (bv b)),.none,.none,.none]=.ok .next [.own (SK a T (bv b)),.val (.tup (ak T)),.none,.none]:=by have e:=zz (a:=a) T (bv b) [.none,.none,.none];have l:=Fz T;generalize SK a T (bv b)=P at e ⊢;generalize ft T=f at e l;simp[bd,nz,e,l,R.bind,aB]
 have i:(λc=>cq (mw a.Seeker (cn "answers") 0 2 3 (lF a) c)) [.own (SK a T (bv b)),.val (.tup (ak T)),.none,.none]=.ok .next [.own (SK a T (bv b)),.val (.tup (ak (lf T b))),g,d]:=by have e:=zz (a:=a) T (bv b) [.val (.tup (ak T)),.none,.none];show cq (mw _ _ _ _ _ _ _)=_;unfold mw;rw[e];simp only[cf,R.bind_ok];have r:([.own (SK a T (bv b)),.val (.tup (ak T)),.none,.none]:af).set 0 .none=[.none,.val (.tup (ak T)),.none,.none]:=rfl;rw[r,m];rfl
 have h:dL jM (aq (dV 1) (ax)) [.own (SK a T (bv b)),.val (.tup (ak (lf T b))),g,d]=.ok (.lst (ak (lf T b))) [.own (SK a T (bv b)),.val (.tup (ak (lf T b))),g,d]:=by have:jM [.tup (ak (lf T b))]=aa (.lst (ak (lf T b))):=rfl;generalize SK a T (bv b)=P;generalize ak (lf T b)=X at this ⊢;simp[dL,aq,ax,dV,R.bind,aB,this]
 show mG 1 3 [0] (bd 1 (nz a.Seeker (cn "answers") 0 (cn "having"))) (λc=>cq (mw a.Seeker (cn "answers") 0 2 3 (lF a) c)) (dL jM (aq (dV 1) (ax))) _=_;generalize bd 1 (nz a.Seeker (cn "answers") 0 (cn "having"))=D1 at j;generalize (λc=>cq (mw a.Seeker (cn "answers") 0 2 3 (lF a) c))=D2 at i;generalize dL jM (aq (dV 1) (ax))=D3 at h;generalize SK a T (bv b)=P at j i h ⊢;simp[mG,gh,cM,j,i,h,back,aB,R.bind]
theorem Lo{b:af}{i:Nat}{T:List Tx}{L:List PV}{m:Str}(c:b[i]?=aa (.own (SK a T L)))(f:(ft T).lookup m=ae)(d:m≠cn "answers"):o7 b a.Seeker m i=ah:=by unfold o7;rw[c];show(decide (a.Seeker=a.Seeker)&&((ft T).lookup m).isNone&&decide (m≠cn "answers"))=ah;rw[decide_eq_true rfl,f,decide_eq_true d];rfl
theorem v_{G:af->R Slot}{b:af}{i:Nat}{T:List Tx}{L f:List PV}{m:Str}{r:Slot}(c:b[i]?=aa (.own (SK a T L)))(j:(ft T).lookup m=ae)(h:m≠cn "answers")(d:G [.own (SK a T L)]=.ok r [.own (SK a T f)]):et a.Seeker m i G b=.ok r (b.set i (.own (SK a T f))):=by have g:=Lo (a:=a) (m:=m) c j h;unfold et;rw[g];generalize SK a T L=P at c d;generalize SK a T f=P' at d;simp[pd,bq,b9,c,aB,R.bind,d,cp,cu,cr]
theorem vH{b:af}{i:Nat}{s:Slot}(h:b[i]?=aa s):b.set i s=b:=by
 apply wO;intro j;by_cases e:i=j
 .subst e;have c:=(cI.mp h).1;rw[cU c,h]
 .rw[cA e]
theorem M9{T:List Tx}{L:List PV}(c:mv L=ah):pB a [.own (SK a T L)]=.ok (.own (.lst L)) [.own (SK a T L)]:=by have e:=zz (a:=a) T L [];have b:jM [.lst L]=aa (.lst L):=rfl;generalize SK a T L=P at e ⊢;generalize ft T=f at e;simp[pB,pi,ro,e,aB,R.bind,vN,b,DC,c]
theorem Jr(T:List Tx):(ft T).lookup (cn "left")=ae:=rfl
theorem yS{ε:af}{i:Nat}{T:List Tx}{Rw:List (Nat×Nat)}{n:Nat}(c:∀t∈T,t.length=n)(d:∀q∈Rw,q.1<n)(b:ε[i]?=aa (.own (SK a T (bv Rw)))):et a.Seeker (cn "left") i (jP a) ε=.ok (.own (.lst (ak (lf T Rw)))) ε:=by have h:=v_ (a:=a) b (Jr T) (by decide) (Hl c d);rw[vH b]at h;exact h
theorem Mo{T:List Tx}{b:List (Nat×Nat)}{n:Nat}(m:∀t∈T,t.length=n)(s:∀q∈b,q.1<n)(p:Ql (lf T b))(u:(lf T b).length<=16)(v:n<=1000):mQ a [.own (SK a T (bv b))]=.ok (⇑(nd (lf T b):Nat)) [.own (SK a T (bv b))]:=by
 have g:=yS (a:=a) (ε:=[.own (SK a T (bv b))]) (i:=0) m s rfl;obtain⟨h,_,c⟩:=needed_eq (a:=a) (l0:=lf T b) u (λl g o=>by
  obtain⟨x,r,e⟩:=l7 g.ne;have:wide l=n:=by rw[e];exact m x ((DM b T).mem (o.mem (by rw[e];simp)))
  lia) 16 17 (lf T b) [] ∅ ∅ p (List.Sublist.refl _) (Kn.nil _)
 have j:iB [.lst (ak (lf T b))]=aa (.tup (ak (lf T b))):=rfl;have f:az (et a.Seeker (cn "left") 0 (jP a)) [.own (SK a T (bv b))]=.ok (.lst (ak (lf T b))) [.own (SK a T (bv b))]:=by unfold az;rw[g];rfl
 have d:kX (fM a 17) (lq (dL iB (aq (az (et a.Seeker (cn "left") 0 (jP a))) (ax))) (gN (pH) (Pu.bH))) [.own (SK a T (bv b))]=.ok (.val (.int (nd (lf T b):Nat))) [.own (SK a T (bv b))]:=by generalize az (et a.Seeker (cn "left") 0 (jP a))=D at f;generalize fM a 17=G at c ⊢;generalize SK a T (bv b)=P at f ⊢;generalize ak (lf T b)=X at f c j;generalize ((nd (lf T b):Nat):Int)=M at c ⊢;simp[kX,lq,gN,pH,dL,aq,ax,f,j,Pu.bH,R.bind,aB,bq,b9,c,cp,cr,cu,yt]
 unfold mQ Bz;generalize kX _ _=D at d;generalize SK a T (bv b)=P at d ⊢;generalize ((nd (lf T b):Nat):Int)=M at d ⊢;simp[gC,gh,mE,a5,oQ,d,R.bind,aB,back]
end
section
variable{a:Ad}
theorem Nv{t:Tx}{w:Nat}(g:1<=w)(l:w<=t.length)(n:t.length+1-w<=9)(i:∀c∈t,c∈bF):Good bF w (bw (bE t w))/\(bw (bE t w)).Pairwise (λa b=>c0 a b=ah)/\bZ w (bw (bE t w))≠[]:=by
 have j:=DK (z:=t) g;have f:∀x∈bw (bE t w),x.length=w/\∀c∈x,c∈bF:=λx d=>by have:=Mx.Pe ((jr _).mem_iff.mp d);exact⟨this.1,λc h=>i c (this.2 c h)⟩
 have m:(bw (bE t w)).length=t.length+1-w:=by rw[(jr _).length_eq,j]
 refine⟨⟨λx d=>(f x d).1,λx d=>(f x d).2,∅,∅⟩,vV _,λe=>?_⟩;have:=(Fx g ∅ f (vV _) i).mpr rfl;rw[e]at this;cases this
def rg:af->R Bool:=dB (d2 (b0 λi j=>decide (j<i)) (dL aN (aq (dV 5) (ax))) (dC (.int 16)))
def pU(a:Ad):af->R PV:=(bA (dB (d2 (b0 λi j=>decide (i<j)) (dV 3) (dC (.int 4)))) (dL eR (aq (d2 a9 (dV 3) (dC (.int 1))) (aq (az (aC (im a) (gV (dV 2) (gV (d2 a9 (dV 3) (dC (.int 1))) (Pu.bH))))) (ax)))) (dL eR (aq (dC (.int 1)) (aq (dL eR (aq (dC (.str [97])) (ax))) (ax)))))
def o6(a:Ad):af->R aG:=(aH (bd 4 (pU a)) (aH (bd 3 (d2 bB (dV 4) (dC (.int 0)))) (bd 5 (az (aC (lg a) (gV (dV 4) (Pu.bH)))))))
theorem Oj:rH a=bh 2 [1] (a5 4 (aH (jN 2 3 (az (aC (k8 a) (gV (dV 0) (gO 1 (gV (dC (.int 2)) (gV (dC (.int 8)) (Pu.bH)))))))) (aH (bd 4 (dL eR (aq (dV 3) (aq (az (aC (im a) (gV (dV 2) (gV (dV 3) (Pu.bH))))) (ax))))) (aH (bd 5 (az (aC (lg a) (gV (dV 4) (Pu.bH))))) (aH (λε=>cq (fk rg (o6 a) 1000 ε)) (a_ (dL eR (aq (dV 4) (aq (dV 5) (ax)))))))))):=rfl
theorem Iq{G:af->R Slot}{ε:af}{d f:af->R PV}{b v c r:PV}{p p':Pu.PO}(l:ε[0]?=aa (.val b))(j:ε[1]?=aa (.own p))(i:d ε=.ok v ε)(g:f ε=.ok c ε)(h:G [.val b,.own p,.val v,.val c]=.ok (.val r) [.val b,.own p',.val v,.val c]):aC G (gV (dV 0) (gO 1 (gV d (gV f Pu.bH)))) ε=.ok (.val r) (ε.set 1 (.own p')):=by simp[aC,gV,gO,Pu.bH,dV,l,j,i,g,h,R.bind,aB,cp,cr,bq,b9,cu]
structure Vw(w:Nat)(ls:List Tx):Prop where
 g:Good bF w ls
 w1:1<=w
 w4:w<=4
 hs:ls.Pairwise (λa b=>c0 a b=ah)
 h0:bZ w ls≠[]
theorem zu{t:Tx}{w:Nat}(b:1<=w)(d:w<=4)(f:w<=t.length)(j:t.length+1-w<=9)(i:∀c∈t,c∈bF):Vw w (bw (bE t w)):=by obtain⟨g,h,l⟩:=Nv b f j i;exact⟨g,b,d,h,l⟩
theorem MG:Vw 1 [[97]]/\(bZ 1 [[97]]).length<=16:=by
 have h:bw (bE [97] 1)=[[97]]:=by decide +kernel
 have v:=zu (t:=[97]) (w:=1) (by decide) (by decide) (by decide) (by decide) (by decide);rw[h]at v;exact⟨v,by decide +kernel⟩
def fF(a:Ad)(d:List Int)(c:List PV)(t:Tx)(w:Nat)(b:List Tx):af:=[bo d,.own (.lst c),↥t,⇑w,.val (bI w b),.val (.lst (ak (bZ w b)))]
theorem C_(d:List Int)(c:List PV)(t:Tx)(w:Nat)(b:List Tx):rg (fF a d c t w b)=.ok (decide (16<(bZ w b).length)) (fF a d c t w b):=by
 have g:aN [.lst (ak (bZ w b))]=aa (.int ((bZ w b).length:Nat)):=by simp[aN,gD]
 have f:b0 (λi j=>decide (j<i)) (.int ((bZ w b).length:Nat)) (.int 16)=aa (.bl (decide (16<(bZ w b).length))):=by show aa (PV.bl (decide ((16:Int)<((bZ w b).length:Nat))))=_;congr 2;exact decide_eq_decide.mpr ∅
 exact km (gE (kx (i5 (eP rfl) kj) g) (iC (.int 16) _) f)
theorem BB(f:List Int)(d:List PV)(t:Tx)(w:Nat)(g:List Tx){x:PV}{c:Nat}{b:List Tx}(v:Vw c b)(h:pU a (fF a f d t w g)=.ok (bI c b) (fF a f d t w g)):o6 a (fF a f d t w g)=.ok .next (fF a f d t c b):=by have j:=Dg (a:=a) v.g v.w1 v.w4 v.hs;have i:bB (bI c b) (.int 0)=aa (.int c):=rfl;unfold o6;refine(cx (jB h)).trans ?_;have l:bd 3 (d2 bB (dV 4) (dC (.int 0))) ((fF a f d t w g).set 4 (.val (bI c b)))=.ok .next (((fF a f d t w g).set 4 (.val (bI c b))).set 3 (⇑c)) :=jB (gE (eP rfl) (iC (.int 0) _) i);refine(cx l).trans ?_;exact jB (sk_call1o (eP rfl) j)
theorem GW(c:List Int)(b:List PV)(t:Tx)(w:Nat)(d:List Tx)(h:w<4)(m:t.length<=60):pU a (fF a c b t w d)=.ok (bI (w+1) (bw (bE t (w+1)))) (fF a c b t w d):=by
 have g:=vO (a:=a) t (w+1) m;have o:b0 (λi j=>decide (i<j)) (.int w) (.int 4)=aa (.bl ah):=by show aa (PV.bl (decide (((w:Nat):Int)<4)))=_;rw[decide_eq_true ∅]
 have n:a9 (.int w) (.int 1)=aa (.int ((w+1:Nat):Int)):=rfl;unfold pU;refine(vp (km (gE (eP rfl) (iC (.int 4) _) o))).trans ?_;have f:d2 a9 (dV 3) (dC (.int 1)) (fF a c b t w d)=.ok (.int ((w+1:Nat):Int)) (fF a c b t w d):=gE (eP rfl) (iC (.int 1) _) n;have p:az (aC (im a) (gV (dV 2) (gV (d2 a9 (dV 3) (dC (.int 1))) (Pu.bH)))) (fF a c b t w d)=.ok (.tup (ak (bw (bE t (w+1))))) (fF a c b t w d):=by generalize d2 a9 (dV 3) (dC (.int 1))=D at f ⊢;have l:dV 2 (fF a c b t w d)=.ok (.str t) (fF a c b t w d):=eP rfl;generalize fF a c b t w d=ε at l f ⊢;generalize ((w+1:Nat):Int)=W1 at f g;simp[az,aC,gV,Pu.bH,l,f,g,R.bind,aB,cp,cr,bq,b9,cu,iF]
 exact kx (i5 f (i5 p kj)) rfl
theorem Jv(c:List Int)(b:List PV)(t:Tx)(w:Nat)(d:List Tx)(h:¬w<4):pU a (fF a c b t w d)=.ok (bI 1 [[97]]) (fF a c b t w d):=by
 have f:b0 (λi j=>decide (i<j)) (.int w) (.int 4)=aa (.bl aj):=by show aa (PV.bl (decide (((w:Nat):Int)<4)))=_;rw[decide_eq_false ∅]
 unfold pU;exact(pq (km (gE (eP rfl) (iC (.int 4) _) f))).trans rfl
theorem Ku(h:List Int)(g:List PV)(t:Tx)(A:6<=t.length)(C:t.length<=8)(y:∀c∈t,c∈bF):∀(k i:Nat) (w:Nat) (d:List Tx),Vw w d->5-w<=k->k+1<i -> ∃(j:Nat) (b:List Tx),Vw j b/\(bZ j b).length<=16/\fk rg (o6 a) i (fF a h g t w d)=.ok .next (fF a h g t j b):=by
 intro k
 induction k with
 |zero=>intro i w d v u;have:=v.w4;lia
 |succ k r=>
  intro i w d v u B;obtain⟨f,rfl⟩:∃f,i=f+1:=⟨i-1,∅⟩
  have c:=C_ (a:=a) h g t w d;by_cases q:16<(bZ w d).length
  .rw[decide_eq_true q]at c;by_cases o:w<4
   .have n:=zu (t:=t) (w:=w+1) ∅ ∅ ∅ (by have:=v.w1;lia) y;obtain⟨j,b,p,z,s⟩:=r f (w+1) _ n ∅ ∅;exact⟨j,b,p,z,(yG c (BB h g t w d (x:=.non) n (GW h g t w d o ∅))).trans s⟩
   .obtain⟨m,l⟩:=MG;have c2:=C_ (a:=a) h g t 1 [[97]];rw[decide_eq_false ∅]at c2;obtain⟨f2,rfl⟩:∃f2,f=f2+1:=⟨f-1,∅⟩
    exact⟨1,[[97]],m,l,(yG c (BB h g t w d (x:=.non) m (Jv h g t w d o))).trans (vZ c2)⟩
  .rw[decide_eq_false q]at c;exact⟨w,d,v,∅,vZ c⟩
theorem FX(c:List Int)(xs:List PV)(A:xs.length<=400):∃(w:Nat) (h:List Tx) (d:List PV),Vw w h/\(bZ w h).length<=16/\d.length<=xs.length+30 /\ rH a [bo c,.own (.lst xs)]=.ok (.val (.tup [bI w h,.lst (ak (bZ w h))])) [bo c,.own (.lst d)]:=by
 obtain⟨t,w,d,H,n,J,I,m,z,C⟩:=L0 (a:=a) c xs 2 8 (by decide) (by decide) (by decide) (by decide) A;have v:=zu (t:=t) (w:=w) ∅ n ∅ ∅ m;obtain⟨g,b,o,F,B⟩:=Ku (a:=a) c d t ∅ ∅ m 4 1000 w _ v ∅ (by decide);refine⟨g,b,d,o,F,z,?_⟩;have l:=vO (a:=a) t w ∅;have E:=Dg (a:=a) v.g v.w1 v.w4 v.hs;have q:k8 a [bo c,.own (.lst xs),⇑2,⇑8]=.ok (.val (.tup [.str t,.int w])) [bo c,.own (.lst d),⇑2,⇑8]:=C;have y:jN 2 3 (az (aC (k8 a) (gV (dV 0) (gO 1 (gV (dC (.int 2)) (gV (dC (.int 8)) (Pu.bH))))))) [bo c,.own (.lst xs),.none,.none,.none,.none]=.ok .next [bo c,.own (.lst d),↥t,⇑w,.none,.none]:=by have e:=Iq (G:=k8 a) (ε:=[bo c,.own (.lst xs),.none,.none,.none,.none]) (p:=.lst xs) (p':=.lst d) rfl rfl (iC (.int 2) _) (iC (.int 8) _) q;unfold jN az;rw[e];rfl
 have u:bd 4 (dL eR (aq (dV 3) (aq (az (aC (im a) (gV (dV 2) (gV (dV 3) (Pu.bH))))) (ax)))) [bo c,.own (.lst d),↥t,⇑w,.none,.none]=.ok .next [bo c,.own (.lst d),↥t,⇑w,.val (bI w (bw (bE t w))),.none]:=by refine(jB (kx (i5 (eP rfl) (i5 (x:=.tup (ak (bw (bE t w)))) (ε1:=[bo c,.own (.lst d),↥t,⇑w,.none,.none]) ?_ kj)) (v:=bI w (bw (bE t w))) rfl)).trans rfl;generalize im a=G at l;generalize ak (bw (bE t w))=X at l;simp[az,aC,gV,Pu.bH,dV,l,R.bind,aB,cp,cr,bq,b9,cu,iF]
 have s:bd 5 (az (aC (lg a) (gV (dV 4) (Pu.bH)))) [bo c,.own (.lst d),↥t,⇑w,.val (bI w (bw (bE t w))),.none]=.ok .next (fF a c d t w (bw (bE t w))) :=jB (sk_call1o (eP rfl) E);have r:a_ (dL eR (aq (dV 4) (aq (dV 5) (ax)))) (fF a c d t g b)=.ok (.ret (.val (.tup [bI g b,.lst (ak (bZ g b))]))) (fF a c d t g b):=by unfold a_;rw[kx (f:=eR) (i5 (eP (i:=4) (v:=bI g b) rfl) (i5 (eP (i:=5) (v:=.lst (ak (bZ g b))) rfl) kj)) rfl];rfl
 rw[Oj];have j:aH (jN 2 3 (az (aC (k8 a) (gV (dV 0) (gO 1 (gV (dC (.int 2)) (gV (dC (.int 8)) (Pu.bH))))))))
   (aH (bd 4 (dL eR (aq (dV 3) (aq (az (aC (im a) (gV (dV 2) (gV (dV 3) (Pu.bH))))) (ax)))))
   (aH (bd 5 (az (aC (lg a) (gV (dV 4) (Pu.bH)))))
   (aH (λε=>cq (fk rg (o6 a) 1000 ε))
   (a_ (dL eR (aq (dV 4) (aq (dV 5) (ax)))))))) [bo c,.own (.lst xs),.none,.none,.none,.none]=.ok (.ret (.val (.tup [bI g b,.lst (ak (bZ g b))]))) (fF a c d t g b):=by
  refine(cx y).trans ((cx u).trans ((cx s).trans ?_));refine(cx (d1:=λε=>cq (fk rg (o6 a) 1000 ε)) (by show cq _=_;rw[B];rfl)).trans ?_;exact r
 unfold fF at j;generalize aH _ _=D at j;generalize PV.tup [bI g b,.lst (ak (bZ g b))]=Q at j ⊢;simp[bh,fL,a5,cM,j,back,aB,R.bind,gZ]
theorem Vw.ql{w:Nat}{b:List Tx}(v:Vw w b):Ql (bZ w b)/\∃n,1<=n/\n<=20/\∀t∈bZ w b,t.length=n:=by
 have h:∀x∈b,x.length=w/\∀c∈x,c∈bF:=λx g=>⟨v.g.len x g,v.g.abc x g⟩
 have f:∀t∈bZ w b,t.length=w-1+b.length/\∀c∈t,c∈bF:=λt d=>FV v.w1 v.g.some h d;have m:=v.g.some;have l:=v.g.few;have j:=v.w4;have i:=v.w1;refine⟨⟨v.h0,LU v.w1 v.g.some h,λt d=>(f t d).2,λt d=>?_⟩,w-1+b.length,∅,∅,λt d=>(f t d).1⟩;obtain⟨x,r,e⟩:=l7 v.h0;have:wide (bZ w b)=w-1+b.length:=by rw[e];exact(f x (by rw[e];simp)).1
 rw[this];exact(f t d).1
theorem MY{G:af->R Slot}{ε:af}{b r:PV}{p p':Pu.PO}(f:ε[0]?=aa (.val b))(d:ε[1]?=aa (.own p))(c:G [.val b,.own p]=.ok (.val r) [.val b,.own p']):aC G (gV (dV 0) (gO 1 Pu.bH)) ε=.ok (.val r) (ε.set 1 (.own p')):=by simp[aC,gV,gO,Pu.bH,dV,f,d,c,R.bind,aB,cp,cr,bq,b9,cu]
theorem Dc{G:af->R Slot}{d:af->R PV}{ε:af}{x u:PV}(h:d ε=.ok x ε)(b:G [.val x]=.ok (.val u) [.val x]):az (aC G (gV d Pu.bH)) ε=.ok u ε:=by simp[az,aC,gV,Pu.bH,h,b,R.bind,aB,cp,cr,bq,b9,cu,iF]
theorem rk{d:af->R Slot}{ε ε1:af}{r:PV}(h:d ε=.ok (.val r) ε1):az d ε=.ok r ε1:=by unfold az;rw[h];rfl
theorem xY{d:af->R Slot}{c b:af}{f:List PV}(h:d c=.ok (.own (.lst f)) b):az d c=.ok (.lst f) b:=by unfold az;rw[h];rfl
theorem L4{d:af->R PO}{ε b:af}{xs:List PV}(h:d ε=.ok (.lst xs) b):dF d ε=.ok (.lst xs) b:=by unfold dF;rw[h];rfl
theorem vL{d:af->R PV}{ε ε1:af}{x:PV}(h:d ε=.ok x ε1):a_ d ε=.ok (.ret (.val x)) ε1:=by unfold a_;rw[h];rfl
theorem EA{d1 d2:af->R aG}{ε ε1:af}{s:Slot}(h:d1 ε=.ok (.ret s) ε1):aH d1 d2 ε=.ok (.ret s) ε1:=by unfold aH;rw[h]
theorem B7{c1 c2:af->R Bool}{f d c:af}{b:Bool}(h:c1 f=.ok aj d)(g:c2 d=.ok b c):kT c1 c2 f=.ok b c:=by unfold kT;rw[h,R.bind_ok];exact g
theorem G_{c1 c2:af->R Bool}{ε c ε2:af}{b:Bool}(f:c1 ε=.ok ah c)(d:c2 c=.ok b ε2):gT c1 c2 ε=.ok b ε2:=by unfold gT;rw[f];exact d
theorem HA{c1 c2:af->R Bool}{ε b:af}(c:c1 ε=.ok aj b):gT c1 c2 ε=.ok aj b:=by unfold gT;rw[c];rfl
theorem JC(b:af):dF (dL dz ax) b=.ok (.lst []) b:=rfl
def bL(a:Ad):af->R PV:=(dL iB (aq (az (et a.Seeker (cn "left") 0 (jP a))) (ax)))
def bM(a:Ad):af->R PV:=re [1,2] (oR (az (aC (jv a) (gV (dV 1) (Pu.bH))))) (az (aC (jo a (fM a 17)) (gV (dV 0) (gV (dV 1) (gO 2 (Pu.bH))))))
def bC:af->R Bool:=(dB (d2 (Pu.eqT aj) (dL aN (aq (dV 1) (ax))) (dC (.int 1))))
theorem Bp:lA a=gC 1 [0] (a5 2 (aH (bd 1 (bL a)) (aH (bA bC (a_ (dC .non)) (cg)) (aH (gg 2 (pH)) (a_ (bM a)))))):=rfl
theorem A0{T:List Tx}{b:List (Nat×Nat)}{n:Nat}(c:∀t∈T,t.length=n)(d:∀q∈b,q.1<n):bL a [.own (SK a T (bv b)),.none,.none]=.ok (.tup (ak (lf T b))) [.own (SK a T (bv b)),.none,.none] :=kx (i5 (xY (yS (i:=0) c d rfl)) kj) rfl
theorem Em{s0 s2:Slot}{l:List Tx}:bC [s0,.val (.tup (ak l)),s2]=.ok (decide (l.length=1)) [s0,.val (.tup (ak l)),s2]:=by refine km (gE (kx (i5 (eP rfl) kj) (v:=.int (l.length:Nat)) (by show aa (PV.int _)=_;rw[gD])) (iC (.int 1) _) ?_);rw[jO,tm];congr 2;exact decide_eq_decide.mpr ∅
theorem C4{T:List Tx}{b:List (Nat×Nat)}{v:PV}{s1 s2:Slot}{D:af->R aG}(h:D [.own (SK a T (bv b)),.none,.none]=.ok (.ret (.val v)) [.own (SK a T (bv b)),s1,s2]):gC 1 [0] (a5 2 D) [.own (SK a T (bv b))]=.ok (.val v) [.own (SK a T (bv b))]:=by generalize SK a T (bv b)=P at h ⊢;simp[gC,gh,mE,a5,cM,h,back,R.bind,aB]
theorem Nr{T:List Tx}{Rw:List (Nat×Nat)}{n:Nat}(c:∀t∈T,t.length=n)(d:∀q∈Rw,q.1<n)(f:(lf T Rw).length=1):lA a [.own (SK a T (bv Rw))]=.ok (.val .non) [.own (SK a T (bv Rw))]:=by rw[Bp];refine C4 (s1:=.val (.tup (ak (lf T Rw)))) (s2:=.none) ?_;refine(cx (jB (A0 c d))).trans ?_;have b:=Em (s0:=.own (SK a T (bv Rw))) (l:=lf T Rw) (s2:=.none);rw[decide_eq_true f]at b;exact EA ((vp b).trans (vL (iC _ _)))
theorem GR{T:List Tx}{Rw:List (Nat×Nat)}{n:Nat}(f:∀t∈T,t.length=n)(j:∀q∈Rw,q.1<n)(c:Ql (lf T Rw))(m:2<=(lf T Rw).length)(o:(lf T Rw).length<=16)(p:n<=1000):lA a [.own (SK a T (bv Rw))]=.ok (⇑(fbest (lf T Rw):Nat)) [.own (SK a T (bv Rw))]:=by
 have h:wide (lf T Rw)<=1000:=by
  obtain⟨x,r,e⟩:=l7 c.ne;have:wide (lf T Rw)=n:=by have g:=f x ((DM Rw T).mem (by rw[e];simp));rw[e];exact g
  lia
 obtain⟨b,i⟩:=best_eq (a:=a) (s0:=.own (SK a T (bv Rw))) c m o h;rw[Bp];refine C4 (s1:=.val (.tup (ak (lf T Rw)))) (s2:=.own (.dT b)) ?_;refine(cx (jB (A0 f j))).trans ?_;have d:=Em (s0:=.own (SK a T (bv Rw))) (l:=lf T Rw) (s2:=.none);rw[decide_eq_false ∅]at d;refine(cx (pq d)).trans ?_;refine(cx (ε1:=[.own (SK a T (bv Rw)),.val (.tup (ak (lf T Rw))),.own (.dT [])]) rfl).trans ?_;exact vL i
theorem Lc(T:List Tx):(ft T).lookup (cn "heard")=ae:=rfl
theorem HV(T:List Tx):(ft T).lookup (cn "needed")=ae:=rfl
theorem Gs(T:List Tx):(ft T).lookup (cn "best")=ae:=rfl
theorem F7{b:af}{i:Nat}{T:List Tx}(c:b[i]?=aa (.own (SK a T (bv [])))):et a.Seeker (cn "heard") i (pB a) b=.ok (.own (.lst [])) b:=by have h:=v_ (a:=a) c (Lc T) (by decide) (M9 rfl);rw[vH c]at h;exact h
theorem Cu{b:af}{i:Nat}{T:List Tx}{Rw:List (Nat×Nat)}{n:Nat}(g:∀t∈T,t.length=n)(j:∀q∈Rw,q.1<n)(d:Ql (lf T Rw))(l:(lf T Rw).length<=16)(f:n<=1000)(c:b[i]?=aa (.own (SK a T (bv Rw)))):et a.Seeker (cn "needed") i (mQ a) b=.ok (⇑(nd (lf T Rw):Nat)) b:=by have h:=v_ (a:=a) c (HV T) (by decide) (Mo g j d l f);rw[vH c]at h;exact h
theorem BS{ε:af}{i:Nat}{T:List Tx}{Rw:List (Nat×Nat)}{v:PV}(h:lA a [.own (SK a T (bv Rw))]=.ok (.val v) [.own (SK a T (bv Rw))])(b:ε[i]?=aa (.own (SK a T (bv Rw)))):et a.Seeker (cn "best") i (lA a) ε=.ok (.val v) ε:=by have h:=v_ (a:=a) b (Gs T) (by decide) h;rw[vH b]at h;exact h
def fE(a:Ad)(f:List Int)(b:List PV)(V:PV)(T:List Tx)(D:List Nat)(d c:Slot):af:=[bo f,.own (.lst b),.val V,.val (lsP T),.own (SK a T (bv [])),.own (.lst (nsP D)),d,c]
def yF:PV->PV
 |.lst xs=>match f8 xs with
  |some q=>.int (nd q:Nat)
  |none=>.non
 |_=>.non
theorem AR(m:List Tx):yF (lsP m)=.int (nd m:Nat):=by
 show(match f8 (ak m)with|aa q=>PV.int (nd q:Nat)|ae=>.non)=_;rw[nI]
def AT(a:Ad):af->R PV:=(dL nX (aq (dF (bK [] (bp (dV 7)) (bP) (az (aC (kZ a) (gV (dV 0) (Pu.bH)))))) (ax)))
theorem Hw{ε:af}{l:List Tx}{p:Nat}(h:Ql l)(s:l.length<=16)(u:wide l<=1000)(o:ε[7]?=aa (.val (.lst ((parts l p).map lsP))))(q:parts l p≠[]):AT a ε=.ok (.int (mxI ((parts l p).map nd):Nat)) ε:=by
 have i:=gW (cap:=[]) (dt:=bP) (de:=(az (aC (kZ a) (gV (dV 0) (Pu.bH))))) (ε:=ε) (λ_=>ah) yF ((parts l p).map lsP) (λx j=>by
  obtain⟨m,c,rfl⟩:=bJ.mp j;obtain⟨g,f⟩:=h.part c;have b:wide m<=1000:=by
   obtain⟨x,r,e⟩:=l7 g.ne;have:wide m=wide l:=by have:=h.len x (f.mem (by rw[e];simp));rw[e];exact this
   lia
  have d:=least_eq (a:=a) g (c4 f.length_le s) b;refine⟨by simp[bD,cE,bg,bP,R.bind,aB,bq,b9,cp,cu,cr],λ_=>?_⟩;rw[AR];generalize ((nd m:Nat):Int)=N at d;generalize lsP m=M at d;simp[bD,cE,bg,az,aC,gV,dV,Pu.bH,R.bind,aB,bq,b9,d,cp,cu,cr,iF]) []
 have n:(((parts l p).map lsP).filter (λ_=>ah)).map yF=nsP ((parts l p).map nd):=by rw[qt.mpr (λ_ _=>rfl),dX];unfold nsP;rw[dX];exact j0 λm _=>AR m
 rw[fS,n]at i;have c:=maxP_nat (l:=(parts l p).map nd) (by simpa using q);refine kx (i5 (L4 (xs:=nsP ((parts l p).map nd)) ?_) kj) c;unfold bK;rw[show bp (dV 7) ε=.ok ((parts l p).map lsP) ε by unfold bp;rw[eP o];rfl,R.bind_ok,i];rfl
def lC(a:Ad):af->R Bool:=(gT (dB (d2 (b0 λi j=>decide (j<i)) (dL aN (aq (dV 7) (ax))) (dC (.int 1)))) (dB (d2 (Pu.eqT aj) (d2 a9 (dC (.int 1)) (AT a)) (az (aC (kZ a) (gV (dV 3) (Pu.bH)))))))
def lB(a:Ad):af->R aG:=aH (bd 7 (az (aC (mx a) (gV (dV 3) (gV (dV 6) (Pu.bH)))))) (bA (lC a) (mz 5 (dV 6)) (cg))
def iJ(l:List Tx)(p:Nat):Bool:=decide (1<(parts l p).length)&&decide (nb l p=nd l)
theorem Gj(f:List Int)(c:List PV)(V:PV){l:List Tx}{p:Nat}(D:List Nat)(d:Slot)(m:Ql l)(n:l.length<=16)(h:wide l<=1000):lC a (fE a f c V l D d (.val (.lst ((parts l p).map lsP))))=.ok (iJ l p) (fE a f c V l D d (.val (.lst ((parts l p).map lsP)))):=by
 have g:dB (d2 (b0 λi j=>decide (j<i)) (dL aN (aq (dV 7) (ax))) (dC (.int 1))) (fE a f c V l D d (.val (.lst ((parts l p).map lsP))))=.ok (decide (1<(parts l p).length)) (fE a f c V l D d (.val (.lst ((parts l p).map lsP)))) :=sk_len (eP rfl) (by show aa (PV.int _)=_;rw[bO]) 1;unfold lC iJ;by_cases q:1<(parts l p).length
 .rw[decide_eq_true q]at g ⊢;rw[G_ g (b:=decide (nb l p=nd l)) (ε2:=fE a f c V l D d (.val (.lst ((parts l p).map lsP)))) ?_]
  .rfl
  have o:=Hw (a:=a) (ε:=fE a f c V l D d (.val (.lst ((parts l p).map lsP)))) m n h rfl (by intro e;rw[e]at q;simp at q);have r:=Dc (eP (i:=3) (ε:=fE a f c V l D d (.val (.lst ((parts l p).map lsP)))) (v:=lsP l) rfl) (least_eq (a:=a) m n h);refine km (gE (gE (iC (.int 1) _) o (z:=.int (nb l p:Nat)) ?_) r ?_)
  .show aa (PV.int (1+((mxI ((parts l p).map nd):Nat):Int)))=_;congr 2
  .rw[jO,tm];congr 2;exact decide_eq_decide.mpr ∅
 .rw[decide_eq_false q]at g ⊢;rw[HA g];rfl
theorem AZ(d:List Int)(b:List PV)(V:PV){l:List Tx}(g:Ql l)(w:l.length<=16)(r:wide l<=1000):∀(c D:List Nat) (h f:Slot),(∀p∈c,p<wide l)->D.length+c.length<=2000 -> ∃z n,eU 6 (lB a) (nsP c) (fE a d b V l D h f)=.ok .next (fE a d b V l (D++c.filter (iJ l)) z n)
 |[],D,h,f,_,_=>⟨h,f,by rw[List.filter_nil,jC];rfl⟩
 |p::c,D,h,f,u,C=>by
  simp only[eX]at C;have o:=lparts_eq (a:=a) (l:=l) (p:=p) (λt s=>⟨by rw[g.len t s];exact u p (by simp),g.abc t s⟩) ∅;have F:bd 7 (az (aC (mx a) (gV (dV 3) (gV (dV 6) (Pu.bH))))) (fE a d b V l D (⇑p) f)=.ok .next (fE a d b V l D (⇑p) (.val (.lst ((parts l p).map lsP)))) :=(jB (sk_call2o (eP (v:=lsP l) rfl) (eP (v:=.int p) rfl) o)).trans rfl;have m:=Gj (a:=a) d b V (p:=p) D (⇑p) g w r;have B:lB a (fE a d b V l D (⇑p) f)=.ok .next (fE a d b V l (D++[p].filter (iJ l)) (⇑p) (.val (.lst ((parts l p).map lsP)))):=by
   refine(cx F).trans ?_;cases j:iJ l p with
   |true=>
    rw[j]at m;refine(vp m).trans ?_;rw[Js (i:=5) (xs0:=nsP D) (xs:=nsP D) rfl (eP (i:=6) (v:=.int p) rfl) rfl (by unfold nsP bQ;rw[bO];lia)];have:nsP D++[PV.int p]=nsP (D++[p].filter (iJ l)):=by simp[nsP,j]
    rw[this];rfl
   |false=>rw[j]at m;refine(pq m).trans ?_;simp[j];rfl
  obtain⟨y,x,A⟩:=AZ d b V g w r c (D++[p].filter (iJ l)) (⇑p) (.val (.lst ((parts l p).map lsP))) (λq g=>u q (by simp[g])) (by have:([p].filter (iJ l)).length<=1:=Aw _ _;rw[eN];lia);refine⟨y,x,?_⟩;have E:(p::c).filter (iJ l)=[p].filter (iJ l)++c.filter (iJ l):=by rw[<-Au];rfl
  rw[E,<-qj,<-A,show nsP (p::c)=.int p::nsP c from rfl,eU,show(fE a d b V l D h f).set 6 (⇑p)=fE a d b V l D (⇑p) f from rfl,B]
theorem I_(l:List Tx):(bG (wide l)).filter (iJ l)=(plq l).filter λp=>decide (nb l p=nd l):=by unfold plq iJ;rw[List.filter_filter];refine Fa λp _=>?_;rw[Bool.and_comm];congr 2;unfold parts;rw[bO]
theorem M7{l:List Tx}(b:Ql l)(f:2<=l.length):∃r,(bG (wide l)).filter (iJ l)=fbest l::r:=by
 obtain⟨⟨p,c,e⟩,_⟩:=b.nd_min f;rw[I_];have d:((plq l).filter λp=>decide (nb l p=nd l)).head?=(plq l).find? λp=>decide (nb l p=nd l):=List.head?_filter;unfold fbest;rw[<-d];cases h:(plq l).filter λp=>decide (nb l p=nd l)with
 |nil=>
  have:p∈(plq l).filter λp=>decide (nb l p=nd l):=fN.mpr ⟨c,decide_eq_true e⟩;rw[h]at this;cases this
 |cons x r=>exact⟨r,rfl⟩
def c1(a:Ad):af->R Bool:=(kT (dB (d2 (Pu.eqT ah) (az (et a.Seeker (cn "left") 4 (jP a))) (dV 3))) (kT (dB (d2 (Pu.eqT ah) (az (et a.Seeker (cn "needed") 4 (mQ a))) (az (aC (kZ a) (gV (dV 3) (Pu.bH)))))) (dB (d2 (Pu.eqT ah) (az (et a.Seeker (cn "heard") 4 (pB a))) (dF (dL dz (ax)))))))
theorem KB{ε:af}{T:List Tx}{n:Nat}(d:∀t∈T,t.length=n)(b:Ql T)(g:T.length<=16)(j:n<=1000)(i:wide T<=1000)(f:ε[3]?=aa (.val (lsP T)))(c:ε[4]?=aa (.own (SK a T (bv [])))):c1 a ε=.ok aj ε:=by
 have p:=xY (yS (a:=a) (Rw:=[]) d (λq b=>by cases b) c);have o:=rk (Cu (a:=a) (Rw:=[]) d (λq b=>by cases b) b g j c);have m:=Dc (eP f) (least_eq (a:=a) b g i);have l:=xY (F7 (a:=a) c);have h:Pu.eqT ah (.lst (ak (lf T []))) (lsP T)=aa (.bl aj):=by show Pu.eqT ah (.lst (ak T)) (.lst (ak T))=_;rw[Eg];simp
 exact B7 (km (gE p (eP f) h)) (B7 (km (gE o m (by show Pu.eqT ah (.int (nd T:Nat)) (.int (nd T:Nat))=_;rw[jO];simp))) (km (gE l (JC _) rfl)))
def c2:af->R Bool:=(dB (d2 (Pu.eqT aj) (dL aN (aq (dV 3) (ax))) (dC (.int 1))))
theorem Ng{ε:af}{T:List Tx}(b:ε[3]?=aa (.val (lsP T))):c2 ε=.ok (decide (T.length=1)) ε:=by refine km (gE (kx (i5 (eP b) kj) (v:=.int (T.length:Nat)) (by show aa (PV.int _)=_;rw[gD])) (iC (.int 1) _) ?_);rw[jO,tm];congr 2;exact decide_eq_decide.mpr ∅
def r1(a:Ad):af->R aG:=(a_ (kY (d2 (rm aj) (az (et a.Seeker (cn "best") 4 (lA a))) (dC .non)) (d2 (Pu.eqT aj) (az (et a.Seeker (cn "needed") 4 (mQ a))) (dC (.int 0)))))
theorem HH{ε:af}{T:List Tx}{n:Nat}(c:∀t∈T,t.length=n)(b:Ql T)(f:T.length=1)(i:n<=1000)(d:ε[4]?=aa (.own (SK a T (bv [])))):r1 a ε=.ok (.ret (.val (.bl ah))) ε:=by
 have j:=rk (BS (Nr (a:=a) (Rw:=[]) c (λq b=>by cases b) f) d);have g:=rk (Cu (a:=a) (Rw:=[]) c (λq b=>by cases b) b (by show T.length<=16;lia) i d);have h:nd (lf T [])=0:=b.nd_one f;rw[h]at g;refine vL ?_;unfold kY;rw[km (gE j (iC .non _) rfl),R.bind_ok];exact gE g (iC (.int 0) _) rfl
theorem FF{ε:af}{i:Nat}{xs:List PV}{v:PV}(h:fV ε i=aa xs)(b:mn (bB (.lst xs) (.int 0))=aa v):ny bB i (dC (.int 0)) ε=.ok v ε:=by unfold ny;rw[h];simp only[cf,R.bind_ok];show(R.ok (PV.int 0) ε).bind _=_;rw[R.bind_ok,h];simp only[cf,R.bind_ok];rw[b];rfl
theorem Kw(b:List Int):rf a [bo b]=.ok (.val (.bl ah)) [bo b]:=by
 obtain⟨w,c,d,v,o,Y,H⟩:=FX (a:=a) b [] (by simp);obtain⟨f,n,X,K,m⟩:=v.ql;have A:∀ε:af,ε[2]?=aa (.val (bI w c))->pf a.Seeker (nE a) (gV (dV 2) (Pu.bH)) ε=.ok (SK a (bZ w c) []) ε:=λε h=>GY v.g v.w1 v.w4 v.hs v.h0 o (eP h);obtain⟨T,J⟩:∃T,T=bZ w c:=⟨_,rfl⟩
 rw[<-J]at f m A H o;have Z:wide T=n:=by obtain⟨x,r,e⟩:=l7 f.ne;have:=m x (by rw[e];simp);rw[e];exact this
 have F:gg 1 (dL dz ax) [bo b,.none,.none,.none,.none,.none,.none,.none]=.ok .next [bo b,.own (.lst []),.none,.none,.none,.none,.none,.none]:=rfl;have E:jN 2 3 (az (aC (rH a) (gV (dV 0) (gO 1 (Pu.bH))))) [bo b,.own (.lst []),.none,.none,.none,.none,.none,.none]=.ok .next [bo b,.own (.lst d),.val (bI w c),.val (lsP T),.none,.none,.none,.none]:=by unfold jN;rw[rk (MY (p:=.lst []) (p':=.lst d) rfl rfl H)];rfl
 have C:gg 4 (pf a.Seeker (nE a) (gV (dV 2) (Pu.bH))) [bo b,.own (.lst d),.val (bI w c),.val (lsP T),.none,.none,.none,.none]=.ok .next [bo b,.own (.lst d),.val (bI w c),.val (lsP T),.own (SK a T (bv [])),.none,.none,.none]:=by unfold gg;rw[A _ rfl];rfl
 have B:=KB (a:=a) (ε:=[bo b,.own (.lst d),.val (bI w c),.val (lsP T),.own (SK a T (bv [])),.none,.none,.none]) m f o ∅ ∅ rfl rfl;have s:=Ng (ε:=[bo b,.own (.lst d),.val (bI w c),.val (lsP T),.own (SK a T (bv [])),.none,.none,.none]) (T:=T) rfl;have l:∃u j g,yaq a [bo b,.none,.none,.none,.none,.none,.none,.none]=.ok (.ret (.val (.bl ah))) [bo b,.own (.lst d),.val (bI w c),.val (lsP T),.own (SK a T (bv [])),u,j,g]:=by
  show ∃u j g,aH _ (aH _ (aH _ (aH (bA (c1 a) _ _) (aH (bA c2 (r1 a) _) (aH _ (aH (λε=>cq (c6 6 _ (lB a) ε)) _)))))) _=_;by_cases z:T.length=1
  .rw[decide_eq_true z]at s;refine⟨.none,.none,.none,?_⟩;refine(cx F).trans ((cx E).trans ((cx C).trans ((cx (pq B)).trans ?_)));exact EA ((vp s).trans (HH m f z ∅ rfl))
  .rw[decide_eq_false z]at s;have I:2<=T.length:=by have:=l6.mpr f.ne;lia
   obtain⟨j,g,G⟩:=AZ (a:=a) b d (bI w c) f o ∅ (bG (wide T)) [] .none .none (λp Q=>kE.mp Q) (by simp;lia);obtain⟨r,N⟩:=M7 f I;rw[fS,N]at G;refine⟨.own (.lst (nsP (fbest T::r))),j,g,?_⟩;refine(cx F).trans ((cx E).trans ((cx C).trans ((cx (pq B)).trans ((cx (pq s)).trans ?_))));refine(cx (ε1:=fE a b d (bI w c) T [] .none .none) rfl).trans ?_;have L:dL fj (aq (dL aN (aq (d2 bB (dV 3) (dC (.int 0))) (ax))) (ax)) (fE a b d (bI w c) T [] .none .none)=.ok (nsP (bG (wide T))) (fE a b d (bI w c) T [] .none .none):=by
    obtain⟨x,t,e⟩:=l7 f.ne;have M:bB (lsP T) (.int 0)=aa (.str x):=by rw[e];show c9 (ak (x::t)) ((0:Nat):Int)=_;unfold c9;rw[pN ∅ (by simp[ak])];rfl
    have y:aN [.str x]=aa (.int (wide T:Nat)):=by rw[show wide T=x.length by rw[e];rfl];rfl
    refine kx (i5 (kx (i5 (gE (eP (i:=3) (v:=lsP T) rfl) (iC (.int 0) _) M) kj) y) kj) ?_;rw[<-rng_ns];exact n_ ∅
   refine(Bk L G).trans ?_;have W:=rk (BS (ε:=fE a b d (bI w c) T (fbest T::r) j g) (i:=4) (GR (a:=a) (Rw:=[]) m (λq O=>by cases O) f I o ∅) rfl);have S:ny bB 5 (dC (.int 0)) (fE a b d (bI w c) T (fbest T::r) j g)=.ok (.int (fbest T:Nat)) (fE a b d (bI w c) T (fbest T::r) j g):=by
    refine FF (xs:=nsP (fbest T::r)) rfl ?_;have:bB (.lst (nsP (fbest T::r))) (.int 0)=aa (.int (fbest T:Nat)):=by show c9 (nsP (fbest T::r)) ((0:Nat):Int)=_;unfold c9;rw[pN ∅ (by simp[nsP])];rfl
    rw[this];rfl
   exact vL (gE W S (by show Pu.eqT aj (.int (fbest T:Nat)) (.int (fbest T:Nat))=_;rw[jO];simp))
 obtain⟨u,j,g,l⟩:=l;unfold rf;generalize yaq a=D at l;generalize SK a T (bv [])=P at l;generalize lsP T=A2 at l;generalize bI w c=A3 at l;simp[bh,fL,a5,cM,l,back,aB,R.bind,gZ]
end
open L2 Pu Sh
def zj(K:ar)(a:Ad):Bool:=qo K a.SlitError vy "ValueError.__new__" && (n5 a).all (λx=>qo K x vy "ValueError.__new__" && subB K a.SlitError x&&CN K x&&(n5 a).all (λd=>iO K (.ref x) (.ref d) == aa (x == d))&&iO K (.ref x) (.type "ValueError") == aa ah)&&w_ K
section
variable{K:ar}{h g:aF}{i:Str->Option ai}{a:Ad}
theorem uU(h:zj K a=ah):qo K a.SlitError vy "ValueError.__new__"=ah/\(∀x∈n5 a,qo K x vy "ValueError.__new__"=ah/\subB K a.SlitError x=ah/\CN K x=ah/\(∀d∈n5 a,iO K (.ref x) (.ref d)=aa (x == d))/\iO K (.ref x) (.type "ValueError")=aa ah)/\w_ K=ah:=by unfold zj at h;simp only[dW,gK,beq_iff_eq,decide_eq_true_eq]at h;obtain⟨⟨j,c⟩,f⟩:=h;exact⟨j,λx b=>⟨(c x b).1.1.1.1,(c x b).1.1.1.2,(c x b).1.1.2,(c x b).1.2,(c x b).2⟩,f⟩
structure Top(K:ar)(a:Ad):Prop where
 yaJ:u0 K a.Seeker "Seeker.__init__" yX
 ya6:i3 K a.Seeker "left" "Seeker.left" yf
 ya7:i3 K a.Seeker "needed" "Seeker.needed" zg
 ya5:i3 K a.Seeker "heard" "Seeker.heard" x0
 ya4:i3 K a.Seeker "best" "Seeker.best" wd
 k_Seeker:Cls K a.Seeker
 ya0:iH K a.Seeker "having"
 yaZ:iH K a.Seeker "answers"
 yat:cZ K "_law_cell_at" xE
 yay:cZ K "_law_mixed" xf
 yau:cZ K "_law_draw" yE
 yaA:cZ K "_law_pick" zD
 yaC:cZ K "_law_text" yx
 yax:cZ K "_law_like" y9
 yaB:cZ K "_law_seen" uw
 yaD:cZ K "_law_under" wb
 yar:cZ K "_law_all" qV
 yav:cZ K "_law_few" yH
 yaz:cZ K "_law_parts" vq
 yas:cZ K "_law_can" uy
 yaw:cZ K "_law_least" uT
 yan:cZ K "is_whole_number" x_
 yao:cZ K "is_width" zR
 yak:cZ K "has_only" uV
 yap:cZ K "is_window" zf
 yah:cZ K "are_windows" uX
 yam:cZ K "is_view_with" y8
 yal:cZ K "is_view" yR
 yai:cZ K "check_view" zS
 yaf:cZ K "add_endings" yh
 yaj:cZ K "counted" xS
 yaH:cZ K "texts" we
 yaI:cZ K "with_letter" vY
 yag:cZ K "answers_to" vU
 yaE:cZ K "needed_by" q8
 yaG:cZ K "places_to_ask" uB
 yaF:cZ K "needed_for" u8
 yaq:cZ K "law" qS
 yaL:dm K b_ "all"=aa ae
 yaM:dm K b_ "any"=aa ae
 yaN:dm K b_ "bool"=aa ae
 yaO:dm K b_ "int"=aa ae
 yaP:dm K b_ "isinstance"=aa ae
 yaQ:dm K b_ "len"=aa ae
 yaR:dm K b_ "list"=aa ae
 yaS:dm K b_ "max"=aa ae
 yaT:dm K b_ "min"=aa ae
 yaU:dm K b_ "range"=aa ae
 yaV:dm K b_ "set"=aa ae
 yaW:dm K b_ "sorted"=aa ae
 yaX:dm K b_ "str"=aa ae
 yaY:dm K b_ "tuple"=aa ae
 ya8:∃t,dm K b_ "LETTERS"=aa (aa (.str (tS [97,98,99]) t))
 ya9:∃t,dm K b_ "MOST_TEXTS"=aa (aa (.int 16 t))
 yba:∃t,dm K b_ "MOST_WINDOWS"=aa (aa (.int 9 t))
 ybb:∃t,dm K b_ "WIDEST"=aa (aa (.int 4 t))
 yae:dm K b_ "SlitError"=aa (aa (.ref a.SlitError))
 yac:dm K b_ "NoView"=aa (aa (.ref a.NoView))
 yab:dm K b_ "Never"=aa (aa (.ref a.Never))
 yaa:dm K b_ "Full"=aa (aa (.ref a.Full))
 yad:dm K b_ "Seeker"=aa (aa (.ref a.Seeker))
 ck:zj K a=ah
 z_Seeker_best:jt K "Seeker.best"=aa (200,196)/\wE K 200 196=ah/\K.lookup 196=ae
theorem Ir(T:Top K a)(X:K.In g)(G:g.Ns b_ i):cK K i g a where
 yaJ:=T.yaJ
 ya6:=T.ya6
 ya7:=T.ya7
 ya5:=T.ya5
 ya4:=T.ya4
 k_Seeker:=T.k_Seeker
 ya0:=T.ya0
 yaZ:=T.yaZ
 yat:=T.yat.at X G
 yay:=T.yay.at X G
 yau:=T.yau.at X G
 yaA:=T.yaA.at X G
 yaC:=T.yaC.at X G
 yax:=T.yax.at X G
 yaB:=T.yaB.at X G
 yaD:=T.yaD.at X G
 yar:=T.yar.at X G
 yav:=T.yav.at X G
 yaz:=T.yaz.at X G
 yas:=T.yas.at X G
 yaw:=T.yaw.at X G
 yan:=T.yan.at X G
 yao:=T.yao.at X G
 yak:=T.yak.at X G
 yap:=T.yap.at X G
 yah:=T.yah.at X G
 yam:=T.yam.at X G
 yal:=T.yal.at X G
 yai:=T.yai.at X G
 yaf:=T.yaf.at X G
 yaj:=T.yaj.at X G
 yaH:=T.yaH.at X G
 yaI:=T.yaI.at X G
 yag:=T.yag.at X G
 yaE:=T.yaE.at X G
 yaG:=T.yaG.at X G
 yaF:=T.yaF.at X G
 yaq:=T.yaq.at X G
 yaL:=jk X G T.yaL
 yaM:=jk X G T.yaM
 yaN:=jk X G T.yaN
 yaO:=jk X G T.yaO
 yaP:=jk X G T.yaP
 yaQ:=jk X G T.yaQ
 yaR:=jk X G T.yaR
 yaS:=jk X G T.yaS
 yaT:=jk X G T.yaT
 yaU:=jk X G T.yaU
 yaV:=jk X G T.yaV
 yaW:=jk X G T.yaW
 yaX:=jk X G T.yaX
 yaY:=jk X G T.yaY
 ya8:=T.ya8.imp λ_ e=>ji X G e
 ya9:=T.ya9.imp λ_ e=>ji X G e
 yba:=T.yba.imp λ_ e=>ji X G e
 ybb:=T.ybb.imp λ_ e=>ji X G e
 yae:=ji X G T.yae
 yac:=ji X G T.yac
 yab:=ji X G T.yab
 yaa:=ji X G T.yaa
 yad:=ji X G T.yad
 ya3:=xR X (ji X G T.yac) ((uU T.ck).2.1 a.NoView (by simp[n5])).1
 ya2:=xR X (ji X G T.yab) ((uU T.ck).2.1 a.Never (by simp[n5])).1
 ya1:=xR X (ji X G T.yaa) ((uU T.ck).2.1 a.Full (by simp[n5])).1
 yaK:=⟨_,_,Ho T.yad T.z_Seeker_best.1 T.z_Seeker_best.2.1⟩
theorem Jt{l:Ac}{w:aT}{d:ac}(X:K.In h)(G:h.Ns b_ i)(b:i "law"=aa (.ref d))(T:Top K a):∃c:gJ,(∀(s:am) (v:ai),BindsTo s c ⟨[v],[]⟩ [("_law_script",v)])/\∀g:aF,K.In g->g.Ns b_ i->gz l.prog w K i g (b7 l.prog w) 43 d c ["_law_script"] (bn K (rf a)):=by
 obtain⟨f,oc,x,kV,y,u,B,A,z,r,o,n,m,j⟩:=T.yaq;have e:=b.symm.trans (ji X G o);cases e;exact⟨_,λs v=>.of_eq rfl,λg p q=>KG (Ir T p q) (vQ n m j)⟩
theorem IS{l:Ac}{q:a4}{j:List Str}{XP:(Str->Option ai)->aF->Prop}{p:aT->aF->Prop}{d:DefRec}{K:Params->ar}(A:l.most=aa 63)(v:d.params.defaults=[])(m:d.name = "law")(o:∀(w:aT) (h:aF),p w h->(K w.params).In h/\h.get? 196=aa (PySem.W.tabObj #[])) {a:Ad} (T:∀w:aT,Top (K w.params) a):PySem.W.WalkO q j XP p l.row.toRowW d [] (λf r=>PySem.call f r) :=
 L2.Py (n:=63) (k:=43) (x:="_law_script") (K:=K) (CX:=λw=>b7 l.prog w) (sp:=λw=>bn (K w.params) (rf a)) A (by decide) v ⟨rfl,by decide,by decide⟩ (λw h Y=>⟨(o w h Y).1,λc P e=>by rw[(T w).z_Seeker_best.1]at e;cases e;exact⟨(T w).z_Seeker_best.2.1,(T w).z_Seeker_best.2.2,(o w h Y).2⟩⟩)
  (λw i F h C G u=>Jt C G (by rw[<-m];exact u) (T w))
  (λw H b y E _ B=>NJ (MT (uU (T w).ck).2.2 B) (Kw  y))
  (λw H s e D z=>by obtain⟨_,_,_,_,_,_,_,_,_,_,_,f⟩:=z;exact f)
theorem Pr{l:Ac}{q:a4}{b:List Str}{XP:(Str->Option ai)->aF->Prop}{j:aT->aF->Prop}{d:DefRec}{K:Params->ar}{yae yac yab yaa yad:ac}(o:l.most=aa 63)(n:d.params.defaults=[])(c:d.name = "law")(p:∀(w:aT) (h:aF),j w h->(K w.params).In h/\h.get? 196=aa (PySem.W.tabObj #[])) (T:∀w:aT,Top (K w.params) ⟨yae,yac,yac,yac,yac,yab,yaa,yac,yac,yac,yac,yac,yad,0⟩):PySem.W.WalkO q b XP j l.row.toRowW d [] (λf m=>PySem.call f m):=IS o n c p T
end
end K31
def PySem.W.Fast.tw16870410340009215417:Nat:=0
def PySem.W.Fast.tw14497144689827117591:Nat:=0
def PySem.W.Fast.tw6006157333474190047:Nat:=0
def PySem.W.Fast.tw7690261340069741775:Nat:=0
def PySem.W.Fast.tw12983089483287954:Nat:=0
def PySem.W.Fast.tw18291246705614664147:Nat:=0
def PySem.W.Fast.tw9659335417051150754:Nat:=0
def PySem.W.Fast.tw14432228177783215623:Nat:=0
def PySem.W.Fast.tw18347602464455443840:Nat:=0
def PySem.W.Fast.tw2373735134855079734:Nat:=0
def PySem.W.Fast.tw13094941351086530731:Nat:=0
def PySem.W.Fast.tw17212321133002686491:Nat:=0
def PySem.W.Fast.tw3412369343596872572:Nat:=0
def PySem.W.Fast.tw7327988201430809368:Nat:=0
def PySem.W.Fast.tw15374350719887474410:Nat:=0
def PySem.W.Fast.tw18152894881228818348:Nat:=0
def PySem.W.Fast.tw10186680841826573839:Nat:=0
def PySem.W.Fast.tw9455485578410760652:Nat:=0
def PySem.W.Fast.tw7227592325648724223:Nat:=0
def PySem.W.Fast.tw11254484659443729984:Nat:=0
def PySem.W.Fast.tw12428431335868717374:Nat:=0
def PySem.W.Fast.tw4655789001835326614:Nat:=0
def PySem.W.Fast.tw15927195810398856988:Nat:=0
def PySem.W.Fast.tw569188773997725277:Nat:=0
def PySem.W.Fast.tw14992148415494500582:Nat:=0
def PySem.W.Fast.tw12006060240501632075:Nat:=0
def PySem.W.Fast.tw9961603030791673177:Nat:=0
def PySem.W.Fast.tw398129458699632217:Nat:=0
def PySem.W.Fast.tw18368724738124666575:Nat:=0
def PySem.W.Fast.tw3838209107299704156:Nat:=0
def PySem.W.Fast.tw705679329352611760:Nat:=0
def PySem.W.Fast.tw611779137247437184:Nat:=0
def PySem.W.Fast.tw12267824150263393502:Nat:=0
def PySem.W.Fast.tw12094604297409262592:Nat:=0
def PySem.W.Fast.tw14973139343999404452:Nat:=0
def PySem.W.Fast.tw4593672309214471971:Nat:=0
def PySem.W.Fast.tw5366105863697388409:Nat:=0
def PySem.W.Fast.tw12142846524762465588:Nat:=0
def PySem.W.Fast.tw16013270088213053831:Nat:=0
def PySem.W.Fast.tw8838489840085942829:Nat:=0
def PySem.W.Fast.tw14655266512932411865:Nat:=0
def PySem.W.Fast.tw4960216877772058459:Nat:=0
def PySem.W.Fast.tw9519669137489895752:Nat:=0
def PySem.W.Fast.tw6161614604319729577:Nat:=0
def PySem.W.Fast.tw1706816856360415894:Nat:=0
def PySem.W.Fast.tw13464082582613738416:Nat:=0
def PySem.W.Fast.tw14934757285608905557:Nat:=0
def PySem.W.Fast.tw8458545742344396560:Nat:=0
def PySem.W.Fast.tw3705082073097800726:Nat:=0
def PySem.W.Fast.tw12097437375363819394:Nat:=0
def PySem.W.Fast.tw6134897255857924983:Nat:=0
def PySem.W.Fast.tw4963694871277864583:Nat:=0
def PySem.W.Fast.tw17511138864758239544:Nat:=0
def PySem.W.Fast.tw4006679451646372276:Nat:=0
def PySem.W.Fast.tw13839342938634962369:Nat:=0
def PySem.W.Fast.tw10424963623005994817:Nat:=0
def PySem.W.Fast.tw10930325582044109944:Nat:=0
def PySem.W.Fast.tw4778776200264603307:Nat:=0
def PySem.W.Fast.tw8989110237857924876:Nat:=0
def PySem.W.Fast.tw9543635911360352196:Nat:=0
open PySem PySem.W PyProof.Rows
set_option maxRecDepth 100000 in
set_option maxHeartbeats 0 in
theorem PySem.Challenge.cw_slitview_k31_whole_needed_holds : PySem.Challenge.rw_slitview_k31_whole_needed.Holds := by
 w_on; o_law; k_head; (case hw=>w_witness2)
 k_fill
 refine' K31.Pr (l:=PySem.Challenge.rw_slitview_k31_whole_needed) rfl rfl rfl (fun w h Y=>⟨PySem.W.km_in_of Y,PySem.W.km_tabs_of Y _ (by simp)⟩) ?T
 case T =>
  intro w
  refine' { yaJ:=?yaJ,ya6:=?ya6,ya7:=?ya7,ya5:=?ya5,ya4:=?ya4,k_Seeker:=?k_Seeker,ya0:=?ya0,yaZ:=?yaZ,yat:=?yat,yay:=?yay,yau:=?yau,yaA:=?yaA,yaC:=?yaC,yax:=?yax,yaB:=?yaB,yaD:=?yaD,yar:=?yar,yav:=?yav,yaz:=?yaz,yas:=?yas,yaw:=?yaw,yan:=?yan,yao:=?yao,yak:=?yak,yap:=?yap,yah:=?yah,yam:=?yam,yal:=?yal,yai:=?yai,yaf:=?yaf,yaj:=?yaj,yaH:=?yaH,yaI:=?yaI,yag:=?yag,yaE:=?yaE,yaG:=?yaG,yaF:=?yaF,yaq:=?yaq,yaL:=?yaL,yaM:=?yaM,yaN:=?yaN,yaO:=?yaO,yaP:=?yaP,yaQ:=?yaQ,yaR:=?yaR,yaS:=?yaS,yaT:=?yaT,yaU:=?yaU,yaV:=?yaV,yaW:=?yaW,yaX:=?yaX,yaY:=?yaY,ya8:=?ya8,ya9:=?ya9,yba:=?yba,ybb:=?ybb,yae:=?yae,yac:=?yac,yab:=?yab,yaa:=?yaa,yad:=?yad,ck:=?ck,z_Seeker_best:=?z_Seeker_best }
  (case yae=>k_is)
  (case yac=>k_is)
  (case yab=>k_is)
  (case yaa=>k_is)
  (case yad=>k_is)
  (case yaJ=>refine' Pu.Pf ?zm ?zi ?zn ?zp ?zl ?zc ?zk; (case zm=>k_is); (case zi=>k_is); (case zn=>k_is); (case zp=>k_is); (case zl=>k_is); (case zc=>k_is); (case zk=>k_is))
  (case ya6=>refine' Pu.Ps ?yi ?yn ?yl ?yc ?yk; (case yi=>k_is); (case yn=>k_is); (case yl=>k_is); (case yc=>k_is); (case yk=>k_is))
  (case ya7=>refine' Pu.Ps ?yi ?yn ?yl ?yc ?yk; (case yi=>k_is); (case yn=>k_is); (case yl=>k_is); (case yc=>k_is); (case yk=>k_is))
  (case ya5=>refine' Pu.Ps ?yi ?yn ?yl ?yc ?yk; (case yi=>k_is); (case yn=>k_is); (case yl=>k_is); (case yc=>k_is); (case yk=>k_is))
  (case ya4=>refine' Pu.Ps ?yi ?yn ?yl ?yc ?yk; (case yi=>k_is); (case yn=>k_is); (case yl=>k_is); (case yc=>k_is); (case yk=>k_is))
  (case k_Seeker=>refine' L2.Cls.mk ?xp ?xh ?xo ?xs; (case xp=>k_is); (case xh=>k_is); (case xo=>k_is); (case xs=>k_is))
  (case ya0=>unfold L2.iH; k_is)
  (case yaZ=>unfold L2.iH; k_is)
  (case yat=>and_intros)
  (case yay=>and_intros)
  (case yau=>and_intros)
  (case yaA=>and_intros)
  (case yaC=>and_intros)
  (case yax=>and_intros)
  (case yaB=>and_intros)
  (case yaD=>and_intros)
  (case yar=>and_intros)
  (case yav=>and_intros)
  (case yaz=>and_intros)
  (case yas=>and_intros)
  (case yaw=>and_intros)
  (case yan=>and_intros)
  (case yao=>and_intros)
  (case yak=>and_intros)
  (case yap=>and_intros)
  (case yah=>and_intros)
  (case yam=>and_intros)
  (case yal=>and_intros)
  (case yai=>and_intros)
  (case yaf=>and_intros)
  (case yaj=>and_intros)
  (case yaH=>and_intros)
  (case yaI=>and_intros)
  (case yag=>and_intros)
  (case yaE=>and_intros)
  (case yaG=>and_intros)
  (case yaF=>and_intros)
  (case yaq=>and_intros)
  (case yaL=>k_is)
  (case yaM=>k_is)
  (case yaN=>k_is)
  (case yaO=>k_is)
  (case yaP=>k_is)
  (case yaQ=>k_is)
  (case yaR=>k_is)
  (case yaS=>k_is)
  (case yaT=>k_is)
  (case yaU=>k_is)
  (case yaV=>k_is)
  (case yaW=>k_is)
  (case yaX=>k_is)
  (case yaY=>k_is)
  (case ya8=>refine' Pu.Pl ?e; (case e=>k_is))
  (case ya9=>refine' Pu.Pq ?e; (case e=>k_is))
  (case yba=>refine' Pu.Pq ?e; (case e=>k_is))
  (case ybb=>refine' Pu.Pq ?e; (case e=>k_is))
  (case ck=>kernel_rfl)
  (case z_Seeker_best=>refine⟨?u1,?u2,?u3⟩; (case u1=>kernel_rfl); (case u2=>kernel_rfl); (case u3=>kernel_rfl))
