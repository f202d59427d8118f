import PyProof.Rows.All
import Wide.All
import OpenK.AllK
import Wide.FinOn
import Lean
import PyProof.EqAt
import PyProof.EqKinds
import PyProof.TupleCall
import KE.KIntText
import KE.KDictList
import KE.KDictSum
import PyProof.Rows.Range3
import PyProof.DictWalks
import KE.KMinKey
import KE.KSortTup
import PyProof.EnumStmt
import PyProof.EnumMake
import PyProof.EnumFor
import PyProof.Draws
import PyProof.Rows.TupDisplay
import PyProof.Rows.SumAny
import KE.LcSums
import PyProof.FString5
import PyProof.WalkInts
import KE.KDictLaws
import PySem.Challenge.RW_slitview_k32_whole_asked_best
noncomputable section
set_option compiler.extract_closed false
local macro_rules | `(tactic| eq_refl) => `(tactic| first | exact Or.inl rfl | exact Or.inr (Or.inl rfl) | exact Or.inr (Or.inr rfl))
local macro_rules | `(∅) => `(by first | lia | omega)
set_option Elab.async false
set_option bootstrap.genMatcherCode false
set_option genSizeOf false
set_option linter.all false
set_option maxRecDepth 100000
local macro_rules | `(tactic| ac_nf) => `(tactic| exact ⟨rfl,rfl,rfl,by decide +kernel,rfl,by decide +kernel,by decide +kernel⟩)
open Option renaming some->aa,none->ae,bind_some->hV,map_some->oa,map_eq_some_iff->wc,bind_eq_some_iff->zU,map_eq_none_iff->z0,getD_none->Es,getD_some->ES
open PySem renaming Addr->ac,Value->ah,Shared->am,wpAny_bind->au,wpAny->aw,Expr->ay,model->az,Heap->aC,eval->aK,starEach->aL,wpAny_pure->aN,World->aR,Stmt->aU,Around->aX,Program->aY,sizeLine->bc,mainGlobals->bP,backTo->ce,Scope->dm,compareOp->dJ,rawInt->dO,bindArgs->dP,bootBuiltins->d3,wpAny_mono->eF,cellsFrom->fc,NameKind->fL,FuncData->gb,swapsWith->gD,attributeBase->g7,binaryOp->iX,mem_of_lookup->i3,SetTable->i5,strKind->i6,Paired->jO,sysModules->jP,Keyword->jV,argBest->jY,codeAny->ku,isTrue->lK,wpAny_truthy_bool->lL,backToKw->lO,keywordEach->lP,IsPart->lQ,wpAny_holding->lR,wpAny_newObj_type->lS,setNext->lV,setField->lW,builtinsNs->mC,pyIter->mD,foldedSetIterable->mE,codeAny_builtin->mK,behindInMarks->nX,getItem->n4,plainId_quiet->n_,holding->pL,wpAny_passesOwn->pM,wpAny_field->pP,sliceBounds->pQ,valueAt->pU,callerA->pV,wpAny_pyIter_list->pW,relayAll->pZ,wpAny_setState_of->p4,wpAny_askSetting->p6,tupleKind->sA,codeAmong->sB,assignEach->sD,sizeLine_eq->sE,getMethod->sF,codeAny_mono->sH,Arguments->sJ,pickOrder->sP,wpAny_setField->sQ,wpAny_tryCatch->sU,PassesOwn->v8,wpAny_Call_Name_kw->v_,wpAny_call_entry->wa,setsByText->wm,wpAny_ite_split->wn,wpAny_execs_nil->zo,letOwnedTupleGo->zq,recursionLimit->zu,subscripted->zy,tupleKind_room_in1->zD,wpAny_seqItems->zM,wpAny_letGo->zW,Within->Eh
open Bool renaming true->ai,false->aj,and_eq_true->ef,false_ne_true->eZ,eq_iff_iff->mF,or_eq_true->n6,false_eq_true->wj,false_xor->zZ
open PySem.W renaming Frag->ar,nsIn->cX,fnOf->fG,mg_of->gd,findIn->gC,kitOne->iD,mg_none_of->i7,keepIn->kx,kia_one->kA,emptyDict->mG,instObj->nV,codeIn->pO,excIn->p_,isFn->v9,codeHdIn->wd,lookIn->zr,plainGet->zt,OpenLaw->zE,kla_obj->zV,methodObj->Ei,hasDictIn->Em,plainGet_of->En,callWith_K->Ep
open Nat renaming le_refl->bd,ne_of_lt->cN,le_trans->cO,lt_irrefl->dZ,lt_of_lt_of_le->eR,zero_le->g6,ne_of_gt->iB,lt_succ_self->iY,lt_succ_of_lt->jo,le_of_lt->kt,le_of_eq->lN,zero_add->p9,le_succ->sI,add_right_comm->sS,add_assoc->sT,lt_or_ge->wv,lt_trans->zC,lt_of_le_of_lt->zF,sub_self->zS,min_eq_left->zX,min_eq_right->ER,pow_le_pow_right->EU
open PySem.Heap renaming get?_push_of_some->bi,lt_size->bo,get?_push_size->cm,SameBut->jQ,get?_update_other->pT,get?_update_self->p0,size_push->sG,get?_none_of_le->Ej
open PySem.Str renaming ofString->bn,empty->jS
open List renaming mem_cons->bV,mem_map->b7,length_map->cf,range->cp,getElem?_eq_some_iff->cq,size_toArray->cu,getElem?_set_ne->cP,replicate->cY,getElem?_set_self->dw,getElem?_eq_getElem->eh,length_append->eG,mem_filter->eY,length_cons->e_,map_map->fe,map_cons->fK,find?_cons->gF,getElem?_append_left->g8,mem_singleton->g9,not_mem_nil->g_,mem_cons_of_mem->iA,lookup->iC,lookup_cons->iE,all_eq_true->iF,length_set->iG,nil_append->iH,mem_append_right->jR,nodup_cons->jT,getElem?_map->jU,foldl_cons->jX,length_pos_iff->jZ,any_eq_true->j0,append_nil->kB,length_nil->kD,map_congr_left->kE,mem_range->lH,mem_cons_self->lJ,any_cons->lU,length_drop->mJ,filter_map->mM,mem_append->nW,length->nY,getElem?_append_right->nZ,take_of_length_le->n5,dropLast->oh,length_take->pN,all_cons->pR,map_append->pY,getElem?_eq_none->p7,getD_eq_getElem?_getD->qa,flatMap_cons->qc,exists_cons_of_ne_nil->qe,filterMap_cons->sC,length_singleton->sK,lookup_append->sL,range_succ->sM,eq_nil_of_length_eq_zero->sN,append_assoc->sO,ext_getElem?->sR,all_map->we,getD->wg,mem_of_mem_take->wo,filter_eq_self->wp,map_id'->wu,ne_nil_of_mem->ww,range_succ_eq_map->zG,drop_zero->zH,getElem_mem->zJ,foldl_append->zK,drop_eq_getElem_cons->zO,drop_length->zP,length_dropLast->zT,drop_of_length_le->zY,find?_eq_none->z5,mem_of_find?_eq_some->z6,any_eq_false->El,replicate_succ->Eu,drop_append_of_le_length->Ew,length_range->Ex,nodup_append->EA,cons_append->ED,length_eq_zero_iff->EF,flatMap_nil->EG,mem_of_mem_drop->EH,filter_flatMap->EI,filter_cons->EJ,filter_eq_nil_iff->EK,count_eq_zero_of_not_mem->EL,count_append->EM,length_filter_le->EN,isEmpty_nil->EO,flatMap_append->ET,take_succ_eq_append_getElem->N8
open Option.some renaming inj->dY
open Ne renaming symm->eE
open PyProof.Rows renaming envOfC->fD,StrsAre->gc,size_push'->i4,seqObj->jW,AllBare->lI,get?_update_seq->zN,slot_tuple_getitem->N5
open False renaming elim->iZ
open PySem.Obj renaming mapSeq->kC,mapFields->og,data_mapFields->zQ,isFreed_of_fields->EC
open PySem.PassesOwn renaming never->kF
open Int renaming toNat_natCast->mH,emod_lt_of_pos->EQ
open Function renaming comp->mL
open PySem.Heap.SameBut renaming update->n8
open PySem.Around renaming under_plainId->n9
open PySem.Walks renaming list->pX
open PySem.SetTable renaming grown->p5,below->N7
open Iff renaming rfl->p8
open PySem.F renaming plain_min_loop->qb,excBase_ValueError->sV,slot_dict_get->Ev,plainAttrs_list->EB,entry_min_loop->EE
open List.cons renaming injEq->qd
open PySem.Value renaming isStrOf->sy
open PySem.SeqAt renaming EqAt->wb
open Array renaming getElem?_eq_some_iff->wf,length_toList->zj,getElem?_eq_getElem->zL
open PySem.Calls renaming spliced_cons->zv,callWith_builtin->zz,evalArgs_plain->zA,spliced_nil->Eo
open PySem.Builtin.Slice renaming slicePlaces->zw,sliceAdjust->Er
open PySem.Builtin.Tuple renaming tupleExact->zx
open PySem.Paired renaming snoc->zB
open List.Perm renaming refl->zI
open Nat.succ renaming inj->zR
open PySem.Builtin.Str renaming occurrences->Ek
open PySem.Builtin.List renaming listTooLong->Et
open PyProof.Rows.F renaming plain_set_update_loop->Ey,entry_set_update_loop->N6
open PySem.SetTable.below renaming go->Ez
open PySem PySem.Spec PyProof.Rows
namespace L2
abbrev aM:=Sum Int Str
def o_:aM->ah->Bool
 |.inl k,v=>Value.isInt k v
 |.inr x,v=>sy x v
def NH(w:aR):aM->Int
 |.inl k=>hashInt k
 |.inr x=>hashStr w x
theorem lD:∀{k:aM}{v:ah},o_ k v=ai->(∃i t,k=Sum.inl i/\v=Value.int i t)\/(∃x t,k=Sum.inr x/\v=Value.str x t)
 |.inl i,v,h=>by obtain⟨t,e⟩:=Value.isInt_shape (k:=i) (v:=v) h;exact .inl ⟨i,t,rfl,e⟩
 |.inr x,v,h=>by obtain⟨t,e⟩:=Value.isStrOf_shape (x:=x) (v:=v) h;exact .inr ⟨x,t,rfl,e⟩
theorem Gb(i:Int)(t:Tok):o_ (.inl i) (.int i t)=ai:=by simp[o_,Value.isInt]
theorem Lq(x:Str)(t:Tok):o_ (.inr x) (.str x t)=ai:=by simp[o_,sy]
theorem MZ(a b:Int):decide ((Sum.inl a:aM)=Sum.inl b)=(a == b):=by
 by_cases e:a=b
 .subst e;simp
 .have h:¬(Sum.inl a:aM)=Sum.inl b:=λq=>e (Sum.inl.inj q);rw[decide_eq_false h];exact(beq_eq_false_iff_ne.mpr e).symm
theorem Nf(a b:Str):decide ((Sum.inr a:aM)=Sum.inr b)=decide (a=b):=by
 by_cases e:a=b
 .subst e;simp
 .have h:¬(Sum.inr a:aM)=Sum.inr b:=λq=>e (Sum.inr.inj q);rw[decide_eq_false h,decide_eq_false e]
theorem Hf(a:Int)(b:Str):decide ((Sum.inl a:aM)=Sum.inr b)=aj:=decide_eq_false (λq=>nomatch q)
theorem HF(a:Str)(b:Int):decide ((Sum.inr a:aM)=Sum.inl b)=aj:=decide_eq_false (λq=>nomatch q)
def gu(c:aY)(w:aR):PySem.KeyKind c w aM where
 is:=o_
 hash:=NH w
 inj:=λv a b l f=>by
  rcases lD l with⟨i,t,rfl,rfl⟩|⟨x,t,rfl,rfl⟩
  .rcases lD f with⟨j,u,rfl,e⟩|⟨y,u,rfl,e⟩
   .injection e with e1 _;rw[e1]
   .exact nomatch e
  .rcases lD f with⟨j,u,rfl,e⟩|⟨y,u,rfl,e⟩
   .exact nomatch e
   .injection e with e1 _;rw[e1]
 byValue:=λk v h=>by rcases lD h with⟨i,t,rfl,rfl⟩|⟨x,t,rfl,rfl⟩ <;> rfl
 pyHash:=λd h=>by
  rcases lD d with⟨i,t,rfl,rfl⟩|⟨x,t,rfl,rfl⟩
  .exact wpAny_pyHash_int h
  .exact wpAny_pyHash_str h
 eqBool:=λg d h=>by
  rcases lD g with⟨i,t,rfl,rfl⟩|⟨x,t,rfl,rfl⟩
  .rcases lD d with⟨j,u,rfl,rfl⟩|⟨y,u,rfl,rfl⟩
   .rw[MZ]at h;exact wpAny_eqBool_int h
   .rw[Hf]at h;exact SeqAt.EqAt.int_str i t y u _ _ _ _ h
  .rcases lD d with⟨j,u,rfl,rfl⟩|⟨y,u,rfl,rfl⟩
   .rw[HF]at h;exact SeqAt.EqAt.str_int x t j u _ _ _ _ h
   .rw[Nf]at h;exact wpAny_eqBool_str h
 «strs»:=λk x t v h=>by
  rcases lD h with⟨i,u,rfl,e⟩|⟨y,u,rfl,e⟩
  .exact nomatch e
  .injection e with e1 _;subst e1;cases v <;> rfl
theorem Fv(a:aY)(w:aR)(i:Int)(t:Tok):(gu a w).is (.inl i) (.int i t)=ai:=Gb i t
theorem HG(a:aY)(w:aR)(x:Str)(t:Tok):(gu a w).is (.inr x) (.str x t)=ai:=Lq x t
inductive V where
 |non|bl (b:Bool)|int (i:Int)|str (x:Str)|byt (b:Array UInt8)|flt (b:UInt64)|ref (a:ac)|ty (n:String)
 deriving DecidableEq
def RelV:V->ah->Prop
 |.non,u=>u=Value.none
 |.bl b,u=>u=Value.bool b
 |.int i,u=>∃t,u=Value.int i t
 |.str x,u=>∃t,u=Value.str x t
 |.byt b,u=>∃t,u=Value.bytes b t
 |.flt b,u=>∃t,u=Value.float b t
 |.ref a,u=>u=Value.ref a
 |.ty n,u=>u=Value.type n
abbrev bq:List V->List ah->Prop:=jO RelV
theorem bq.length{xs:List V}{a:List ah}(r:bq xs a):xs.length=a.length:=Paired.length r
theorem bq.get:∀{a:List V}{b:List ah}{i:Nat}{x:V},bq a b->a[i]?=aa x->∃u,b[i]?=aa u/\RelV x u
 |_,_,_,_,.nil,e=>by simp at e
 |_,_,0,_,.cons r _,e=>by simp at e;subst e;exact⟨_,rfl,r⟩
 |_,_,i+1,x,.cons _ t,e=>by obtain⟨u,d,c⟩:=bq.get (i:=i) (x:=x) t (by simpa using e);exact⟨u,by simpa using d,c⟩
theorem bq.append:∀{b a:List V}{d c:List ah},bq b d->bq a c->bq (b++a) (d++c)
 |_,_,_,_,.nil,s=>s
 |_,_,_,_,.cons r t,s=>.cons r (bq.append t s)
theorem bq.take:∀{a:List V}{b:List ah} (n:Nat),bq a b->bq (a.take n) (b.take n)
 |_,_,0,_=>.nil
 |_,_,_+1,.nil=>.nil
 |_,_,n+1,.cons r t=>.cons r (bq.take n t)
theorem bq.drop:∀{xs:List V}{a:List ah} (n:Nat),bq xs a->bq (xs.drop n) (a.drop n)
 |_,_,0,r=>r
 |_,_,_+1,.nil=>.nil
 |_,_,n+1,.cons _ t=>bq.drop n t
def kr:Option V->Option ah->Prop
 |some v,aa u=>RelV v u
 |none,ae=>True
 |_,_=>False
def KV{a:Type}:List (a×V)->List (a×ah)->Prop:=jO λ(p:a×V) (q:a×ah)=>p.1=q.1/\RelV p.2 q.2
def kV:aM->V
 |.inl i=>.int i
 |.inr x=>.str x
inductive HO where
 |lst (xs:List V)
 |tup (xs:List V)
 |dK (kvs:List (aM×V))|dT (kvs:List (List aM×V))|dN (kvs:List ((Str×List Str)×V))
 |set (S:Int->Bool) (n:Nat)
 |ins (C dx:ac) (fs:List (Str×V))
 |own (x:ac)
 |xd (fs:List (Str×V))
 |met (f x:ac)
 |rng (lo hi:Int)
 |frz (o:Obj) (u:HO)
 |tbl (q:Str)
 |ext (φ:aC->Prop)
abbrev Hp:=ac->Option HO
def upd(H:Hp)(a:ac)(o:HO):Hp:=λb=>if b=a then aa o else H b
theorem cg{H:Hp}{a:ac}{o:HO}:upd H a o a=aa o:=by unfold upd;rw[if_pos rfl]
theorem bF{H:Hp}{a b:ac}{o:HO}(h:b≠a):upd H a o b=H b:=by unfold upd;rw[if_neg h]
theorem FL{H:Hp}{a b:ac}{o u:HO}(h:H a=aa o)(c:H b=aa u)(d:o≠u):a≠b:=by intro e;subst e;rw[h]at c;exact d (dY c)
theorem ma{H:Hp}{a b:ac}{o:HO}(h:H a=aa o)(c:H b=ae):a≠b:=by
 intro e;subst e;rw[h]at c;cases c
def Ef(h:aC)(a:ac)(b:Array ah):Prop:=IsTup h a b/\∃o,h.get? a=aa o/\o.dict=ae
theorem Ef.new(h:aC)(its:Array ah):Ef (h.push {cls:=.type "tuple",data:=.seq its}) h.objs.size its:=⟨IsTup.new _ _,_,cm _ rfl,rfl⟩
section
variable(P:aY)(w:aR)
def GN(k:Str×List Str):Int:=reduceHash (Builtin.Tuple.tupleHashOf [hashStr w k.1,reduceHash (Builtin.Tuple.tupleHashOf (k.2.map (hashStr w)))])
def Hi(H:Hp)(k:Str×List Str)(a:ac):Prop:=∃b,H a=aa (.tup [.str k.1,.ref b])/\H b=aa (.tup (k.2.map .str))
def cZ(H:Hp)(h:aC)(a:ac):HO->Prop
 |.lst d=>d.length<=bc/\∃(g:List ah) (n:Nat),bq d g/\h.get? a=aa {cls:=.type "list",data:=.seq g.toArray n}
 |.tup d=>d.length<=bc/\∃g:List ah,bq d g/\Ef h a g.toArray
 |.dK b=>b.length<=bc/\(a == jP)=aj/\∃A,KV b A/\h.DictOf (gu P w) a A
 |.dT b=>b.length<=bc/\(a == jP)=aj/\∃d:List (List aM×ac×ah),
   jO (λ(p:List aM×V) (q:List aM×ac×ah)=>p.1=q.1/\H q.2.1=aa (.tup (p.1.map kV))/\RelV p.2 q.2.2) b d /\
   ∃o j y,h.get? a=aa o/\o.ExactDict/\o.data=.dict j y/\j.toList=d.map (entryOfKey (sA (gu P w)))/\(d.map (·.1)).Nodup
 |.dN b=>b.length<=bc/\(a == jP)=aj/\∃d:List ((Str×List Str)×ac×ah),
   jO (λ(p:(Str×List Str)×V) (q:(Str×List Str)×ac×ah)=>p.1=q.1/\Hi H p.1 q.2.1/\RelV p.2 q.2.2) b d /\
   ∃o j y,h.get? a=aa o/\o.ExactDict/\o.data=.dict j y/\j.toList=d.map (λx=>⟨GN w x.1,.ref x.2.1,x.2.2⟩)/\(d.map (·.1)).Nodup
 |.set S n=>h.SetOf (intKind P w) a S n
 |.ins C l fs=>H l=aa (.own a)/\fs.length<=1000/\l≠a/\h.get? a=aa (nV C l) /\
   ∃i,h.Ns1 l i/\(∀f,kr (fs.lookup f) (i f))/\Eh i (fs.map (·.1))
 |.own _=>∃o,h.get? a=aa o
 |.xd fs=>∃i,h.Ns1 a i/\∀f,kr (fs.lookup f) (i f)
 |.rng E F=>∃t u v,h.get? a=aa {cls:=.type "range",data:=.fields #[.int E t,.int F u,.int 1 v]}
 |.frz o u=>h.get? a=aa o/\cZ H h a u
 |.tbl q=>∃r:Array ah,h.get? a=aa {cls:=.none,data:=.fields r}/\TriplesOk r.toList/\∀s z,sB s r.toList=aa z->∃c,z=.ref c/\H c=aa (.own a)/\h.CodeRec z q
 |.met f x=>h.get? a=aa (Ei (.ref f) (.ref x))
 |.ext m=>m h/\(∃o,h.get? a=aa o)/\∀D B:aC,m D->(∀o,D.get? a=aa o->B.get? a=aa o)->m B
def c_(H:Hp)(h:aC):Prop:=∀a o,H a=aa o->cZ P w H h a o
end
section
variable{P:aY}{w:aR}{H i:Hp}{h h':aC}{a:ac}{o:HO}
theorem cZ.lt(x:cZ P w H h a o):a<h.objs.size:=by
 cases o with
 |lst c=>obtain⟨_,_,_,_,e⟩:=x;exact bo e
 |tup c=>obtain⟨_,_,_,p,_⟩:=x;exact p.lt
 |dK b=>obtain⟨_,_,_,_,o,_,_,e,_⟩:=x;exact bo e
 |dT b=>obtain⟨_,_,_,_,o,_,_,e,_⟩:=x;exact bo e
 |dN b=>obtain⟨_,_,_,_,o,_,_,e,_⟩:=x;exact bo e
 |set S n=>obtain⟨o,_,_,_,e,_⟩:=x;exact bo e
 |ins C m fs=>obtain⟨_,_,_,e,_⟩:=x;exact bo e
 |own y=>obtain⟨_,e⟩:=x;exact bo e
 |xd fs=>obtain⟨_,⟨_,_,_,e,_⟩,_⟩:=x;exact bo e
 |rng j l=>obtain⟨_,_,_,e⟩:=x;exact bo e
 |frz g u=>obtain⟨e,_⟩:=x;exact bo e
 |tbl q=>obtain⟨_,e,_⟩:=x;exact bo e
 |met f y=>exact bo (show h.get? a=aa _ from x)
 |ext d=>obtain⟨_,⟨_,e⟩,_⟩:=x;exact bo e
theorem Paired.mapP{j g:Type}{F G:j->g->Prop}:∀{d:List j}{c:List g},jO F d c->(∀a b,F a b->G a b)->jO G d c
 |_,_,.nil,_=>.nil
 |_,_,.cons r t,f=>.cons (f _ _ r) (Paired.mapP t f)
theorem cZ.stay(x:cZ P w H h a o)(k:∀b u,(b=a\/H b=aa (.own a))->h.get? b=aa u->h'.get? b=aa u)(K:∀b,H b=aa (.own a)->i b=aa (.own a)) (I:∀b xs,H b=aa (.tup xs)->i b=aa (.tup xs)):cZ P w i h' a o:=by
 induction o with
 |lst xs=>obtain⟨z,s,n,r,e⟩:=x;exact⟨z,s,n,r,k _ _ (.inl rfl) e⟩
 |tup xs=>obtain⟨z,s,r,⟨j,e,c⟩,O,B,L⟩:=x;exact⟨z,s,r,⟨j,k _ _ (.inl rfl) e,c⟩,O,k _ _ (.inl rfl) B,L⟩
 |dK A=>obtain⟨z,y,E,r,j,l,m,e,c⟩:=x;exact⟨z,y,E,r,j,l,m,k _ _ (.inl rfl) e,c⟩
 |dT A=>obtain⟨z,y,xs,r,j,l,m,e,c⟩:=x;exact⟨z,y,xs,Paired.mapP r λp q z=>⟨z.1,I _ _ z.2.1,z.2.2⟩,j,l,m,k _ _ (.inl rfl) e,c⟩
 |dN A=>obtain⟨z,y,xs,r,j,l,m,e,c⟩:=x;exact⟨z,y,xs,Paired.mapP r λp q z=>⟨z.1,(let ⟨b,D,h2⟩:=z.2.1;⟨b,I _ _ D,I _ _ h2⟩),z.2.2⟩,j,l,m,k _ _ (.inl rfl) e,c⟩
 |set S n=>obtain⟨j,l,m,t,e,c⟩:=x;exact⟨j,l,m,t,k _ _ (.inl rfl) e,c⟩
 |ins C dx fs=>obtain⟨d,z,Q,e,G,⟨F,l,m,B,c⟩,r⟩:=x;exact⟨K _ d,z,Q,k _ _ (.inl rfl) e,G,⟨F,l,m,k _ _ (.inr d) B,c⟩,r⟩
 |own y=>obtain⟨j,e⟩:=x;exact⟨j,k _ _ (.inl rfl) e⟩
 |xd fs=>obtain⟨G,⟨F,l,m,e,c⟩,r⟩:=x;exact⟨G,⟨F,l,m,k _ _ (.inl rfl) e,c⟩,r⟩
 |rng lo hi=>obtain⟨t,u,v,e⟩:=x;exact⟨t,u,v,k _ _ (.inl rfl) e⟩
 |frz j u T=>obtain⟨e,q⟩:=x;exact⟨k _ _ (.inl rfl) e,T q⟩
 |tbl q=>
  obtain⟨N,e,t,g⟩:=x;refine⟨N,k a _ (.inl rfl) e,t,λpos Y W=>?_⟩;obtain⟨c,rfl,D,L,o,E,M,B,X,r⟩:=g pos Y W;cases B;exact⟨c,rfl,K c D,c,o,E,M,rfl,k c _ (.inr D) X,r⟩
 |met f y=>have e:h.get? a=aa (Ei (.ref f) (.ref y)):=x;show h'.get? a=aa (Ei (.ref f) (.ref y));exact k a _ (.inl rfl) e
 |ext Z=>obtain⟨p,⟨o,e⟩,J⟩:=x;exact⟨J _ _ p λo q=>k _ _ (.inl rfl) q,⟨o,k _ _ (.inl rfl) e⟩,J⟩
theorem c_.lt(x:c_ P w H h)(e:H a=aa o):a<h.objs.size:=(x a o e).lt
theorem c_.fresh(x:c_ P w H h)(e:h.objs.size<=a):H a=ae:=by
 cases q:H a with
 |none=>rfl
 |some u=>exact absurd (eR (x.lt q) e) (dZ _)
theorem c_.kept(x:c_ P w H h)(k:∀b u,h.get? b=aa u->h'.get? b=aa u):c_ P w H h':=λa o e=>(x a o e).stay (λb u _ q=>k b u q) (λ_ q=>q) λ_ _ q=>q
theorem c_.laid(x:c_ P w H h)(k:∀b u,h.get? b=aa u->h'.get? b=aa u)(g:h.objs.size<=a)(new:cZ P w (upd H a o) h' a o):c_ P w (upd H a o) h':=λb u e=>by
 have d:=x.fresh g;by_cases f:b=a
 .subst f;rw[cg]at e;cases e;exact new
 .rw[bF f]at e;exact(x b u e).stay (λc v _ q=>k c v q) (λc q=>by rw[bF (ma q d)];exact q) λc j q=>by rw[bF (ma q d)];exact q
end
def Rd(H:Hp)(a:ac)(u:HO):Prop:=H a=aa u\/∃o,H a=aa (.frz o u)
theorem Rd.ok{P:aY}{w:aR}{H:Hp}{h:aC}{a:ac}{u:HO}(r:Rd H a u)(x:c_ P w H h):cZ P w H h a u:=by
 rcases r with r|⟨o,r⟩
 .exact x a u r
 .obtain⟨_,q⟩:=x a _ r;exact q
def rh:Option HO->Prop
 |some (.lst _)=>True
 |some (.dK _)=>True
 |some (.dT _)=>True
 |some (.dN _)=>True
 |some (.set _ _)=>True
 |some (.ins _ _ _)=>True
 |some (.ext _)=>True
 |_=>False
section
variable{P:aY}{w:aR}{H:Hp}{h a:aC}{x e:ac}{d:HO}
theorem c_.write(ok:c_ P w H h)(j:rh (H x))(p:e=x\/H e=aa (.own x))(k:∀b u,b≠e->h.get? b=aa u->a.get? b=aa u)(s:∃u,a.get? e=aa u)(new:cZ P w (upd H x d) a x d):c_ P w (upd H x d) a:=λb u q=>by
 have f:∀c y,H c=aa (.own y)->c≠x:=λc y r z=>by subst z;rw[r]at j;exact j
 have g:∀c i,H c=aa (.tup i)->c≠x:=λc i r z=>by subst z;rw[r]at j;exact j
 by_cases n:b=x
 .subst n;rw[cg]at q;cases q;exact new
 .rw[bF n]at q;by_cases l:b=e
  .have o:H b=aa (.own x):=by
    rcases p with z|z
    .exact absurd (l.trans z) n
    .rw[l];exact z
   rw[q]at o;cases o;obtain⟨v,A⟩:=s;exact⟨v,by rw[l];exact A⟩
  .refine(ok b u q).stay (λc v m r=>k c v ?_ r) (λc r=>by rw[bF (f c b r)];exact r) λc i r=>by rw[bF (g c i r)];exact r
   rcases m with rfl|m
   .exact l
   .rintro rfl;rcases p with z|z
    .exact f c b m z
    .rw[m]at z;cases z;exact n rfl
end
structure Un(fs ex:List ac)(H H':Hp)(h h':aC):Prop where
 keep:∀b o,h.get? b=aa o->H b=ae->b∉fs->b∉ex->h'.get? b=aa o
 slot:∀b o,h.get? b=aa o->H b=ae->b∈fs->b∉ex->∃sl,h'.get? b=aa {o with slots:=sl}
 free:∀b o,h.get? b=aa o->H b=ae->b∉ex->H' b=ae
 there:∀b o,h.get? b=aa o->b∉ex->∃o',h'.get? b=aa o'
 tups:∀b xs,H b=aa (.tup xs)->H' b=aa (.tup xs)
 frzs:∀b o u,H b=aa (.frz o u)->H' b=aa (.frz o u)
 tbls:∀b q,H b=aa (.tbl q)->H' b=aa (.tbl q)/\∀c o,H c=aa (.own b)->h.get? c=aa o->h'.get? c=aa o/\H' c=aa (.own b)
section
variable{fs f ex i:List ac}{H j m:Hp}{h d l h':aC}{a x e:ac}{o:HO}
theorem Un.any(u:Un fs ex H j h d){b:ac}{c:Obj}(q:h.get? b=aa c)(n:H b=ae)(g:b∉ex):∃r,d.get? b=aa {c with slots:=r}:=by
 by_cases p:b∈fs
 .exact u.slot b c q n p g
 .exact⟨c.slots,u.keep b c q n p g⟩
theorem Un.kept(k:∀b u,h.get? b=aa u->h'.get? b=aa u):Un fs ex H H h h' :=⟨λb p q _ _ _=>k b p q,λb p q _ _ _=>⟨p.slots,k b p q⟩,λ_ _ _ n _=>n,λb p q _=>⟨p,k b p q⟩,λ_ _ q=>q,λ_ _ _ q=>q,λ_ _ q=>⟨q,λc o e g=>⟨k c o g,e⟩⟩⟩
theorem Un.refl:Un fs ex H H h h:=Un.kept λ_ _ q=>q
theorem Un.laid(k:∀b u,h.get? b=aa u->h'.get? b=aa u)(w:h.objs.size<=a)(p:H a=ae):Un fs ex H (upd H a o) h h' where
 keep:=λb u q _ _ _=>k b u q
 slot:=λb u q _ _ _=>⟨u.slots,k b u q⟩
 free:=λb u q n _=>by rw[bF (cN (eR (bo q) w))];exact n
 there:=λb u q _=>⟨u,k b u q⟩
 tups:=λb s q=>by rw[bF (ma q p)];exact q
 frzs:=λb u s q=>by rw[bF (ma q p)];exact q
 tbls:=λb y q=>⟨by rw[bF (ma q p)];exact q,λc v r g=>⟨k c v g,by rw[bF (ma r p)];exact r⟩⟩
theorem Un.write(p:rh (H x))(A:e=x\/H e=aa (.own x))(k:∀b u,b≠e->h.get? b=aa u->h'.get? b=aa u)(D:∃u,h'.get? e=aa u):Un fs ex H (upd H x o) h h':=by
 have y:∀b,H b=ae->b≠x:=λb n z=>by subst z;rw[n]at p;exact p
 have B:∀b,H b=ae->b≠e:=λb n z=>by
  subst z;rcases A with r|r
  .exact y b n r
  .rw[n]at r;cases r
 have s:∀b u,H b=aa u->¬rh (aa u)->b≠x:=λb u q F z=>by subst z;rw[q]at p;exact F p
 refine⟨λb u q n _ _=>k b u (B b n) q,λb u q n _ _=>⟨u.slots,k b u (B b n) q⟩,λb u q n _=>by rw[bF (y b n)];exact n,λb u q _=>?_,
  λb C q=>by rw[bF (s b _ q λz=>z)];exact q,λb u C q=>by rw[bF (s b _ q λz=>z)];exact q,λb G q=>⟨by rw[bF (s b _ q λz=>z)];exact q,λc E v g=>⟨k c E (by
   rintro rfl;rcases A with r|r
   .exact s c _ v (λz=>z) r
   .rw[v]at r;cases r;rw[q]at p;exact p) g,by rw[bF (s c _ v λz=>z)];exact v⟩⟩⟩
 by_cases w:b=e
 .subst w;exact D
 .exact⟨u,k b u w q⟩
end
def vn(h:aC)(H:Hp):List ac:=(cp h.objs.size).filter λa=>(H a).isSome
def lh(h:aC)(H:Hp):aC:=PySem.W.hideAll h (vn h H)
theorem E9(h:aC)(H:Hp):(lh h H).objs.size=h.objs.size:=PySem.W.hideAll_size _ _
theorem Ju{h:aC}{H:Hp}{b:ac}{o:Obj}(e:h.get? b=aa o)(n:H b=ae):(lh h H).get? b=aa o :=PySem.W.hideAll_get _ e λa=>by have q:(H b).isSome=ai:=(eY.mp a).2;rw[n]at q;simp at q
theorem N3{h:aC}{H:Hp}{b:ac}{o:Obj}(e:(lh h H).get? b=aa o):h.get? b=aa o/\H b=ae:=by
 have a:h.get? b=aa o:=PySem.W.of_hideAll (vn h H) e;refine⟨a,?_⟩;cases q:H b with
 |none=>rfl
 |some x=>
  have c:b∈vn h H:=eY.mpr ⟨lH.mpr (bo a),by simp[q]⟩;have z:(lh h H).get? b=ae:=PySem.W.hideAll_none (vn h H) c;rw[z]at e;cases e
def K_(g h:aC)(L:ac):List (ac×Obj):=(cp h.objs.size).filterMap λa=>if a=L\/(g.get? a).isSome=ai then ae else(h.get? a).map λo=>(a,o)
def rest(g h:aC)(L d:ac):List (ac×Obj):=(K_ g h L).filter λp=>decide (p.1≠d)
structure Mod(K:ar)(mg:Str->Option ah)(base:aC):Prop where
 kin:K.In base
 glob:base.Ns bP mg
 blt:∃mb,base.Ns mC mb/\∀x:Str,x≠"__name__"->mb x=d3 x
 nolimit:base.NoLimit
 bm:∃bm ob,mg "__builtins__"=aa (.ref bm)/\bm≠mC/\base.get? bm=aa ob/\ob.cls=.type "module"/\ob.dict=aa mC/\ob.data=.plain
set_option genInjectivity false in
structure Cx where
 prog:aY
 w:aR
 K:ar
 mg:Str->Option ah
 base:aC
 A:aX
 N:List Str
 s₀:am
 H₀:Hp
 env:Env
 outer:List Env
 stack:List Env
 ex:List ac
 fn:Str->Bool
 calm:Bool
 pn:List (ac×Obj)
 xe:ah->am->Prop
def eV(l:List Env):List ac:=l.filterMap (·.frame)
abbrev Cx.fs(X:Cx):List ac:=eV X.outer
def dR(a:dm)(x:Str):Prop:=a.names.lookup x=aa .local\/a.names.lookup x=aa .cell\/a.names.lookup x=aa .free
def Loc(a:dm)(x:Str):Prop:=a.names.lookup x=aa .local\/a.names.lookup x=aa .cell
def Look(a:Env)(h:aC)(m:Str->Option ah)(x:Str)(u:ah):Prop :=(a.kindOf x=aa .local/\m x=aa u)\/((a.kindOf x=aa .cell\/a.kindOf x=aa .free)/\∃c,a.cells.lookup x=aa c/\h.IsCell c (aa u))
def ji(K:ar)(_:Str):Option (ac×ac):=match cX K bP "Seeker" with
 |some (aa (.ref C))=>(match gC K (.ref C) "best" with
  |some (aa (.ref f))=>(match K.lookup f with
   |some ⟨_,_,.func b,_⟩=>(match b.code with
    |.ref c=>(match K.lookup c with
     |some ⟨_,_,.fields a,_⟩=>(match (a[11]?:Option ah)with
      |some (.ref P)=>aa (c,P)
      |_=>ae)
     |_=>ae)
    |_=>ae)
   |_=>ae)
  |_=>ae)
 |_=>ae
def sh:List Str:=["Seeker.best"]
def uj(K:ar)(H:Hp):Prop:=∀x∈sh,∀c P,ji K x=aa (c,P)->H P=aa (.tbl (x++".<locals>.<lambda>"))
set_option genInjectivity false in
structure Cx.Ok(X:Cx):Prop where
 mod:Mod X.K X.mg X.base
 kind:X.env.scope.kind=.function
 glob:X.env.globals=bP
 blt:X.env.builtins=mC
 above:X.s₀.heap.objs.size<=X.env.locals
 inj:∀x y c,X.env.cells.lookup x=aa c->X.env.cells.lookup y=aa c->x=y
 has:∀x,(X.env.kindOf x=aa .cell\/X.env.kindOf x=aa .free)->∃c,X.env.cells.lookup x=aa c
 cab:∀x c,X.fn x=ai->X.env.cells.lookup x=aa c->X.s₀.heap.objs.size<=c
 hd:X.calm=ai->X.A.handled=ae
 frames:X.A.frames=aa X.stack
 stk:X.stack=X.outer\/(X.stack=X.env::X.outer/\X.env.frame=aa X.env.locals)
 exf:∀b∈X.ex,b≠X.env.locals/\∀x c,X.env.cells.lookup x=aa c->c≠b
 bs:∀b o,X.base.get? b=aa o->X.s₀.heap.get? b=aa o/\X.H₀ b=ae
 bsz:X.base.objs.size<=X.s₀.heap.objs.size
 noex:∀b o,X.base.get? b=aa o->b∉X.ex
 exfs:∀b∈X.ex,b∉X.fs
 funs:X.s₀.heap.FunFrames X.base X.outer
 frf:∀b∈X.fs,X.H₀ b=ae
 tab:uj X.K X.H₀
structure Inv(X:Cx)(af:List (ac×Obj))(σ:List (Option V))(H:Hp)(s:am):Prop where
 ok:X.Ok
 os:s.os=X.s₀.os
 bare:lI s.gens
 base:Un X.fs X.ex X.H₀ H X.s₀.heap s.heap
 loc:∃m,s.heap.Ns X.env.locals m/\∀(i:Nat) (x:Str) (v:V),X.N[i]?=aa x->σ[i]?=aa (aa v)->dR X.env.scope x->∃u,RelV v u/\Look X.env s.heap m x u
 cell:∀x c,X.env.cells.lookup x=aa c->∃v,s.heap.IsCell c v
 free:H X.env.locals=ae
 freeC:∀x c,X.env.cells.lookup x=aa c->H c=ae
 pin:∀p∈X.pn++af,s.heap.get? p.1=aa p.2/\H p.1=ae/\p.1≠X.env.locals/\p.1∉X.fs/\∀v,p.2.data≠.cell v
 hok:c_ X.prog X.w H s.heap
 len:σ.length=X.N.length
section
variable{X:Cx}{f:List (ac×Obj)}{σ:List (Option V)}{H w:Hp}{s:am}{h':aC}
theorem Cx.Ok.nofr(ok:X.Ok){b:ac}{o:Obj}(e:X.base.get? b=aa o):b∉X.fs:=λa=>by
 have:=(ok.funs.mem a).1;rw[e]at this;cases this
theorem Inv.bs(I:Inv X f σ H s):∀b o,X.base.get? b=aa o->s.heap.get? b=aa o/\H b=ae:=λb o e=>⟨I.base.keep b o (I.ok.bs b o e).1 (I.ok.bs b o e).2 (I.ok.nofr e) (I.ok.noex b o e),I.base.free b o (I.ok.bs b o e).1 (I.ok.bs b o e).2 (I.ok.noex b o e)⟩
theorem Inv.bk(I:Inv X f σ H s):∀b o,X.base.get? b=aa o->s.heap.get? b=aa o:=λb o e=>(I.bs b o e).1
theorem Inv.mod(I:Inv X f σ H s):Mod X.K X.mg X.base:=I.ok.mod
theorem Inv.kIn(I:Inv X f σ H s):X.K.In s.heap:=I.ok.mod.kin.keeps I.bk
theorem Inv.nolimit(I:Inv X f σ H s):s.heap.NoLimit:=I.ok.mod.nolimit.keeps I.bk
theorem Inv.lt(I:Inv X f σ H s):X.env.locals<s.heap.objs.size:=let ⟨_,hn,_⟩:=I.loc;hn.lt
theorem Inv.sz(I:Inv X f σ H s):X.s₀.heap.objs.size<=s.heap.objs.size:=cO I.ok.above (kt I.lt)
theorem Inv.nofs(I:Inv X f σ H s){a:ac}(h:s.heap.objs.size<=a):a∉X.fs:=λc=>by obtain⟨_,o,b,_⟩:=I.ok.funs.mem c;exact absurd (eR (bo b) (cO I.sz h)) (dZ _)
theorem Inv.cne(I:Inv X f σ H s):∀x c,X.env.cells.lookup x=aa c->c≠X.env.locals:=λx c e z=>by
 obtain⟨v,o,a,b⟩:=I.cell x c e;obtain⟨m,⟨h,i,j,g,d,_⟩,_⟩:=I.loc;rw[z,g]at a;cases a;rw[d]at b;cases b
theorem Inv.tab(I:Inv X f σ H s):uj X.K H:=λx a c P h=>(I.base.tbls P _ (I.ok.tab x a c P h)).1
theorem Inv.funs(I:Inv X f σ H s):s.heap.FunFrames X.base X.outer:=by
 have all:∀(l:List Env),(∀b∈eV l,b∈X.fs)->X.s₀.heap.FunFrames X.base l->s.heap.FunFrames X.base l:=by
  intro l
  induction l with
  |nil=>intro _ _;trivial
  |cons u r h=>intro g n;obtain⟨p,⟨L,o,a,m,j,q⟩,i⟩:=n;have d:L∈X.fs:=g L (by unfold eV;rw[sC,a];exact lJ);obtain⟨v,e⟩:=I.base.slot L o j (I.ok.frf L d) d λz=>I.ok.exfs L z d;exact⟨p,⟨L,_,a,m,e,q⟩,h (λb c=>g b (by unfold eV;rw[sC,a];exact iA _ c)) i⟩
 exact all X.outer (λ_ c=>c) I.ok.funs
theorem Inv.stack(I:Inv X f σ H s):s.heap.FunFrames X.base X.stack:=by
 rcases I.ok.stk with e|⟨e,b⟩
 .rw[e];exact I.funs
 .rw[e];obtain⟨m,a,_⟩:=I.loc;refine .cons (by rw[I.ok.kind];decide) b a ?_ I.funs;exact Ej (cO I.ok.bsz I.ok.above)
theorem Inv.stkSub(I:Inv X f σ H s):∀b∈eV X.stack,b∈X.env.locals::X.fs:=λb a=>by
 rcases I.ok.stk with e|⟨e,c⟩
 .rw[e]at a;exact iA _ a
 .rw[e]at a;unfold eV at a;rw[sC,c]at a;exact a
theorem Inv.stkFree(I:Inv X f σ H s):∀b∈eV X.stack,H b=ae:=λb a=>by
 rcases bV.mp (I.stkSub b a)with e|a
 .rw[e];exact I.free
 .obtain⟨_,o,c,_⟩:=I.ok.funs.mem a;exact I.base.free b o c (I.ok.frf b a) λz=>I.ok.exfs b z a
theorem Inv.step{g':Array GenState}{t':Nat}{d':Drawn}{ch:List ac}(I:Inv X f σ H s)(O:∀b∈ch,(b∈X.ex\/X.s₀.heap.objs.size<=b)/\b≠X.env.locals/\(∀x c,X.env.cells.lookup x=aa c->c≠b)/\∀p∈X.pn++f,p.1≠b)(j:∀b o,b≠X.env.locals->b∉X.fs->b∉ch->s.heap.get? b=aa o->H b=ae->h'.get? b=aa o)(D:∀b o,b≠X.env.locals->b∈X.fs->b∉ch->s.heap.get? b=aa o->H b=ae->∃T,h'.get? b=aa {o with slots:=T}) (free:∀b o,b∉ch->s.heap.get? b=aa o->H b=ae->w b=ae)(E:∀b o,b∉ch->s.heap.get? b=aa o->∃M,h'.get? b=aa M)(L:∀b B,H b=aa (.tup B)->w b=aa (.tup B)) (P:∀b o u,H b=aa (.frz o u)->w b=aa (.frz o u)) (C:∀b q,H b=aa (.tbl q)->w b=aa (.tbl q)/\∀c o,H c=aa (.own b)->s.heap.get? c=aa o->h'.get? c=aa o/\w c=aa (.own b))(ns:∀m,s.heap.Ns X.env.locals m->h'.Ns X.env.locals m) (W:c_ X.prog X.w w h') (hg:lI g'):Inv X f σ w {s with heap:=h',gens:=g',drawn:=d',toks:=t'}:=by
 have N:∀b o,X.s₀.heap.get? b=aa o->b≠X.env.locals:=λb o e=>cN (eR (bo e) I.ok.above);have A:∀b o,X.s₀.heap.get? b=aa o->b∉X.ex->b∉ch:=λb o e a F=>by
  rcases(O b F).1 with z|z
  .exact a z
  .exact absurd (eR (bo e) z) (dZ _)
 have y:∀x c,X.env.cells.lookup x=aa c->∀v,s.heap.IsCell c v->h'.IsCell c v:=λx c e v ⟨o,J,Y⟩=>by
  have h:c∉ch:=λz=>(O c z).2.2.1 x c e rfl;by_cases hc:c∈X.fs
  .obtain⟨T,q⟩:=D c o (I.cne x c e) hc h J (I.freeC x c e);exact⟨_,q,Y⟩
  .exact⟨o,j c o (I.cne x c e) hc h J (I.freeC x c e),Y⟩
 refine⟨I.ok,I.os,hg,⟨λb o e n F a=>?_,λb o e n F a=>?_,λb o e n a=>?_,λb o e a=>?_,λb B e=>L b B (I.base.tups b B e),λb o B e=>P b o B (I.base.frzs b o B e),λb Q e=>?_⟩,?_,λx c e=>?_,?_,λx c e=>?_,λp hp=>?_,W,I.len⟩
 .exact j b o (N b o e) F (A b o e a) (I.base.keep b o e n F a) (I.base.free b o e n a)
 .obtain⟨T,G⟩:=I.base.slot b o e n F a;obtain⟨S,K⟩:=D b _ (N b o e) F (A b o e a) G (I.base.free b o e n a);exact⟨S,K⟩
 .obtain⟨M,G⟩:=I.base.there b o e a;exact free b M (A b o e a) G (I.base.free b o e n a)
 .obtain⟨M,G⟩:=I.base.there b o e a;exact E b M (A b o e a) G
 .exact⟨(C b _ (I.base.tbls b Q e).1).1,λc o K g=>(C b _ (I.base.tbls b Q e).1).2 c o ((I.base.tbls b Q e).2 c o K g).2 ((I.base.tbls b Q e).2 c o K g).1⟩
 .obtain⟨m,hn,hl⟩:=I.loc;refine⟨m,ns m hn,λi x v G K e3=>?_⟩;obtain⟨u,r,l⟩:=hl i x v G K e3;refine⟨u,r,?_⟩;rcases l with l|⟨k,c,e,z⟩
  .exact .inl l
  .exact .inr ⟨k,c,e,y x c e _ z⟩
 .obtain⟨v,z⟩:=I.cell x c e;exact⟨v,y x c e v z⟩
 .obtain⟨m,⟨o,_,_,J,_⟩,_⟩:=I.loc;exact free _ o (λz=>(O _ z).2.1 rfl) J I.free
 .obtain⟨v,o,J,Y⟩:=I.cell x c e;exact free c o (λz=>(O c z).2.2.1 x c e rfl) J (I.freeC x c e)
 .obtain⟨e,n,ne,Z,d⟩:=I.pin p hp;have h:p.1∉ch:=λz=>(O p.1 z).2.2.2 p hp rfl;exact⟨j p.1 p.2 ne Z h e n,free p.1 p.2 h e n,ne,Z,d⟩
theorem Inv.un{t':Nat}(I:Inv X f σ H s)(u:Un X.fs [] H w s.heap h')(a:c_ X.prog X.w w h'):Inv X f σ w {s with heap:=h',toks:=t'}:=by
 obtain⟨m,⟨o,y,A,h,r⟩,_⟩:=id I.loc;obtain⟨q,p⟩:=u.any h I.free (by simp);exact I.step (g':=s.gens) (d':=s.drawn) (ch:=[]) (λ_ z=>nomatch z) (λb o _ c _ e n=>u.keep b o e n c (by simp)) (λb o _ c _ e n=>u.slot b o e n c (by simp)) (λb o _ e n=>u.free b o e n (by simp)) (λb o _ e=>u.there b o e (by simp)) u.tups u.frzs u.tbls (λx l=>by
  obtain⟨v,d,g,i,j⟩:=l;rw[h]at i;cases i;exact⟨_,d,g,p,j⟩) a I.bare
theorem Inv.call{g':Array GenState}{t':Nat}{d':Drawn}{ch:List ac}(I:Inv X f σ H s)(u:Un (eV X.stack) ch H w s.heap h')(d:c_ X.prog X.w w h')(A:lI g')(j:∀b∈ch,(b∈X.ex\/X.s₀.heap.objs.size<=b)/\b≠X.env.locals/\(∀x c,X.env.cells.lookup x=aa c->c≠b)/\∀p∈X.pn++f,p.1≠b):Inv X f σ w {s with heap:=h',gens:=g',drawn:=d',toks:=t'}:=by
 obtain⟨m,⟨o,F,G,l,r⟩,_⟩:=id I.loc;obtain⟨C,g⟩:=u.any l I.free λz=>(j _ z).2.1 rfl;exact I.step (ch:=ch) j (λb o g B a e n=>u.keep b o e n (λz=>(bV.mp (I.stkSub b z)).elim g B) a) (λb o _ _ a e n=>u.any e n a) (λb o a e n=>u.free b o e n a) (λb o a e=>u.there b o e a) u.tups u.frzs u.tbls (λE y=>by
  obtain⟨D,h,i,q,v⟩:=y;rw[l]at q;cases q;exact⟨_,h,i,g,v⟩) d A
theorem Inv.turned{t':Nat}{it:ac}(I:Inv X f σ H s)(k:∀b o,b≠it->s.heap.get? b=aa o->h'.get? b=aa o)(l:H it=ae)(h:it≠X.env.locals)(D:it∈X.ex\/X.s₀.heap.objs.size<=it) (C:∀x c,X.env.cells.lookup x=aa c->c≠it) (B:∀p∈X.pn++f,p.1≠it):Inv X f σ H {s with heap:=h',toks:=t'}:=by
 have a:∀b u,H b=aa u->b≠it:=λb u e z=>by rw[z,l]at e;cases e
 refine I.step (g':=s.gens) (d':=s.drawn) (ch:=[it]) (λb A=>?_) (λb o _ _ d e _=>k b o (λz=>d (by simp[z])) e) (λb o _ _ d e _=>⟨o.slots,k b o (λz=>d (by simp[z])) e⟩) (λ_ _ _ _ n=>n)
  (λb o d e=>⟨o,k b o (λz=>d (by simp[z])) e⟩) (λ_ _ e=>e) (λ_ _ _ e=>e) (λ_ _ e=>⟨e,λc o i g=>⟨k c o (a c _ i) g,i⟩⟩) (λm y=>?_) (λb u e=>?_) I.bare
 .have e:b=it:=by simpa using A
  subst e;exact⟨D,h,C,B⟩
 .obtain⟨o,E,F,j,r⟩:=y;exact⟨o,E,F,k _ o (eE h) j,r⟩
 .refine(I.hok b u e).stay (λc v d q=>k c v ?_ q) (λ_ q=>q) λ_ _ q=>q;rcases d with z|z
  .rw[z];exact a b u e
  .exact a c _ z
theorem Inv.tok(I:Inv X f σ H s)(t:Nat):Inv X f σ H {s with toks:=t}:=I.un (h':=s.heap) (t':=t) Un.refl I.hok
theorem Inv.kept{t':Nat}(I:Inv X f σ H s)(k:∀b u,s.heap.get? b=aa u->h'.get? b=aa u):Inv X f σ H {s with heap:=h',toks:=t'}:=I.un (Un.kept k) (I.hok.kept k)
theorem Inv.laid{a:ac}{o:HO}{t':Nat}(I:Inv X f σ H s)(k:∀b u,s.heap.get? b=aa u->h'.get? b=aa u)(c:s.heap.objs.size<=a)(new:cZ X.prog X.w (upd H a o) h' a o):Inv X f σ (upd H a o) {s with heap:=h',toks:=t'}:=I.un (Un.laid k c (I.hok.fresh c)) (I.hok.laid k c new)
theorem Inv.write{x e:ac}{o:HO}{g:Nat}(I:Inv X f σ H s)(c:rh (H x))(d:e=x\/H e=aa (.own x))(k:∀b u,b≠e->s.heap.get? b=aa u->h'.get? b=aa u)(a:∃u,h'.get? e=aa u)(new:cZ X.prog X.w (upd H x o) h' x o):Inv X f σ (upd H x o) {s with heap:=h',toks:=g}:=I.un (Un.write c d k a) (I.hok.write c d k a new)
theorem Inv.pins_of{a:List (ac×Obj)}(I:Inv X f σ H s)(h:∀p∈a,s.heap.get? p.1=aa p.2/\H p.1=ae/\p.1≠X.env.locals/\p.1∉X.fs/\∀v,p.2.data≠.cell v):Inv X a σ H s :=⟨I.ok,I.os,I.bare,I.base,I.loc,I.cell,I.free,I.freeC,λp b=>(nW.mp b).elim (λz=>I.pin p (List.mem_append_left _ z)) (h p),I.hok,I.len⟩
theorem AG{N:List Str}(c:N.Nodup){i j:Nat}{x:Str}(a:N[i]?=aa x)(b:N[j]?=aa x):i=j:=by obtain⟨l,g⟩:=cq.mp a;obtain⟨h,d⟩:=cq.mp b;exact(List.getElem_inj c).mp (g.trans d.symm)
theorem Dd{M:Model}{A:aX}{E:ah->am->Prop}{i:Nat}{x:Str}{v:V}{u:ah}{Q:Unit->am->Prop}(I:Inv X f σ H s)(hN:X.N.Nodup)(S:X.N[i]?=aa x)(G:Loc X.env.scope x)(r:RelV v u)(h:∀s',Inv X f (σ.set i (aa v)) H s'->(∃a,jQ a s.heap s'.heap/\(a=X.env.locals\/X.env.cells.lookup x=aa a))->Q () s') (hf:X.fn x=ai\/X.env.scope.names.lookup x=aa .local:=by first|exact .inl rfl|exact .inr rfl|assumption):aw M A (storeName X.env x u) Q E s:=by
 obtain⟨m,hn,hl⟩:=id I.loc;have z9:(X.env.scope.kind == .class||(X.env.scope.kind == .module&&X.env.locals != X.env.globals))=aj:=by rw[I.ok.kind];rfl
 have L:i<σ.length:=by rw[I.len];exact(cq.mp S).1
 have cne:=I.cne;have C:∀{a:ac}{h':aC},(∃o,s.heap.get? a=aa o/\H a=ae)->jQ a s.heap h'->c_ X.prog X.w H h':=λ{a h'} ha B b ob e=>by
  obtain⟨_,_,oi⟩:=ha;refine(I.hok b ob e).stay (λc T F q=>(B.2 c ?_).trans q) (λ_ q=>q) λ_ _ q=>q;rintro rfl;rcases F with rfl|F
  .rw[oi]at e;cases e
  .rw[oi]at F;cases F
 rcases G with K|K
 .refine wpAny_storeName_local K hn (λh' hn' B=>?_) z9;obtain⟨oL,_,_,tf,_⟩:=id hn;refine h _ ⟨I.ok,I.os,I.bare,⟨λb o e n O G=>?_,λb o e n O G=>?_,I.base.free,λb o e G=>?_,I.base.tups,I.base.frzs,λb q e=>⟨(I.base.tbls b q e).1,λc o D g=>⟨(B.2 c (λz=>by have l:=((I.base.tbls b q e).2 c o D g).2;rw[z,I.free]at l;cases l)).trans ((I.base.tbls b q e).2 c o D g).1,((I.base.tbls b q e).2 c o D g).2⟩⟩⟩,⟨_,hn',λj y Y l D e3=>?_⟩,λy c e=>?_,I.free,I.freeC,λp hp=>?_,C ⟨oL,tf,I.free⟩ B,by simpa using I.len⟩ ⟨_,B,.inl rfl⟩
  .exact(B.2 b (cN (eR (bo e) I.ok.above))).trans (I.base.keep b o e n O G)
  .obtain⟨sl,l⟩:=I.base.slot b o e n O G;exact⟨sl,(B.2 b (cN (eR (bo e) I.ok.above))).trans l⟩
  .obtain⟨o',l⟩:=I.base.there b o e G;exact⟨o',(B.2 b (cN (eR (bo e) I.ok.above))).trans l⟩
  .by_cases N:j=i
   .subst N;rw[S]at l;cases l;rw[dw L]at D;cases D;exact⟨u,r,.inl ⟨K,by simp⟩⟩
   .rw[cP (eE N)]at D;obtain⟨Z,r',q⟩:=hl j y Y l D e3;refine⟨Z,r',?_⟩;rcases q with⟨k,e⟩|⟨k,c,e,z⟩
    .refine .inl ⟨k,?_⟩;have:y≠x:=λe=>N (AG hN l (e ▸ S));simp[this,e]
    .exact .inr ⟨k,c,e,z.sameBut B (cne y c e)⟩
  .obtain⟨T,z⟩:=I.cell y c e;exact⟨T,z.sameBut B (cne y c e)⟩
  .obtain⟨e,n,W,nf,d⟩:=I.pin p hp;exact⟨(B.2 p.1 W).trans e,n,W,nf,d⟩
 .have ti:X.fn x=ai:=by
   rcases hf with z|z
   .exact z
   .rw[z]at K;cases K
  obtain⟨c,F⟩:=I.ok.has x (.inl K);obtain⟨T,z⟩:=I.cell x c F;refine wpAny_storeName_cell I.ok.kind K F z (λh' fW B=>?_);obtain⟨oc,ol,P⟩:=id z;refine h {s with heap:=h'} ⟨I.ok,I.os,I.bare,⟨λb o e n O G=>?_,λb o e n O G=>?_,I.base.free,λb o e G=>?_,I.base.tups,I.base.frzs,λb q e=>⟨(I.base.tbls b q e).1,λJ o D g=>⟨(B.2 J (λz=>by have l:=((I.base.tbls b q e).2 J o D g).2;rw[z,I.freeC x c F]at l;cases l)).trans ((I.base.tbls b q e).2 J o D g).1,((I.base.tbls b q e).2 J o D g).2⟩⟩⟩,⟨m,hn.sameBut B (eE (cne x c F)),λj y Y l D e3=>?_⟩,λy J e=>?_,I.free,I.freeC,λp hp=>?_,C ⟨oc,ol,I.freeC x c F⟩ B,by simpa using I.len⟩ ⟨c,B,.inr F⟩
  .exact(B.2 b (cN (eR (bo e) (I.ok.cab x c ti F)))).trans (I.base.keep b o e n O G)
  .obtain⟨sl,l⟩:=I.base.slot b o e n O G;exact⟨sl,(B.2 b (cN (eR (bo e) (I.ok.cab x c ti F)))).trans l⟩
  .obtain⟨o',l⟩:=I.base.there b o e G;exact⟨o',(B.2 b (cN (eR (bo e) (I.ok.cab x c ti F)))).trans l⟩
  .by_cases N:j=i
   .subst N;rw[S]at l;cases l;rw[dw L]at D;cases D;exact⟨u,r,.inr ⟨.inl K,c,F,fW⟩⟩
   .rw[cP (eE N)]at D;obtain⟨Z,r',q⟩:=hl j y Y l D e3;refine⟨Z,r',?_⟩;rcases q with q|⟨k,J,e,z'⟩
    .exact .inl q
    .refine .inr ⟨k,J,e,z'.sameBut B ?_⟩;rintro rfl;exact N (AG hN l (I.ok.inj _ _ _ e F ▸ S))
  .by_cases kJ:J=c
   .subst kJ;exact⟨_,fW⟩
   .obtain⟨w2,z2⟩:=I.cell y J e;exact⟨w2,z2.sameBut B kJ⟩
  .obtain⟨e,n,W,nf,d⟩:=I.pin p hp;refine⟨(B.2 p.1 ?_).trans e,n,W,nf,d⟩;intro q;rw[q,ol]at e;have q':oc=p.2:=dY e;exact d T (by rw[<-q'];exact P)
theorem CW{M:Model}{A:aX}{E:ah->am->Prop}{i:Nat}{x:Str}{v:V}{u:ah}{Q:Unit->am->Prop}(I:Inv X f σ H s)(g:X.N.Nodup)(c:X.N[i]?=aa x)(b:Loc X.env.scope x)(r:RelV v u)(h:∀a,Inv X f (σ.set i (aa v)) H a->Q () a) (d:X.fn x=ai\/X.env.scope.names.lookup x=aa .local:=by first|exact .inl rfl|exact .inr rfl|assumption):aw M A (storeName X.env x u) Q E s :=Dd I g c b r (λa j _=>h a j) d
theorem Inv.call'{s':am}{ch:List ac}(I:Inv X f σ H s)(h:s'.os=s.os)(u:Un (eV X.stack) ch H w s.heap s'.heap)(a:c_ X.prog X.w w s'.heap)(i:lI s'.gens)(g:∀b∈ch,(b∈X.ex\/X.s₀.heap.objs.size<=b)/\b≠X.env.locals/\(∀x c,X.env.cells.lookup x=aa c->c≠b)/\∀p∈X.pn++f,p.1≠b):Inv X f σ w s':=by obtain⟨h',g',d',t',d⟩:=s';have e:d=s.os:=h;subst e;exact I.call (g':=g') (t':=t') (d':=d') u a i g
end
abbrev XK:=ah->Option ac->Hp->Prop
abbrev St:=List (Option V)
abbrev VK:=V->Hp->Prop
abbrev TE:=St->Hp->VK->Prop
abbrev TT:=St->Hp->(Bool->Hp->Prop)->Prop
abbrev TA:=St->Hp->(List V->Hp->Prop)->Prop
structure jC where
 nx:St->Hp->Prop
 rt:VK
 bk:St->Hp->Prop:=λ_ _=>False
 ct:St->Hp->Prop:=λ_ _=>False
abbrev TS:=jC->St->Hp->Prop
def EP(X:Cx)(d:List (ac×Obj))(b:St)(Q:VK)(u:ah)(c:am):Prop:=∃v a,Inv X d b a c/\RelV v u/\Q v a
def TP(X:Cx)(f:List (ac×Obj))(c:St)(Q:Bool->Hp->Prop)(b:Bool)(d:am):Prop:=∃a,Inv X f c a d/\Q b a
def AP(X:Cx)(g:List (ac×Obj))(c:St)(Q:List V->Hp->Prop)(d:List ah)(f:am):Prop:=∃a b,Inv X g c b f/\bq a d/\Q a b
def SP(X:Cx)(c:List (ac×Obj))(D:jC)(f:Flow)(s':am):Prop :=
 match f with
 |.next=>∃a b,Inv X c a b s'/\D.nx a b
 |.brk=>∃a b,Inv X c a b s'/\D.bk a b
 |.cont=>∃a b,Inv X c a b s'/\D.ct a b
 |.ret u=>∃v a b,Inv X c a b s'/\RelV v u/\D.rt v b
def PE(X:Cx)(e:ay)(t:TE):Prop :=
 ∀(b:List (ac×Obj)) (s:am) (a:St) (H:Hp) (Q:VK),Inv X b a H s->t a H Q->aw (az X.prog X.w) X.A (aK e X.env) (EP X b a Q) X.xe s
def PT(X:Cx)(e:ay)(t:TT):Prop :=
 ∀(b:List (ac×Obj)) (s:am) (a:St) (H:Hp) (Q:Bool->Hp->Prop),Inv X b a H s->t a H Q->aw (az X.prog X.w) X.A (lK e X.env (aK e X.env)) (TP X b a Q) X.xe s
def PW(X:Cx)(e:ay)(t:TT):Prop :=
 ∀(c:Sem ah) (b:List (ac×Obj)) (s:am) (a:St) (H:Hp) (Q:Bool->Hp->Prop),Inv X b a H s->t a H Q->aw (az X.prog X.w) X.A (lK e X.env c) (TP X b a Q) X.xe s
def PA(X:Cx)(d:List ay)(t:TA):Prop :=
 ∀(b:Pos) (c:List (ac×Obj)) (s:am) (a:St) (H:Hp) (Q:List V->Hp->Prop),Inv X c a H s->t a H Q->aw (az X.prog X.w) X.A (spliced (ce b (aL d X.env))) (AP X c a Q) X.xe s
def PS(X:Cx)(c:aU)(t:TS):Prop :=
 ∀(b:List (ac×Obj)) (s:am) (a:St) (H:Hp) (D:jC),Inv X b a H s->t D a H->aw (az X.prog X.w) X.A (exec c X.env) (SP X b D) X.xe s
def jL(X:Cx)(c:List aU)(t:TS):Prop :=
 ∀(b:List (ac×Obj)) (s:am) (a:St) (H:Hp) (D:jC),Inv X b a H s->t D a H->aw (az X.prog X.w) X.A (execs c X.env) (SP X b D) X.xe s
theorem aT{b:Type}{t:Sem b}{Q c:b->am->Prop}{M:Model}{A:aX}{E:ah->am->Prop}{s:am}(h:aw M A t Q E s)(d:∀a s,Q a s->c a s):aw M A t c E s:=eF h d λ_ _ x=>x
section
variable{X:Cx}
def Dz(i:Nat):TE:=λa H Q=>∃v,a[i]?=aa (aa v)/\Q v H
def tC(v:V):TE:=λ_ H Q=>Q v H
theorem eC{i:Nat}{x:Str}{pos:Pos}(n:X.N[i]?=aa x)(f:dR X.env.scope x)(d:(x==("__debug__":Str))=aj:=by decide)(o:(x==("__classdict__":Str))=aj:=by decide):PE X (.Name x pos) (Dz i):=by
 intro p s σ H Q I h;obtain⟨v,e,h⟩:=h;obtain⟨m,g,j⟩:=I.loc;obtain⟨u,r,l⟩:=j i x v n e f;have b:EP X p σ Q u s:=⟨v,H,I,r,h⟩
 rcases l with⟨a,hm⟩|⟨a,c,hc,qf⟩
 .exact wpAny_Name (wpAny_loadName_local I.ok.kind a g hm b) d
 .rcases a with a|a
  .exact wpAny_Name (wpAny_loadName_cell I.ok.kind a hc qf b) d
  .exact wpAny_Name (wpAny_loadName_free I.ok.kind a hc qf b o) d
theorem Nh{i j pos}:PE X (.Constant (.int i) j pos) (tC (.int i)):=λ_ _ _ H _ I h=>wpAny_Constant_int ⟨.int i,H,I.tok _,⟨_,rfl⟩,h⟩
theorem KH{b j pos}:PE X (.Constant (.bool b) j pos) (tC (.bl b)):=λ_ _ _ H _ I h=>Constant_bool ⟨.bl b,H,I,rfl,h⟩
theorem K1{j pos}:PE X (.Constant .none j pos) (tC .non):=λ_ _ _ H _ I h=>Constant_none ⟨.non,H,I,rfl,h⟩
theorem JI{x j pos}:PE X (.Constant (.str x) j pos) (tC (.str x)):=λ_ _ _ H _ I h=>Calls.Constant_str ⟨.str x,H,I.tok _,⟨_,rfl⟩,h⟩
def Gl(X:Cx)(x:Str):Prop:=X.env.kindOf x=aa .globalImplicit
theorem vV{E:ah->am->Prop}{g:List (ac×Obj)}{s:am}{b:St}{H:Hp}{x:Str}{u:ah}{a:Pos}{Q:ah->am->Prop}(I:Inv X g b H s)(d:Gl X x)(c:X.mg x=aa u)(h:Q u s)(f:(x==("__debug__":Str))=aj:=by decide):aw (az X.prog X.w) X.A (aK (.Name x a) X.env) Q E s :=Calls.Name_function_global I.ok.kind d (Calls.loadGlobal_global (by rw[I.ok.glob];exact I.mod.glob.keeps I.bk) c h) f
theorem r8{E:ah->am->Prop}{m:List (ac×Obj)}{s:am}{b:St}{H:Hp}{x:Str}{u:ah}{a:Pos}{Q:ah->am->Prop}(I:Inv X m b H s)(g:Gl X x)(f:X.mg x=ae)(c:d3 x=aa u)(h:Q u s)(d:x≠"__name__":=by decide) (i:(x==("__debug__":Str))=aj:=by decide):aw (az X.prog X.w) X.A (aK (.Name x a) X.env) Q E s:=by obtain⟨n,l,j⟩:=I.mod.blt;exact Calls.Name_function_global I.ok.kind g (Calls.loadGlobal_builtin (by rw[I.ok.glob];exact I.mod.glob.keeps I.bk) f (by rw[I.ok.blt];exact l.keeps I.bk) ((j x d).trans c) h) i
theorem CS{x:Str}{v:V}{u:ah}{a:Pos}(c:Gl X x)(b:X.mg x=aa u)(r:RelV v u)(d:(x==("__debug__":Str))=aj:=by decide):PE X (.Name x a) (tC v) :=λ_ _ _ H _ I h=>vV I c b ⟨v,H,I,r,h⟩ d
theorem I0{x:Str}{v:V}{u:ah}{a:Pos}(f:Gl X x)(d:X.mg x=ae)(b:d3 x=aa u)(r:RelV v u)(c:x≠"__name__":=by decide)(g:(x==("__debug__":Str))=aj:=by decide):PE X (.Name x a) (tC v) :=λ_ _ _ H _ I h=>r8 I f d b ⟨v,H,I,r,h⟩ c g
variable{a b:ay}{f g:TE}{pos:Pos}
def PC(X:Cx)(j:CmpOp)(a b:ay)(t:TE):Prop :=
 ∀(i:List (ac×Obj)) (s:am) (h:St) (H:Hp) (Q:VK),Inv X i h H s->t h H Q ->
  aw (az X.prog X.w) X.A (aK a X.env) (λv d=>aw (az X.prog X.w) X.A (aK b X.env) (λu c=>aw (az X.prog X.w) X.A (dJ j v u) (EP X i h Q) X.xe c) X.xe d) X.xe s
theorem Nt(b:ay){c:CmpOp}(h:c≠.In)(d:c≠.NotIn):nX c b=aj:=by
 have j:(c == CmpOp.In)=aj:=by cases c <;> first|rfl|exact absurd rfl h
 have i:(c == CmpOp.NotIn)=aj:=by cases c <;> first|rfl|exact absurd rfl d
 cases b <;> simp[nX,j,i]
def tB(t:TE):TT:=λd H Q=>t d H λx h=>∃c,x=.bl c/\Q c h
theorem Mr{i:CmpOp}{t:TE}(h:PC X i a b t)(j:nX i b=aj:=by first|exact Nt _ (by decide) (by decide)|rfl):PT X (.Compare a [i] [b] pos) (tB t):=by
 intro r s l H Q I o;refine wpAny_isTrue_Compare1 (aT (h r s l H _ I o) λv B j=>aT j λu A p=>aT p λc z ⟨x,y,w,m,n⟩=>?_) j;obtain⟨d,rfl,q⟩:=n;cases m;exact lL ⟨y,w,q⟩
theorem L3{e:ay}{t:TE}(h:PE X e t)(n:∀c,lK e X.env c=(do let v <-c;standAt e.pos;pL [v] (truthy v)):=by intro _;rfl):PT X e (tB t):=by
 intro o s i H Q I m;refine isTrue_plain (aT (h o s i H _ I m) λv u ⟨x,r,p,j,l⟩=>?_) (n _);obtain⟨d,rfl,q⟩:=l;cases j;exact lL ⟨r,p,q⟩
variable{n o:TT}{rest:List ay}
def Gd(t u:TT):TT:=λd H Q=>t d H λc h=>if c=ai then Q ai h else u d h Q
def M4(t:TT):TT:=λd H Q=>t d H λc h=>Q (!c) h
theorem Jl(i:PT X a n):PW X (.BoolOp .Or [a] pos) n:=by
 intro l j s d H Q I h;refine isTrue_or (aT (i j s d H Q I h) λc m e=>?_);cases c with
 |false=>exact isTrue_or_nil e
 |true=>exact e
theorem KS(u:PT X a n)(r:PW X (.BoolOp .Or (b::rest) pos) o):PW X (.BoolOp .Or (a::b::rest) pos) (Gd n o):=by
 intro p j s d H Q I h;refine isTrue_or (aT (u j s d H _ I h) λc q ⟨m,l,i⟩=>?_);cases c with
 |true=>exact⟨m,l,i⟩
 |false=>exact r p j q d m Q l i
theorem G8(i:PT X a n):PT X (.UnaryOp .Not a pos) (M4 n):=by intro j s d H Q I h;exact isTrue_not (i j s d H (λc l=>Q (!c) l) I h)
def G2(f g:TE):TE:=λd H Q=>f d H λx h=>∃c,x=.bl c/\if c=ai then g d h Q else Q (.bl aj) h
def J7(f:TE):TE:=λd H Q=>f d H λx h=>∃c,x=.bl c/\Q (.bl (!c)) h
theorem Ic{op}{t:TE}(h:PE X a t):PE X (.BoolOp op [a] pos) t:=λi s c H Q I d=>BoolOp_one (h i s c H Q I d)
theorem Fi(u:PE X a f)(r:PE X (.BoolOp .And (b::rest) pos) g):PE X (.BoolOp .And (a::b::rest) pos) (G2 f g):=by
 intro j s i H Q I h;refine BoolOp_and (aT (u j s i H _ I h) λv p ⟨x,m,l,q,d⟩=>?_);obtain⟨c,rfl,d⟩:=d;cases q;refine lL ?_;cases c with
 |true=>exact r j p i m Q l d
 |false=>exact⟨.bl aj,m,l,rfl,d⟩
theorem Ml(l:PE X a f):PE X (.UnaryOp .Not a pos) (J7 f):=by
 intro m s i H Q I h;refine UnaryOp_ (aT (l m s i H _ I h) λv r ⟨x,q,p,j,d⟩=>?_);obtain⟨c,rfl,d⟩:=d;cases j;exact not_of (lL ⟨.bl (!c),q,p,rfl,d⟩)
def Jz(t:TT)(f g:TE):TE:=λd H Q=>t d H λc h=>if c=ai then f d h Q else g d h Q
theorem Jd{c:ay}(r:PT X c n)(v:PE X a f)(u:PE X b g):PE X (.IfExp c a b pos) (Jz n f g):=by
 intro j s i H Q I h;refine wpAny_IfExp (aT (r j s i H _ I h) λd l ⟨q,p,m⟩=>?_);cases d with
 |true=>exact v j l i q Q p m
 |false=>exact u j l i q Q p m
end
def b_(K:ar)(H:Hp)(a:ac)(xs:List V):Prop :=
 Rd H a (.lst xs) \/
  ∃(o:Obj) (b:Array ah) (n:Nat),K.lookup a=aa o/\o.cls=.type "list"/\o.dict=ae/\o.data=.seq b n/\b.size<=bc/\bq xs b.toList
def cM(K:ar)(H:Hp)(a:ac)(xs:List V):Prop :=
 Rd H a (.tup xs) \/
  ∃(o:Obj) (b:Array ah) (n:Nat),K.lookup a=aa o/\o.cls=.type "tuple"/\o.data=.seq b n/\b.size<=bc/\bq xs b.toList
def N4:ah->Option V
 |.none=>aa .non
 |.bool b=>aa (.bl b)
 |.int i _=>aa (.int i)
 |.str x _=>aa (.str x)
 |.bytes b _=>aa (.byt b)
 |.float b _=>aa (.flt b)
 |.ref a=>aa (.ref a)
 |.type n=>aa (.ty n)
 |_=>ae
theorem RelV.abs{x:V}{u:ah}(r:RelV x u):N4 u=aa x:=by
 cases x with
 |non=>cases r;rfl
 |bl _=>cases r;rfl
 |int _=>obtain⟨t,rfl⟩:=r;rfl
 |str _=>obtain⟨t,rfl⟩:=r;rfl
 |byt _=>obtain⟨t,rfl⟩:=r;rfl
 |flt _=>obtain⟨t,rfl⟩:=r;rfl
 |ref _=>cases r;rfl
 |ty _=>cases r;rfl
theorem RelV.inj{x y:V}{u:ah}(r:RelV x u)(q:RelV y u):x=y:=dY (r.abs.symm.trans q.abs)
theorem bq.inj:∀{b a:List V}{c:List ah},bq b c->bq a c->b=a
 |_,_,_,.nil,.nil=>rfl
 |_,_,_,.cons r t,.cons f d=>by rw[r.inj f,bq.inj t d]
section
variable{X:Cx}{c:List (ac×Obj)}{σ:St}{H:Hp}{s:am}{a:ac}{xs b:List V}
theorem b_.of{K:ar}(h:H a=aa (.lst xs)):b_ K H a xs:=.inl (.inl h)
theorem cM.of{K:ar}(h:H a=aa (.tup xs)):cM K H a xs:=.inl (.inl h)
theorem Inv.list(I:Inv X c σ H s)(h:b_ X.K H a xs):∃its:List ah,bq xs its/\PlainL s.heap a its.toArray/\xs.length<=bc:=by
 rcases h with h|⟨o,its,n,f,i,g,d,j,r⟩
 .obtain⟨z,its,n,r,e⟩:=h.ok I.hok;exact⟨its,r,⟨_,n,e,rfl,rfl,rfl⟩,z⟩
 .refine⟨its.toList,r,⟨o,n,I.kIn a o f,i,g,by simpa using d⟩,?_⟩;have e:=r.length;simp only[zj]at e;lia
theorem Inv.tuple(I:Inv X c σ H s)(h:cM X.K H a xs):∃d:List ah,bq xs d/\IsTup s.heap a d.toArray/\xs.length<=bc:=by
 rcases h with h|⟨o,d,n,g,i,f,j,r⟩
 .obtain⟨z,d,r,p,_⟩:=h.ok I.hok;exact⟨d,r,p,z⟩
 .refine⟨d.toList,r,⟨o,I.kIn a o g,i,n,by simpa using f⟩,?_⟩;have e:=r.length;simp only[zj]at e;lia
theorem Inv.list_inj(I:Inv X c σ H s)(h:b_ X.K H a xs)(m:b_ X.K H a b):xs=b:=by
 obtain⟨g,r,⟨o,n,e,_,_,d⟩,_⟩:=I.list h;obtain⟨f,l,⟨p,q,i,_,_,j⟩,_⟩:=I.list m;rw[e]at i;cases i;rw[d]at j;injection j with d1 _;have:g=f:=by simpa using congrArg Array.toList d1
 subst this;exact r.inj l
theorem Inv.tuple_inj(I:Inv X c σ H s)(h:cM X.K H a xs)(m:cM X.K H a b):xs=b:=by
 obtain⟨g,r,⟨o,e,_,n,d⟩,_⟩:=I.tuple h;obtain⟨f,l,⟨p,i,_,q,j⟩,_⟩:=I.tuple m;rw[e]at i;cases i;rw[d]at j;injection j with d1 _;have:g=f:=by simpa using congrArg Array.toList d1
 subst this;exact r.inj l
end
abbrev Cx.wish(X:Cx)(E:ah->am->Prop):Cx:={X with xe:=E}
abbrev Cx.nox(X:Cx):Cx:=X.wish λ_ _=>False
theorem Cx.Ok.wish{X:Cx}(ok:X.Ok)(E:ah->am->Prop):(X.wish E).Ok :=⟨ok.mod,ok.kind,ok.glob,ok.blt,ok.above,ok.inj,ok.has,ok.cab,ok.hd,ok.frames,ok.stk,ok.exf,ok.bs,ok.bsz,ok.noex,ok.exfs,ok.funs,ok.frf,ok.tab⟩
theorem Cx.Ok.unwish{X:Cx}{E:ah->am->Prop}(ok:(X.wish E).Ok):X.Ok :=⟨ok.mod,ok.kind,ok.glob,ok.blt,ok.above,ok.inj,ok.has,ok.cab,ok.hd,ok.frames,ok.stk,ok.exf,ok.bs,ok.bsz,ok.noex,ok.exfs,ok.funs,ok.frf,ok.tab⟩
section
variable{X:Cx}{a:List (ac×Obj)}{b:St}{H:Hp}{s:am}{E:ah->am->Prop}
theorem Inv.wish(I:Inv X a b H s)(E:ah->am->Prop):Inv (X.wish E) a b H s:=⟨I.ok.wish E,I.os,I.bare,I.base,I.loc,I.cell,I.free,I.freeC,I.pin,I.hok,I.len⟩
theorem Inv.unwish(I:Inv (X.wish E) a b H s):Inv X a b H s:=⟨I.ok.unwish,I.os,I.bare,I.base,I.loc,I.cell,I.free,I.freeC,I.pin,I.hok,I.len⟩
theorem SP.unwish{D:jC}{f:Flow}{g:am}(h:SP (X.wish E) a D f g):SP X a D f g:=by
 cases f with
 |next=>obtain⟨c,d,I,q⟩:=h;exact⟨c,d,I.unwish,q⟩
 |brk=>obtain⟨c,d,I,q⟩:=h;exact⟨c,d,I.unwish,q⟩
 |cont=>obtain⟨c,d,I,q⟩:=h;exact⟨c,d,I.unwish,q⟩
 |ret u=>obtain⟨v,c,d,I,r,q⟩:=h;exact⟨v,c,d,I.unwish,r,q⟩
end
section
variable{X:Cx}{j:aU}{rest:List aU}{t u:TS}{e:ay}{i:TE}{g:Pos}
def Iy:TS:=λD a H=>D.nx a H
def G4(t u:TS):TS:=λD a H=>t {D with nx:=u D} a H
theorem GM:jL X [] Iy:=λ_ _ a H _ I h=>zo ⟨a,H,I,h⟩
theorem wN(m:PS X j t)(l:jL X rest u):jL X (j::rest) (G4 t u):=by
 intro b s c H D I h;refine wpAny_execs_cons (aT (m b s c H {D with nx:=u D} I h) λf d q=>?_);cases f with
 |next=>obtain⟨a,o,n,q⟩:=q;exact l b d a o D n q
 |ret v=>exact q
 |brk=>exact q
 |cont=>exact q
theorem xc(b:PS X j t):jL X [j] t:=by
 intro c s a H D I h;refine wpAny_execs_cons (aT (b c s a H D I h) λf d q=>?_);cases f with
 |next=>exact zo q
 |ret v=>exact q
 |brk=>exact q
 |cont=>exact q
theorem Inv.quiet{b:List (ac×Obj)}{a:St}{H:Hp}{s:am}(I:Inv X b a H s):interactive X.env=aj:=by simp[interactive,I.ok.kind]
def Kj(i:TE):TS:=λD a H=>i a H λ_ b=>D.nx a b
theorem u9(d:PE X e i)(c:gD e ae g.line X.env=pure aj:=by rfl):PS X (.Expr e g) (Kj i):=by intro f s a H D I h;exact wpAny_Expr_any (aT (d f s a H _ I h) λv n ⟨x,m,l,o,b⟩=>⟨a,m,l,b⟩) I.quiet c
def JT(i:TE):TS:=λD a H=>i a H D.rt
theorem oN(d:PE X e i):PS X (.Return (aa e) g) (JT i):=by intro f s a H D I h;exact wpAny_Return_some (aT (d f s a H _ I h) λv n ⟨x,m,l,b,c⟩=>⟨x,a,m,l,b,c⟩)
def L8:TS:=λD _ H=>D.rt .non H
theorem Ny:PS X (.Return ae g) L8:=λ_ _ a H _ I h=>wpAny_Return_none ⟨.non,a,H,I,rfl,h⟩
def Nl(c:TT)(t u:TS):TS:=λD a H=>c a H λb d=>if b=ai then t D a d else u D a d
theorem Na{c:ay}{a b:List aU}{m:TT}(r:PT X c m)(w:jL X a t)(v:jL X b u):PS X (.If c a b g) (Nl m t u):=by
 intro l s f H D I h;refine wpAny_If (aT (r l s f H _ I h) λd n ⟨q,p,o⟩=>?_);cases d with
 |true=>exact w l n f q D p o
 |false=>exact v l n f q D p o
end
abbrev TG:=V->St->Hp->(St->Hp->Prop)->Prop
abbrev nJ:=List V->St->Hp->(St->Hp->Prop)->Prop
def PG(X:Cx)(a:ay)(t:TG):Prop :=
 ∀(d:List (ac×Obj)) (s:am) (c:St) (H:Hp) (v:V) (u:ah) (Q:St->Hp->Prop),Inv X d c H s->RelV v u->t v c H Q ->
  aw (az X.prog X.w) X.A (assign a X.env u) (λ_ s'=>∃b f,Inv X d b f s'/\Q b f) X.xe s
def uD(X:Cx)(h:List ay)(t:nJ):Prop :=
 ∀(f:List (ac×Obj)) (s:am) (b:St) (H:Hp) (c:List V) (d:List ah) (Q:St->Hp->Prop),Inv X f b H s->bq c d->t c b H Q ->
  aw (az X.prog X.w) X.A (assignInOrder ((sD h X.env).map (·.2)) d) (λ_ i=>∃a g,Inv X f a g i/\Q a g) X.xe s
section
variable{X:Cx}{pos:Pos}
def Ax(i:Nat):TG:=λv a H Q=>Q (a.set i (aa v)) H
theorem pI{i:Nat}{x:Str}(d:X.N.Nodup)(b:X.N[i]?=aa x)(a:Loc X.env.scope x)(c:X.fn x=ai\/X.env.scope.names.lookup x=aa .local:=by first|exact .inl rfl|exact .inr rfl|assumption):PG X (.Name x pos) (Ax i):=by intro j s σ H v u Q I r h;exact wpAny_assign_Name (CW I d b a r (λg f=>⟨_,H,f,h⟩) c)
def bE:nJ:=λb a H Q=>b=[]/\Q a H
def JS(t:TG)(u:nJ):nJ:=λc b H Q=>∃v r,c=v::r/\t v b H λa d=>u r a d Q
theorem C8:uD X [] bE:=by
 intro c s σ H a b Q I r h;obtain⟨e,h⟩:=h;subst e;cases r;exact assignInOrder_nil ⟨σ,H,I,h⟩
theorem vS{e:ay}{a:List ay}{t:TG}{u:nJ}(l:PG X e t)(j:uD X a u)(i:(sD (e::a) X.env).map (·.2)=assign e X.env::(sD a X.env).map (·.2):=by rfl):uD X (e::a) (JS t u):=by
 intro c s σ H p w Q I r h;obtain⟨v,q,m,h⟩:=h;subst m;cases r with
 |cons r f=>rw[i];refine assignInOrder_cons (aT (l c s σ H _ _ _ I r h) λ_ d ⟨b,o,n,g⟩=>?_);exact j c d b o _ _ Q n f g
def Lz(K:ar)(n:Nat)(t:nJ):TG:=λv c H Q=>∃a b,v=.ref a/\cM K H a b/\b.length=n/\t b c H Q
theorem Da{c:List ay}{k:Nat}{t:nJ}{n:Nat}(w:X.calm=ai)(h:uD X c t)(p:(sD c X.env).length=n:=by rfl) (y:(sD c X.env).findIdx? (·.1)=ae:=by rfl):PG X (.Tuple c k pos) (Lz X.K n t):=by
 intro g s σ H v u Q I r d;obtain⟨a,xs,z,m,q,d⟩:=d;subst z;cases r;obtain⟨i,f,l,B⟩:=I.tuple m;refine assign_Tuple_tuple (I.ok.hd w) l (by simp[p,<-q,f.length]) y λx j=>?_;have A:Inv X g σ H {s with heap:=x}:=I.kept (t':=s.toks) λb o e=>j b o (cN (bo e)) e;exact h g _ σ H xs _ Q A (by simpa using f) d
def A7(b:TE)(g:TG):TS:=λD a H=>b a H λx c=>g x a c D.nx
theorem Ja{a e:ay}{c:TE}{g:TG}(o:PE X e c)(n:PG X a g)(m:swapsWithSole [a] e pos.line X.env=pure aj:=by rfl)(l:swappedStores [a] e X.env=pure ae:=by rfl)(p:(sD [a] X.env).map (·.2)=[assign a X.env]:=by rfl):PS X (.Assign [a] e pos) (A7 c g):=by intro d s b H D I h;refine wpAny_Assign_stores (aT (o d s b H _ I h) λv f ⟨x,u,r,i,j⟩=>?_) m l;rw[p];exact aT (n d f b u x v _ r i j) λ_ w q=>q
theorem DQ{i:Nat}{x:Str}{e:ay}{b:TE}{a:Pos}(o:X.N.Nodup)(l:X.N[i]?=aa x)(g:Loc X.env.scope x)(n:PE X e b)(j:gD e (aa (.Name x a)) pos.line X.env=pure aj:=by rfl)(m:X.fn x=ai\/X.env.scope.names.lookup x=aa .local:=by first|exact .inl rfl|exact .inr rfl|assumption):PS X (.Assign [.Name x a] e pos) (A7 b (Ax i)):=by intro p s c H D I h;refine wpAny_Assign_Name (aT (n p s c H _ I h) λv z ⟨y,u,r,d,f⟩=>?_) j;exact CW r o l g d (λw q=>⟨_,u,q,f⟩) m
def Hw(c:TT)(i:TS):TS:=λD a H=>∃W:Nat->St->Hp->Prop,(∃m,W m a H)/\∀m a H,W m a H ->
 c a H λb g=>if b=ai then ∃N:St->Hp->Prop,(∀d h,N d h->∃f,f<m/\W f d h)/\i {D with nx:=N,ct:=N,bk:=D.nx} a g else D.nx a g
theorem MI{c:ay}{g:List aU}{y:TT}{z:TS}(A:v8 (az X.prog X.w) X.A X.env X.xe)(S:PT X c y)(T:jL X g z):PS X (.While c g [] pos) (Hw y z):=by
 intro w s J H D I h;obtain⟨W,⟨Q,L⟩,j⟩:=h;refine wpAny_While (codeAny_whileLoop (λn P=>∃i G,Inv X w i G P/\W n i G) ?_ Q ⟨J,H,I,L⟩);rintro n O ⟨d,F,Y,K⟩;refine pM A (aT (S w O d F _ Y (j n d F K)) λb M ⟨E,C,o⟩=>?_);cases b with
 |true=>
  obtain⟨N,B,o⟩:=o;rw[if_pos rfl];refine pM A (aT (T w M d E _ C o) λf Z m=>?_);cases f with
  |next=>obtain⟨a,l,x,q⟩:=m;obtain⟨r,u,p⟩:=B a l q;exact⟨r,u,a,l,x,p⟩
  |cont=>obtain⟨a,l,x,q⟩:=m;obtain⟨r,u,p⟩:=B a l q;exact⟨r,u,a,l,x,p⟩
  |brk=>exact m
  |ret v=>exact m
 |false=>rw[if_neg eZ];exact zo ⟨d,E,C,o⟩
end
structure It where
 go:Nat->Hp->Prop
 yld:Nat->Hp->V->Hp->Prop
 stop:Nat->Hp->Prop
def iz(X:Cx)(a:List (ac×Obj))(H:Hp)(b:ac):Prop :=
 H b=ae/\b≠X.env.locals/\b∉X.fs/\(b∈X.ex\/X.s₀.heap.objs.size<=b)/\(∀x c,X.env.cells.lookup x=aa c->c≠b)/\∀p∈X.pn++a,p.1≠b
theorem Inv.fpOk{X:Cx}{d:List (ac×Obj)}{σ:St}{H f:Hp}{s:am}{b:ac}(I:Inv X d σ H s)(a:s.heap.objs.size<=b)(h:f b=ae):iz X d f b:=by
 refine⟨h,iB (eR I.lt a),I.nofs a,.inr (cO I.sz a),λx c e z=>?_,λp g z=>?_⟩
 .obtain⟨v,q⟩:=I.cell x c e;exact absurd (eR q.lt (by rw[z];exact a)) (dZ _)
 .exact absurd (eR (bo (I.pin p g).1) (by rw[z];exact a)) (dZ _)
structure rg(P:aY)(w:aR)(K:ar)(tg:ay)(J:It)(fp:List ac)(it:ac)(tn:Nat->aC->Prop):Prop where
 mem:it∈fp
 obj:∀i h,tn i h->∀b∈fp,∃o,h.get? b=aa o/\∀v,o.data≠.cell v
 keep:∀i h h',tn i h->(∀b∈fp,∀o,h.get? b=aa o->h'.get? b=aa o)->tn i h'
 item:∀(X:Cx),X.prog=P->X.w=w->X.K=K->X.calm=ai->∀(i:Nat) (af:List (ac×Obj)) (s:am) (σ:St) (H:Hp) (E:ah->am->Prop),Inv X af σ H s->(∀b∈fp,iz X af H b)->tn i s.heap->J.go i H ->
  aw (az P w) X.A (pyNext (.ref it)) (λr s1=>∃u,r=aa u /\ aw (az P w) X.A (zq tg (.ref it) u) (λ_ s2=>∃x H',Inv X af σ H' s2/\RelV x u/\J.yld i H x H'/\tn (i+1) s2.heap/\∀b∈fp,H' b=ae) E s1) E s
 done:∀(X:Cx),X.prog=P->X.w=w->X.K=K->X.calm=ai->∀(i:Nat) (af:List (ac×Obj)) (s:am) (σ:St) (H:Hp) (E:ah->am->Prop),Inv X af σ H s->(∀b∈fp,iz X af H b)->tn i s.heap->J.stop i H ->
  aw (az P w) X.A (pyNext (.ref it)) (λr s1=>r=ae/\Inv X af σ H s1) E s
 self:∀(A:aX) (i:Nat) (s:am) (Q:ah->am->Prop) (E:ah->am->Prop),tn i s.heap->Q (.ref it) s->aw (az P w) A (mD (.ref it)) Q E s
abbrev TI:=St->Hp->(It->Hp->Prop)->Prop
def uu(X:Cx)(i:List (ac×Obj))(j:St)(l:ay)(R:It->Hp->Prop)(a:ah)(f:am):Prop :=
 ∃(g:ac) (h:List ac) (d:Nat->aC->Prop) (J:It) (c:Hp),a=.ref g/\Inv X i j c f/\rg X.prog X.w X.K l J h g d/\d 0 f.heap/\(∀b∈h,iz X i c b)/\R J c
def PI(X:Cx)(f a:ay)(d:TI):Prop :=
 ∀(c:List (ac×Obj)) (s:am) (b:St) (H:Hp) (R:It->Hp->Prop),Inv X c b H s->d b H R ->
  aw (az X.prog X.w) X.A (aK a X.env) (λv s1=>aw (az X.prog X.w) X.A (mD v) (uu X c b f R) X.xe s1) X.xe s
theorem uo{M:Model}{A:aX}{E:ah->am->Prop}{s:am}{c:ay}{d:ac}{u:ah}{o:Obj}{n:String}{b:Array ah}{Q:Unit->am->Prop}(f:s.heap.get? d=aa o)(j:o.cls=.type n)(i:o.data=.fields b)(g:["enumerate","zip","dict_itemiterator","dict_reverseitemiterator","odict_iterator","itertools.zip_longest","itertools.pairwise"].contains n=aj) (a:Q () s):aw M A (zq c (.ref d) u) Q E s:=by
 unfold zq;cases c <;> first
  |exact aN a
  | (cases u <;> first
    |exact aN a
    | (refine au (wpAny_load f ?_)
       rw[j,i];show aw M A (if(["enumerate","zip","dict_itemiterator","dict_reverseitemiterator","odict_iterator","itertools.zip_longest","itertools.pairwise"].contains n&&b[0]? == aa (dO _))=ai then _ else _) Q E s;rw[if_neg (by intro h;rw[g,Bool.false_and]at h;cases h)];exact aN a))
def xg(K:ar)(a:ac):It :=⟨λi H=>∃b x,b_ K H a b/\b[i]?=aa x,λi H x c=>c=H/\∀b,b_ K H a b->b[i]?=aa x,λi H=>∃b,b_ K H a b/\b.length<=i⟩
def yt(K:ar)(a:ac):It :=⟨λi H=>∃b x,cM K H a b/\b[i]?=aa x,λi H x c=>c=H/\∀b,cM K H a b->b[i]?=aa x,λi H=>∃b,cM K H a b/\b.length<=i⟩
def u5(a:Int)(n:Nat):It:=⟨λi _=>i<n,λi H x b=>b=H/\x=.int (a+i),λi _=>n<=i⟩
theorem Cm{P:aY}{w:aR}{K:ar}{O:ay}(a g:ac):rg P w K O (xg K a) [g] g (λi h=>h.IsListIter g a i) where
 mem:=by simp
 obj:=λi h f b j=>by
  have e:b=g:=by simpa using j
  subst e;obtain⟨o,e,c,d⟩:=f;exact⟨o,e,λv z=>by rw[d]at z;cases z⟩
 keep:=λi h n f k=>f.at λo e=>k g (by simp) o e
 item:=by intro X C A D M i N s σ H E I m f B;subst C A D;obtain⟨xs,x,l,y⟩:=B;obtain⟨r,q,p,T⟩:=I.list l;obtain⟨u,Y,S⟩:=q.get y;obtain⟨J,G,f2,f3,f4,F⟩:=m g (by simp);refine wpAny_pyNext_list_item f p.isList (x:=u) (by simpa using Y) λn L Q=>?_;have I1:Inv X N σ H {s with heap:=n}:=I.turned (t':=s.toks) (λb o j e=>(Q.2 b j).trans e) J G f3 f4 F;obtain⟨o,e,c,d⟩:=id L;exact⟨u,rfl,uo (s:={s with heap:=n}) e c d (by decide) ⟨x,H,I1,S,⟨rfl,λys W=>by rw[I.list_inj W l];exact y⟩,L,λb j=>(m b j).1⟩⟩
 done:=by intro X C A D M i N s σ H E I m f B;subst C A D;obtain⟨xs,l,y⟩:=B;obtain⟨r,q,p,T⟩:=I.list l;obtain⟨J,G,f2,f3,f4,F⟩:=m g (by simp);have hl:=q.length;exact wpAny_pyNext_list_end (I.ok.hd M) f p.isList (by simp;lia) λn Z=>⟨rfl,I.turned (t':=s.toks) (λb o j e=>Z b o j e) J G f3 f4 F⟩
 self:=λ_ _ _ _ _ f h=>wpAny_pyIter_listiter f h
theorem Mp{P:aY}{w:aR}{K:ar}{S:ay}(a j:ac):rg P w K S (yt K a) [j] j (λi h=>h.IsTupleIter j a i) where
 mem:=by simp
 obj:=λi h f b l=>by
  have e:b=j:=by simpa using l
  subst e;obtain⟨o,e,c,d⟩:=f;exact⟨o,e,λv z=>by rw[d]at z;cases z⟩
 keep:=λi h q f k=>f.at λo e=>k j (by simp) o e
 item:=by intro X C A D N i O s L H E I n f B;subst C A D;obtain⟨Q,x,m,y⟩:=B;obtain⟨g,r,p,Y⟩:=I.tuple m;obtain⟨u,hu,W⟩:=r.get y;obtain⟨J,G,f2,f3,f4,F⟩:=n j (by simp);refine wpAny_pyNext_tuple_item f (show s.heap.IsTuple a g.toArray from p) (x:=u) (by simpa using hu) λq M T=>?_;have I1:Inv X O L H {s with heap:=q}:=I.turned (t':=s.toks) (λb o l e=>(T.2 b l).trans e) J G f3 f4 F;obtain⟨o,e,c,d⟩:=id M;exact⟨u,rfl,uo (s:={s with heap:=q}) e c d (by decide) ⟨x,H,I1,W,⟨rfl,λys Z=>by rw[I.tuple_inj Z m];exact y⟩,M,λb l=>(n b l).1⟩⟩
 done:=by intro X C A D N i O s L H E I n f B;subst C A D;obtain⟨Q,m,y⟩:=B;obtain⟨g,r,p,Y⟩:=I.tuple m;obtain⟨J,G,f2,f3,f4,F⟩:=n j (by simp);have hl:=r.length;exact wpAny_pyNext_tuple_end (I.ok.hd N) f (show s.heap.IsTuple a g.toArray from p) (by simp;lia) λq eb=>⟨rfl,I.turned (t':=s.toks) (λb o l e=>eb b o l e) J G f3 f4 F⟩
 self:=λ_ _ _ _ _ f h=>wpAny_pyIter_tupleiter f h
theorem IP{P:aY}{w:aR}{K:ar}{G:ay}(c:ac)(f:Int)(n:Nat):rg P w K G (u5 f n) [c] c (λi h=>IsRangeIter h c (f+(i:Nat)*1) ((n:Int)-(i:Nat)) 1) where
 mem:=by simp
 obj:=λi h a b d=>by
  have e:b=c:=by simpa using d
  subst e;exact⟨_,a,λv z=>by
   have F:Data.fields _=Data.cell v:=z;cases F⟩
 keep:=λi h j a k=>k c (by simp) _ a
 item:=by intro X q l r p i D s A H E I g a m;subst q l r;obtain⟨y,x,f2,f3,f4,u⟩:=g c (by simp);have W:=Walks.range (prog:=X.prog) (w:=X.w) (I.ok.hd p) c f 1 n;refine W.item i s _ _ m a λv j B L C J=>?_;obtain⟨t,rfl⟩:=L;have N:Inv X D A H {s with heap:=j,toks:=B}:=I.turned (λb o d e=>J b o (by simpa using d) e) y x f3 f4 u;refine⟨_,rfl,uo (s:={s with heap:=j,toks:=B}) (n:="range_iterator") C rfl rfl (by decide) ⟨.int (f+i),H,N,⟨t,?_⟩,⟨rfl,rfl⟩,C,λb d=>(g b d).1⟩⟩;rw[Int.mul_one]
 done:=by intro X q l r p i D s A H E I g a m;subst q l r;obtain⟨y,x,f2,f3,f4,u⟩:=g c (by simp);exact wpAny_pyNext_range_end (I.ok.hd p) a (by have:n<=i:=m;lia) λj M=>⟨rfl,I.turned (t':=s.toks) (λb o d e=>M b o d e) y x f3 f4 u⟩
 self:=λ_ _ _ _ _ a h=>wpAny_pyIter_rangeiter a h
section
variable{X:Cx}{c:ay}
theorem Fw{h:List (ac×Obj)}{f:St}{H:Hp}{s:am}{R:It->Hp->Prop}{E:ah->am->Prop}{a d:Int}{t u v:Tok}{g:Nat}(I:Inv X h f H s)(p:-(2^62)<=a)(n:a<2^62)(m:-(2^62)<=d)(l:d<2^62)(q:R (u5 a (d-a).toNat) H):aw (az X.prog X.w) X.A (mD (.ref s.heap.objs.size)) (uu X h f c R) E {s with heap:=s.heap.push {cls:=.type "range",data:=.fields #[.int a t,.int d u,.int 1 v]},toks:=g}:=by
 refine wpAny_pyIter_range (IsRange.new ..) (small_one p n m l) ?_;have i:Inv X h f H {s with heap:=s.heap.push {cls:=.type "range",data:=.fields #[.int a t,.int d u,.int 1 v]},toks:=g}:=I.kept λb o e=>bi _ e;refine⟨(s.heap.push {cls:=.type "range",data:=.fields #[.int a t,.int d u,.int 1 v]}).objs.size,[(s.heap.push {cls:=.type "range",data:=.fields #[.int a t,.int d u,.int 1 v]}).objs.size],_,_,H,rfl,i.kept (t':=g) λb o e=>bi _ e,IP _ a (d-a).toNat,?_,λb j=>?_,q⟩
 .have w:a+((0:Nat):Int)*1=a:=by simp
  have r:(((d-a).toNat:Nat):Int)-((0:Nat):Int)=Builtin.Range.rangeSize a d 1:=by rw[rangeSize_one];split <;> lia
  show IsRangeIter _ _ (a+((0:Nat):Int)*1) ((((d-a).toNat:Nat):Int)-((0:Nat):Int)) 1;rw[w,r];exact cm _ rfl
 .have e:b=(s.heap.push {cls:=.type "range",data:=.fields #[.int a t,.int d u,.int 1 v]}).objs.size:=by simpa using j
  subst e;exact i.fpOk (bd _) (i.hok.fresh (bd _))
def FQ(d:TA):TI:=λa H R=>d a H λb f=>∃j:Int,b=[.int j]/\-(2^62)<=j/\j<2^62/\R (u5 0 j.toNat) f
theorem NC{a:ay}{f:TA}{p b:Pos}(u:Gl X "range")(o:X.mg "range"=ae)(v:PA X [a] f)(n:aL [a] X.env=[(aj,aK a X.env)]:=by rfl):PI X c (.Call (.Name "range" p) [a] [] b) (FQ f):=by
 intro w s g H R I h;refine Call_ (r8 I u o boot_range (PyProof.Rows.callWith_type1 (aT (v b w s g H _ I h) λz A ⟨y,B,x,l,d⟩=>?_) n rfl));obtain⟨j,e,d,m,q⟩:=d;subst e;cases l with
 |cons r i=>
  cases i;obtain⟨t,rfl⟩:=r;exact call_range_1 (Fw x ∅ ∅ d m (by simpa using q))
def L_(j:TI)(g:TG)(l:TS):TS:=λD a H=>j a H λJ o=>∃W:Nat->Nat->St->Hp->Prop,(∃m,W 0 m a o)/\∀i m a H,W i m a H ->
 (J.stop i H/\D.nx a H)\/(J.go i H/\∃N:St->Hp->Prop,(∀b d,N b d->∃h,h<m/\W (i+1) h b d)/\∀x d,J.yld i H x d->g x a d λf n=>l {D with nx:=N,ct:=N,bk:=D.nx} f n)
def rX(a:List ac)(h:aC):List (ac×Obj):=a.filterMap λb=>(h.get? b).map λo=>(b,o)
theorem rR{a:List ac}{h:aC}{b:ac}{o:Obj}(d:b∈a)(e:h.get? b=aa o):(b,o)∈rX a h:=List.mem_filterMap.mpr ⟨b,d,by rw[e];rfl⟩
theorem Jf{a:List ac}{h:aC}{p:ac×Obj}(d:p∈rX a h):p.1∈a/\h.get? p.1=aa p.2:=by
 obtain⟨b,f,e⟩:=List.mem_filterMap.mp d;cases q:h.get? b with
 |none=>rw[q]at e;cases e
 |some o=>rw[q]at e;have g:(b,o)=p:=dY e;subst g;exact⟨f,q⟩
theorem Inv.pinned{f:List (ac×Obj)}{g:St}{H:Hp}{s:am}{a:List ac}(I:Inv X f g H s)(m:∀b∈a,iz X f H b)(l:∀b∈a,∃o,s.heap.get? b=aa o/\∀v,o.data≠.cell v):Inv X (f++rX a s.heap) g H s :=
 I.pins_of λp j=>(nW.mp j).elim (λz=>I.pin p (jR _ z)) λz=>by
  obtain⟨h,e⟩:=Jf z;obtain⟨q,n,f2,_⟩:=m p.1 h;obtain⟨o,i,d⟩:=l p.1 h;rw[e]at i;cases i;exact⟨e,q,n,f2,d⟩
theorem Inv.unpinned{b d:List (ac×Obj)}{a:St}{H:Hp}{s:am}(I:Inv X (b++d) a H s):Inv X b a H s:=I.pins_of λp f=>I.pin p (jR _ (List.mem_append_left _ f))
theorem Cd{q:ay}{E:List aU}{wi:TI}{g:TG}{tb:TS}{pos:Pos}(L:v8 (az X.prog X.w) X.A X.env X.xe)(hc:X.calm=ai)(hi:PI X c q wi)(hg:PG X c g)(w:jL X E tb)(hs:∀x,mE q X.env x=pure x:=by intro _;rfl):PS X (.For c q E [] pos) (L_ wi g tb):=by
 intro F s σ H D I h;refine wpAny_For (aT (hi F s σ H _ I h) λv s1 h1=>aT h1 λitv s2 h2=>?_) hs;obtain⟨it,O,tn,J,H2,e,I2,T,S,f2,W,⟨m0,w0⟩,G⟩:=h2;subst e;have p:∀{B:Hp},(∀b∈O,B b=ae)->∀b∈O,iz X F B b:=λhn b w=>⟨hn b w,(f2 b w).2⟩
 refine codeAny_forLoop_any (λn s'=>∃i l B,Inv X F l B s'/\tn i s'.heap/\(∀b∈O,B b=ae)/\W i n l B) ?_ m0 ⟨0,σ,H2,I2,S,λb w=>(f2 b w).1,w0⟩;rintro n s3 ⟨i,j,P,I3,tj,M,w3⟩;rcases G i n j P w3 with⟨stop,qn⟩|⟨go,N,hN,step⟩
 .refine pM L (aT (T.done X rfl rfl rfl hc i F s3 j P X.xe I3 (p M) tj stop) λr s4 ⟨hr,I4⟩=>?_);subst hr;exact zo ⟨j,P,I4,qn⟩
 .refine pM L (aT (T.item X rfl rfl rfl hc i F s3 j P X.xe I3 (p M) tj go) λr s4 ⟨u,hr,h4⟩=>?_);subst hr;refine pM L (aT h4 λ_ s5 ⟨x,H5,I5,r5,y5,Z,fr5⟩=>?_);have I5':=I5.pinned (p fr5) (T.obj _ _ Z);refine pM L (aT (hg _ s5 j H5 x u _ I5' r5 (step x H5 y5)) λ_ s6 ⟨Q,H6,I6,q6⟩=>?_);refine pM L (aT (w _ s6 Q H6 _ I6 q6) λf Y C=>?_);have y:∀{a:St}{A:Hp},Inv X (F++rX O s5.heap) a A Y->N a A->∃m,m<n/\∃i l B,Inv X F l B Y/\tn i Y.heap/\(∀b∈O,B b=ae)/\W i m l B:=λ{a A} z K=>by obtain⟨m',hm,w7⟩:=hN a A K;refine⟨m',hm,i+1,a,A,z.unpinned,T.keep _ _ _ Z λb w o e=>(z.pin (b,o) (jR _ (jR _ (rR w e)))).1,λb w=>?_,w7⟩;obtain⟨o,e,d⟩:=T.obj _ _ Z b w;exact(z.pin (b,o) (jR _ (jR _ (rR w e)))).2.1
  cases f with
  |next=>obtain⟨a,A,z,K⟩:=C;exact y z K
  |cont=>obtain⟨a,A,z,K⟩:=C;exact y z K
  |brk=>obtain⟨a,A,z,C⟩:=C;exact⟨a,A,z.unpinned,C⟩
  |ret v=>obtain⟨x7,a,A,z,r7,C⟩:=C;exact⟨x7,a,A,z.unpinned,r7,C⟩
end
abbrev R2:=V->V->Hp->VK->Prop
def bT(X:Cx)(f:ah->ah->Sem ah)(r:R2):Prop :=
 ∀(b:List (ac×Obj)) (s:am) (a:St) (H:Hp) (x y:V) (v u:ah) (Q:VK),Inv X b a H s->RelV x v->RelV y u->r x y H Q ->
  aw (az X.prog X.w) X.A (f v u) (EP X b a Q) X.xe s
def vX(X:Cx)(f:ah->Sem ah)(r:V->Hp->VK->Prop):Prop :=
 ∀(b:List (ac×Obj)) (s:am) (a:St) (H:Hp) (x:V) (v:ah) (Q:VK),Inv X b a H s->RelV x v->r x H Q ->
  aw (az X.prog X.w) X.A (f v) (EP X b a Q) X.xe s
def fh(X:Cx)(f:ah)(r:List V->Hp->VK->Prop):Prop :=
 ∀(d:List (ac×Obj)) (s:am) (a:St) (H:Hp) (b:List V) (c:List ah) (Q:VK),Inv X d a H s->bq b c->r b H Q ->
  aw (az X.prog X.w) X.A (call f c) (EP X d a Q) X.xe s
def uA(r:R2)(c b:TE):TE:=λa H Q=>c a H λx f=>b a f λy d=>r x y d Q
def LV(r:V->Hp->VK->Prop)(b:TE):TE:=λa H Q=>b a H λx c=>r x c Q
def rI(C:Int->Int->Prop)(g:Int->Int->V):R2:=λx y H Q=>∃i j,x=.int i/\y=.int j/\C i j/\Q (g i j) H
def ju(g:Int->Int->V):R2:=λx y H Q=>∃i j,x=.int i/\y=.int j/\Q (g i j) H
def rU(g:Int->V):V->Hp->VK->Prop:=λx H Q=>∃i,x=.int i/\Q (g i) H
section
variable{X:Cx}{a b c:ay}{d l m:TE}{pos:Pos}
theorem yQ(E:PE X a d)(D:PE X b l){p:List (ac×Obj)}{s:am}{g:St}{H:Hp}{R:V->V->Hp->Prop}(I:Inv X p g H s)(h:d g H λx q=>l g q λy i=>R x y i) {Q:ah->am->Prop}{f:ah->ah->Sem ah}(C:∀v u o x y i,Inv X p g i o->RelV x v->RelV y u->R x y i->aw (az X.prog X.w) X.A (f v u) Q X.xe o):aw (az X.prog X.w) X.A (aK a X.env) (λv n=>aw (az X.prog X.w) X.A (aK b X.env) (λu j=>aw (az X.prog X.w) X.A (f v u) Q X.xe j) X.xe n) X.xe s:=by refine aT (E p s g H _ I h) λv r ⟨x,q,G,z,B⟩=>?_;refine aT (D p r g q _ G B) λu o ⟨y,i,F,w,A⟩=>?_;exact C v u o x y i F z w A
theorem E8{f:Operator}{r:R2}(o:bT X (iX f) r)(w:PE X a d)(p:PE X b l):PE X (.BinOp a f b pos) (uA r d l):=by intro z s g H Q I h;exact wpAny_BinOp (yQ w p I h λv u i x y B A n j q=>o z i g B x y v u Q A n j q)
theorem Mc{g:UnaryOp}{r:V->Hp->VK->Prop}(p:vX X (unaryOp g) r)(q:PE X a d):PE X (.UnaryOp g a pos) (LV r d):=by intro i s f H Q I h;exact UnaryOp_ (aT (q i s f H _ I h) λv j ⟨x,w,u,n,o⟩=>p i j f w x v Q u n o)
theorem yu{f:ah->ah->Sem ah}{C:Int->Int->Prop}{g:Int->Int->Int}(n:∀(i j:Int) (t u:Tok) (s:am) (Q:ah->am->Prop) (E:ah->am->Prop),C i j->Q (.int (g i j) s.toks) {s with toks:=s.toks+1}->aw (az X.prog X.w) X.A (f (.int i t) (.int j u)) Q E s):bT X f (rI C λi j=>.int (g i j)):=by intro A s z H x y v u Q I r p h;obtain⟨i,j,rfl,rfl,w,q⟩:=h;obtain⟨t,rfl⟩:=r;obtain⟨o,rfl⟩:=p;exact n i j t o s _ _ w ⟨.int (g i j),H,I.tok _,⟨_,rfl⟩,q⟩
theorem Cf{f:ah->ah->Sem ah}{g:Int->Int->Int}(n:∀(i j:Int) (t u:Tok) (s:am) (Q:ah->am->Prop) (E:ah->am->Prop),Q (.int (g i j) s.toks) {s with toks:=s.toks+1}->aw (az X.prog X.w) X.A (f (.int i t) (.int j u)) Q E s):bT X f (ju λi j=>.int (g i j)):=by intro z s w H x y v u Q I r p h;obtain⟨i,j,rfl,rfl,q⟩:=h;obtain⟨t,rfl⟩:=r;obtain⟨o,rfl⟩:=p;exact n i j t o s _ _ ⟨.int (g i j),H,I.tok _,⟨_,rfl⟩,q⟩
theorem v7{f:ah->ah->Sem ah}{g:Int->Int->Bool}(n:∀(i j:Int) (t u:Tok) (s:am) (Q:ah->am->Prop) (E:ah->am->Prop),Q (.bool (g i j)) s->aw (az X.prog X.w) X.A (f (.int i t) (.int j u)) Q E s):bT X f (ju λi j=>.bl (g i j)):=by intro z s w H x y v u Q I r p h;obtain⟨i,j,rfl,rfl,q⟩:=h;obtain⟨t,rfl⟩:=r;obtain⟨o,rfl⟩:=p;exact n i j t o s _ _ ⟨.bl (g i j),H,I,rfl,q⟩
def BJ(i j:Int):Prop:=0<=j/\j<=1000000/\i.natAbs<2^64
def ym(i j:Int):Prop:=(-(2^64)<i/\i<2^64)\/(-(2^64)<j/\j<2^64)
theorem ym.ok{i j:Int}(h:ym i j):IntMulOk i j:=by
 rcases h with⟨h1,h2⟩|⟨h1,h2⟩
 .exact .of_left (intBits_le_64 h1 h2)
 .exact .of_right (intBits_le_64 h1 h2)
theorem OB:bT X (iX .Add) (ju λi j=>.int (i+j)):=Cf λ_ _ _ _ _ _ _ q=>add_int q
theorem oz:bT X (iX .Sub) (ju λi j=>.int (i-j)):=Cf λ_ _ _ _ _ _ _ q=>sub_int q
theorem Oo:bT X (iX .Mult) (rI ym λi j=>.int (i*j)):=yu λ_ _ _ _ _ _ _ f q=>mul_int q f.ok
theorem qL:bT X (iX .Mod) (rI (λ_ j=>0<j) λi j=>.int (i % j)):=yu λi j _ _ _ _ _ f q=>by have g:(0:Int)<j:=f;exact mod_int' ∅ (by rw[Int.fmod_eq_emod_of_nonneg i ∅];exact q)
theorem Me:bT X (iX .Pow) (rI BJ λi j=>.int (i^j.toNat)):=yu λ_ _ _ _ _ _ _ f q=>pow_int_small f.1 f.2.1 f.2.2 q
theorem FC{f:ah->Sem ah}{g:Int->Int}(j:∀(i:Int) (t:Tok) (s:am) (Q:ah->am->Prop) (E:ah->am->Prop),Q (.int (g i) s.toks) {s with toks:=s.toks+1}->aw (az X.prog X.w) X.A (f (.int i t)) Q E s):vX X f (rU λi=>.int (g i)):=by intro p s o H x v Q I n h;obtain⟨i,rfl,q⟩:=h;obtain⟨t,rfl⟩:=n;exact j i t s _ _ ⟨.int (g i),H,I.tok _,⟨_,rfl⟩,q⟩
theorem BC:vX X (unaryOp .USub) (rU λi=>.int (-i)):=FC λ_ _ _ _ _ q=>neg_int q
end
def nH:V->V->Bool
 |.non,.non=>ai|.non,.int _=>ai|.int _,.non=>ai|.non,.bl _=>ai|.bl _,.non=>ai|.non,.str _=>ai|.str _,.non=>ai
 |.int _,.int _=>ai|.bl _,.bl _=>ai|.str _,.str _=>ai|.byt _,.byt _=>ai
 |.int _,.str _=>ai|.str _,.int _=>ai|.bl _,.str _=>ai|.str _,.bl _=>ai
 |_,_=>aj
def CD:R2:=λx y H Q=>nH x y=ai/\Q (.bl (decide (x=y))) H
def BQ:R2:=λx y H Q=>nH x y=ai/\Q (.bl (!decide (x=y))) H
theorem Cj{i j:Int}:decide (V.int i=V.int j)=(i == j):=by rw[mF];simp
theorem BY{i j:Bool}:decide (V.bl i=V.bl j)=(i == j):=by rw[mF];simp
theorem Bh{i j:Str}:decide (V.str i=V.str j)=(i == j):=by rw[mF];simp
theorem Ea{i j:Array UInt8}:decide (V.byt i=V.byt j)=(i.toList == j.toList):=by
 rw[mF];cases i;cases j;simp
section
variable{X:Cx}{a b c:ay}{l g o:TE}{m:Pos}
theorem cT{h:List (ac×Obj)}{d:St}{H:Hp}{s:am}{Q:VK}{k f:Bool}(I:Inv X h d H s)(q:Q (.bl k) H)(e:k=f):EP X h d Q (.bool f) s:=by subst e;exact⟨.bl k,H,I,rfl,q⟩
theorem Ox:bT X (dJ .Eq) CD:=by
 intro w s r H x y v u Q I p d h;obtain⟨n,q⟩:=h;cases x with
 |non=>
  cases p;cases y with
  |non=>cases d;exact PySem.EqNone.eq_none_none (cT I q (by simp))
  |bl j=>cases d;exact PySem.EqNone.eq_none_bool (cT I q (by simp))
  |int j=>obtain⟨f,rfl⟩:=d;exact PySem.EqNone.eq_none_int (cT I q (by simp))
  |str j=>obtain⟨f,rfl⟩:=d;exact PySem.EqNone.eq_none_str (cT I q (by simp))
  |_=>exact absurd (show aj=ai from n) eZ
 |bl i=>
  cases p;cases y with
  |non=>cases d;exact PySem.EqNone.eq_bool_none (cT I q (by simp))
  |bl j=>cases d;exact eq_bool (cT I q BY)
  |str j=>obtain⟨f,rfl⟩:=d;exact PySem.EqMixed.eq_bool_str (cT I q (by simp))
  |_=>exact absurd (show aj=ai from n) eZ
 |int i=>
  obtain⟨t,rfl⟩:=p;cases y with
  |non=>cases d;exact PySem.EqNone.eq_int_none (cT I q (by simp))
  |int j=>obtain⟨f,rfl⟩:=d;exact eq_int (cT I q Cj)
  |str j=>obtain⟨f,rfl⟩:=d;exact PySem.EqMixed.eq_int_str (cT I q (by simp))
  |_=>exact absurd (show aj=ai from n) eZ
 |str i=>
  obtain⟨t,rfl⟩:=p;cases y with
  |non=>cases d;exact PySem.EqNone.eq_str_none (cT I q (by simp))
  |bl j=>cases d;exact PySem.EqMixed.eq_str_bool (cT I q (by simp))
  |int j=>obtain⟨f,rfl⟩:=d;exact PySem.EqMixed.eq_str_int (cT I q (by simp))
  |str j=>obtain⟨f,rfl⟩:=d;exact eq_str (cT I q Bh)
  |_=>exact absurd (show aj=ai from n) eZ
 |byt i=>
  obtain⟨t,rfl⟩:=p;cases y with
  |byt j=>obtain⟨f,rfl⟩:=d;exact PySem.W.eq_bytes (cT I q Ea)
  |_=>exact absurd (show aj=ai from n) eZ
 |_=>cases y <;> exact absurd (show aj=ai from n) eZ
theorem OK:bT X (dJ .NotEq) BQ:=by
 intro w s r H x y v u Q I p d h;obtain⟨n,q⟩:=h;cases x with
 |non=>
  cases p;cases y with
  |non=>cases d;exact PySem.EqNone.ne_none_none (cT I q (by simp))
  |bl j=>cases d;exact PySem.EqNone.ne_none_bool (cT I q (by simp))
  |int j=>obtain⟨f,rfl⟩:=d;exact PySem.EqNone.ne_none_int (cT I q (by simp))
  |str j=>obtain⟨f,rfl⟩:=d;exact PySem.EqNone.ne_none_str (cT I q (by simp))
  |_=>exact absurd (show aj=ai from n) eZ
 |bl i=>
  cases p;cases y with
  |non=>cases d;exact PySem.EqNone.ne_bool_none (cT I q (by simp))
  |bl j=>cases d;exact ne_bool (cT I q (congrArg not BY))
  |str j=>obtain⟨f,rfl⟩:=d;exact PySem.EqMixed.ne_bool_str (cT I q (by simp))
  |_=>exact absurd (show aj=ai from n) eZ
 |int i=>
  obtain⟨t,rfl⟩:=p;cases y with
  |non=>cases d;exact PySem.EqNone.ne_int_none (cT I q (by simp))
  |int j=>obtain⟨f,rfl⟩:=d;exact ne_int (cT I q (congrArg not Cj))
  |str j=>obtain⟨f,rfl⟩:=d;exact PySem.EqMixed.ne_int_str (cT I q (by simp))
  |_=>exact absurd (show aj=ai from n) eZ
 |str i=>
  obtain⟨t,rfl⟩:=p;cases y with
  |non=>cases d;exact PySem.EqNone.ne_str_none (cT I q (by simp))
  |bl j=>cases d;exact PySem.EqMixed.ne_str_bool (cT I q (by simp))
  |int j=>obtain⟨f,rfl⟩:=d;exact PySem.EqMixed.ne_str_int (cT I q (by simp))
  |str j=>obtain⟨f,rfl⟩:=d;exact ne_str (cT I q (congrArg not Bh))
  |_=>exact absurd (show aj=ai from n) eZ
 |byt i=>
  obtain⟨t,rfl⟩:=p;cases y with
  |byt j=>obtain⟨f,rfl⟩:=d;exact PySem.W.ne_bytes (cT I q (congrArg not Ea))
  |_=>exact absurd (show aj=ai from n) eZ
 |_=>cases y <;> exact absurd (show aj=ai from n) eZ
theorem vE:bT X (dJ .Lt) (ju λi j=>.bl (decide (i<j))):=v7 λ_ _ _ _ _ _ _ q=>lt_int q
theorem mZ:bT X (dJ .LtE) (ju λi j=>.bl (decide (i<=j))):=v7 λ_ _ _ _ _ _ _ q=>le_int q
theorem oW:bT X (dJ .Gt) (ju λi j=>.bl (decide (j<i))):=v7 λ_ _ _ _ _ _ _ q=>gt_int q
theorem J3:bT X (dJ .GtE) (ju λi j=>.bl (decide (j<=i))):=v7 λ_ _ _ _ _ _ _ q=>ge_int q
theorem Os:bT X (dJ .In) (λx y H Q=>∃i j,x=.str i/\y=.str j/\Q (.bl (!(Ek j i 0 j.length 1).isEmpty)) H):=by intro r s n H x y v u Q I f d h;obtain⟨i,j,rfl,rfl,q⟩:=h;obtain⟨t,rfl⟩:=f;obtain⟨p,rfl⟩:=d;exact in_str (cT I q rfl)
theorem Ir:bT X (dJ .IsNot) (λx y H Q=>y=.non/\Q (.bl (!decide (x=.non))) H):=by
 intro j s i H x y v u Q I d f h;obtain⟨rfl,q⟩:=h;cases f;refine isnot_none_gen (cT I q ?_);cases x <;> first
  | (cases d;rfl)
  | (obtain⟨t,rfl⟩:=d;rfl)
theorem bT.or{f:ah->ah->Sem ah}{r n:R2}(h:bT X f r)(w:bT X f n):bT X f (λx y H Q=>r x y H Q\/n x y H Q):=by
 intro p s d H x y v u Q I j i q;rcases q with q|q
 .exact h p s d H x y v u Q I j i q
 .exact w p s d H x y v u Q I j i q
theorem LS{d:CmpOp}{r:R2}(p:bT X (dJ d) r)(A:PE X a l)(z:PE X b g)(w:nX d b=aj):PE X (.Compare a [d] [b] m) (uA r l g):=by intro B s f H Q I h;exact wpAny_Compare1 (yQ A z I h λv u i x y D C n j q=>p B i f D x y v u Q C n j q) w
def B3(t:TE):TT:=λd H Q=>t d H λx f=>∃k,x=.bl k/\Q k f
theorem Io{f:CmpOp}{r:R2}(D:bT X (dJ f) r)(G:PE X a l)(F:PE X b g)(E:nX f b=aj):PT X (.Compare a [f] [b] m) (B3 (uA r l g)):=by
 intro i s d H Q I h;refine wpAny_isTrue_Compare1 (aT (G i s d H _ I h) λv n ⟨x,O,L,w,C⟩=>aT (F i n d O _ L C) λu j ⟨y,N,K,q,B⟩=>aT (D i j d N x y v u _ K w q B) λc P ⟨z,M,J,p,k,e,A⟩=>?_) E;subst e;cases p;exact lL ⟨M,J,A⟩
def xm(r i:R2)(l g o:TE):TE:=λd H Q=>l d H λx p=>g d p λy n=>r x y n λz f=>∃k,z=.bl k /\
 (if k=ai then o d f λh j=>i y h j Q else Q (.bl aj) f)
theorem KU{n f:CmpOp}{r q:R2}(S:bT X (dJ n) r)(hZ:bT X (dJ f) q)(Z:PE X a l)(Y:PE X b g)(W:PE X c o)(T:lastMarks [n,f] [b,c]=aj:=by with_unfolding_all rfl):PE X (.Compare a [n,f] [b,c] m) (xm r q l g o):=by
 intro j s i H Q I h;refine Compare_chain (aT (Z j s i H _ I h) λv J ⟨x,H1,I1,M,P⟩=>chain_link (aT (Y j J i H1 _ I1 P) λu G ⟨y,H2,I2,p,O⟩=>aT (S j G i H2 x y v u _ I2 M p O) λd F ⟨z,B,A,L,k,e,w⟩=>?_)) T;subst e;cases L;refine lL ?_;cases k with
 |false=>exact ite_ff ⟨.bl aj,B,A,rfl,w⟩
 |true=>exact ite_tt (chain_last (aT (W j F i B _ A w) λD E ⟨C,H4,I4,K,N⟩=>hZ j E i H4 y C u D Q I4 p K N))
theorem Lj{n f:CmpOp}{r q:R2}(Y:bT X (dJ n) r)(hZ:bT X (dJ f) q)(ha:PE X a l)(hb:PE X b g)(hc:PE X c o)(Z:lastMarks [n,f] [b,c]=aj:=by with_unfolding_all rfl):PT X (.Compare a [n,f] [b,c] m) (B3 (xm r q l g o)):=by
 intro j s i H Q I h;refine isTrue_chain (aT (ha j s i H _ I h) λv J ⟨x,H1,I1,N,T⟩=>test_link (aT (hb j J i H1 _ I1 T) λu G ⟨y,H2,I2,p,S⟩=>aT (Y j G i H2 x y v u _ I2 N p S) λd F ⟨z,B,A,M,k,e,w⟩=>?_)) Z;subst e;cases M;refine lL ?_;cases k with
 |false=>
  obtain⟨k',e',W⟩:=w;cases e';exact ite_ff ⟨B,A,W⟩
 |true=>
  refine ite_tt (test_last (aT (hc j F i B _ A w) λD E ⟨C,H4,I4,L,P⟩=>aT (hZ j E i H4 y C u D _ I4 p L P) λd' s5 ⟨z2,H5,I5,K,k2,e2,O⟩=>?_));subst e2;cases K;exact lL ⟨H5,I5,O⟩
theorem uQ:(bc:Nat)<2^63:=by rw[sE];decide
theorem HJ:bT X (iX .Add) (λx y H Q=>∃i j,x=.str i/\y=.str j/\i.length+j.length<=bc/\Q (.str (i++j)) H):=by intro z s r H x y v u Q I n f h;obtain⟨i,j,rfl,rfl,p,q⟩:=h;obtain⟨t,rfl⟩:=n;obtain⟨d,rfl⟩:=f;exact add_str (λd w=>⟨.str (i++j),H,I.tok _,⟨_,rfl⟩,q⟩) p
theorem vals1{x:V}{d:List ah}(r:bq [x] d):∃u,d=[u]/\RelV x u:=by
 cases r with
 |cons h f=>cases f;exact⟨_,rfl,h⟩
theorem vals2{x y:V}{f:List ah}(r:bq [x,y] f):∃u d,f=[u,d]/\RelV x u/\RelV y d:=by
 cases r with
 |cons n j=>
  cases j with
  |cons i h=>cases h;exact⟨_,_,rfl,n,i⟩
theorem Co(n:X.calm=ai):fh X (.builtin "max") (λf H Q=>∃i j,f=[.int i,.int j]/\Q (.int (if j > i then j else i)) H):=by
 intro A s p H f w Q I r h;obtain⟨i,j,rfl,q⟩:=h;obtain⟨u,v,rfl,⟨t,rfl⟩,⟨y,rfl⟩⟩:=vals2 r;refine max_two_ints (I.ok.hd n) λz x k=>⟨_,H,I.kept k,?_,q⟩
 by_cases d:j > i
 .rw[if_pos d,if_pos d];exact⟨_,rfl⟩
 .rw[if_neg d,if_neg d];exact⟨_,rfl⟩
def Be(K:ar)(x:V)(H:Hp)(n:Nat):Prop :=
 match x with
 |.str y=>y.length<=bc/\n=y.length
 |.byt y=>y.size<=bc/\n=y.size
 |.ref p=>(∃d,b_ K H p d/\n=d.length)\/∃d,cM K H p d/\n=d.length
 |_=>False
theorem d9:fh X (.builtin "len") (λd H Q=>∃x n,d=[x]/\Be X.K x H n/\Q (.int n) H):=by
 intro G s C H d D Q I r h;obtain⟨x,n,rfl,e,q⟩:=h;obtain⟨u,rfl,i⟩:=vals1 r;have F:=uQ;have E:bc=16777216:=sE;cases x with
 |str y=>obtain⟨t,rfl⟩:=i;obtain⟨B,f⟩:y.length<=bc/\n=y.length:=e;subst f;exact len_str ∅ ⟨.int _,H,I.tok _,⟨_,rfl⟩,q⟩
 |byt y=>obtain⟨t,rfl⟩:=i;obtain⟨B,f⟩:y.size<=bc/\n=y.size:=e;subst f;exact PySem.W.len_bytes ∅ ⟨.int _,H,I.tok _,⟨_,rfl⟩,q⟩
 |ref p=>
  cases i;have f:(∃d,b_ X.K H p d/\n=d.length)\/∃d,cM X.K H p d/\n=d.length:=e;rcases f with⟨d,hx,f⟩|⟨d,hx,f⟩
  .subst f;obtain⟨w,j,v,A⟩:=I.list hx;have z:=j.length;exact Calls.call_len_list v.isList (by simp only[cu];lia) ⟨.int d.length,H,I.tok _,⟨_,by simp only[cu];rw[z]⟩,q⟩
  .subst f;obtain⟨w,j,v,A⟩:=I.tuple hx;have z:=j.length;exact len_tuple v (by simp only[cu];lia) ⟨.int d.length,H,I.tok _,⟨_,by simp only[cu];rw[z]⟩,q⟩
 |_=>exact(show False from e).elim
end
structure pF(h:aC)(x dx C:ac)(mA:Str->Option ah):Prop where
 obj:h.get? x=aa (nV C dx)
 ns:h.Ns1 dx mA
 ne:dx≠x
theorem LC{h:aC}{g:ac}{d:Str->Option ah}(n:h.Ns1 g d):∃c,h.get? g=aa c/\∀b,zr b c=aa (d b):=by
 obtain⟨o,f,u,l,r,p,_,m⟩:=n;refine⟨o,l,λb=>?_⟩;have e:=m b;unfold nsFind findBy at e;rw[<-Array.find?_toList]at e;unfold zr;rw[r];dsimp only;split
 .rename_i y q;rw[q]at e;exact congrArg aa e
 .rename_i q;rw[q]at e;have a:f.toList.any (·.refKey)=aj:=by rw[El];intro y j;obtain⟨z,t,i⟩:=p y (Array.mem_toList_iff.mp j);simp[DictEntry.refKey,i]
  have s:¬f.toList.any (·.refKey)=ai:=by rw[a];exact eZ
  rw[if_neg s];exact congrArg aa e
theorem pF.look{h:aC}{x d C:ac}{c:Str->Option ah}(I:pF h x d C c):∃b,PySem.W.InstAt h x (nV C d) C (aa b)/\∀a,zr a b=aa (c a) :=
 let ⟨b,ho,hl⟩:=LC I.ns
 ⟨b,⟨I.obj,rfl,rfl,ho⟩,hl⟩
section
variable{i:aY}{w:aR}{A:aX}{E:ah->am->Prop}{s:am}{K:ar}{x l C f:ac}{j:Str->Option ah}{c:Str}{v:ah}
theorem GY{a:Bool}{Q:ah->am->Prop}(X:K.In s.heap)(I:pF s.heap x l C j)(n:zt K C c=ai)(m:Em K C=ai)(o:gC K (.ref C) c=aa ae) (d:j c=aa v) (b:PySem.W.handedIn v=ai) (h:Q v {s with toks:=s.toks+1}):aw (az i w) A (getAttr (.ref x) c a) Q E s:=by obtain⟨p,J,g⟩:=I.look;exact PySem.W.get_value X J (En n).1 (PySem.W.findObj_own m o rfl (by rw[g,d])) b h
theorem Ig{b:Sem Bool}{Q:ah×List ah->am->Prop}(X:K.In s.heap)(I:pF s.heap x l C j)(a:zt K C c=ai)(o:gC K (.ref C) c=aa (aa (.ref f))) (m:v9 K (.ref f)=ai) (g:j c=ae) (h:Q (.ref f,[.ref x]) s):aw (az i w) A (sF (.ref x) c b) Q E s:=by obtain⟨d,J,n⟩:=I.look;exact PySem.W.method_fn X J (En a).1 (En a).2 o (beq_iff_eq.mp m) (by show(zr c d).map (·.isSome)=aa aj;rw[n,g];rfl) h
theorem KD{q:List Str}{Q:Unit->am->Prop}(X:K.In s.heap)(I:pF s.heap x l C j)(G:gC K (.ref C) "__setattr__"=aa (aa (.builtin "object.__setattr__"))) (H:PySem.W.plainOver K C=ai) (D:PySem.W.takerIn K C c=aa ae) (L:Em K C=ai)(B:Eh j q) (F:q.length<=bc)(h:∀m,pF m x l C (λy=>if y=c then aa v else j y)->jQ l s.heap m->Q () {s with heap:=m,toks:=s.toks+2}):aw (az i w) A (setAttr (.ref x) c v) Q E s:=by obtain⟨P,J,T⟩:=I.look;refine PySem.W.set_plain X J G (PySem.W.osa_open (s:={s with toks:=s.toks+1}) (r:=ae) X J H D λb=>?_);obtain⟨W,M,u⟩:=PySem.W.any_some L;have z:s.heap.get? x=aa ⟨.ref C,aa l,.plain,#[]⟩:=I.obj;refine au (aN (au (au (wpAny_loadPart z (au (PySem.W.Looks.here (s:={s with toks:=s.toks+1}) (PySem.W.looks_clsIn X M) ?_))))));rw[u];refine aN (a:=aa l) (au (aN (au ?_)));refine wpAny_nsSet1 (s:={s with toks:=s.toks+1}) I.ns λm g d=>?_;obtain⟨S,N,O,n,o,p⟩:=g.count (PySem.Within.cons c v B);refine au (wpAny_lookBehind n (by rw[o];exact pastItsLine_dict (cO p (by rw[e_];lia))) ?_);exact aN (h _ ⟨(d.2 _ (eE I.ne)).trans I.obj,g,I.ne⟩ d)
theorem MX{R:Result->am->Prop}{b:List ah}{m:List (Str×ah)}(X:K.In s.heap)(n:PySem.W.makesIn K C=ai)(o:gC K (.ref C) "__init__"=aa (aa (.ref f))) (p:PySem.W.typeIn K (.ref f)=aa (.type "function"))(h:ku (az i w) (A.«under» (.builtin "type.__call__" ⟨.ref C::b,m⟩)) (.call (.ref f) ⟨.ref (s.heap.objs.size+1)::b,m⟩) (PySem.W.InitBack (s.heap.objs.size+1) R) {s with heap:=(s.heap.push mG).push (nV C s.heap.objs.size)}):ku (az i w) A (.call (.ref C) ⟨b,m⟩) R s:=by obtain⟨r,g,d,t,q⟩:=s;exact PySem.W.make_core (PySem.W.makes_of X n) (PySem.W.looks_findIn X o) (λa=>PySem.W.bind_fn X a p) (.inl rfl) h
end
def d8(f:Str)(v:V):List (Str×V)->List (Str×V)
 |[]=>[(f,v)]
 | (g,x)::r=>if g=f then(g,v)::r else(g,x)::d8 f v r
theorem Ak(f g:Str)(v:V):∀fs:List (Str×V),(d8 f v fs).lookup g=if g=f then aa v else fs.lookup g
 |[]=>by
  show iC g [(f,v)]=_;by_cases h:g=f
  .have a:(g == f)=ai:=beq_iff_eq.mpr h;simp only[iC,a,if_pos h]
  .have a:(g == f)=aj:=beq_eq_false_iff_ne.mpr h;simp only[iC,a,if_neg h]
 | (k,x)::r=>by
  have c:=Ak f g v r;rw[show d8 f v ((k,x)::r)=(if k=f then(k,v)::r else(k,x)::d8 f v r)from rfl];by_cases b:k=f
  .rw[if_pos b];by_cases h:g=k
   .have a:(g == k)=ai:=beq_iff_eq.mpr h;simp only[iC,a,if_pos (h.trans b)]
   .have a:(g == k)=aj:=beq_eq_false_iff_ne.mpr h;simp only[iC,a,if_neg (λe:g=f=>h (e.trans b.symm))]
  .rw[if_neg b];by_cases h:g=k
   .have a:(g == k)=ai:=beq_iff_eq.mpr h;simp only[iC,a,if_neg (λe:g=f=>b (h.symm.trans e))]
   .have a:(g == k)=aj:=beq_eq_false_iff_ne.mpr h;simp only[iC,a];exact c
theorem xj(f:Str)(v:V):∀fs:List (Str×V),f∈(d8 f v fs).map (·.1)/\∀g,g∈fs.map (·.1)->g∈(d8 f v fs).map (·.1)
 |[]=>⟨by simp[d8],λg h=>by simp at h⟩
 | (k,x)::r=>by
  obtain⟨c,b⟩:=xj f v r;rw[show d8 f v ((k,x)::r)=(if k=f then(k,v)::r else(k,x)::d8 f v r)from rfl];by_cases a:k=f
  .rw[if_pos a];subst a;exact⟨by simp,λg h=>by simpa using h⟩
  .rw[if_neg a];refine⟨?_,λg h=>?_⟩
   .rw[fK];exact iA _ c
   .rw[fK]at h ⊢;rcases bV.mp h with e|e
    .exact bV.mpr (.inl e)
    .exact iA _ (b g e)
theorem CA(f:Str)(v:V):∀fs:List (Str×V),(d8 f v fs).length<=fs.length+1
 |[]=>by simp[d8]
 | (k,x)::r=>by
  have b:=CA f v r;rw[show d8 f v ((k,x)::r)=(if k=f then(k,v)::r else(k,x)::d8 f v r)from rfl];by_cases a:k=f
  .rw[if_pos a,e_,e_];lia
  .rw[if_neg a,e_,e_];lia
theorem kr.some_of{v:V}{o:Option ah}(r:kr (aa v) o):∃u,o=aa u/\RelV v u:=by
 cases o with
 |none=>exact(show False from r).elim
 |some u=>exact⟨u,rfl,r⟩
theorem kr.none_of{o:Option ah}(r:kr ae o):o=ae:=by
 cases o with
 |none=>rfl
 |some u=>exact(show False from r).elim
theorem Nv{v:V}{u:ah}(r:RelV v u):PySem.W.handedIn u=ai:=by
 cases v with
 |non=>cases (show u=Value.none from r);rfl
 |bl b=>cases (show u=Value.bool b from r);rfl
 |int i=>obtain⟨t,e⟩:=(show ∃t,u=Value.int i t from r);cases e;rfl
 |str x=>obtain⟨t,e⟩:=(show ∃t,u=Value.str x t from r);cases e;rfl
 |byt b=>obtain⟨t,e⟩:=(show ∃t,u=Value.bytes b t from r);cases e;rfl
 |flt b=>obtain⟨t,e⟩:=(show ∃t,u=Value.float b t from r);cases e;rfl
 |ref a=>cases (show u=Value.ref a from r);rfl
 |ty n=>cases (show u=Value.type n from r);rfl
section
variable{P:aY}{w:aR}{H i:Hp}{h g:aC}{a C b:ac}{fs c:List (Str×V)}
theorem uT(l:c_ P w H h)(e:H a=aa (.ins C b fs)):∃j,pF h a b C j/\(∀f,kr (fs.lookup f) (j f))/\Eh j (fs.map (·.1))/\fs.length<=1000/\H b=aa (.own a):=by
 obtain⟨d,z,o,m,j,n,r,q⟩:=(show cZ P w H h a (.ins C b fs)from l a _ e)
 exact⟨j,⟨m,n,o⟩,r,q,z,d⟩
end
structure Cls(K:ar)(C:ac):Prop where
 pg:zt K C jS=ai
 hd:Em K C=ai
 po:PySem.W.plainOver K C=ai
 sa:gC K (.ref C) "__setattr__"=aa (aa (.builtin "object.__setattr__"))
theorem Cls.get{K:ar}{C:ac}(c:Cls K C)(f:Str):zt K C f=ai:=c.pg
def gY(K:ar)(C:ac)(f:Str):Prop:=gC K (.ref C) f=aa ae
theorem gY.taker{K:ar}{C:ac}{f:Str}(n:gY K C f):PySem.W.takerIn K C f=aa ae:=by unfold PySem.W.takerIn;rw[show gC K (.ref C) f=aa ae from n];rfl
structure qG(K:ar)(C:ac)(m:Str)(f:ac):Prop where
 at_:gC K (.ref C) m=aa (aa (.ref f))
 fn:v9 K (.ref f)=ai
 kp:kx K (.ref f)=ai
section
variable{X:Cx}{i:List (ac×Obj)}{d:St}{H:Hp}{s:am}{a C j:ac}{fs:List (Str×V)}{f:Str}{v:V}{A:aX}{E:ah->am->Prop}
theorem Mh{b:Bool}{Q:ah->am->Prop}(I:Inv X i d H s)(e:H a=aa (.ins C j fs))(c:Cls X.K C)(n:gY X.K C f)(l:fs.lookup f=aa v)(h:∀u g,Inv X i d H g->RelV v u->Q u g):aw (az X.prog X.w) A (getAttr (.ref a) f b) Q E s:=by obtain⟨p,O,r,_,_,_⟩:=uT I.hok e;obtain⟨u,q,m⟩:=kr.some_of (v:=v) (o:=p f) (by rw[<-l];exact r f);exact GY I.kIn O (c.get f) c.hd n q (Nv m) (h u _ (I.tok _) m)
theorem AQ{m:Str}{g:ac}{pl:Sem Bool}{Q:ah×List ah->am->Prop}(I:Inv X i d H s)(e:H a=aa (.ins C j fs))(c:Cls X.K C)(k:qG X.K C m g)(l:fs.lookup m=ae)(h:Q (.ref g,[.ref a]) s):aw (az X.prog X.w) A (sF (.ref a) m pl) Q E s:=by obtain⟨b,O,r,_,_,_⟩:=uT I.hok e;have n:b m=ae:=kr.none_of (by rw[<-l];exact r m);exact Ig I.kIn O (c.get m) k.at_ k.fn n h
theorem Ll{y:V}{u:ah}{Q:Unit->am->Prop}(I:Inv X i d H s)(e:H a=aa (.ins C j fs))(c:Cls X.K C)(n:gY X.K C f)(N:fs.length<1000)(F:RelV y u)(h:∀p,Inv X i d (upd H a (.ins C j (d8 f y fs))) p->Q () p):aw (az X.prog X.w) A (setAttr (.ref a) f u) Q E s:=by
 obtain⟨w,O,r,m,_,B⟩:=uT I.hok e;have G:(fs.map (·.1)).length<=bc:=by rw[cf,sE];lia
 refine KD I.kIn O c.sa c.po n.taker c.hd m G λM l D=>h _ ?_;have K:∃o,M.get? j=aa o:=let ⟨o,_,_,e',_⟩:=l.ns;⟨o,e'⟩
 refine I.write (x:=a) (e:=j) (by rw[e];exact True.intro) (.inr B) (λb q L z=>(D.2 b L).trans z) K ?_;refine⟨by rw[bF O.ne];exact B,?_,O.ne,l.obj,_,l.ns,λg=>?_,λg J=>?_⟩
 .have:=CA f y fs;lia
 .show kr ((d8 f y fs).lookup g) (if g=f then aa u else w g);rw[Ak];by_cases q:g=f
  .rw[if_pos q,if_pos q];exact F
  .rw[if_neg q,if_neg q];exact r g
 .by_cases q:g=f
  .rw[q];exact(xj f y fs).1
  .refine(xj f y fs).2 g (m g λz=>J ?_);show(if g=f then aa u else w g)=ae;rw[if_neg q];exact z
theorem Inv.made(I:Inv X i d H s):Inv X i d (upd (upd H s.heap.objs.size (.own (s.heap.objs.size+1))) (s.heap.objs.size+1) (.ins C s.heap.objs.size [])) {s with heap:=(s.heap.push mG).push (nV C s.heap.objs.size)}:=by
 have g:(s.heap.push mG).get? s.heap.objs.size=aa mG:=cm s.heap rfl;have n:((s.heap.push mG).push (nV C s.heap.objs.size)).get? (s.heap.objs.size+1)=aa (nV C s.heap.objs.size):=by have:=cm (s.heap.push mG) (o:=nV C s.heap.objs.size) rfl;rwa[sG]at this
 have m:(s.heap.push mG).Ns s.heap.objs.size (λ_=>ae):=⟨mG,#[],_,g,rfl,(λe l=>absurd l (by simp)),λ_=>rfl⟩
 have p:=I.laid (a:=s.heap.objs.size) (o:=.own (s.heap.objs.size+1)) (h':=s.heap.push mG) (t':=s.toks) (λb u q=>bi _ q) (bd _) ⟨_,g⟩;refine p.laid (a:=s.heap.objs.size+1) (o:=.ins C s.heap.objs.size []) (t':=s.toks) (λb u q=>bi _ q) (lN (sG _ _)) ?_;have c:s.heap.objs.size≠s.heap.objs.size+1:=cN (iY _);refine⟨by rw[bF c,cg],g6 _,c,n,λ_=>ae,(Heap.Ns1.of_empty m).at λo q=>bi _ q,λ_=>True.intro,λy h=>absurd rfl h⟩
theorem MA{b:aY}{w:aR}{c:Env}{e:ay}{f:Str}{l:Pos}{s:am}{Q:ah->am->Prop}(m:g7 e f c (aK e c)=aK e c)(h:aw (az b w) A (aK e c) (λo g=>aw (az b w) A (getAttr o f ai) Q E g) E s):aw (az b w) A (aK (.Attribute e f l) c) Q E s :=Attribute_any_ h (by rw[arm_eval_Attribute,m])
end
def FF(K:ar)(d:TE)(f:Str):TE:=λc H Q=>d c H λx b=>∃a C g fs v,x=.ref a/\b a=aa (.ins C g fs)/\Cls K C/\gY K C f/\fs.lookup f=aa v/\Q v b
def Gv(K:ar)(h g:TE)(f:Str):TS:=λD b H=>g b H λy i=>h b i λx d=>∃a C c fs,x=.ref a/\d a=aa (.ins C c fs)/\Cls K C/\gY K C f/\fs.length<1000 /\
 D.nx b (upd d a (.ins C c (d8 f y fs)))
section
variable{X:Cx}{o e b:ay}{f:Str}{pos d j:Pos}{g i:TE}
theorem vd(r:PE X e g)(w:g7 e f X.env (aK e X.env)=aK e X.env):PE X (.Attribute e f pos) (FF X.K g f):=by intro A s σ H Q I h;refine MA w (aT (r A s σ H _ I h) λu J ⟨x,E,D,m,a,C,K,fs,v,y,z,c,n,l,q⟩=>?_);subst y;obtain rfl:u=Value.ref a:=m;exact Mh D z c n l λF G B p=>⟨v,E,B,p,q⟩
theorem AI(E:PE X o g)(A:PE X b i)(B:gD b (aa (.Attribute o f d)) pos.line X.env=pure aj):PS X (.Assign [.Attribute o f d] b pos) (Gv X.K g i f):=by intro p s m H D I h;refine plainObj_wpAny_Assign_Attribute (aT (A p s m H _ I h) λu r ⟨y,M,L,v,q⟩=>aT (E p r m M _ L q) λov O ⟨x,Q,K,w,a,C,P,fs,F,G,c,n,l,z⟩=>?_) B;subst F;obtain rfl:ov=Value.ref a:=w;exact Ll K G c n l v λN J=>⟨m,_,J,z⟩
end
section
variable{X:Cx}{f:List (ac×Obj)}{d:St}{H:Hp}{s:am}{A:aX}{E:ah->am->Prop}{Q:ah->am->Prop}{c:ah}{b:Bool}
inductive gZ(K:ar)(H:Hp):V->ah->Prop where
 |non:gZ K H .non (.type "NoneType")
 |bl (x:Bool):gZ K H (.bl x) (.type "bool")
 |int (i:Int):gZ K H (.int i) (.type "int")
 |str (x:Str):gZ K H (.str x) (.type "str")
 |flt (x:UInt64):gZ K H (.flt x) (.type "float")
 |lst {a:ac}{xs:List V} (e:H a=aa (.lst xs)):gZ K H (.ref a) (.type "list")
 |frz {a:ac}{o:Obj}{xs:List V} (e:H a=aa (.frz o (.lst xs))):gZ K H (.ref a) (.type "list")
 |tup {a:ac}{xs:List V} (e:H a=aa (.tup xs)):gZ K H (.ref a) (.type "tuple")
 |dK {a:ac}{kvs:List (aM×V)} (e:H a=aa (.dK kvs)):gZ K H (.ref a) (.type "dict")
 |dT {a:ac}{kvs:List (List aM×V)} (e:H a=aa (.dT kvs)):gZ K H (.ref a) (.type "dict")
 |ins {a C dx:ac}{fs:List (Str×V)} (e:H a=aa (.ins C dx fs)) (cl:Cls K C) (ha:gC K (.ref C) "__class__"=aa (aa (.builtin "object.__class__")))
   (hn:PySem.W.specialIn K (.builtin "object.__class__") "__get__"=aa (aa (.builtin "getset_descriptor.__get__"))) (tm:PySem.W.takesIn K (.builtin "object.__class__")=aa ai)
   (hm:PySem.W.mroIn K C (.type "object")=aa ai):gZ K H (.ref a) (.ref C)
theorem Iv{x:V}{u t:ah}(I:Inv X f d H s)(g:RelV x u)(ty:gZ X.K H x t)(e:iD X.K t c=aa b)(h:∀r,Q (.bool b) {s with toks:=r}):aw (az X.prog X.w) A (call (.builtin "isinstance") [u,c]) Q E s:=by
 cases ty with
 |non=>cases (show u=Value.none from g);exact kA PySem.W.kitx_none I.kIn True.intro e (λz=>nomatch z) h
 |bl y=>cases (show u=Value.bool y from g);exact kA PySem.W.kitx_bool I.kIn True.intro e (λz=>nomatch z) h
 |int i=>obtain⟨t,q⟩:=(show ∃t,u=Value.int i t from g);cases q;exact kA PySem.W.kitx_int I.kIn True.intro e (λz=>nomatch z) h
 |str y=>obtain⟨t,q⟩:=(show ∃t,u=Value.str y t from g);cases q;exact kA PySem.W.kitx_str I.kIn True.intro e (λz=>nomatch z) h
 |flt y=>obtain⟨t,q⟩:=(show ∃t,u=Value.float y t from g);cases q;exact kA PySem.W.kitx_float I.kIn True.intro e (λz=>nomatch z) h
 |@lst a l ea=>
  cases (show u=Value.ref a from g);obtain⟨_,_,n,_,j⟩:=(show cZ X.prog X.w H s.heap a (.lst l)from I.hok a _ ea)
  exact kA PySem.W.kitx_list I.kIn ⟨_,j,rfl⟩ e (λz=>nomatch z) h
 |@frz a ob l ea=>
  cases (show u=Value.ref a from g);obtain⟨_,_,_,n,_,j⟩:=(show cZ X.prog X.w H s.heap a (.frz ob (.lst l))from I.hok a _ ea)
  exact kA PySem.W.kitx_list I.kIn ⟨_,j,rfl⟩ e (λz=>nomatch z) h
 |@tup a l ea=>
  cases (show u=Value.ref a from g);obtain⟨_,_,_,p,_⟩:=(show cZ X.prog X.w H s.heap a (.tup l)from I.hok a _ ea)
  obtain⟨o,j,m,_⟩:=p;exact kA PySem.W.kitx_tuple I.kIn ⟨o,j,m⟩ e (λz=>nomatch z) h
 |@dK a kvs ea=>
  cases (show u=Value.ref a from g);obtain⟨_,_,B,_,p⟩:=(show cZ X.prog X.w H s.heap a (.dK kvs)from I.hok a _ ea)
  obtain⟨o,v,w,j,m,_⟩:=p;exact kA PySem.W.kitx_dict I.kIn ⟨o,j,m.1⟩ e (λz=>nomatch z) h
 |@dT a kvs ea=>
  cases (show u=Value.ref a from g);obtain⟨_,_,l,_,o,v,w,j,m,_⟩:=(show cZ X.prog X.w H s.heap a (.dT kvs)from I.hok a _ ea)
  exact kA PySem.W.kitx_dict I.kIn ⟨o,j,m.1⟩ e (λz=>nomatch z) h
 |@ins a C dx fs ea cl ha hn tm hm=>
  cases (show u=Value.ref a from g);obtain⟨F,O,_⟩:=uT I.hok ea;obtain⟨D,J,_⟩:=O.look;exact kA (PySem.W.kitx_own (cl.get _) cl.hd ha hn tm hm) I.kIn J e (λz=>nomatch z) h
end
structure Room(k:Nat)(A:aX):Prop where
 hd:A.handled=ae
 dp:A.depth+3*k+5<zu
 un:A.units+16*k+200<cLine
theorem Room.mono{j k:Nat}{A:aX}(r:Room k A)(h:j<=k):Room j A:=⟨r.hd,by have:=r.dp;lia,by have:=r.un;lia⟩
theorem Room.deeper{k:Nat}{A:aX}(r:Room (k+1) A)(a:Env):Room k (A.deeper a) :=⟨r.hd,by have:=r.dp;show A.depth+1+3*k+5<_;lia,by have:=r.un;show A.units+3+16*k+200<_;lia⟩
theorem Room.in1{k:Nat}{A:aX}(r:Room (k+1) A):Room k A.in1 :=⟨r.hd,by have:=r.dp;show A.depth+3*k+5<_;lia,by have:=r.un;show A.units+1+16*k+200<_;lia⟩
theorem NL{A:aX}{C:ac}{a:List ah}{b:List (Str×ah)}:(A.«under» (.builtin "type.__call__" ⟨.ref C::a,b⟩)).depth=A.depth+1:=by
 first|rfl|simp[Around.«under»,Code.weight,Code.isCreation,Code.isGuard,Code.isCaller,Code.frames,Code.isFrame,guardIds]
theorem MV{A:aX}{C:ac}{a:List ah}{b:List (Str×ah)}:(A.«under» (.builtin "type.__call__" ⟨.ref C::a,b⟩)).units=A.units+1:=by
 first|rfl|simp[Around.«under»,Code.cUnits,Code.frames,Code.isFrame]
theorem Room.make{k:Nat}{A:aX}(r:Room (k+1) A)(C:ac)(a:List ah)(b:List (Str×ah)):Room k (A.«under» (.builtin "type.__call__" ⟨.ref C::a,b⟩)) :=⟨r.hd,by have:=r.dp;rw[NL];lia,by have:=r.un;rw[MV];lia⟩
theorem Room.depth{k:Nat}{A:aX}(r:Room k A):A.depth<zu:=by have:=r.dp;lia
theorem Room.units{k:Nat}{A:aX}(r:Room k A):A.units+64<cLine:=by have:=r.un;lia
def BB:TA:=λ_ H Q=>Q [] H
def HN(d:TE)(c:TA):TA:=λa H Q=>d a H λx g=>c a g λb f=>Q (x::b) f
section
variable{X:Cx}{e:ay}{es:List ay}{te:TE}{t:TA}{a:Pos}
theorem jB:PA X [] BB:=λ_ _ _ _ H Q I h=>Eo ⟨[],H,I,.nil,h⟩
theorem io(o:PE X e te)(n:PA X es t)(m:aL (e::es) X.env=(aj,aK e X.env)::aL es X.env:=by rfl):PA X (e::es) (HN te t):=by intro a c s b H Q I h;rw[m];show aw _ _ (spliced ((aj,aK e X.env)::ce a (aL es X.env))) _ _ s;refine zv (aT (o c s b H _ I h) λu f ⟨x,v,q,i,l⟩=>?_);exact aT (n a c f b v _ q l) λw y ⟨d,r,p,g,j⟩=>⟨x::d,r,p,.cons i g,j⟩
def JX(t:TA):TE:=λd H Q=>t d H λb c=>b.length<=bc/\∀p,c p=ae->Q (.ref p) (upd c p (.tup b))
def FO(t:TA):TE:=λd H Q=>t d H λb c=>b.length<=bc/\∀p,c p=ae->Q (.ref p) (upd c p (.lst b))
theorem G1{x1}(h:PA X es t):PE X (.Tuple es x1 a) (JX t):=by intro n s g H Q I l;refine wpAny_Tuple_spliced (aT (h a n s g H _ I l) λj c ⟨i,f,d,r,z,q⟩=>⟨by rw[<-r.length];exact z,?_⟩);have m:f c.heap.objs.size=ae:=d.hok.fresh (bd _);refine⟨.ref c.heap.objs.size,upd f c.heap.objs.size (.tup i),d.laid (t':=c.toks) (λb u e=>bi _ e) (bd _) ?_,rfl,q _ m⟩;exact⟨z,j,r,⟨⟨_,cm _ rfl,rfl,_,rfl⟩,_,cm _ rfl,rfl⟩⟩
theorem M5(h:PA X es t):PE X (.List es a) (FO t):=by intro n s g H Q I l;refine wpAny_List_spliced (aT (h a n s g H _ I l) λj c ⟨i,f,d,r,z,q⟩=>⟨by rw[<-r.length];exact z,?_⟩);have m:f c.heap.objs.size=ae:=d.hok.fresh (bd _);refine⟨.ref c.heap.objs.size,upd f c.heap.objs.size (.lst i),d.laid (t':=c.toks) (λb u e=>bi _ e) (bd _) ?_,rfl,q _ m⟩;exact⟨z,j,0,r,cm _ rfl⟩
end
abbrev Sp:=List V->Hp->VK->XK->Prop
abbrev dQ:=List Env->Hp->am->XK->ah->am->Prop
structure oQ(P:aY)(w:aR)(K:ar)(mg:Str->Option ah)(base:aC)(A:aX)(outer:List Env)(s:am)(H:Hp):Prop where
 frames:A.frames=aa outer
 mod:Mod K mg base
 bs:∀b o,base.get? b=aa o->s.heap.get? b=aa o/\H b=ae
 bsz:base.objs.size<=s.heap.objs.size
 funs:s.heap.FunFrames base outer
 frf:∀b∈eV outer,H b=ae
 hok:c_ P w H s.heap
 bare:lI s.gens
 tab:uj K H
def CE(a:List Env)(P:aY)(w:aR)(H:Hp)(s:am)(Q:VK)(u:ah)(b:am):Prop :=
 ∃v c,b.os=s.os/\lI b.gens/\Un (eV a) [] H c s.heap b.heap/\c_ P w c b.heap/\RelV v u/\Q v c
def CR(c:dQ)(a:List Env)(P:aY)(w:aR)(H:Hp)(s:am)(Q:VK)(E:XK)(r:Result)(b:am):Prop :=
 match r with
 |.ok (.ret u)=>CE a P w H s Q u b
 |.ok _=>False
 |.error e=>c a H s E e b
structure fO(P:aY)(w:aR)(K:ar)(mg:Str->Option ah)(base:aC)(CX:dQ)(k:Nat)(f:ac)(fd:gb)(ps:List Str)(sp:Sp):Prop where
 len:∀vs H Q E,sp vs H Q E->vs.length=ps.length
 run:∀(A:aX) (outer:List Env) (s:am) (H:Hp) (args:Args) (us:List ah) (vs:List V) (Q:VK) (E:XK),Room k A->oQ P w K mg base A outer s H->BindsTo s fd args (ps.zip us)->bq vs us->sp vs H Q E ->
  ku (az P w) A (.call (.ref f) args) (CR CX outer P w H s Q E) s
theorem oQ.make{P:aY}{w:aR}{K:ar}{c:Str->Option ah}{b:aC}{A:aX}{a:List Env}{s:am}{H:Hp}(e:oQ P w K c b A a s H)(C:ac)(d:List ah)(f:List (Str×ah)):oQ P w K c b (A.«under» (.builtin "type.__call__" ⟨.ref C::d,f⟩)) a s H:=⟨by first|exact e.frames | (simpa[Around.«under»,Code.envs,Code.isFrame,pushEnvs]using e.frames),e.mod,e.bs,e.bsz,e.funs,e.frf,e.hok,e.bare,e.tab⟩
section
variable{X:Cx}{f:List (ac×Obj)}{a:St}{H:Hp}{s c:am}
theorem Inv.env0(I:Inv X f a H s):oQ X.prog X.w X.K X.mg X.base X.A X.stack s H :=⟨I.ok.frames,I.ok.mod,I.bs,cO I.ok.bsz I.sz,I.stack,I.stkFree,I.hok,I.bare,I.tab⟩
theorem Inv.after{Q:VK}{u:ah}(I:Inv X f a H s)(h:CE X.stack X.prog X.w H s Q u c):EP X f a Q u c:=by obtain⟨v,n,l,bare,un,j,r,q⟩:=h;obtain⟨m,g,d,t,i⟩:=c;obtain rfl:i=s.os:=l;exact⟨v,n,I.call (h':=m) (g':=g) (d':=d) (t':=t) (ch:=[]) un j bare (λb z=>absurd z (by simp)),r,q⟩
end
def Hg(d:Sp)(a:List V)(E:XK)(t:TA):TE:=λb H Q=>t b H λc f=>d (c++a) f Q E
def BD(C:ac)(m:Str)(g:Sp)(b:List V)(E:XK)(f:TE)(t:TA):TE:=λc H Q=>f c H λx d=>∃a h fs,x=.ref a/\d a=aa (.ins C h fs)/\fs.lookup m=ae /\
 t c d λvs i=>g (x::(vs++b)) i Q E
def Lf(C:ac)(g:Sp)(b:List V)(E:XK)(t:TA):TE:=λd H Q=>t d H λf c=>∀x a,c x=ae->c a=ae->a≠x ->
 g (.ref x::(f++b)) (upd (upd c a (.own x)) x (.ins C a [])) (λv h=>v=.non/\Q (.ref x) h) E
def Binds(K:ar)(c:gb)(a:List Str)(b:List ah):Prop :=
 ∀(s:am) (us:List ah),K.In s.heap->(us++b).length=a.length->BindsTo s c ⟨us,[]⟩ (a.zip (us++b))
theorem Binds.all{K:ar}{d:gb}{b:List Str}(h:∀a:List ah,a.length=b.length->dP d ⟨a,[]⟩=pure (b.zip a)):Binds K d b []:=λs a _ c=>by rw[kB]at c ⊢;exact .of_eq (h a c)
def iQ(c:dQ)(X:Cx)(E:XK):Prop:=∀(b:List (ac×Obj)) (a:St) (H:Hp) (s:am) (e:ah) (s':am),Inv X b a H s->c X.stack H s E e s'->X.xe e s'
section
variable{X:Cx}{z:dQ}{k:Nat}{f C:ac}{y:gb}{n:List Str}{w:Sp}{d:List V}{i:List ah}{E:XK}{x m:Str}{p b g:Pos}{e o:ay}{j:List ay}{A:TE}{t:TA}
theorem zg{l:List (ac×Obj)}{c:St}{H:Hp}{s:am}{Q:VK}{us:List ah}{vs:List V}(F:fO X.prog X.w X.K X.mg X.base z k f y n w)(D:Room k X.A)(K:Binds X.K y n i)(J:bq d i)(B:iQ z X E)(I:Inv X l c H s) (r:bq vs us) (h:w (vs++d) H Q E):aw (az X.prog X.w) X.A (call (.ref f) us) (EP X l c Q) X.xe s:=by
 have q:bq (vs++d) (us++i):=r.append J;have G:(us++i).length=n.length:=by rw[<-q.length];exact F.len _ _ _ _ h
 refine wpAny_call (sH (F.run X.A X.stack s H ⟨us,[]⟩ (us++i) (vs++d) Q E D I.env0 (K s us I.kIn G) q h) λr v a=>?_);cases r with
 |error e=>exact B l c H s e v I a
 |ok L=>
  cases L with
  |ret u=>exact I.after a
  |next=>exact iZ a
  |brk=>exact iZ a
  |cont=>exact iZ a
theorem Bl(F:fO X.prog X.w X.K X.mg X.base z k f y n w)(u:Room k X.A)(D:Gl X x)(v:X.mg x=aa (.ref f))(B:kx X.K (.ref f)=ai)(K:Binds X.K y n i)(J:bq d i)(l:iQ z X E)(L:PA X (e::j) t) (M:(x==("__debug__":Str))=aj:=by decide) (G:aL (e::j) X.env=(aj,aK e X.env)::aL j X.env:=by rfl) (N:(ce b (aL j X.env)).any (·.1)=aj:=by rfl):PE X (.Call (.Name x p) (e::j) [] b) (Hg w d E t):=by intro O s c H Q I h;refine v_ (vV I D v ?_ M);refine Ep (h₀:=X.base) I.ok.mod.kin B (aT (L b O s c H _ I h) λS T ⟨P,W,a,r,q⟩=>⟨a.kIn,?_⟩) G N;exact zg F u K J l a r q
theorem Hr{pl:Sem Bool}(S:PE X o A)(c:Cls X.K C)(B:qG X.K C m f)(F:fO X.prog X.w X.K X.mg X.base z k f y n w)(P:Room k X.A)(W:Binds X.K y n i)(T:bq d i)(N:iQ z X E)(Y:PA X (e::j) t)(eJ:aL (e::j) X.env=(aj,aK e X.env)::aL j X.env:=by rfl) (bY:(ce b (aL j X.env)).any (·.1)=aj:=by rfl)(O:aK (.Call (.Attribute o m g) (e::j) [] b) X.env=(do
   let ov <-aK o X.env
   standAt g.atName
   let (f,first) <-pL [ov] (sF ov m pl)
   callWith b f first (ce b (aL (e::j) X.env)) (lO b (lP [] X.env))):=by rfl) :
  PE X (.Call (.Attribute o m g) (e::j) [] b) (BD C m w d E A t):=by
 intro D s v H Q I h;refine PySem.W.methodCall_KW (pl:=pl) (aT (S D s v H _ I h) λu K ⟨x,H1,J,L,a,dx,fs,Z,ea,l,q⟩=>?_) O;subst Z;obtain rfl:u=Value.ref a:=L;refine AQ J ea c B l ?_;refine Ep (first:=[.ref a]) (h₀:=X.base) I.ok.mod.kin B.kp (aT (Y b D K v H1 _ J q) λus s2 ⟨vs,H2,G,r,M⟩=>⟨G.kIn,?_⟩) eJ bY;exact zg (us:=.ref a::us) (vs:=.ref a::vs) F P W T N G (.cons rfl r) M
theorem Gu{pl:Sem Bool}(L:PE X o A)(c:Cls X.K C)(v:qG X.K C m f)(F:fO X.prog X.w X.K X.mg X.base z k f y n w)(K:Room k X.A)(N:Binds X.K y n i)(M:bq d i)(G:iQ z X E)(J:aK (.Call (.Attribute o m g) [] [] b) X.env=(do
   let ov <-aK o X.env
   standAt g.atName
   let (f,first) <-pL [ov] (sF ov m pl)
   callWith b f first (ce b (aL [] X.env)) (lO b (lP [] X.env))):=by rfl) :
  PE X (.Call (.Attribute o m g) [] [] b) (BD C m w d E A BB):=by
 intro S s B H Q I h;refine PySem.W.methodCall_KW (pl:=pl) (aT (L S s B H _ I h) λu T ⟨x,Y,r,D,a,W,fs,O,P,l,q⟩=>?_) J;subst O;obtain rfl:u=Value.ref a:=D;refine AQ r P c v l ?_;exact PySem.W.callWith_K0 (first:=[.ref a]) r.kIn v.kp (zg (us:=[.ref a]) (vs:=[.ref a]) F K N M G r (.cons rfl .nil) q)
structure Mk(K:ar)(C f:ac):Prop where
 makes:PySem.W.makesIn K C=ai
 init:gC K (.ref C) "__init__"=aa (aa (.ref f))
 fn:v9 K (.ref f)=ai
 kp:kx K (.ref C)=ai
theorem FK{G:List (ac×Obj)}{B:St}{H:Hp}{s:am}{Q:VK}{a:List ah}{D:List V}(M:Mk X.K C f)(F:fO X.prog X.w X.K X.mg X.base z k f y n w)(S:Room (k+1) X.A)(Y:Binds X.K y n i)(W:bq d i)(P:iQ z X E) (I:Inv X G B H s) (r:bq D a)(h:∀x l,H x=ae->H l=ae->l≠x->w (.ref x::(D++d)) (upd (upd H l (.own x)) x (.ins C l [])) (λv H2=>v=.non/\Q (.ref x) H2) E):aw (az X.prog X.w) X.A (call (.ref C) a) (EP X G B Q) X.xe s:=by
 have K:=h (s.heap.objs.size+1) s.heap.objs.size (I.hok.fresh (sI _)) (I.hok.fresh (bd _)) (cN (iY _));have q:=Inv.made (C:=C) I;have J:bq (V.ref (s.heap.objs.size+1)::(D++d)) (Value.ref (s.heap.objs.size+1)::(a++i)):=.cons rfl (r.append W);have T:(Value.ref (s.heap.objs.size+1)::a++i).length=n.length:=by have e:=J.length;rw[F.len _ _ _ _ K]at e;exact e.symm
 refine wpAny_call (MX (f:=f) I.kIn M.makes M.init (beq_iff_eq.mp M.fn) (sH (F.run _ X.stack _ _ ⟨Value.ref (s.heap.objs.size+1)::a,[]⟩ (Value.ref (s.heap.objs.size+1)::(a++i)) _ _ E (S.make C a []) (q.env0.make C a []) (Y _ (Value.ref (s.heap.objs.size+1)::a) q.kIn T) J K) λr L c=>?_));cases r with
 |error e=>exact P G B _ _ e L q c
 |ok Z=>
  cases Z with
  |ret u=>obtain⟨v,H',I3,N,ev,O⟩:=q.after c;subst ev;exact⟨N,⟨V.ref (s.heap.objs.size+1),H',I3,rfl,O⟩⟩
  |next=>exact iZ c
  |brk=>exact iZ c
  |cont=>exact iZ c
theorem JB(M:Mk X.K C f)(F:fO X.prog X.w X.K X.mg X.base z k f y n w)(u:Room (k+1) X.A)(B:Gl X x)(v:X.mg x=aa (.ref C))(J:Binds X.K y n i)(G:bq d i)(l:iQ z X E)(K:PA X (e::j) t) (L:(x==("__debug__":Str))=aj:=by decide) (D:aL (e::j) X.env=(aj,aK e X.env)::aL j X.env:=by rfl) (N:(ce b (aL j X.env)).any (·.1)=aj:=by rfl):PE X (.Call (.Name x p) (e::j) [] b) (Lf C w d E t):=by intro O s c H Q I h;refine v_ (vV I B v ?_ L);refine Ep (h₀:=X.base) I.ok.mod.kin M.kp (aT (K b O s c H _ I h) λS T ⟨P,W,a,r,q⟩=>⟨a.kIn,?_⟩) D N;exact FK M F u J G l a r q
end
structure bJ(N P:List Str)(sc:dm):Prop where
 kind:sc.kind=.function
 co:sc.isCoroutine=aj
 gen:sc.isGenerator=aj
 nd:N.Nodup
 pre:N.take P.length=P
 par:∀x∈P,sc.names.lookup x=aa .local\/sc.names.lookup x=aa .cell
 nofree:∀y∈sc.names,y.2≠.free
theorem CI{a:Str->Option fL}{x:Str}:∀{binds:List (Str×ah)}{m:Str->Option ah},(∀v,(x,v)∉binds)->bindL a binds m x=m x
 |[],_,_=>rfl
 | (n,v)::r,m,h=>by
  unfold bindL;rw[CI λw b=>h w (iA _ b)];split
  .have:x≠n:=by rintro rfl;exact h v lJ
   simp[this]
  .rfl
theorem Eb{a:Str->Option fL}{x:Str}:∀{binds:List (Str×ah)}{m:Str->Option ah},(∀v,(x,v)∉binds)->bindC a binds m x=m x
 |[],_,_=>rfl
 | (n,v)::r,m,h=>by
  unfold bindC;rw[Eb λw b=>h w (iA _ b)];split
  .rfl
  .have:x≠n:=by rintro rfl;exact h v lJ
   simp[this]
theorem Bb{a:Str->Option fL}{x:Str}{v:ah}:∀{P:List Str}{b:List ah}{i:Nat}{m:Str->Option ah},P.Nodup->P[i]?=aa x->b[i]?=aa v->a x=aa .local -> bindL a (P.zip b) m x=aa v
 |[],_,_,_,_,h,_,_=>by simp at h
 |_::_,[],_,_,_,_,h,_=>by simp at h
 |p::P,w::b,0,m,nd,h1,h2,hk=>by simp at h1 h2;subst h1;subst h2;show bindL a ((p,w)::P.zip b) m p=_;unfold bindL;rw[CI λv c=>(jT.mp nd).1 (List.of_mem_zip c).1,if_pos hk];simp
 |p::P,w::b,i+1,m,nd,h1,h2,hk=>by show bindL a ((p,w)::P.zip b) m x=_;unfold bindL;exact Bb (i:=i) (jT.mp nd).2 (by simpa using h1) (by simpa using h2) hk
theorem D_{a:Str->Option fL}{x:Str}{v:ah}:∀{P:List Str}{b:List ah}{i:Nat}{m:Str->Option ah},P.Nodup->P[i]?=aa x->b[i]?=aa v->a x≠aa .local -> bindC a (P.zip b) m x=aa v
 |[],_,_,_,_,h,_,_=>by simp at h
 |_::_,[],_,_,_,_,h,_=>by simp at h
 |p::P,w::b,0,m,nd,h1,h2,hk=>by simp at h1 h2;subst h1;subst h2;show bindC a ((p,w)::P.zip b) m p=_;unfold bindC;rw[Eb λv c=>(jT.mp nd).1 (List.of_mem_zip c).1,if_neg hk];simp
 |p::P,w::b,i+1,m,nd,h1,h2,hk=>by show bindC a ((p,w)::P.zip b) m x=_;unfold bindC;exact D_ (i:=i) (jT.mp nd).2 (by simpa using h1) (by simpa using h2) hk
def start(N:List Str)(a:List V):St:=a.map aa++cY (N.length-a.length) ae
def eO(g:dQ)(P:aY)(w:aR)(K:ar)(mg:Str->Option ah)(base:aC)(N:List Str)(b:Str)(a:dm)(f:ac)(d:ah)(A:aX)(outer:List Env)(s:am)(H:Hp)(E:XK):Cx where
 prog:=P
 w:=w
 K:=K
 mg:=mg
 base:=base
 A:=A.deeper (fD b a s.heap.objs.size f d)
 N:=N
 s₀:=s
 H₀:=H
 env:=fD b a s.heap.objs.size f d
 outer:=outer
 stack:=fD b a s.heap.objs.size f d::outer
 ex:=[]
 calm:=ai
 fn:=λ_=>ai
 pn:=[]
 xe:=λe s'=>aw (az P w) (A.deeper (fD b a s.heap.objs.size f d)) (leaving (fD b a s.heap.objs.size f d) e) (λ_ c=>g outer H s E e c) (λh c=>g outer H s E h c) s'
theorem A0{a:dm}{n:Nat}{x:Str}(h:a.names.lookup x=aa .cell):∃c,(fc n a.names []).lookup x=aa c:=by have q:=PySem.W.cellsFrom_some a.names n [] (.inl h);exact Option.isSome_iff_exists.mp q
theorem JC{Y:dQ}{P:aY}{w:aR}{K:ar}{Q:Str->Option ah}{o:aC}{N C:List Str}{j:Str}{d:dm}{f:ac}{M:ah}{A:aX}{g:List Env}{s T:am}{H:Hp}{E:XK}{O:List ah}{B:List V}(S:bJ N C d) (hd:A.handled=ae) (m:oQ P w K Q o A g s H) (hl:B.length=C.length) (r:bq B O)(x:InCallC s s.heap.objs.size (bindL (fD j d s.heap.objs.size f M).kindOf (C.zip O) λ_=>ae) (fc (s.heap.objs.size+1) d.names []) (bindC (fD j d s.heap.objs.size f M).kindOf (C.zip O) λ_=>ae) T):Inv (eO Y P w K Q o N j d f M A g s H E) [] (start N B) H T:=by
 have bY:C.length<=N.length:=by have:=congrArg nY S.pre;rw[pN]at this;lia
 obtain⟨L,tk,rfl,X⟩:=x.done;have D:∀b:ac,b∉(eO Y P w K Q o N j d f M A g s H E).ex:=λb z=>absurd (show b∈([]:List ac)from z) (by simp);refine⟨⟨m.mod,S.kind,rfl,rfl,bd _,λy z c L l=>?_,λy F=>?_,λy c _ h=>?_,λ_=>hd,Around.frames_deeper m.frames,.inr ⟨rfl,rfl⟩,λb z=>absurd z (D b),m.bs,m.bsz,λb _ _=>D b,λb z=>absurd z (D b),m.funs,m.frf,m.tab⟩,rfl,m.bare,Un.kept X,⟨_,x.toInCall.ns,λi y v L l h3=>?_⟩,λy c h=>⟨_,x.cell y c h⟩,m.hok.fresh (bd _),λy c h=>?_,λp I=>absurd (show p∈([]:List (ac×Obj))from I) (by simp),m.hok.kept X,?_⟩
 .exact name_of_addr x.apart (i3 L) (i3 l)
 .have F:d.names.lookup y=aa .cell\/d.names.lookup y=aa .free:=F;rcases F with F|F
  .exact A0 F
  .exact absurd rfl (S.nofree _ (i3 F))
 .exact kt (x.above y c (i3 h))
 .have J:i<B.length:=by
   unfold start at l;by_cases J:i<B.length
   .exact J
   .rw[nZ (by simpa using J)]at l;rw[List.getElem?_replicate]at l;split at l <;> cases l
  have ha:B[i]?=aa v:=by
   unfold start at l;rw[g8 (by simpa using J),jU]at l;cases e:B[i]? with
   |none=>rw[e]at l;cases l
   |some a=>rw[e]at l;cases l;rfl
  obtain⟨u,W,Z⟩:=r.get ha;have I:C[i]?=aa y:=by rw[<-S.pre,List.getElem?_take_of_lt ∅];exact L
  have G:C.Nodup:=by rw[<-S.pre];exact S.nd.sublist (List.take_sublist _ _)
  refine⟨u,Z,?_⟩;rcases S.par y (List.mem_of_getElem? I)with k|k
  .exact .inl ⟨k,Bb G I W k⟩
  .obtain⟨c,e⟩:=A0 (n:=s.heap.objs.size+1) k;refine .inr ⟨.inl k,c,e,?_⟩;have q:=x.cell y c e;rw[D_ G I W (by show d.names.lookup y≠_;rw[k];decide)]at q;exact q
 .exact m.hok.fresh (kt (x.above y c (i3 h)))
 .unfold start;show _=N.length;rw[eG,cf,List.length_replicate];lia
theorem wJ{M:dQ}{P:aY}{w:aR}{K:ar}{L:Str->Option ah}{h:aC}{k:Nat}{f:ac}{m d:Str}{g:sJ}{i:List aU}{a:dm}{dV kV F pm z ct oc:ah}{an od:Option ac}{X:Array (Option ah)}{N G:List Str}{O:Sp} (lk:K.lookup f=aa ⟨oc,od,.func (fG m d g i a dV kV F pm an z ct),X⟩) (bf:pO K z d=ai) (S:bJ N G a)(len:∀l H Q E,O l H Q E->l.length=G.length)(ff:∀(A:aX) (c:List Env) (s:am) (H:Hp) (l:List V) (Q:VK) (E:XK),Room k (A.deeper (fD d a s.heap.objs.size f z))->O l H Q E -> ∃t,jL (eO M P w K L h N d a f z A c s H E) i t/\t {nx:=λ_ p=>Q .non p,rt:=Q} (start N l) H):fO P w K L h M (k+1) f (fG m d g i a dV kV F pm an z ct) G O:=by
 refine⟨len,λA c s H args us l Q E Z D hb r iI=>?_⟩;have hl:=len _ _ _ _ iI;have KX:K.In s.heap:=D.mod.kin.keeps λb o e=>(D.bs b o e).1;have Y:s.heap.NoLimit:=D.mod.nolimit.keeps λb o e=>(D.bs b o e).1;have Ob:∀y∈G.zip us,a.names.lookup y.1=aa .local\/(a.names.lookup y.1=aa .cell/\((fc (s.heap.objs.size+1) a.names []).lookup y.1).isSome=ai):=λ⟨n,v⟩ hy=>by
  rcases S.par n (List.of_mem_zip hy).1 with q|q
  .exact .inl q
  .exact .inr ⟨q,PySem.W.cellsFrom_some _ _ _ (.inl q)⟩
 refine codeAny_call_function Z.depth (KX _ _ lk) rfl S.co S.gen rfl (PySem.W.codeRec_of KX bf) (hb _ _ _ _ ?_);refine wpAny_newFunctionEnv_cells S.kind Ob λenv he s1 x=>?_;subst he;refine⟨Y.keeps x.toInCall.keep,codeAny_func ?_⟩;obtain⟨t,ht,hq⟩:=ff A c s H l Q E (Z.deeper _) iI;have I:Inv (eO M P w K L h N d a f z A c s H E) [] (start N l) H s1:=JC S Z.hd D hl r x;refine eF (ht [] s1 (start N l) H _ I hq) (λfl T B=>?_) λe T B=>B;have C:∀{j:St}{p:Hp}{v:V}{u:ah},Inv (eO M P w K L h N d a f z A c s H E) [] j p T->RelV v u->Q v p->CE c P w H s Q u T :=λ{j p v u} J W q=>⟨v,p,J.os,J.bare,J.base,J.hok,W,q⟩
 cases fl with
 |ret u=>obtain⟨v,j,p,J,W,q⟩:=B;exact C J W q
 |next=>obtain⟨j,p,J,q⟩:=B;exact C (v:=V.non) (u:=Value.none) J rfl q
 |brk=>obtain⟨_,_,_,q⟩:=B;exact iZ q
 |cont=>obtain⟨_,_,_,q⟩:=B;exact iZ q
section
variable{X:Cx}{x:Str}{p a:Pos}{e:ay}{b:List ay}{t:TA}{c T:String}{r:List V->Hp->VK->Prop}
def Dg(r:List V->Hp->VK->Prop)(t:TA):TE:=λd H Q=>t d H λf g=>r f g Q
theorem sj(w:fh X (.builtin c) r)(u:Gl X x)(q:X.mg x=ae)(n:d3 x=aa (.builtin c))(y:PA X (e::b) t)(o:x≠"__name__":=by decide)(z:(x==("__debug__":Str))=aj:=by decide)(v:aL (e::b) X.env=(aj,aK e X.env)::aL b X.env:=by rfl) (A:(ce a (aL b X.env)).any (·.1)=aj:=by rfl):PE X (.Call (.Name x p) (e::b) [] a) (Dg r t):=by intro f s d H Q I h;refine v_ (r8 I u q n ?_ o z);exact PyProof.Rows.callWith_builtin1 (aT (y a f s d H _ I h) λi j ⟨g,C,B,l,m⟩=>w f j d C g i Q B l m) v A
theorem vx(w:fh X (.type T) r)(u:Gl X x)(q:X.mg x=ae)(n:d3 x=aa (.type T))(y:PA X (e::b) t)(o:x≠"__name__":=by decide)(z:(x==("__debug__":Str))=aj:=by decide)(v:aL (e::b) X.env=(aj,aK e X.env)::aL b X.env:=by rfl) (A:(ce a (aL b X.env)).any (·.1)=aj:=by rfl):PE X (.Call (.Name x p) (e::b) [] a) (Dg r t):=by intro f s d H Q I h;refine v_ (r8 I u q n ?_ o z);exact PyProof.Rows.callWith_type1 (aT (y a f s d H _ I h) λi j ⟨g,C,B,l,m⟩=>w f j d C g i Q B l m) v A
end
end L2
namespace HT
section
open PySem.SeqAt
open PySem.AutoSeq1 (wpAny_loadPart')
open PySem.MeetsSeq PySem.MeetsSeq2 PySem.MeetsSeq3
end
section
variable{a:aY}{w:aR}{A:aX}{E:ah->am->Prop}{s:am}
theorem cat_tup{t b:ac}{d c:List ah}{Q:ah->am->Prop}(B:IsTup s.heap t d.toArray)(C:IsTup s.heap b c.toArray)(u:d≠[])(F:c=[]->Q (.ref t) s) (D:c≠[]->Q (.ref s.heap.objs.size) {s with heap:=s.heap.push {cls:=.type "tuple",data:=.seq (d++c).toArray}})(l:d.length+c.length<=bc):aw (az a w) A (iX .Add (.ref t) (.ref b)) Q E s:=by
 obtain⟨⟨cls,y,data,p⟩,j,x,n,v⟩:=id B;obtain⟨⟨z,g,m,f⟩,h,r,q,o⟩:=id C;simp only at x v r o;subst x v r o;have e:d.toArray++c.toArray=(d++c).toArray:=by simp
 by_cases i:c=[]
 .exact concat_meets ⟨_,j,rfl⟩ ⟨_,h,rfl⟩ noFill_tuple_add seq_tuple_add PySem.F.slot_tuple_add PySem.F.entry_tuple_add (PySem.F.args_tuple_add_2 _ _)
   (tuple_addW1 t b d.toArray c.toArray n q y g p f (by simpa using u) (by simp[i])) ⟨j,h,F i⟩
 .refine concat_meets ⟨_,j,rfl⟩ ⟨_,h,rfl⟩ noFill_tuple_add seq_tuple_add PySem.F.slot_tuple_add PySem.F.entry_tuple_add (PySem.F.args_tuple_add_2 _ _)
   (tuple_addW2 t b d.toArray c.toArray n q y g p f (by simpa using u) (by simpa using i) (by rw[cu,cu];exact l)) ⟨j,h,?_⟩
  rw[e];exact D i
def sIx(n d:Nat):Option Int->Nat
 |none=>d
 |some v=>if v<0 then(v+(n:Int)).toNat else min v.toNat n
theorem sIx_nat(n d k:Nat):sIx n d (aa (k:Int))=min k n:=by show(if(k:Int)<0 then((k:Int)+(n:Int)).toNat else min (k:Int).toNat n)=min k n;rw[if_neg ∅,mH]
theorem sIx_le(n d:Nat)(c:d<=n)(o:Option Int):sIx n d o<=n:=by
 cases o with
 |none=>exact c
 |some v=>
  show(if v<0 then(v+(n:Int)).toNat else min v.toNat n)<=n;by_cases b:v<0
  .rw[if_pos b];lia
  .rw[if_neg b];exact Nat.min_le_right _ _
theorem AJ(v:Int)(n d:Nat):(if v<0 then max (v+(n:Int)) 0 else min v (n:Int))=((sIx n d (aa v):Nat):Int):=by
 show(if v<0 then max (v+(n:Int)) 0 else min v (n:Int))=(((if v<0 then(v+(n:Int)).toNat else min v.toNat n):Nat):Int)
 by_cases b:v<0
 .simp only[if_pos b];lia
 .simp only[if_neg b];lia
theorem Ia(b c:Option Int)(n:Nat):Er b c 1 (n:Int)=(((sIx n 0 b:Nat):Int),((sIx n n c:Nat):Int)):=by
 have d:¬((1:Int)<0):=∅
 unfold Er;simp only[d,if_false];refine Prod.ext ?_ ?_
 .cases b with
  |none=>rfl
  |some v=>exact AJ v n 0
 .cases c with
  |none=>rfl
  |some v=>exact AJ v n n
theorem Le(i j:Nat):zw (i:Int) (j:Int) 1=j-i:=by
 unfold zw;have b:(1:Int) > 0:=∅
 simp only[b,if_true,Int.ediv_one];split <;> lia
theorem DH{v:ah}{o:Option Int}{Q:Option Int->am->Prop}(p:lQ v o)(h:Q o s):aw (az a w) A (Builtin.Slice.slicePartIndex v) Q E s:=by
 cases p with
 |none=>exact slicePart_none h
 |int i t=>exact slicePart_int h
theorem L5{j:ac}{g f:ah}{b c:Option Int}{n:Nat}{Q:Int×Int×Nat->am->Prop}(o:s.heap.IsSliceOf j g f .none)(m:lQ g b)(l:lQ f c)(h:Q (((sIx n 0 b:Nat):Int),1,sIx n n c-sIx n 0 b) s):aw (az a w) A (Builtin.Slice.sliceApplied (.ref j) (pure (n:Int))) Q E s:=by
 obtain⟨q,i,p,d⟩:=id o;unfold Builtin.Slice.sliceApplied Builtin.Slice.sliceFields;refine au (au (pP i d (x:=g) rfl (au (pP i d (x:=f) rfl (au (pP i d (x:=.none) rfl (aN ?_)))))));refine au (slicePart_none ?_);show aw _ _ (if((1:Int) == 0)=ai then _ else _) _ _ s;rw[if_neg (by decide)];refine au (DH m (au (DH l (au (aN ?_)))));show aw _ _ (match Er b c 1 (n:Int)with | (b,c)=>pure (b,(1:Int),zw b c 1)) _ _ s;rw[Ia b c n];show aw _ _ (pure (((sIx n 0 b:Nat):Int),(1:Int),zw ((sIx n 0 b:Nat):Int) ((sIx n n c:Nat):Int) 1)) _ _ s;rw[Le];exact aN h
theorem Kq(b:Array ah)(i k:Nat):((cp k).filterMap λ(m:Nat)=>b[((i:Int)+(m:Int)*1).toNat]?).toArray=((b.toList.drop i).take k).toArray:=by
 have e:(λ(m:Nat)=>b[((i:Int)+(m:Int)*1).toNat]?)=λm=>b[i+m]?:=by
  funext m;have:((i:Int)+(m:Int)*1).toNat=i+m:=∅
  rw[this]
 rw[e];have:=pick_run b i k;rw[List.filterMap_map]at this;have c:((λx=>b[x]?) ∘ λx=>i+x)=λm=>b[i+m]?:=rfl;rw[c]at this;rw[this]
theorem getItem_tuple_cut{t i:ac}{b:Array ah}{p o:ah}{c d:Option Int}{Q:ah->am->Prop}(g:IsTup s.heap t b)(r:s.heap.IsSliceOf i p o .none)(x:lQ p c)(v:lQ o d)(z:¬(sIx b.size 0 c=0/\sIx b.size b.size d=b.size))(h:Q (.ref s.heap.objs.size) {s with heap:=s.heap.push {cls:=.type "tuple",data:=.seq ((b.toList.drop (sIx b.size 0 c)).take (sIx b.size b.size d-sIx b.size 0 c)).toArray}})(B:b.size<=bc):aw (az a w) A (n4 (.ref t) (.ref i)) Q E s:=by
 have f:sizeOk (.seq ((b.toList.drop (sIx b.size 0 c)).take (sIx b.size b.size d-sIx b.size 0 c)).toArray):=by show((b.toList.drop (sIx b.size 0 c)).take (sIx b.size b.size d-sIx b.size 0 c)).toArray.size<=bc;rw[cu,pN,mJ,zj];lia
 have G:sIx b.size b.size d<=b.size:=sIx_le _ _ (bd _) d;obtain⟨y,u,l,C⟩:=id r;have n:s.TypeIs (.ref i) "slice":=⟨y,u,l⟩
 unfold n4
 try with_reducible refine lR ?_
 first|refine au (aN ?_)|skip
 refine au (wpAny_sequenceKey g.typeIs (by decide) ?_);refine au (wpAny_callSpecial?_slot (name:=bn "__getitem__") g.typeIs N5 (wa N5 g.typeIs entry_tuple_getitem ?_ (args_tuple_getitem _ _)));show aw _ _ (Builtin.Tuple.tupleItemsOf (.ref t) >>= _) _ _ s;refine au (tupleItemsOf_ g ?_);refine au (wpAny_typeOf n ?_);rw[if_pos (by decide)];refine au (L5 r x v ?_);have j:¬((((sIx b.size 0 c:Nat):Int) == 0&&(1:Int) == 1&&(sIx b.size b.size d-sIx b.size 0 c) == b.size)=ai):=by intro q;rw[ef,ef]at q;have F:((sIx b.size 0 c:Nat):Int)=0:=eq_of_beq q.1.1;have D:sIx b.size b.size d-sIx b.size 0 c=b.size:=eq_of_beq q.2;exact z ⟨∅,∅⟩
 show aw _ _ (if(((sIx b.size 0 c:Nat):Int) == 0&&(1:Int) == 1&&(sIx b.size b.size d-sIx b.size 0 c) == b.size)=ai then _ else _) _ _ s;rw[if_neg j,Kq]
 first
  |exact au (m:=zx _) (lS (aN ⟨_,rfl,aN h⟩) f)
  |exact au (m:=zx _) (lS (au (aN (aN ⟨_,rfl,aN h⟩))) f)
  |exact au (au (m:=zx _) (lS (aN (aN ⟨_,rfl,aN h⟩)) f))
  |exact au (au (m:=zx _) (lS (aN ⟨_,rfl,aN h⟩) f))
end
end HT
namespace L2
abbrev TO:=St->Hp->(Option Int->Hp->Prop)->Prop
def PO(X:Cx)(e:Option ay)(t:TO):Prop :=
 ∀(b:List (ac×Obj)) (s:am) (a:St) (H:Hp) (Q:Option Int->Hp->Prop),Inv X b a H s->t a H Q ->
  aw (az X.prog X.w) X.A (evalPart e X.env) (λu d=>∃o c,Inv X b a c d/\lQ u o/\Q o c) X.xe s
def Mq:TO:=λ_ H Q=>Q ae H
def Ht(t:TE):TO:=λa H Q=>t a H λx b=>∃i,x=.int i/\Q (aa i) b
section
variable{X:Cx}{e:ay}{f:TE}{c d:Option ay}{g j:TO}{n m:Pos}
theorem IK:PO X ae Mq:=by intro b s a H Q I h;rw[evalPart_none];exact aN ⟨ae,H,I,.none,h⟩
theorem Ky(h:PE X e f):PO X (aa e) (Ht f):=by intro p s a H Q I o;rw[evalPart_some];refine aT (h p s a H _ I o) λu w ⟨x,v,r,b,l⟩=>?_;obtain⟨i,rfl,q⟩:=l;obtain⟨t,rfl⟩:=b;exact⟨aa i,v,r,.int i t,q⟩
def lc(X:Cx)(r:V->Option Int->Option Int->Hp->VK->Prop):Prop :=
 ∀(l:List (ac×Obj)) (s:am) (a:St) (H:Hp) (x:V) (v h b:ah) (c d:Option Int) (i:ac) (Q:VK),Inv X l a H s->RelV x v->s.heap.IsSliceOf i h b .none->lQ h c->lQ b d->r x c d H Q ->
  ∃T o,typeLookup (.type T) "__getitem__"=pure (aa (.builtin o))/\s.TypeIs v T/\aw (az X.prog X.w) X.A (n4 v (.ref i)) (EP X l a Q) X.xe s
theorem lc.or{r p:V->Option Int->Option Int->Hp->VK->Prop}(h:lc X r)(A:lc X p):lc X (λx c d H Q=>r x c d H Q\/p x c d H Q):=by
 intro z s a H x v i b c d l Q I o y w u q;rcases q with q|q
 .exact h z s a H x v i b c d l Q I o y w u q
 .exact A z s a H x v i b c d l Q I o y w u q
def Lx(r:V->Option Int->Option Int->Hp->VK->Prop)(f:TE)(g j:TO):TE:=λa H Q=>f a H λx i=>g a i λl h=>j a h λu b=>r x l u b Q
theorem JP{r:V->Option Int->Option Int->Hp->VK->Prop}(L:lc X r)(O:PE X e f)(M:PO X c g)(J:PO X d j):PE X (.Subscript e (.Slice c d ae m) n) (Lx r f g j):=by intro o s i H Q I h;refine Subscript_ (aT (O o s i H _ I h) λv A ⟨x,H1,Z,B,E⟩=>?_);refine wpAny_Slice (aT (M o A i H1 _ Z E) λw z ⟨l,H2,Y,G,D⟩=>aT (J o z i H2 _ Y D) λp a ⟨u,y,W,F,C⟩=>?_);rw[evalPart_none];refine aN ?_;have S:Inv X o i y {a with heap:=a.heap.push {cls:=.type "slice",data:=.fields #[w,p,.none]}}:=W.kept (t':=a.toks) λb ob q=>bi _ q;obtain⟨T,id,P,K,N⟩:=L o {a with heap:=a.heap.push {cls:=.type "slice",data:=.fields #[w,p,.none]}} i y x v w p l u a.heap.objs.size Q S B (Heap.IsSliceOf.new ..) G F C;show aw (az X.prog X.w) X.A (subscriptTail e (.Slice c d ae m) v (.ref a.heap.objs.size)) (EP X o i Q) X.xe {a with heap:=a.heap.push {cls:=.type "slice",data:=.fields #[w,p,.none]}};exact tail_any (ops:=[.ref a.heap.objs.size,v]) K P N (by with_unfolding_all rfl)
def l8(a:List V)(c d:Option Int):List V:=(a.drop (HT.sIx a.length 0 c)).take (HT.sIx a.length a.length d-HT.sIx a.length 0 c)
theorem AH(a:List V)(c d:Option Int):(l8 a c d).length<=a.length:=by unfold l8;rw[pN,mJ];lia
def C7(K:ar):V->Option Int->Option Int->Hp->VK->Prop:=λx c d H Q=>∃a b,x=.ref a/\cM K H a b /\
 ¬(HT.sIx b.length 0 c=0/\HT.sIx b.length b.length d=b.length)/\∀p,H p=ae->Q (.ref p) (upd H p (.tup (l8 b c d)))
theorem Il:lc X (C7 X.K):=by
 intro L s E H x v G F c d J Q I y D A z h;obtain⟨a,i,rfl,B,C,q⟩:=h;cases y;obtain⟨l,r,w,u⟩:=I.tuple B;have p:l.toArray.size=i.length:=by rw[cu];exact r.length.symm
 refine⟨"tuple",_,PyProof.Rows.slot_tuple_getitem.lookup,w.typeIs,?_⟩;refine HT.getItem_tuple_cut w D A z (by rw[p];exact C) ?_ (by rw[p];exact u);rw[p];refine⟨.ref s.heap.objs.size,_,I.laid (t':=s.toks) (o:=.tup (l8 i c d)) (λb K q=>bi _ q) (bd _) ?_,rfl,q _ (I.hok.fresh (bd _))⟩;exact⟨cO (AH i c d) u,_,(r.drop (HT.sIx i.length 0 c)).take (HT.sIx i.length i.length d-HT.sIx i.length 0 c),Ef.new _ _⟩
def Bo(K:ar):R2:=λx y H Q=>∃a b i h,x=.ref a/\y=.ref b/\cM K H a i/\cM K H b h/\i≠[]/\i.length+h.length<=bc /\
 (h=[]->Q (.ref a) H)/\(h≠[]->∀p,H p=ae->Q (.ref p) (upd H p (.tup (i++h))))
theorem bq.nil_iff{a:List V}{b:List ah}(r:bq a b):b=[]↔a=[]:=by
 cases r with
 |nil=>simp
 |cons _ _=>simp
theorem Ov:bT X (iX .Add) (Bo X.K):=by
 intro P s N H x y v u Q I D C h;obtain⟨a,b,B,A,rfl,rfl,M,L,K,r,F,E⟩:=h;cases D;cases C;obtain⟨J,l,G,_⟩:=I.tuple M;obtain⟨p,i,m,_⟩:=I.tuple L;refine HT.cat_tup G m (λz=>K (l.nil_iff.mp z)) (λz=>⟨.ref a,H,I,rfl,F (i.nil_iff.mp z)⟩) (λz=>?_) (by rw[<-l.length,<-i.length];exact r);refine⟨.ref s.heap.objs.size,_,I.laid (t':=s.toks) (o:=.tup (B++A)) (λb O q=>bi _ q) (bd _) ?_,rfl,E (λw=>z (i.nil_iff.mpr w)) _ (I.hok.fresh (bd _))⟩;exact⟨by rw[eG];exact r,_,l.append i,Ef.new _ _⟩
end
def k_(n:Nat)(i:Int):Option Nat:=if 0<=i then(if i<n then aa i.toNat else ae)else if -(n:Int)<=i then aa (i+n).toNat else ae
def ez{a:Type}(xs:List a)(i:Int):Option a:=(k_ xs.length i).bind λj=>xs[j]?
theorem HB{n:Nat}{i:Int}{j:Nat}(h:k_ n i=aa j):seqIndex? i n=aa j/\j<n/\-(n:Int)<=i/\i<n:=by
 unfold k_ at h;by_cases b:0<=i
 .rw[if_pos b]at h;by_cases a:i<n
  .rw[if_pos a]at h;have e:i.toNat=j:=dY h;exact⟨by rw[seqIndex_of b a,e],∅,∅,a⟩
  .rw[if_neg a]at h;cases h
 .rw[if_neg b]at h;by_cases a:-(n:Int)<=i
  .rw[if_pos a]at h;have e:(i+n).toNat=j:=dY h;exact⟨by rw[seqIndex_neg ∅ a,e],∅,a,∅⟩
  .rw[if_neg a]at h;cases h
theorem xb{b:Type}{a:List b}{i:Int}{v:b}(h:ez a i=aa v):∃j,seqIndex? i a.length=aa j/\a[j]?=aa v/\j<a.length/\-(a.length:Int)<=i/\i<a.length:=by
 unfold ez at h;cases e:k_ a.length i with
 |none=>rw[e]at h;cases h
 |some j=>rw[e]at h;obtain⟨g,f,d,c⟩:=HB e;exact⟨j,g,h,f,d,c⟩
theorem LM{a:Type}{xs:List a}{j:Nat}{v:a}(h:xs[j]?=aa v):ez xs (j:Int)=aa v:=by
 have b:j<xs.length:=(cq.mp h).1;have e:k_ xs.length (j:Int)=aa j:=by unfold k_;rw[if_pos ∅,if_pos ∅];simp
 unfold ez;rw[e];exact h
def CB(b:ay):Prop:=∀o i,zy b aj o i=operate [o,i] (n4 o i)
def kN(X:Cx)(r:R2):Prop :=
 ∀(b a:ay) (d:List (ac×Obj)) (s:am) (c:St) (H:Hp) (x y:V) (v u:ah) (Q:VK),Inv X d c H s->RelV x v->RelV y u->r x y H Q ->
  zy a aj v u=operate [v,u] (n4 v u)->aw (az X.prog X.w) X.A (subscriptTail b a v u) (EP X d c Q) X.xe s
def vZ(X:Cx)(f:String)(r:V->List V->Hp->VK->Prop):Prop :=
 ∀(d:List (ac×Obj)) (s:am) (a:St) (H:Hp) (x:V) (b:List V) (v:ah) (c:List ah) (Q:VK),Inv X d a H s->RelV x v->bq b c->r x b H Q ->
  aw (az X.prog X.w) X.A (call (.builtin f) (v::c)) (EP X d a Q) X.xe s
section
variable{X:Cx}{a b:ay}{G F:TE}{E:Pos}
theorem kN.or{r j:R2}(h:kN X r)(n:kN X j):kN X (λx y H Q=>r x y H Q\/j x y H Q):=by
 intro c d m s f H x y v u Q I i g q l;rcases q with q|q
 .exact h c d m s f H x y v u Q I i g q l
 .exact n c d m s f H x y v u Q I i g q l
theorem IS{r:R2}(j:kN X r)(m:PE X a G)(l:PE X b F)(i:CB b):PE X (.Subscript a b E) (uA r G F):=by intro n s c H Q I h;exact Subscript_ (yQ m l I h λv u d x y p o g f q=>j a b n d c p x y v u Q o g f q (i _ _))
def CT(K:ar):R2:=λx y H Q=>∃p c i v,x=.ref p/\y=.int i/\b_ K H p c/\ez c i=aa v/\Q v H
def Am(K:ar):R2:=λx y H Q=>∃p c i v,x=.ref p/\y=.int i/\cM K H p c/\ez c i=aa v/\Q v H
def Au:R2:=λx y H Q=>∃z i c,x=.str z/\y=.int i/\z.length<=bc/\ez z.cps.toList i=aa c/\Q (.str ⟨#[c]⟩) H
theorem Oy:kN X (CT X.K):=by
 intro f g J s A H x y v u Q I M L h B;obtain⟨p,Y,i,z,rfl,rfl,N,P,q⟩:=h;cases M;obtain⟨t,rfl⟩:=L;obtain⟨n,r,m,Z⟩:=I.list N;obtain⟨j,d,W,h3,T,S⟩:=xb P;obtain⟨w,D,l⟩:=r.get W;have O:=r.length;have hn:=uQ;have c:EP X J A Q w s:=⟨z,H,I,l,q⟩
 by_cases C:0<=i
 .have o:i.toNat=j:=by
   rw[seqIndex_of C S]at d;exact dY d
  exact item_listR m.isList C ∅ (by rw[o];simpa using D) c B
 .have o:(i+(n.toArray.size:Int)).toNat=j:=by
   rw[seqIndex_neg ∅ T]at d;rw[cu,<-O];exact dY d
  exact subscriptTail_builtinR (x:=w) m.isList.typeIs slot_list_getitem.lookup
   (wpAny_getItem_list_neg (Q:=λr K=>r=w/\EP X J A Q r K) m.isList ∅ (by rw[cu] <;> lia) ∅ (by rw[o];simpa using D) ⟨rfl,c⟩) B
theorem OD:kN X (Am X.K):=by
 intro c d n s l H x y v u Q I B A h D;obtain⟨p,P,i,z,rfl,rfl,J,L,q⟩:=h;cases B;obtain⟨t,rfl⟩:=A;obtain⟨C,r,m,S⟩:=I.tuple J;obtain⟨j,N,M,Z,Y,W⟩:=xb L;obtain⟨w,O,f⟩:=r.get M;have K:=r.length;have T:=uQ;have g:EP X n l Q w s:=⟨z,H,I,f,q⟩
 exact subscriptTail_builtinR (x:=w) m.typeIs slot_tuple_getitem.lookup
  (getItem_tuple (j:=j) (Q:=λr o=>r=w/\EP X n l Q r o) m ∅ ∅ (by rw[cu,<-K];exact N) (by simpa using O) ⟨rfl,g⟩) D
theorem JM:kN X Au:=by
 intro d f N s D H x y v u Q I m l h n;obtain⟨z,i,c,rfl,rfl,K,p,q⟩:=h;obtain⟨t,rfl⟩:=m;obtain⟨J,rfl⟩:=l;obtain⟨j,g,A,M,w,r⟩:=xb p;have o:z.cps.toList.length=z.length:=by simp[Str.length]
 rw[o]at g w r;have L:=uQ;exact tail_any (typeIs_str s z t) slot_str_getitem.lookup (getItem_str (c:=c) (by have C:decide (i < -(2^63:Int))=aj:=decide_eq_false ∅;have B:decide (i ≥ 2^63)=aj:=decide_eq_false ∅;rw[C,B,Bool.or_false]) (by rw[g];simpa using A) ⟨.str ⟨#[c]⟩,H,I.tok _,⟨_,rfl⟩,q⟩) n
def Dp(K:ar):R2:=λx y H Q=>CT K x y H Q\/Am K x y H Q\/Au x y H Q
theorem gU:kN X (Dp X.K):=Oy.or (OD.or JM)
theorem KM(c d:Option Int)(n:Nat):(pQ c d ae n).1=((HT.sIx n 0 c:Nat):Int)/\(pQ c d ae n).2.1=((HT.sIx n n d:Nat):Int)/\(pQ c d ae n).2.2=1:=by
 refine⟨?_,?_,rfl⟩
 .cases c with
  |none=>simp[pQ,HT.sIx]
  |some i=>
   simp only[pQ,HT.sIx,Es,show(1:Int) > 0 by decide,if_true];by_cases h:i<0
   .simp only[h,if_true] <;> lia
   .simp only[h,if_false] <;> lia
 .cases d with
  |none=>simp[pQ,HT.sIx]
  |some i=>
   simp only[pQ,HT.sIx,Es,show(1:Int) > 0 by decide,if_true];by_cases h:i<0
   .simp only[h,if_true] <;> lia
   .simp only[h,if_false] <;> lia
theorem Gg(c:List ah)(d f:Option Int):slicePick c.toArray d f ae=((c.drop (HT.sIx c.length 0 d)).take (HT.sIx c.length c.length f-HT.sIx c.length 0 d)).toArray:=by obtain⟨i,h,g⟩:=KM d f c.toArray.size;unfold slicePick;rw[i,h,g];simp only[sliceRange_one,pick_run,cu] <;> rfl
def BV(K:ar):V->Option Int->Option Int->Hp->VK->Prop:=λx d f H Q=>∃a c,x=.ref a/\b_ K H a c/\∀p,H p=ae->Q (.ref p) (upd H p (.lst (l8 c d f)))
theorem Oq:lc X (BV X.K):=by
 intro D s y H x v A z d f B Q I i u l j h;obtain⟨a,c,rfl,p,q⟩:=h;cases i;obtain⟨m,r,g,n⟩:=I.list p;have w:=r.length;refine⟨"list",_,slot_list_getitem.lookup,g.isList.typeIs,?_⟩;refine wpAny_getItem_list_slice g.isList u l j .none (by simp) ?_ (by rw[cu] <;> lia);rw[Gg,<-w];refine⟨.ref s.heap.objs.size,_,I.laid (t':=s.toks) (o:=.lst (l8 c d f)) (λb C q=>bi _ q) (bd _) ?_,rfl,q _ (I.hok.fresh (bd _))⟩;exact⟨cO (AH c d f) n,_,0,(r.drop (HT.sIx c.length 0 d)).take (HT.sIx c.length c.length f-HT.sIx c.length 0 d),cm _ rfl⟩
def gv:V->Bool
 |.non=>ai
 |.bl _=>ai
 |.int _=>ai
 |.str _=>ai
 |_=>aj
def fk:V->V->Bool
 |.non,.non=>ai
 |.bl a,.bl b=>a == b
 |.bl a,.int b=>(if a then 1 else 0) == b
 |.int a,.bl b=>a == (if b then 1 else 0)
 |.int a,.int b=>a == b
 |.str a,.str b=>a == b
 |_,_=>aj
theorem BX{A:aX}{s:am}{y x:V}{u v:ah}(f:RelV y u)(c:RelV x v)(h:gv y=ai)(g:gv x=ai):wb A s u v (fk y x):=by
 cases y with
 |non=>
  cases f;cases x with
  |non=>cases c;exact SeqAt.EqAt.same _
  |bl b=>cases c;exact SeqAt.EqAt.none_bool b
  |int b=>obtain⟨t,rfl⟩:=c;exact SeqAt.EqAt.none_int b t
  |str b=>obtain⟨t,rfl⟩:=c;exact SeqAt.EqAt.none_str b t
  |_=>exact absurd (show aj=ai from g) eZ
 |bl a=>
  cases f;cases x with
  |non=>cases c;exact SeqAt.EqAt.bool_none a
  |bl b=>cases c;exact SeqAt.EqAt.bool_bool a b
  |int b=>obtain⟨t,rfl⟩:=c;exact SeqAt.EqAt.bool_int a b t
  |str b=>obtain⟨t,rfl⟩:=c;exact SeqAt.EqAt.bool_str a b t
  |_=>exact absurd (show aj=ai from g) eZ
 |int a=>
  obtain⟨d,rfl⟩:=f;cases x with
  |non=>cases c;exact SeqAt.EqAt.int_none a d
  |bl b=>cases c;exact SeqAt.EqAt.int_bool a d b
  |int b=>obtain⟨t,rfl⟩:=c;exact SeqAt.EqAt.int_int a d b t
  |str b=>obtain⟨t,rfl⟩:=c;exact SeqAt.EqAt.int_str a d b t
  |_=>exact absurd (show aj=ai from g) eZ
 |str a=>
  obtain⟨d,rfl⟩:=f;cases x with
  |non=>cases c;exact SeqAt.EqAt.str_none a d
  |bl b=>cases c;exact SeqAt.EqAt.str_bool a d b
  |int b=>obtain⟨t,rfl⟩:=c;exact SeqAt.EqAt.str_int a d b t
  |str b=>obtain⟨t,rfl⟩:=c;exact SeqAt.EqAt.str_str a d b t
  |_=>exact absurd (show aj=ai from g) eZ
 |_=>exact absurd (show aj=ai from h) eZ
def jJ(x:V)(u:ah):Bool:=match u with
 |.none=>fk .non x
 |.bool b=>fk (.bl b) x
 |.int i _=>fk (.int i) x
 |.str z _=>fk (.str z) x
 |_=>aj
theorem xw{x y:V}{u:ah}(r:RelV y u)(f:gv y=ai):jJ x u=fk y x:=by
 cases y with
 |non=>cases r;rfl
 |bl b=>cases r;rfl
 |int i=>obtain⟨t,rfl⟩:=r;rfl
 |str z=>obtain⟨t,rfl⟩:=r;rfl
 |_=>exact absurd (show aj=ai from f) eZ
theorem x0{x:V}:∀{c:List V}{d:List ah},bq c d->c.all gv=ai->d.any (jJ x)=c.any λy=>fk y x
 |_,_,.nil,_=>rfl
 |y::c,u::d,.cons r t,f=>by rw[pR,ef]at f;rw[lU,lU,xw r f.1,x0 t f.2]
theorem ux{A:aX}{s:am}{x:V}{v:ah}(h:RelV x v)(i:gv x=ai):∀{d:List V}{g:List ah},bq d g->d.all gv=ai->∀u∈g,wb A s u v (jJ x u)
 |_,_,.nil,_=>λu c=>by cases c
 |y::d,u::g,.cons r t,f=>λj c=>by
  rw[pR,ef]at f;rcases bV.mp c with rfl|c
  .rw[xw r f.1];exact BX r h f.1 i
  .exact ux h i t f.2 j c
def rm(x:V)(c:List V):Bool:=c.any λy=>fk y x
def xX(K:ar)(d:Bool):R2:=λx y H Q=>∃p c,y=.ref p/\(b_ K H p c\/cM K H p c)/\gv x=ai/\c.all gv=ai/\Q (.bl (if d then !rm x c else rm x c)) H
theorem Ms:bT X (dJ .In) (xX X.K aj):=by
 intro z s n H x y v u Q I i l h;obtain⟨p,o,rfl,d,j,fs,q⟩:=h;cases l;rcases d with d|d
 .obtain⟨c,r,f,m⟩:=I.list d;refine SeqAt.in_listAt (jJ x) f.isList (λw g=>ux i j r fs w (by simpa using g)) ⟨.bl _,H,I,rfl,?_⟩;rw[show c.toArray.any (jJ x)=c.any (jJ x) by simp,x0 r fs];exact q
 .obtain⟨c,r,f,m⟩:=I.tuple d;refine SeqAt.in_tupleAt (jJ x) f (λw g=>ux i j r fs w (by simpa using g)) ⟨.bl _,H,I,rfl,?_⟩;rw[show c.toArray.any (jJ x)=c.any (jJ x) by simp,x0 r fs];exact q
theorem y8:fh X (.type "list") (λB H Q=>∃p f,B=[.ref p]/\(b_ X.K H p f\/cM X.K H p f)/\∀l,H l=ae->Q (.ref l) (upd H l (.lst f))):=by
 intro L s D H B M Q I r h;obtain⟨p,f,rfl,v,q⟩:=h;obtain⟨u,rfl,J⟩:=vals1 r;cases J;have w:∀(c:List ah),bq f c->f.length<=bc->∀(d:aC) (i:Nat),(∀b C,s.heap.get? b=aa C->d.get? b=aa C) ->
   d.get? s.heap.objs.size=aa {cls:=.type "list",dict:=ae,data:=.seq c.toArray i,slots:=#[]}->EP X L D Q (.ref s.heap.objs.size) {s with heap:=d}:=λc g m d i j e=>
  ⟨.ref s.heap.objs.size,_,I.laid (t':=s.toks) j (bd _) (show cZ X.prog X.w _ d _ (.lst f)from⟨m,c,i,g,e⟩),rfl,q _ (I.hok.fresh (bd _))⟩
 rcases v with v|v
 .obtain⟨c,g,x,m⟩:=I.list v;have K:=g.length;obtain⟨o,y,A,n,z⟩:=x.isList;exact call_list_seq p (.inl rfl) y A z (λd i j e=>w c g m d i j e) (by simp only[cu] <;> lia)
 .obtain⟨c,g,x,m⟩:=I.tuple v;have K:=g.length;obtain⟨o,y,A,n,z⟩:=x;exact call_list_seq p (.inr rfl) y A z (λd i j e=>w c g m d i j e) (by simp only[cu] <;> lia)
theorem rY:fh X (.type "tuple") (λm H Q=>∃p d,m=[.ref p]/\((b_ X.K H p d/\∀l,H l=ae->Q (.ref l) (upd H l (.tup d)))\/(cM X.K H p d/\Q (.ref p) H))):=by
 intro v s j H m A Q I r h;obtain⟨p,d,rfl,h⟩:=h;obtain⟨u,rfl,x⟩:=vals1 r;cases x;rcases h with⟨hq,q⟩|⟨hq,q⟩
 .obtain⟨c,g,i,n⟩:=I.list hq;have B:=g.length;refine call_tuple_list i.isList (λf y=>?_) (by simp only[cu] <;> lia);have w:Inv X v j H {s with heap:=f}:=I.kept (t':=s.toks) y;have z:Inv X v j (upd H f.objs.size (.tup d)) {s with heap:=f.push {cls:=.type "tuple",data:=.seq c.toArray}} :=w.laid (t':=s.toks) (λb o e=>bi _ e) (bd _) (show cZ X.prog X.w _ _ _ (.tup d)from⟨n,c,g,Ef.new _ _⟩);exact⟨.ref f.objs.size,_,z,rfl,q _ (w.hok.fresh (bd _))⟩
 .obtain⟨c,g,i,n⟩:=I.tuple hq;exact call_tuple_same i ⟨.ref p,H,I,rfl,q⟩
def y4(K:ar)(T:String)(x:V)(H:Hp):Prop:=match x with
 |.str _=>T = "str"
 |.int _=>T = "int"
 |.ref p=>(T = "list"/\∃d,b_ K H p d)\/(T = "tuple"/\∃o,K.lookup p=aa o/\o.cls=.type "tuple"/\o.dict=ae) \/
   (T = "dict"/\((∃c,H p=aa (.dK c))\/∃c,H p=aa (.dT c)))\/(T = "set"/\∃S n,H p=aa (.set S n))
 |_=>False
theorem Br{q:List (ac×Obj)}{l:St}{H:Hp}{s:am}{T:String}{x:V}{v:ah}(I:Inv X q l H s)(r:RelV x v)(ty:y4 X.K T x H):s.TypeIs v T/\∀a,v=.ref a->∃j,s.heap.get? a=aa j/\j.dict=ae:=by
 cases x with
 |str z=>
  obtain⟨t,rfl⟩:=r;cases (show T = "str" from ty);exact⟨typeIs_str s z t,λ_ e=>nomatch e⟩
 |int i=>
  obtain⟨t,rfl⟩:=r;cases (show T = "int" from ty);exact⟨typeIs_int s i t,λ_ e=>nomatch e⟩
 |ref p=>
  cases r;rcases ty with⟨rfl,xs,hq⟩|⟨rfl,o,hk,hc,f⟩|⟨rfl,hk⟩|⟨rfl,S,n,hk⟩
  .obtain⟨m,_,h,_⟩:=I.list hq;refine⟨h.isList.typeIs,λa e=>?_⟩;cases e;obtain⟨o,n,e,c,f,_⟩:=h;exact⟨o,e,f⟩
  .refine⟨⟨o,I.kIn p o hk,hc⟩,λa e=>?_⟩;cases e;exact⟨o,I.kIn _ o hk,f⟩
  .have z:∃o,s.heap.get? p=aa o/\o.ExactDict:=by
    rcases hk with⟨kvs,hk⟩|⟨kvs,hk⟩
    .obtain⟨_,_,_,_,o,_,_,e,d,_⟩:=I.hok p _ hk;exact⟨o,e,d⟩
    .obtain⟨_,_,_,_,o,_,_,e,d,_⟩:=I.hok p _ hk;exact⟨o,e,d⟩
   obtain⟨o,e,d⟩:=z;refine⟨⟨o,e,d.1⟩,λa g=>?_⟩;cases g;exact⟨o,e,d.2.1⟩
  .obtain⟨o,_,_,_,e,d,_⟩:=I.hok p _ hk;refine⟨⟨o,e,d.1⟩,λa g=>?_⟩;cases g;exact⟨o,e,d.2.1⟩
 |_=>exact iZ ty
def LL(K:ar)(T:String)(r:V->List V->Hp->VK->Prop)(B:TE):TE:=λd H Q=>B d H λx c=>y4 K T x c/\r x [] c Q
def Hm(K:ar)(T:String)(r:V->List V->Hp->VK->Prop)(B:TE)(t:TA):TE:=λc H Q=>B c H λx d=>y4 K T x d/\t c d λf g=>r x f g Q
variable{o e:ay}{D:List ay}{B:TE}{t:TA}{g:Str}{m d:Pos}{T C:String}{r:V->List V->Hp->VK->Prop}
theorem Ho(q:PlainAttrs T)(c:Slot T g C)(u:typeOf (.builtin C)=pure (.type "method_descriptor"))(A:vZ X C r)(z:PE X o B)(y:g7 o g X.env (aK o X.env)=aK o X.env:=by rfl) (w:(m.endLine == d.line)=ai:=by rfl):PE X (.Call (.Attribute o g m) [] [] d) (LL X.K T r B):=by intro j s f H Q I h;refine wpAny_Call_method0_late y w (aT (z j s f H _ I h) λv n ⟨x,L,l,i,ty,p⟩=>?_);obtain⟨K,J⟩:=Br l i ty;exact⟨T,C,q,c,u,K,J,zz rfl (PySem.evalArgs_none (A j n f L x [] v [] Q l i .nil p))⟩
theorem yM(L:PlainAttrs T)(f:Slot T g C)(M:typeOf (.builtin C)=pure (.type "method_descriptor"))(W:vZ X C r)(S:PE X o B)(Y:PA X (e::D) t)(O:g7 o g X.env (aK o X.env)=aK o X.env:=by rfl)(q:((ce d (aL (e::D) X.env)).all (λx=>!x.1)&&(lO d (lP [] X.env)).all (λx=>x.1.isSome)&&decide ((e::D).length+([]:List jV).length+(if([]:List jV).isEmpty then 0 else 1)<30))=ai:=by rfl)(N:(m.endLine == d.line)=ai:=by rfl) (P:aL (e::D) X.env=(aj,aK e X.env)::aL D X.env:=by rfl) (c:(ce d (aL D X.env)).any (·.1)=aj:=by rfl):PE X (.Call (.Attribute o g m) (e::D) [] d) (Hm X.K T r B t):=by intro j s i H Q I h;refine wpAny_Call_method_late O q N rfl (aT (S j s i H _ I h) λv z ⟨x,H1,p,l,ty,K⟩=>?_);obtain⟨h1,Z⟩:=Br p l ty;refine⟨T,C,L,f,M,h1,Z,?_⟩;have n:=Y d j z i H1 _ p K;rw[P]at n ⊢;refine zz (by show(aj||(ce d (aL D X.env)).any (·.1))=aj;rw[c] <;> rfl) (zA ?_);exact aT n λw y ⟨u,H2,I2,A,J⟩=>W j y i H2 x u v w Q I2 l A J
end
def zb(X:Cx)(f:String)(r:V->List V->Hp->VK->Prop):Prop :=
 ∀(d:List (ac×Obj)) (s:am) (a:St) (H:Hp) (x:V) (b:List V) (v:ah) (c:List ah) (Q:VK),Inv X d a H s->RelV x v->bq b c->r x b H Q ->
  aw (az X.prog X.w) X.A (call (.builtin f) (v::c)) (EP X d a Q) X.xe s
theorem bq.one:∀{x:V}{a:List ah},bq [x] a->∃u,a=[u]/\RelV x u
 |_,_,.cons r .nil=>⟨_,rfl,r⟩
theorem bq.zero:∀{a:List ah},bq [] a->a=[]
 |_,.nil=>rfl
section
variable{X:Cx}{c:List (ac×Obj)}{σ:St}{H:Hp}{s:am}{l b:ac}{xs a d:List V}
theorem Inv.lset{g its':List ah}{n:Nat}{f:Array ah->Array ah}{h:Nat}(I:Inv X c σ H s)(r:H l=aa (.lst xs))(e:s.heap.get? l=aa {cls:=.type "list",data:=.seq g.toArray n}) (o:f g.toArray=its'.toArray) (j:bq a its') (i:a.length<=bc):Inv X c σ (upd H l (.lst a)) {s with heap:=s.heap.update l (kC f),toks:=h}:=by have q:=PySem.IsL.update e f;rw[o]at q;refine I.write (x:=l) (e:=l) (by rw[r];exact trivial) (.inl rfl) (λv u p m=>(pT s.heap (kC f) (eE p)).trans m) ⟨_,q⟩ ?_;exact⟨i,its',_,j,q⟩
theorem Inv.lnew{its:List ah}{t':Nat}(I:Inv X c σ H s)(g:bq a its)(f:a.length<=bc):Inv X c σ (upd H s.heap.objs.size (.lst a)) {s with heap:=s.heap.push {cls:=.type "list",data:=.seq its.toArray},toks:=t'} :=I.laid (λ_ _ q=>bi _ q) (bd _) ⟨f,its,0,g,cm _ rfl⟩
theorem Inv.fresh(I:Inv X c σ H s):H s.heap.objs.size=ae:=I.hok.fresh (bd _)
theorem Inv.lstM(I:Inv X c σ H s)(g:H l=aa (.lst xs)):xs.length<=bc/\∃(f:List ah) (n:Nat),bq xs f/\xs.length=f.length/\s.heap.get? l=aa {cls:=.type "list",data:=.seq f.toArray n}:=by obtain⟨z,f,n,r,e⟩:=I.hok l _ g;exact⟨z,f,n,r,r.length,e⟩
theorem L1{n:Nat}(h:n<=bc):Et n=aj:=by unfold Et;exact decide_eq_false ∅
end
section
variable{X:Cx}
def Kk:V->List V->Hp->VK->Prop:=λx b H Q=>∃l a y,x=.ref l/\b=[y]/\H l=aa (.lst a)/\a.length<bc/\Q .non (upd H l (.lst (a++[y])))
theorem ya:zb X "list.append" Kk:=by
 intro p s f H x i v j Q I b c h;obtain⟨l,g,y,rfl,rfl,a,m,q⟩:=h;cases b;obtain⟨u,rfl,d⟩:=c.one;obtain⟨z,its,n,r,o,e⟩:=I.lstM a;refine call_meets F.slot_list_append ⟨_,e,rfl⟩ F.entry_list_append (F.args_list_append_2 _ _) (PySem.list_append l its.toArray n u (by rw[cu];lia)) ⟨e,?_⟩;refine⟨.non,_,I.lset (its':=its++[u]) a e (by simp) (r.append (.cons d .nil)) ?_,rfl,q⟩;rw[eG,sK];lia
theorem JR{b:Type}(a:List b)(k:Nat):(cY k a).flatten.length=k*a.length:=by
 induction k with
 |zero=>simp
 |succ k c=>rw[Eu,List.flatten_cons,eG,c,Nat.succ_mul,Nat.add_comm]
end
section
variable{a:Type}[DecidableEq a]
def f9(b:List (a×V))(k:a):Option V:=(b.find? λc=>decide (c.1=k)).map (·.2)
def fV(b:List (a×V))(k:a)(v:V):List (a×V) :=if(b.any λc=>decide (c.1=k))=ai then b.map (λc=>if c.1=k then(c.1,v)else c)else b++[(k,v)]
theorem rN{p:a×V}{r:List (a×V)}{k:a}(e:p.1=k):f9 (p::r) k=aa p.2:=by simp[f9,gF,e]
theorem rk{p:a×V}{r:List (a×V)}{k:a}(e:¬p.1=k):f9 (p::r) k=f9 r k:=by simp[f9,gF,e]
theorem Bg(k:a):∀b:List (a×V),(b.any λc=>decide (c.1=k))=(f9 b k).isSome
 |[]=>rfl
 |p::r=>by
  rw[lU];by_cases e:p.1=k
  .simp only[rN e,decide_eq_true e,Bool.true_or,Option.isSome_some]
  .rw[rk e,decide_eq_false e,Bool.false_or];exact Bg k r
theorem D8(b:List (a×V))(k:a)(v:V):(fV b k v).length<=b.length+1:=by
 unfold fV;split
 .rw[cf];lia
 .rw[eG,e_,kD];lia
theorem kr.isSome_eq{o:Option V}{u:Option ah}(r:kr o u):o.isSome=u.isSome:=by
 cases o with
 |none=>cases u with
  |none=>rfl
  |some _=>exact(show False from r).elim
 |some _=>cases u with
  |none=>exact(show False from r).elim
  |some _=>rfl
theorem kr.getD{o:Option V}{u:Option ah}{d:V}{b:ah}(r:kr o u)(rd:RelV d b):RelV (o.getD d) (u.getD b):=by
 cases o with
 |none=>cases u with
  |none=>exact rd
  |some _=>exact(show False from r).elim
 |some _=>cases u with
  |none=>exact(show False from r).elim
  |some _=>exact r
theorem KV.val{kvs:List (a×V)}{d:List (a×ah)}(r:KV kvs d)(k:a):kr (f9 kvs k) (pU d k):=by
 unfold KV at r
 induction r with
 |nil=>exact True.intro
 |@cons p q ps qs h t ih=>
  obtain⟨f,g⟩:=h;by_cases e:p.1=k
  .have c:q.1=k:=f.symm.trans e;have b:pU (q::qs) k=aa q.2:=by simp[pU,gF,c]
   rw[rN e,b];exact g
  .have c:¬q.1=k:=λz=>e (f.trans z);have b:pU (q::qs) k=pU qs k:=by simp[pU,gF,c]
   rw[rk e,b];exact ih
theorem KV.any{b:List (a×V)}{vs:List (a×ah)}(r:KV b vs)(k:a):(b.any λc=>decide (c.1=k))=vs.any λc=>decide (c.1=k):=by
 unfold KV at r
 induction r with
 |nil=>rfl
 |cons h t d=>rw[lU,lU,d,h.1]
theorem KV.repl{c:List (a×V)}{f:List (a×ah)}(r:KV c f)(k:a){y:V}{u:ah}(g:RelV y u):KV (c.map λb=>if b.1=k then(b.1,y)else b) (f.map λb=>if b.1=k then(b.1,u)else b):=by
 unfold KV at r ⊢
 induction r with
 |nil=>exact .nil
 |@cons p q ps qs h t ih=>
  rw[fK,fK];refine .cons ?_ ih;obtain⟨d,i⟩:=h;by_cases e:p.1=k
  .rw[if_pos e,if_pos (d.symm.trans e)];exact⟨d,g⟩
  .rw[if_neg e,if_neg (λz=>e (d.trans z))];exact⟨d,i⟩
theorem KV.put{b:List (a×V)}{c:List (a×ah)}(r:KV b c)(k:a){y:V}{u:ah}(d:RelV y u):KV (fV b k y) (stored c k u):=by
 unfold fV stored;rw[r.any k];by_cases e:(c.any λf=>decide (f.1=k))=ai
 .rw[if_pos e,if_pos e];exact r.repl k d
 .rw[if_neg e,if_neg e];exact zB r ⟨rfl,d⟩
theorem KV.length{kvs:List (a×V)}{b:List (a×ah)}(r:KV kvs b):kvs.length=b.length:=Paired.length r
end
theorem sv{P:aY}{w:aR}{k:aM}{u:ah}(r:RelV (kV k) u):(gu P w).is k u=ai:=by
 cases k with
 |inl i=>obtain⟨t,e⟩:=(show ∃t,u=Value.int i t from r);subst e;exact Fv P w i t
 |inr x=>obtain⟨t,e⟩:=(show ∃t,u=Value.str x t from r);subst e;exact HG P w x t
theorem A8{P:aY}{w:aR}:∀{ks:List aM}{a:List ah},bq (ks.map kV) a->ItemsAre (gu P w) ks a
 |[],_,r=>by rw[List.map_nil]at r;cases r;exact .nil
 |k::ks,_,r=>by
  rw[fK]at r;cases r with
  |cons h t=>exact .cons (sv h) (A8 t)
abbrev KT(H:Hp):List (List aM×V)->List (List aM×ac×ah)->Prop:=jO λp q=>p.1=q.1/\H q.2.1=aa (.tup (p.1.map kV))/\RelV p.2 q.2.2
theorem KT.val{H:Hp}{kvs:List (List aM×V)}{xs:List (List aM×ac×ah)}(r:KT H kvs xs)(k:List aM):kr (f9 kvs k) ((atKey xs k).map (·.2)):=by
 induction r with
 |nil=>exact True.intro
 |@cons p q ps qs h t ih=>
  obtain⟨c,_,d⟩:=h;by_cases e:p.1=k
  .have a:q.1=k:=c.symm.trans e;have b:atKey (q::qs) k=aa q.2:=by simp[atKey,gF,a]
   rw[rN e,b];exact d
  .have a:¬q.1=k:=λz=>e (c.trans z);have b:atKey (q::qs) k=atKey qs k:=by simp[atKey,gF,a]
   rw[rk e,b];exact ih
theorem KT.repl{H:Hp}{a:List (List aM×V)}{d:List (List aM×ac×ah)}(r:KT H a d)(k:List aM){y:V}{u:ah}(g:RelV y u):KT H (a.map λc=>if c.1=k then(c.1,y)else c) (d.map (putAt k u)):=by
 induction r with
 |nil=>exact .nil
 |@cons p q ps qs h t ih=>
  rw[fK,fK];refine .cons ?_ ih;obtain⟨b,f,i⟩:=h;unfold putAt;by_cases e:p.1=k
  .rw[if_pos e,if_pos (b.symm.trans e)];exact⟨b,f,g⟩
  .rw[if_neg e,if_neg (λz=>e (b.trans z))];exact⟨b,f,i⟩
theorem KT.put{H:Hp}{a:List (List aM×V)}{c:List (List aM×ac×ah)}(r:KT H a c)(k:List aM){b:ac}{y:V}{u:ah}(g:H b=aa (.tup (k.map kV)))(d:RelV y u):KT H (fV a k y) (storedH c k b u):=by
 have e:(a.any λf=>decide (f.1=k))=(atKey c k).isSome:=by rw[Bg,(r.val k).isSome_eq,Option.isSome_map]
 unfold fV storedH;rw[e];by_cases q:(atKey c k).isSome=ai
 .rw[if_pos q,if_pos q];exact r.repl k d
 .rw[if_neg q,if_neg q];exact zB r ⟨rfl,g,d⟩
theorem KT.keeps{H f:Hp}{a:List (List aM×V)}{d:List (List aM×ac×ah)}(r:KT H a d)(g:∀b c,H b=aa (.tup c)->f b=aa (.tup c)):KT f a d :=Paired.mapP r λ_ _ z=>⟨z.1,g _ _ z.2.1,z.2.2⟩
section
variable{P:aY}{w:aR}{H:Hp}{h:aC}{a:ac}
theorem Dc{u:HO}(ok:c_ P w H h)(e:Rd H a u):cZ P w H h a u:=e.ok ok
theorem pH{b:List (aM×V)}(ok:c_ P w H h)(e:Rd H a (.dK b)):b.length<=bc/\(a == jP)=aj/\∃c,KV b c/\h.DictOf (gu P w) a c :=show cZ P w H h a (.dK b)from Dc ok e
theorem yh{b:List (aM×V)}(ok:c_ P w H h)(e:H a=aa (.dK b)):b.length<=bc/\(a == jP)=aj/\∃c,KV b c/\h.DictOf (gu P w) a c:=pH ok (.inl e)
theorem rP{ks:List aM}(ok:c_ P w H h)(e:H a=aa (.tup (ks.map kV))):(sA (gu P w)).is h ks a:=by
 obtain⟨_,b,r,⟨o,f,d,n,c⟩,_⟩:=(show cZ P w H h a (.tup (ks.map kV))from ok a _ e)
 exact⟨o,b.toArray,n,f,d,c,by simpa using A8 r⟩
theorem pB{b:List (List aM×V)}(ok:c_ P w H h)(e:Rd H a (.dT b)):b.length<=bc/\(a == jP)=aj /\ ∃d,KT H b d/\h.DictOfH (sA (gu P w)) a d:=by
 obtain⟨z,y,d,r,o,s,u,n,j,i,g,f⟩:=(show cZ P w H h a (.dT b)from Dc ok e)
 refine⟨z,y,d,r,o,s,u,n,j,i,g,λx c=>?_,f⟩;have all:∀{l:List (List aM×V)}{m:List (List aM×ac×ah)},KT H l m->∀x∈m,(sA (gu P w)).is h x.1 x.2.1:=by
  intro l m q
  induction q with
  |nil=>intro x c;exact nomatch c
  |@cons p q ps qs hq t ih=>
   intro x c;rcases bV.mp c with e|c
   .subst e;exact rP ok (by rw[<-hq.1];exact hq.2.1)
   .exact ih x c
 exact all r x c
theorem FU{b:List (List aM×V)}(ok:c_ P w H h)(e:H a=aa (.dT b)):b.length<=bc/\(a == jP)=aj /\ ∃c,KT H b c/\h.DictOfH (sA (gu P w)) a c:=pB ok (.inl e)
end
def kg(H:Hp)(a:ac)(y:V)(r:Option V):Prop :=(∃c k,Rd H a (.dK c)/\y=kV k/\r=f9 c k)\/∃c k b,Rd H a (.dT c)/\y=.ref b/\H b=aa (.tup (k.map kV))/\r=f9 c k
def v6(H:Hp)(a:ac)(y v:V)(d:Hp):Prop :=
 (∃c k,H a=aa (.dK c)/\y=kV k/\c.length<bc/\d=upd H a (.dK (fV c k v))) \/
 ∃c k b,H a=aa (.dT c)/\y=.ref b/\H b=aa (.tup (k.map kV))/\c.length<bc/\d=upd H a (.dT (fV c k v))
theorem kg.k{H:Hp}{a:ac}{kvs:List (aM×V)}{k:aM}(e:H a=aa (.dK kvs)):kg H a (kV k) (f9 kvs k):=.inl ⟨kvs,k,.inl e,rfl,rfl⟩
theorem kg.t{H:Hp}{a b:ac}{c:List (List aM×V)}{k:List aM}(e:H a=aa (.dT c))(d:H b=aa (.tup (k.map kV))):kg H a (.ref b) (f9 c k):=.inr ⟨c,k,b,.inl e,rfl,d,rfl⟩
theorem v6.k{H:Hp}{a:ac}{kvs:List (aM×V)}{k:aM}{v:V}(e:H a=aa (.dK kvs))(b:kvs.length<bc):v6 H a (kV k) v (upd H a (.dK (fV kvs k v))):=.inl ⟨kvs,k,e,rfl,b,rfl⟩
theorem v6.t{H:Hp}{a b:ac}{c:List (List aM×V)}{k:List aM}{v:V}(e:H a=aa (.dT c))(f:H b=aa (.tup (k.map kV)))(d:c.length<bc):v6 H a (.ref b) v (upd H a (.dT (fV c k v))):=.inr ⟨c,k,b,e,rfl,f,d,rfl⟩
section
variable{X:Cx}{f:List (ac×Obj)}{d:St}{H:Hp}{s:am}{a:ac}{y v:V}{u r:ah}{o:Option V}{A:aX}{E:ah->am->Prop}
theorem Inv.big(I:Inv X f d H s):jP<s.heap.objs.size:=by have h:bP<s.heap.objs.size:=(I.mod.glob.keeps I.bk).lt;exact zC (by decide) h
theorem JF{Q:ah->am->Prop}(C:A.units+1<cLine)(I:Inv X f d H s)(g:kg H a y (aa v))(w:RelV y u)(h:∀j q,Inv X f d H q->RelV v j->Q j q):aw (az X.prog X.w) A (n4 (.ref a) u) Q E s:=by
 rcases g with⟨kvs,k,e,ey,l⟩|⟨kvs,k,b,e,ey,eb,l⟩
 .subst ey;obtain⟨z,F,B,i,n⟩:=pH I.hok e;obtain⟨j,m,c⟩:=kr.some_of (v:=v) (o:=pU B k) (by rw[l];exact i.val k);exact wpAny_getItem_of (sv w) n.mapOf m (h j _ (I.tok _) c)
 .subst ey;cases (show u=Value.ref b from w);obtain⟨z,F,x,i,n⟩:=pB I.hok e;obtain⟨j,m,c⟩:=kr.some_of (v:=v) (o:=(atKey x k).map (·.2)) (by rw[l];exact i.val k);obtain⟨p,D,G⟩:=wc.mp m;refine wpAny_getItem_heap (zD C) (rP I.hok eb) n D ?_;rw[G];exact h j _ (I.tok _) c
theorem LX{Q:ah->am->Prop}(p:A.units+1<cLine)(I:Inv X f d H s)(g:kg H a y o)(n:RelV y u)(h:∀m,Inv X f d H m->Q (.bool (!o.isSome)) m):aw (az X.prog X.w) A (dJ .NotIn u (.ref a)) Q E s:=by
 rcases g with⟨kvs,k,e,ey,l⟩|⟨kvs,k,b,e,ey,eb,l⟩
 .subst ey;obtain⟨z,i,x,c,j⟩:=pH I.hok e;refine wpAny_notIn_of (sv n) i j.mapOf ?_;rw[<-(c.val k).isSome_eq,<-l];exact h _ (I.tok _)
 .subst ey;cases (show u=Value.ref b from n);obtain⟨z,i,w,c,j⟩:=pB I.hok e;refine wpAny_notIn_heap (zD p) (rP I.hok eb) i j ?_;have q:=(c.val k).isSome_eq;rw[Option.isSome_map]at q;rw[<-q,<-l];exact h _ (I.tok _)
theorem Ay{c:aC}{h:Nat}{g:HO}(I:Inv X f d H s)(i:rh (H a))(j:jQ a s.heap c)(l:∃q,c.get? a=aa q)(new:cZ X.prog X.w (upd H a g) c a g):Inv X f d (upd H a g) {s with heap:=c,toks:=h} :=I.write (x:=a) (e:=a) i (.inl rfl) (λb q m z=>(j.2 b m).trans z) l new
theorem FY{P:aY}{w:aR}{l:Hp}{h:aC}{b:List (aM×V)}{c:List (aM×ah)}(z:b.length<=bc)(i:(a == jP)=aj)(g:KV b c)(j:h.DictOf (gu P w) a c):cZ P w l h a (.dK b):=⟨z,i,c,g,j⟩
theorem HM{K:Hp}{Q:Unit->am->Prop}(N:A.units+1<cLine)(I:Inv X f d H s)(g:v6 H a y v K)(D:RelV y u)(F:RelV v r)(h:∀C,Inv X f d K C->Q () C):aw (az X.prog X.w) A (setItem (.ref a) u r) Q E s:=by
 rcases g with⟨kvs,k,e,ey,l,eH⟩|⟨kvs,k,b,e,ey,eb,l,eH⟩
 .subst ey eH;obtain⟨z,x,M,i,B⟩:=yh I.hok e;have n:M.length<=bc:=by rw[<-i.length];exact z
  have w:(fV kvs k v).length<=bc:=by have:=D8 kvs k v;lia
  refine wpAny_setItem_pairs (hsz:=n) (sv D) B λG j p=>h _ ?_;have O:∃q,G.get? a=aa q:=let ⟨q,_,_,m,_⟩:=j;⟨q,m⟩
  exact Ay I (by rw[e];exact True.intro) p O (FY w x (i.put k F) j)
 .subst ey eH;cases (show u=Value.ref b from D);obtain⟨z,x,L,i,B⟩:=FU I.hok e;have n:L.length<=bc:=by rw[<-Paired.length i];exact z
  have w:(fV kvs k v).length<=bc:=by have:=D8 kvs k v;lia
  refine wpAny_setItem_heap (hsz:=n) (zD N) (rP I.hok eb) B λG j p=>h _ ?_;obtain⟨q,Y,Z,m,W,T,S,_,P⟩:=j;refine Ay I (by rw[e];exact True.intro) p ⟨q,m⟩ ⟨w,x,_,(i.put k eb F).keeps λc ys J=>?_,q,Y,Z,m,W,T,S,P⟩;rw[bF (FL J e (λz=>nomatch z))];exact J
end
def uX(i:ay):Prop:=∀ov a,zy i aj ov a=operate [ov,a] (n4 ov a)
theorem Ng{a:aY}{w:aR}{A:aX}{E:ah->am->Prop}{s:am}{m:Env}{c b:ay}{q:Pos}{T v:String}{Q:ah->am->Prop}(z:typeLookup (.type T) "__getitem__"=pure (aa (.builtin v))) (y:uX b)(h:aw (az a w) A (aK c m) (λo j=>aw (az a w) A (aK b m) (λi d=>d.TypeIs o T/\aw (az a w) A (n4 o i) Q E d) E j) E s):aw (az a w) A (aK (.Subscript c b q) m) Q E s:=by
 refine Subscript_ (eF h (λo j p=>eF p (λi d f=>?_) λ_ _ x=>x) λ_ _ x=>x);obtain⟨u,f⟩:=f;unfold subscriptTail;refine au ?_;rw[getitemInPython_of_ne u.not_modules];refine au (wpAny_specialOf u z ?_);have l:aw (az a w) A (zy b aj o i) (λr g=>aw (az a w) A (letTemporaryGo c o r >>= λ_=>pure r) Q E g) E d:=by rw[y o i];exact wpAny_operating (eF f (λr g n=>au (wpAny_letTemporaryGo (aN n))) λ_ _ x=>x)
 first
  |exact aN (au l)
  |exact au (aN (au l))
  |exact au l
theorem Jq{X:Cx}{f:List (ac×Obj)}{d:St}{H:Hp}{s:am}{a:ac}{y:V}{o:Option V}(I:Inv X f d H s)(g:kg H a y o):s.TypeIs (.ref a) "dict":=by
 rcases g with⟨kvs,k,e,_,_⟩|⟨kvs,k,b,e,_,_,_⟩
 .obtain⟨_,_,i,_,c⟩:=pH I.hok e;exact c.typeIs
 .obtain⟨_,_,h,_,c⟩:=pB I.hok e;exact c.typeIs
def Hn(d ty:TE):TE:=λb H Q=>d b H λx f=>ty b f λy c=>∃a v,x=.ref a/\kg c a y (aa v)/\Q v c
def He(ty d:TE):TE:=λb H Q=>ty b H λy f=>d b f λx c=>∃a o,x=.ref a/\kg c a y o/\Q (.bl (!o.isSome)) c
def Hc(f ty d:TE):TS:=λD b H=>d b H λv i=>f b i λx h=>ty b h λy g=>∃a c,x=.ref a/\v6 g a y v c/\D.nx b c
section
variable{X:Cx}{o i e b:ay}{d c m:Pos}{j f l:TE}
theorem Ai(D:X.A.units+1<cLine)(F:PE X o j)(G:PE X i f)(E:uX i):PE X (.Subscript o i d) (Hn j f):=by intro q s p H Q I h;refine Ng PySem.F.slot_dict_getitem.lookup E (aT (F q s p H _ I h) λu w ⟨x,N,L,A,C⟩=>aT (G q w p N _ L C) λT S ⟨y,M,r,z,a,v,J,g,B⟩=>?_);subst J;obtain rfl:u=Value.ref a:=A;exact⟨Jq r g,JF D r g z λO P K n=>⟨v,M,K,n,B⟩⟩
theorem Ln(A:X.A.units+1<cLine)(C:PE X i f)(B:PE X o j):PC X .NotIn i o (He f j):=by intro p s n H Q I h;refine aT (C p s n H _ I h) λN q ⟨y,K,G,r,z⟩=>aT (B p q n K _ G z) λu M ⟨x,J,F,v,a,ov,D,g,w⟩=>?_;subst D;obtain rfl:u=Value.ref a:=v;exact LX A F g r λL E=>⟨.bl (!ov.isSome),J,E,rfl,w⟩
theorem AV(J:X.A.units+1<cLine)(L:PE X o j)(M:PE X i f)(G:PE X b l)(K:gD b (aa (.Subscript o i c)) d.line X.env=pure aj):PS X (.Assign [.Subscript o i c] b d) (Hc j f l):=by intro p s n H D I h;refine wpAny_Assign_Subscript (aT (G p s n H _ I h) λr w ⟨v,Y,S,B,F⟩=>aT (L p w n Y _ S F) λu q ⟨x,W,Q,A,E⟩=>aT (M p q n W _ Q E) λiv s3 ⟨y,H3,P,z,a,T,N,g,C⟩=>?_) K;subst N;obtain rfl:u=Value.ref a:=A;exact HM J P g z B λZ O=>⟨n,T,O,C⟩
end
theorem H_{P:aY}{w:aR}{H:Hp}(h:aC)(a:jP<h.objs.size):cZ P w H (h.push {cls:=.type "dict",data:=.dict #[]}) h.objs.size (.dK []) :=⟨g6 _,beq_eq_false_iff_ne.mpr (eE (cN a)),[],.nil,Heap.DictOf.new h⟩
theorem Kd{P:aY}{w:aR}{H:Hp}(h:aC)(a:jP<h.objs.size):cZ P w H (h.push {cls:=.type "dict",data:=.dict #[]}) h.objs.size (.dT []) :=⟨g6 _,beq_eq_false_iff_ne.mpr (eE (cN a)),[],.nil,_,#[],0,cm _ rfl,⟨rfl,rfl,rfl⟩,rfl,rfl,List.nodup_nil⟩
def K8:TE:=λ_ H Q=>∀p,H p=ae->Q (.ref p) (upd H p (.dK []))
def IR:TE:=λ_ H Q=>∀p,H p=ae->Q (.ref p) (upd H p (.dT []))
section
variable{X:Cx}{b:Pos}
theorem HH:PE X (.Dict [] [] b) K8:=λd s c H Q I h=>wpAny_Dict_empty ⟨.ref s.heap.objs.size,_,I.laid (a:=s.heap.objs.size) (o:=.dK []) (t':=s.toks) (λ_ _ q=>bi _ q) (bd _) (H_ s.heap I.big),rfl,h _ (I.hok.fresh (bd _))⟩
theorem MY:PE X (.Dict [] [] b) IR:=λd s c H Q I h=>wpAny_Dict_empty ⟨.ref s.heap.objs.size,_,I.laid (a:=s.heap.objs.size) (o:=.dT []) (t':=s.toks) (λ_ _ q=>bi _ q) (bd _) (Kd s.heap I.big),rfl,h _ (I.hok.fresh (bd _))⟩
end
structure M2(X:Cx)(o:ay)(m:Str)(apos:Pos)(e f:ay)(cpos:Pos):Prop where
 base:g7 o m X.env (aK o X.env)=aK o X.env
 few:((ce cpos (aL [e,f] X.env)).all (λx=>!x.1)&&(lO cpos (lP [] X.env)).all (λx=>x.1.isSome)&&decide (([e,f]:List ay).length+([]:List jV).length+(if([]:List jV).isEmpty then 0 else 1)<30))=ai
 line:(apos.endLine == cpos.line)=ai
 trees:ce cpos (aL [e,f] X.env)=[(aj,aK e X.env),(aj,aK f X.env)]
def A6(H:Hp)(a:ac):Prop:=(∃b,Rd H a (.dK b))\/∃b,Rd H a (.dT b)
theorem KC{X:Cx}{l:List (ac×Obj)}{j:St}{H:Hp}{s:am}{a:ac}(I:Inv X l j H s)(d:A6 H a):s.TypeIs (.ref a) "dict"/\(∀b,Value.ref a=.ref b->∃c,s.heap.get? b=aa c/\c.dict=ae)/\(a == jP)=aj:=by
 rcases d with⟨kvs,e⟩|⟨kvs,e⟩
 .obtain⟨_,g,n,_,f⟩:=pH I.hok e;refine⟨f.typeIs,λb q=>?_,g⟩;cases q;obtain⟨c,_,_,i,h,_⟩:=f;exact⟨c,i,h.2.1⟩
 .obtain⟨_,g,m,_,f⟩:=pB I.hok e;refine⟨f.typeIs,λb q=>?_,g⟩;cases q;obtain⟨c,_,_,i,h,_⟩:=f;exact⟨c,i,h.2.1⟩
section
variable{X:Cx}{f:List (ac×Obj)}{c:St}{H:Hp}{s:am}{a:ac}{y d:V}{u r:ah}{o:Option V}{A:aX}{E:ah->am->Prop}
theorem G7{Q:ah->am->Prop}(w:A.units+1<cLine)(I:Inv X f c H s)(g:kg H a y o)(q:RelV y u)(rd:RelV d r)(h:∀n p,Inv X f c H p->RelV (o.getD d) n->Q n p):aw (az X.prog X.w) A (call (.builtin "dict.get") [.ref a,u,r]) Q E s:=by
 rcases g with⟨kvs,k,e,ey,l⟩|⟨kvs,k,b,e,ey,eb,l⟩
 .subst ey;obtain⟨z,m,x,i,j⟩:=pH I.hok e;refine call_meetsIn Ev j.typeIs PySem.F.entry_dict_get (PySem.F.args_dict_get_3 _ _ _) (meets_dict_get_default (gu X.prog X.w) a (sv q) m r) ⟨_,j.mapOf,h _ _ (I.tok _) ?_⟩;rw[l];exact(i.val k).getD rd
 .subst ey;cases (show u=Value.ref b from q);obtain⟨z,m,v,i,j⟩:=pB I.hok e;refine call_meetsIn Ev j.typeIs PySem.F.entry_dict_get (PySem.F.args_dict_get_3 _ _ _) (meetsH_dict_get_default (sA (gu X.prog X.w)) a b m r) ⟨zD w,k,v,rP I.hok eb,j,h _ _ (I.tok _) ?_⟩;rw[l];exact(i.val k).getD rd
end
def LO(f ty tx:TE):TE:=λb H Q=>f b H λx d=>∃a,x=.ref a/\A6 d a/\ty b d λy g=>tx b g λz c=>∃o,kg c a y o/\Q (o.getD z) c
section
variable{X:Cx}{o e f:ay}{c b:Pos}{j i tx:TE}
theorem HL(J:X.A.units+1<cLine)(K:PE X o j)(M:PE X e i)(L:PE X f tx)(m:M2 X o "get" c e f b):PE X (.Call (.Attribute o "get" c) [e,f] [] b) (LO j i tx):=by intro p s l H Q I h;refine wpAny_Call_method m.base m.few m.line PySem.F.plainAttrs_dict Ev PySem.F.type_dict_get (aT (K p s l H _ I h) λu A ⟨x,Y,q,D,a,N,d,G⟩=>?_);subst N;obtain rfl:u=Value.ref a:=D;obtain⟨v,r,_⟩:=KC q d;refine⟨v,r,?_⟩;rw[m.trees];refine zz rfl (zA (zv (aT (M p A l Y _ q G) λiv w ⟨y,W,S,C,F⟩=>zv (aT (L p w l W _ S F) λfv s3 ⟨z,T,P,B,ov,g,E⟩=>Eo ?_))));exact G7 J P g C B λZ s4 O n=>⟨_,T,O,n,E⟩
end
end L2
namespace Att
open PySem PySem.W PySem.Calls PyProof.Rows
theorem My{P:Params}{h:aC}:∀(c:List Int) (d:List ah),WellAll P h d (c.map WData.int)->IntsAre d c:=by
 intro c
 induction c with
 |nil=>
  intro d w;rw[List.map_nil]at w;cases w;exact .nil
 |cons n c f=>
  intro d w;rw[fK]at w;cases w with
  |cons a b=>
   cases a;exact .cons _ _ (f _ b)
theorem NA{l:OpenLaw}{n:Nat}(y:l.most=aa n){P:Params}{h:aC}{args:List WData}{c:List ah}(p:l.row.toRowW.claim.pre args=ai) (j:WellAll P h c args):∃a o b,c=[Value.ref a]/\args=[WData.list (b.map WData.int)]/\h.get? a=aa {cls:=.type "list",data:=.seq o.toArray}/\IntsAre o b/\b.length<=n:=by
 have m:WShape.hasAll [] args [.list .int]=ai:=(pre_splitW p).1;have s:l.pre.holds [] {args:=args}=ai:=(pre_splitW p).2;obtain⟨d,r,rfl,B,A⟩:=hasAllW_cons m;obtain rfl:=hasAllW_nil A;obtain⟨D,rfl,z⟩:=hasW_list B;obtain⟨b,rfl⟩:=items_int z;have C:b.length<=n:=by
  unfold OpenLaw.pre at s;have i:(WTm.not (.lt (.lit (.int (n:Int))) (.len (.arg 0)))).holds [] {args:=[.list (b.map .int)]}=ai:=by have i:=(holds_andW s).1;rw[y]at i;exact i
  have g:=condW_of i (w_not (w_lt w_lit (w_len_list (w_arg rfl))));rw[cf]at g;refine Nat.le_of_not_lt λq=>?_;have w:(n:Int)<((b.length:Nat):Int):=∅
  first
   | (rw[decide_eq_true w]at g;exact absurd g (by decide))
   | (simp at g;lia)
 cases j with
 |cons v u=>
  cases u;cases v with
  |list x f=>exact⟨_,_,b,rfl,rfl,x,My b _ f,C⟩
theorem Km(l:OpenLaw)(args:List WData):l.row.toRowW.claim.post args (.bool ai) args=ai :=
 postW_of (r:=l.row.toRowW) (X:=(ai == ai))
  (show WShape.has [] (.bool ai) .bool=ai by first|rfl|decide|simp[WShape.has,WShape.arms,WShape.armsAll])
  (show(WTm.eq .res (.lit (.bool ai))).value [] {args:=args,res:=aa (.bool ai),after:=args}=aa (.bool (ai == ai))from w_eq_bool (w_res rfl) w_lit) rfl
theorem attach_call{l:OpenLaw}{n:Nat}{q:aY}{g:List Str}{XP:(Str->Option ah)->aC->Prop}{D:aR->aC->Prop}{d:DefRec}(M:l.most=aa n) (I:d.params.defaults=[])(call:∀(w:aR) (c b:am) (s x:Str->Option ah) (j:ac) (o:Obj) (v u h:ah) (a:ac) (i:List ah) (p:List Int),Ground q g [] XP w c s x b.heap->D w b.heap -> b.heap.get? j=aa o->o.data=.func (docDef d.name d.params d.body d.scope v u h)->b.heap.CodeRec u d.name->s d.name=aa (.ref j) -> b.heap.get? a=aa {cls:=.type "list",data:=.seq i.toArray}->IntsAre i p->p.length<=n->b.gens=#[] -> ku (az l.prog w) pV (.call (.ref j) ⟨[.ref a],[]⟩) (λr m=>r=.ok (.ret (.bool ai))/\OldK b.heap m.heap/\m.os=b.os/\lI m.gens) b):WalkO q g XP D l.row.toRowW d [] (λf i=>PySem.call f i):=by intro w c b s x G Y j o v u h dV kV L Q X B F P C z as H A J y O;obtain rfl:dV=.none:=Dflts.none B I;obtain rfl:kV=.none:=Dflts.noKw B;obtain⟨a,i,p,rfl,rfl,Aa,E,Z⟩:=NA M H y;refine enter_call (sH (call w c b s x j o v u h a i p G Y L (fd_plain Q) X F Aa E Z P) λr m K=>?_);obtain⟨rfl,W,T,S⟩:=K;exact⟨.inl ⟨.bool ai,.bool ai,[],rfl,λ_=>rfl,.bool ai,Km l _,λ_=>⟨List.Pairwise.nil,λ_ N=>(nomatch N)⟩⟩,W,T,S⟩
end Att
namespace L2
theorem Ap:∀{a:List ah}{b:List Int},IntsAre a b->bq (b.map V.int) a
 |_,_,.nil=>.nil
 |_,_,.cons n t h=>.cons ⟨t,rfl⟩ (Ap h)
def yH(H:Hp):Prop:=∀b,H b=ae\/(∃o a,H b=aa (.frz o (.lst a)))\/∃q,H b=aa (.tbl q)
def iL(K:ar):Hp:=λb=>match ji K "Seeker.best" with
 |some (_,P)=>if b=P then aa (.tbl "Seeker.best.<locals>.<lambda>")else ae
 |none=>ae
theorem nB{K:ar}{b:ac}{u:HO}(h:iL K b=aa u):u=.tbl "Seeker.best.<locals>.<lambda>"/\∃c,ji K "Seeker.best"=aa (c,b):=by
 unfold iL at h;split at h
 .rename_i c P e;split at h
  .rename_i a;subst a;cases h;exact⟨rfl,c,e⟩
  .cases h
 .cases h
theorem A_{K:ar}{c P:ac}(h:ji K "Seeker.best"=aa (c,P)):iL K P=aa (.tbl "Seeker.best.<locals>.<lambda>"):=by unfold iL;rw[h];exact if_pos rfl
def AC(K:ar)(h:aC):Prop:=∀c P,ji K "Seeker.best"=aa (c,P)->wd K c P=ai/\K.lookup P=ae/\h.get? P=aa {cls:=.none,data:=.fields #[]}
theorem Kg{P:aY}{w:aR}{K:ar}{L mb:Str->Option ah}{CX:dQ}{k:Nat}{fa a:ac}{fd:gb}{x:Str}{sp:Sp}{f:am}{G:List ah}{M:List Int}(KX:K.In f.heap) (jq:f.heap.Ns bP L) (j:f.heap.Ns mC mb) (ot:∀x:Str,x≠"__name__"->mb x=d3 x) (O:f.heap.NoLimit) (hbm:∃E B,L "__builtins__"=aa (.ref E)/\E≠mC/\f.heap.get? E=aa B/\B.cls=.type "module"/\B.dict=aa mC/\B.data=.plain) (C:AC K f.heap) (hg:f.gens=#[])(y:f.heap.get? a=aa {cls:=.type "list",data:=.seq G.toArray}) (hi:IntsAre G M) (hl:M.length<=bc) (hr:Room k pV)(F:∀p:aC,K.In p->p.Ns bP L->fO P w K L p CX k fa fd [x] sp) (Oc:∀(s:am) (u:ah),BindsTo s fd ⟨[u],[]⟩ [(x,u)])(iI:∀H:Hp,yH H->b_ K H a (M.map V.int)->sp [.ref a] H (λv _=>v=.bl ai) λ_ _ _=>False)(hCX:∀H e l,CX [] H f (λ_ _ _=>False) e l->False):ku (az P w) pV (.call (.ref fa) ⟨[.ref a],[]⟩) (λr l=>r=.ok (.ret (.bool ai))/\OldK f.heap l.heap/\l.os=f.os/\lI l.gens) f:=by
 have rv:=Ap hi;have N:=hi.length;have D:∀H:Hp,yH H->b_ K H a (M.map V.int)->c_ P w H f.heap->(∀b,H b≠ae->b=a\/∃c,ji K "Seeker.best"=aa (c,b))->(H a≠ae->K.lookup a=ae)->uj K H ->
   ku (az P w) pV (.call (.ref fa) ⟨[.ref a],[]⟩) (λr l=>r=.ok (.ret (.bool ai))/\OldK f.heap l.heap/\l.os=f.os/\lI l.gens) f:=by
  intro H hO hS I X hK hTH;have g:∀{b:ac}{o:Obj},f.heap.get? b=aa o->H b=ae->(lh f.heap H).get? b=aa o:=λe n=>Ju e n;have noA:∀{b:ac}{o:Obj}{S:Array DictEntry}{T:Nat},f.heap.get? b=aa o->o.data=.dict S T->H b=ae:=λ{b o S T} e d=>by
   cases q:H b with
   |none=>rfl
   |some u=>
    rcases X b (by rw[q];simp)with i|⟨c,i⟩
    .subst i;rw[y]at e;cases e;have d':Data.seq G.toArray _=Data.dict S T:=d;cases d'
    .rw[(C c b i).2.2]at e;cases e;cases d
  have A:∀{b:ac}{m:Str->Option ah},f.heap.Ns b m->(lh f.heap H).Ns b m:=λ{b m} ⟨o,S,T,e,d,r⟩=>⟨o,S,T,g e (noA e d),d,r⟩
  have Q:K.In (lh f.heap H):=λb o e=>g (KX b o e) (by
   cases q:H b with
   |none=>rfl
   |some u=>
    rcases X b (by rw[q];simp)with i|⟨c,i⟩
    .subst i;rw[hK (by rw[q];simp)]at e;cases e
    .rw[(C c b i).2.1]at e;cases e)
  have hM:Mod K L (lh f.heap H):=⟨Q,A jq,⟨mb,A j,ot⟩,(let ⟨mc,h1,h2⟩:=O;⟨mc,A h1,h2⟩),by
   obtain⟨E,B,b1,b2,W,b4,b5,b6⟩:=hbm;refine⟨E,B,b1,b2,g W ?_,b4,b5,b6⟩;cases q:H E with
   |none=>rfl
   |some u=>
    rcases X E (by rw[q];simp)with i|⟨c,i⟩
    .subst i;rw[y]at W;cases W;simp at b4
    .rw[(C c E i).2.2]at W;cases W;simp at b4⟩
  have e0:oQ P w K L (lh f.heap H) pV [] f H:=⟨rfl,hM,λb o e=>N3 e,lN (E9 _ _),trivial,λb j=>absurd (show b∈([]:List ac)from j) (by simp),I,.of_eq hg,hTH⟩
  refine sH ((F _ Q (A jq)).run pV [] f H ⟨[.ref a],[]⟩ [.ref a] [.ref a] _ _ hr e0 (Oc f (.ref a)) (.cons rfl .nil) (iI H hO hS)) λr l h=>?_;cases r with
  |error e=>exact(hCX H e l h).elim
  |ok fl=>
   cases fl with
   |next=>exact iZ h
   |brk=>exact iZ h
   |cont=>exact iZ h
   |ret u=>
    obtain⟨v,H',os,bare,un,EY,r',q⟩:=h;have q':v=.bl ai:=q;subst q';obtain rfl:u=Value.bool ai:=r';refine⟨rfl,⟨λb o e=>?_,λb o e=>un.there b o e (by simp)⟩,os,bare⟩;cases q:H b with
    |none=>exact .inl (un.keep b o e q (by intro z;exact absurd (show b∈([]:List ac)from z) (by simp)) (by simp))
    |some u=>
     rcases hO b with z|⟨B,xs,z⟩|⟨qn,z⟩
     .rw[q]at z;cases z
     .have z2:=un.frzs b B _ z;obtain⟨J,_⟩:=I b _ z;obtain⟨e2,_⟩:=EY b _ z2;rw[e]at J;cases J;exact .inl e2
     .rcases X b (by rw[q];simp)with i|⟨c,i⟩
      .subst i;obtain⟨ps,J,_⟩:=I b _ z;rw[y]at J;cases J
      .obtain⟨k1,k2,k3⟩:=C c b i;rw[k3]at e;cases e;obtain⟨oc,Y,_,_,_,_,_,_,_,f1,f2,f3,f4,_⟩:=PySem.W.codeHd_of_K KX k1;obtain⟨ps,J,_⟩:=EY b _ (un.tbls b _ z).1;exact .inr (.inl ⟨⟨c,oc,Y,f1,f2,f3,f4⟩,rfl,#[],ps,rfl,by rw[J];simp⟩)
 cases hk:K.lookup a with
 |some o=>
  have e:=KX a o hk;rw[y]at e;cases e;have tH:∀b u,iL K b=aa u->cZ P w (iL K) f.heap b u:=λb u z=>by
   obtain⟨rfl,c,e⟩:=nB z;exact⟨#[],(C c b e).2.2,trivial,λZ cv h=>by cases h⟩
  refine D (iL K) (λb=>?_) (.inr ⟨_,G.toArray,_,hk,rfl,rfl,rfl,by rw[cu,N];exact hl,by simpa using rv⟩) tH (λb z=>?_) (λz=>?_) λx hx c P e=>?_
  .cases q:iL K b with
   |none=>exact .inl rfl
   |some u=>exact .inr (.inr ⟨_,congrArg aa (nB q).1⟩)
  .cases q:iL K b with
   |none=>exact absurd q z
   |some u=>exact .inr (nB q).2
  .cases q:iL K a with
   |none=>exact absurd q z
   |some u=>
    obtain⟨_,c,i⟩:=nB q;rw[(C c a i).2.2]at y;cases y
  .obtain rfl:x = "Seeker.best":=by simpa[sh]using hx
   exact A_ e
 |none=>
  have ta:∀c P,ji K "Seeker.best"=aa (c,P)->P≠a:=λc P e z=>by subst z;rw[(C c P e).2.2]at y;cases y
  refine D (λb=>if b=a then aa (.frz {cls:=.type "list",data:=.seq G.toArray} (.lst (M.map V.int)))else iL K b) (λb=>?_) (.inl (.inr ⟨{cls:=.type "list",data:=.seq G.toArray},if_pos rfl⟩)) (λb u z=>?_) (λb z=>?_) (λ_=>hk) λx hx c P e=>?_
  .by_cases j:b=a
   .exact .inr (.inl ⟨_,_,if_pos j⟩)
   .cases q:iL K b with
    |none=>exact .inl ((if_neg j).trans q)
    |some u=>exact .inr (.inr ⟨_,(if_neg j).trans (q.trans (congrArg aa (nB q).1))⟩)
  .by_cases j:b=a
   .have z':=(if_pos j).symm.trans z;cases z';subst j;exact⟨y,by rw[cf];exact hl,G,_,rv,y⟩
   .obtain⟨rfl,c,e⟩:=nB ((if_neg j).symm.trans z);exact⟨#[],(C c b e).2.2,trivial,λZ cv h=>by cases h⟩
  .by_cases j:b=a
   .exact .inl j
   .cases q:iL K b with
    |none=>exact absurd ((if_neg j).trans q) z
    |some u=>exact .inr (nB q).2
  .obtain rfl:x = "Seeker.best":=by simpa[sh]using hx
   exact(if_neg (ta c P e)).trans (A_ e)
theorem OL{l:zE}{n k:Nat}{q:aY}{c:List Str}{XP:(Str->Option ah)->aC->Prop}{E:aR->aC->Prop}{d:DefRec}{K:Params->ar}{CX:aR->dQ}{sp:aR->Sp}{x:Str}(P:l.most=aa n) (r:n<=bc) (M:d.params.defaults=[]) (O:Room k pV)(C:∀(w:aR) (h:aC),E w h->(K w.params).In h/\AC (K w.params) h)(F:∀(w:aR) (g:Str->Option ah) (m:ac) (h:aC),(K w.params).In h->h.Ns bP g->g d.name=aa (.ref m) -> ∃z:gb,(∀(s:am) (u:ah),BindsTo s z ⟨[u],[]⟩ [(x,u)]) /\ ∀b:aC,(K w.params).In b->b.Ns bP g->fO l.prog w (K w.params) g b (CX w) k m z [x] (sp w))(N:∀(w:aR) (H:Hp) (a:ac) (j:List Int),j.length<=n->yH H->b_ (K w.params) H a (j.map V.int)->sp w [.ref a] H (λv _=>v=.bl ai) λ_ _ _=>False)(y:∀(w:aR) (H:Hp) (s:am) (e:ah) (p:am),CX w [] H s (λ_ _ _=>False) e p->False):PySem.W.WalkO q c XP E l.row.toRowW d [] (λf A=>PySem.call f A):=by refine Att.attach_call P M λw B i g mb m o pm cd Z a A j G Y ho hd bf L Aa J D Q=>?_;have I:=(C w _ Y).1;obtain⟨z,S,X⟩:=F w g m _ I G.T.g L;exact Kg I G.T.g G.T.b G.T.builtins G.T.nolimit G.T.bmain (C w _ Y).2 Q Aa J (cO D r) O X S (λH W T=>N w H a j D W T) λH e p=>y w H i e p
def fI(s:aU):sJ:=match s with
 |.FunctionDef _ a _ _ _ _ _ _ _ _=>a
 |_=>{posonlyargs:=[],args:=[],vararg:=ae,kwonlyargs:=[],kw_defaults:=[],kwarg:=ae,defaults:=[]}
def df(s:aU):List aU:=match s with
 |.FunctionDef _ _ b _ _ _ _ _ _ _=>b
 |_=>[]
def aJ(s:aU):dm:=match s with
 |.FunctionDef _ _ _ _ _ _ a _ _ _=>a
 |_=>{kind:=.function,names:=[],isGenerator:=aj,isCoroutine:=aj}
abbrev E0:XK:=λ_ _ _=>False
structure ki(K:ar)(x qual:Str)(st:aU)(f:ac)(fd:gb):Prop where
 ex:∃(oc:ah) (od:Option ac) (kV doc pm:ah) (an:Option ac) (aB ct:ah) (osl:Array (Option ah)),
  fd=fG x qual (fI st) (df st) (aJ st) .none kV doc pm an aB ct/\K.lookup f=aa ⟨oc,od,.func fd,osl⟩/\pO K aB qual=ai
 kp:kx K (.ref f)=ai
section
variable{P:aY}{w:aR}{K:ar}{b:Str->Option ah}{a:aC}
theorem ki.binds{x c:Str}{g:aU}{f:ac}{p:gb}{j:List Str}(F:ki K x c g f p)(h:∀(kV d l:ah) (n:Option ac) (o m:ah) (i:List ah),i.length=j.length->dP (fG x c (fI g) (df g) (aJ g) .none kV d l n o m) ⟨i,[]⟩=pure (j.zip i)):Binds K p j []:=by obtain⟨oc,r,kV,d,l,n,o,m,q,rfl,s,u⟩:=F.ex;exact .all (h kV d l n o m)
theorem vt{x d:Str}{g:aU}{f:ac}{oc:ah}{p o:Option ac}{i:Array (Option ah)}{kV h m j n:ah}(l:K.lookup f=aa ⟨oc,p,.func (fG x d (fI g) (df g) (aJ g) .none kV h m o j n),i⟩)(c:pO K j d=ai) (k:kx K (.ref f)=ai):ki K x d g f (fG x d (fI g) (df g) (aJ g) .none kV h m o j n):=⟨⟨oc,p,kV,h,m,o,j,n,i,rfl,l,c⟩,k⟩
end
theorem yz{n:Nat}(h:n<=1000):n<bc:=zF h (by decide)
section
variable{X:Cx}
theorem pv(i:Nat){x:Str}{a:Pos}(d:X.N[i]?=aa x:=by rfl)(b:dR X.env.scope x:=by eq_refl)(c:(x==("__debug__":Str))=aj:=by decide)(f:(x==("__classdict__":Str))=aj:=by decide):PE X (.Name x a) (Dz i):=eC d b c f
end
theorem nj{A B:Prop}(h:B):if aj=ai then A else B:=by rw[if_neg eZ];exact h
theorem nD{A B:Prop}(h:A):if ai=ai then A else B:=by rw[if_pos rfl];exact h
def Same(H a:Hp):Prop:=∀b o,H b=aa o->a b=aa o
theorem Same.refl(H:Hp):Same H H:=λ_ _ h=>h
theorem Same.trans{H f d:Hp}(a:Same H f)(b:Same f d):Same H d:=λc o h=>b c o (a c o h)
theorem Same.free{H a:Hp}(e:Same H a){l:ac}(h:a l=Option.none):H l=Option.none:=by
 cases q:H l with
 |none=>rfl
 |some o=>
  rw[e l o q]at h;cases h
end L2
set_option maxHeartbeats 4000000
namespace L2
def fu(a:Env):List (Str×fL)->List (Str×ac)->List (Str×ac)
 |[],b=>b
 | (n,k)::r,b=>if k == .free then fu a r ((n,(a.cells.lookup n).getD 0)::b)else fu a r b
theorem MR{d:Env}{y:Str}{c:ac}(b:List (Str×fL))(f:List (Str×ac))(j:∀x∈b,x.2=.free->∃c,d.cells.lookup x.1=aa c)(h:(fu d b f).lookup y=aa c):f.lookup y=aa c\/d.cells.lookup y=aa c:=by
 induction b generalizing f with
 |nil=>exact .inl h
 |cons a r g=>
  obtain⟨n,k⟩:=a;unfold fu at h;have i:∀x∈r,x.2=.free->∃c,d.cells.lookup x.1=aa c:=λx m=>j x (iA _ m);split at h
  .rename_i o;obtain⟨s,l⟩:=j (n,k) (lJ ..) (by simpa using o);rcases g _ i h with q|q
   .rw[iE]at q;split at q
    .rename_i p;have e:y=n:=by simpa using p
     subst e;rw[l]at q;exact .inr (by rw[l];exact q)
    .exact .inl q
   .exact .inr q
  .exact g _ i h
theorem C9{a:Type}{n:Str}{v:a}{l:List (Str×a)}:((n,v)::l).lookup n=aa v:=by rw[iE];simp
theorem Cq{a:Type}{n y:Str}{v:a}{l:List (Str×a)}(h:∃c,l.lookup y=aa c):∃c,((n,v)::l).lookup y=aa c:=by
 rw[iE];split
 .exact⟨_,rfl⟩
 .exact h
theorem yo{d:Env}{y:Str}:∀(a:List (Str×fL)) (b:List (Str×ac)),(∃c,b.lookup y=aa c)->∃c,(fu d a b).lookup y=aa c
 |[],b,h=>h
 | (n,k)::r,b,h=>by
  unfold fu;split
  .exact yo r _ (Cq h)
  .exact yo r _ h
theorem uf{g:Env}{y:Str}:∀(a:List (Str×fL)) (i:List (Str×ac)),(∃x∈a,x.1=y/\x.2=.free)->∃c,(fu g a i).lookup y=aa c
 |[],i,⟨_,h,_⟩=>by simp at h
 | (n,k)::r,i,⟨x,b,f,d⟩=>by
  unfold fu;rcases bV.mp b with e|b
  .subst e;simp only at f d;subst f d;simp only[beq_self_eq_true,if_true];exact yo r _ ⟨_,C9⟩
  .split
   .exact uf r _ ⟨x,b,f,d⟩
   .exact uf r _ ⟨x,b,f,d⟩
theorem yD{b:Env}:∀(a:List (Str×fL)) (g:List (Str×ac)),(∀x∈a,x.2=.free->∃c,b.cells.lookup x.1=aa c) -> (forIn (m:=Sem) a g λx r=>match x with | (d,f)=>if(f == NameKind.free)=ai then do let c <-cellOf b d;pure (ForInStep.yield ((d,c)::r))else pure (ForInStep.yield r))=pure (fu b a g)
 |[],g,_=>rfl
 | (n,k)::r,g,h=>by
  have j:∀x∈r,x.2=.free->∃c,b.cells.lookup x.1=aa c:=λx o=>h x (iA _ o);rw[List.forIn_cons];unfold fu;by_cases i:(k == NameKind.free)=ai
  .obtain⟨c,l⟩:=h (n,k) (lJ ..) (by simpa using i);simp only[i,if_true];have e:cellOf b n=pure c:=by unfold cellOf;rw[l]
   rw[e];simp only[pure_bind];rw[yD r _ j,l];rfl
  .simp only[i,if_false,pure_bind];exact yD r _ j
theorem DU{a:dm}{b:Env}(h:∀x∈a.names,x.2=.free->∃c,b.cells.lookup x.1=aa c):closureFor a b=pure (fu b a.names []):=by unfold closureFor;have q:=yD a.names [] h;simp only[bind_pure_comp]at q ⊢;rw[q];rfl
theorem vM{n c:Nat}(b:n+1<=c)(a:c<n):False:=∅
theorem wW:∀(c:List (Str×fL)) (n:Nat) (a b:List (Str×ac)),fc n c (a++b)=fc n c a++b
 |[],_,_,_=>rfl
 | (x,k)::r,n,a,b=>by
  unfold fc;split
  .exact wW r (n+1) ((x,n)::a) b
  .exact wW r n a b
theorem uy{y:Str}{c:ac}:∀(b:List (Str×fL)) (n:Nat) (a:List (Str×ac)),(y,c)∈fc n b a->(y,c)∈a\/(y,.cell)∈b
 |[],_,_,h=>.inl h
 | (x,k)::r,n,a,h=>by
  unfold fc at h;split at h
  .rename_i d;rcases uy r _ _ h with z|z
   .rcases bV.mp z with z|z
    .cases z;have e:k=.cell:=by simpa using d
     subst e;exact .inr (lJ ..)
    .exact .inl z
   .exact .inr (iA _ z)
  .rcases uy r _ _ h with z|z
   .exact .inl z
   .exact .inr (iA _ z)
theorem yU{y:Str}:∀(b:List (Str×fL)) (n:Nat) (a:List (Str×ac)),(∃c,a.lookup y=aa c)->∃c,(fc n b a).lookup y=aa c
 |[],_,_,h=>h
 | (x,k)::r,n,a,h=>by
  unfold fc;split
  .exact yU r _ _ (Cq h)
  .exact yU r _ _ h
theorem v5{y:Str}:∀(b:List (Str×fL)) (n:Nat) (a:List (Str×ac)),(y,.cell)∈b->∃c,(fc n b a).lookup y=aa c
 | (x,k)::r,n,a,h=>by
  unfold fc;rcases bV.mp h with e|h
  .cases e;exact yU r _ _ ⟨_,C9⟩
  .split
   .exact v5 r _ _ h
   .exact v5 r _ _ h
def kc(X:Cx)(a:dm)(C:ac):List (Str×ac):=fc (C+1) a.names (fu X.env a.names [])
theorem yf(X:Cx)(a:dm)(C:ac):kc X a C=fc (C+1) a.names []++fu X.env a.names []:=wW a.names (C+1) [] _
theorem JW{M:Model}{A:aX}{E:ah->am->Prop}{s:am}{a:dm}{b:ac}{j:List (Str×ac)}{c:Str}{f:Env}{Q:Env->am->Prop}(l:Q (newEnv a s.heap.objs.size b (fc (s.heap.objs.size+1) a.names j) c ae .none (aa f) mC) {s with heap:=pushCells (s.heap.push {cls:=.type "dict",data:=.dict #[]}) a.names}):aw M A (newFunctionEnv a b j [] c ae .none (aa f)) Q E s:=by
 simp only[newFunctionEnv,Option.isSome_some,if_true];refine au (wpAny_alloc ?_);refine au (wpAny_layCells _ (λi d h=>by cases g:d == NameKind.cell <;> simp[g]) _ _ _ _ ?_);rw[show({s with heap:=s.heap.push {cls:=.type "dict",data:=.dict #[]}}:am).heap.objs.size=s.heap.objs.size+1 from sG ..];refine au ?_;rw[List.forIn_nil];exact aN (aN l)
theorem Bu{s:am}{a:List (Str×fL)}{y:Str}{c:ac}(h:(y,c)∈fc (s.heap.objs.size+1) a []):(pushCells (s.heap.push {cls:=.type "dict",data:=.dict #[]}) a).IsCell c ae/\s.heap.objs.size+1<=c/\∀z,(z,c)∈fc (s.heap.objs.size+1) a []->y=z:=by have ok:=cellsFrom_ok a (s.heap.push {cls:=.type "dict",data:=.dict #[]}) (s.heap.objs.size+1) [] ⟨λ_ _ d=>(nomatch d),List.Pairwise.nil⟩ (by rw[sG];exact bd _);rw[sG]at ok;exact⟨(ok.empty y c h).1,(ok.empty y c h).2,λz b=>name_of_addr ok.apart h b⟩
def cx(X:Cx)(a:dm)(b:List Str)(C:ac)(s₀:am)(H₀:Hp)(ex:List ac)(pn:List (ac×Obj)):Cx where
 prog:=X.prog
 w:=X.w
 K:=X.K
 mg:=X.mg
 base:=X.base
 A:=X.A
 N:=b
 s₀:=s₀
 H₀:=H₀
 env:=compEnvC a (kc X a C) C X.env
 outer:=X.stack
 stack:=X.stack
 ex:=ex
 fn:=λy=>a.names.lookup y == aa .cell
 calm:=X.calm
 pn:=X.pn++pn
 xe:=λ_ _=>False
def d4(b:St)(a:List Nat):St:=a.map λi=>(b[i]?).join
structure f8(X:Cx)(scope:dm)(x:Str)(N':List Str)(cap:List Nat):Prop where
 kind:scope.kind=.function
 cells:∀y∈scope.names,y.2=.cell->scope.names.lookup y.1=aa .cell
 names:∀y∈scope.names,y.2=.local->scope.names.lookup y.1=aa .local
 loc:scope.names.lookup x=aa .local\/scope.names.lookup x=aa .cell
 free:∀y∈scope.names,y.2=.free->X.env.kindOf y.1=aa .cell\/X.env.kindOf y.1=aa .free
 nd:N'.Nodup
 hd:N'.head?=aa x
 len:N'.length=cap.length+1
 caps:∀i j y,N'[i+1]?=aa y->cap[i]?=aa j->(X.N[j]?=aa y/\scope.names.lookup y=aa .free)\/(X.N.length<=j/\scope.names.lookup y=aa .local)
theorem CH{a:List (Str×fL)}{y:Str}{k:fL}(h:a.lookup y=aa k):∃x∈a,x.1=y/\x.2=k:=⟨(y,k),i3 h,rfl,rfl⟩
theorem xV{a:Env}{x:Str}:∀{b:List (Str×fL)}{k:fL}, (b.map λ(n,k)=>if(k == NameKind.free&&a.scope.kind == .function&&a.kindOf n == aa .cell)then(n,NameKind.cell)else(n,k)).lookup x=aa k -> ∃f,b.lookup x=aa f/\(k=f\/(f=.free/\k=.cell))
 |[],_,h=>by simp at h
 | (n,c)::r,k,h=>by
  change iC x ((if(c == NameKind.free&&a.scope.kind == .function&&a.kindOf n == aa .cell)=ai then(n,NameKind.cell)else(n,c))::_)=_ at h;rw[iE];by_cases d:(c == NameKind.free&&a.scope.kind == .function&&a.kindOf n == aa .cell)=ai
  .rw[if_pos d,iE]at h;split at h
   .rename_i g;cases h;have:c=.free:=by simp at d;exact d.1.1
    exact⟨c,rfl,.inr ⟨this,rfl⟩⟩
   .exact xV h
  .rw[if_neg d,iE]at h;split at h
   .rename_i g;cases h;exact⟨c,rfl,.inl rfl⟩
   .exact xV h
theorem yW{a:Env}{x:Str}:∀{b:List (Str×fL)},b.lookup x=aa .free -> let q:=(b.map λ(n,k)=>if(k == NameKind.free&&a.scope.kind == .function&&a.kindOf n == aa .cell)then(n,NameKind.cell)else(n,k)).lookup x
  q=aa .cell\/q=aa .free
 |[],h=>by simp at h
 | (n,c)::r,h=>by
  show iC x ((if(c == NameKind.free&&a.scope.kind == .function&&a.kindOf n == aa .cell)=ai then(n,NameKind.cell)else(n,c))::_)=_\/iC x ((if(c == NameKind.free&&a.scope.kind == .function&&a.kindOf n == aa .cell)=ai then(n,NameKind.cell)else(n,c))::_)=_;rw[iE]at h;by_cases f:(c == NameKind.free&&a.scope.kind == .function&&a.kindOf n == aa .cell)=ai
  .rw[if_pos f,iE];cases d:x == n with
   |true=>exact .inl rfl
   |false=>rw[d]at h;exact yW h
  .rw[if_neg f,iE];cases d:x == n with
   |true=>rw[d]at h;cases h;exact .inr rfl
   |false=>rw[d]at h;exact yW h
theorem xW{a:Env}{x:Str}:∀{b:List (Str×fL)},b.lookup x=aa .cell -> (b.map λ(n,k)=>if(k == NameKind.free&&a.scope.kind == .function&&a.kindOf n == aa .cell)then(n,NameKind.cell)else(n,k)).lookup x=aa .cell
 |[],h=>by simp at h
 | (n,d)::r,h=>by
  show iC x ((if(d == NameKind.free&&a.scope.kind == .function&&a.kindOf n == aa .cell)=ai then(n,NameKind.cell)else(n,d))::_)=_;rw[iE]at h;by_cases f:(d == NameKind.free&&a.scope.kind == .function&&a.kindOf n == aa .cell)=ai
  .rw[if_pos f,iE];cases c:x == n with
   |true=>rfl
   |false=>rw[c]at h;exact xW h
  .rw[if_neg f,iE];cases c:x == n with
   |true=>rw[c]at h;cases h;rfl
   |false=>rw[c]at h;exact xW h
section
variable{X:Cx}{A:List (ac×Obj)}{w:St}{H:Hp}{s:am}{f:dm}{x:Str}{D:List Str}{g:List Nat}
theorem Inv.freeHas(I:Inv X A w H s)(B:f8 X f x D g):∀y∈f.names,y.2=.free->∃c,X.env.cells.lookup y.1=aa c:=λy a e=>I.ok.has y.1 (B.free y a e)
theorem Inv.clIn(I:Inv X A w H s)(B:f8 X f x D g){y:Str}{c:ac}(h:(fu X.env f.names []).lookup y=aa c):X.env.cells.lookup y=aa c:=by
 rcases MR f.names [] (I.freeHas B) h with q|q
 .simp at q
 .exact q
theorem Inv.cbIn(I:Inv X A w H s)(B:f8 X f x D g){C:ac}{y:Str}{c:ac}(h:(kc X f C).lookup y=aa c):((y,c)∈fc (C+1) f.names []/\f.names.lookup y=aa .cell)\/((fu X.env f.names []).lookup y=aa c/\X.env.cells.lookup y=aa c):=by
 rw[yf,sL]at h;cases e:(fc (C+1) f.names []).lookup y with
 |none=>rw[e]at h;exact .inr ⟨h,I.clIn B h⟩
 |some a=>
  rw[e]at h;cases h;have m:=i3 e;rcases uy _ _ _ m with z|z
  .cases z
  .exact .inl ⟨m,B.cells _ z rfl⟩
theorem Inv.cbOld(I:Inv X A w H s)(B:f8 X f x D g){C:ac}{y:Str}{c:ac}(h:(fu X.env f.names []).lookup y=aa c)(a:f.names.lookup y=aa .free):(kc X f C).lookup y=aa c:=by
 rw[yf,sL];cases e:(fc (C+1) f.names []).lookup y with
 |none=>exact h
 |some b=>
  rcases uy _ _ _ (i3 e)with z|z
  .cases z
  .have:=B.cells _ z rfl;rw[a]at this;cases this
theorem Inv.block{fp:List ac}{E:aC}{m:Str->Option ah}{t':Nat}(hh:E=pushCells (s.heap.push {cls:=.type "dict",data:=.dict #[]}) f.names)(I:Inv X A w H s)(B:f8 X f x D g)(Y:∀b∈fp,iz X A H b)(hfo:∀b∈fp,∃o,s.heap.get? b=aa o)(jq:E.Ns s.heap.objs.size m)(F:∀b o,s.heap.get? b=aa o->E.get? b=aa o):Inv (cx X f D s.heap.objs.size s H fp A) [] (ae::d4 w g) H {s with heap:=E,toks:=t'}:=by
 have N:∀x c,X.env.cells.lookup x=aa c->c<s.heap.objs.size:=λx c e=>(I.cell x c e).elim λv q=>q.lt;have C:∀{y:Str}{c:ac},(y,c)∈fc (s.heap.objs.size+1) f.names []->E.IsCell c ae/\s.heap.objs.size+1<=c/\∀z,(z,c)∈fc (s.heap.objs.size+1) f.names []->y=z:=λh=>by rw[hh];exact Bu h
 have lk:∀y k,(compEnvC f (kc X f s.heap.objs.size) s.heap.objs.size X.env).kindOf y=aa k->∃O,f.names.lookup y=aa O/\(k=O\/(O=.free/\k=.cell)):=λy k h=>xV h;have J:∀y,f.names.lookup y=aa .free->∃c,(fu X.env f.names []).lookup y=aa c:=λy h=>uf f.names [] (CH h);have nfs:∀b∈eV X.stack,b≠s.heap.objs.size:=λb G e=>by
  rcases bV.mp (I.stkSub b G)with z|z
  .exact absurd I.lt (by rw[<-z,e];exact dZ _)
  .exact I.nofs (lN e.symm) z
 refine⟨⟨I.ok.mod,B.kind,I.ok.glob,I.ok.blt,bd _,λy z c h1 h2=>?_,λy P=>?_,λy c h mT=>?_,I.ok.hd,I.ok.frames,.inl rfl,λb G=>?_,λb o e=>I.bs b o e,cO I.ok.bsz I.sz,λb o e G=>?_,λb G hf=>?_,I.stack,(λb G=>I.stkFree b G),I.tab⟩,rfl,I.bare,Un.kept F,⟨m,jq,λi y v e1 S e3=>?_⟩,λy c h=>?_,I.hok.fresh (bd _),λy c h=>?_,λp hp=>?_,I.hok.kept F,?_⟩
 .-- inj
  rcases I.cbIn B h1 with⟨a1,a2⟩|⟨a1,a2⟩ <;> rcases I.cbIn B h2 with⟨b1,b2⟩|⟨b1,b2⟩
  .exact(C a1).2.2 z b1
  .exact(vM (C a1).2.1 (N _ _ b2)).elim
  .exact(vM (C b1).2.1 (N _ _ a2)).elim
  .exact I.ok.inj y z c a2 b2
 .-- has
  show ∃c,(kc X f s.heap.objs.size).lookup y=aa c;have jr:f.names.lookup y=aa .free->∃c,(kc X f s.heap.objs.size).lookup y=aa c:=λq=>(J y q).imp λc hc=>I.cbOld B hc q;rcases P with P|P
  .obtain⟨O,q,z|⟨z,_⟩⟩:=lk y _ P
   .subst z;exact v5 _ _ _ (i3 q)
   .subst z;exact jr q
  .obtain⟨O,q,z|⟨_,z⟩⟩:=lk y _ P
   .subst z;exact jr q
   .cases z
 .-- cab
  have hk:f.names.lookup y=aa .cell:=by simpa using(show(f.names.lookup y == aa .cell)=ai from h)
  show s.heap.objs.size<=c;rcases I.cbIn B mT with⟨a1,a2⟩|⟨a1,a2⟩
  .have:=(C a1).2.1;lia
  .obtain⟨c',Q⟩:=v5 (n:=s.heap.objs.size+1) (a:=[]) _ (i3 hk);have e:(kc X f s.heap.objs.size).lookup y=aa c':=by rw[yf,sL,Q];rfl
   have S:(kc X f s.heap.objs.size).lookup y=aa c:=mT;rw[e]at S;cases S;have:=(C (i3 Q)).2.1;lia
 .-- exf
  obtain⟨f0,f1,f2,f3,f4,f5⟩:=Y b G;obtain⟨o,L⟩:=hfo b G;refine⟨λe=>absurd (bo L) (by rw[e];exact dZ _),λy c h=>?_⟩;rcases I.cbIn B h with⟨a1,a2⟩|⟨a1,a2⟩
  .rintro rfl;exact vM (C a1).2.1 (bo L)
  .exact f4 y c a2
 .-- noex
  obtain⟨f0,f1,f2,f3,f4,f5⟩:=Y b G;rcases f3 with z|z
  .exact I.ok.noex b o e z
  .exact absurd (eR (bo e) (cO I.ok.bsz z)) (dZ _)
 .-- exfs
  obtain⟨f0,f1,f2,f3,f4,f5⟩:=Y b G;rcases bV.mp (I.stkSub b hf)with z|z
  .exact f1 z
  .exact f2 z
 .-- loc
  cases i with
  |zero=>simp at S
  |succ i=>
   have K:(d4 w g)[i]?=aa (aa v):=by simpa using S
   unfold d4 at K;rw[jU]at K;cases Z:g[i]? with
   |none=>rw[Z]at K;cases K
   |some j=>
    rw[Z]at K;have T:(w[j]?).join=aa v:=dY K;have e5:w[j]?=aa (aa v):=by
     cases hq:w[j]? with
     |none=>rw[hq]at T;cases T
     |some o=>rw[hq]at T;exact congrArg aa T
    obtain⟨b1,b2⟩:=(B.caps i j y e1 Z).elim id λz=>by have:=(cq.mp e5).1;rw[I.len]at this;exact absurd this (Nat.not_lt.mpr z.1)
    obtain⟨mm,hn,hl⟩:=I.loc;have oi:=B.free _ (i3 b2) rfl;have W:dR X.env.scope y:=by
     rcases oi with z|z
     .exact .inr (.inl z)
     .exact .inr (.inr z)
    obtain⟨u,r,l⟩:=hl j y v b1 e5 W;refine⟨u,r,.inr ⟨yW b2,?_⟩⟩;rcases l with⟨l,_⟩|⟨_,c,hc,qf⟩
    .rcases oi with z|z
     .rw[l]at z;cases z
     .rw[l]at z;cases z
    .obtain⟨c',Q⟩:=J y b2;have e6:=I.clIn B Q;rw[hc]at e6;cases e6;obtain⟨M,L,hd⟩:=qf;exact⟨c,I.cbOld B Q b2,M,F c M L,hd⟩
 .rcases I.cbIn B h with⟨a1,a2⟩|⟨a1,a2⟩
  .exact⟨ae,(C a1).1⟩
  .obtain⟨v,M,L,hd⟩:=I.cell y c a2;exact⟨v,M,F c M L,hd⟩
 .rcases I.cbIn B h with⟨a1,a2⟩|⟨a1,a2⟩
  .exact I.hok.fresh (cO (sI _) (C a1).2.1)
  .exact I.freeC y c a2
 .have j4:p∈X.pn++A:=by simpa[cx]using hp
  obtain⟨e,n,ne,nf,d⟩:=I.pin p j4;refine⟨F _ _ e,n,cN (bo e),λhf=>?_,d⟩;rcases bV.mp (I.stkSub p.1 hf)with z|z
  .exact ne z
  .exact nf z
 .show(ae::d4 w g).length=D.length;rw[B.len];simp[d4]
end
def pc(X:Cx)(b:List ay)(t:TT):Prop :=
 ∀(d:List (ac×Obj)) (s:am) (a:St) (H:Hp) (Q:Bool->Hp->Prop),Inv X d a H s->t a H Q ->
  aw (az X.prog X.w) X.A (forIn b ai λc r=>if r=ai then do let ok <-lK c X.env (aK c X.env);pure (ForInStep.yield ok)else pure (ForInStep.yield r)) (TP X d a Q) X.xe s
theorem HK{P:aY}{w:aR}{A:aX}{R:Result->am->Prop}{s:am}{m q i:ay}{l:List ay}{g:dm}{p:Pos}{u C:ah}{d:Env}(J:Nat->am->Prop)(n:∀k o,J k o->aw (az P w) A (pyNext u) (λr B=>match r with
   |none=>R (.ok .next) B
   |some v=>aw (az P w) A (zq q u v) (λ_ G=>aw (az P w) A (assign q d v) (λ_ F=>aw (az P w) A (forIn l ai λc r=>if r=ai then do let ok <-lK c d (aK c d);pure (ForInStep.yield ok)else pure (ForInStep.yield r)) (λb z=>if b=ai then aw (az P w) A (aK m d) (λy E=>aw (az P w) A (call (.builtin "list.append") [C,y]) (λ_ D=>∃j,j<k/\J j D) (λ_ _=>False) E) (λ_ _=>False) z else ∃j,j<k/\J j z) (λ_ _=>False) F) (λ_ _=>False) G) (λ_ _=>False) B) (λ_ _=>False) o) (k:Nat) (h:J k s) :
  ku (az P w) A (.compLoop (.ListComp m [⟨q,i,l,0⟩] g p) 0 u C d) R s:=by
 refine codeAny_loop rfl J (λj o K=>?_) k h;show aw _ A (Sem.onRaise (compTurn (.ListComp m [⟨q,i,l,0⟩] g p) 0 u C d) (λx=>do noteFrame x d;theTreesLotGoes x)) _ _ o;refine wpAny_noted ?_;rw[compTurn_list];have no:∀(Q:ah->am->Prop) (a:ah) (b:am),False->Q a b:=λ_ _ _ f=>f.elim;refine au (wpAny_standAt (au (eF (n j o K) (λr B I=>?_) (no _))));cases r with
 |none=>exact aN I
 |some v=>
  refine au (eF I (λ_ G O=>au (eF O (λ_ F N=>au (eF N (λb z H=>?_) (no _))) (no _))) (no _));cases b with
  |true=>exact au (au (eF H (λy E M=>au (eF M (λ_ D L=>aN (aN ⟨rfl,L⟩)) (no _))) (no _)))
  |false=>exact aN ⟨rfl,H⟩
def Hd:TT:=λ_ H Q=>Q ai H
theorem IC{X:Cx}:pc X [] Hd:=λ_ _ _ H _ I h=>wpAny_tests_nil ⟨H,I,h⟩
theorem NV{X:Cx}{c:ay}{t:TT}(h:PT X c t):pc X [c] t:=λd s a H Q I b=>wpAny_tests_one (h d s a H Q I b)
def za(q:TI)(h:V->Hp->St->Prop)(k:Nat)(r:TT)(s:TE)(d:List Nat):TE:=λg H Q=>q g H λJ p=>∀l,p l=ae->∃W:Nat->Nat->List V->Hp->Prop,(∃m,W 0 m [] (upd p l (.lst [])))/\∀i m a H,W i m a H ->
 (J.stop i H/\Q (.ref l) H)\/(J.go i H/\∀v j,J.yld i H v j->∃f,f.length=k+1/\h v j f/\r (f++(d4 g d).drop k) j λb o=>if b=ai then s (f++(d4 g d).drop k) o λy n=>n l=aa (.lst a)/\a.length<bc/\∃c,c<m/\W (i+1) c (a++[y]) (upd n l (.lst (a++[y]))) else ∃c,c<m/\W (i+1) c a o)
def Ee:V->Hp->St->Prop:=λv _ a=>a=[aa v]
abbrev y_(b:TI)(c:TT)(d:TE)(a:List Nat):TE:=za b Ee 0 c d a
section
variable{X:Cx}{w:List (ac×Obj)}{A:St}{H:Hp}{s:am}{j:dm}{x:Str}{l:List Str}{m:List Nat}
theorem Inv.unblock{r:List ac}{i:Hp}{y:St}{s':am}{h:aC}(I:Inv X w A H s)(G:∀b∈r,iz X w H b)(a:Inv (cx X j l s.heap.objs.size s H r w) [] y i s') (K:jQ s.heap.objs.size s'.heap h):Inv X w A i {s' with heap:=h}:=by
 have k:∀b o,b≠s.heap.objs.size->s'.heap.get? b=aa o->h.get? b=aa o:=λb o f e=>(K.2 b f).trans e;have B:∀b o,s.heap.get? b=aa o->b≠s.heap.objs.size:=λb o e=>cN (bo e);have un:Un (eV X.stack) r H i s.heap h:=by
  refine⟨λb o e n f d=>k b o (B b o e) (a.base.keep b o e n f d),λb o e n f d=>?_,λb o e n d=>a.base.free b o e n d,λb o e d=>?_,a.base.tups,a.base.frzs,λb q e=>⟨(a.base.tbls b q e).1,λc o D g=>⟨k c o (λz=>by have F:=((a.base.tbls b q e).2 c o D g).2;rw[z,show i s.heap.objs.size=ae from a.free]at F;cases F) ((a.base.tbls b q e).2 c o D g).1,((a.base.tbls b q e).2 c o D g).2⟩⟩⟩
  .obtain⟨J,q⟩:=a.base.slot b o e n f d;exact⟨J,k b _ (B b o e) q⟩
  .obtain⟨E,q⟩:=a.base.there b o e d;exact⟨E,k b E (B b o e) q⟩
 have C:c_ X.prog X.w i h:=λb u e=>by
  have p:i s.heap.objs.size=ae:=a.free;refine(a.hok b u e).stay (λc v L q=>k c v ?_ q) (λ_ q=>q) λ_ _ q=>q;rintro rfl;rcases L with z|z
  .rw[<-z,p]at e;cases e
  .rw[p]at z;cases z
 refine I.call' (s':={s' with heap:=h}) (ch:=r) a.os un C a.bare λb f=>?_;obtain⟨O,N,f2,f3,f4,M⟩:=G b f;exact⟨f3,N,f4,M⟩
theorem Dj{elt G tg:ay}{pos pos':Pos}{ifs:List ay}{wi:TI}{tgf:V->Hp->St->Prop}{k:Nat}{ts:TT}{te:TE}{use:Option (ah->Sem Unit)}{Q:ah->am->Prop}{Qp:VK}(B:f8 X j x l m)(hk:k<=m.length)(hc:X.calm=ai)(hi:PI X tg G wi)(eJ:∀C F K ex pn,PG (cx X j l C F K ex pn) tg λv O H Q=>∃Y,Y.length=k+1/\O.length=l.length/\tgf v H Y/\Q (Y++O.drop (k+1)) H)(ht:∀C F K ex pn,pc (cx X j l C F K ex pn) ifs ts) (he:∀C F K ex pn,PE (cx X j l C F K ex pn) elt te) (hs:∀x,mE G X.env x=pure x) (I:Inv X w A H s) (h:za wi tgf k ts te m A H Qp)(fin:∀{g s6:am}{P H5:Hp}{L σ5 a f},Inv X w A P g->(∀b∈L,iz X w P b)->Inv (cx X j l g.heap.objs.size g P L w) [] σ5 H5 s6->Qp (.ref a) H5->compPost (az X.prog X.w) X.A X.xe use Q (.ref a) g.heap.objs.size (.ok f) s6):aw (az X.prog X.w) X.A (comprehension (.ListComp elt [⟨tg,G,ifs,0⟩] j pos) j X.env pos' (newList []) aj (aK G X.env) use) Q X.xe s:=by
 refine wpAny_comprehension_free (use:=use) rfl hs (DU (I.freeHas B)) B.kind B.names (aT (hi w s A H _ I h) λv s1 h1=>aT h1 λitv E h2=>?_);obtain⟨it,L,tn,J,H2,e,I2,T,st2,f2,h2⟩:=h2;subst e;refine lS ?_;have I3:Inv X w A (upd H2 E.heap.objs.size (.lst [])) {E with heap:=E.heap.push {cls:=.type "list",data:=.seq ([]:List ah).toArray},toks:=E.toks}:=I2.lnew (its:=[]) (t':=E.toks) .nil (g6 _);obtain⟨W,⟨m0,w0⟩,turn⟩:=h2 E.heap.objs.size I2.fresh;generalize hs3:({E with heap:=E.heap.push {cls:=.type "list",data:=.seq ([]:List ah).toArray},toks:=E.toks}:am)=g at I3;have hs3':({E with heap:=E.heap.push {cls:=.type "list",data:=.seq ([]:List ah).toArray}}:am)=g:=hs3;generalize hH3:upd H2 E.heap.objs.size (.lst [])=P at I3 w0;have nl:∀b∈L,b≠E.heap.objs.size:=λb D e=>by obtain⟨o,ho,_⟩:=T.obj _ _ st2 b D;exact absurd (bo ho) (by rw[e];exact dZ _)
 have k3:∀b o,E.heap.get? b=aa o->g.heap.get? b=aa o:=λb o e=>by rw[<-hs3];exact bi _ e
 have f3:∀b∈L,iz X w P b:=λb D=>⟨by rw[<-hH3,bF (nl b D)];exact(f2 b D).1,(f2 b D).2⟩
 have tj:tn 0 g.heap:=T.keep _ _ _ st2 λb _ o e=>k3 b o e;have fo3:∀b∈L,∃o,g.heap.get? b=aa o:=λb D=>(T.obj _ _ tj b D).imp λo q=>q.1;refine JW ?_;generalize hh:pushCells (g.heap.push {cls:=.type "dict",data:=.dict #[]}) j.names=h₁;have old:∀b o,g.heap.get? b=aa o->h₁.get? b=aa o:=λb o e=>hh ▸ pushCells_keeps _ _ b o (bi _ e);have jq:h₁.Ns g.heap.objs.size (λ_=>ae):=hh ▸ (Heap.Ns.new g.heap (.type "dict")).keeps (pushCells_keeps _ _);have I4:=Inv.block (t':=g.toks) hh.symm I3 B f3 fo3 jq old;have st4:tn 0 h₁:=T.keep _ _ _ tj λb _ o e=>old b o e;have M:∀{H':Hp},(∀b∈L,H' b=ae)->∀b∈L,iz (cx X j l g.heap.objs.size g P L w) [] H' b:=λhn b D=>by
  obtain⟨f0,f1,f2',f3',f4,f5⟩:=f3 b D;refine⟨hn b D,λe=>?_,λhf=>?_,.inl D,λy c h=>?_,λp hp=>f5 p (by simpa[cx]using hp)⟩
  .obtain⟨o,ho⟩:=fo3 b D;exact absurd (bo ho) (by rw[show b=g.heap.objs.size from e];exact dZ _)
  .rcases bV.mp (I3.stkSub b hf)with z|z
   .exact f1 z
   .exact f2' z
  .rcases I3.cbIn B h with⟨a1,a2⟩|⟨a1,a2⟩
   .rintro rfl;obtain⟨o,ho⟩:=fo3 _ D;exact vM (Bu a1).2.1 (bo ho)
   .exact f4 y c a2
 have Z:ku (az X.prog X.w) X.A (.compLoop (.ListComp elt [⟨tg,G,ifs,0⟩] j pos) 0 (.ref it) (.ref E.heap.objs.size) (compEnvC j (kc X j g.heap.objs.size) g.heap.objs.size X.env))
   (compPost (az X.prog X.w) X.A X.xe use Q (.ref E.heap.objs.size) g.heap.objs.size) {g with heap:=h₁,toks:=g.toks}:=by
  refine HK (λn s'=>∃i S O H',(∃pre:St,pre.length=k+1/\O=pre++(d4 A m).drop k)/\Inv (cx X j l g.heap.objs.size g P L w) [] O H' s'/\tn i s'.heap/\(∀b∈L,H' b=ae)/\W i n S H') ?_ m0
   ⟨0,[],_,P,⟨(ae::d4 A m).take (k+1),by simp[d4];lia,by rw[<-List.drop_succ_cons (a:=ae)];exact(List.take_append_drop _ _).symm⟩,I4,st4,λb D=>(f3 b D).1,w0⟩
  rintro n s5 ⟨i,S,σ5,H5,⟨pre,sX,rfl⟩,I5,qm,fr5,w5⟩;rcases turn i n S H5 w5 with⟨stop,q⟩|⟨go,step⟩
  .refine eF (T.done (cx X j l g.heap.objs.size g P L w) rfl rfl rfl hc i [] s5 _ H5 (λ_ _=>False) I5 (M fr5) qm stop) (λr s6 ⟨hr,I6⟩=>?_) (λ_ _ f=>f.elim);subst hr;exact fin I3 f3 I6 q
  .refine eF (T.item (cx X j l g.heap.objs.size g P L w) rfl rfl rfl hc i [] s5 _ H5 (λ_ _=>False) I5 (M fr5) qm go) (λr s6 ⟨u,hr,h6⟩=>?_) (λ_ _ f=>f.elim);subst hr;refine eF h6 (λ_ s7 ⟨v,H7,I7,r7,y7,st7,fr7⟩=>?_) (λ_ _ f=>f.elim);have I7':=I7.pinned (M fr7) (T.obj _ _ st7);have back:∀{N:St}{H8:Hp}{s8:am},Inv (cx X j l g.heap.objs.size g P L w) ([]++rX L s7.heap) N H8 s8->tn (i+1) s8.heap/\(∀b∈L,H8 b=ae):=λ{N H8 s8} I8=>⟨T.keep _ _ _ st7 λb D o e=>(I8.pin (b,o) (jR _ (jR _ (rR D e)))).1,λb D=>by obtain⟨o,e,d⟩:=T.obj _ _ st7 b D;exact(I8.pin (b,o) (jR _ (jR _ (rR D e)))).2.1⟩
   obtain⟨Y,fg,htg,step⟩:=step v H7 y7;refine aT (eJ _ _ _ _ _ _ s7 _ H7 v u (λN H8=>N=Y++(d4 A m).drop k/\H8=H7) I7' r7 ⟨Y,fg,I7'.len,htg,by rw[Ew ∅,List.drop_eq_nil_of_le ∅];rfl,rfl⟩) λ_ s8 ⟨N,H8,I8,e8,e8'⟩=>?_;subst e8 e8';refine aT (ht _ _ _ _ _ _ s8 _ _ _ I8 step) λb s9 ⟨H9,I9,q9⟩=>?_;cases b with
   |false=>
    obtain⟨m',hm,w9⟩:=(show ∃m',m'<n/\W (i+1) m' S H9 from q9)
    exact⟨m',hm,i+1,S,_,H9,⟨Y,fg,rfl⟩,I9.unpinned,(back I9).1,(back I9).2,w9⟩
   |true=>refine aT (he _ _ _ _ _ _ s9 _ H9 _ I9 q9) λu10 s10 ⟨y,H10,I10,r10,hl10,hz10,m',hm,w10⟩=>?_;refine aT (ya _ s10 _ H10 (.ref E.heap.objs.size) [y] _ [u10] (λz H11=>H11=upd H10 E.heap.objs.size (.lst (S++[y]))) I10 rfl (.cons r10 .nil) ⟨_,S,y,rfl,rfl,hl10,hz10,rfl⟩) λ_ s11 ⟨_,H11,I11,_,e11⟩=>?_;subst e11;exact⟨m',hm,i+1,S++[y],_,_,⟨Y,fg,rfl⟩,I11.unpinned,(back I11).1,(back I11).2,w10⟩
 exact codeAny_compStart_list Z (T.self _ 0 _ _ _ st4 Z)
theorem Az{p:Pos}(B:f8 X j x l m):∀C b c g f,PG (cx X j l C b c g f) (.Name x p) λv d H Q=>∃i,i.length=0+1/\d.length=l.length/\Ee v H i/\Q (i++d.drop (0+1)) H:=by
 intro C b c g f w s d H v u Q I r h;obtain⟨i,_,z,y,q⟩:=h;cases (show i=[aa v] from y);have D:Loc (cx X j l C b c g f).env.scope x:=B.loc.elim (λh=>.inl (lookup_relabel_local h)) (λh=>.inr (xW h));have n:(cx X j l C b c g f).fn x=ai\/(cx X j l C b c g f).env.scope.names.lookup x=aa .local:=B.loc.elim (λh=>.inr (lookup_relabel_local h)) (λh=>.inl (by show(j.names.lookup x == aa .cell)=ai;rw[h];rfl));have o:(cx X j l C b c g f).N[0]?=aa x:=by show l[0]?=aa x;rw[<-List.head?_eq_getElem?];exact B.hd
 refine pI B.nd o D n w s d H v u Q I r ?_;show Q (d.set 0 (aa v)) H;cases d with
 |nil=>rw[kD,B.len]at z;lia
 |cons a r=>exact q
theorem Jw{f b:ay}{o pos:Pos}{d:List ay}{wi:TI}{ts:TT}{te:TE}(B:f8 X j x l m)(E:X.calm=ai)(z:PI X (.Name x o) b wi)(v:∀C a c n g,pc (cx X j l C a c n g) d ts) (D:∀C a c n g,PE (cx X j l C a c n g) f te) (y:∀x,mE b X.env x=pure x:=by intro _;rfl):PE X (.ListComp f [⟨.Name x o,b,d,0⟩] j pos) (y_ wi ts te m):=by intro w s A H Q I h;rw[eval_ListComp];exact Dj (use:=ae) B (g6 _) E z (Az B) v D y I h λF f3 p q=>by obtain⟨u,i,_⟩:=p.loc;exact⟨u,i,λG r=>⟨.ref _,_,F.unblock f3 p r,rfl,q⟩⟩
end
def Walk(J:It)(a:List V)(R:Hp->Prop):Prop :=
 ∀H,R H->∀i,(∀x,a[i]?=aa x->J.go i H/\∀y b,J.yld i H y b->b=H/\y=x)/\(i=a.length->J.stop i H)
theorem Cz{K:ar}{a:ac}{xs:List V}:Walk (xg K a) xs (λH=>b_ K H a xs):=λH h i=>⟨λx b=>⟨⟨xs,x,h,b⟩,λy d z=>⟨z.1,by have:=z.2 xs h;rw[b]at this;exact(dY this).symm⟩⟩,λc=>⟨xs,h,lN c.symm⟩⟩
theorem FM{K:ar}{a:ac}{b:List V}:Walk (yt K a) b (λH=>cM K H a b):=λH h i=>⟨λx c=>⟨⟨b,x,h,c⟩,λy f z=>⟨z.1,by have:=z.2 b h;rw[c]at this;exact(dY this).symm⟩⟩,λd=>⟨b,h,lN d.symm⟩⟩
def oX(a:Int)(n:Nat):List V:=(cp n).map λi=>V.int (a+(i:Nat))
theorem xy(a:Int)(n:Nat):(oX a n).length=n:=by simp[oX]
theorem IE{b:Int}{n:Nat}:Walk (u5 b n) (oX b n) (λ_=>True):=λH _ i=>by
 refine⟨λx a=>?_,λd=>by rw[xy]at d;exact lN d.symm⟩;have f:i<n:=by have:=(cq.mp a).1;rw[xy]at this;exact this
 refine⟨f,λy g z=>⟨z.1,?_⟩⟩;unfold oX at a;rw[jU,List.getElem?_range f]at a;have c:V.int (b+(i:Nat))=x:=dY a;rw[z.2,<-c]
def sg(c:Nat):V:=.str ⟨#[c]⟩
def sk(z:Str):It:=⟨λi _=>i<z.cps.size,λi H x a=>a=H/\∃c,z.cps[i]?=aa c/\x=sg c,λi _=>i=z.cps.size⟩
theorem K5{z:Str}:Walk (sk z) (z.cps.toList.map sg) (λ_=>True):=λH _ i=>by
 refine⟨λx a=>?_,λd=>by show i=z.cps.size;simpa using d⟩;rw[jU]at a;cases e:z.cps.toList[i]? with
 |none=>rw[e]at a;cases a
 |some c=>
  rw[e]at a;have f:i<z.cps.size:=by have:=(cq.mp e).1;simpa using this
  refine⟨f,λy h w=>⟨w.1,?_⟩⟩;obtain⟨g,b,rfl⟩:=w.2;have:z.cps[i]?=aa c:=by simpa using e
  rw[this]at b;cases b;exact(dY a)
section
variable{X:Cx}{a:ay}
theorem Ma{P:aY}{w:aR}{K:ar}{z:Str}{d:ac}{f:Nat->aC->Prop} (S:∀i h,f i h->∃o n r,h.get? d=aa o/\o.cls=.type n/\o.data=.fields r /\ ["enumerate","zip","dict_itemiterator","dict_reverseitemiterator","odict_iterator","itertools.zip_longest","itertools.pairwise"].contains n=aj)(Oe:∀(A:aX) (i:Nat) (s:am) (Q:ah->am->Prop) (E:ah->am->Prop),f i s.heap->Q (.ref d) s->aw (az P w) A (mD (.ref d)) Q E s)(hW:∀A:aX,A.handled=ae->Walks P w A d [d] [d] z.cps.size (SignAt z) f):rg P w K a (sk z) [d] d f where
 mem:=by simp
 obj:=λi h g b j=>by
  have e:b=d:=by simpa using j
  subst e;obtain⟨o,n,r,J,_,G,_⟩:=S i h g;exact⟨o,J,λv q=>by rw[G]at q;cases q⟩
 keep:=λi h m g k=>by exact(hW ({}:aX) rfl).frame i h m g k
 item:=by intro X D x F C i W s O H E I p g B;subst D x F;obtain⟨N,M,f2,f3,f4,L⟩:=p d (by simp);refine(hW X.A (I.ok.hd C)).item i s _ _ B g λv m l Y T k=>?_;have I1:Inv X W O H {s with heap:=m,toks:=l}:=I.turned (t':=l) (λb o j e=>k b o (by simpa using j) e) N M f3 f4 L;obtain⟨o,n,r,J,h2,G,Z⟩:=S _ _ T;obtain⟨c,u,e1,rfl⟩:=Y;exact⟨_,rfl,uo (s:={s with heap:=m,toks:=l}) J h2 G Z ⟨sg c,H,I1,⟨u,rfl⟩,⟨rfl,c,e1,rfl⟩,T,λb j=>(p b j).1⟩⟩
 done:=by intro X D x F C i W s O H E I p g B;subst D x F;obtain⟨N,M,f2,f3,f4,L⟩:=p d (by simp);have y:i=z.cps.size:=B;subst y;exact(hW X.A (I.ok.hd C)).done s _ _ g λm l k=>⟨rfl,I.turned (t':=l) (λb o j e=>k b o (by simpa using j) e) N M f3 f4 L⟩
 self:=Oe
theorem C6{J:It}{xs:List V}{R:Hp->Prop}{g:TG}{j:TS}{D:jC}{σ:St}{H:Hp}(A:Walk J xs R)(b:Nat->St->Hp->Prop)(B:b 0 σ H)(v:∀i σ H,i<=xs.length->b i σ H->R H)(u:∀i x σ H,xs[i]?=aa x->b i σ H->g x σ H λd h=>j {D with nx:=b (i+1),ct:=b (i+1),bk:=D.nx} d h) (z:∀σ H,b xs.length σ H->D.nx σ H):∃W:Nat->Nat->St->Hp->Prop,(∃m,W 0 m σ H)/\∀i m σ H,W i m σ H -> (J.stop i H/\D.nx σ H)\/(J.go i H/\∃N:St->Hp->Prop,(∀f c,N f c->∃l,l<m/\W (i+1) l f c)/\∀x c,J.yld i H x c->g x σ c λd h=>j {D with nx:=N,ct:=N,bk:=D.nx} d h):=by
 refine⟨λi m σ H=>m=xs.length-i/\i<=xs.length/\b i σ H,⟨xs.length,by simp,g6 _,B⟩,?_⟩;rintro i m σ H ⟨rfl,w,p⟩;have q:=A H (v i σ H w p) i;by_cases o:i<xs.length
 .have n:xs[i]?=aa xs[i]:=by simp[o]
  obtain⟨C,r⟩:=q.1 xs[i] n;refine .inr ⟨C,b (i+1),λf c s=>⟨xs.length-(i+1),∅,rfl,o,s⟩,λx c y=>?_⟩;obtain⟨rfl,rfl⟩:=r x c y;exact u i _ σ _ n p
 .have e:i=xs.length:=∅
  subst e;exact .inl ⟨q.2 rfl,z σ H p⟩
theorem Ni{b:Type}(l:List b)(f:b->Bool)(d:Nat->Bool)(c:∀i x,l[i]?=aa x->d i=f x):(cp l.length).all d=l.all f:=by
 induction l generalizing d with
 |nil=>rfl
 |cons x r g=>rw[e_,zG,pR,we,pR,c 0 x rfl];congr 1;exact g _ λi y h=>c (i+1) y (by simpa using h)
theorem NE{bs:List Bool}{b:List ah}(r:bq (bs.map V.bl) b){i:Nat}{v:ah}(h:b.toArray[i]?=aa v):v=.bool (bs.getD i aj):=by
 have d:=r.length;rw[cf]at d;have g:i<b.length:=by have:=(wf.mp h).1;simpa using this
 have e:(bs.map V.bl)[i]?=aa (.bl (bs.getD i aj)):=by rw[jU,eh ∅];simp[wg,eh (show i<bs.length by lia)]
 obtain⟨u,c,f⟩:=r.get e;have:b[i]?=aa v:=by simpa using h
 rw[this]at c;cases c;exact f
theorem qF{A:aX}(h:A.handled=ae):A.in1.handled=ae:=h
theorem yO(j:X.calm=ai):fh X (.builtin "all") (λl H Q=>∃(p:ac) (bs:List Bool),l=[.ref p]/\b_ X.K H p (bs.map V.bl)/\Q (.bl (bs.all id)) H):=by
 intro N s w H l P Q I r h;obtain⟨p,bs,rfl,F,q⟩:=h;obtain⟨u,rfl,A⟩:=vals1 r;cases A;obtain⟨d,m,f,T⟩:=I.list F;have n:=m.length;rw[cf]at n;refine call_all_walk (pW f.isList ?_);have M:p≠s.heap.objs.size:=by obtain⟨o,g,_⟩:=f.isList;exact cN (bo g)
 refine⟨s.heap.objs.size,_,_,_,_,_,λi=>bs.getD i aj,rfl,pX (qF (I.ok.hd j)) s.heap.objs.size p M d.toArray,⟨⟨_,cm _ rfl,rfl,rfl⟩,?_⟩,λi v S Y Z E L=>?_,λW y k=>?_⟩
 .obtain⟨o,g,j,J⟩:=f.isList;exact⟨o,bi _ g,j,J⟩
 .rw[NE m E];exact lL L
 .have e:(cp d.toArray.size).all (λi=>bs.getD i aj)=bs.all id:=by
   rw[cu,<-n];exact Ni bs id _ λi x D=>by simp[wg,D]
  rw[e];have O:Inv X N w H {s with heap:=s.heap.push {cls:=.type "list_iterator",data:=.fields #[.ref p,.int 0 0]},toks:=s.toks}:=I.kept (t':=s.toks) λb o e=>bi _ e;exact⟨.bl _,H,Inv.turned (t':=y) O (it:=s.heap.objs.size) (λb o K e=>k b o (by simpa using K) e) I.fresh (iB I.lt) (.inr I.sz) (λx c e z=>by obtain⟨v,B⟩:=I.cell x c e;exact absurd B.lt (by rw[z];exact dZ _)) (λC G z=>absurd (bo (I.pin C G).1) (by rw[z];exact dZ _)),rfl,q⟩
end
section
variable{X:Cx}
def kh(z:Str)(a b:Option Int):Str:=⟨((z.cps.toList.drop (HT.sIx z.length 0 a)).take (HT.sIx z.length z.length b-HT.sIx z.length 0 a)).toArray⟩
theorem Lu(a b:Nat):sliceRange (a:Int) (b:Int) 1=(cp (b-a)).map λk=>a+k:=by
 unfold sliceRange;have e:(if(1:Int) > 0 then(if(a:Int)<(b:Int)then((b:Int)-a+1-1) / 1 else 0)else(if(a:Int) > b then((a:Int)-b-1-1) / (-1)else 0)).toNat=b-a:=by
  rw[if_pos (by decide)];split
  .rw[Int.ediv_one];lia
  .have:b-a=0:=∅
   rw[this];rfl
 show(cp (if(1:Int) > 0 then(if(a:Int)<(b:Int)then((b:Int)-a+1-1) / 1 else 0)else(if(a:Int) > b then((a:Int)-b-1-1) / (-1)else 0)).toNat).map _=_;rw[e];refine kE λk _=>?_;lia
theorem Gy(a b:Option Int)(n:Nat):Builtin.Str.strSliceIndices a b 1 n=(cp (HT.sIx n n b-HT.sIx n 0 a)).map λk=>HT.sIx n 0 a+k:=by
 rw[<-Lu];have p:(1:Int) > 0:=by decide
 cases a <;> cases b <;> (unfold Builtin.Str.strSliceIndices HT.sIx;simp only[p,if_true];congr 1 <;> (try split) <;> lia)
theorem HY{b:Type}(l:List b)(a k:Nat):((cp k).map λj=>a+j).filterMap (λi=>l[i]?)=(l.drop a).take k:=by
 induction k with
 |zero=>simp
 |succ k c=>
  rw[sM,pY,List.filterMap_append,c,List.take_succ];congr 1;simp[sC];cases l[a+k]? <;> rfl
theorem HU(z:Str)(t:Tok)(l u:Option (Int×Tok)):∃m,sliceMade z t l u ae=m/\(m=.val (.str z t)/\kh z (l.map (·.1)) (u.map (·.1))=z\/m=.str (kh z (l.map (·.1)) (u.map (·.1)))):=by
 refine⟨_,rfl,?_⟩;unfold sliceMade slicePicked;have e:=Gy (l.map (·.1)) (u.map (·.1)) z.length;simp only[Option.map_none,Es];rw[e];have d:=HY z.cps.toList (HT.sIx z.length 0 (l.map (·.1))) (HT.sIx z.length z.length (u.map (·.1))-HT.sIx z.length 0 (l.map (·.1)));have b:(((cp (HT.sIx z.length z.length (u.map (·.1))-HT.sIx z.length 0 (l.map (·.1)))).map λk=>HT.sIx z.length 0 (l.map (·.1))+k).filterMap (z.cps[·]?)).toArray=(kh z (l.map (·.1)) (u.map (·.1))).cps:=by unfold kh;rw[<-d];simp
 split
 .rename_i h;left;refine⟨rfl,?_⟩;simp only[beq_self_eq_true,Bool.true_and,cf,Ex,beq_iff_eq]at h;have g:HT.sIx z.length z.length (u.map (·.1))<=z.length:=HT.sIx_le _ _ (bd _) _;have f:z.cps.toList.length=z.length:=by simp[Str.length]
  have a:HT.sIx z.length 0 (l.map (·.1))=0\/z.length=0:=∅
  unfold kh;rw[h];rcases a with a|a
  .rw[a,zH,n5 ∅]
  .have:z.cps.toList=[]:=sN ∅;rw[this];cases z;rename_i c;simp at this;subst this;simp
 .right;rw[show(⟨(((cp (HT.sIx z.length z.length (u.map (·.1))-HT.sIx z.length 0 (l.map (·.1)))).map λk=>HT.sIx z.length 0 (l.map (·.1))+k).filterMap (z.cps[·]?)).toArray⟩:Str)=kh z (l.map (·.1)) (u.map (·.1))from by rw[b]]
def Cc:V->Option Int->Option Int->Hp->VK->Prop:=λx a b H Q=>∃z,x=.str z/\z.length<=bc/\Q (.str (kh z a b)) H
theorem M0(z:Str)(a b:Option Int):(kh z a b).length<=z.length:=by unfold kh Str.length;simp;lia
theorem part_of{v:ah}{o:Option Int}(p:lQ v o):∃q:Option (Int×Tok),v=partValue q/\q.map (·.1)=o:=by
 cases p with
 |none=>exact⟨ae,rfl,rfl⟩
 |int i t=>exact⟨aa (i,t),rfl,rfl⟩
theorem On:lc X Cc:=by
 intro y s n H x v p o r w a Q I b g d c h;obtain⟨z,rfl,f,q⟩:=h;obtain⟨t,rfl⟩:=b;obtain⟨l,rfl,rfl⟩:=part_of d;obtain⟨u,rfl,rfl⟩:=part_of c;refine⟨"str",_,F.slot_str_getitem.lookup,typeIs_str s z t,?_⟩;obtain⟨m,j,i⟩:=HU z t l u;refine getItem_meets (typeIs_str s z t) (by decide) F.slot_str_getitem F.entry_str_getitem (F.args_str_getitem_2 _ _) (meets_str_getitem_slice z t a l u ae (by decide)) ⟨g,?_⟩;rw[j];rcases i with⟨rfl,e⟩|rfl
 .exact⟨.str z,H,I,⟨t,rfl⟩,by rw[e]at q;exact q⟩
 .exact⟨cO (M0 z _ _) f,⟨.str _,H,I.tok _,⟨_,rfl⟩,q⟩⟩
def gn(K:ar)(H:Hp)(d:Nat)(x y:V)(k:Bool):Prop :=
 ∀(X:Cx),X.K=K->∀(b:List (ac×Obj)) (a:St) (s:am) (u v:ah) (A:aX),Inv X b a H s->RelV x u->RelV y v->A.units+d<cLine->wb A s u v k
theorem GC{K:ar}{H:Hp}{d:Nat}{x y:V}(f:gv x=ai)(c:gv y=ai):gn K H d x y (fk x y):=λ_ _ _ _ _ _ _ _ _ b a _=>BX b a f c
def fq(e:Nat->Bool)(n m:Nat):Bool:=(cp (min n m)).all e&&n == m
theorem Ec{A:aX}:A.in1.units=A.units+1:=rfl
theorem x5{H:Hp}{d:Nat}{a b:ac}{f c:List V}{e:Nat->Bool}{K:List (ac×Obj)}{w:St}{s:am}{A:aX}(I:Inv X K w H s)(P:b_ X.K H a f)(O:b_ X.K H b c)(N:∀(j:Nat) x y,f[j]?=aa x->c[j]?=aa y->gn X.K H d x y (e j)) (T:A.units+(d+1)<cLine):SeqAt.RcAt A s (.ref a) (.ref b) (fq e f.length c.length)/\SeqAt.RcNeAt A s (.ref a) (.ref b) (!fq e f.length c.length):=by
 obtain⟨h,B,o,_⟩:=I.list P;obtain⟨l,z,g,_⟩:=I.list O;have p:=B.length;have S:=z.length;have E:∀j (G:j<h.toArray.size) (F:j<l.toArray.size),wb A.in1 s h.toArray[j] l.toArray[j] (e j):=λj G F=>by
  have r:j<h.length:=by simpa using G
  have q:j<l.length:=by simpa using F
  have m:f[j]?=aa f[j]:=eh ∅;have J:c[j]?=aa c[j]:=eh ∅;obtain⟨u,D,M⟩:=B.get m;obtain⟨v,C,L⟩:=z.get J;have Q:h[j]=u:=by rw[eh r]at D;exact dY D
  have f2:l[j]=v:=by rw[eh q]at C;exact dY C
  have:=N j f[j] c[j] m J X rfl K w s u v A.in1 I M L (by rw[Ec];lia);simpa[Q,f2]using this
 by_cases i:f.length=c.length
 .have n:h.toArray.size=l.toArray.size:=by simp;lia
  have m:fq e f.length c.length=(cp h.toArray.size).all e:=by unfold fq;rw[i,Nat.min_self,beq_self_eq_true,Bool.and_true,cu,<-p,i]
  rw[m];exact⟨.lists o.isList g.isList n ∅ E,.lists o.isList g.isList n ∅ E⟩
 .have m:fq e f.length c.length=aj:=by
   unfold fq;rw[beq_false_of_ne i,Bool.and_false]
  have n:(h.toArray.size != l.toArray.size)=ai:=by simp;lia
  rw[m];exact⟨.lists_lengths o.isList g.isList n ∅,.lists_lengths o.isList g.isList n ∅⟩
theorem yX{H:Hp}{d:Nat}{a b:ac}{f c:List V}{e:Nat->Bool}{G:List (ac×Obj)}{p:St}{s:am}{A:aX}(I:Inv X G p H s)(O:cM X.K H a f)(N:cM X.K H b c)(M:∀(j:Nat) x y,f[j]?=aa x->c[j]?=aa y->gn X.K H d x y (e j)) (Q:A.units+(d+1)<cLine):SeqAt.RcAt A s (.ref a) (.ref b) (fq e f.length c.length)/\SeqAt.RcNeAt A s (.ref a) (.ref b) (!fq e f.length c.length):=by
 obtain⟨h,r,B,_⟩:=I.tuple O;obtain⟨g,q,i,_⟩:=I.tuple N;have m:=r.length;have L:=q.length;have C:∀j (E:j<h.toArray.size) (D:j<g.toArray.size),wb A.in1 s h.toArray[j] g.toArray[j] (e j):=λj E D=>by
  have o:j<h.length:=by simpa using E
  have n:j<g.length:=by simpa using D
  have l:f[j]?=aa f[j]:=eh ∅;have F:c[j]?=aa c[j]:=eh ∅;obtain⟨u,z,K⟩:=r.get l;obtain⟨v,w,J⟩:=q.get F;have P:h[j]=u:=by rw[eh o]at z;exact dY z
  have f2:g[j]=v:=by rw[eh n]at w;exact dY w
  have:=M j f[j] c[j] l F X rfl G p s u v A.in1 I K J (by rw[Ec];lia);simpa[P,f2]using this
 have l:fq e f.length c.length=((cp (min h.toArray.size g.toArray.size)).all e&&h.toArray.size == g.toArray.size):=by unfold fq;rw[cu,cu,<-m,<-L]
 rw[l];exact⟨.tuples B i ∅ C,.tuples B i ∅ C⟩
theorem Fh{K:ar}{H:Hp}{d:Nat}{a b:ac}{f c:List V}{e:Nat->Bool}(n:b_ K H a f)(m:b_ K H b c)(p:a≠b)(l:∀(j:Nat) x y,f[j]?=aa x->c[j]?=aa y->gn K H d x y (e j)):gn K H (d+1) (.ref a) (.ref b) (fq e f.length c.length):=λX o r q s u v A I h g i=>by
 subst o;cases h;cases g;exact .of_refs p (x5 I n m l i).1
theorem Hq{K:ar}{H:Hp}{d:Nat}{a b:ac}{f c:List V}{e:Nat->Bool}(n:cM K H a f)(m:cM K H b c)(p:a≠b)(l:∀(j:Nat) x y,f[j]?=aa x->c[j]?=aa y->gn K H d x y (e j)):gn K H (d+1) (.ref a) (.ref b) (fq e f.length c.length):=λX o r q s u v A I h g i=>by
 subst o;cases h;cases g;exact .of_refs p (yX I n m l i).1
theorem AF{K:ar}{H:Hp}{d:Nat}{a:ac}:gn K H d (.ref a) (.ref a) ai:=λX h i f s u v A I c b g=>by
 cases c;cases b;exact .same _
def qY(K:ar)(g:Bool):R2:=λx y H Q=>∃a b f c d e,x=.ref a/\y=.ref b/\((b_ K H a f/\b_ K H b c)\/(cM K H a f/\cM K H b c))/\d<=8 /\
 (∀(j:Nat) x y,f[j]?=aa x->c[j]?=aa y->gn K H d x y (e j))/\Q (.bl (if g then !fq e f.length c.length else fq e f.length c.length)) H
theorem FD(n:X.A.units+64<cLine):bT X (dJ .Eq) (qY X.K aj):=by
 intro p s j H x y v u Q I g f h;obtain⟨a,b,m,l,d,e,rfl,rfl,i,o,c,q⟩:=h;cases g;cases f;rcases i with⟨h1,h2⟩|⟨h1,h2⟩
 .exact(x5 I h1 h2 c ∅).1 _ _ _ _ ⟨.bl _,H,I,rfl,q⟩
 .exact(yX I h1 h2 c ∅).1 _ _ _ _ ⟨.bl _,H,I,rfl,q⟩
theorem Li(n:X.A.units+64<cLine):bT X (dJ .NotEq) (qY X.K ai):=by
 intro p s j H x y v u Q I g f h;obtain⟨a,b,m,l,d,e,rfl,rfl,i,o,c,q⟩:=h;cases g;cases f;rcases i with⟨h1,h2⟩|⟨h1,h2⟩
 .exact(x5 I h1 h2 c ∅).2 _ _ _ _ ⟨.bl _,H,I,rfl,q⟩
 .exact(yX I h1 h2 c ∅).2 _ _ _ _ ⟨.bl _,H,I,rfl,q⟩
theorem Dr{y:V}:∀{a:List V}{b:List ah},bq a b->a.all gv=ai->b.countP (jJ y)=a.countP λz=>fk z y
 |_,_,.nil,_=>rfl
 |z::a,u::b,.cons r t,f=>by rw[pR,ef]at f;rw[List.countP_cons,List.countP_cons,xw r f.1,Dr t f.2]
def Ib(K:ar):V->List V->Hp->VK->Prop:=λx b H Q=>∃(p:ac) (a:List V) (y:V),x=.ref p/\b=[y]/\cM K H p a/\gv y=ai/\a.all gv=ai/\Q (.int ((a.countP λz=>fk z y:Nat):Int)) H
theorem E_:zb X "tuple.count" (Ib X.K):=by
 intro K s C H x E v G Q I i j h;obtain⟨p,D,y,rfl,rfl,o,z,d,q⟩:=h;cases i;obtain⟨u,rfl,l⟩:=j.one;obtain⟨a,r,⟨⟨B,A,f,g⟩,e,c,n,b⟩,J⟩:=I.tuple o;simp only at c b;subst c b;refine call_meets F.slot_tuple_count ⟨_,e,rfl⟩ F.entry_tuple_count (F.args_tuple_count_2 _ _) (SeqAt.tuple_countAt p a.toArray n A g u (jJ y)) ⟨e,λw m=>ux l z r d w (by simpa using m),?_⟩;exact⟨.int _,H,I.tok _,⟨_,by rw[List.toList_toArray,Dr r d]⟩,q⟩
end
abbrev Tx:=List Nat
def tS(l:Tx):Str:=⟨l.toArray⟩
def tV(l:Tx):V:=.str (tS l)
def dX(ls:List Tx):List V:=ls.map tV
theorem mq(l:Tx):(tS l).cps.toList=l:=by simp[tS]
theorem kl(l:Tx):(tS l).length=l.length:=by simp[tS,Str.length]
theorem JV(z:Str):tS z.cps.toList=z:=by cases z;simp[tS]
theorem rf{a b:Tx}(h:tS a=tS b):a=b:=by rw[<-mq a,h,mq]
theorem Iw{a b:Tx}(h:tV a=tV b):a=b:=rf (V.str.inj h)
theorem yG(a:List Tx):(dX a).length=a.length:=cf _
def c6(a b:Tx):Bool:=decide (a<=b)
def bu(a:List Tx):List Tx:=a.mergeSort c6
theorem BM(a b c:Tx)(f:c6 a b=ai)(d:c6 b c=ai):c6 a c=ai:=by simp only[c6,decide_eq_true_eq]at *;exact List.le_trans f d
theorem HP(a b:Tx):(c6 a b||c6 b a)=ai:=by simp only[c6,n6,decide_eq_true_eq];exact List.le_total a b
theorem Lm{a b:Tx}(d:c6 a b=ai)(c:c6 b a=ai):a=b:=by simp only[c6,decide_eq_true_eq]at *;exact List.le_antisymm d c
theorem jf(a:List Tx):(bu a).Perm a:=List.mergeSort_perm _ _
theorem vB(c:List Tx):(bu c).Pairwise (λa b=>c6 a b=ai):=List.pairwise_mergeSort BM HP _
theorem Ly(a:List Tx):(bu a).length=a.length:=(jf a).length_eq
theorem vz{c d:List Tx}(g:d.Perm c)(f:d.Pairwise (λa b=>c6 a b=ai)):d=bu c :=List.Perm.eq_of_pairwise (le:=λa b=>c6 a b=ai) (λ_ _ _ _ i h=>Lm i h) f (vB c) (g.trans (jf c).symm)
theorem yF{c:List Tx}(d:c.Pairwise (λa b=>c6 a b=ai)):bu c=c:=(vz (zI c) d).symm
theorem AR{a b:List Tx}(c:a.Perm b):bu a=bu b:=vz ((jf a).trans c) (vB a)
theorem BK:∀(p:Str) (l:List Str),risingS p l=ai->(p::l).Pairwise (λa b=>c6 a.cps.toList b.cps.toList=ai)
 |p,[],_=>List.pairwise_singleton _ _
 |p,x::r,h=>by
  have d:(!ltCps x.cps.toList p.cps.toList&&risingS x r)=ai:=h;rw[ef,ltCps_eq]at d;have q:=BK x r d.2;have f:c6 p.cps.toList x.cps.toList=ai:=by simp only[c6,decide_eq_true_eq];intro g;simp[g]at d
  refine List.pairwise_cons.mpr ⟨λy c=>?_,q⟩;rcases bV.mp c with rfl|c
  .exact f
  .exact BM _ _ _ f (List.rel_of_pairwise_cons q c)
theorem Nk{c:List Str}(h:sortedS c=ai):(c.map λz=>z.cps.toList).Pairwise (λa b=>c6 a b=ai):=by
 rw[List.pairwise_map];cases c with
 |nil=>exact List.Pairwise.nil
 |cons x r=>exact BK x r h
theorem wK:∀{ls:List Tx}{a:List ah},bq (dX ls) a->gc a (ls.map tS)
 |[],_,.nil=>.nil
 |l::ls,_::_,.cons ⟨t,e⟩ r=>by subst e;exact .cons _ t (wK (ls:=ls) r)
theorem CL:∀{b:List Str}{a:List ah},gc a b->bq (dX (b.map λz=>z.cps.toList)) a
 |_,_,.nil=>.nil
 |_,_,.cons y t h=>.cons ⟨t,by rw[JV]⟩ (CL h)
section
variable{P:aY}{w:aR}{A:aX}{E:ah->am->Prop}{s:am}
theorem BP{v:ah}{Q:ah->am->Prop}(y:aw (az P w) A.in1 (collect v) (λd s1=>∃ss:List Str,gc d ss/\d.length<64/\∀(i:aC) (out:Array ah) (f:List Str) (e:Nat),(∀b o,s1.heap.get? b=aa o->i.get? b=aa o) -> i.get? s1.heap.objs.size=aa (jW "list" out e)->gc out.toList f->f.Perm ss->sortedS f=ai->Q (.ref s1.heap.objs.size) {s1 with heap:=i}) E s):aw (az P w) A (call (.builtin "sorted") [v]) Q E s:=by refine Calls.call_function_entry kind_sorted plain_sorted entry_sorted (args_sorted1 _) ?_;unfold Builtin.«sorted»;refine au (m:=checkCount "sorted" 1 1 _) (aN ?_);refine au (aT y λd s1 ⟨ss,h,p,j⟩=>?_);refine au (wpAny_newList ?_);have g:(s1.heap.push (jW "list" d.toArray 0)).get? s1.heap.objs.size=aa (jW "list" d.toArray 0):=cm _ rfl;refine au (lR (wa slot_list_sort ⟨_,g,rfl⟩ entry_list_sort (list_sort_treeK strKind_oneLt g h.keysOf (λa b c e=>keyKind_strs (by rw[<-e];exact h)) p λq u r=>⟨_,rfl,?_⟩) (args_list_sort _)));obtain⟨f,C,B,z⟩:=sorted_out_str h u r;obtain⟨e,x⟩:=sortedHeap_at (out:=(arrOf q).map (·.2)) g;refine aN ⟨_,rfl,j _ _ f e (λb o l=>?_) x C B z⟩;have n:b<s1.heap.objs.size:=bo l;rw[sortedHeap_old (cN n) (by rw[i4];exact jo n)];exact bi _ l
end
section
variable{X:Cx}
theorem Inv.sorted{g:List (ac×Obj)}{f:St}{H:Hp}{s1:am}{a:List Tx}{ss c:List Str}{d:aC}{out:Array ah}{e:Nat}(I:Inv X g f H s1)(j:ss=a.map tS)(r:a.length<64)(k:∀b o,s1.heap.get? b=aa o->d.get? b=aa o) (i:d.get? s1.heap.objs.size=aa (jW "list" out e)) (q:gc out.toList c) (p:c.Perm ss) (n:sortedS c=ai):Inv X g f (upd H s1.heap.objs.size (.lst (dX (bu a)))) {s1 with heap:=d}:=by
 have m:c.map (λz=>z.cps.toList)=bu a:=by
  refine vz ?_ (Nk n);have:=p.map λz=>z.cps.toList;rw[j,fe]at this;have l:(a.map ((λz:Str=>z.cps.toList) ∘ tS))=a:=by simp[Function.comp_def,mq]
  rw[l]at this;exact this
 have h:bq (dX (bu a)) out.toList:=by rw[<-m];exact CL q
 refine I.laid (t':=s1.toks) k (bd _) ⟨?_,out.toList,e,h,?_⟩
 .rw[yG,Ly];exact kt (yz ∅)
 .rw[Array.toArray_toList];exact i
theorem AA:fh X (.builtin "sorted") (λv H Q=>∃(p:ac) (d:List Tx),v=[.ref p]/\(b_ X.K H p (dX d)\/cM X.K H p (dX d))/\d.length<64/\∀l,H l=ae->Q (.ref l) (upd H l (.lst (dX (bu d))))):=by
 intro G s x H v M Q I r h;obtain⟨p,d,rfl,f,B,q⟩:=h;obtain⟨u,rfl,y⟩:=vals1 r;cases y;have b:∀(T:String) (o:Obj) (a:List ah) (n:Nat),(T = "list"\/T = "tuple")->s.heap.get? p=aa o->o.cls=.type T->o.data=.seq a.toArray n->bq (dX d) a ->
   aw (az X.prog X.w) X.A (call (.builtin "sorted") [Value.ref p]) (EP X G x Q) X.xe s:=λT o a n F j i g c=>by
  have E:=c.length;rw[yG]at E;have m:=yz (n:=a.length) ∅;refine BP (wpAny_collect_seq p F j i g (λN C=>?_) (by rw[cu];lia));have w:=I.kept (t':=s.toks) C;refine⟨_,wK c,by rw[List.toList_toArray];lia,λO A P e k j L K J=>?_⟩;exact⟨.ref _,_,Inv.sorted w rfl B k j L K J,rfl,q _ w.fresh⟩
 rcases f with f|f
 .obtain⟨a,c,z,D⟩:=I.list f;obtain⟨o,e,i,n,g⟩:=z.isList;exact b "list" o a n (.inl rfl) e i g c
 .obtain⟨a,c,⟨o,e,i,n,g⟩,D⟩:=I.tuple f;exact b "tuple" o a n (.inr rfl) e i g c
theorem Jb(z:Tx)(n:Nat):Txt.mul (tS z) (n:Int)=tS (cY n z).flatten:=by
 unfold Txt.mul;cases n with
 |zero=>simp[tS,jS]
 |succ n=>
  rw[if_neg ∅];split
  .rename_i h;simp only[n6,beq_iff_eq]at h;rcases h with h|h
   .have:n=0:=∅
    subst this;simp
   .rw[kl]at h;have:z=[]:=sN h;subst this;simp
  .unfold tS;congr 1;have b:∀(k:Nat) (a:Array Nat),(cY k z.toArray).foldl (·++·) a=a++(cY k z).flatten.toArray:=by
    intro k
    induction k with
    |zero=>intro a;simp
    |succ k c=>intro a;rw[Eu,jX,c,Eu,List.flatten_cons];simp[Array.append_assoc]
   have e:=b (n+1) #[];simp only[mH];simpa using e
theorem KR:bT X (iX .Mult) (λx y H Q=>∃(z:Tx) (n:Nat),x=tV z/\y=.int n/\n<=100/\z.length<=100/\Q (tV (cY n z).flatten) H):=by
 intro w s j H x y v u Q I c b h;obtain⟨z,n,rfl,rfl,f,d,q⟩:=h;obtain⟨t,rfl⟩:=c;obtain⟨m,rfl⟩:=b;refine SB.mul ?_ λl k=>?_
 .have o:z.length*n<=10000:=cO (Nat.mul_le_mul d f) (by decide);refine⟨by rw[Bool.or_eq_false_iff];constructor <;> (apply decide_eq_false;lia),λi _=>?_,λi _=>?_⟩
  .rw[kl];intro g;have r:(2^63-1:Int) / n ≥ (2^63-1) / 100:=by
    have a:(0:Int)<n:=∅
    apply (Int.le_ediv_iff_mul_le a).mpr;have:((2^63-1:Int) / 100)*n<=((2^63-1) / 100)*100:=Int.mul_le_mul_of_nonneg_left ∅ (by decide);refine Int.le_trans this (by decide)
   have p:((2^63-1:Int) / 100) > 1000:=by decide
   lia
  .rw[kl,mH];unfold Builtin.Str.tooLong;apply decide_eq_false;have:10000<bc:=by rw[sE];decide
   lia
 .rw[Jb];exact⟨tV _,H,I.tok _,⟨_,rfl⟩,q⟩
end
theorem Ji(t:i5)(j:Nat):(t.put j).1.led=t.led/\(t.put j).1.plain=t.plain:=⟨rfl,rfl⟩
theorem Fl(t:i5)(n:Nat):(t.orStandIn n).led=t.led/\((t.orStandIn n).plain=t.plain\/(t.orStandIn n).plain=aj):=by
 unfold SetTable.orStandIn;split
 .exact⟨rfl,.inl rfl⟩
 .exact⟨rfl,.inr rfl⟩
theorem Gs(t:i5)(c:Array (Int×ah))(h:Int)(x:ah):(layNew t c h x).2.1.led=t.led/\((layNew t c h x).2.1.plain=t.plain\/(layNew t c h x).2.1.plain=aj):=by
 unfold layNew;split
 .rename_i a b _;have f:=Ji t a;have d:=Fl (t.put a).1 (SetTable.insertAt c (t.put a).2 (h,x)).size;exact⟨d.1.trans f.1,by rw[<-f.2];exact d.2⟩
 .exact⟨rfl,.inr rfl⟩
theorem Kw(t:i5)(c:Array (Int×ah))(a:Nat)(d:t.plain=aj):(pZ t c a).2.1.led=t.led/\(pZ t c a).2.1.plain=aj:=by
 unfold pZ;split
 .rename_i t' b e;have q:t'.led=t.led/\t'.plain=t.plain:=by
   unfold SetTable.relaid SetTable.laid at e;cases q:SetTable.layClean (SetTable.sizeAbove a-1) (c.map (·.1))with
   |none=>rw[q]at e;cases e
   |some f=>rw[q]at e;cases e;exact⟨rfl,rfl⟩
  dsimp only;split
  .exact⟨q.1,q.2.trans d⟩
  .exact⟨rfl,rfl⟩
 .exact⟨rfl,rfl⟩
def dW(w:aR):Bool:=w.params.followText "set-order"
structure iV(P:aY)(w:aR)(h:aC)(a:ac)(ks:List Str):Prop where
 ex:∃(es:Array (Int×ah)) (ep:Nat) (t:i5) (ss:List Str),h.get? a=aa {cls:=.type "set",dict:=ae,data:=.set es ep t}/\gc (es.toList.map (·.2)) ss/\ss.Perm ks/\ElemsOf (i6 P w) es.toList /\
  es.size<4090/\t.fits es.size=ai/\t.led=(!dW w)/\(ks≠[]->t.plain=aj)
theorem iV.at{P:aY}{w:aR}{h h':aC}{a:ac}{ks:List Str}(S:iV P w h a ks)(k:∀o,h.get? a=aa o->h'.get? a=aa o):iV P w h' a ks:=by obtain⟨es,b,t,ss,e,r⟩:=S.ex;exact⟨es,b,t,ss,k _ e,r⟩
theorem C4:∀{a:List ah}{b:List Str},gc a b->∀x,x∈b↔∃t,Value.str x t∈a
 |_,_,.nil,x=>by simp
 |_,_,.cons y t h,x=>by
  rw[bV,C4 h x];constructor
  .rintro(rfl|⟨t',q⟩)
   .exact⟨t,lJ ..⟩
   .exact⟨t',iA _ q⟩
  .rintro⟨t',q⟩;rcases bV.mp q with q|q
   .cases q;exact .inl rfl
   .exact .inr ⟨t',q⟩
theorem xC:∀{a b:List ah},a.Perm b->∀{c:List Str},gc b c->∃d,gc a d/\d.Perm c:=by intro a b p c h;refine⟨a.map strOf,strsAre_map a λv f=>h.all v (p.mem_iff.mp f),?_⟩;have:=p.map strOf;rwa[h.strs]at this
section
variable{P:aY}{w:aR}{A:aX}{E:ah->am->Prop}{s:am}
def iR(ks:List Str)(x:Str):List Str:=if x∈ks then ks else ks++[x]
theorem iV.put{h:aC}{a:ac}{c es':Array (Int×ah)}{b:Nat}{t t':i5}(e:h.get? a=aa {cls:=.type "set",dict:=ae,data:=.set c b t}):(h.update a (Obj.putSet es' t')).get? a=aa {cls:=.type "set",dict:=ae,data:=.set es' (b+1) t'}:=by have:=p0 (Obj.putSet es' t') e (by rw[putSet_of es' t' rfl];rfl);rw[putSet_of es' t' rfl]at this;exact this
theorem GF{a:ac}{ks:List Str}{x:Str}{g:Tok}{Q:Bool->am->Prop}(S:iV P w s.heap a ks)(hn:ks.length<4000)(h:∀l b,jQ a s.heap l->iV P w l a (iR ks x)->Q b {s with heap:=l}):aw (az P w) A (setAddHashed a (.str x g) ((i6 P w).hash x)) Q E s:=by
 obtain⟨m,ep,t,ss,T,W,hp,B,hsz,hf,oj,bY⟩:=S.ex;have v:∀y t',(i6 P w).is x (.str y t')=decide (y=x):=λy t'=>by
  show sy x (.str y t')=_;rw[mF];simp[sy]
  try exact eq_comm
 have qh:(i6 P w).is x (.str x g)=ai:=by rw[v];simp
 have hb:m.size<scanBound:=zC hsz (by decide);unfold setAddHashed setAddHashedIn;refine lR (au (p4 T rfl hf ?_));dsimp only;rw[byScan_of (knd:=i6 P w) (x:=.str x g) rfl hb B];simp only[if_true];unfold setAddByScan;refine au (au (wpAny_rule (au (wpAny_setScan_of qh T rfl hf B ?_))));have p:x∈ks↔∃e∈m.toList,(i6 P w).is x e.2=ai:=by
  rw[<-hp.mem_iff,C4 W x];constructor
  .rintro⟨t',q⟩;obtain⟨e,G,ee⟩:=b7.mp q;exact⟨e,G,by rw[ee,v];simp⟩
  .rintro⟨e,G,q⟩;obtain⟨y,t',ey⟩:=W.all e.2 (b7.mpr ⟨e,G,rfl⟩);rw[ey,v]at q;have:y=x:=of_decide_eq_true q;subst this;exact⟨t',b7.mpr ⟨e,G,ey⟩⟩
 have klen:ks.length=m.size:=by
  have Y:=hp.length_eq;have X:ss.length=m.size:=by rw[<-W.strs];simp
  lia
 cases hr:List.findIdx? (λe=>(i6 P w).is x e.2) m.toList with
 |some j=>dsimp only;obtain⟨hj,hpj,_⟩:=List.findIdx?_eq_some_iff_getElem.mp hr;have O:x∈ks:=p.mpr ⟨_,zJ hj,hpj⟩;refine aN (aN ?_);exact h s.heap _ (Heap.SameBut.refl a s.heap) (by unfold iR;rw[if_pos O];exact S)
 |none=>
  dsimp only;have O:¬x∈ks:=λhm=>by obtain⟨e,G,q⟩:=p.mp hm;have:=List.findIdx?_eq_none_iff.mp hr e G;rw[q]at this;exact Bool.noConfusion this
  have J:∀(b:Bool) {i:am}{Q':Unit->am->Prop},Q' () i->aw (az P w) A (match b with|ai=>rule "set.scan.the-table-gave-way" |aj=>pure ()) Q' E i :=
   λb i Q' hq=>by cases b <;> first|exact aN hq|exact wpAny_rule hq
  have D:=layNew_perm t m ((i6 P w).hash x) (.str x g);have K:=layNew_fits t m ((i6 P w).hash x) (.str x g);have j5:=Gs t m ((i6 P w).hash x) (.str x g);generalize hL:layNew t m ((i6 P w).hash x) (.str x g)=L at D K j5 ⊢;obtain⟨c,t1,f,gave⟩:=L;dsimp only at D K j5 ⊢;rw[Array.toList_push]at D;have u:ElemsOf (i6 P w) c.toList:=(B.push qh rfl).perm D;have hsz1:c.size=m.size+1:=by have:=D.length_eq;simpa using this
  have hS1:∃F,gc (c.toList.map (·.2)) F/\F.Perm (iR ks x):=by
   have p1:=D.map (λe:Int×ah=>e.2);rw[pY]at p1;have q1:gc (m.toList.map (·.2)++[Value.str x g]) (ss++[x]):=by
    have gen:∀{vs:List ah}{Z:List Str},gc vs Z->gc (vs++[Value.str x g]) (Z++[x]):=by
     intro vs Z hh
     induction hh with
     |nil=>exact .cons x g .nil
     |cons y t _ ih=>exact .cons y t ih
    exact gen W
   obtain⟨F,N,M⟩:=xC p1 q1;refine⟨F,N,M.trans ?_⟩;unfold iR;rw[if_neg O];exact hp.append_right _
  obtain⟨F,N,M⟩:=hS1;have bZ:iR ks x≠[]:=by unfold iR;rw[if_neg O];simp
  have o:∀d:i5,d.fits c.size=ai->d.led=(!dW w)->d.plain=aj->aw (az P w) A (do
    storeSet a c d
    if(!f&&d.tooFull)=ai then do
      (match (pZ d c (p5 c.size)).2.2 with|ai=>rule "set.scan.the-table-gave-way" |aj=>pure ())
      storeSet a (pZ d c (p5 c.size)).1 (pZ d c (p5 c.size)).2.1
      pure (aa ai)
     else pure (aa ai)) (λr s'=>∃l,r=aa ai/\s'={s with heap:=l}/\jQ a s.heap l/\iV P w l a (iR ks x)) E s:=by
   intro d qo i_ gg;refine au (wpAny_storeSet_of T rfl ?_ (fits_of_scanBound (zC (show c.size<4090 by lia) (by decide))));have o1:=iV.put (es':=c) (t':=d) T;have h_:=n8 s.heap a (Obj.putSet c d);split
   .have H:=relayAll_perm d c (p5 c.size);have z:=relayAll_fits d c (p5 c.size);have n:=Kw d c (p5 c.size) gg;generalize hRl:pZ d c (p5 c.size)=Rl at H z n ⊢;obtain⟨C,t3,gave2⟩:=Rl;dsimp only at H z n ⊢;have hsz2:C.size=c.size:=by have:=H.length_eq;simpa using this
    refine au (J _ ?_);refine au (wpAny_storeSet_of o1 rfl ?_ (fits_of_scanBound (zC (show C.size<4090 by lia) (by decide))));obtain⟨ss2,u1,u2⟩:=xC (H.map (λe:Int×ah=>e.2)) N;refine aN ⟨_,rfl,rfl,h_.trans (n8 _ a _),⟨C,_,t3,ss2,iV.put o1,u1,u2.trans M,u.perm H,∅,z,n.1.trans i_,λ_=>n.2⟩⟩
   .exact aN ⟨_,rfl,rfl,h_,⟨c,_,d,F,o1,N,M,u,∅,qo,i_,λ_=>gg⟩⟩
  have EV:t1.led=(!dW w):=j5.1.trans oj;refine au (J _ ?_);split
  .refine au ?_;rw[hashByValue_scannable 8 (x:=.str x g) rfl];refine aN ?_;have hk:plainKind (.str x g)=aj:=rfl;rw[hk];simp only[wj,if_false];refine aT (o {t1 with plain:=aj} (SetTable.fits_plain_off K) EV rfl) λr s' ⟨l,Y,X,e3,e4⟩=>?_;subst Y X;exact aN (h l _ e3 e4)
  .rename_i I;refine au (aN ?_);simp only[if_true];refine aT (o t1 K EV (by simpa using I)) λr s' ⟨l,Y,X,e3,e4⟩=>?_;subst Y X;exact aN (h l _ e3 e4)
end
def met(val:Nat->Str)(i:Nat):List Str:=((cp i).map val).foldl iR []
theorem C3(val:Nat->Str)(i:Nat):met val (i+1)=iR (met val i) (val i):=by unfold met;rw[sM,pY,zK];rfl
theorem BZ(val:Nat->Str){i:Nat}:∀{j:Nat},i<=j->(met val i).length<=(met val j).length
 |0,h=>by rw[show i=0 by lia];exact bd _
 |j+1,h=>by
  by_cases e:i=j+1
  .subst e;exact bd _
  .refine cO (BZ val (j:=j) ∅) ?_;rw[C3];unfold iR;split
   .exact bd _
   .simp
section
variable{P:aY}{w:aR}{A:aX}{R:Result->am->Prop}{I:ac}{c a:List ac}{G:Array GenState->Array GenState->Prop}{n:Nat}{d:Nat->ah->Prop}{St:Nat->am->Prop}
theorem BA(W:WalksS P w A.in1 I c a G n d St)(S:ac)(D:S∉c){J:Nat->aC->Prop}(K:∀i h j,J i h->(∀b o,b∉a->h.get? b=aa o->j.get? b=aa o)->J i j)(M:∀(i:Nat) (v:ah) (s:am) (E:ah->am->Prop) (Q:Bool->am->Prop),i<n->d i v->J i s.heap->(∀j r b,s.toks<=r->jQ S s.heap j->J (i+1) j->Q b {s with heap:=j,toks:=r})->aw (az P w) A.in1 (setAdd S v) Q E s):∀(k i:Nat) (s:am),n-i=k->i<=n->St i s->J i s.heap -> (∀f,Moved (S::a) G s f->J n f.heap->R (.ok (.ret .none)) f)->ku (az P w) A (.builtin "set.update.loop" ⟨[.ref S,.ref I],[]⟩) R s:=by
 have X:S∉a:=λh=>D (W.sub _ h);have H:∀b∈a,b∈S::a:=λb g=>iA _ g;intro k
 induction k with
 |zero=>
  intro i s O T z x y;obtain rfl:i=n:=∅
  refine mK N6 ?_;rw[n9 Ey _];show aw _ A.in1 (pyNext (.ref I) >>= _) _ _ s;refine au (W.done s _ _ z λf p=>?_);show aw _ A.in1 (ret Value.none) _ _ f;exact aN (y f (p.mono H) (K _ _ _ x λb o g e=>p.heap b o g e))
 |succ k N=>
  intro i s O T z x y;have B:i<n:=∅
  refine mK N6 ?_;rw[n9 Ey _];show aw _ A.in1 (pyNext (.ref I) >>= _) _ _ s;refine au (W.item i s _ _ B z λv f Y l p=>?_);show aw _ A.in1 (pL [v] (setAdd S v) >>= _) _ _ f;refine au (lR (M i v f _ _ B Y (K _ _ _ x λb o g e=>p.heap b o g e) λj r b C F L=>?_));refine aN ⟨n_ Ey _,N (i+1) _ ∅ B (W.frame _ f _ _ l C λb g o e=>?_) L λu m q=>?_⟩
  .rw[F.2 b (λh:b=S=>D (by rw[<-h];exact g))];exact e
  .refine y u (Moved.trans W.gtrans ((p.mono H).then_heap C λb o g e=>?_) m) q;rw[F.2 b (λh:b=S=>g (by rw[h];exact lJ))];exact e
end
section
variable{P:aY}{w:aR}{A:aX}{E:ah->am->Prop}{s:am}
theorem IJ(a:ah){Q:ah->am->Prop} (h:iV P w (s.heap.push {cls:=.type "set",dict:=ae,data:=.set #[] 0 (.fresh 0 0 (!dW w))}) s.heap.objs.size [] -> Q (.ref s.heap.objs.size) {s with heap:=s.heap.push {cls:=.type "set",dict:=ae,data:=.set #[] 0 (.fresh 0 0 (!dW w))}}):ku (az P w) A (.call (.builtin "set.__new__") ⟨[.type "set",a],[]⟩) (wants Q E) s:=by
 refine codeAny_of_tree ?_;show aw _ A.in1 (do checkBuiltinCall "set.__new__" ⟨[.type "set",a],[]⟩;again (.builtin "set.__new__" ⟨[.type "set",a],[]⟩)) _ _ s;refine au (wpAny_of_eq (PySem.F.newCall_set_1 a) (aN ⟨n_ F.plain_set_new _,mK F.entry_set_new ?_⟩));rw[n9 F.plain_set_new _];unfold Builtin.«set.__new__» Builtin.Frozenset.newClass;have i:=sub_set_self;obtain⟨j,g,d,c,f⟩:=s;dsimp only
 wp_walk
 refine p6 (aN ?_);dsimp only;simp only[newObj];refine au (wpAny_alloc (aN ?_));refine aN (h ⟨#[],0,_,[],cm _ rfl,.nil,zI _,λe b=>by simp at b,by decide,rfl,rfl,λh=>absurd rfl h⟩)
end
end L2
set_option maxHeartbeats 8000000
namespace L2
theorem Fj:entryFor table "set.__iter__"=aa Builtin.«frozenset.__iter__»:=entryFor_alias (id':="frozenset.__iter__") (by kernel_rfl) rfl (by decide +kernel) (by kernel_rfl)
theorem Bq:Slot "set_iterator" "__next__" "set_iterator.__next__" :=
 .of (owner:="set_iterator") (n:="__next__") (by rw[typeLookup_type,builtinLookup_eq_fast];kernel_rfl) (by decide +kernel) (by decide +kernel) (by decide +kernel) (by first|exact .inl (by decide +kernel)|exact .inr (by decide +kernel)) (by rw[isSubtype_type];kernel_rfl)
theorem IU:entryFor table "set_iterator.__next__"=aa Builtin.«set_iterator.__next__»:=entryFor_of_fast (by kernel_rfl)
theorem Kb(a:ah):argsOk "set_iterator.__next__" ⟨[a],[]⟩:=by unfold argsOk;kernel_rfl
theorem Aj:Slot "set_iterator" "__iter__" "set_iterator.__iter__" :=
 .of (owner:="set_iterator") (n:="__iter__") (by rw[typeLookup_type,builtinLookup_eq_fast];kernel_rfl) (by decide +kernel) (by decide +kernel) (by decide +kernel) (by first|exact .inl (by decide +kernel)|exact .inr (by decide +kernel)) (by rw[isSubtype_type];kernel_rfl)
theorem Ka:entryFor table "set_iterator.__iter__"=aa Builtin.«dict_keyiterator.__iter__»:=entryFor_alias (id':="dict_keyiterator.__iter__") (by kernel_rfl) rfl (by decide +kernel) (by kernel_rfl)
theorem E5(a:ah):argsOk "set_iterator.__iter__" ⟨[a],[]⟩:=by unfold argsOk;kernel_rfl
def gL(first:ah)(i:Nat)(a:ac)(n b:Nat):Obj:={cls:=.type "set_iterator",data:=.fields #[first,.int i 0,.ref a,.int n 0,.int b 0]}
section
variable{P:aY}{w:aR}{A:aX}{E:ah->am->Prop}{s:am}
theorem ub{I a:ac}{first:ah}{i n d:Nat}{Q:ah->am->Prop}(h:s.heap.get? I=aa (gL first i a n d))(c:Q (.ref I) s):aw (az P w) A (mD (.ref I)) Q E s:=by
 have b:s.TypeIs (.ref I) "set_iterator":=⟨_,h,rfl⟩
 refine wpAny_pyIter_slot b Aj (wa Aj b Ka ?_ (E5 _));show aw _ _ (ret (.ref I)) _ _ s;exact aN ⟨_,rfl,"set_iterator",_,b,Bq.lookup,c⟩
theorem nv{I a:ac}{first:ah}{i:Nat}{f:Array (Int×ah)}{g:Nat}{t:i5}{Q:Option ah->am->Prop}(n:s.heap.get? a=aa {cls:=.type "set",dict:=ae,data:=.set f g t})(m:t.fits f.size=ai)(l:s.heap.get? I=aa (gL first i a f.size g))(h:aw (az P w) A.in1 (if let .int slot _:=first then do
    match <-lV a slot.toNat (i:Int).toNat (g:Int).toNat with
    |some (x,next)=>do
     lW (.ref I) 0 (dO next)
     lW (.ref I) 1 (dO ((i:Int)+1))
     ret x
    |none=>do lW (.ref I) 2 .none;raiseNew (<-newExc (.type "StopIteration") [])
   else do
    let aa places <-seqItems? first|unsupported "internal:set_iterator"
    match places[(i:Int).toNat]? with
    |some (.int d _)=>do
     let x <-setNextDrawn a d.toNat (g:Int).toNat
     lW (.ref I) 1 (dO ((i:Int)+1))
     ret x
    |some _=>unsupported "internal:set_iterator"
    |none=>do lW (.ref I) 0 (dO 0);lW (.ref I) 2 .none;raiseNew (<-newExc (.type "StopIteration") []))
   (λc b=>∃r,c=.done (.ret r)/\Q (aa r) b) (λe b=>aw (az P w) A (do if <-isInstance e (.type "StopIteration")then pure ae else throw e) Q E b) s) :
  aw (az P w) A (pyNext (.ref I)) Q E s:=by
 have j:s.TypeIs (.ref I) "set_iterator":=⟨_,l,rfl⟩
 unfold pyNext;refine au (wpAny_attempt (wpAny_callSpecial?_slot (name:=bn "__next__") j Bq (wa Bq j IU ?_ (Kb _))));unfold Builtin.«set_iterator.__next__» slotArgs;refine au (aN ?_);refine au (wpAny_fieldsOf l rfl ?_);show aw _ _ (setEntries a >>= _) _ _ s;refine au (wpAny_setEntries_of n rfl m ?_);have u:(((f.size:Nat):Int) != ((f.size:Nat):Int))=aj:=by simp
 rw[u];simp only[wj,if_false];refine eF ?_ (λc b q=>?_) (λe b q=>q) (Q:=λc b=>∃r,c=.done (.ret r)/\Q (aa r) b) (E:=λe b=>aw (az P w) A (do if <-isInstance e (.type "StopIteration")then pure ae else throw e) Q E b)
 .exact h
 .obtain⟨r,p,o⟩:=q;exact⟨r,p,aN o⟩
end
theorem yR{a:Type}:∀{l:List a}{i:Nat} (h:i<l.length),(l[i]::l.eraseIdx i).Perm l
 |[],i,h=>by simp at h
 |x::r,0,h=>by simp
 |x::r,i+1,h=>by have q:=yR (l:=r) (i:=i) (by simpa using h);simp only[List.getElem_cons_succ,List.eraseIdx_cons_succ];exact(List.Perm.swap x _ _).trans (List.Perm.cons x q)
theorem BN{f:Type}(next:Nat->Nat):∀(c k:Nat) (a:List f) (b:Array f),c=a.length->(pickOrder.go next c k a b).toList.Perm (b.toList++a)
 |0,k,a,b,h=>by have:a=[]:=sN h.symm;subst this;simp[pickOrder.go]
 |c+1,k,a,b,h=>by
  have d:next k % a.length<a.length:=Nat.mod_lt _ ∅
  unfold pickOrder.go;rw[eh d];dsimp only;have g:=BN next c (k+1) (a.eraseIdx (next k % a.length)) (b.push a[next k % a.length]) (by rw[List.length_eraseIdx,if_pos d];lia)
  refine g.trans ?_;rw[Array.toList_push,sO];exact List.Perm.append_left _ (yR d)
theorem Bz{b:Type}(next:Nat->Nat)(a:Array b):(sP next a).toList.Perm a.toList:=by
 have:=BN next a.size 0 a.toList #[] (by simp)
 simpa[sP]using this
section
variable{P:aY}{w:aR}{A:aX}{E:ah->am->Prop}{s:am}
theorem Ld{a:Source}{n:Nat}{Q:Nat->am->Prop}(b:n≠0)(h:∀k d,k<n->Q k {s with drawn:=d}):aw (az P w) A (choose a n) Q E s:=λc p hΓ=>by unfold choose;rw[Sem.wp_choose];refine⟨b,?_⟩;exact h _ _ (Nat.mod_lt _ (Nat.pos_of_ne_zero b))
theorem BF{f:Type}:∀(n:Nat) (a:List f) (s:am) (Q:List f->am->Prop),n=a.length->(∀b d,b.Perm a->Q b {s with drawn:=d})->aw (az P w) A (drawOrder n a) Q E s
 |0,[],s,Q,_,h=>by unfold drawOrder;exact aN (h [] s.drawn (zI _))
 |0,x::a,s,Q,hn,h=>by simp at hn
 |n+1,[],s,Q,hn,h=>by simp at hn
 |n+1,x::a,s,Q,hn,h=>by unfold drawOrder;refine au (Ld (by simp) λk d c=>?_);rw[eh c];dsimp only;refine au (BF n ((x::a).eraseIdx k) _ _ (by rw[List.length_eraseIdx,if_pos c];lia) λb i g=>?_);refine aN (h _ i ?_);exact(List.Perm.cons _ g).trans (yR c)
theorem uq{Q:Option ah->am->Prop}{R:Fin->am->Prop}(f:A.handled=ae)(g:∀c,(∀b o,s.heap.get? b=aa o->c.get? b=aa o)->Q ae {s with heap:=c}):aw (az P w) A.in1 (do raiseNew (<-newExc (.type "StopIteration") [])) R (λe d=>aw (az P w) A (do if <-isInstance e (.type "StopIteration")then pure ae else throw e) Q E d) s:=by
 refine au ?_;simp only[newExc,newTuple];refine au (lS ?_ (by size_fits));refine au (m:=firstArgMember _ _) (wpAny_of_eq (a:=Value.none) (by first|rfl | (simp only[firstArgMember];rfl)) ?_);refine lS ?_ (by size_fits);simp only[raiseNew];refine au (wpAny_handled ?_);rw[show A.in1.handled=ae from f];refine au (aN (wpAny_throw ?_));refine au (wpAny_isInstance (T:="StopIteration") (b:=ai) ⟨_,cm _ rfl,rfl⟩ isSubtype_stop ?_);exact aN (g _ λb o e=>bi _ (bi _ e))
theorem yv{I a:ac}{first d:ah}{i n f:Nat}{Q:Unit->am->Prop}(c:s.heap.get? I=aa (gL first i a n f))(h:∀b,jQ I s.heap b->b.get? I=aa (gL d i a n f)->Q () {s with heap:=b}):aw (az P w) A (lW (.ref I) 0 d) Q E s:=by refine sQ c rfl (by simp[gL]) (h _ (n8 ..) ?_);rw[p0 _ c (by rfl)];rfl
theorem xD{I a:ac}{first:ah}{i n d:Nat}{Q:Unit->am->Prop}(c:s.heap.get? I=aa (gL first i a n d))(h:∀b,jQ I s.heap b->b.get? I=aa (gL first (i+1) a n d)->Q () {s with heap:=b}):aw (az P w) A (lW (.ref I) 1 (dO ((i:Int)+1))) Q E s:=by refine sQ c rfl (by simp[gL]) (h _ (n8 ..) ?_);rw[p0 _ c (by rfl)];rfl
theorem uR{I a:ac}{first:ah}{i n d:Nat}{Q:Unit->am->Prop}(c:s.heap.get? I=aa (gL first i a n d))(h:∀b,jQ I s.heap b->(∃o,b.get? I=aa o)->Q () {s with heap:=b}):aw (az P w) A (lW (.ref I) 2 .none) Q E s:=by refine sQ c rfl (by simp[gL]) (h _ (n8 ..) ⟨_,p0 _ c (by rfl)⟩)
abbrev nK(a:Array (Int×ah))(b:Nat)(t:i5):Obj:={cls:=.type "set",dict:=ae,data:=.set a b t}
theorem KZ{I a:ac}{d:Array (Int×ah)}{g:Nat}{t:i5}(x:a≠I)(m:t.fits d.size=ai)(f:dW w=ai)(C:A.handled=ae):Walks P w A I [I,a] [I] d.size (λi v=>((sP (w.params.setOrder a g) d).toList.map (·.2))[i]?=aa v) (λi h=>h.get? I=aa (gL (dO 0) i a d.size g)/\h.get? a=aa (nK d g t)):=by
 have hsz:(sP (w.params.setOrder a g) d).size=d.size:=by have:=(Bz (w.params.setOrder a g) d).length_eq;simpa using this
 have j:∀(s:am) (i:Nat) (Q:Option (ah×Nat)->am->Prop) (E:ah->am->Prop),s.heap.get? a=aa (nK d g t) ->
   Q (((sP (w.params.setOrder a g) d)[i]?).map λe=>(e.2,0)) s->aw (az P w) A.in1 (lV a (0:Int).toNat (i:Int).toNat (g:Int).toNat) Q E s:=λs i Q E u B=>by
  unfold lV;refine au (p4 u rfl m ?_);unfold wm;refine au (au (p6 (aN ?_)));show aw _ _ (if dW w=ai then _ else _) _ _ s;rw[if_pos f];simp only[mH,bne_self_eq_false,wj,if_false];unfold setWalk;refine au (au (p4 u rfl m ?_));unfold wm;refine au (au (p6 (aN ?_)));show aw _ _ (if dW w=ai then _ else _) _ _ s;rw[if_pos f];refine au (p6 (aN (aN ?_)));exact B
 refine⟨λb f=>by simp at f;simp[f],λi h H c k=>⟨k I (by simp) _ c.1,k a (by simp) _ c.2⟩,λi s Q E G c l=>?_,λs Q E c l=>?_,λi s Q E c l=>ub c.1 l⟩
 .refine nv c.2 m c.1 ?_;refine au (j s i _ _ c.2 ?_);have y:i<(sP (w.params.setOrder a g) d).size:=∅
  rw[zL y];dsimp only[oa];refine au (yv c.1 λq n F=>?_);refine au (xD (s:={s with heap:=q}) F λp r D=>?_);refine aN ⟨_,rfl,l _ p s.toks ?_ ⟨D,?_⟩ λb o f e=>?_⟩
  .rw[jU];simp[zL y]
  .exact(r.2 a x).trans ((n.2 a x).trans c.2)
  .exact(r.2 b (by simpa using f)).trans ((n.2 b (by simpa using f)).trans e)
 .refine nv c.2 m c.1 ?_;refine au (j s d.size _ _ c.2 ?_);rw[Array.getElem?_eq_none ∅];dsimp only[Option.map_none];refine au (uR c.1 λq n _=>?_);exact uq (s:={s with heap:=q}) C λp z=>l p s.toks λb o f e=>z b o ((n.2 b (by simpa using f)).trans e)
theorem NU{I a T:ac}{f:Array (Int×ah)}{J:Nat}{t:i5}{c:List Nat}(bZ:a≠I)(Z:T≠I)(C:t.fits f.size=ai)(G:c.Perm (cp f.size))(X:A.handled=ae):Walks P w A I [I,a,T] [I] f.size (λi v=>(c.filterMap λj=>(f[j]?).map (·.2))[i]?=aa v) (λi h=>h.get? I=aa (gL (.ref T) i a f.size J)/\h.get? a=aa (nK f J t)/\h.get? T=aa {cls:=.type "tuple",data:=.seq (c.map λ(k:Nat)=>dO k).toArray}):=by
 have z:c.length=f.size:=by simpa using G.length_eq
 have L:∀j∈c,j<f.size:=λj B=>by simpa using G.mem_iff.mp B
 have fm:∀(l:List Nat),(∀j∈l,j<f.size)->∀(i j:Nat),l[i]?=aa j->∃e:Int×ah,f[j]?=aa e/\(l.filterMap λj=>(f[j]?).map (·.2))[i]?=aa e.2:=by
  intro l
  induction l with
  |nil=>intro _ i j h;simp at h
  |cons x r N=>
   intro H i j h;have O:x<f.size:=H x (lJ ..);have F:f[x]?=aa f[x]:=zL O;cases i with
   |zero=>simp at h;subst h;exact⟨_,F,by rw[sC,F];rfl⟩
   |succ i=>obtain⟨e,y,u⟩:=N (λj B=>H j (iA _ B)) i j (by simpa using h);exact⟨e,y,by rw[sC,F];simpa using u⟩
 have g:∀(s:am) (Q:Option (Array ah)->am->Prop) (E:ah->am->Prop),s.heap.get? T=aa {cls:=.type "tuple",data:=.seq (c.map λ(k:Nat)=>dO k).toArray}->Q (aa (c.map λ(k:Nat)=>dO k).toArray) s->aw (az P w) A.in1 (seqItems? (.ref T)) Q E s:=λs Q E S W=>by exact zM S rfl W
 refine⟨λb m=>by simp at m;simp[m],λi h h' d k=>⟨k I (by simp) _ d.1,k a (by simp) _ d.2.1,k T (by simp) _ d.2.2⟩,λi s Q E hi d p=>?_,λs Q E d p=>?_,λi s Q E d p=>ub d.1 p⟩
 .refine nv d.2.1 C d.1 ?_;refine au (g s _ _ d.2.2 ?_);have K:i<c.length:=∅
  have q:((c.map λ(k:Nat)=>dO k).toArray)[(i:Int).toNat]?=aa (dO (c[i]:Nat)):=by simp[K]
  dsimp only;rw[q];obtain⟨e,y,u⟩:=fm c L i c[i] (eh K);show aw _ _ (setNextDrawn a _ _ >>= _) _ _ s;refine au ?_;unfold setNextDrawn;refine au (p4 d.2.1 rfl C ?_);simp only[mH,bne_self_eq_false,wj,if_false];rw[y];refine aN ?_;refine au (xD d.1 λD n e2=>?_);refine aN ⟨_,rfl,p _ D s.toks u ⟨e2,(n.2 a bZ).trans d.2.1,(n.2 T Z).trans d.2.2⟩ λb o m e=>(n.2 b (by simpa using m)).trans e⟩
 .refine nv d.2.1 C d.1 ?_;refine au (g s _ _ d.2.2 ?_);have q:((c.map λ(k:Nat)=>dO k).toArray)[(f.size:Int).toNat]?=ae:=by simp[z]
  dsimp only;rw[q];refine au (yv d.1 λh1 Y q=>?_);refine au (uR (s:={s with heap:=h1}) q λD n _=>?_);exact uq (s:={s with heap:=D}) X λh3 M=>p h3 s.toks λb o m e=>M b o ((n.2 b (by simpa using m)).trans ((Y.2 b (by simpa using m)).trans e))
theorem Gf(j k:Nat):N7 #[j] k=if j<k then 1 else 0:=by
 unfold N7;simp only[cu,e_,kD];unfold Ez;simp;split
 .rename_i h;unfold Ez;simp
 .unfold Ez;simp
theorem Gx{I a:ac}{g:Array (Int×ah)}{n:Nat}{t:i5}(J:a≠I)(r:t.fits g.size=ai)(f:dW w=aj)(N:t.led=ai)(m:g.size=1)(S:A.handled=ae):Walks P w A I [I,a] [I] 1 (λi v=>(g.toList.map (·.2))[i]?=aa v) (λi h=>h.get? I=aa (gL (dO (if i=0 then 0 else((t.place.getD 0 0:Nat):Int)+1)) i a g.size n)/\h.get? a=aa (nK g n t)):=by
 have M:t.place.size=1:=by simp only[SetTable.fits,ef,beq_iff_eq]at r;lia
 obtain⟨j,F⟩:=Array.size_eq_one_iff.mp M;have H:((t.place.getD 0 0:Nat):Int)=(j:Int):=by rw[F];rfl
 obtain⟨e,G⟩:=Array.size_eq_one_iff.mp m;have l:∀(s:am) (d:Nat) (i:Nat) (Q:Option (ah×Nat)->am->Prop) (E:ah->am->Prop),s.heap.get? a=aa (nK g n t) ->
   Q (if j<d then ae else aa (e.2,j+1)) s->aw (az P w) A.in1 (lV a d i n) Q E s:=λs d i Q E T q=>by
  unfold lV;refine au (p4 T rfl r ?_);unfold wm;refine au (au (p6 (aN ?_)));show aw _ _ (if dW w=ai then _ else _) _ _ s;rw[if_neg (by rw[f];decide)];refine wn (λy=>absurd (show(!t.plain&&decide (g.size > 1))=ai from y) (by rw[m];simp)) (λ_=>?_);refine au ?_;refine eF (Q:=λ_ C=>C=s) (E:=E) ?_ (λ_ C L=>?_) (λ_ _ x=>x)
  .refine wn (λy=>absurd (show(!t.led&&!g.isEmpty)=ai from y) (by rw[N];simp)) (λ_=>aN rfl)
  .subst L;rw[F,Gf,G];by_cases K:j<d
   .rw[if_pos K]at q ⊢;exact aN q
   .rw[if_neg K]at q ⊢;exact aN q
 refine⟨λb f=>by simp at f;simp[f],λi h Y c k=>⟨k I (by simp) _ c.1,k a (by simp) _ c.2⟩,λi s Q E X c p=>?_,λs Q E c p=>?_,λi s Q E c p=>ub c.1 p⟩
 .obtain rfl:i=0:=∅
  refine nv c.2 r c.1 ?_;show aw _ _ (lV a (0:Int).toNat ((0:Nat):Int).toNat (n:Int).toNat >>= _) _ _ s;simp only[mH,Int.toNat_zero];refine au (l s 0 0 _ _ c.2 ?_);rw[if_neg (Nat.not_lt_zero j)];dsimp only;refine au (yv c.1 λm u B=>?_);refine au (xD (s:={s with heap:=m}) B λz D W=>?_);refine aN ⟨_,rfl,p _ z s.toks ?_ ⟨?_,?_⟩ λb o f e=>?_⟩
  .rw[G];rfl
  .rw[W,if_neg (by decide),H];rfl
  .exact(D.2 a J).trans ((u.2 a J).trans c.2)
  .exact(D.2 b (by simpa using f)).trans ((u.2 b (by simpa using f)).trans e)
 .refine nv c.2 r c.1 ?_;rw[if_neg (by decide),H];show aw _ _ (lV a ((j:Int)+1).toNat ((1:Nat):Int).toNat (n:Int).toNat >>= _) _ _ s;have B:((j:Int)+1).toNat=j+1:=∅
  rw[B,mH,mH];refine au (l s (j+1) 1 _ _ c.2 ?_);rw[if_pos (iY j)];dsimp only;refine au (uR c.1 λm u _=>?_);exact uq (s:={s with heap:=m}) S λz O=>p z s.toks λb o f e=>O b o ((u.2 b (by simpa using f)).trans e)
theorem CN:∀{a:List ah}{b:List Str} (i:Nat) (v:ah),gc a b->a[i]?=aa v->∃t,v=.str (b.getD i jS) t
 |_,_,i,v,.nil,h=>by simp at h
 |_,_,0,v,.cons y t _,h=>by simp at h;exact⟨t,by rw[<-h];rfl⟩
 |_,_,i+1,v,.cons y t hr,h=>by simp only[List.getElem?_cons_succ]at h;obtain⟨c,e⟩:=CN i v hr h;exact⟨c,by rw[e];rfl⟩
theorem Lw{h:aC}{o:Obj}{l:ac}{a:Array ah}(x:h.IsTuple l a):(h.push o).IsTuple l a:=let ⟨ob,e,r⟩:=x;⟨ob,bi _ e,r⟩
set_option maxRecDepth 100000 in
theorem NO{l:ac}{a:Array ah}{Q:ah->am->Prop}(hh:A.handled=ae)(D:s.heap.IsList l a\/s.heap.IsTuple l a){J:Nat->aC->Prop}(hJ:∀i h d,J i h->(∀b o,b<=s.heap.objs.size->h.get? b=aa o->d.get? b=aa o)->J i d) (X:J 0 (s.heap.push {cls:=.type "set",dict:=ae,data:=.set #[] 0 (.fresh 0 0 (!dW w))}))(kG:∀(i:Nat) (v:ah) (f:am) (E:ah->am->Prop) (Q:Bool->am->Prop),i<a.size->a[i]?=aa v->J i f.heap->(∀d j b,f.toks<=j->jQ s.heap.objs.size f.heap d->J (i+1) d->Q b {f with heap:=d,toks:=j})->aw (az P w) A.in1.in1.in1 (setAdd s.heap.objs.size v) Q E f)(h:∀(d:aC) (j:Nat),J a.size d->(∀b o,b<s.heap.objs.size->s.heap.get? b=aa o->d.get? b=aa o)->Q (.ref s.heap.objs.size) {s with heap:=d,toks:=j}):aw (az P w) A (call (.type "set") [.ref l]) Q E s:=by
 obtain⟨c,tl,hmro⟩:=F.called_set.mro;have O:=F.called_set.made;have jp:=F.called_set.sub;refine wpAny_call (codeAny_of_tree ?_);show aw _ _ (callAny (.type "set") _) _ _ _;refine aN ⟨Code.quiet_builtin _ (by decide +kernel),mK F.entry_type_call ?_⟩;rw[Around.under_plain (weight_type_call_type "set" [.ref l] []) rfl];have h1:=F.called_set.notType;have h2:=F.called_set.canCreate;have hct:=PySem.F.typeCall_set_1 (.ref l)
 repeat any_goals (first|assumption|wp_step)
 refine sH (IJ (P:=P) (w:=w) (.ref l) (E:=E) (Q:=λn f=>n=.ref s.heap.objs.size/\f={s with heap:=s.heap.push {cls:=.type "set",dict:=ae,data:=.set #[] 0 (.fresh 0 0 (!dW w))}}/\True) λS0=>⟨rfl,rfl,trivial⟩) λr f N=>?_;cases r with
 |error e=>exact N
 |ok fl=>
  cases fl with
  |ret n=>
   obtain⟨rfl,rfl,S0⟩:=N;have hS:=cm (h:=s.heap) (o:=({cls:=.type "set",dict:=ae,data:=.set #[] 0 (.fresh 0 0 (!dW w))}:Obj));have T:(s.heap.push {cls:=.type "set",dict:=ae,data:=.set #[] 0 (.fresh 0 0 (!dW w))}).get? s.heap.objs.size=aa {cls:=.type "set",dict:=ae,data:=.set #[] 0 (.fresh 0 0 (!dW w))}:=cm _ rfl;have hT:Shared.TypeIs {s with heap:=s.heap.push {cls:=.type "set",dict:=ae,data:=.set #[] 0 (.fresh 0 0 (!dW w))}} (.ref s.heap.objs.size) "set":=⟨_,T,rfl⟩
   have hli:=F.called_set.init.lookup;have hbi:=F.called_set.init.bind (.ref s.heap.objs.size)
   repeat any_goals (first|assumption|wp_step)
   refine sH (codeAny_call_builtin (R:=wants (λr s2=>r=.none/\∃d j,s2={s with heap:=d,toks:=j}/\J a.size d /\ (∀b o,b<s.heap.objs.size->s.heap.get? b=aa o->d.get? b=aa o)) E) F.called_set.init.plain F.entry_set_init (check_set_init_1 hT ?_)) λr2 s2 m=>?_
   .rcases D with D|D
    all_goals
     obtain⟨⟨ocls,K,L,z⟩,p,mT,B,x⟩:=D;simp only at mT x;subst mT;subst x;have y:=bi ({cls:=.type "set",dict:=ae,data:=.set #[] 0 (.fresh 0 0 (!dW w))}:Obj) p;have hsls:=PySem.F.sub_list_set;have hslf:=PySem.F.sub_list_frozenset;have bZ:(Value.type "list" == Value.type "dict")=aj:=by decide
     have hsl2:=PySem.F.sub_tuple_set;have hsl3:=PySem.F.sub_tuple_frozenset;have hn2:(Value.type "tuple" == Value.type "dict")=aj:=by decide
     unfold Builtin.«set.__init__» noKeywords Builtin.Frozenset.updateFrom;generalize W:mD=PI
     wp_walk
     subst W
     first|refine pW ⟨_,y,rfl,B,rfl⟩ (au (wpAny_runValue ?_))|refine wpAny_pyIter_tuple ⟨_,y,rfl,B,rfl⟩ (au (wpAny_runValue ?_))
     have q:l<s.heap.objs.size:=bo p;have u:A.in1.in1.in1.handled=ae:=by simp[hh]
     have g:(s.heap.push {cls:=.type "set",dict:=ae,data:=.set #[] 0 (.fresh 0 0 (!dW w))}).objs.size=s.heap.objs.size+1:=sG ..;have EZ:l≠(s.heap.push {cls:=.type "set",dict:=ae,data:=.set #[] 0 (.fresh 0 0 (!dW w))}).objs.size:=by rw[g];exact cN (jo q)
     have Z:s.heap.objs.size∉[(s.heap.push {cls:=.type "set",dict:=ae,data:=.set #[] 0 (.fresh 0 0 (!dW w))}).objs.size,l]:=by rw[g];simp only[bV,g9,g_,or_false,not_or];exact⟨cN (iY _),iB q⟩
     first|refine BA (J:=J) (pX u _ l EZ a).toS s.heap.objs.size Z ?_ ?_ (a.size-0) 0 _ ∅ (g6 _) ⟨⟨_,cm _ rfl,rfl,rfl⟩,Heap.IsList.push ⟨_,y,rfl,B,rfl⟩ _⟩ ?_ ?_|refine BA (J:=J) (Walks.tuple u _ l EZ a).toS s.heap.objs.size Z ?_ ?_ (a.size-0) 0 _ ∅ (g6 _) ⟨⟨_,cm _ rfl,rfl,rfl⟩,Lw ⟨_,y,rfl,B,rfl⟩⟩ ?_ ?_
     .exact λi h d S k=>hJ i h d S λb o G e=>k b o (by rw[g];simp only[g9];exact cN (Nat.lt_succ_of_le G)) e
     .exact λi v f E Q hi hv S hq=>kG i v f E Q hi hv S hq
     .exact hJ 0 _ _ X λb o _ e=>bi _ e
     intro s' C M;obtain⟨d,g',d',H,I⟩:=s';obtain rfl:g'=s.gens:=C.gens;obtain rfl:d'=s.drawn:=C.drawn;obtain rfl:I=s.os:=C.os;show aw _ _ _ _ _ _;refine aN ?_;show aw _ _ (ret Value.none) _ _ _;refine aN ⟨rfl,d,H,rfl,M,λb o G e=>C.heap b o ?_ (bi _ (bi _ e))⟩;rw[g];simp only[bV,g9,g_,or_false,not_or];exact⟨cN G,cN (jo G)⟩
   .cases r2 with
    |error e=>exact m
    |ok Y=>
     cases Y with
     |ret r=>
      obtain⟨rfl,d,j,rfl,M,qr⟩:=m
      repeat any_goals (first|assumption|wp_step)
      exact h _ _ M qr
     |_=>exact m.elim
  |_=>exact N.elim
theorem JK{l:ac}{a:Array ah}{c:List Str}{Q:ah->am->Prop}(y:A.handled=ae)(u:s.heap.IsList l a\/s.heap.IsTuple l a)(x:gc a.toList c)(B:(met (λi=>c.getD i jS) a.size).length<4000)(h:∀(d:aC) (m:Nat),iV P w d s.heap.objs.size (met (λi=>c.getD i jS) a.size)->(∀b o,b<s.heap.objs.size->s.heap.get? b=aa o->d.get? b=aa o)->Q (.ref s.heap.objs.size) {s with heap:=d,toks:=m}):aw (az P w) A (call (.type "set") [.ref l]) Q E s:=by
 refine NO y u (J:=λi h=>iV P w h s.heap.objs.size (met (λi=>c.getD i jS) i)) (λi h d S k=>S.at λo e=>k _ o (bd _) e)
  ⟨#[],0,_,[],cm _ rfl,.nil,zI _,λe z=>by simp at z,by decide,rfl,rfl,λh=>absurd rfl h⟩ (λi v g E Q f r S q=>?_) h
 obtain⟨t,rfl⟩:=CN i v x (by rw[Array.getElem?_toList];exact r);unfold setAdd;refine lR ?_;have p:(i6 P w).is (c.getD i jS) (.str (c.getD i jS) t)=ai:=by show sy _ (.str _ t)=ai;simp[sy]
 refine au ((i6 P w).pyHash (k:=c.getD i jS) p ?_);refine GF (s:={g with toks:=g.toks+1}) S (zF (BZ _ (kt f)) B) λd b n j=>?_;rw[<-C3 (λi=>c.getD i jS)]at j;exact q d _ b (sI _) n j
end
theorem Dy{n:Nat}(h:n<=4096):n<bc:=zF h (by decide)
theorem LD:typeLookup (.type "set") "__len__"=pure (aa (.builtin "set.__len__")):=F.slot_set_len.lookup
section
variable{P:aY}{w:aR}{A:aX}{E:ah->am->Prop}{s:am}
def re(w:aR)(h:aC)(a:ac)(b:Array (Int×ah)):Prop:=∃(c:Nat) (t:i5),h.get? a=aa {cls:=.type "set",dict:=ae,data:=.set b c t}/\b.size<4090/\t.fits b.size=ai/\t.led=(!dW w)/\(b.size≠0->t.plain=aj)
theorem re.at{w:aR}{h h':aC}{a:ac}{es:Array (Int×ah)}(S:re w h a es)(k:∀o,h.get? a=aa o->h'.get? a=aa o):re w h' a es:=by obtain⟨b,t,e,r⟩:=S;exact⟨b,t,k _ e,r⟩
theorem iV.e{h:aC}{a:ac}{ks:List Str}(S:iV P w h a ks):∃es ss,re w h a es/\gc (es.toList.map (·.2)) ss/\ss.Perm ks:=by
 obtain⟨es,l,t,ss,f,c,b,i,hsz,g,d,n⟩:=S.ex;refine⟨es,ss,⟨l,t,f,hsz,g,d,λj=>n λz=>j ?_⟩,c,b⟩;have m:=b.length_eq;have o:ss.length=es.size:=by rw[<-c.strs];simp
 rw[z,kD]at m;lia
structure CJ(P:aY)(w:aR)(s s':am)(a I:ac)(es:Array (Int×ah))(fp:List ac)(n:Nat)(Pv:Nat->ah->Prop)(St:Nat->aC->Prop):Prop where
 wk:∀A:aX,A.handled=ae->Walks P w A I fp [I] n Pv St
 st:St 0 s'.heap
 old:∀b o,s.heap.get? b=aa o->s'.heap.get? b=aa o
 new:s.heap.objs.size<=I
 lt:∀b∈fp,b<s'.heap.objs.size
 rest:s'={s with heap:=s'.heap,drawn:=s'.drawn}
 ord:∀aP:Array ah,ItemsOf Pv aP n->aP.toList.Perm (es.toList.map (·.2))
 len:n<4090
 fps:∀b∈fp,b=a\/s.heap.objs.size<=b
theorem u_{l:List ah}{a:Array ah}{n:Nat}(c:l.length=n)(h:ItemsOf (λi v=>l[i]?=aa v) a n):a.toList=l:=by
 refine sR λi=>?_;by_cases b:i<n
 .have:i<a.size:=by rw[h.1];exact b
  have q:=h.2 i a[i] (zL this);rw[q];simp[this]
 .rw[p7 (by rw[zj,h.1];lia),p7 ∅]
theorem GZ{I a:ac}{d:Array (Int×ah)}{j:Nat}{t:i5}(L:a≠I)(r:t.fits d.size=ai)(g:dW w=aj)(n:d.size=0)(D:A.handled=ae):Walks P w A I [I,a] [I] 0 (λi v=>(d.toList.map (·.2))[i]?=aa v) (λi h=>h.get? I=aa (gL (dO 0) 0 a d.size j)/\h.get? a=aa (nK d j t)):=by
 have u:d=#[]:=Array.eq_empty_of_size_eq_zero n;have l:∀(s:am) (f:Nat) (i:Nat) (Q:Option (ah×Nat)->am->Prop) (E:ah->am->Prop),s.heap.get? a=aa (nK d j t) ->
   Q ae s->aw (az P w) A.in1 (lV a f i j) Q E s:=λs f i Q E F B=>by
  unfold lV;refine au (p4 F rfl r ?_);unfold wm;refine au (au (p6 (aN ?_)));show aw _ _ (if dW w=ai then _ else _) _ _ s;rw[if_neg (by rw[g];decide)];refine wn (λp=>absurd (show(!t.plain&&decide (d.size > 1))=ai from p) (by rw[n];simp)) (λ_=>?_);refine au ?_;refine eF (Q:=λ_ q=>q=s) (E:=E) ?_ (λ_ q y=>?_) (λ_ _ x=>x)
  .refine wn (λp=>absurd (show(!t.led&&!d.isEmpty)=ai from p) (by rw[u];simp)) (λ_=>aN rfl)
  .subst y;rw[u];have J:∀k:Nat,(#[]:Array (Int×ah))[k]?=ae:=λk=>by simp
   dsimp only;rw[J];exact aN B
 refine⟨λb g=>by simp at g;simp[g],λi h K c k=>⟨k I (by simp) _ c.1,k a (by simp) _ c.2⟩,λi s Q E C c m=>absurd C (Nat.not_lt_zero i),λs Q E c m=>?_,λi s Q E c m=>ub c.1 m⟩;refine nv c.2 r c.1 ?_;show aw _ _ (lV a (0:Int).toNat ((0:Nat):Int).toNat (j:Int).toNat >>= _) _ _ s;simp only[mH,Int.toNat_zero];refine au (l s 0 0 _ _ c.2 ?_);dsimp only;refine au (uR c.1 λn G _=>?_);exact uq (s:={s with heap:=n}) D λH z=>m H s.toks λb o g e=>z b o ((G.2 b (by simpa using g)).trans e)
theorem Jj{a:ac}{g:Array (Int×ah)}{Q:ah->am->Prop}(S:re w s.heap a g)(h:∀x I C n D St,CJ P w s x a I g C n D St->Q (.ref I) x):aw (az P w) A (mD (.ref a)) Q E s:=by
 obtain⟨M,t,l,hsz,p,oj,bY⟩:=S;have Y:s.TypeIs (.ref a) "set":=⟨_,l,rfl⟩
 have jl:=bo l;refine wpAny_pyIter_slot Y F.slot_set_iter (wa F.slot_set_iter Y Fj ?_ (F.args_set_iter_1 _));unfold Builtin.«frozenset.__iter__» Builtin.Frozenset.slot0 slotArgs Builtin.Frozenset.addrOf Builtin.Frozenset.sizeOf;refine au (aN ?_);refine au (au (wpAny_setEntries_of l rfl p (aN ?_)));unfold setDrawn;refine au (au (p4 l rfl p ?_));unfold wm;refine au (au (p6 (aN ?_)));refine aN ?_;have i:∀(first:ah) (u:am) (C:List ac) (n:Nat) (D:Nat->ah->Prop) (St:Nat->aC->Prop),u.heap.get? a=aa {cls:=.type "set",dict:=ae,data:=.set g M t} ->
   CJ P w s {u with heap:=u.heap.push (gL first 0 a g.size M)} a u.heap.objs.size g C n D St ->
   aw (az P w) A.in1 (do
    let e <-setEpoch a
    let f <-newFields "set_iterator" [first,dO 0,Value.ref a,dO (g.size:Nat),dO (e:Nat)]
    ret f) (λi x=>∃v,i=Fin.done (Flow.ret v)/\∃Z r,x.TypeIs v Z/\typeLookup (Value.type Z) (bn "__next__")=pure (aa r)/\Q v x) E u:=λfirst u C n D St ha W=>by
  refine au (wpAny_setEpoch_of ha rfl p ?_);refine au (lS ?_);exact aN ⟨_,rfl,"set_iterator",_,⟨_,cm _ rfl,rfl⟩,Bq.lookup,h _ _ C n D St W⟩
 refine wn (λJ=>?_) (λJ=>?_)
 .have L:(!dW w&&(!t.plain&&decide (g.size > 1)))=ai:=J;refine au (BF g.size (cp g.size) s _ (by simp) λG d H=>?_);refine au (wpAny_newTuple ?_ (hsz:=by rw[cf,H.length_eq,Ex];exact kt (Dy ∅)));refine i _ _ _ _ _ _ (bi _ l) ⟨λO q=>NU (T:=s.heap.objs.size) (cN (by rw[i4];exact jo jl)) (cN (by rw[i4];exact iY _)) p H q,⟨cm _ rfl,?_,?_⟩,?_,?_,?_,rfl,?_,hsz,?_⟩
  .exact bi _ (bi _ l)
  .exact bi _ (cm _ rfl)
  .exact λb o e=>bi _ (bi _ e)
  .rw[i4];exact sI _
  .intro b c;simp only[bV,g_,or_false]at c;rw[i4,i4];rcases c with rfl|rfl|rfl
   .rw[i4];exact iY _
   .exact jo (jo jl)
   .exact jo (iY _)
  .intro N m;have e0:(G.filterMap λj=>(g[j]?).map (·.2))=(G.filterMap λj=>g[j]?).map (·.2):=by rw[List.map_filterMap]
   have y:(G.filterMap λj=>g[j]?).Perm g.toList:=by have:=H.filterMap λj=>g[j]?;rwa[filterMap_getElem?_range]at this
   rw[e0]at m;rw[u_ (by rw[cf,y.length_eq];simp) m];exact y.map _
  .intro b c;simp only[bV,g_,or_false]at c;rcases c with rfl|rfl|rfl
   .rw[i4];exact .inr (sI _)
   .exact .inl rfl
   .exact .inr (bd _)
 .have L:¬(!dW w&&(!t.plain&&decide (g.size > 1)))=ai:=J;refine au (aN ?_);cases c:dW w with
  |true=>
   refine i _ _ _ _ _ _ l ⟨λO q=>KZ (cN jl) p c q,⟨cm _ rfl,bi _ l⟩,λb o e=>bi _ e,bd _,?_,rfl,?_,hsz,λb c=>?_⟩
   .intro b c;simp only[bV,g_,or_false]at c;rw[i4];rcases c with rfl|rfl
    .exact iY _
    .exact jo jl
   .intro N m;have y:=Bz (w.params.setOrder a M) g;rw[u_ (by rw[cf,y.length_eq];simp) m];exact y.map _
   .simp only[bV,g_,or_false]at c;exact c.elim (λz=>.inr (lN z.symm)) .inl
  |false=>
   have K:g.size=1\/g.size=0:=by
    by_cases X:g.size=0
    .exact .inr X
    .rw[c,bY X]at L;simp at L;lia
   rcases K with B|B
   .refine i _ _ _ _ _ _ l ⟨λO q=>Gx (cN jl) p c (by rw[oj,c];rfl) B q,⟨cm _ rfl,bi _ l⟩,λb o e=>bi _ e,bd _,?_,rfl,?_,by decide,λb c=>?_⟩
    .intro b c;simp only[bV,g_,or_false]at c;rw[i4];rcases c with rfl|rfl
     .exact iY _
     .exact jo jl
    .intro N m;rw[u_ (by simp[B]) m]
    .simp only[bV,g_,or_false]at c;exact c.elim (λz=>.inr (lN z.symm)) .inl
   .refine i _ _ _ _ _ _ l ⟨λO q=>GZ (cN jl) p c B q,⟨cm _ rfl,bi _ l⟩,λb o e=>bi _ e,bd _,?_,rfl,?_,by decide,λb c=>?_⟩
    .intro b c;simp only[bV,g_,or_false]at c;rw[i4];rcases c with rfl|rfl
     .exact iY _
     .exact jo jl
    .intro N m;rw[u_ (by simp[B]) m]
    .simp only[bV,g_,or_false]at c;exact c.elim (λz=>.inr (lN z.symm)) .inl
theorem FN{a:ac}{p:Array (Int×ah)}{Q:List ah->am->Prop}(K:A.handled=ae)(S:re w s.heap a p)(h:∀(d:am) (G:List ah),G.Perm (p.toList.map (·.2))->(∀b o,s.heap.get? b=aa o->d.heap.get? b=aa o)->d.gens=s.gens->d.os=s.os->Q G d):aw (az P w) A (collect (.ref a)) Q E s:=by
 obtain⟨L,t,J,O,_⟩:=id S;have jl:=bo J;unfold collect;refine au (wpAny_runValue (mK F.entry_proto_collect ?_));rw[n9 F.plain_proto_collect _];show aw _ A.in1 (newList [] >>= λl=>again (.builtin "list.__iadd__" ⟨[l,.ref a],[]⟩)) _ _ s;refine au (lS ?_);refine aN ⟨n_ F.plain_list_iadd _,mK F.entry_list_iadd ?_⟩;rw[n9 F.plain_list_iadd _];show aw _ A.in1 (Builtin.List.listExtendWith (.ref s.heap.objs.size) (.ref a) (.ref s.heap.objs.size)) _ _ _;unfold Builtin.List.listExtendWith;have m:∀x:am,x.heap.get? a=aa {cls:=.type "set",dict:=ae,data:=.set p L t}->x.TypeIs (.ref a) "set":=λx e=>⟨_,e,rfl⟩
 have g:(s.heap.push {cls:=.type "list",data:=.seq ([]:List ah).toArray}).get? a=aa {cls:=.type "set",dict:=ae,data:=.set p L t}:=bi _ J;refine au (wpAny_typeOf (m _ g) ?_);have Y:Builtin.List.listSameRef (.ref s.heap.objs.size) (.ref a)=aj:=by have:¬(s.heap.objs.size=a):=iB jl;simp[Builtin.List.listSameRef,this]
 rw[if_neg (by rw[Y];decide)];refine au (Jj (S.at λo e=>bi _ e) λv I Z n Pv St W=>?_);have y:=W.old a _ g;refine au (lR ?_);unfold Builtin.List.listLengthHint;refine au (wpAny_specialOf (m _ y) LD ?_)
 wp_delta
 refine au (wpAny_isInstance (T:="set") (b:=ai) (m _ y) (by rw[isSubtype_type];kernel_rfl) ?_);show aw _ A.in1 (typeOf (Value.ref a) >>= _) _ _ _;refine au (wpAny_typeOf (T:="set") (m _ y) ?_);refine aN ?_;rw[if_pos (by decide)];refine au (wpAny_rule ?_);have X:(s.heap.push {cls:=.type "list",data:=.seq ([]:List ah).toArray}).get? s.heap.objs.size=aa {cls:=.type "list",data:=.seq ([]:List ah).toArray}:=cm _ rfl;have j:=W.old _ _ X;unfold Builtin.List.listTouch;refine au (au (listUpdate_at j rfl ?_ (by decide) (by show 1<=bc+1;decide)));have i:=zN j (λa:Array ah=>a.push Value.none);refine listUpdate_at i rfl ?_ (by show 1<=bc;decide) (by show 0<=bc+1;decide);have D:=zN i (λa:Array ah=>a.pop);have M:s.heap.objs.size∉Z:=λz=>by
  rcases W.fps _ z with q|q
  .exact absurd jl (by rw[<-q];exact dZ _)
  .rw[i4]at q;exact absurd (iY _) (Nat.not_lt.mpr q)
 have H:∀b o,b≠s.heap.objs.size->v.heap.get? b=aa o->(((v.heap.update s.heap.objs.size (kC λa=>a.push Value.none)).update s.heap.objs.size (kC λa=>a.pop))).get? b=aa o:=λb o f e=>by rw[Heap.get?_update_ne _ _ _ _ f,Heap.get?_update_ne _ _ _ _ f];exact e
 have u:St 0 (((v.heap.update s.heap.objs.size (kC λa=>a.push Value.none)).update s.heap.objs.size (kC λa=>a.pop))):=(W.wk A.in1 K).frame 0 _ _ W.st λb f o e=>H b o (λz=>M (z ▸ f)) e;refine aN ⟨n_ F.plain_extend_loop _,codeAny_extend_loopS (W.wk A.in1 K).toS (kt (Dy (by have:=W.len;lia))) _ M _ n 0 _ _ _ rfl (g6 _) u D (ItemsOf.nil _) λd c c' B C N=>?_⟩;show aw _ A (load s.heap.objs.size >>= _) _ _ d;refine au (wpAny_load C ?_);refine aN (h d c.toList (W.ord c N) (λb o e=>?_) ?_ ?_)
 .have r:=bo e;refine B.heap b o (λf=>?_) (H b o (cN r) (W.old b o (bi _ e)));rcases bV.mp f with z|z
  .exact absurd r (by rw[z];exact dZ _)
  .rw[g9.mp z]at r;have:=W.new;rw[i4]at this;exact absurd r (Nat.not_lt.mpr (Nat.le_of_succ_le this))
 .rw[B.gens,W.rest]
 .rw[B.os,W.rest]
theorem JJ{a:ac}{ks:List Str}{Q:List ah->am->Prop}(q:A.handled=ae)(S:iV P w s.heap a ks)(h:∀(c:am) (d:List ah) (f:List Str),gc d f->f.Perm ks->d.length<4090->(∀b o,s.heap.get? b=aa o->c.heap.get? b=aa o)->c.gens=s.gens->c.os=s.os->Q d c):aw (az P w) A (collect (.ref a)) Q E s:=by
 obtain⟨u,f,S,r,p⟩:=S.e;have n:u.size<4090:=by obtain⟨_,_,_,z,_⟩:=S;exact z
 refine FN q S λc d pv m l j=>?_;obtain⟨v,i,g⟩:=xC pv r;exact h c d v i (g.trans p) (by have:=pv.length_eq;simp at this;lia) m l j
theorem I_{a:ac}{ks:List Str}{Q:List ah->am->Prop}(f:A.handled=ae)(S:iV P w s.heap a ks)(g:ks≠[])(h:∀(c:am) (d:List ah) (ss:List Str),gc d ss->ss.Perm ks->d.length<4090->(∀b o,s.heap.get? b=aa o->c.heap.get? b=aa o)->c.gens=s.gens->c.os=s.os->Q d c):aw (az P w) A (collect (.ref a)) Q E s:=JJ f S h
end
def eP(a:List Tx):List Tx:=a.foldl (λks x=>if x∈ks then ks else ks++[x]) []
theorem AM(b:List Tx):met (λi=>(b.map tS).getD i jS) b.length=(eP b).map tS:=by
 have d:∀(l:List Tx) (a:List Tx),(l.map tS).foldl iR (a.map tS)=(l.foldl (λks x=>if x∈ks then ks else ks++[x]) a).map tS:=by
  intro l
  induction l with
  |nil=>intro a;rfl
  |cons x r g=>
   intro a;rw[fK,jX,jX];have:iR (a.map tS) (tS x)=(if x∈a then a else a++[x]).map tS:=by
    unfold iR;have f:tS x∈a.map tS↔x∈a:=by rw[b7];exact⟨λ⟨y,j,e⟩=>by rw[<-rf e];exact j,λh=>⟨x,h,rfl⟩⟩
    by_cases h:x∈a
    .rw[if_pos h,if_pos (f.mpr h)]
    .rw[if_neg h,if_neg (λz=>h (f.mp z)),pY];rfl
   rw[this,g]
 have e:(cp b.length).map (λi=>(b.map tS).getD i jS)=b.map tS:=by
  refine sR λi=>?_;rw[jU];by_cases c:i<b.length
  .rw[List.getElem?_range c];simp[c]
  .rw[p7 (by simpa using c),p7 (by simpa using c)];rfl
 unfold met;rw[e];exact d b []
theorem Cu(l c:List Tx):(c.Nodup->(l.foldl (λks x=>if x∈ks then ks else ks++[x]) c).Nodup)/\∀x,x∈l.foldl (λks x=>if x∈ks then ks else ks++[x]) c↔x∈c\/x∈l:=by
 induction l generalizing c with
 |nil=>exact⟨λh=>h,λx=>by simp⟩
 |cons y r g=>
  rw[jX];obtain⟨m,j⟩:=g (if y∈c then c else c++[y]);refine⟨λh=>m ?_,λx=>?_⟩
  .split
   .exact h
   .rename_i d;rw[EA];exact⟨h,by simp,λa i b f=>by simp at f;subst f;exact λe=>d (e ▸ i)⟩
  .rw[j x,bV];split
   .rename_i d;constructor
    .rintro(h|h)
     .exact .inl h
     .exact .inr (.inr h)
    .rintro(h|rfl|h)
     .exact .inl h
     .exact .inl d
     .exact .inr h
   .rw[nW,g9,or_assoc]
theorem Nn(l:List Tx):(eP l).Nodup:=(Cu l []).1 List.nodup_nil
theorem rn(l:List Tx)(x:Tx):x∈eP l↔x∈l:=by rw[eP,(Cu l []).2 x];simp
theorem Ls(l:List Tx):(eP l).length<=l.length:=by
 have b:∀(l a:List Tx),(l.foldl (λks x=>if x∈ks then ks else ks++[x]) a).length<=a.length+l.length:=by
  intro l
  induction l with
  |nil=>intro a;simp
  |cons x r c=>intro a;rw[jX];refine cO (c _) ?_;split <;> simp <;> lia
 simpa[eP]using b l []
section
variable{X:Cx}
def m9(X:Cx)(a:ac)(b:List Tx):HO:=.ext λh=>iV X.prog X.w h a (b.map tS)
theorem Iq(A:X.calm=ai):fh X (.type "set") (λg H Q=>∃(p:ac) (c:List Tx),g=[.ref p]/\b_ X.K H p (dX c)/\(eP c).length<4000/\∀a,H a=ae->Q (.ref a) (upd H a (m9 X a (eP c)))):=by
 intro M s C H g D Q I r h;obtain⟨p,c,rfl,y,f,q⟩:=h;obtain⟨u,rfl,m⟩:=vals1 r;cases m;obtain⟨d,i,x,F⟩:=I.list y;have z:=i.length;rw[yG]at z;refine JK (P:=X.prog) (w:=X.w) (I.ok.hd A) (.inl x.isList) (by simpa using wK i) (by rw[cu,show d.length=c.length by lia,AM,cf];exact f) λB l S k=>?_;have j:iV X.prog X.w B s.heap.objs.size ((eP c).map tS):=by
  have e:d.toArray.size=c.length:=by rw[cu];lia
  rw[e,AM]at S;exact S
 refine⟨.ref s.heap.objs.size,_,I.laid (t':=l) (o:=m9 X s.heap.objs.size (eP c)) (λb o e=>k b o (bo e) e) (bd _) ?_,rfl,q _ I.fresh⟩;obtain⟨K,L,t,E,e,_⟩:=j.ex;exact⟨j,⟨_,e⟩,λJ G v n=>v.at n⟩
theorem FT(A:X.calm=ai):fh X (.builtin "sorted") (λc H Q=>∃(p:ac) (a:List Tx),c=[.ref p]/\H p=aa (m9 X p a)/\a≠[]/\a.length<64/\∀l,H l=ae->Q (.ref l) (upd H l (.lst (dX (bu a))))):=by
 intro J s j H c L Q I r h;obtain⟨p,a,rfl,y,F,w,q⟩:=h;obtain⟨u,rfl,n⟩:=vals1 r;cases n;obtain⟨S,_,_⟩:=(show cZ X.prog X.w H s.heap p (m9 X p a)from I.hok p _ y)
 refine BP (I_ (qF (I.ok.hd A)) S (by cases a with|nil=>exact absurd rfl F|cons=>simp) λm K ss g f P k D C=>?_);obtain⟨d,g',d',t',v⟩:=m;obtain rfl:g'=s.gens:=D;obtain rfl:v=s.os:=C;have i:Inv X J j H {s with heap:=d,drawn:=d',toks:=t'}:=by have:=Inv.call (ch:=[]) I (g':=s.gens) (d':=d') (t':=t') (Un.kept (fs:=eV X.stack) (ex:=[]) k) (I.hok.kept k) I.bare (λb B=>absurd B (by simp));exact this
 refine⟨ss,g,by have N:=g.length;have E:=f.length_eq;rw[cf]at E;lia,λM o O e x z b1 b2 G=>?_⟩;exact⟨.ref _,_,Inv.sorted (s1:={s with heap:=d,drawn:=d',toks:=t'}) (ss:=a.map tS) i rfl w x z b1 (b2.trans f) G,rfl,q _ i.fresh⟩
end
structure cS(K:ar)(mg:Str->Option ah)(x:Str)(st:aU):Prop where
 ex:∃f fd,mg x=aa (.ref f)/\ki K x x st f fd
theorem CZ{H:Hp}{p:ac}{o:HO}(h:H p=ae):Same H (upd H p o):=λb u q=>by rw[bF (ma q h)];exact q
theorem C0{a:Type}{xs:List a}{k:Int}(b:0<=k)(h:k.toNat<xs.length):ez xs k=aa xs[k.toNat]:=by
 have e:((k.toNat:Nat):Int)=k:=∅
 have q:=LM (xs:=xs) (j:=k.toNat) (v:=xs[k.toNat]) (by simp[h]);rwa[e]at q
def Bt(N:List Str)(d a:dm)(x:Str)(c:List Str)(b:List Nat):Bool :=
 decide (a.kind=.function)&&a.names.all (λy=>(decide (y.2≠.cell)||decide (a.names.lookup y.1=aa .cell))&&(decide (y.2≠.local)||decide (a.names.lookup y.1=aa .local))&&(decide (y.2≠.free)||decide (d.names.lookup y.1=aa .cell)||decide (d.names.lookup y.1=aa .free)))
 && (decide (a.names.lookup x=aa .local)||decide (a.names.lookup x=aa .cell))&&decide c.Nodup&&decide (c.head?=aa x)&&decide (c.length=b.length+1)&&(b.zip c.tail).all λp=>(decide (N[p.1]?=aa p.2)&&decide (a.names.lookup p.2=aa .free))||(decide (N.length<=p.1)&&decide (a.names.lookup p.2=aa .local))
theorem f8.of{X:Cx}{a:dm}{x:Str}{N':List Str}{cap:List Nat}(N:List Str)(f:dm)(l:X.N=N)(c:X.env.scope=f)(h:Bt N f a x N' cap=ai):f8 X a x N' cap:=by
 subst l c;simp only[Bt,ef,decide_eq_true_eq,iF,n6]at h;obtain⟨⟨⟨⟨⟨⟨r,d⟩,q⟩,p⟩,o⟩,n⟩,m⟩:=h;refine⟨r,λy b e=>(d y b).1.1.elim (λz=>absurd e z) λz=>z,λy b e=>?_,q,λy b e=>?_,p,o,n,λi j y u s=>?_⟩
 .rcases(d y b).1.2 with z|z
  .exact absurd e z
  .exact z
 .rcases(d y b).2 with(z|z)|z
  .exact absurd e z
  .exact .inl z
  .exact .inr z
 .have g:(j,y)∈cap.zip N'.tail:=by
   refine List.mem_iff_getElem?.mpr ⟨i,?_⟩;rw[List.getElem?_zip_eq_some];refine⟨s,?_⟩;rw[<-List.drop_one,List.getElem?_drop,Nat.add_comm];exact u
  exact m _ g
theorem Nm(a b:Tx):fk (tV a) (tV b)=decide (a=b):=by show(tS a == tS b)=_;rw[mF];simp only[beq_iff_eq,decide_eq_true_eq];exact⟨rf,λh=>by rw[h]⟩
theorem G0(a:List Tx)(x:Tx):((dX a).countP λz=>fk z (tV x))=a.count x:=by unfold dX List.count;rw[List.countP_map];refine List.countP_congr λy _=>?_;simp only[Function.comp_apply,Nm,decide_eq_true_eq,beq_iff_eq]
end L2
namespace Pu
open L2
abbrev St:=L2.St
inductive PV where
 |non|bl (b:Bool)|int (i:Int)|str (x:Tx)|tup (xs:List PV)|lst (xs:List PV)|raw (v:V)|exc (c:ah)
def Ix(a:ac)(c:ah):HO:=.ext λh=>∃o b,h.get? a=aa o/\o.cls=c/\o.data=.fields b/\o.dict=ae
def b0:Nat:=1000000
theorem jA:b0<=bc:=by rw[sE];decide
def dA:HO->Prop
 |.lst _=>True
 |.dK _=>True
 |.dT _=>True
 |.dN _=>True
 |.ins _ _ _=>True
 |.own _=>True
 |_=>False
mutual
def aO(K:ar)(H:Hp)(F:ac->Prop):PV->V->Prop
 |.non,v=>v=.non
 |.bl b,v=>v=.bl b
 |.int i,v=>v=.int i
 |.str x,v=>v=tV x/\x.length<=b0
 |.tup f,v=>∃a d,v=.ref a/\H a=aa (.tup d)/\ba K H F f d
 |.lst f,v=>∃a d,v=.ref a/\Rd H a (.lst d)/\F a/\ba K H F f d
 |.raw u,v=>v=u
 |.exc c,v=>∃a,v=.ref a/\H a=aa (Ix a c)
def ba(K:ar)(H:Hp)(F:ac->Prop):List PV->List V->Prop
 |[],a=>a=[]
 |x::b,a=>∃v r,a=v::r/\aO K H F x v/\ba K H F b r
end
section
variable{K:ar}{H H':Hp}{F b:ac->Prop}
mutual
theorem aO.mono(g:∀a,F a->b a)(f:∀a xs,F a->Rd H a (.lst xs)->Rd H' a (.lst xs))(d:∀a o,H a=aa o->¬dA o->H' a=aa o):∀(x:PV) (v:V),aO K H F x v->aO K H' b x v
 |.non,_,h=>h
 |.bl _,_,h=>h
 |.int _,_,h=>h
 |.str _,_,h=>h
 |.raw _,_,h=>h
 |.exc _,_,⟨a,e,h⟩=>⟨a,e,d a _ h id⟩
 |.tup xs,_,⟨a,c,e,j,i⟩=>⟨a,c,e,d a _ j id,ba.mono g f d xs c i⟩
 |.lst xs,_,⟨a,c,e,j,l,i⟩=>⟨a,c,e,f a c l j,g a l,ba.mono g f d xs c i⟩
theorem ba.mono(g:∀a,F a->b a)(f:∀a xs,F a->Rd H a (.lst xs)->Rd H' a (.lst xs))(d:∀a o,H a=aa o->¬dA o->H' a=aa o):∀(xs:List PV) (c:List V),ba K H F xs c->ba K H' b xs c
 |[],_,h=>h
 |x::xs,_,⟨v,r,e,j,i⟩=>⟨v,r,e,aO.mono g f d x v j,ba.mono g f d xs r i⟩
end
theorem ba.len:∀{xs:List PV}{a:List V},ba K H F xs a->a.length=xs.length
 |[],_,h=>by rw[show _=[] from h];rfl
 |_::_,_,⟨_,_,e,_,b⟩=>by rw[e,e_,e_,ba.len b]
theorem ba.get:∀{c:List PV}{d:List V}{i:Nat}{x:PV},ba K H F c d->c[i]?=aa x->∃v,d[i]?=aa v/\aO K H F x v
 |[],_,_,_,_,e=>by simp at e
 |x::c,_,0,y,⟨v,r,e,h1,_⟩,q=>by simp at q;subst q;subst e;exact⟨v,rfl,h1⟩
 |x::c,_,i+1,y,⟨v,r,e,_,h2⟩,q=>by obtain⟨w,a,b⟩:=ba.get (i:=i) (x:=y) h2 (by simpa using q);subst e;exact⟨w,by simpa using a,b⟩
theorem ba.back:∀{xs:List PV}{c:List V}{i:Nat}{v:V},ba K H F xs c->c[i]?=aa v->∃x,xs[i]?=aa x/\aO K H F x v
 |[],_,_,_,h,e=>by rw[show _=[] from h]at e;simp at e
 |x::xs,_,0,y,⟨v,r,e,h1,_⟩,q=>by subst e;simp at q;subst q;exact⟨x,rfl,h1⟩
 |x::xs,_,i+1,y,⟨v,r,e,_,h2⟩,q=>by subst e;obtain⟨w,a,b⟩:=ba.back (i:=i) (v:=y) h2 (by simpa using q);exact⟨w,by simpa using a,b⟩
theorem ba.app:∀{a b:List PV}{d c:List V},ba K H F a d->ba K H F b c->ba K H F (a++b) (d++c)
 |[],_,_,_,h,g=>by rw[show _=[] from h];exact g
 |x::a,_,_,_,⟨v,r,e,i,f⟩,g=>by subst e;exact⟨v,_,rfl,i,ba.app f g⟩
theorem ba.one{x:PV}{v:V}(h:aO K H F x v):ba K H F [x] [v]:=⟨v,[],rfl,h,rfl⟩
theorem ba.drop:∀(n:Nat) {xs:List PV}{a:List V},ba K H F xs a->ba K H F (xs.drop n) (a.drop n)
 |0,_,_,h=>h
 |_+1,[],_,h=>by rw[show _=[] from h];rfl
 |n+1,_::_,_,⟨_,_,e,_,h2⟩=>by subst e;exact ba.drop n h2
theorem ba.take:∀(n:Nat) {a:List PV}{b:List V},ba K H F a b->ba K H F (a.take n) (b.take n)
 |0,_,_,_=>by rw[List.take_zero,List.take_zero];rfl
 |_+1,[],_,h=>by rw[show _=[] from h];rfl
 |n+1,_::_,_,⟨v,_,e,h1,h2⟩=>by subst e;exact⟨v,_,rfl,h1,ba.take n h2⟩
end
structure a5(O O' F F':ac->Prop)(H H':Hp):Prop where
 fro:∀a,F a->F' a
 keep:∀b o,H b=aa o->¬O b->H' b=aa o
 there:∀b o,H b=aa o->∃o',H' b=aa o'
 fnew:∀a,F' a->F a\/H a=ae\/O a
 onew:∀a,O' a->O a\/H a=ae
theorem a5.refl(O F:ac->Prop)(H:Hp):a5 O O F F H H:=⟨λ_ h=>h,λ_ _ h _=>h,λ_ o h=>⟨o,h⟩,λ_ h=>.inl h,λ_ h=>.inl h⟩
theorem a5.trans{O i f F m l:ac->Prop}{H d j:Hp}(g:a5 O i F m H d)(k:a5 i f m l d j):a5 O f F l H j where
 fro:=λa h=>k.fro a (g.fro a h)
 keep:=λb o h n=>k.keep b o (g.keep b o h n) λz=>(g.onew b z).elim n λq=>by rw[q]at h;cases h
 there:=λb o h=>let ⟨o',c⟩:=g.there b o h;k.there b o' c
 fnew:=λa h=>by
  have back:d a=ae->H a=ae\/O a:=λz=>by
   cases q:H a with
   |none=>exact .inl rfl
   |some o=>obtain⟨o',c⟩:=g.there a o q;rw[z]at c;cases c
  rcases k.fnew a h with z|z|z
  .exact g.fnew a z
  .exact .inr (back z)
  .exact .inr ((g.onew a z).symm)
 onew:=λa h=>by
  rcases k.onew a h with z|z
  .exact g.onew a z
  .cases q:H a with
   |none=>exact .inr rfl
   |some o=>obtain⟨o',c⟩:=g.there a o q;rw[z]at c;cases c
def Fit(O F:ac->Prop)(H:Hp):Prop:=∀b,O b->¬F b/\∃o,H b=aa o/\dA o
section
variable{K:ar}{O c F b:ac->Prop}{H H':Hp}
theorem a5.imm(g:a5 O c F b H H')(f:Fit O F H){a:ac}{o:HO}(h:H a=aa o)(n:¬dA o):H' a=aa o :=
 g.keep _ _ h λz=>by
  obtain⟨_,j,d,i⟩:=f a z;rw[h]at d;cases d;exact n i
theorem a5.lst(g:a5 O c F b H H')(f:Fit O F H){a:ac}{xs:List V}(d:F a)(h:Rd H a (.lst xs)):Rd H' a (.lst xs):=by
 have no:¬O a:=λz=>(f a z).1 d;rcases h with h|⟨o,h⟩
 .exact .inl (g.keep _ _ h no)
 .exact .inr ⟨o,g.keep _ _ h no⟩
theorem aO.grow(g:a5 O c F b H H')(f:Fit O F H){x:PV}{v:V}(h:aO K H F x v):aO K H' b x v:=aO.mono g.fro (λ_ _ a q=>g.lst f a q) (λ_ _ q n=>g.imm f q n) x v h
theorem ba.grow(g:a5 O c F b H H')(f:Fit O F H){x:List PV}{v:List V}(h:ba K H F x v):ba K H' b x v:=ba.mono g.fro (λ_ _ a q=>g.lst f a q) (λ_ _ q n=>g.imm f q n) x v h
end
theorem _root_.L2.Same.rd{H b:Hp}{a:ac}{u:HO}(e:Same H b)(h:Rd H a u):Rd b a u:=h.elim (λz=>.inl (e _ _ z)) λ⟨o,z⟩=>.inr ⟨o,e _ _ z⟩
structure Al(F F':ac->Prop)(H H':Hp):Prop where
 fro:∀a,F a->F' a
 same:Same H H'
 fnew:∀a,F' a->F a\/(H a=ae/\∃o,H' a=aa o)
theorem Al.refl(F:ac->Prop)(H:Hp):Al F F H H:=⟨λ_ h=>h,Same.refl H,λ_ h=>.inl h⟩
theorem Al.grow{F d O:ac->Prop}{H c:Hp}(a:Al F d H c):a5 O O F d H c :=⟨a.fro,λb o h _=>a.same b o h,λb o h=>⟨o,a.same b o h⟩,λb h=>(a.fnew b h).imp id λz=>.inl z.1,λ_ h=>.inl h⟩
theorem Al.rep{K:ar}{F c:ac->Prop}{H b:Hp}(a:Al F c H b){x:PV}{v:V}(h:aO K H F x v):aO K b c x v:=aO.mono a.fro (λ_ _ _ q=>a.same.rd q) (λ_ _ q _=>a.same _ _ q) x v h
theorem Al.reps{K:ar}{F c:ac->Prop}{H b:Hp}(a:Al F c H b){x:List PV}{v:List V}(h:ba K H F x v):ba K b c x v:=ba.mono a.fro (λ_ _ _ q=>a.same.rd q) (λ_ _ q _=>a.same _ _ q) x v h
theorem Al.trans{F i g:ac->Prop}{H f d:Hp}(a:Al F i H f)(b:Al i g f d):Al F g H d :=
 ⟨λc h=>b.fro c (a.fro c h),a.same.trans b.same,λc h=>by
  rcases b.fnew c h with z|⟨z,w⟩
  .rcases a.fnew c z with y|⟨y,o,q⟩
   .exact .inl y
   .exact .inr ⟨y,o,b.same _ _ q⟩
  .exact .inr ⟨a.same.free z,w⟩⟩
theorem Al.new{F:ac->Prop}{H:Hp}{l:ac}{o:HO}(h:H l=ae):Al F (λa=>F a\/a=l) H (upd H l o) :=⟨λ_ h=>.inl h,CZ h,λa z=>z.imp id λe=>by subst e;exact⟨h,o,cg⟩⟩
theorem Al.new0{F:ac->Prop}{H:Hp}{l:ac}{o:HO}(h:H l=ae):Al F F H (upd H l o):=⟨λ_ h=>h,CZ h,λa z=>.inl z⟩
inductive PO where
 |lst (xs:List PV)|dK (kvs:List (aM×PV))|lls (fX:List (List PV))|ins (C:ac) (fs:List (Str×PV))|dT (kvs:List (List aM×PV))|dN (kvs:List ((Tx×List Tx)×PV))|inl (C:ac) (fs:List (Str×PV)) (y:Str) (xs:List PV)|dL (kvs:List (aM×List PV))
def gQ:PO->Bool
 |.lls _=>aj
 |.dL _=>aj
 |.inl ..=>aj
 |_=>ai
inductive Slot where
 |none|val (v:PV)|own (o:PO)
abbrev ag:=List Slot
def gz(K:ar)(H:Hp)(F:ac->Prop)(a:List (aM×PV))(b:List (aM×V)):Prop:=jO (λ(p:aM×PV) (q:aM×V)=>p.1=q.1/\aO K H F p.2 q.2) a b
def gs(K:ar)(H:Hp)(F:ac->Prop)(fs:List (Str×PV))(a:List (Str×V)):Prop:=jO (λ(p:Str×PV) (q:Str×V)=>p.1=q.1/\aO K H F p.2 q.2) fs a
def ix(K:ar)(H:Hp)(F:ac->Prop)(a:List (List aM×PV))(b:List (List aM×V)):Prop:=jO (λ(p:List aM×PV) (q:List aM×V)=>p.1=q.1/\aO K H F p.2 q.2) a b
def nS(k:Tx×List Tx):Str×List Str:=(tS k.1,k.2.map tS)
def vh(K:ar)(H:Hp)(F:ac->Prop)(a:List ((Tx×List Tx)×PV))(b:List ((Str×List Str)×V)):Prop:=jO (λ(p:(Tx×List Tx)×PV) (q:(Str×List Str)×V)=>nS p.1=q.1/\aO K H F p.2 q.2) a b
def sr(K:ar)(H:Hp)(F:ac->Prop)(d:List (List PV))(f:List ac):Prop:=jO (λ(c:List PV) (b:ac)=>∃a,H b=aa (.lst a)/\ba K H F c a) d f
def dG(K:ar)(H:Hp)(F:ac->Prop)(l:PO)(a:ac)(S:ac->Prop):Prop :=
 match l with
 |.lst i=>(∃h,H a=aa (.lst h)/\ba K H F i h)/\∀b,S b↔b=a
 |.dK d=>(∃f,H a=aa (.dK f)/\gz K H F d f)/\∀b,S b↔b=a
 |.lls m=>∃g,H a=aa (.lst (g.map .ref))/\sr K H F m g/\g.Nodup/\a∉g/\∀b,S b↔b=a\/b∈g
 |.dL d=>∃g:List ac,H a=aa (.dK ((d.map (·.1)).zip (g.map V.ref)))/\sr K H F (d.map (·.2)) g/\g.Nodup/\a∉g/\∀b,S b↔b=a\/b∈g
 |.ins C fs=>(∃j f,H a=aa (.ins C j f)/\gs K H F fs f)/\∀b,S b↔b=a
 |.dT d=>(∃f,H a=aa (.dT f)/\ix K H F d f)/\∀b,S b↔b=a
 |.dN d=>(∃f,H a=aa (.dN f)/\vh K H F d f)/\∀b,S b↔b=a
 |.inl C fs y i=>∃j f b h,H a=aa (.ins C j (f++[(y,.ref b)]))/\gs K H F fs f/\fs.lookup y=ae/\H b=aa (.lst h)/\ba K H F i h/\a≠b/\∀c,S c↔c=a\/c=b
structure aH(K:ar)(F:ac->Prop)(S:Nat->ac->Prop)(ε:ag)(σ:St)(H:Hp):Prop where
 len:ε.length=σ.length
 ex:∀a,F a->∃o,H a=aa o
 val:∀(i:Nat) (pv:PV),ε[i]?=aa (.val pv)->∃v,σ[i]?=aa (aa v)/\aO K H F pv v
 own:∀(i:Nat) (po:PO),ε[i]?=aa (.own po)->∃a,σ[i]?=aa (aa (.ref a))/\dG K H F po a (S i)
 foot:∀(i:Nat) (b:ac),S i b->(∃po,ε[i]?=aa (.own po))/\¬F b/\∃o,H b=aa o/\dA o
 dist:∀(i j:Nat) (b:ac),S i b->S j b->i=j
def U(S:Nat->ac->Prop)(b:ac):Prop:=∃i,S i b
section
variable{K:ar}{F d:ac->Prop}{S:Nat->ac->Prop}{f:ag}{σ:St}{H H':Hp}
theorem aH.fit(r:aH K F S f σ H):Fit (U S) F H:=λb ⟨i,h⟩=>(r.foot i b h).2
theorem gz.mono{a:List (aM×PV)}{b:List (aM×V)}(g:∀x v,aO K H F x v->aO K H' d x v)(h:gz K H F a b):gz K H' d a b:=by
 unfold gz at h ⊢
 induction h with
 |nil=>exact .nil
 |cons r _ c=>exact .cons ⟨r.1,g _ _ r.2⟩ c
theorem gs.mono{fs:List (Str×PV)}{a:List (Str×V)}(c:∀x v,aO K H F x v->aO K H' d x v)(h:gs K H F fs a):gs K H' d fs a:=by
 unfold gs at h ⊢
 induction h with
 |nil=>exact .nil
 |cons r _ b=>exact .cons ⟨r.1,c _ _ r.2⟩ b
theorem ix.mono{a:List (List aM×PV)}{b:List (List aM×V)}(g:∀x v,aO K H F x v->aO K H' d x v)(h:ix K H F a b):ix K H' d a b:=by
 unfold ix at h ⊢
 induction h with
 |nil=>exact .nil
 |cons r _ c=>exact .cons ⟨r.1,g _ _ r.2⟩ c
theorem vh.mono{a:List ((Tx×List Tx)×PV)}{b:List ((Str×List Str)×V)}(g:∀x v,aO K H F x v->aO K H' d x v)(h:vh K H F a b):vh K H' d a b:=by
 unfold vh at h ⊢
 induction h with
 |nil=>exact .nil
 |cons r _ c=>exact .cons ⟨r.1,g _ _ r.2⟩ c
theorem sr.mono{g:List (List PV)}{a:List ac}(j:∀x v,ba K H F x v->ba K H' d x v)(c:∀b o,b∈a->H b=aa o->H' b=aa o)(h:sr K H F g a):sr K H' d g a:=by
 unfold sr at h ⊢
 induction h with
 |nil=>exact .nil
 |cons r _ l=>obtain⟨i,p,n⟩:=r;exact .cons ⟨i,c _ _ (by simp) p,j _ _ n⟩ (l λb o m=>c b o (by simp[m]))
theorem dG.mono{po:PO}{a:ac}{Sa:ac->Prop}(j:∀x v,aO K H F x v->aO K H' d x v)(l:∀x v,ba K H F x v->ba K H' d x v)(c:∀b o,Sa b->H b=aa o->H' b=aa o)(h:dG K H F po a Sa):dG K H' d po a Sa:=by
 cases po with
 |lst xs=>obtain⟨⟨m,e,q⟩,w⟩:=h;exact⟨⟨m,c a _ ((w a).mpr rfl) e,l _ _ q⟩,w⟩
 |dK i=>obtain⟨⟨g,e,q⟩,w⟩:=h;exact⟨⟨g,c a _ ((w a).mpr rfl) e,q.mono j⟩,w⟩
 |lls E=>obtain⟨z,e,q,r,p,w⟩:=h;exact⟨z,c a _ ((w a).mpr (.inl rfl)) e,q.mono l λb o s=>c b o ((w b).mpr (.inr s)),r,p,w⟩
 |dL i=>obtain⟨z,e,q,r,p,w⟩:=h;exact⟨z,c a _ ((w a).mpr (.inl rfl)) e,q.mono l λb o s=>c b o ((w b).mpr (.inr s)),r,p,w⟩
 |ins C fs=>obtain⟨⟨u,g,e,q⟩,w⟩:=h;exact⟨⟨u,g,c a _ ((w a).mpr rfl) e,q.mono j⟩,w⟩
 |dT i=>obtain⟨⟨g,e,q⟩,w⟩:=h;exact⟨⟨g,c a _ ((w a).mpr rfl) e,q.mono j⟩,w⟩
 |dN i=>obtain⟨⟨g,e,q⟩,w⟩:=h;exact⟨⟨g,c a _ ((w a).mpr rfl) e,q.mono j⟩,w⟩
 |inl C fs y xs=>obtain⟨u,g,b,m,e,q,n,D,A,B,w⟩:=h;exact⟨u,g,b,m,c a _ ((w a).mpr (.inl rfl)) e,q.mono j,n,c b _ ((w b).mpr (.inr rfl)) D,l _ _ A,B,w⟩
theorem aH.al(r:aH K F S f σ H)(a:Al F d H H'):aH K d S f σ H' where
 len:=r.len
 ex:=λb h=>(a.fnew b h).elim (λz=>let ⟨o,q⟩:=r.ex b z;⟨o,a.same _ _ q⟩) λz=>z.2
 val:=λi pv e=>let ⟨v,j,g⟩:=r.val i pv e;⟨v,j,a.rep g⟩
 own:=λi m e=>let ⟨b,j,g⟩:=r.own i m e;⟨b,j,g.mono (λ_ _ q=>a.rep q) (λ_ _ q=>a.reps q) λc o _ q=>a.same _ _ q⟩
 foot:=λi b h=>by
  obtain⟨j,g,o,l,n⟩:=r.foot i b h;refine⟨j,λz=>?_,o,a.same _ _ l,n⟩;rcases a.fnew b z with y|⟨y,_⟩
  .exact g y
  .rw[l]at y;cases y
 dist:=r.dist
end
inductive R(α:Type) where
 |ok (a:α) (ε:ag)|er (c:ah) (ε:ag)|no
def R.bind{d b:Type}(r:R d)(k:d->ag->R b):R b:=match r with
 |.ok a ε=>k a ε
 |.er c ε=>.er c ε
 |.no=>.no
def aG{b:Type}(o:Option b)(ε:ag):R b:=match o with
 |some a=>.ok a ε
 |none=>.no
@[simp] theorem R.bind_ok{b c:Type}(a:b)(ε:ag)(k:b->ag->R c):(R.ok a ε).bind k=k a ε:=rfl
@[simp] theorem R.bind_er{b d:Type}(c:ah)(a:ag)(k:b->ag->R d):(R.er c a:R b).bind k=.er c a:=rfl
@[simp] theorem R.bind_no{a b:Type}(k:a->ag->R b):(R.no:R a).bind k=.no:=rfl
@[simp] theorem cW{c:Type}(a:c)(b:ag):aG (aa a) b=.ok a b:=rfl
@[simp] theorem OC{b:Type}(a:ag):aG (ae:Option b) a=.no:=rfl
def Ok(K:ar)(E:XK)(h:St)(F:ac->Prop)(S:Nat->ac->Prop)(H:Hp){i:Type}(r:R i)(C:i->ag->(ac->Prop)->(Nat->ac->Prop)->Hp->Prop):Prop:=match r with
 |.ok a b=>∀g f d,aH K g f b h d->a5 (U S) (U f) F g H d->C a b g f d
 |.er c b=>∀x g f d,aH K g f b h d->a5 (U S) (U f) F g H d->E c x d
 |.no=>False
section
variable{K:ar}{E:XK}{b:St}{F:ac->Prop}{S:Nat->ac->Prop}{H:Hp}{d i:Type}{C C':d->ag->(ac->Prop)->(Nat->ac->Prop)->Hp->Prop}{D:i->ag->(ac->Prop)->(Nat->ac->Prop)->Hp->Prop}
theorem Ok.imp{r:R d}(h:Ok K E b F S H r C)(f:∀a j n l m,aH K n l j b m->a5 (U S) (U l) F n H m->C a j n l m->C' a j n l m):Ok K E b F S H r C':=by
 cases r with
 |ok a j=>exact λn l m r g=>f a j n l m r g (h n l m r g)
 |er c j=>exact h
 |no=>exact h
theorem Ok.from{r:R i}{q:ac->Prop}{o:Nat->ac->Prop}{p:Hp}(h:Ok K E b F S H r D)(g:a5 (U S) (U o) F q H p):Ok K E b q o p r D:=by
 cases r with
 |ok a f=>exact λn l m j g'=>h n l m j (g.trans g')
 |er c f=>exact λx n l m j g'=>h x n l m j (g.trans g')
 |no=>exact h
theorem Ok.bind{r:R d}{k:d->ag->R i}(h:Ok K E b F S H (r.bind k) D):Ok K E b F S H r (λa ε1 m j l=>Ok K E b m j l (k a ε1) D):=by
 cases r with
 |ok a f=>exact λp n o r g=>Ok.from h g
 |er c f=>exact h
 |no=>exact h
end
structure Bx(p:Prop):Prop where
 run:p
def fY(X:Cx)(e:ay):TE:=λa H Q=>Bx (∀b s,Inv X b a H s->aw (az X.prog X.w) X.A (aK e X.env) (EP X b a Q) X.xe s)
def wV(X:Cx)(e:ay):TT:=λa H Q=>Bx (∀b s,Inv X b a H s->aw (az X.prog X.w) X.A (lK e X.env (aK e X.env)) (TP X b a Q) X.xe s)
def wpS(X:Cx)(c:aU):TS:=λD b H=>Bx (∀a s,Inv X a b H s->aw (az X.prog X.w) X.A (exec c X.env) (SP X a D) X.xe s)
def ny(X:Cx)(b:List aU):TS:=λD σ H=>Bx (∀a s,Inv X a σ H s->aw (az X.prog X.w) X.A (execs b X.env) (SP X a D) X.xe s)
section
variable{X:Cx}{e:ay}{b:aU}{a:List aU}
theorem bx:PE X e (fY X e):=λc s _ _ _ I h=>h.run c s I
theorem nA:PT X e (wV X e):=λc s _ _ _ I h=>h.run c s I
theorem oP:PS X b (wpS X b):=λc s _ _ _ I h=>h.run c s I
theorem lA:jL X a (ny X a):=λc s _ _ _ I h=>h.run c s I
theorem bW{t:TE}(h:PE X e t){σ:St}{H:Hp}{Q:VK}(q:t σ H Q):fY X e σ H Q:=⟨λc s I=>h c s σ H Q I q⟩
theorem si{t:TT}(h:PT X e t){c:St}{H:Hp}{Q:Bool->Hp->Prop}(q:t c H Q):wV X e c H Q:=⟨λd s I=>h d s c H Q I q⟩
theorem eD{t:TS}(h:PS X b t){σ:St}{H:Hp}{D:jC}(q:t D σ H):wpS X b D σ H:=⟨λc s I=>h c s σ H D I q⟩
theorem rT{t:TS}(h:jL X a t){c:St}{H:Hp}{D:jC}(q:t D c H):ny X a D c H:=⟨λd s I=>h d s c H D I q⟩
end
def DE(X:Cx)(E:XK)(e:ay)(d:ag->R PV):Prop :=
 ∀F S b a H Q,aH X.K F S b a H->Ok X.K E a F S H (d b) (λpv _ f _ c=>∀v,aO X.K c f pv v->Q v c)->fY X e a H Q
def DN(X:Cx)(E:XK)(e:ay)(d:ag->R PO):Prop :=
 ∀F S g c H Q,aH X.K F S g c H->Ok X.K E c F S H (d g) (λj _ i l f=>∀a h,dG X.K f i j a h->(∀b,h b->H b=ae/\¬i b/\¬U l b/\∃o,f b=aa o/\dA o)->Q (.ref a) f)->fY X e c H Q
def DT(X:Cx)(E:XK)(e:ay)(d:ag->R Bool):Prop :=
 ∀F S ε a H Q,aH X.K F S ε a H->Ok X.K E a F S H (d ε) (λb _ _ _ c=>Q b c)->wV X e a H Q
end Pu
namespace Pu
open L2
section
variable{X:Cx}{E:XK}{a b c:ay}{m db A:ag->R PV}{pos:Pos}
def dC(pv:PV):ag->R PV:=λε=>.ok pv ε
theorem a4{i j pos}:DE X E (.Constant (.int i) j pos) (dC (.int i)):=λF S f d H Q r h=>bW Nh (h F S H r (a5.refl ..) _ rfl)
theorem rE{i j pos}:DE X E (.Constant (.bool i) j pos) (dC (.bl i)):=λF S f d H Q r h=>bW KH (h F S H r (a5.refl ..) _ rfl)
theorem Ao{j pos}:DE X E (.Constant .none j pos) (dC .non):=λF S f d H Q r h=>bW K1 (h F S H r (a5.refl ..) _ rfl)
theorem iU(l:Tx){x:Str}{j pos}(d:x=tS l:=by decide +kernel)(f:l.length<=b0:=by decide):DE X E (.Constant (.str x) j pos) (dC (.str l)):=λF S i g H Q r h=>bW JI (h F S H r (a5.refl ..) _ (by rw[d];exact⟨rfl,f⟩))
def dV(i:Nat):ag->R PV:=λε=>match ε[i]? with
 |some (.val pv)=>.ok pv ε
 |_=>.no
theorem ao(i:Nat){x:Str}{pos:Pos}(g:X.N[i]?=aa x:=by rfl)(d:dR X.env.scope x:=by eq_refl)(f:(x==("__debug__":Str))=aj:=by decide)(n:(x==("__classdict__":Str))=aj:=by decide):DE X E (.Name x pos) (dV i):=λF S q o H Q r h=>by
 unfold dV at h;split at h
 .rename_i p e;obtain⟨v,l,j⟩:=r.val i p e;exact bW (eC g d f n) ⟨v,l,h F S H r (a5.refl ..) v j⟩
 .exact h.elim
theorem yN{x:Str}{i:Int}{pos:Pos}(h:∃t,X.mg x=aa (.int i t))(d:Gl X x:=by rfl)(f:(x==("__debug__":Str))=aj:=by decide):DE X E (.Name x pos) (dC (.int i)):=λF S j g H Q r q=>by obtain⟨t,e⟩:=h;exact bW (CS (v:=.int i) d e ⟨t,rfl⟩ f) (q F S H r (a5.refl ..) _ rfl)
theorem vJ{x:Str}{l:Tx}{pos:Pos}(h:∃t,X.mg x=aa (.str (tS l) t))(f:Gl X x:=by rfl)(d:l.length<=b0:=by decide)(g:(x==("__debug__":Str))=aj:=by decide):DE X E (.Name x pos) (dC (.str l)):=λF S j i H Q r q=>by obtain⟨t,e⟩:=h;exact bW (CS (v:=tV l) f e ⟨t,rfl⟩ g) (q F S H r (a5.refl ..) _ ⟨rfl,d⟩)
def aH.frz{K:ar}{F:ac->Prop}{S:Nat->ac->Prop}{n:ag}{s:St}{H:Hp}{i:Nat}{p:List PV}(r:aH K F S n s H)(e:n[i]?=aa (.own (.lst p))):∃a y J,aH K y J (n.set i (.val (.lst p))) s H/\a5 (U S) (U J) F y H H/\s[i]?=aa (aa (.ref a))/\aO K H y (.lst p) (.ref a):=by
 obtain⟨a,I,⟨L,D,M⟩,G⟩:=r.own i _ e;have C:i<n.length:=(cq.mp e).1;have sub:∀b,F b->F b\/b=a:=λb h=>.inl h;have mono:∀x v,aO K H F x v->aO K H (λb=>F b\/b=a) x v:=aO.mono sub (λ_ _ _ q=>q) (λ_ _ q _=>q);have d:∀x v,ba K H F x v->ba K H (λb=>F b\/b=a) x v:=ba.mono sub (λ_ _ _ q=>q) (λ_ _ q _=>q);have B:aO K H (λb=>F b\/b=a) (.lst p) (.ref a):=⟨a,L,rfl,.inl D,.inr rfl,d _ _ M⟩
 refine⟨a,λb=>F b\/b=a,λj b=>S j b/\j≠i,⟨by rw[iG];exact r.len,λb h=>?_,λj pv q=>?_,λj w q=>?_,λj b h=>?_,λj k b O N=>r.dist j k b O.1 N.1⟩,?_,I,B⟩
 .rcases h with h|rfl
  .exact r.ex b h
  .exact⟨_,D⟩
 .by_cases f:i=j
  .subst f;rw[dw C]at q;cases q;exact⟨_,I,B⟩
  .rw[cP f]at q;obtain⟨v,l,g⟩:=r.val j pv q;exact⟨v,l,mono _ _ g⟩
 .by_cases f:i=j
  .subst f;rw[dw C]at q;cases q
  .rw[cP f]at q;obtain⟨v,l,g⟩:=r.own j w q;refine⟨v,l,?_⟩;have u:=g.mono (H':=H) mono d λ_ _ _ z=>z;have P:(λb=>S j b/\j≠i)=S j:=by funext b;simp[eE f]
   rw[P];exact u
 .obtain⟨⟨w,l⟩,g,u⟩:=r.foot j b h.1;refine⟨⟨w,by rw[cP (eE h.2)];exact l⟩,λz=>?_,u⟩;rcases z with z|rfl
  .exact g z
  .exact h.2 (r.dist j i b h.1 ((G b).mpr rfl))
 .refine⟨λ_ h=>.inl h,λb o h _=>h,λb o h=>⟨o,h⟩,λb h=>?_,λb ⟨j,h⟩=>.inl ⟨j,h.1⟩⟩;rcases h with h|rfl
  .exact .inl h
  .exact .inr (.inr ⟨i,(G b).mpr rfl⟩)
def dM(i:Nat):ag->R PV:=λε=>match ε[i]? with
 |some (.own (.lst d))=>.ok (.lst d) (ε.set i (.val (.lst d)))
 |_=>.no
theorem Nw(i:Nat){x:Str}{pos:Pos}(l:X.N[i]?=aa x:=by rfl)(f:dR X.env.scope x:=by eq_refl)(j:(x==("__debug__":Str))=aj:=by decide)(q:(x==("__classdict__":Str))=aj:=by decide):DE X E (.Name x pos) (dM i):=λF S w v H Q r h=>by
 unfold dM at h;split at h
 .rename_i p e;obtain⟨a,u,s,d,g,o,n⟩:=r.frz e;exact bW (eC l f j q) ⟨_,o,h u s H d g _ n⟩
 .exact h.elim
def P2(K:ar)(r:R2)(f:PV->PV->Option PV):Prop:=∀(F:ac->Prop) (H:Hp) (x y:PV) (v u:V) (Q:VK) (pv:PV),aO K H F x v->aO K H F y u->f x y=aa pv->(∀w g d,Al F g H d->aO K d g pv w->Q w d)->r v u H Q
def d2(f:PV->PV->Option PV)(m db:ag->R PV):ag->R PV:=λε=>(m ε).bind λx ε1=>(db ε1).bind λy d=>aG (f x y) d
theorem vI{r:R2}{f:PV->PV->Option PV}(I:P2 X.K r f)(K:DE X E a m)(J:DE X E b db){F:ac->Prop}{S:Nat->ac->Prop}{l:ag}{d:St}{H:Hp}{Q:VK}(D:aH X.K F S l d H)(h:Ok X.K E d F S H (d2 f m db l) (λpv _ q _ i=>∀v,aO X.K i q pv v->Q v i)):fY X a d H λx p=>fY X b d p λy o=>r x y o Q:=by
 refine K F S l d H _ D ((Ok.bind h).imp λx j T O p s W L v B=>?_);refine J T O j d p _ s ((Ok.bind L).imp λy z P N o G M g u C=>?_);cases e:f x y with
 |none=>rw[e]at g;exact g.elim
 |some pv=>rw[e]at g;exact I P o x y v u Q pv (B.grow M s.fit) C e λw q i al n=>g q N i (G.al al) al.grow w n
theorem cA{d:Operator}{r:R2}{f:PV->PV->Option PV}(j:bT X (iX d) r)(i:P2 X.K r f)(n:DE X E a m)(l:DE X E b db):DE X E (.BinOp a d b pos) (d2 f m db):=λF S p o H Q g h=>bW (E8 j bx bx) (vI i n l g h)
theorem r9{d:CmpOp}{r:R2}{f:PV->PV->Option PV}(j:bT X (dJ d) r)(i:P2 X.K r f)(o:DE X E a m)(n:DE X E b db)(l:nX d b=aj):DE X E (.Compare a [d] [b] pos) (d2 f m db):=λF S q p H Q g h=>bW (LS j bx bx l) (vI i o n g h)
def ik:PV->Option Bool
 |.bl b=>aa b
 |_=>ae
def dB(d:ag->R PV):ag->R Bool:=λε=>(d ε).bind λx ε1=>aG (ik x) ε1
theorem DJ{K:ar}{H:Hp}{F:ac->Prop}{x:PV}{v:V}{k:Bool}(h:aO K H F x v)(e:ik x=aa k):v=.bl k:=by
 cases x <;> simp[ik]at e;subst e;exact h
theorem qI{F:ac->Prop}{S:Nat->ac->Prop}{j:ag}{i:St}{H:Hp}{Q:Bool->Hp->Prop}{d:ag->R PV}(h:Ok X.K E i F S H (dB d j) (λk _ _ _ g=>Q k g)):Ok X.K E i F S H (d j) (λpv _ s _ g=>∀v,aO X.K g s pv v->∃k,v=.bl k/\Q k g):=by
 refine(Ok.bind h).imp λx l r p q o u f v n=>?_;cases e:ik x with
 |none=>rw[e]at f;exact f.elim
 |some k=>rw[e]at f;exact⟨k,DJ n e,f r p q o (a5.refl ..)⟩
theorem eU{d:CmpOp}{r:R2}{f:PV->PV->Option PV}(j:bT X (dJ d) r)(i:P2 X.K r f)(o:DE X E a m)(n:DE X E b db)(l:nX d b=aj):DT X E (.Compare a [d] [b] pos) (dB (d2 f m db)):=λF S s q H Q g h=>si (Io j bx bx l) (vI (Q:=λx p=>∃k,x=.bl k/\Q k p) i o n g (qI h))
theorem mB{e:ay}{d:ag->R PV}(n:DE X E e d)(l:∀f,lK e X.env f=(do let v <-f;standAt e.pos;pL [v] (truthy v)):=by intro _;rfl):DT X E e (dB d):=λF S i g H Q j h=>si (L3 bx l) (n F S i g H _ j (qI h))
def lg(f g:PV->PV->Option PV)(m db A:ag->R PV):ag->R PV:=λj=>(m j).bind λx i=>(db i).bind λy d=>(aG ((f x y).bind ik) d).bind λk d=>
 match k with
 |true=>(A d).bind λz h=>aG (g y z) h
 |false=>.ok (.bl aj) d
theorem Du{r O:R2}{f g:PV->PV->Option PV}(hp:P2 X.K r f)(j4:P2 X.K O g)(ha:DE X E a m)(hb:DE X E b db)(hc:DE X E c A){F:ac->Prop}{S:Nat->ac->Prop}{B:ag}{j:St}{H:Hp}{Q:VK}(rl:aH X.K F S B j H)(h:Ok X.K E j F S H (lg f g m db A B) (λpv _ l _ i=>∀v,aO X.K i l pv v->Q v i)):xm r O (fY X a) (fY X b) (fY X c) j H Q:=by
 refine ha F S B j H _ rl ((Ok.bind h).imp λx s F1 S1 H1 N g1 h1 v rv=>?_);refine hb F1 S1 s j H1 _ N ((Ok.bind h1).imp λy n T L P r2 g2 d u M=>?_);cases e:f x y with
 |none=>rw[e]at d;exact d.elim
 |some pv=>
  rw[e]at d;refine hp T P x y v u _ pv (rv.grow g2 N.fit) M e λw l i al D=>?_;cases K:ik pv with
  |none=>rw[hV,K]at d;exact d.elim
  |some k=>
   rw[hV,K]at d;refine⟨k,DJ D K,?_⟩;have I:=r2.al al;cases k with
   |false=>exact nj (Ok.from d al.grow l L i I (a5.refl ..) _ rfl)
   |true=>
    have h3:Ok X.K E j T L P ((A n).bind λz q=>aG (g y z) q) (λpv _ l _ i=>∀v,aO X.K i l pv v->Q v i):=d;refine nD (hc l L n j i _ I ((Ok.bind (Ok.from h3 al.grow)).imp λz W F4 S4 H4 r4 g4 p Z G=>?_));cases J:g y z with
    |none=>rw[J]at p;exact p.elim
    |some pz=>rw[J]at p;exact j4 F4 H4 y z u Z Q pz ((al.rep M).grow g4 I.fit) G J λY F5 H5 o C=>p F5 S4 H5 (r4.al o) o.grow Y C
theorem Nj{i d:CmpOp}{r j:R2}{f g:PV->PV->Option PV}(p:bT X (dJ i) r)(w:bT X (dJ d) j)(o:P2 X.K r f)(n:P2 X.K j g)(v:DE X E a m)(u:DE X E b db)(s:DE X E c A)(q:lastMarks [i,d] [b,c]=aj:=by with_unfolding_all rfl):DE X E (.Compare a [i,d] [b,c] pos) (lg f g m db A):=λF S y x H Q l h=>bW (KU p w bx bx bx q) (Du o n v u s l h)
theorem AY{i d:CmpOp}{r j:R2}{f g:PV->PV->Option PV}(p:bT X (dJ i) r)(w:bT X (dJ d) j)(o:P2 X.K r f)(n:P2 X.K j g)(v:DE X E a m)(u:DE X E b db)(s:DE X E c A)(q:lastMarks [i,d] [b,c]=aj:=by with_unfolding_all rfl):DT X E (.Compare a [i,d] [b,c] pos) (dB (lg f g m db A)):=λF S B z H Q l h=>si (Lj p w bx bx bx q) (Du (Q:=λx y=>∃k,x=.bl k/\Q k y) o n v u s l (qI h))
variable{n B:ag->R Bool}{rest:List ay}
def DW(X:Cx)(E:XK)(e:ay)(d:ag->R Bool):Prop:=∀F S g f H Q,aH X.K F S g f H->Ok X.K E f F S H (d g) (λb _ _ _ i=>Q b i)->∀(h:Sem ah) af s,Inv X af f H s->aw (az X.prog X.w) X.A (lK e X.env h) (TP X af f Q) X.xe s
def Hu(X:Cx)(e:ay):TT:=λd H Q=>∀(f:Sem ah) af s,Inv X af d H s->aw (az X.prog X.w) X.A (lK e X.env f) (TP X af d Q) X.xe s
theorem MB{e:ay}:PW X e (Hu X e):=λd f s _ _ _ I h=>h d f s I
theorem DW.dt{e:ay}{d:ag->R Bool}(h:DW X E e d):DT X E e d:=λF S ε f H Q g q=>⟨λi s I=>h F S ε f H Q g q _ i s I⟩
def Gm(n B:ag->R Bool):ag->R Bool:=λf=>(n f).bind λk d=>match k with
 |true=>B d
 |false=>.ok aj d
def j_(n B:ag->R Bool):ag->R Bool:=λf=>(n f).bind λk d=>match k with
 |true=>.ok ai d
 |false=>B d
def iK(n:ag->R Bool):ag->R Bool:=λf=>(n f).bind λk d=>.ok (!k) d
theorem uw(h:DT X E a n):DW X E (.BoolOp .Or [a] pos) n:=λF S f d H Q g q i j s I=>Jl nA i j s d H Q I (h F S f d H Q g q)
theorem uB(u:DT X E a n)(r:DW X E (.BoolOp .Or (b::rest) pos) B):DW X E (.BoolOp .Or (a::b::rest) pos) (j_ n B):=λF S o d H Q p q v w s I=>by
 refine KS nA MB v w s d H Q I (u F S o d H _ p ((Ok.bind q).imp λk f l i j g x h=>?_));cases k with
 |true=>exact nD (h l i j g (a5.refl ..))
 |false=>exact nj (r l i f d j Q g h)
theorem kW(j:DT X E a n):DT X E (.UnaryOp .Not a pos) (iK n):=λF S g d H Q h q=>si (G8 nA) (j F S g d H _ h ((Ok.bind q).imp λk f r o p i s l=>l r o p i (a5.refl ..)))
def oC(m db:ag->R PV):ag->R PV:=λf=>(dB m f).bind λk d=>match k with
 |true=>db d
 |false=>.ok (.bl aj) d
def OE(m db:ag->R PV):ag->R PV:=λf=>(dB m f).bind λk d=>match k with
 |true=>.ok (.bl ai) d
 |false=>db d
def Dv(m:ag->R PV):ag->R PV:=λf=>(dB m f).bind λk d=>.ok (.bl (!k)) d
theorem Dw{d:ag->R PV}{q:Type}{D:q->ag->(ac->Prop)->(Nat->ac->Prop)->Hp->Prop}{k:Bool->ag->R q}{F:ac->Prop}{S:Nat->ac->Prop}{p:ag}{o:St}{H:Hp}{P:Bool->Hp->Prop}(h:Ok X.K E o F S H ((dB d p).bind k) D) (f:∀c g l j i,aH X.K l j g o i->a5 (U S) (U j) F l H i->Ok X.K E o l j i (k c g) D->P c i):Ok X.K E o F S H (d p) (λpv _ y _ r=>∀v,aO X.K r y pv v->∃c,v=.bl c/\P c r):=by have u:=(Ok.bind h).imp (C':=λc g l j i=>P c i) λc g l j i s x w=>f c g l j i s x w;exact qI u
theorem uh{op}{d:ag->R PV}(h:DE X E a d):DE X E (.BoolOp op [a] pos) d:=λF S g f H Q i q=>bW (Ic bx) (h F S g f H Q i q)
theorem rO(s:DE X E a m)(r:DE X E (.BoolOp .And (b::rest) pos) db):DE X E (.BoolOp .And (a::b::rest) pos) (oC m db):=λF S o f H Q p q=>by
 refine bW (Fi bx bx) (s F S o f H _ p (Dw q λk d l i j g u h=>?_));cases k with
 |true=>exact nD (r l i d f j Q g h)
 |false=>exact nj (h l i j g (a5.refl ..) _ rfl)
theorem LW(j:DE X E a m):DE X E (.UnaryOp .Not a pos) (Dv m):=λF S g d H Q h q=>bW (Ml bx) (j F S g d H _ h (Dw q λk f r o p i s l=>l r o p i (a5.refl ..) _ rfl))
def ca{f:Type}(t:ag->R Bool)(m db:ag->R f):ag->R f:=λε=>(t ε).bind λk d=>match k with
 |true=>m d
 |false=>db d
theorem Kz(r:DT X E c n)(u:DE X E a m)(s:DE X E b db):DE X E (.IfExp c a b pos) (ca n m db):=λF S o f H Q p q=>by
 refine bW (Jd nA bx bx) (r F S o f H _ p ((Ok.bind q).imp λk d l i j g v h=>?_));cases k with
 |true=>exact nD (u l i d f j Q g h)
 |false=>exact nj (s l i d f j Q g h)
def P1(K:ar)(r:V->Hp->VK->Prop)(f:PV->Option PV):Prop:=∀(F:ac->Prop) (H:Hp) (x:PV) (v:V) (Q:VK) (pv:PV),aO K H F x v->f x=aa pv->(∀w g d,Al F g H d->aO K d g pv w->Q w d)->r v H Q
def d1(f:PV->Option PV)(m:ag->R PV):ag->R PV:=λε=>(m ε).bind λx ε1=>aG (f x) ε1
theorem K4{r:V->Hp->VK->Prop}{f:PV->Option PV}(z:P1 X.K r f)(C:DE X E a m){F:ac->Prop}{S:Nat->ac->Prop}{j:ag}{d:St}{H:Hp}{Q:VK}(u:aH X.K F S j d H)(h:Ok X.K E d F S H (d1 f m j) (λpv _ p _ i=>∀v,aO X.K i p pv v->Q v i)):fY X a d H λx o=>r x o Q:=by
 refine C F S j d H _ u ((Ok.bind h).imp λx q G D o y I g v s=>?_);cases e:f x with
 |none=>rw[e]at g;exact g.elim
 |some pv=>rw[e]at g;exact z G o x v Q pv s e λw p i al l=>g p D i (y.al al) al.grow w l
theorem Ct{d:UnaryOp}{r:V->Hp->VK->Prop}{f:PV->Option PV}(j:vX X (unaryOp d) r)(i:P1 X.K r f)(l:DE X E a m):DE X E (.UnaryOp d a pos) (d1 f m):=λF S p o H Q g h=>bW (Mc j bx) (K4 i l g h)
end
def m8(X:Cx)(d:List ay):TA:=λb H Q=>Bx (∀a c s,Inv X c b H s->aw (az X.prog X.w) X.A (spliced (ce a (aL d X.env))) (AP X c b Q) X.xe s)
def DA(X:Cx)(E:XK)(h:List ay)(d:ag->R (List PV)):Prop :=
 ∀F S c a H Q,aH X.K F S c a H->Ok X.K E a F S H (d c) (λb _ i _ g=>∀f,ba X.K g i b f->Q f g)->m8 X h a H Q
section
variable{X:Cx}{E:XK}{a b c e:ay}{es:List ay}{B db D d:ag->R PV}{j:ag->R (List PV)}{pos:Pos}
theorem fU{es:List ay}:PA X es (m8 X es):=λpos f s _ _ _ I h=>h.run pos f s I
theorem l_{t:TA}(h:PA X es t){f:St}{H:Hp}{Q:List V->Hp->Prop}(q:t f H Q):m8 X es f H Q:=⟨λpos g s I=>h pos g s f H Q I q⟩
def aA:ag->R (List PV):=λε=>.ok [] ε
def aq(d:ag->R PV)(j:ag->R (List PV)):ag->R (List PV):=λε=>(d ε).bind λx ε1=>(j ε1).bind λxs f=>.ok (x::xs) f
theorem a8:DA X E [] aA:=λF S i g H Q f h=>l_ jB (h F S H f (a5.refl ..) _ rfl)
theorem JH(w:DE X E e d)(u:DA X E es j)(s:aL (e::es) X.env=(aj,aK e X.env)::aL es X.env:=by rfl):DA X E (e::es) (aq d j):=λF S m g H Q p h=>by refine l_ (io bx fU s) (w F S m g H _ p ((Ok.bind h).imp λx f L G J i N z v o=>?_));refine u L G f g J _ i ((Ok.bind z).imp λM l K C I q A y n r=>?_);exact y K C I q (a5.refl ..) _ ⟨v,n,rfl,o.grow A i.fit,r⟩
theorem aH.more{K:ar}{F N:ac->Prop}{S:Nat->ac->Prop}{n:ag}{m:St}{H:Hp}(r:aH K F S n m H)(p:∀b,N b->¬U S b/\∃o,H b=aa o):aH K (λb=>F b\/N b) S n m H:=by
 have mono:∀x v,aO K H F x v->aO K H (λb=>F b\/N b) x v:=aO.mono (λ_ h=>.inl h) (λ_ _ _ q=>q) (λ_ _ q _=>q);have f:∀x v,ba K H F x v->ba K H (λb=>F b\/N b) x v:=ba.mono (λ_ h=>.inl h) (λ_ _ _ q=>q) (λ_ _ q _=>q);refine⟨r.len,λb h=>h.elim (r.ex b) λz=>(p b z).2,λi pv e=>?_,λi s e=>?_,λi b h=>?_,r.dist⟩
 .obtain⟨v,l,g⟩:=r.val i pv e;exact⟨v,l,mono _ _ g⟩
 .obtain⟨v,l,g⟩:=r.own i s e;exact⟨v,l,g.mono mono f λ_ _ _ z=>z⟩
 .obtain⟨l,g,u⟩:=r.foot i b h;exact⟨l,λz=>z.elim g λw=>(p b w).1 ⟨i,h⟩,u⟩
def qU:PO->Option PV
 |.lst f=>aa (.lst f)
 |_=>ae
def dF(d:ag->R PO):ag->R PV:=λε=>(d ε).bind λf ε1=>aG (qU f) ε1
theorem DN.de{d:ag->R PO}(h:DN X E e d):DE X E e (dF d):=λF S ε r H Q x q=>by
 unfold dF at q;refine h F S ε r H Q x ?_;cases i:d ε with
 |no=>rw[i]at q;exact q.elim
 |er c s=>rw[i]at q;exact q
 |ok G ε1=>
  rw[i]at q;intro P l m A g a p I n;cases G with
  |dK f=>exact q.elim
  |lls O=>exact q.elim
  |dL O=>exact q.elim
  |ins C fs=>exact q.elim
  |dT f=>exact q.elim
  |dN f=>exact q.elim
  |inl C fs y u=>exact q.elim
  |lst u=>
   have M:∀b,p b->¬U l b/\∃o,m b=aa o:=λb z=>let ⟨_,_,x3,o,x4,_⟩:=n b z;⟨x3,o,x4⟩
   obtain⟨⟨v,K,J⟩,L⟩:=I;have N:a5 (U S) (U l) F (λb=>P b\/p b) H m:=⟨λb z=>.inl (g.fro b z),g.keep,g.there,λb z=>z.elim (g.fnew b) λw=>.inr (.inl (n b w).1),g.onew⟩
   exact q _ l m (A.more M) N _ ⟨a,v,rfl,.inl K,.inr ((L a).mpr rfl),ba.mono (λ_ z=>.inl z) (λ_ _ _ z=>z) (λ_ _ z _=>z) _ _ J⟩
def dU(f:List PV):Option PV:=if f.length<=1000 then aa (.tup f)else ae
def eB(f:List PV):Option PO:=if f.length<=1000 then aa (.lst f)else ae
def dL{g:Type}(f:List PV->Option g)(j:ag->R (List PV)):ag->R g:=λε=>(j ε).bind λxs ε1=>aG (f xs) ε1
def PL(K:ar)(r:List V->Hp->VK->Prop)(f:List PV->Option PV):Prop:=∀(F:ac->Prop) (H:Hp) (h:List PV) (i:List V) (Q:VK) (pv:PV),ba K H F h i->f h=aa pv->(∀w l g,Al F l H g->aO K g l pv w->Q w g)->r i H Q
def k7(K:ar)(r:List V->Hp->VK->Prop)(f:List PV->Option PO):Prop:=∀(F:ac->Prop) (H:Hp) (i:List PV) (l:List V) (Q:VK) (m:PO),(∀a,F a->∃o,H a=aa o)->ba K H F i l->f i=aa m ->
 (∀a h g n,Al F h H g->dG K g h m a n->(∀b,n b->H b=ae/\¬h b/\∃o,g b=aa o/\dA o)->Q (.ref a) g)->r l H Q
theorem yq{r:List V->Hp->VK->Prop}{f:List PV->Option PV}(A:PL X.K r f)(C:DA X E es j){F:ac->Prop}{S:Nat->ac->Prop}{n:ag}{g:St}{H:Hp}{Q:VK}(x:aH X.K F S n g H)(h:Ok X.K E g F S H (dL f j n) (λpv _ q _ m=>∀v,aO X.K m q pv v->Q v m)):m8 X es g H λi p=>r i p Q:=by
 refine C F S n g H _ x ((Ok.bind h).imp λi s I G p y J l u z=>?_);cases e:f i with
 |none=>rw[e]at l;exact l.elim
 |some pv=>rw[e]at l;exact A I p i u Q pv z e λw q m al o=>l q G m (y.al al) al.grow w o
theorem kY{O i F l:ac->Prop}{H f:Hp}(g:a5 O i F l H f){b:ac}(h:f b=ae):H b=ae:=by
 cases q:H b with
 |none=>rfl
 |some o=>obtain⟨o',e⟩:=g.there b o q;rw[h]at e;cases e
theorem uW{r:List V->Hp->VK->Prop}{f:List PV->Option PO}(O:k7 X.K r f)(P:DA X E es j){F:ac->Prop}{S:Nat->ac->Prop}{s:ag}{l:St}{H:Hp}{Q:VK}(L:aH X.K F S s l H)(h:Ok X.K E l F S H (dL f j s) (λv _ q Z g=>∀a p,dG X.K g q v a p->(∀b,p b->H b=ae/\¬q b/\¬U Z b/\∃o,g b=aa o/\dA o)->Q (.ref a) g)):m8 X es l H λm x=>r m x Q:=by
 refine P F S s l H _ L ((Ok.bind h).imp λm C F1 Y x u T n K N=>?_);cases e:f m with
 |none=>rw[e]at n;exact n.elim
 |some v=>
  rw[e]at n;refine O F1 x m K Q v u.ex N e λa q g p al M W=>n q Y g (u.al al) al.grow a p M λb z=>?_;obtain⟨y,J,o,I,G⟩:=W b z;refine⟨kY T y,J,λ⟨i,w⟩=>?_,o,I,G⟩;obtain⟨_,_,o',A,_⟩:=u.foot i b w;rw[y]at A;cases A
theorem xP{n:Nat}(h:n<=1000):n<=bc:=kt (yz h)
theorem ID{K:ar}:PL K (λf H Q=>f.length<=bc/\∀p,H p=ae->Q (.ref p) (upd H p (.tup f))) dU:=λF H f i Q pv g e q=>by
 unfold dU at e;split at e
 .cases e;refine⟨by rw[g.len];exact xP (by assumption),λp h=>q _ F _ (Al.new0 h) ⟨p,i,rfl,cg,(Al.new0 h).reps g⟩⟩
 .cases e
theorem uL{K:ar}{F:ac->Prop}{H:Hp}{l:ac}{g:List PV}{f:List V}(i:H l=ae)(h:ba K H F g f):dG K (upd H l (.lst f)) F (.lst g) l (λb=>b=l):=⟨⟨f,cg,(Al.new0 i).reps h⟩,λb=>p8⟩
theorem uV{F:ac->Prop}{H:Hp}{l:ac}{o:HO}(g:H l=ae)(i:∀a,F a->∃o,H a=aa o)(h:dA o):∀b,b=l->H b=ae/\¬F b/\∃f,(upd H l o) b=aa f/\dA f:=λb z=>by
 subst z;exact⟨g,(λw=>by obtain⟨o,q⟩:=i b w;rw[g]at q;cases q),o,cg,h⟩
theorem MF{K:ar}:k7 K (λf H Q=>f.length<=bc/\∀p,H p=ae->Q (.ref p) (upd H p (.lst f))) eB:=λF H f l Q m i h e q=>by
 unfold eB at e;split at e
 .cases e;exact⟨by rw[h.len];exact xP (by assumption),λp g=>q p F _ _ (Al.new0 g) (uL g h) (uV g i trivial)⟩
 .cases e
theorem nh{x1}(h:DA X E es j):DE X E (.Tuple es x1 pos) (dL dU j):=λF S i g H Q f q=>bW (G1 fU) (yq ID h f q)
theorem qV(h:DA X E es j):DN X E (.List es pos) (dL eB j):=λF S i g H Q f q=>bW (M5 fU) (uW MF h f q)
theorem ph(h:DA X E es j):DE X E (.List es pos) (dF (dL eB j)):=(qV h).de
variable{x:Str}{p:Pos}{m T:String}{r:List V->Hp->VK->Prop}{f:List PV->Option PV}{A:List PV->Option PO}
theorem cD(u:fh X (.builtin m) r)(i:PL X.K r f)(n:X.mg x=ae)(h:d3 x=aa (.builtin m))(v:DA X E (e::es) j)(o:Gl X x:=by rfl)(l:x≠"__name__":=by decide)(w:(x==("__debug__":Str))=aj:=by decide)(s:aL (e::es) X.env=(aj,aK e X.env)::aL es X.env:=by rfl) (y:(ce pos (aL es X.env)).any (·.1)=aj:=by rfl):DE X E (.Call (.Name x p) (e::es) [] pos) (dL f j):=λF S C z H Q g q=>bW (sj u o n h fU l w s y) (yq i v g q)
theorem AX(u:fh X (.builtin m) r)(i:k7 X.K r A)(n:X.mg x=ae)(h:d3 x=aa (.builtin m))(v:DA X E (e::es) j)(o:Gl X x:=by rfl)(l:x≠"__name__":=by decide)(w:(x==("__debug__":Str))=aj:=by decide)(s:aL (e::es) X.env=(aj,aK e X.env)::aL es X.env:=by rfl) (y:(ce pos (aL es X.env)).any (·.1)=aj:=by rfl):DN X E (.Call (.Name x p) (e::es) [] pos) (dL A j):=λF S C z H Q g q=>bW (sj u o n h fU l w s y) (uW i v g q)
theorem su(u:fh X (.type T) r)(i:PL X.K r f)(n:X.mg x=ae)(h:d3 x=aa (.type T))(v:DA X E (e::es) j)(o:Gl X x:=by rfl)(l:x≠"__name__":=by decide)(w:(x==("__debug__":Str))=aj:=by decide)(s:aL (e::es) X.env=(aj,aK e X.env)::aL es X.env:=by rfl) (y:(ce pos (aL es X.env)).any (·.1)=aj:=by rfl):DE X E (.Call (.Name x p) (e::es) [] pos) (dL f j):=λF S C z H Q g q=>bW (vx u o n h fU l w s y) (yq i v g q)
theorem B5(u:fh X (.type T) r)(i:k7 X.K r A)(n:X.mg x=ae)(h:d3 x=aa (.type T))(v:DA X E (e::es) j)(o:Gl X x:=by rfl)(l:x≠"__name__":=by decide)(w:(x==("__debug__":Str))=aj:=by decide)(s:aL (e::es) X.env=(aj,aK e X.env)::aL es X.env:=by rfl) (y:(ce pos (aL es X.env)).any (·.1)=aj:=by rfl):DN X E (.Call (.Name x p) (e::es) [] pos) (dL A j):=λF S C z H Q g q=>bW (vx u o n h fU l w s y) (uW i v g q)
theorem gH{r:R2}{f:PV->PV->Option PV}(l:kN X r)(n:P2 X.K r f)(q:DE X E a B)(o:DE X E b db)(i:CB b:=by exact λ_ _=>rfl):DE X E (.Subscript a b pos) (d2 f B db):=λF S u s H Q g h=>bW (IS l bx bx i) (vI n q o g h)
def yj(X:Cx)(e:Option ay):TO:=λg H Q=>Bx (∀h s,Inv X h g H s->aw (az X.prog X.w) X.A (evalPart e X.env) (λu l=>∃o i,Inv X h g i l/\lQ u o/\Q o i) X.xe s)
theorem At{o:Option ay}:L2.PO X o (yj X o):=λg s _ _ _ I h=>h.run g s I
theorem D6{o:Option ay}{t:TO}(h:L2.PO X o t){g:St}{H:Hp}{Q:Option Int->Hp->Prop}(q:t g H Q):yj X o g H Q:=⟨λi s I=>h i s g H Q I q⟩
def DO(X:Cx)(E:XK)(e:Option ay)(d:ag->R (Option Int)):Prop:=∀F S h g H Q,aH X.K F S h g H->Ok X.K E g F S H (d h) (λo _ _ _ i=>Q o i)->yj X e g H Q
def eA:ag->R (Option Int):=λε=>.ok ae ε
def Mi:PV->Option Int
 |.int i=>aa i
 |_=>ae
def cz(d:ag->R PV):ag->R (Option Int):=λε=>(d ε).bind λx g=>aG ((Mi x).map aa) g
theorem o0:DO X E ae eA:=λF S l i H Q g h=>D6 IK (h F S H g (a5.refl ..))
theorem ka(w:DE X E e d):DO X E (aa e) (cz d):=λF S o l H Q s h=>by
 refine D6 (Ky bx) (w F S o l H _ s ((Ok.bind h).imp λx n C y z u G g v q=>?_));cases x <;> first|exact(show False from g).elim|skip
 rename_i i;exact⟨i,q,g C y z u (a5.refl ..)⟩
def c7{n:Type}(f:PV->Option Int->Option Int->Option n)(d:ag->R PV)(q o:ag->R (Option Int)):ag->R n:=λε=>(d ε).bind λx i=>(q i).bind λl h=>(o h).bind λu g=>aG (f x l u) g
def Ci(K:ar)(r:V->Option Int->Option Int->Hp->VK->Prop)(f:PV->Option Int->Option Int->Option PV):Prop:=∀(F:ac->Prop) (H:Hp) (x:PV) (h i:Option Int) (v:V) (Q:VK) (pv:PV),aO K H F x v->f x h i=aa pv->(∀w l g,Al F l H g->aO K g l pv w->Q w g)->r v h i H Q
theorem mr{r:V->Option Int->Option Int->Hp->VK->Prop}{f:PV->Option Int->Option Int->Option PV}{C G:Option ay}{J I:ag->R (Option Int)}{P:Pos}(Y:lc X r)(Z:Ci X.K r f)(he:DE X E e d)(hl:DO X E C J)(W:DO X E G I):DE X E (.Subscript e (.Slice C G ae P) pos) (c7 f d J I):=λF S L i H Q N h=>by
 refine bW (JP Y bx At At) (he F S L i H _ N ((Ok.bind h).imp λx o F1 S1 H1 z g1 h1 v M=>?_));refine hl F1 S1 o i H1 _ z ((Ok.bind h1).imp λl n F2 S2 H2 y g2 h2=>?_);refine W F2 S2 n i H2 _ y ((Ok.bind h2).imp λu K F3 S3 H3 O g3 g=>?_);cases s:f x l u with
 |none=>rw[s]at g;exact g.elim
 |some pv=>rw[s]at g;exact Z F3 H3 x l u v Q pv ((M.grow g2 z.fit).grow g3 y.fit) s λw F' H' al q=>g F' S3 H' (O.al al) al.grow w q
end
inductive aE where
 |next|ret (s:Slot)|brk|cont
def pe(K:ar)(H:Hp)(F:ac->Prop)(s:Slot)(v:V)(c:ac->Prop):Prop:=match s with
 |.val pv=>aO K H F pv v/\∀b,¬c b
 |.own d=>∃a,v=.ref a/\dG K H F d a c
 |.none=>False
def gJ(b:List Nat)(σ a:St):Prop:=∀i∈b,a[i]?=σ[i]?
theorem gJ.refl(a:List Nat)(σ:St):gJ a σ σ:=λ_ _=>rfl
theorem gJ.trans{c:List Nat}{σ f d:St}(a:gJ c σ f)(b:gJ c f d):gJ c σ d:=λi h=>(b i h).trans (a i h)
theorem gJ.set{a:List Nat}{σ:St}{i:Nat}{x:Option V}(h:i∉a):gJ a σ (σ.set i x):=λj b=>by rw[cP (by rintro rfl;exact h b)]
def nQ(f:ac->Prop)(c:Nat->ac->Prop)(d:Hp)(a:ac->Prop):Prop:=∀b,a b->¬f b/\¬U c b/\∃o,d b=aa o/\dA o
def gw(K:ar)(E:XK)(i:List Nat)(j:St)(F:ac->Prop)(S:Nat->ac->Prop)(H:Hp)(r:R aE)(D:jC):Prop:=match r with
 |.ok .next f=>∀g h a d,aH K g h f a d->a5 (U S) (U h) F g H d->gJ i j a->D.nx a d
 |.ok .brk f=>∀g h a d,aH K g h f a d->a5 (U S) (U h) F g H d->gJ i j a->D.bk a d
 |.ok .cont f=>∀g h a d,aH K g h f a d->a5 (U S) (U h) F g H d->gJ i j a->D.ct a d
 |.ok (.ret s) f=>∀v g h a d l,aH K g h f a d->a5 (U S) (λb=>U h b\/l b) F g H d->gJ i j a->pe K d g s v l->nQ g h d l->D.rt v d
 |.er c f=>∀x g h a d,aH K g h f a d->a5 (U S) (U h) F g H d->gJ i j a->E c x d
 |.no=>False
def DS(X:Cx)(E:XK)(a:List Nat)(c:aU)(d:ag->R aE):Prop:=∀F S b σ H D,aH X.K F S b σ H->gw X.K E a σ F S H (d b) D->wpS X c D σ H
def fj(X:Cx)(E:XK)(a:List Nat)(c:List aU)(d:ag->R aE):Prop:=∀F S b σ H D,aH X.K F S b σ H->gw X.K E a σ F S H (d b) D->ny X c D σ H
section
variable{K:ar}{E:XK}{b:List Nat}{d i:St}{F m:ac->Prop}{S j:Nat->ac->Prop}{H l:Hp}{D:jC}
theorem gw.from{r:R aE}(h:gw K E b d F S H r D)(g:a5 (U S) (U j) F m H l)(p:gJ b d i):gw K E b i m j l r D:=by
 cases r with
 |no=>exact h
 |er c w=>exact λx u o a q n g' p'=>h x u o a q n (g.trans g') (p.trans p')
 |ok f w=>
  cases f with
  |next=>exact λu o a q n g' p'=>h u o a q n (g.trans g') (p.trans p')
  |brk=>exact λu o a q n g' p'=>h u o a q n (g.trans g') (p.trans p')
  |cont=>exact λu o a q n g' p'=>h u o a q n (g.trans g') (p.trans p')
  |ret s=>exact λv u o a q y n g' p'=>h v u o a q y n (g.trans g') (p.trans p')
theorem gw.bindE{o:Type}{r:R o}{k:o->ag->R aE}(h:gw K E b d F S H (r.bind k) D):Ok K E d F S H r (λa f m j l=>gw K E b d m j l (k a f) D):=by
 cases r with
 |no=>exact h
 |er c g=>exact λx u q s p n=>h x u q d s p n (gJ.refl _ _)
 |ok a g=>exact λu q s p n=>h.from n (gJ.refl _ _)
end
section
variable{X:Cx}{E:XK}{pin:List Nat}{l:aU}{rest:List aU}{d d1 d2:ag->R aE}{e:ay}{de:ag->R PV}{pos:Pos}
def cL:ag->R aE:=λε=>.ok .next ε
theorem fN:fj X E pin [] cL:=λF S c a H D b h=>rT GM (h F S a H b (a5.refl ..) (gJ.refl _ _))
def aF(d1 d2:ag->R aE):ag->R aE:=λε=>match d1 ε with
 |.ok .next ε1=>d2 ε1
 |r=>r
theorem be(u:DS X E pin l d1)(q:fj X E pin rest d2):fj X E pin (l::rest) (aF d1 d2):=λF S i m H D n h=>by
 refine rT (wN oP lA) (u F S i m H {D with nx:=ny X rest D} n ?_);unfold aF at h;split at h
 .rename_i g w;rw[w];exact λz x b y o v p=>q z x g b y D o (h.from v p)
 .rename_i r j;generalize d1 i=r1 at h j;cases r1 with
  |no=>exact h
  |er c a=>exact h
  |ok f a=>
   cases f with
   |next=>exact absurd rfl (j a)
   |brk=>exact h
   |cont=>exact h
   |ret s=>exact h
theorem bh(f:DS X E pin l d1):fj X E pin [l] d1:=λF S b a H D c h=>rT (xc oP) (f F S b a H D c h)
def D5(f:aE):ag->R aE:=λa=>.ok f a
def OJ(d:ag->R PV):ag->R aE:=λb=>(d b).bind λ_ a=>.ok .next a
def bD(d:ag->R PV):ag->R aE:=λε=>(d ε).bind λx ε1=>.ok (.ret (.val x)) ε1
theorem a5.cup{O c F i:ac->Prop}{H f:Hp}(g:a5 O c F i H f):a5 O (λb=>c b\/False) F i H f:=⟨g.fro,g.keep,g.there,g.fnew,λa h=>h.elim (g.onew a) iZ⟩
theorem dr(j:DE X E e de):DS X E pin (.Return (aa e) pos) (bD de):=λF S c a H D g h=>eD (oN bx) (j F S c a H _ g (h.bindE.imp λx b p n o i q m v f=>m v p n a o (λ_=>False) i (a5.refl ..).cup (gJ.refl _ _) ⟨f,λ_ z=>z⟩ λ_ z=>z.elim))
theorem M7:DS X E pin (.Return ae pos) (D5 (.ret (.val .non))):=λF S c a H D b h=>eD Ny (h _ F S a H (λ_=>False) b (a5.refl ..).cup (gJ.refl _ _) ⟨rfl,λ_ z=>z⟩ λ_ z=>z.elim)
def l6(d:ag->R PO):ag->R aE:=λε=>(d ε).bind λx ε1=>.ok (.ret (.own x)) ε1
theorem xS{dn:ag->R PO}(u:DN X E e dn):DS X E pin (.Return (aa e) pos) (l6 dn):=λF S j g H D p h=>by
 refine eD (oN bx) (u F S j g H _ p ?_);unfold l6 at h;cases i:dn j with
 |no=>rw[i]at h;exact h.elim
 |er c o=>rw[i]at h;exact λx J B G r v=>h x J B g G r v (gJ.refl _ _)
 |ok K n=>rw[i]at h;intro I A C q f a y s m;exact h _ I A g C y q ⟨f.fro,f.keep,f.there,f.fnew,λb z=>z.elim (f.onew b) λw=>.inr (m b w).1⟩ (gJ.refl _ _) ⟨a,rfl,s⟩ λb z=>let ⟨_,x2,x3,x4⟩:=m b z;⟨x2,x3,x4⟩
def pd(i:Nat):ag->R aE:=λa=>match a[i]? with
 |some (.own b)=>.ok (.ret (.own b)) (a.set i .none)
 |_=>.no
theorem aH.drop{K:ar}{F:ac->Prop}{S:Nat->ac->Prop}{c:ag}{σ:St}{H:Hp}(r:aH K F S c σ H)(i:Nat):aH K F (λj b=>S j b/\j≠i) (c.set i .none) σ H:=by
 have no:∀{j s},(c.set i .none)[j]?=aa s->s≠.none->j≠i/\c[j]?=aa s:=λ{j s} e p=>by
  by_cases f:i=j
  .subst f;by_cases q:i<c.length
   .rw[dw q]at e;exact absurd (dY e).symm p
   .rw[p7 (by rw[iG];lia)]at e;cases e
  .rw[cP f]at e;exact⟨eE f,e⟩
 refine⟨by rw[iG];exact r.len,r.ex,λj pv e=>r.val j pv (no e (by intro z;cases z)).2,λj po e=>?_,λj b h=>?_,λj k b m g=>r.dist j k b m.1 g.1⟩
 .obtain⟨f,e⟩:=no e (by intro z;cases z);obtain⟨a,m,g⟩:=r.own j po e;have u:(λb=>S j b/\j≠i)=S j:=by funext b;simp[f]
  exact⟨a,m,by rw[u];exact g⟩
 .obtain⟨⟨po,o⟩,n⟩:=r.foot j b h.1;exact⟨⟨po,by rw[cP (eE h.2)];exact o⟩,n⟩
theorem CP(i:Nat){x:Str}{p:Pos}(s:X.N[i]?=aa x:=by rfl)(n:dR X.env.scope x:=by eq_refl)(r:(x==("__debug__":Str))=aj:=by decide)(v:(x==("__classdict__":Str))=aj:=by decide):DS X E pin (.Return (aa (.Name x p)) pos) (pd i):=λF S y f H D c h=>by
 unfold pd at h;split at h
 .rename_i g e;obtain⟨a,u,m⟩:=c.own i g e;refine eD (oN (eC s n r v)) ⟨_,u,h _ F (λj b=>S j b/\j≠i) f H (S i) (c.drop i) ⟨λ_ z=>z,λ_ _ z _=>z,λ_ o z=>⟨o,z⟩,λ_ z=>.inl z,λb z=>?_⟩ (gJ.refl _ _) ⟨a,rfl,m⟩ λb z=>?_⟩
  .rcases z with⟨j,z,_⟩|z
   .exact .inl ⟨j,z⟩
   .exact .inl ⟨i,z⟩
  .exact⟨(c.foot i b z).2.1,λ⟨j,w,q⟩=>q (c.dist j i b w z),(c.foot i b z).2.2⟩
 .exact h.elim
theorem aH.set{K:ar}{F:ac->Prop}{S:Nat->ac->Prop}{f:ag}{σ:St}{H:Hp}{i:Nat}{pv:PV}{v:V}(r:aH K F S f σ H)(h:aO K H F pv v):aH K F (λj b=>S j b/\j≠i) (f.set i (.val pv)) (σ.set i (aa v)) H:=by
 have o:=r.drop i;have len:(f.set i (.val pv)).length=(σ.set i (aa v)).length:=by rw[iG,iG];exact r.len
 refine⟨len,r.ex,λj p e=>?_,λj po e=>?_,λj b h=>?_,o.dist⟩
 .by_cases c:i=j
  .subst c;have g:i<f.length:=by have:=(cq.mp e).1;rw[iG]at this;exact this
   rw[dw g]at e;cases e;exact⟨v,dw (by rw[<-r.len];exact g),h⟩
  .rw[cP c]at e;obtain⟨w,n,m⟩:=r.val j p e;exact⟨w,by rw[cP c];exact n,m⟩
 .have c:i≠j:=by
   rintro rfl;have g:i<f.length:=by have:=(cq.mp e).1;rw[iG]at this;exact this
   rw[dw g]at e;cases e
  rw[cP c]at e;obtain⟨a,n,m⟩:=r.own j po e;have u:(λb=>S j b/\j≠i)=S j:=by funext b;simp[eE c]
  exact⟨a,by rw[cP c];exact n,by rw[u];exact m⟩
 .obtain⟨⟨po,q⟩,s⟩:=o.foot j b h;refine⟨⟨po,?_⟩,s⟩;rw[cP (eE h.2)]at q ⊢;exact q
theorem a5.less{S:Nat->ac->Prop}{F:ac->Prop}{H:Hp}(i:Nat):a5 (U S) (U λj b=>S j b/\j≠i) F F H H:=⟨λ_ z=>z,λ_ _ z _=>z,λ_ o z=>⟨o,z⟩,λ_ z=>.inl z,λb ⟨j,z⟩=>.inl ⟨j,z.1⟩⟩
theorem aH.setOwn{K:ar}{F:ac->Prop}{S:Nat->ac->Prop}{q:ag}{x:St}{H:Hp}{i:Nat}{s:PO}{a:ac}{n:ac->Prop}(r:aH K F S q x H)(o:i<q.length)(h:dG K H F s a n)(u:nQ F S H n):aH K F (λj b=>(S j b/\j≠i)\/(j=i/\n b)) (q.set i (.own s)) (x.set i (aa (.ref a))) H:=by
 have B:=r.drop i;refine⟨by rw[iG,iG];exact r.len,r.ex,λj p e=>?_,λj g e=>?_,λj b h=>?_,λj k b f c=>?_⟩
 .have m:i≠j:=by rintro rfl;rw[dw o]at e;cases e
  rw[cP m]at e;obtain⟨w,f,c⟩:=r.val j p e;exact⟨w,by rw[cP m];exact f,c⟩
 .by_cases m:i=j
  .subst m;rw[dw o]at e;cases e;have v:(λb=>(S i b/\i≠i)\/(i=i/\n b))=n:=by funext b;simp
   exact⟨a,dw (by rw[<-r.len];exact o),by rw[v];exact h⟩
  .rw[cP m]at e;obtain⟨D,f,c⟩:=r.own j g e;have v:(λb=>(S j b/\j≠i)\/(j=i/\n b))=S j:=by funext b;simp[eE m]
   exact⟨D,by rw[cP m];exact f,by rw[v];exact c⟩
 .rcases h with h|⟨rfl,h⟩
  .obtain⟨⟨g,y⟩,C⟩:=B.foot j b h;refine⟨⟨g,?_⟩,C⟩;rw[cP (eE h.2)]at y ⊢;exact y
  .obtain⟨A,G,z⟩:=u b h;exact⟨⟨s,dw o⟩,A,z⟩
 .rcases f with f|⟨rfl,f⟩ <;> rcases c with c|⟨rfl,c⟩
  .exact r.dist j k b f.1 c.1
  .exact absurd ⟨j,f.1⟩ (u b c).2.1
  .exact absurd ⟨k,c.1⟩ (u b f).2.1
  .rfl
def aZ(i:Nat)(d:ag->R PV):ag->R aE:=λε=>(d ε).bind λx ε1=>.ok .next (ε1.set i (.val x))
theorem dz(i:Nat){x:Str}{p:Pos}(u:X.N.Nodup)(s:DE X E e de)(o:i∉pin:=by decide)(q:X.N[i]?=aa x:=by rfl)(m:Loc X.env.scope x:=by first|exact Or.inl rfl|exact Or.inr rfl)(n:gD e (aa (.Name x p)) pos.line X.env=pure aj:=by rfl)(r:X.fn x=ai\/X.env.scope.names.lookup x=aa .local:=by first|exact .inl rfl|exact .inr rfl):DS X E pin (.Assign [.Name x p] e pos) (aZ i de):=λF S c a H D g h=>eD (DQ u q m bx n r) (s F S c a H _ g (h.bindE.imp λx b z B y j A w v f=>w z _ _ y (j.set f) (a5.less i) (gJ.set o)))
def ir(i:Nat)(d:ag->R PO):ag->R aE:=λε=>(d ε).bind λx ε1=>if i<ε1.length then .ok .next (ε1.set i (.own x))else .no
theorem pf(i:Nat){x:Str}{p:Pos}{dn:ag->R PO}(K:X.N.Nodup)(J:DN X E e dn)(C:i∉pin:=by decide)(G:X.N[i]?=aa x:=by rfl)(A:Loc X.env.scope x:=by first|exact Or.inl rfl|exact Or.inr rfl)(B:gD e (aa (.Name x p)) pos.line X.env=pure aj:=by rfl)(I:X.fn x=ai\/X.env.scope.names.lookup x=aa .local:=by first|exact .inl rfl|exact .inr rfl):DS X E pin (.Assign [.Name x p] e pos) (ir i dn):=λF S q o H D u h=>by
 refine eD (DQ K G A bx B I) (J F S q o H _ u ?_);unfold ir at h;cases n:dn q with
 |no=>rw[n]at h;exact h.elim
 |er c s=>rw[n]at h;exact λx Q M O w L=>h x Q M o O w L (gJ.refl _ _)
 |ok T g=>
  rw[n]at h;simp only[R.bind_ok]at h;intro P Y N v f a W y r;by_cases m:i<g.length
  .rw[if_pos m]at h;refine h P _ _ N (v.setOwn m y λb z=>(r b z).2) ⟨f.fro,f.keep,f.there,f.fnew,λb ⟨j,z⟩=>?_⟩ (gJ.set C);rcases z with z|⟨_,z⟩
   .exact f.onew b ⟨j,z.1⟩
   .exact .inr (r b z).1
  .rw[if_neg m]at h;exact h.elim
theorem fQ{c:ay}{a b:List aU}{t:ag->R Bool}(r:DT X E c t)(u:fj X E pin a d1)(s:fj X E pin b d2):DS X E pin (.If c a b pos) (ca t d1 d2):=λF S p g H D q h=>by
 refine eD (Na nA lA lA) (r F S p g H _ q (h.bindE.imp λk f o m n i v j=>?_));cases k with
 |true=>exact nD (u o m f g n D i j)
 |false=>exact nj (s o m f g n D i j)
def xR:ag->R aE:=λ_=>.no
theorem DP{a:List aU}:fj X E pin a xR:=λ_ _ _ _ _ _ _ h=>h.elim
def cU(r:R aE):R aE:=match r with
 |.er _ _=>.no
 |r=>r
theorem k8(h:DS X.nox E0 pin l d):DS X E pin l (λa=>cU (d a)):=λF S a b H D i q=>Bx.mk λm s I=>by
 have q:gw X.K E pin b F S H (cU (d a)) D:=q;have j:gw X.K E0 pin b F S H (d a) D:=by
  cases e:d a with
  |no=>rw[e]at q;exact q
  |er c g=>rw[e]at q;exact q.elim
  |ok f g=>rw[e]at q;cases f <;> exact q
 exact eF ((h F S a b H D i j).run m s (I.wish _)) (λ_ _ z=>z.unwish) λ_ _ z=>z.elim
def pC(X:Cx)(f a:ay):TI:=λb H h=>Bx (∀c s,Inv X c b H s->aw (az X.prog X.w) X.A (aK a X.env) (λv g=>aw (az X.prog X.w) X.A (mD v) (uu X c b f h) X.xe g) X.xe s)
theorem vY{b a:ay}:PI X b a (pC X b a):=λc s _ _ _ I h=>h.run c s I
theorem HS{f a:ay}{t:TI}(h:PI X f a t){b:St}{H:Hp}{c:It->Hp->Prop}(q:t b H c):pC X f a b H c:=⟨λg s I=>h g s b H c I q⟩
def DI(X:Cx)(E:XK)(p a:ay)(d:ag->R (List PV)):Prop:=∀F S ε c H m,aH X.K F S ε c H ->
 Ok X.K E c F S H (d ε) (λg _ o q i=>∀J f n,ba X.K i o g f->f.length<=bc->Walk J f n->(∀h j b,a5 (U q) (U h) o j i b->n b)->m J i)->pC X p a c H m
def gy(i:Nat)(db:ag->R aE):List PV->ag->R aE
 |[],ε=>.ok .next ε
 |x::b,ε=>match db (ε.set i (.val x))with
  |.ok .next a=>gy i db b a
  |.ok .cont a=>gy i db b a
  |.ok .brk a=>.ok .next a
  |r=>r
def eN(i:Nat)(b:ag->R (List PV))(db:ag->R aE):ag->R aE:=λε=>(b ε).bind λa ε1=>gy i db a ε1
theorem nr(i:Nat){x:Str}{p:Pos}{o:ay}{r:List aU}{di:ag->R (List PV)}{I:ag->R aE}(tI:v8 (az X.prog X.w) X.A X.env X.xe)(hc:X.calm=ai)(hN:X.N.Nodup)(hi:DI X E (.Name x p) o di)(hb:fj X E pin r I)(hp:i∉pin:=by decide) (C:X.N[i]?=aa x:=by rfl) (Q:Loc X.env.scope x:=by first|exact Or.inl rfl|exact Or.inr rfl) (hs:∀x,mE o X.env x=pure x:=by intro _;rfl)(hf:X.fn x=ai\/X.env.scope.names.lookup x=aa .local:=by first|exact .inl rfl|exact .inr rfl):DS X E pin (.For (.Name x p) o r [] pos) (eN i di I):=λF S ε σ H D rl h=>by
 refine eD (Cd tI hc vY (pI hN C Q hf) lA hs) (hi F S ε σ H _ rl (h.bindE.imp λz L F1 S1 H1 r1 g1 h1 J vs RR Z hz hw A=>?_));refine C6 hw (λk a n=>∃u w m,aH X.K u w m a n/\a5 (U S1) (U w) F1 u H1 n/\gw X.K E pin a u w n (gy i I (z.drop k) m) D) ⟨F1,S1,L,r1,a5.refl ..,h1⟩ (λk a n _ ⟨u,w,m,_,g,_⟩=>A w u n g) ?_ ?_
 .rintro k v a n hv ⟨u,w,m,O,G,q⟩;obtain⟨x,C,rx⟩:=Z.back hv;have hk:k<z.length:=(cq.mp C).1;have ed:z.drop k=x::z.drop (k+1):=by rw[zO hk];congr 1;exact(cq.mp C).2
  rw[ed]at q;have M:=rx.grow G r1.fit;have r2:=O.set (i:=i) M;have T:a5 (U w) (U λj b=>w j b/\j≠i) u u n n:=a5.less i;show ny X r _ (a.set i (aa v)) n;refine hb u _ _ _ n _ r2 ?_;unfold gy at q;have q:=q.from T (gJ.set (x:=aa v) hp);cases e:I (m.set i (.val x))with
  |no=>rw[e]at q;exact q
  |er c y=>rw[e]at q;exact q
  |ok f y=>
   rw[e]at q;cases f with
   |next=>exact λY W K H3 N B P=>⟨Y,W,y,N,(G.trans T).trans B,q.from B P⟩
   |cont=>exact λY W K H3 N B P=>⟨Y,W,y,N,(G.trans T).trans B,q.from B P⟩
   |brk=>exact q
   |ret s=>exact q
 .rintro a n ⟨u,w,m,O,G,q⟩;have Q:vs.length=z.length:=Z.len;rw[Q,zP]at q;exact q u w a n O (a5.refl ..) (gJ.refl _ _)
def dj(t:ag->R Bool)(b:ag->R aE):Nat->ag->R aE
 |0,_=>.no
 |n+1,ε=>(t ε).bind λk ε1=>match k with
  |false=>.ok .next ε1
  |true=>match b ε1 with
   |.ok .next a=>dj t b n a
   |.ok .cont a=>dj t b n a
   |.ok .brk a=>.ok .next a
   |r=>r
theorem xY{c:ay}{n:List aU}{t:ag->R Bool}{j:ag->R aE}(O:ag->Nat)(P:v8 (az X.prog X.w) X.A X.env X.xe)(W:DT X E c t)(Y:fj X E pin n j):DS X E pin (.While c n [] pos) (λv=>dj t j (O v) v):=λF S v σ H D Q h=>by
 refine eD (MI P nA lA) ⟨λm b u=>∃y x a,aH X.K y x a b u/\gw X.K E pin b y x u (dj t j m a) D,⟨O v,F,S,v,Q,h⟩,?_⟩;rintro m i H1 ⟨F1,Z,A,T,q⟩;cases m with
 |zero=>exact q.elim
 |succ m=>
  refine W F1 Z A i H1 _ T (q.bindE.imp λk p M J K N g2 g=>?_);cases k with
  |false=>exact nj (g M J i K N (a5.refl ..) (gJ.refl _ _))
  |true=>
   refine nD ⟨λb u=>∃y x a,aH X.K y x a b u/\gw X.K E pin b y x u (dj t j m a) D,λb u w=>⟨m,iY m,w⟩,Y M J p i K _ N ?_⟩;have g:gw X.K E pin i M J K (match j p with
    |.ok .next a=>dj t j m a
    |.ok .cont a=>dj t j m a
    |.ok .brk a=>.ok .next a
    |r=>r) D:=g
   cases e:j p with
   |no=>rw[e]at g;exact g
   |er c o=>rw[e]at g;exact g
   |ok f o=>
    rw[e]at g;cases f with
    |next=>exact λL I z H3 B G C=>⟨L,I,o,B,g.from G C⟩
    |cont=>exact λL I z H3 B G C=>⟨L,I,o,B,g.from G C⟩
    |brk=>exact g
    |ret s=>exact g
end
def vD(K:ar)(E:XK)(i:List V)(F:ac->Prop)(S:Nat->ac->Prop)(H:Hp)(r:R Slot)(Q:VK):Prop:=match r with
 |.ok s h=>∀v d f a g,aH K d f h (i.map aa) a->a5 (U S) (λb=>U f b\/g b) F d H a->pe K a d s v g->nQ d f a g->(∀b,g b->H b=ae)->Q v a
 |.er c h=>∀x d f a,aH K d f h (i.map aa) a->a5 (U S) (U f) F d H a->E c x a
 |.no=>False
def bj(K:ar)(g:ag->R Slot):Sp:=λa H Q E=>∃F S b,aH K F S b (a.map aa) H/\vD K E a F S H (g b) Q
structure cK(CX:dQ)(P:aY)(w:aR)(K:ar)(mg:Str->Option ah)(base:aC)(x:Str)(k:Nat)(ps:List Str)(sp:Sp):Prop where
 ex:∃f fd,mg x=aa (.ref f)/\fO P w K mg base CX k f fd ps sp/\Binds K fd ps []/\kx K (.ref f)=ai
def back:ag->ag->Option ag
 |[],_=>aa []
 |.own _::a,.own po::b=>(back a b).map (.own po::·)
 |.own _::_,_=>ae
 |s::a,_::b=>(back a b).map (s::·)
 |_::_,[]=>ae
theorem uU:∀{a c b:ag},back a c=aa b->b.length=a.length/\∀(i:Nat) (s:Slot),b[i]?=aa s->(∃g f,a[i]?=aa (.own g)/\c[i]?=aa (.own f)/\s=.own f)\/(a[i]?=aa s/\∀g,s≠.own g)
 |[],_,b,h=>by cases h;exact⟨rfl,λi s e=>by simp at e⟩
 |.own g::a,.own f::c,b,h=>by
  unfold back at h;cases e:back a c with
  |none=>rw[e]at h;cases h
  |some r=>
   rw[e]at h;cases h;obtain⟨l,q⟩:=uU e;refine⟨by simp[l],λi s d=>?_⟩;cases i with
   |zero=>simp at d;subst d;exact .inl ⟨g,f,rfl,rfl,rfl⟩
   |succ i=>simpa using q i s (by simpa using d)
 |.own g::a,.none::c,b,h=>by cases h
 |.own g::a,.val _::c,b,h=>by cases h
 |.own g::a,[],b,h=>by cases h
 |.none::a,[],b,h=>by cases h
 |.val _::a,[],b,h=>by cases h
 |.none::a,x::c,b,h=>by
  have h:(back a c).map (Slot.none::·)=aa b:=by unfold back at h;cases x <;> exact h
  cases e:back a c with
  |none=>rw[e]at h;cases h
  |some r=>
   rw[e]at h;cases h;obtain⟨l,q⟩:=uU e;refine⟨by simp[l],λi s d=>?_⟩;cases i with
   |zero=>simp at d;subst d;exact .inr ⟨rfl,λ_ z=>by cases z⟩
   |succ i=>simpa using q i s (by simpa using d)
 |.val pv::a,x::c,b,h=>by
  have h:(back a c).map (Slot.val pv::·)=aa b:=by unfold back at h;cases x <;> exact h
  cases e:back a c with
  |none=>rw[e]at h;cases h
  |some r=>
   rw[e]at h;cases h;obtain⟨l,q⟩:=uU e;refine⟨by simp[l],λi s d=>?_⟩;cases i with
   |zero=>simp at d;subst d;exact .inr ⟨rfl,λ_ z=>by cases z⟩
   |succ i=>simpa using q i s (by simpa using d)
def a6(n:Nat)(d:ag->R aE):ag->R Slot:=λf=>match d (f++cY n .none)with
 |.ok (.ret r) a=>(aG (back f a) []).bind λb _=>.ok r b
 |.ok .next a=>(aG (back f a) []).bind λb _=>.ok (.val .non) b
 |.er c a=>(aG (back f a) []).bind λb _=>.er c b
 |_=>.no
section
variable{K:ar}{F x:ac->Prop}{S o:Nat->ac->Prop}{c l m:ag}{f:St}{H u:Hp}{d:List V}
theorem aH.start(r:aH K F S c (d.map aa) H)(n:Nat):aH K F S (c++cY n .none) (d.map aa++cY n ae) H:=by
 have A:c.length=(d.map aa).length:=r.len;have no:∀{j:Nat}{s:Slot},(c++cY n Slot.none)[j]?=aa s->s≠.none->c[j]?=aa s:=λ{j s} e y=>by
  by_cases B:j<c.length
  .rw[g8 B]at e;exact e
  .rw[nZ ∅,List.getElem?_replicate]at e;split at e
   .exact absurd (dY e).symm y
   .cases e
 have p:∀{j:Nat}{v:Option V},(d.map aa)[j]?=aa v->(d.map aa++cY n ae)[j]?=aa v:=λ{j v} e=>by rw[g8 (cq.mp e).1];exact e
 refine⟨by simp[A],r.ex,λj pv e=>?_,λj a e=>?_,λj b h=>?_,r.dist⟩
 .obtain⟨v,i,g⟩:=r.val j pv (no e (by intro z;cases z));exact⟨v,p i,g⟩
 .obtain⟨v,i,g⟩:=r.own j a (no e (by intro z;cases z));exact⟨v,p i,g⟩
 .obtain⟨⟨a,q⟩,w⟩:=r.foot j b h;exact⟨⟨a,by rw[g8 (cq.mp q).1];exact q⟩,w⟩
theorem Bw{i:PO}{a:ac}{n:ac->Prop}(h:dG K H F i a n)(j:gQ i=ai):∀b,n b↔b=a:=by
 cases i with
 |lst p=>exact h.2
 |dK g=>exact h.2
 |lls q=>cases j
 |dL q=>cases j
 |ins C fs=>exact h.2
 |dT g=>exact h.2
 |dN g=>exact h.2
 |inl C fs y p=>cases j
theorem IL{g:PO}{a:ac}{i:ac->Prop}(h:dG K H F g a i):i a:=by
 cases g with
 |lst j=>exact(h.2 a).mpr rfl
 |dK b=>exact(h.2 a).mpr rfl
 |lls n=>obtain⟨p,_,_,_,_,w⟩:=h;exact(w a).mpr (.inl rfl)
 |dL n=>obtain⟨p,_,_,_,_,w⟩:=h;exact(w a).mpr (.inl rfl)
 |ins C fs=>exact(h.2 a).mpr rfl
 |dT b=>exact(h.2 a).mpr rfl
 |dN b=>exact(h.2 a).mpr rfl
 |inl C fs y j=>obtain⟨_,_,_,_,_,_,_,_,_,_,w⟩:=h;exact(w a).mpr (.inl rfl)
theorem aH.back{X:ac->Prop}{C:List Nat}{n:Nat}(B:aH K F S c (d.map aa) H)(r:aH K x o l f u)(g:a5 (U S) X F x H u)(p:gJ C (d.map aa++cY n ae) f)(Q:∀(i:Nat) (po:PO),c[i]?=aa (.own po)->i∈C)(P:back c l=aa m):∃A,aH K x A m (d.map aa) u/\(∀b,U A b->U o b)/\((∀(i:Nat) (po:PO),c[i]?=aa (.own po)->gQ po=ai)->∀b,U S b->U A b):=by
 obtain⟨L,E⟩:=uU P;have inj:∀(i:Nat) (po:PO),c[i]?=aa (.own po)->∃a,(d.map aa)[i]?=aa (aa (.ref a))/\f[i]?=aa (aa (.ref a))/\dG K H F po a (S i):=λi po e=>by obtain⟨a,w,y⟩:=B.own i po e;refine⟨a,w,?_,y⟩;rw[p i (Q i po e),g8 (cq.mp w).1];exact w
 have bk:∀(i:Nat) (po:PO),c[i]?=aa (.own po)->∃s,m[i]?=aa (.own s)/\l[i]?=aa (.own s):=λi po e=>by
  have M:i<m.length:=by rw[L];exact(cq.mp e).1
  rcases E i m[i] (by simp[M])with⟨p1,p2,q1,q2,q3⟩|⟨q1,q2⟩
  .exact⟨p2,by rw[eh M,q3],q2⟩
  .rw[e]at q1;exact absurd (dY q1).symm (q2 po)
 refine⟨λi b=>o i b/\∃po,c[i]?=aa (.own po),⟨by rw[L];exact B.len,r.ex,λi pv e=>?_,λi po e=>?_,λi b h=>?_,λi j b w y=>r.dist i j b w.1 y.1⟩,λb ⟨i,h⟩=>⟨i,h.1⟩,λO b ⟨i,h⟩=>?_⟩
 .rcases E i _ e with⟨_,_,_,_,z⟩|⟨q1,_⟩
  .cases z
  .obtain⟨v,w,y⟩:=B.val i pv q1;exact⟨v,w,y.grow g B.fit⟩
 .rcases E i _ e with⟨p1,p2,q1,q2,q3⟩|⟨_,q2⟩
  .cases q3;obtain⟨a,w,y,N⟩:=inj i p1 q1;obtain⟨W,D,G⟩:=r.own i po q2;rw[y]at D;cases D;refine⟨a,w,?_⟩;have T:(λb=>o i b/\∃po,c[i]?=aa (.own po))=o i:=by funext b;exact propext ⟨λz=>z.1,λz=>⟨z,p1,q1⟩⟩
   rw[T];exact G
  .exact absurd rfl (q2 po)
 .obtain⟨po,q⟩:=h.2;obtain⟨s,J,I⟩:=bk i po q;exact⟨⟨s,J⟩,(r.foot i b h.1).2⟩
 .obtain⟨⟨po,q⟩,_⟩:=B.foot i b h;obtain⟨a,w,y,N⟩:=inj i po q;obtain⟨s,J,I⟩:=bk i po q;obtain⟨W,D,G⟩:=r.own i s I;rw[y]at D;cases D;have e:b=a:=(Bw N (O i po q) b).mp h;exact⟨i,e ▸ IL G,po,q⟩
end
theorem pj{K:ar}{E:XK}{a:List V}{F:ac->Prop}{S:Nat->ac->Prop}{H:Hp}{r:R Slot}{Q:VK}(h:vD K E a F S H r Q):r≠.no:=λz=>by rw[z]at h;exact h
theorem w_{K:ar}{g:ag->R Slot}{m:Nat}(f:∀a,g a≠.no->a.length=m):∀b H Q E,bj K g b H Q E->b.length=m:=λb H Q E ⟨F,S,a,c,ok⟩=>by have:=f a (pj ok);have d:=c.len;rw[cf]at d;lia
theorem Nr{X:Cx}{E:XK}{s:List aU}{N P:List Str}{q:List V}{H:Hp}{Q:VK}{n:Nat}{g:ag->R Slot}{d:ag->R aE}{y:List Nat}(hn:N.length=P.length+n)(bB:∀a,g a≠.no->a.length=P.length) (gf:∀a,g a≠.no->∀(i:Nat) po,a[i]?=aa (.own po)->i∈y) (Z:∀a o m,g a=.ok o m->(∃pv,o=.val pv)\/∀(i:Nat) po,a[i]?=aa (.own po)->gQ po=ai) (hg:∀a,g a≠.no->a6 n d a=g a)(hb:fj X E y s d) (iI:bj X.K g q H Q E):ny X s {nx:=λ_ l=>Q .non l,rt:=Q} (L2.start N q) H:=by
 obtain⟨F,S,a,K,ok⟩:=iI;have hl:=bB a (pj ok);have h2:=K.len;rw[cf]at h2;have es:L2.start N q=q.map aa++cY n ae:=by unfold L2.start;rw[show N.length-q.length=n by lia]
 rw[es];refine hb F S _ _ H _ (K.start n) ?_;have W:=gf a (pj ok);have O:=hg a (pj ok);have J:=Z a;rw[<-O]at ok J;unfold a6 at ok J;generalize d (a++cY n .none)=r at ok J ⊢;cases r with
 |no=>exact ok
 |er c h=>
  intro x p B j l C f D;have ok:vD X.K E q F S H ((aG (back a h) []).bind λm _=>.er c m) Q:=ok;cases e:back a h with
  |none=>rw[e]at ok;exact ok.elim
  |some m=>rw[e]at ok;obtain⟨A,u,sub,_⟩:=K.back C f D W e;exact ok x p A l u ⟨f.fro,f.keep,f.there,f.fnew,λb z=>f.onew b (sub b z)⟩
 |ok fl h=>
  have G:∀(o:Slot),(∀m,back a h=aa m->(∃pv,o=.val pv)\/∀(i:Nat) po,a[i]?=aa (.own po)->gQ po=ai)->vD X.K E q F S H ((aG (back a h) []).bind λm _=>.ok o m) Q->∀(v:V) p B j l I,aH X.K p B h j l->a5 (U S) (λb=>U B b\/I b) F p H l->gJ y (q.map aa++cY n ae) j->pe X.K l p o v I->nQ p B l I->Q v l:=by
   intro o M ok v p B j l I C f D T L;cases e:back a h with
   |none=>rw[e]at ok;exact ok.elim
   |some m=>
    rw[e]at ok;obtain⟨A,u,sub,Y⟩:=K.back C f D W e;refine ok v p A l I u ⟨f.fro,f.keep,f.there,f.fnew,λb z=>f.onew b (z.imp (sub b) id)⟩ T (λb z=>⟨(L b z).1,λw=>(L b z).2.1 (sub b w),(L b z).2.2⟩) λb z=>?_;rcases M m e with⟨pv,rfl⟩|hf
    .exact absurd z (T.2 b)
    rcases f.onew b (.inr z)with w|w
    .exact absurd (sub b (Y hf b w)) (L b z).2.1
    .exact w
  cases fl with
  |brk=>exact ok.elim
  |cont=>exact ok.elim
  |ret o=>exact G o (λm e=>J o m (by show(aG (back a h) []).bind _=_;rw[e];rfl)) ok
  |next=>exact λp B j l C f D=>G (.val .non) (λ_ _=>.inl ⟨_,rfl⟩) ok .non p B j l (λ_=>False) C ⟨f.fro,f.keep,f.there,f.fnew,λb z=>z.elim (f.onew b) iZ⟩ D ⟨rfl,λ_ z=>z⟩ λ_ z=>z.elim
theorem wX{f:ac}{p:gb}{D:dQ}{P:aY}{w:aR}{K:ar}{v:Str->Option ah}{j:aC}{x b:Str}{h:aU}{N l:List Str}{k n:Nat}{g:ag->R Slot}{d:ag->R aE}{m:List Nat}(Z:ki K x b h f p)(Y:bJ N l (aJ h))(M:N.length=l.length+n)(hb:∀(kV o u:ah) (B:Option ac) (C y:ah) (q:List ah),q.length=l.length->dP (fG x b (fI h) (df h) (aJ h) .none kV o u B C y) ⟨q,[]⟩=pure (l.zip q))(z:∀c,g c≠.no->c.length=l.length) (S:∀c,g c≠.no->∀(i:Nat) po,c[i]?=aa (.own po)->i∈m) (G:∀c r X,g c=.ok r X->(∃pv,r=.val pv)\/∀(i:Nat) po,c[i]?=aa (.own po)->gQ po=ai) (O:∀c,g c≠.no->a6 n d c=g c)(T:∀(A:aX) (a:List Env) (s:am) (H:Hp) (E:XK),Room k (A.deeper (fD b (aJ h) s.heap.objs.size f p.code))->fj (eO D P w K v j N b (aJ h) f p.code A a s H E) E m (df h) d):fO P w K v j D (k+1) f p l (bj K g):=by obtain⟨oc,od,kV,o,u,B,C,y,F,rfl,I,W⟩:=Z.ex;exact wJ I W Y (w_ z) λA a s H vs Q E L J=>⟨_,lA,Nr M z S G O (T A a s H E L) J⟩
theorem Ch{f:ac}{u:gb}{B:dQ}{P:aY}{w:aR}{K:ar}{y:Str->Option ah}{l:aC}{x b:Str}{j:aU}{N m:List Str}{k n:Nat}{g:ag->R Slot}{d:ag->R aE}{p:List Nat}(Q:ki K x b j f u)(O:bJ N m (aJ j))(D:N.length=m.length+n)(G:∀(kV v C:ah) (M:Option ac) (q J:ah) (r:List ah),r.length=m.length->dP (fG x b (fI j) (df j) (aJ j) .none kV v C M q J) ⟨r,[]⟩=pure (m.zip r))(L:∀c,g c≠.no->c.length=m.length) (z:∀c,g c≠.no->∀(i:Nat) o,c[i]?=aa (.own o)->i∈p/\gQ o=ai) (F:∀c,g c≠.no->a6 n d c=g c)(I:∀(f:ac) (q:ah) (A:aX) (a:List Env) (s:am) (H:Hp) (E:XK),Room k (A.deeper (fD b (aJ j) s.heap.objs.size f q))->fj (eO B P w K y l N b (aJ j) f q A a s H E) E p (df j) d):fO P w K y l B (k+1) f u m (bj K g):=wX Q O D G L (λc h i o e=>(z c h i o e).1) (λc S T h=>.inr λi o e=>(z c (by rw[h];exact nofun) i o e).2) F λA a s H E=>I f u.code A a s H E
theorem NR{v:dQ}{P:aY}{w:aR}{K:ar}{p:Str->Option ah}{c:aC}{x:Str}{b:aU}{N j:List Str}{k n:Nat}{g:ag->R Slot}{d:ag->R aE}{l:List Nat}(D:cS K p x b)(O:bJ N j (aJ b))(z:N.length=j.length+n)(u:∀(kV q y:ah) (M:Option ac) (m J:ah) (o:List ah),o.length=j.length->dP (fG x x (fI b) (df b) (aJ b) .none kV q y M m J) ⟨o,[]⟩=pure (j.zip o))(L:∀a,g a≠.no->a.length=j.length) (F:∀a,g a≠.no->∀(i:Nat) po,a[i]?=aa (.own po)->i∈l/\gQ po=ai) (C:∀a,g a≠.no->a6 n d a=g a)(G:∀(f:ac) (m:ah) (A:aX) (h:List Env) (s:am) (H:Hp) (E:XK),Room k (A.deeper (fD x (aJ b) s.heap.objs.size f m))->fj (eO v P w K p c N x (aJ b) f m A h s H E) E l (df b) d):cK v P w K p c x (k+1) j (bj K g):=by obtain⟨f,I,B,r⟩:=D.ex;exact⟨f,I,B,Ch r O z u L F C G,r.binds u,r.kp⟩
abbrev bK:=Sum PV Nat
def eK(K:ar)(b:St)(F:ac->Prop)(H:Hp):List bK->List V->Prop
 |[],a=>a=[]
 |.inl pv::c,a=>∃v r,a=v::r/\aO K H F pv v/\eK K b F H c r
 |.inr i::c,a=>∃v r,a=v::r/\b[i]?=aa (aa v)/\eK K b F H c r
def DG(X:Cx)(E:XK)(g:List ay)(d:ag->R (List bK)):Prop :=
 ∀F S b a H Q,aH X.K F S b a H->Ok X.K E a F S H (d b) (λh _ i _ f=>∀c,eK X.K a i f h c->Q c f)->m8 X g a H Q
section
variable{X:Cx}{E:XK}{e:ay}{b:List ay}{de:ag->R PV}{c:ag->R (List bK)}{f:Pos}
def bE:ag->R (List bK):=λε=>.ok [] ε
def gV(d:ag->R PV)(c:ag->R (List bK)):ag->R (List bK):=λε=>(d ε).bind λx ε1=>(c ε1).bind λxs a=>.ok (.inl x::xs) a
def gO(i:Nat)(c:ag->R (List bK)):ag->R (List bK):=λε=>match ε[i]? with
 |some (.own _)=>(c ε).bind λd a=>.ok (.inr i::d) a
 |_=>.no
theorem bH:DG X E [] bE:=λF S g d H Q a h=>l_ jB (h F S H a (a5.refl ..) _ rfl)
theorem GO(s:DE X E e de)(r:DG X E b c)(q:aL (e::b) X.env=(aj,aK e X.env)::aL b X.env:=by rfl):DG X E (e::b) (gV de c):=λF S j d H Q n h=>by refine l_ (io bx fU q) (s F S j d H _ n ((Ok.bind h).imp λx a G A C g J w v m=>?_));refine r G A a d C _ g ((Ok.bind w).imp λI i D z B o y u l p=>?_);exact u D z B o (a5.refl ..) _ ⟨v,l,rfl,m.grow y g.fit,p⟩
theorem gk(i:Nat){x:Str}{p:Pos}(v:DG X E b c)(y:X.N[i]?=aa x:=by rfl)(s:dR X.env.scope x:=by eq_refl)(w:(x==("__debug__":Str))=aj:=by decide)(A:(x==("__classdict__":Str))=aj:=by decide) (u:aL (.Name x p::b) X.env=(aj,aK (.Name x p) X.env)::aL b X.env:=by rfl):DG X E (.Name x p::b) (gO i c):=λF S m j H Q d h=>by
 unfold gO at h;split at h
 .rename_i q e;obtain⟨a,g,_⟩:=d.own i q e;refine l_ (io (eC y s w A) fU u) ⟨_,g,v F S m j H _ d ((Ok.bind h).imp λG l D B C o I z n r=>?_)⟩;exact z D B C o (a5.refl ..) _ ⟨_,n,rfl,g,r⟩
 .exact h.elim
end
def cn(ε:ag):List bK->Option ag
 |[]=>aa []
 |.inl pv::a=>(cn ε a).map (.val pv::·)
 |.inr i::a=>match ε[i]? with
  |some (.own b)=>(cn ε a).map (.own b::·)
  |_=>ae
def cI:ag->List bK->ag->ag
 |ε,.inl _::b,_::a=>cI ε b a
 |ε,.inr i::b,s::a=>cI (ε.set i s) b a
 |ε,_,_=>ε
def bv:List bK->List Nat
 |[]=>[]
 |.inl _::as=>bv as
 |.inr i::as=>i::bv as
theorem B1:∀{as:List bK}{i:Nat},i∈bv as↔∃k:Nat,as[k]?=aa (.inr i)
 |[],i=>by simp[bv]
 |.inl _::as,i=>by
  unfold bv;rw[B1];constructor
  .rintro⟨k,h⟩;exact⟨k+1,by simpa using h⟩
  .rintro⟨k,h⟩;cases k with
   |zero=>simp at h
   |succ k=>exact⟨k,by simpa using h⟩
 |.inr j::as,i=>by
  unfold bv;rw[bV,B1];constructor
  .rintro(rfl|⟨k,h⟩)
   .exact⟨0,rfl⟩
   .exact⟨k+1,by simpa using h⟩
  .rintro⟨k,h⟩;cases k with
   |zero=>simp at h;exact .inl h.symm
   |succ k=>exact .inr ⟨k,by simpa using h⟩
theorem vm{d:ag}:∀{a:List bK}{c:ag},cn d a=aa c->c.length=a.length/\∀(k:Nat) (s:Slot),c[k]?=aa s->(∃pv,a[k]?=aa (.inl pv)/\s=.val pv)\/∃i f,a[k]?=aa (.inr i)/\d[i]?=aa (.own f)/\s=.own f
 |[],c,h=>by cases h;exact⟨rfl,λk s e=>by simp at e⟩
 |.inl pv::a,c,h=>by
  unfold cn at h;cases e:cn d a with
  |none=>rw[e]at h;cases h
  |some r=>
   rw[e]at h;cases h;obtain⟨l,q⟩:=vm e;refine⟨by simp[l],λk s b=>?_⟩;cases k with
   |zero=>simp at b;exact .inl ⟨pv,rfl,b.symm⟩
   |succ k=>simpa using q k s (by simpa using b)
 |.inr i::a,c,h=>by
  unfold cn at h;split at h
  .rename_i f g;cases e:cn d a with
   |none=>rw[e]at h;cases h
   |some r=>
    rw[e]at h;cases h;obtain⟨l,q⟩:=vm e;refine⟨by simp[l],λk s b=>?_⟩;cases k with
    |zero=>simp at b;exact .inr ⟨i,f,rfl,g,b.symm⟩
    |succ k=>simpa using q k s (by simpa using b)
  .cases h
theorem uE:∀(c:List bK) (a b:ag),(cI a c b).length=a.length
 |[],a,b=>by cases b <;> rfl
 |.inl _::c,a,[]=>rfl
 |.inr _::c,a,[]=>rfl
 |.inl _::c,a,s::b=>uE c a b
 |.inr i::c,a,s::b=>by show(cI (a.set i s) c b).length=_;rw[uE,iG]
theorem pA:∀(a:List bK) (b c:ag) (j:Nat),j∉bv a->(cI b a c)[j]?=b[j]?
 |[],b,c,j,_=>by cases c <;> rfl
 |.inl _::a,b,[],j,_=>rfl
 |.inr _::a,b,[],j,_=>rfl
 |.inl _::a,b,s::c,j,h=>pA a b c j h
 |.inr i::a,b,s::c,j,h=>by
  have d:¬(j=i\/j∈bv a):=by simpa[bv]using h
  show(cI (b.set i s) a c)[j]?=_;rw[pA a _ c j λz=>d (.inr z),cP λz=>d (.inl z.symm)]
theorem qE:∀(a:List bK) (b c:ag) (j k:Nat) (s:Slot),(bv a).Nodup->j<b.length->a[k]?=aa (.inr j)->c[k]?=aa s->(cI b a c)[j]?=aa s
 |[],b,c,j,k,s,_,_,h,_=>by simp at h
 |_::a,b,[],j,k,s,_,_,_,h=>by simp at h
 |.inl _::a,b,t::c,j,0,s,_,_,h,_=>by simp at h
 |.inl _::a,b,t::c,j,k+1,s,nd,hj,h,g=>qE a b c j k s nd hj (by simpa using h) (by simpa using g)
 |.inr i::a,b,t::c,j,0,s,nd,hj,h,g=>by simp at h g;subst h g;have d:i∉bv a:=(jT.mp nd).1;show(cI (b.set i t) a c)[i]?=_;rw[pA a _ c i d,dw hj]
 |.inr i::a,b,t::c,j,k+1,s,nd,hj,h,g=>qE a (b.set i t) c j k s (jT.mp nd).2 (by rw[iG];exact hj) (by simpa using h) (by simpa using g)
theorem eK.len{K:ar}{σ:St}{F:ac->Prop}{H:Hp}:∀{a:List bK}{b:List V},eK K σ F H a b->b.length=a.length
 |[],_,h=>by rw[show _=[] from h];rfl
 |.inl _::a,_,⟨v,r,e,_,h⟩=>by rw[e,e_,e_,eK.len h]
 |.inr _::a,_,⟨v,r,e,_,h⟩=>by rw[e,e_,e_,eK.len h]
theorem eK.val{K:ar}{σ:St}{F:ac->Prop}{H:Hp}:∀{as:List bK}{c:List V}{k:Nat}{pv:PV},eK K σ F H as c->as[k]?=aa (.inl pv)->∃v,c[k]?=aa v/\aO K H F pv v
 |[],_,k,_,_,e=>by simp at e
 |.inl x::as,_,0,pv,⟨v,r,e,h,_⟩,q=>by simp at q;subst q e;exact⟨v,rfl,h⟩
 |.inr _::as,_,0,pv,_,q=>by simp at q
 |.inl x::as,_,k+1,pv,⟨v,r,e,_,h⟩,q=>by obtain⟨w,a,b⟩:=eK.val (k:=k) h (by simpa using q);subst e;exact⟨w,by simpa using a,b⟩
 |.inr x::as,_,k+1,pv,⟨v,r,e,_,h⟩,q=>by obtain⟨w,a,b⟩:=eK.val (k:=k) h (by simpa using q);subst e;exact⟨w,by simpa using a,b⟩
theorem eK.own{K:ar}{σ:St}{F:ac->Prop}{H:Hp}:∀{as:List bK}{c:List V}{k i:Nat},eK K σ F H as c->as[k]?=aa (.inr i)->∃v,c[k]?=aa v/\σ[i]?=aa (aa v)
 |[],_,k,_,_,e=>by simp at e
 |.inr x::as,_,0,pv,⟨v,r,e,h,_⟩,q=>by simp at q;subst q e;exact⟨v,rfl,h⟩
 |.inl _::as,_,0,pv,_,q=>by simp at q
 |.inl x::as,_,k+1,pv,⟨v,r,e,_,h⟩,q=>by obtain⟨w,a,b⟩:=eK.own (k:=k) h (by simpa using q);subst e;exact⟨w,by simpa using a,b⟩
 |.inr x::as,_,k+1,pv,⟨v,r,e,_,h⟩,q=>by obtain⟨w,a,b⟩:=eK.own (k:=k) h (by simpa using q);subst e;exact⟨w,by simpa using a,b⟩
section
variable{K:ar}{F A:ac->Prop}{S m:Nat->ac->Prop}{c s f:ag}{u:St}{H y:Hp}{as:List bK}{d:List V}
def km(as:List bK)(S:Nat->ac->Prop)(k:Nat)(b:ac):Prop:=∃i,as[k]?=aa (.inr i)/\S i b
theorem uZ(b:ac)(h:U (km as S) b):U S b:=let ⟨_,i,_,h⟩:=h;⟨i,h⟩
theorem vW:∀{as:List bK}{i k l:Nat},(bv as).Nodup->as[k]?=aa (.inr i)->as[l]?=aa (.inr i)->k=l
 |[],_,_,_,_,h,_=>by simp at h
 |.inl _::as,i,0,_,_,h,_=>by simp at h
 |.inl _::as,i,_,0,_,_,h=>by simp at h
 |.inl _::as,i,k+1,l+1,nd,h1,h2=>by rw[vW (as:=as) (i:=i) (k:=k) (l:=l) nd (by simpa using h1) (by simpa using h2)]
 |.inr j::as,i,0,0,_,_,_=>rfl
 |.inr j::as,i,0,l+1,nd,h1,h2=>by simp at h1;subst h1;exact absurd (B1.mpr ⟨l,by simpa using h2⟩) (jT.mp nd).1
 |.inr j::as,i,k+1,0,nd,h1,h2=>by simp at h2;subst h2;exact absurd (B1.mpr ⟨k,by simpa using h1⟩) (jT.mp nd).1
 |.inr j::as,i,k+1,l+1,nd,h1,h2=>by rw[vW (as:=as) (i:=i) (k:=k) (l:=l) (jT.mp nd).2 (by simpa using h1) (by simpa using h2)]
theorem aH.cal(r:aH K F S c u H)(C:eK K u F H as d)(J:cn c as=aa s)(nd:(bv as).Nodup):aH K F (km as S) s (d.map aa) H:=by
 obtain⟨G,B⟩:=vm J;have D:∀{k:Nat}{v:V},d[k]?=aa v->(d.map aa)[k]?=aa (aa v):=λ{k v} e=>by rw[jU,e];rfl
 refine⟨by rw[G,cf,C.len],r.ex,λk pv e=>?_,λk E e=>?_,λk b h=>?_,λk l b g o=>?_⟩
 .rcases B k _ e with⟨p,q1,n⟩|⟨_,_,_,_,z⟩
  .cases n;obtain⟨v,x,w⟩:=C.val q1;exact⟨v,D x,w⟩
  .cases z
 .rcases B k _ e with⟨_,_,z⟩|⟨i,p,q1,n,q3⟩
  .cases z
  .cases q3;obtain⟨v,x,w⟩:=C.own q1;obtain⟨a,b1,b2⟩:=r.own i E n;rw[w]at b1;cases b1;have L:km as S k=S i:=by
    funext b;exact propext ⟨λ⟨j,g,o⟩=>by rw[q1]at g;cases g;exact o,λh=>⟨i,q1,h⟩⟩
   exact⟨a,D x,by rw[L];exact b2⟩
 .obtain⟨i,g,o⟩:=h;obtain⟨⟨E,q⟩,n⟩:=r.foot i b o;have I:k<s.length:=by rw[G];exact(cq.mp g).1
  refine⟨?_,n⟩;rcases B k s[k] (by simp[I])with⟨_,z,_⟩|⟨j,p,z1,z2,z3⟩
  .rw[g]at z;cases z
  .exact⟨p,by rw[eh I,z3]⟩
 .obtain⟨i,x,w⟩:=g;obtain⟨j,b1,b2⟩:=o;have:=r.dist i j b w b2;subst this;exact vW nd x b1
theorem aH.called{O':ac->Prop}(r:aH K F S c u H)(ha:eK K u F H as d)(hs:cn c as=aa s)(nd:(bv as).Nodup)(O:aH K A m f (d.map aa) y)(g:a5 (U (km as S)) O' F A H y)(hO:∀b,U m b->O' b)(M:∀(k:Nat) i,as[k]?=aa (.inr i)->∃D,f[k]?=aa (.own D)):∃Y,aH K A Y (cI c as f) u y/\a5 (U S) (U Y) F A H y/\∀b,U Y b->U m b\/U S b:=by
 have up:∀{k:Nat}{v:V},(d.map aa)[k]?=aa (aa v)->d[k]?=aa v:=λ{k v} e=>by
  rw[jU]at e;cases q:d[k]? with
  |none=>rw[q]at e;cases e
  |some x=>rw[q]at e;cases e;rfl
 have fit:Fit (U (km as S)) F H:=λb h=>r.fit b (uZ b h);have L:∀i D,c[i]?=aa (.own D)->i<c.length:=λi D e=>(cq.mp e).1;have lt:∀(k:Nat) i,as[k]?=aa (.inr i)->i<c.length:=λk i e=>by
  obtain⟨hl,hg⟩:=vm hs;have E:k<s.length:=by rw[hl];exact(cq.mp e).1
  rcases hg k s[k] (by simp[E])with⟨_,z,_⟩|⟨j,p,z1,z2,z3⟩
  .rw[e]at z;cases z
  .rw[e]at z1;cases z1;exact L _ _ z2
 refine⟨λj b=>(∃k:Nat,as[k]?=aa (.inr j)/\m k b)\/(j∉bv as/\S j b),⟨by rw[uE];exact r.len,O.ex,λj pv e=>?_,λj D e=>?_,λj b h=>?_,λi j b B C=>?_⟩,⟨g.fro,λb o e n=>g.keep b o e λz=>n (uZ b z),g.there,λa z=>(g.fnew a z).imp id λw=>w.imp id (uZ a),λb ⟨j,z⟩=>?_⟩,λb ⟨j,z⟩=>?_⟩
 .by_cases I:j∈bv as
  .obtain⟨k,E⟩:=B1.mp I;obtain⟨D,q⟩:=M k j E;rw[qE as c f j k _ nd (lt k j E) E q]at e;cases e
  .rw[pA as c f j I]at e;obtain⟨v,B,C⟩:=r.val j pv e;exact⟨v,B,C.grow g fit⟩
 .by_cases I:j∈bv as
  .obtain⟨k,E⟩:=B1.mp I;obtain⟨po',q⟩:=M k j E;rw[qE as c f j k _ nd (lt k j E) E q]at e;cases e;obtain⟨a,B,C⟩:=O.own k D q;obtain⟨v,Q,X⟩:=ha.own E;rw[up B]at Q;cases Q;have W:(λb=>(∃k:Nat,as[k]?=aa (.inr j)/\m k b)\/(j∉bv as/\S j b))=m k:=by
    funext b;refine propext ⟨λz=>?_,λz=>.inl ⟨k,E,z⟩⟩;rcases z with⟨l,z1,z2⟩|⟨z,_⟩
    .rw[vW nd E z1];exact z2
    .exact absurd I z
   exact⟨a,X,by rw[W];exact C⟩
  .rw[pA as c f j I]at e;obtain⟨a,B,C⟩:=r.own j D e;have W:(λb=>(∃k:Nat,as[k]?=aa (.inr j)/\m k b)\/(j∉bv as/\S j b))=S j:=by
    funext b;refine propext ⟨λz=>?_,λz=>.inr ⟨I,z⟩⟩;rcases z with⟨l,z1,z2⟩|⟨_,z⟩
    .exact absurd (B1.mpr ⟨l,z1⟩) I
    .exact z
   have h3:dG K y A D a (S j):=by refine C.mono (λ_ _ q=>q.grow g fit) (λ_ _ q=>q.grow g fit) λb o z q=>g.keep b o q λ⟨l,i,N,J⟩=>?_;have:=r.dist i j b J z;subst this;exact I (B1.mpr ⟨l,N⟩)
   exact⟨a,B,by rw[W];exact h3⟩
 .rcases h with⟨k,B,C⟩|⟨B,C⟩
  .obtain⟨⟨D,q⟩,T⟩:=O.foot k b C;exact⟨⟨D,qE as c f j k _ nd (lt k j B) B q⟩,T⟩
  .obtain⟨⟨D,q⟩,T,o,P,q4⟩:=r.foot j b C;have no:¬U (km as S) b:=λ⟨l,i,N,J⟩=>by have:=r.dist i j b J C;subst this;exact B (B1.mpr ⟨l,N⟩)
   refine⟨⟨D,by rw[pA as c f j B];exact q⟩,λz=>?_,o,g.keep b o P no,q4⟩;rcases g.fnew b z with w|w|w
   .exact T w
   .rw[P]at w;cases w
   .exact no w
 .have G:∀{i j:Nat}{b:ac},(∃k:Nat,as[k]?=aa (.inr i)/\m k b)->(j∉bv as/\S j b)->False:=λ{i j b} ⟨k,N,J⟩ ⟨w3,Z⟩=>by
   obtain⟨_,_,o,P,_⟩:=r.foot j b Z;rcases g.onew b (hO b ⟨k,J⟩)with⟨l,i',z1,z2⟩|z
   .have:=r.dist i' j b z2 Z;subst this;exact w3 (B1.mpr ⟨l,z1⟩)
   .rw[P]at z;cases z
  rcases B with B|B <;> rcases C with C|C
  .obtain⟨k,Q,X⟩:=B;obtain⟨l,b1,b2⟩:=C;have:=O.dist k l b X b2;subst this;rw[Q]at b1;cases b1;rfl
  .exact(G B C).elim
  .exact(G C B).elim
  .exact r.dist i j b B.2 C.2
 .rcases z with⟨k,_,z⟩|⟨_,z⟩
  .rcases g.onew b (hO b ⟨k,z⟩)with w|w
   .exact .inl (uZ b w)
   .exact .inr w
  .exact .inl ⟨j,z⟩
 .rcases z with⟨k,_,z⟩|⟨_,z⟩
  .exact .inl ⟨k,z⟩
  .exact .inr ⟨j,z⟩
end
def DR(X:Cx)(E:XK)(e:ay)(d:ag->R Slot):Prop :=
 ∀F S f a H Q,aH X.K F S f a H->Ok X.K E a F S H (d f) (λs _ h i c=>∀v g,pe X.K c h s v g->(∀b,g b->H b=ae/\¬h b/\¬U i b/\∃o,c b=aa o/\dA o)->Q v c)->fY X e a H Q
def cG:List bK->ag->Bool
 |[],_=>ai
 |.inl _::as,_::ss=>cG as ss
 |.inr _::as,.own _::ss=>cG as ss
 |_,_=>aj
theorem lj:∀{as:List bK}{ss:ag},cG as ss=ai->∀(k:Nat) i,as[k]?=aa (.inr i)->∃a,ss[k]?=aa (.own a)
 |[],_,_,k,i,h=>by simp at h
 |.inl _::as,s::ss,q,0,i,h=>by simp at h
 |.inl _::as,s::ss,q,k+1,i,h=>by simpa using lj (as:=as) (ss:=ss) (by unfold cG at q;exact q) k i (by simpa using h)
 |.inr _::as,.own a::ss,q,0,i,h=>⟨a,rfl⟩
 |.inr _::as,.own a::ss,q,k+1,i,h=>by simpa using lj (as:=as) (ss:=ss) (by unfold cG at q;exact q) k i (by simpa using h)
 |.inr _::as,.val _::ss,q,k,i,h=>by cases q
 |.inr _::as,.none::ss,q,k,i,h=>by cases q
 |.inl _::as,[],q,k,i,h=>by cases q
 |.inr _::as,[],q,k,i,h=>by cases q
def cH{d:Type}(ε:ag)(b:List bK)(r:R d):R d:=match r with
 |.ok s a=>if cG b a then .ok s (cI ε b a)else .no
 |.er c a=>if cG b a then .er c (cI ε b a)else .no
 |.no=>.no
def aD(g:ag->R Slot)(c:ag->R (List bK)):ag->R Slot:=λε=>(c ε).bind λa ε1=>(aG (if(bv a).Nodup then cn ε1 a else ae) ε1).bind λb ε1=>cH ε1 a (g b)
section
variable{l:dQ}{X:Cx}{E:XK}{pin:List Nat}{e:ay}{es:List ay}{j:ag->R (List bK)}{pos:Pos}{x:Str}{k:Nat}{m:List Str}{g:ag->R Slot}{p:Pos}{d:ag->R Slot}
theorem LP{K:ar}{F0 r:ac->Prop}{S0 B:Nat->ac->Prop}{a:ag}{F:St}{H n:Hp}{c:List bK}{Y:List V}{Q:VK}(A:aH K r B a F n)(g1:a5 (U S0) (U B) F0 r H n)(O:eK K F r n c Y)(q:Ok K E F r B n ((aG (if(bv c).Nodup then cn a c else ae) a).bind λC a=>cH a c (g C)) λs _ u T h=>∀v D,pe K h u s v D->(∀b,D b->H b=ae/\¬u b/\¬U T b/\∃o,h b=aa o/\dA o)->Q v h):bj K g Y n Q E:=by
 have q:=Ok.bind q;by_cases nd:(bv c).Nodup
 .rw[if_pos nd]at q;cases es:cn a c with
  |none=>rw[es]at q;exact q.elim
  |some C=>
   rw[es]at q;have q:=q r B n A (a5.refl ..);dsimp only at q;refine⟨r,km c B,C,A.cal O es nd,?_⟩;cases N:g C with
   |no=>rw[N]at q;exact q.elim
   |er cv P=>
    rw[N]at q;intro y u T h I M;unfold cH at q;dsimp only at q;by_cases f:cG c P=ai
    .rw[if_pos f]at q;obtain⟨S,G,L,_⟩:=A.called O es nd I M (λ_ z=>z) (lj f);exact q y u S h G L
    .rw[if_neg f]at q;exact q.elim
   |ok s P=>
    rw[N]at q;intro v u T h D I M rv J Z;unfold cH at q;dsimp only at q;by_cases f:cG c P=ai
    .rw[if_pos f]at q;obtain⟨S,G,L,u2⟩:=A.called O es nd I M (λ_ z=>.inl z) (lj f);refine q u S h G L v D rv λb z=>⟨kY g1 (Z b z),(J b z).1,λw=>?_,(J b z).2.2⟩
     rcases u2 b w with w|⟨i,w⟩
     .exact(J b z).2.1 w
     .obtain⟨_,_,o,W,_⟩:=A.foot i b w;rw[Z b z]at W;cases W
    .rw[if_neg f]at q;exact q.elim
 .rw[if_neg nd]at q;exact q.elim
theorem bU(c:cK l X.prog X.w X.K X.mg X.base x k m (bj X.K g))(s:Room k X.A)(r:iQ l X E)(A:DG X E (e::es) j)(w:Gl X x:=by rfl)(y:(x==("__debug__":Str))=aj:=by decide) (C:aL (e::es) X.env=(aj,aK e X.env)::aL es X.env:=by rfl) (B:(ce pos (aL es X.env)).any (·.1)=aj:=by rfl):DR X E (.Call (.Name x p) (e::es) [] pos) (aD g j):=λF S i a H Q n h=>by obtain⟨f,K,u,I,z,v⟩:=c.ex;refine bW (Bl I s w u v z .nil r fU y C B) (A F S i a H _ n ((Ok.bind h).imp λL b O M N o D q J G=>?_));rw[kB];exact LP o D G q
def jM:Slot->Option PV
 |.val pv=>aa pv
 |.own (.lst a)=>aa (.lst a)
 |_=>ae
def ax(d:ag->R Slot):ag->R PV:=λε=>(d ε).bind λs ε1=>aG (jM s) ε1
def La:Slot->Option PO
 |.own a=>aa a
 |_=>ae
def rD(d:ag->R Slot):ag->R PO:=λb=>(d b).bind λs a=>aG (La s) a
theorem DR.dn(h:DR X E e d):DN X E e (rD d):=λF S f i H Q u q=>by
 unfold rD at q;refine h F S f i H Q u ?_;cases b:d f with
 |no=>rw[b]at q;exact q.elim
 |er c o=>rw[b]at q;exact q
 |ok s n=>
  rw[b]at q;cases s with
  |none=>exact q.elim
  |val pv=>exact q.elim
  |own I=>intro G C D w z v B r A;obtain⟨a,rfl,y⟩:=r;exact q G C D w z a B y A
theorem DR.de(h:DR X E e d):DE X E e (ax d):=λF S ε f H Q i q=>by
 unfold ax at q;cases b:d ε with
 |no=>rw[b]at q;exact q.elim
 |er c n=>refine h F S ε f H Q i ?_;rw[b]at q ⊢;exact q
 |ok s ε1=>
  cases s with
  |none=>rw[b]at q;exact q.elim
  |val pv=>refine h F S ε f H Q i ?_;rw[b]at q ⊢;exact λG B D u z v J r I=>q G B D u z v r.1
  |own w=>
   refine h.dn.de F S ε f H Q i ?_;unfold dF rD;rw[b]at q ⊢;cases w with
   |lst o=>exact q
   |dK a=>exact q
   |lls A=>exact q
   |dL A=>exact q
   |ins C fs=>exact q
   |dT a=>exact q
   |dN a=>exact q
   |inl C fs y o=>exact q
def oF(d:ag->R Slot):ag->R aE:=λε=>(d ε).bind λs a=>.ok (.ret s) a
theorem wT(C:DR X E e d):DS X E pin (.Return (aa e) pos) (oF d):=λF S n f H D y h=>by
 refine eD (oN bx) (C F S n f H _ y ?_);unfold oF at h;cases i:d n with
 |no=>rw[i]at h;exact h.elim
 |er c r=>rw[i]at h;exact λx O K M B G=>h x O K f M B G (gJ.refl _ _)
 |ok s q=>rw[i]at h;intro N J L A a v I u o;exact h v N J f L I A ⟨a.fro,a.keep,a.there,a.fnew,λb z=>z.elim (a.onew b) λw=>.inr (o b w).1⟩ (gJ.refl _ _) u λb z=>(o b z).2
def gX(d:ag->R Slot):ag->R aE:=λε=>(d ε).bind λ_ a=>.ok .next a
theorem oy(o:DR X E e d)(n:gD e ae pos.line X.env=pure aj:=by rfl):DS X E pin (.Expr e pos) (gX d):=λF S c a H D f h=>eD (u9 bx n) (o F S c a H _ f (h.bindE.imp λx b u r s i y q v A w z=>q u r a s i (a5.refl ..) (gJ.refl _ _)))
end
end Pu
namespace L2
section
variable{X:Cx}{m:List (ac×Obj)}{j:St}{H:Hp}{s:am}{d:dm}{x:Str}{l:List Str}{i:List Nat}
theorem JE{F r T:ay}{y:Str}{py K G:Pos}{J k:Nat}{S:V->Hp->St->Prop}{E:List ay}{wi:TI}{ts:TT}{te:TE}(B:f8 X d x l i)(hk:k<=i.length)(hc:X.calm=ai)(hi:PI X T r wi)(eJ:∀C w A ex Y,PG (cx X d l C w A ex Y) T λv P H Q=>∃vs,vs.length=k+1/\P.length=l.length/\S v H vs/\Q (vs++P.drop (k+1)) H)(ht:∀C w A ex Y,pc (cx X d l C w A ex Y) E ts) (he:∀C w A ex Y,PE (cx X d l C w A ex Y) F te) (hN:X.N.Nodup) (tJ:X.N[J]?=aa y) (tK:Loc X.env.scope y) (tL:gD (.ListComp F [⟨T,r,E,0⟩] d K) (aa (.Name y py)) G.line X.env=pure ai) (hf:X.fn y=ai\/X.env.scope.names.lookup y=aa .local) (hs:∀x,mE r X.env x=pure x):PS X (.Assign [.Name y py] (.ListComp F [⟨T,r,E,0⟩] d K) G) (λD j H=>za wi S k ts te i j H λv H'=>D.nx (j.set J (aa v)) H'):=by
 intro m s j H D I h;rw[exec_Assign_Name_used _ _ _ _ tL];refine au (wpAny_standAt (au ?_));show aw _ X.A (do let _ <-comprehension (.ListComp F [⟨T,r,E,0⟩] d K) d X.env _ (newList []) aj (aK r X.env) (aa (assign (.Name y py) X.env))) _ _ s;refine au (eF (?_:aw _ X.A _ (λ_ s'=>SP X m D .next s') X.xe s) (λ_ s' hq=>aN (aN hq)) λ_ _ e=>e);refine Dj (use:=aa (assign (.Name y py) X.env)) B hk hc hi eJ ht he hs I h λ{N s6 H3 H5 fp σ5 a f} I3 f3 I6 q=>?_;obtain⟨mm,hn6,_⟩:=I6.loc;have J6:Inv X m j _ _:=I3.unblock f3 I6 (Heap.SameBut.refl _ _);have Z:N.heap.objs.size≠X.env.locals:=λe=>absurd I3.lt (by rw[<-e];exact dZ _);have nce:∀z c,X.env.cells.lookup z=aa c->c≠N.heap.objs.size:=λz c e M=>by obtain⟨vv,oo,ho,_⟩:=I3.cell z c e;exact absurd (bo ho) (by rw[M];exact dZ _)
 refine wpAny_assign_Name (Dd (v:=.ref a) J6 hN tJ tK rfl (λs7 I7 ⟨a7,sb7,ha7⟩=>?_) hf);have na7:N.heap.objs.size≠a7:=by
  rcases ha7 with z|z
  .rw[z];exact Z
  .exact(nce _ _ z).symm
 refine⟨mm,hn6.sameBut sb7 na7,λkK W=>⟨_,_,?_,q⟩⟩;have L:H5 N.heap.objs.size=ae:=I6.free;refine I7.call' (s':={s7 with heap:=kK}) (ch:=[N.heap.objs.size]) rfl ⟨λb o e n hb O=>?_,λb o e n hb O=>?_,λb o e n O=>n,λb o e O=>?_,λb xs e=>e,λb o u e=>e,λb ps e=>⟨e,λc o M g=>⟨(W.2 c (λz=>by rw[z,L]at M;cases M)).trans g,M⟩⟩⟩ ?_ I7.bare λb hb=>?_
 .exact(W.2 b (by simpa using O)).trans e
 .exact⟨o.slots,(W.2 b (by simpa using O)).trans (by simpa using e)⟩
 .exact⟨o,(W.2 b (by simpa using O)).trans e⟩
 .intro b u e;refine(I7.hok b u e).stay (λc v hc q=>(W.2 c ?_).trans q) (λ_ q=>q) λ_ _ q=>q;rintro rfl;rcases hc with z|z
  .rw[<-z,L]at e;cases e
  .rw[L]at z;cases z
 .have e:b=N.heap.objs.size:=by simpa using hb
  subst e;refine⟨.inr I3.sz,Z,nce,λp hp M=>?_⟩;obtain⟨e3,_⟩:=I3.pin p hp;exact absurd (bo e3) (by rw[M];exact dZ _)
theorem Nb{n a:ay}{y:Str}{p u o f:Pos}{g:Nat}{h:List ay}{wi:TI}{ts:TT}{te:TE}(B:f8 X d x l i)(K:X.calm=ai)(G:PI X (.Name x p) a wi)(E:∀C b c r q,pc (cx X d l C b c r q) h ts) (J:∀C b c r q,PE (cx X d l C b c r q) n te) (L:X.N.Nodup) (A:X.N[g]?=aa y) (z:Loc X.env.scope y) (w:gD (.ListComp n [⟨.Name x p,a,h,0⟩] d o) (aa (.Name y u)) f.line X.env=pure ai) (I:X.fn y=ai\/X.env.scope.names.lookup y=aa .local) (F:∀x,mE a X.env x=pure x):PS X (.Assign [.Name y u] (.ListComp n [⟨.Name x p,a,h,0⟩] d o) f) (λD j H=>y_ wi ts te i j H λv M=>D.nx (j.set g (aa v)) M):=JE B (g6 _) K G (Az B) E J L A z w I F
end
end L2
namespace Pu
open L2
def c0(ε:ag):List Nat->Option (List bK)
 |[]=>aa []
 |j::cap=>match ε[j]? with
  |some (.val pv)=>(c0 ε cap).map (.inl pv::·)
  |some (.own _)=>(c0 ε cap).map (.inr j::·)
  |_=>ae
def bO{b:Type}(cap:List Nat)(d:ag->R b)(x:PV):ag->R b:=λε=>(aG (c0 ε cap) ε).bind λa _=>(aG (if(bv a).Nodup then cn ε (.inl x::a)else ae) ε).bind λc _=>cH ε (.inl x::a) (d c)
def bp{a:Type}(r:R a):R a:=match r with
 |.er _ _=>.no
 |r=>r
def dD(cap:List Nat)(dt:ag->R Bool)(de:ag->R PV):List PV->List PV->ag->R (List PV)
 |[],b,ε=>.ok b ε
 |x::d,b,ε=>(bp (bO cap dt x ε)).bind λk a=>match k with
  |true=>(bp (bO cap de x a)).bind λy c=>dD cap dt de d (b++[y]) c
  |false=>dD cap dt de d b a
def cj(cap:List Nat)(d:ag->R (List PV))(dt:ag->R Bool)(de:ag->R PV):ag->R PO:=λε=>(d ε).bind λc ε1=>(dD cap dt de c [] ε1).bind λb a=>.ok (.lst b) a
theorem wS{K:ar}{F:ac->Prop}{S:Nat->ac->Prop}{f:ag}{d:St}{H:Hp}(r:aH K F S f d H):∀{b:List Nat}{i:List bK},c0 f b=aa i->∃c,eK K d F H i c/\d4 d b=c.map aa
 |[],i,h=>by cases h;exact⟨[],rfl,rfl⟩
 |j::b,i,h=>by
  unfold c0 at h;split at h
  .rename_i pv e;cases q:c0 f b with
   |none=>rw[q]at h;cases h
   |some bs=>
    rw[q]at h;cases h;obtain⟨c,m,l⟩:=wS r q;obtain⟨v,g,n⟩:=r.val j pv e;refine⟨v::c,⟨v,c,rfl,n,m⟩,?_⟩;show(d[j]?).join::d4 d b=_;rw[g,l];rfl
  .rename_i o e;cases q:c0 f b with
   |none=>rw[q]at h;cases h
   |some bs=>
    rw[q]at h;cases h;obtain⟨c,m,l⟩:=wS r q;obtain⟨a,g,n⟩:=r.own j o e;refine⟨.ref a::c,⟨_,c,rfl,g,m⟩,?_⟩;show(d[j]?).join::d4 d b=_;rw[g,l];rfl
  .cases h
theorem uv{K:ar}{E:XK}{F:ac->Prop}{S:Nat->ac->Prop}{s:ag}{f:St}{H:Hp}{G:Type}{b:List Nat}{d:ag->R G}{x:PV}{v:V}{C:G->ag->(ac->Prop)->(Nat->ac->Prop)->Hp->Prop}(r:aH K F S s f H) (N:aO K H F x v) (h:Ok K E f F S H (bp (bO b d x s)) C):∃L l,aH K F L l (aa v::d4 f b) H/\Ok K E0 (aa v::d4 f b) F L H (d l) (λa _ q _ p=>∃j w,aH K q w j f p/\a5 (U S) (U w) F q H p/\C a j q w p):=by
 unfold bO at h;cases B:c0 s b with
 |none=>rw[B]at h;exact h.elim
 |some g=>
  rw[B]at h;simp only[cW,R.bind_ok]at h;by_cases nd:(bv g).Nodup
  .rw[if_pos nd]at h;cases u:cn s (.inl x::g)with
   |none=>rw[u]at h;exact h.elim
   |some l=>
    rw[u]at h;simp only[cW,R.bind_ok]at h;obtain⟨y,T,Q⟩:=wS r B;have o:eK K f F H (.inl x::g) (v::y):=⟨v,y,rfl,N,T⟩
    have n:aa v::d4 f b=(v::y).map aa:=by rw[Q];rfl
    have m:(bv (.inl x::g)).Nodup:=nd;refine⟨km (.inl x::g) S,l,by rw[n];exact r.cal o u m,?_⟩;rw[n];cases A:d l with
    |no=>rw[A]at h;exact h.elim
    |er c D=>
     rw[A]at h;unfold cH at h;dsimp only at h;by_cases i:cG (.inl x::g) D=ai
     .rw[if_pos i]at h;exact h.elim
     .rw[if_neg i]at h;exact h.elim
    |ok a D=>
     rw[A]at h;intro q w p O P;unfold cH at h;dsimp only at h;by_cases i:cG (.inl x::g) D=ai
     .rw[if_pos i]at h;obtain⟨M,I,J,_⟩:=r.called o u m O P (λ_ z=>z) (lj i);exact⟨_,M,I,J,h q M p I J⟩
     .rw[if_neg i]at h;exact h.elim
  .rw[if_neg nd]at h;exact h.elim
def u6(X:Cx)(a:List ay):TT:=λb H Q=>Bx (∀d s,Inv X d b H s->aw (az X.prog X.w) X.A (forIn a ai λc r=>if r=ai then do let ok <-lK c X.env (aK c X.env);pure (ForInStep.yield ok)else pure (ForInStep.yield r)) (TP X d b Q) X.xe s)
def DF(X:Cx)(E:XK)(c:List ay)(d:ag->R Bool):Prop:=∀F S f a H Q,aH X.K F S f a H->Ok X.K E a F S H (d f) (λb _ _ _ g=>Q b g)->u6 X c a H Q
def cb:ag->R Bool:=λε=>.ok ai ε
theorem m_{X:Cx}{E:XK}:DF X E [] cb:=λF S d a H Q b h=>⟨λc s I=>IC c s a H Q I (h F S H b (a5.refl ..))⟩
theorem o5{X:Cx}{E:XK}{c:ay}{d:ag->R Bool}(h:DT X E c d):DF X E [c] d:=λF S b a H Q f q=>⟨λg s I=>NV nA g s a H Q I (h F S b a H Q f q)⟩
theorem Ok.bindB{K:ar}{E:XK}{b:St}{F s:ac->Prop}{S n:Nat->ac->Prop}{H p:Hp}{j i:Type}{D:i->ag->(ac->Prop)->(Nat->ac->Prop)->Hp->Prop}{r:R j}{k:j->ag->R i}(h:Ok K E b F S H (r.bind k) D)(g:a5 (U S) (U n) F s H p):Ok K E b s n p r (λa d _ _ _=>Ok K E b F S H (k a d) D):=by
 cases r with
 |no=>exact h
 |er c f=>exact λx u o q l m=>h x u o q l (g.trans m)
 |ok a f=>exact λu o q l m=>h
section
variable{X:Cx}{E:XK}{c:dm}{x:Str}{N':List Str}{cap:List Nat}
theorem a5.stay{O a F d:ac->Prop}{H b:Hp}(g:a5 O a F d H b){l:ac}{o:HO}(e:H l=aa o)(n:¬O l)(f:¬F l):b l=aa o/\¬d l/\¬a l :=
 ⟨g.keep l o e n,λz=>(g.fnew l z).elim f λw=>w.elim (λq=>by rw[e]at q;cases q) n,λz=>(g.onew l z).elim n λq=>by rw[e]at q;cases q⟩
theorem aH.lay{K:ar}{F:ac->Prop}{S:Nat->ac->Prop}{h:ag}{g:St}{H:Hp}{l:ac}{o o':HO}(r:aH K F S h g H)(v:H l=aa o)(no:dA o)(u:¬F l)(nS:¬U S l):a5 (λb=>U S b\/b=l) (U S) F F H (L2.upd H l o')/\Fit (λb=>U S b\/b=l) F H/\aH K F S h g (L2.upd H l o'):=by
 have f:a5 (λb=>U S b\/b=l) (U S) F F H (L2.upd H l o'):=⟨λ_ z=>z,λb o e n=>by rw[bF λz=>n (.inr z)];exact e,λb o e=>by
  by_cases i:b=l
  .subst i;exact⟨_,cg⟩
  .exact⟨o,by rw[bF i];exact e⟩,λ_ z=>.inl z,λ_ z=>.inl (.inl z)⟩
 have ft:Fit (λb=>U S b\/b=l) F H:=λb z=>by
  rcases z with z|rfl
  .exact r.fit b z
  .exact⟨u,_,v,no⟩
 refine⟨f,ft,r.len,λb z=>let ⟨o,q⟩:=r.ex b z;f.there b o q,λj pv e=>?_,λj s e=>?_,λj b z=>?_,r.dist⟩
 .obtain⟨w,d,a⟩:=r.val j pv e;exact⟨w,d,a.grow f ft⟩
 .obtain⟨w,d,a⟩:=r.own j s e;refine⟨w,d,a.mono (λ_ _ q=>q.grow f ft) (λ_ _ q=>q.grow f ft) λb o z q=>?_⟩;rw[bF (by rintro rfl;exact nS ⟨j,z⟩)];exact q
 .obtain⟨d,a,o,p,m⟩:=r.foot j b z;exact⟨d,a,o,by rw[bF (by rintro rfl;exact nS ⟨j,z⟩)];exact p,m⟩
theorem a5.lay{O d F h:ac->Prop}{H f:Hp}{l:ac}{o':HO}(g:a5 O d F h H f)(a:H l=ae):a5 O d F h H (L2.upd f l o'):=by
 refine⟨g.fro,λb o e n=>?_,λb o e=>?_,g.fnew,g.onew⟩
 .rw[bF (by rintro rfl;rw[a]at e;cases e)];exact g.keep b o e n
 .obtain⟨i,q⟩:=g.there b o e;exact⟨i,by rw[bF (by rintro rfl;rw[a]at e;cases e)];exact q⟩
theorem B7{elt B:ay}{px:Pos}{ifs:List ay}{di:ag->R (List PV)}{dt:ag->R Bool}{de:ag->R PV}(hi:DI X E (.Name x px) B di)(ht:∀C d f r p,DF (cx X c N' C d f r p) E0 ifs dt) (he:∀C d f r p,DE (cx X c N' C d f r p) E0 elt de){F:ac->Prop}{S:Nat->ac->Prop}{ε:ag}{j:St}{H:Hp}{Q:VK} (rl:aH X.K F S ε j H) (h:Ok X.K E j F S H (cj cap di dt de ε) (λpo _ s M g=>∀a Sa,dG X.K g s po a Sa->(∀b,Sa b->H b=ae/\¬s b/\¬U M b/\∃o,g b=aa o/\dA o)->Q (.ref a) g)):y_ (pC X (.Name x px) B) (λj H Q=>∀C d f r p,u6 (cx X c N' C d f r p) ifs j H Q) (λj H Q=>∀C d f r p,fY (cx X c N' C d f r p) elt j H Q) cap j H Q:=by
 refine hi F S ε j H _ rl ((Ok.bind h).imp λA ε1 O S1 H1 r1 g1 h1 J vs RR rs hz hw keep l hl=>?_);have h1:=h1.bind;have hvl:vs.length=A.length:=rs.len;have a0:Al O O H1 (upd H1 l (.lst [])):=Al.new0 hl;have nF1:¬O l:=λz=>by obtain⟨o,q⟩:=r1.ex l z;rw[hl]at q;cases q
 have nS1:¬U S1 l:=λ⟨i,z⟩=>by obtain⟨_,_,o,q,_⟩:=r1.foot i l z;rw[hl]at q;cases q
 have hH:H l=ae:=kY g1 hl;refine⟨λi m G g=>m=A.length-i/\i<=A.length/\∃s M Z T,aH X.K s M Z j g/\a5 (U S1) (U M) O s H1 g/\g l=aa (.lst G)/\¬s l/\¬U M l/\ba X.K g s T G/\G.length<=i /\ Ok X.K E j O S1 H1 (dD cap dt de (A.drop i) T Z) (λys' w W S2 N=>Ok X.K E j W S2 N (R.ok (PO.lst ys') w) (λpo _ s M g=>∀a Sa,dG X.K g s po a Sa->(∀b,Sa b->H b=ae/\¬s b/\¬U M b/\∃o,g b=aa o/\dA o)->Q (.ref a) g)),⟨_,rfl,g6 _,O,S1,ε1,[],r1.al a0,a0.grow,cg,nF1,nS1,rfl,bd _,h1⟩,?_⟩;rintro i m G N ⟨rfl,hi,W,S2,w,T,P,L,el,nF2,nS2,n,hyl,q2⟩;have RH:=keep S2 W N L;by_cases bG:i<A.length
 .obtain⟨v,hv⟩:∃v,vs[i]?=aa v:=⟨_,eh ∅⟩
  obtain⟨go,yl⟩:=(hw N RH i).1 v hv;refine .inr ⟨go,λv' g y=>⟨[aa v'],rfl,rfl,?_⟩⟩;obtain⟨e1,e2⟩:=yl v' g y;subst e1 e2;obtain⟨px',hx,rx⟩:=rs.back hv;have ed:A.drop i=px'::A.drop (i+1):=by rw[zO bG];congr 1;exact(cq.mp hx).2
  rw[ed]at q2;have rx2:=rx.grow L r1.fit;have q3:=Ok.bindB q2 L;obtain⟨Sb,ss,rb,okb⟩:=uv P rx2 q3;intro C d f r p;refine ht C d f r p W Sb ss _ g _ rb (okb.imp λb _ F3 _ H3 _ _ ⟨Y,S3,r3,K,q4⟩=>?_);obtain⟨el3,nF3,nS3⟩:=K.stay el nS2 nF2;cases b with
  |false=>exact nj ⟨_,∅,rfl,bG,F3,S3,Y,T,r3,L.trans K,el3,nF3,nS3,n.grow K P.fit,∅,q4⟩
  |true=>refine nD ?_;have q5:Ok X.K E j O S1 H1 ((bp (bO cap de px' Y)).bind λy w=>dD cap dt de (A.drop (i+1)) (T++[y]) w) _:=q4;obtain⟨Sc,sc,rc,okc⟩:=uv r3 (rx2.grow K P.fit) (Ok.bindB q5 (L.trans K));intro C d f r p;refine he C d f r p F3 Sc sc _ H3 _ rc (okc.imp λy _ F4 _ H4 _ _ ⟨ε4,S4,r4,g4,q6⟩ u ru=>?_);obtain⟨el4,nF4,nS4⟩:=g4.stay el3 nS3 nF3;have I:=(n.grow K P.fit).grow g4 r3.fit;obtain⟨gl,D,r5⟩:=r4.lay (o':=.lst (G++[u])) el4 trivial nF4 nS4;have g5:=((L.trans K).trans g4).lay (o':=.lst (G++[u])) hl;refine⟨el4,?_,_,∅,rfl,bG,F4,S4,ε4,T++[y],r5,g5,cg,nF4,nS4,(I.grow gl D).app (.one (ru.grow gl D)),by simp;lia,q6⟩;lia
 .have e:i=A.length:=∅
  subst e;refine .inl ⟨(hw N RH _).2 hvl.symm,?_⟩;rw[zP]at q2;exact q2 W S2 N P L W S2 N P (a5.refl ..) l (λb=>b=l) ⟨⟨G,el,n⟩,λb=>p8⟩ λb z=>by subst z;exact⟨hH,nF2,nS2,_,el,trivial⟩
theorem ja{j d:ay}{m pos:Pos}{i:List ay}{o:ag->R (List PV)}{dt:ag->R Bool}{de:ag->R PV}(B:f8 X c x N' cap)(w:X.calm=ai)(u:DI X E (.Name x m) d o)(q:∀C a b g f,DF (cx X c N' C a b g f) E0 i dt) (v:∀C a b g f,DE (cx X c N' C a b g f) E0 j de) (r:∀x,mE d X.env x=pure x:=by intro _;rfl):DN X E (.ListComp j [⟨.Name x m,d,i,0⟩] c pos) (cj cap o dt de):=λF S y l H Q p h=>bW (Jw (wi:=pC X (.Name x m) d) (ts:=λl H Q=>∀C a b g f,u6 (cx X c N' C a b g f) i l H Q) (te:=λl H Q=>∀C a b g f,fY (cx X c N' C a b g f) j l H Q) (pos:=pos) B w vY (λC a b g f n s l H Q I h=>(h C a b g f).run n s I) (λC a b g f n s l H Q I h=>(h C a b g f).run n s I) r) (B7 u q v p h)
end
theorem Ha(x y:Tx):tS x++tS y=tS (x++y):=by
 show(⟨x.toArray++y.toArray⟩:Str)=⟨(x++y).toArray⟩
 simp
def a9:PV->PV->Option PV
 |.int i,.int j=>aa (.int (i+j))
 |.str x,.str y=>if(x++y).length<=b0 then aa (.str (x++y))else ae
 |.tup b,.tup a=>if b≠[]/\a≠[]/\b.length+a.length<=1000 then aa (.tup (b++a))else ae
 |.lst b,.lst a=>if b.length+a.length<=b0 then aa (.lst (b++a))else ae
 |_,_=>ae
def ga:PV->PV->Option PV
 |.int i,.int j=>aa (.int (i-j))
 |_,_=>ae
def sd(i:Int):Bool:=decide (-(2^64)<i/\i<2^64)
def jK:PV->PV->Option PV
 |.int i,.int j=>if sd i||sd j then aa (.int (i*j))else ae
 |.str x,.int j=>if 0<=j/\j<=100/\x.length<=100 then aa (.str (cY j.toNat x).flatten)else ae
 |_,_=>ae
def fZ:PV->PV->Option PV
 |.int i,.int j=>if 0<j then aa (.int (i % j))else ae
 |_,_=>ae
def ri:PV->PV->Option PV
 |.int i,.int j=>if 0<=j/\j<=1000000/\i.natAbs<2^64 then aa (.int (i^j.toNat))else ae
 |_,_=>ae
def jx:PV->Option PV
 |.int i=>aa (.int (-i))
 |_=>ae
def Cy:R2:=λx y H Q=>∃l b c a,x=.ref l/\y=.ref b/\Rd H l (.lst c)/\Rd H b (.lst a)/\c.length+a.length<=bc/\∀p,H p=ae->Q (.ref p) (upd H p (.lst (c++a)))
def BO(K:ar):R2:=λx y H Q=>((ju λi j=>V.int (i+j)) x y H Q\/∃i j,x=.str i/\y=.str j/\i.length+j.length<=bc/\Q (.str (i++j)) H)\/(Bo K x y H Q\/Cy x y H Q)
def CM:R2:=λx y H Q=>rI ym (λi j=>.int (i*j)) x y H Q\/∃(z:Tx) (n:Nat),x=tV z/\y=.int n/\n<=100/\z.length<=100/\Q (tV (cY n z).flatten) H
section
variable{X:Cx}{K:ar}
theorem oA:P2 K (ju λi j=>.int (i-j)) ga:=λF H x y v u Q pv b a e q=>by
 unfold ga at e;split at e
 .cases e;exact⟨_,_,b,a,q _ F H (Al.refl ..) rfl⟩
 .cases e
theorem sw:P2 K (rI (λ_ j=>0<j) λi j=>.int (i % j)) fZ:=λF H x y v u Q pv b a e q=>by
 unfold fZ at e;split at e
 .split at e
  .cases e;exact⟨_,_,b,a,by assumption,q _ F H (Al.refl ..) rfl⟩
  .cases e
 .cases e
theorem NW:P2 K (rI BJ λi j=>.int (i^j.toNat)) ri:=λF H x y v u Q pv b a e q=>by
 unfold ri at e;split at e
 .split at e
  .cases e;exact⟨_,_,b,a,by assumption,q _ F H (Al.refl ..) rfl⟩
  .cases e
 .cases e
theorem DM:P1 K (rU λi=>.int (-i)) jx:=λF H x v Q pv a e q=>by
 unfold jx at e;split at e
 .cases e;exact⟨_,a,q _ F H (Al.refl ..) rfl⟩
 .cases e
theorem yC{d:List (ac×Obj)}{c:St}{H:Hp}{s:am}{l:ac}{b:List V}(I:Inv X d c H s)(h:Rd H l (.lst b)):∃(a:List ah) (n:Nat),bq b a/\s.heap.get? l=aa {cls:=.type "list",data:=.seq a.toArray n}/\b.length<=bc:=by obtain⟨z,a,n,r,e⟩:=h.ok I.hok;exact⟨a,n,r,e,z⟩
theorem HV:bT X (iX .Add) Cy:=by
 intro D s p H x y v u Q I i g h;obtain⟨l,b,z,w,rfl,rfl,f,j,C,q⟩:=h;cases i;cases g;obtain⟨c,n,r,e,_⟩:=yC I f;obtain⟨a,A,d,o,_⟩:=yC I j;have f:=r.length;have B:=d.length;refine PySem.P.add_list e o ?_ (by rw[cu,cu];lia);have m:c.toArray++a.toArray=(c++a).toArray:=by simp
 rw[m];exact⟨.ref _,_,I.lnew (t':=s.toks) (r.append d) (by rw[eG];lia),rfl,q _ I.fresh⟩
theorem eX:bT X (iX .Add) (BO X.K):=(OB.or HJ).or (Ov.or HV)
theorem eT:P2 K (BO K) a9:=λF H x y v u Q pv l j e q=>by
 unfold a9 at e;split at e
 .cases e;exact .inl (.inl ⟨_,_,l,j,q _ F H (Al.refl ..) rfl⟩)
 .rename_i x y;split at e
  .rename_i c;cases e;refine .inl (.inr ⟨_,_,l.1,j.1,?_,?_⟩)
   .rw[kl,kl];rw[eG]at c;exact cO c jA
   .exact q _ F H (Al.refl ..) ⟨by rw[Ha];rfl,c⟩
  .cases e
 .rename_i w s;split at e
  .rename_i c;cases e;obtain⟨a,n,rfl,r,f⟩:=l;obtain⟨b,m,rfl,o,d⟩:=j;have h:=f.len;have g:=d.len;refine .inr (.inl ⟨a,b,n,m,rfl,rfl,cM.of r,cM.of o,λz=>c.1 (by rw[z]at h;exact sN h.symm),by rw[h,g];exact xP c.2.2,λz=>absurd (by rw[z]at g;exact sN g.symm) c.2.1,λ_ p i=>?_⟩);exact q _ F _ (Al.new0 i) ⟨p,_,rfl,cg,(Al.new0 i).reps (f.app d)⟩
  .cases e
 .rename_i w s;split at e
  .rename_i c;cases e;obtain⟨a,n,rfl,r,B,f⟩:=l;obtain⟨b,m,rfl,o,A,d⟩:=j;have h:=f.len;have g:=d.len;refine .inr (.inr ⟨a,b,n,m,rfl,rfl,r,o,by rw[h,g];exact cO c jA,λp i=>?_⟩);exact q _ _ _ (Al.new i) ⟨p,_,rfl,.inl cg,.inr rfl,(Al.new i).reps (f.app d)⟩
  .cases e
 .cases e
theorem xZ:bT X (iX .Mult) CM:=Oo.or KR
theorem xF:P2 K CM jK:=λF H x y v u Q pv b a e q=>by
 unfold jK at e;split at e
 .rename_i i j;split at e
  .rename_i h;cases e;refine .inl ⟨_,_,b,a,?_,q _ F H (Al.refl ..) rfl⟩;rw[n6]at h;exact h.imp of_decide_eq_true of_decide_eq_true
  .cases e
 .rename_i x j;split at e
  .rename_i h;cases e;refine .inr ⟨x,j.toNat,b.1,?_,∅,h.2.2,q _ F H (Al.refl ..) ⟨rfl,?_⟩⟩
   .rw[show u=V.int j from a];congr 1;lia
   .rw[JR];have c:j.toNat<=100:=∅
    exact cO (Nat.mul_le_mul c h.2.2) (by decide)
  .cases e
 .cases e
def bR(f:Int->Int->Bool):PV->PV->Option PV
 |.int i,.int j=>aa (.bl (f i j))
 |_,_=>ae
theorem fS{f:Int->Int->Bool}:P2 K (ju λi j=>.bl (f i j)) (bR f):=λF H x y v u Q pv b a e q=>by
 unfold bR at e;split at e
 .cases e;exact⟨_,_,b,a,q _ F H (Al.refl ..) rfl⟩
 .cases e
def dy:PV->Option V
 |.non=>aa .non
 |.bl b=>aa (.bl b)
 |.int i=>aa (.int i)
 |.str x=>aa (tV x)
 |_=>ae
theorem je{H:Hp}{F:ac->Prop}{x:PV}{v w:V}(r:aO K H F x v)(e:dy x=aa w):v=w:=by
 cases x <;> simp[dy]at e <;> subst e
 .exact r
 .exact r
 .exact r
 .exact r.1
theorem ue{x:PV}{w:V}(e:dy x=aa w):gv w=ai:=by
 cases x <;> simp[dy]at e <;> subst e <;> rfl
mutual
def cV:PV->PV->Option Bool
 |.tup c,y=>match y with
  |.tup a=>fR c a
  |_=>ae
 |.lst c,y=>match y with
  |.lst a=>fR c a
  |_=>ae
 |.non,y=>(dy y).map (fk .non)
 |.bl b,y=>(dy y).map (fk (.bl b))
 |.int i,y=>(dy y).map (fk (.int i))
 |.str x,y=>(dy y).map (fk (tV x))
 |.raw _,_=>ae
 |.exc _,_=>ae
def fR:List PV->List PV->Option Bool
 |[],c=>aa c.isEmpty
 |x::d,c=>match c with
  |[]=>aa aj
  |y::c=>(cV x y).bind λa=>(fR d c).map λb=>a&&b
end
mutual
def iu:PV->Nat
 |.tup a=>gA a+1
 |.lst a=>gA a+1
 |_=>0
def gA:List PV->Nat
 |[]=>0
 |x::a=>max (iu x) (gA a)
end
theorem Ed{H:Hp}{d a:Nat}{x y:V}{k:Bool}(h:gn K H d x y k)(l:d<=a):gn K H a x y k:=λX g i b s u v A I f c j=>h X g i b s u v A I f c ∅
theorem u8{H:Hp}{F:ac->Prop}{w:V}{y:PV}{u:V}{k:Bool}{d:Nat}(b:gv w=ai)(e:(dy y).map (fk w)=aa k)(a:aO K H F y u):gn K H d w u k:=by
 cases q:dy y with
 |none=>rw[q]at e;cases e
 |some z=>
  rw[q]at e;cases e;rw[je a q];exact GC b (ue q)
theorem Gc{H:Hp}{a:ac}{c b:List V}(h:Rd H a (.lst c))(g:Rd H a (.lst b)):c=b:=by
 rcases h with h|⟨o,h⟩ <;> rcases g with g|⟨d,g⟩ <;> rw[h]at g <;> cases g <;> rfl
theorem NF{a:Bool}{e:Nat->Bool}{n m:Nat}:fq (λj=>if j=0 then a else e (j-1)) (n+1) (m+1)=(a&&fq e n m):=by
 unfold fq;rw[show min (n+1) (m+1)=min n m+1 by lia,zG,pR,we,if_pos rfl,Bool.and_assoc];congr 1;congr 1
 .simp
mutual
theorem xL{H:Hp}{F:ac->Prop}:∀(x y:PV) {v:V}{k:Bool},cV x y=aa k->aO K H F x v->aO K H F y v->k=ai
 |.tup h,y,v,k,e,d,c=>by
  unfold cV at e;split at e
  .obtain⟨a,n,rfl,j,f⟩:=d;obtain⟨b,m,l,g,i⟩:=c;cases l;rw[j]at g;cases g;exact yy h _ e f i
  .cases e
 |.lst h,y,v,k,e,d,c=>by
  unfold cV at e;split at e
  .obtain⟨a,n,rfl,j,_,f⟩:=d;obtain⟨b,m,l,g,_,i⟩:=c;cases l;rw[Gc j g]at f;exact yy h _ e f i
  .cases e
 |.non,y,v,k,e,d,c=>by
  unfold cV at e;cases q:dy y with
  |none=>rw[q]at e;cases e
  |some z=>rw[q]at e;cases e;rw[<-je c q,show v=V.non from d];rfl
 |.bl b,y,v,k,e,d,c=>by
  unfold cV at e;cases q:dy y with
  |none=>rw[q]at e;cases e
  |some z=>rw[q]at e;cases e;rw[<-je c q,show v=V.bl b from d];exact beq_self_eq_true b
 |.int b,y,v,k,e,d,c=>by
  unfold cV at e;cases q:dy y with
  |none=>rw[q]at e;cases e
  |some z=>rw[q]at e;cases e;rw[<-je c q,show v=V.int b from d];exact beq_self_eq_true b
 |.str b,y,v,k,e,d,c=>by
  unfold cV at e;cases q:dy y with
  |none=>rw[q]at e;cases e
  |some z=>rw[q]at e;cases e;rw[<-je c q,show v=tV b from d.1];exact beq_self_eq_true (tS b)
 |.raw _,_,_,_,e,_,_=>by unfold cV at e;cases e
 |.exc _,_,_,_,e,_,_=>by unfold cV at e;cases e
theorem yy{H:Hp}{F:ac->Prop}:∀(d c:List PV) {f:List V}{k:Bool},fR d c=aa k->ba K H F d f->ba K H F c f->k=ai
 |[],c,f,k,e,i,g=>by
  unfold fR at e;rw[show f=[] from i]at g;have:=g.len;cases c with
  |nil=>cases e;rfl
  |cons=>simp at this
 |x::d,c,f,k,e,i,g=>by
  unfold fR at e;obtain⟨v,r,rfl,m,l⟩:=i;cases c with
  |nil=>have:=g.len;simp at this
  |cons y c=>
   obtain⟨q,s,p,o,n⟩:=g;cases p;simp only at e;cases h:cV x y with
   |none=>rw[h]at e;cases e
   |some a=>
    cases j:fR d c with
    |none=>rw[h,j]at e;cases e
    |some b=>
     rw[h,j]at e;cases e;rw[xL x y h m o,yy d c j l n];rfl
end
mutual
theorem N2{H:Hp}{F:ac->Prop}:∀(x y:PV) {v u:V}{k:Bool},cV x y=aa k->aO K H F x v->aO K H F y u->gn K H (iu x) v u k
 |.tup i,y,v,u,k,e,d,c=>by
  have p:=e;unfold cV at e;split at e
  .rename_i h;obtain⟨a,r,rfl,o,l⟩:=id d;obtain⟨b,q,rfl,n,j⟩:=id c;by_cases g:a=b
   .subst g;rw[xL _ _ p d c];exact AF
   .obtain⟨f,m,rfl⟩:=rK i h e l j;unfold iu;exact Hq (cM.of o) (cM.of n) g m
  .cases e
 |.lst i,y,v,u,k,e,d,c=>by
  have p:=e;unfold cV at e;split at e
  .rename_i h;obtain⟨a,r,rfl,o,_,l⟩:=id d;obtain⟨b,q,rfl,n,_,j⟩:=id c;by_cases g:a=b
   .subst g;rw[xL _ _ p d c];exact AF
   .obtain⟨f,m,rfl⟩:=rK i h e l j;unfold iu;exact Fh (.inl o) (.inl n) g m
  .cases e
 |.non,y,v,u,k,e,d,c=>by unfold cV at e;rw[show v=V.non from d];exact u8 rfl e c
 |.bl b,y,v,u,k,e,d,c=>by unfold cV at e;rw[show v=V.bl b from d];exact u8 rfl e c
 |.int b,y,v,u,k,e,d,c=>by unfold cV at e;rw[show v=V.int b from d];exact u8 rfl e c
 |.str b,y,v,u,k,e,d,c=>by unfold cV at e;rw[show v=tV b from d.1];exact u8 rfl e c
 |.raw _,_,_,_,_,e,_,_=>by unfold cV at e;cases e
 |.exc _,_,_,_,_,e,_,_=>by unfold cV at e;cases e
theorem rK{H:Hp}{F:ac->Prop}:∀(d c:List PV) {g i:List V}{k:Bool},fR d c=aa k->ba K H F d g->ba K H F c i -> ∃f:Nat->Bool,(∀(j:Nat) x y,g[j]?=aa x->i[j]?=aa y->gn K H (gA d) x y (f j))/\k=fq f g.length i.length
 |[],c,g,i,k,e,n,l=>by
  unfold fR at e;rw[show g=[] from n];refine⟨λ_=>ai,λj x y h=>by simp at h,?_⟩;have:=l.len;cases e;unfold fq;cases c with
  |nil=>simp at this;simp[this]
  |cons=>rw[this];simp
 |x::d,c,g,i,k,e,n,l=>by
  unfold fR at e;obtain⟨v,r,rfl,B,A⟩:=n;cases c with
  |nil=>
   cases e;rw[show i=[] from l];exact⟨λ_=>ai,λj x y _ h=>by simp at h,by simp[fq]⟩
  |cons y c=>
   obtain⟨u,E,rfl,D,C⟩:=l;simp only at e;cases m:cV x y with
   |none=>rw[m]at e;cases e
   |some a=>
    cases o:fR d c with
    |none=>rw[m,o]at e;cases e
    |some b=>
     rw[m,o]at e;cases e;obtain⟨f,z,rfl⟩:=rK d c o A C;refine⟨λj=>if j=0 then a else f (j-1),λj p q w s=>?_,by rw[e_,e_,NF]⟩;cases j with
     |zero=>simp at w s;subst w s;show gn K H _ _ _ (if(0:Nat)=0 then a else f (0-1));rw[if_pos rfl];exact Ed (N2 x y m B D) (by unfold gA;exact Nat.le_max_left _ _)
     |succ j=>show gn K H _ _ _ (if j+1=0 then a else f (j+1-1));rw[if_neg ∅];exact Ed (z j p q (by simpa using w) (by simpa using s)) (show gA d<=max (iu x) (gA d)from Nat.le_max_right _ _)
end
def eqT(neg:Bool)(x y:PV):Option PV:=match dy x,dy y with
 |some v,aa u=>if nH v u then aa (.bl (neg^^decide (v=u)))else ae
 |none,ae=>if iu x<=8 then(cV x y).map λk=>.bl (neg^^k)else ae
 |_,_=>ae
def Ds(K:ar):R2:=λx y H Q=>CD x y H Q\/qY K aj x y H Q
def AB(K:ar):R2:=λx y H Q=>BQ x y H Q\/qY K ai x y H Q
theorem kn(a:X.A.units+64<cLine):bT X (dJ .Eq) (Ds X.K):=Ox.or (FD a)
theorem AU(a:X.A.units+64<cLine):bT X (dJ .NotEq) (AB X.K):=OK.or (Li a)
theorem Dt{H:Hp}{F:ac->Prop}{x y:PV}{v u:V}{k:Bool}{Q:VK}{neg:Bool}(h:dy x=ae)(e:cV x y=aa k)(B:iu x<=8)(A:aO K H F x v)(w:aO K H F y u)(q:Q (.bl (neg^^k)) H):qY K neg v u H Q:=by
 have d:∀{g:Bool},k=g->Q (.bl (if neg=ai then !g else g)) H:=λ{g} z=>by subst z;cases neg <;> simpa using q
 cases x with
 |tup c=>
  unfold cV at e;split at e
  .rename_i i;obtain⟨a,l,rfl,r,n⟩:=A;obtain⟨b,j,rfl,p,m⟩:=w;obtain⟨f,o,s⟩:=rK c i e n m;unfold iu at B;exact⟨a,b,l,j,gA c,f,rfl,rfl,.inr ⟨cM.of r,cM.of p⟩,∅,o,d s⟩
  .cases e
 |lst c=>
  unfold cV at e;split at e
  .rename_i i;obtain⟨a,l,rfl,r,_,n⟩:=A;obtain⟨b,j,rfl,p,_,m⟩:=w;obtain⟨f,o,s⟩:=rK c i e n m;unfold iu at B;exact⟨a,b,l,j,gA c,f,rfl,rfl,.inl ⟨.inl r,.inl p⟩,∅,o,d s⟩
  .cases e
 |raw _=>unfold cV at e;cases e
 |exc _=>unfold cV at e;cases e
 |non=>cases h
 |bl _=>cases h
 |int _=>cases h
 |str _=>cases h
theorem kj:P2 K (Ds K) (eqT aj):=λF H x y v u Q pv g f e q=>by
 unfold eqT at e;split at e
 .rename_i a b d h;split at e
  .rename_i i;cases e;rw[je g d,je f h];refine .inl ⟨i,?_⟩;have:=q (.bl (decide (a=b))) F H (Al.refl ..) (by simp[aO]);exact this
  .cases e
 .rename_i d h;split at e
  .rename_i j;cases c:cV x y with
   |none=>rw[c]at e;cases e
   |some k=>
    rw[c]at e;cases e;exact .inr (Dt (neg:=aj) d c j g f (q _ F H (Al.refl ..) rfl))
  .cases e
 .cases e
theorem CV:P2 K (AB K) (eqT ai):=λF H x y v u Q pv g f e q=>by
 unfold eqT at e;split at e
 .rename_i a b d h;split at e
  .rename_i i;cases e;rw[je g d,je f h];refine .inl ⟨i,?_⟩;have:=q (.bl (!decide (a=b))) F H (Al.refl ..) (by simp[aO]);exact this
  .cases e
 .rename_i d h;split at e
  .rename_i j;cases c:cV x y with
   |none=>rw[c]at e;cases e
   |some k=>
    rw[c]at e;cases e;exact .inr (Dt (neg:=ai) d c j g f (q _ F H (Al.refl ..) rfl))
  .cases e
 .cases e
end
end Pu
namespace Pu
open L2
section
variable{X:Cx}{K:ar}
def ud(i j:Tx):Bool:=!(Ek (tS j) (tS i) 0 (tS j).length 1).isEmpty
def iS:List PV->Option (List V)
 |[]=>aa []
 |x::a=>(dy x).bind λv=>(iS a).map λr=>v::r
theorem w6{H:Hp}{F:ac->Prop}:∀{a:List PV}{d b:List V},ba K H F a d->iS a=aa b->d=b/\b.all gv=ai
 |[],_,_,r,e=>by cases e;exact⟨r,rfl⟩
 |x::a,_,b,⟨v,r,rfl,g,f⟩,e=>by
  unfold iS at e;cases q:dy x with
  |none=>rw[q]at e;cases e
  |some w=>
   cases c:iS a with
   |none=>rw[q,c]at e;cases e
   |some j=>
    rw[q,c]at e;cases e;obtain⟨i,h⟩:=w6 f c;exact⟨by rw[je g q,i],by rw[pR,ue q,h];rfl⟩
def oH(neg:Bool):PV->PV->Option PV
 |.str x,.str y=>aa (.bl (neg^^ud x y))
 |x,.lst a=>(dy x).bind λv=>(iS a).map λb=>.bl (neg^^rm v b)
 |x,.tup a=>(dy x).bind λv=>(iS a).map λb=>.bl (neg^^rm v b)
 |_,_=>ae
def D4(K:ar):R2:=λx y H Q=>(∃i j,x=.str i/\y=.str j/\Q (.bl (!(Ek j i 0 j.length 1).isEmpty)) H)\/xX K aj x y H Q
theorem Mn:bT X (dJ .In) (D4 X.K):=Os.or Ms
theorem Bp{H:Hp}{F:ac->Prop}{x:PV}{c:List PV}{v:V}{p:ac}{b:List V}{Q:VK}{neg:Bool}{pv:PV}(g:aO K H F x v)(i:b_ K H p b\/cM K H p b)(h:ba K H F c b)(e:((dy x).bind λv=>(iS c).map λf=>PV.bl (neg^^rm v f))=aa pv) (q:∀w,aO K H F pv w->Q w H):xX K neg v (.ref p) H Q:=by
 cases a:dy x with
 |none=>rw[a]at e;cases e
 |some w=>
  cases d:iS c with
  |none=>rw[a,d]at e;cases e
  |some f=>
   rw[a,d]at e;cases e;obtain⟨rfl,j⟩:=w6 h d;rw[je g a];refine⟨p,b,rfl,i,ue a,j,?_⟩;have:=q _ rfl;cases neg <;> simpa using this
theorem Fo:P2 K (D4 K) (oH aj):=λF H x y v u Q pv d c e q=>by
 unfold oH at e;split at e
 .cases e;exact .inl ⟨_,_,d.1,c.1,by have:=q _ F H (Al.refl ..) rfl;simpa[ud]using this⟩
 .obtain⟨a,h,rfl,g,_,f⟩:=c;exact .inr (Bp (neg:=aj) d (.inl (.inl g)) f e λw b=>q w F H (Al.refl ..) b)
 .obtain⟨a,h,rfl,g,f⟩:=c;exact .inr (Bp (neg:=aj) d (.inr (cM.of g)) f e λw b=>q w F H (Al.refl ..) b)
 .cases e
def qW(a:Bool):PV->PV->Option PV
 |x,.non=>match x with
  |.non=>aa (.bl (a^^ai))
  |.raw _=>ae
  |_=>aa (.bl (a^^aj))
 |_,_=>ae
theorem Fy{H:Hp}{F:ac->Prop}{x:PV}{v:V}(r:aO K H F x v)(h:x≠.non)(c:∀w,x≠.raw w):decide (v=V.non)=aj:=by
 refine decide_eq_false λz=>?_;subst z;cases x with
 |non=>exact h rfl
 |raw w=>exact c w rfl
 |bl _=>cases r
 |int _=>cases r
 |str _=>cases r.1
 |tup _=>obtain⟨a,b,e,_⟩:=r;cases e
 |lst _=>obtain⟨a,b,e,_⟩:=r;cases e
 |exc _=>obtain⟨a,e,_⟩:=r;cases e
theorem Fq{H:Hp}{F:ac->Prop}{x y:PV}{v u:V}{Q:VK}{pv:PV}{a:Bool}(c:aO K H F x v)(f:aO K H F y u)(e:qW a x y=aa pv)(q:∀w d b,Al F d H b->aO K b d pv w->Q w b):u=.non/\Q (.bl (a^^decide (v=V.non))) H:=by
 unfold qW at e;split at e
 .refine⟨f,?_⟩;split at e
  .cases e;rw[show v=V.non from c];exact q _ F H (Al.refl ..) rfl
  .cases e
  .rename_i h g;cases e;rw[Fy c (λz=>h z) (λw z=>g w z)];exact q _ F H (Al.refl ..) rfl
 .cases e
theorem Mu:P2 K (λx y H Q=>y=.non/\Q (.bl (!decide (x=.non))) H) (qW ai):=λF H x y v u Q pv b a e q=>by have:=Fq b a e q;simpa using this
def aV:List PV->Option PV
 |[.str x]=>aa (.int x.length)
 |[.lst xs]=>aa (.int xs.length)
 |[.tup xs]=>aa (.int xs.length)
 |_=>ae
theorem gq{H:Hp}{F:ac->Prop}{x:PV}{a:List V}(r:ba K H F [x] a):∃v,a=[v]/\aO K H F x v:=by obtain⟨v,b,rfl,d,c⟩:=r;rw[show b=[] from c];exact⟨v,rfl,d⟩
theorem d_:PL K (λg H Q=>∃x n,g=[x]/\Be K x H n/\Q (.int n) H) aV:=λF H g i Q pv c e q=>by
 unfold aV at e;split at e
 .cases e;obtain⟨v,rfl,h⟩:=gq c;rw[h.1];exact⟨_,_,rfl,⟨by rw[kl];exact cO h.2 jA,rfl⟩,by rw[kl];exact q _ F H (Al.refl ..) rfl⟩
 .cases e;obtain⟨v,rfl,a,b,rfl,f,_,d⟩:=gq c;exact⟨_,_,rfl,.inl ⟨b,.inl f,rfl⟩,by rw[d.len];exact q _ F H (Al.refl ..) rfl⟩
 .cases e;obtain⟨v,rfl,a,b,rfl,f,d⟩:=gq c;exact⟨_,_,rfl,.inr ⟨b,cM.of f,rfl⟩,by rw[d.len];exact q _ F H (Al.refl ..) rfl⟩
 .cases e
def jE:List PV->Option PO
 |[.lst a]=>aa (.lst a)
 |[.tup a]=>aa (.lst a)
 |_=>ae
theorem yb:k7 K (λh H Q=>∃p c,h=[.ref p]/\(b_ K H p c\/cM K H p c)/\∀l,H l=ae->Q (.ref l) (upd H l (.lst c))) jE:=λF H h m Q n j i e q=>by
 unfold jE at e;split at e
 .cases e;obtain⟨v,rfl,a,d,rfl,g,_,f⟩:=gq i;exact⟨a,d,rfl,.inl (.inl g),λl b=>q l F _ _ (Al.new0 b) (uL b f) (uV b j trivial)⟩
 .cases e;obtain⟨v,rfl,a,d,rfl,g,f⟩:=gq i;exact⟨a,d,rfl,.inr (cM.of g),λl b=>q l F _ _ (Al.new0 b) (uL b f) (uV b j trivial)⟩
 .cases e
def iP:List PV->Option PV
 |[.lst a]=>aa (.tup a)
 |[.tup a]=>aa (.tup a)
 |_=>ae
theorem rZ:PL K (λg H Q=>∃p d,g=[.ref p]/\((b_ K H p d/\∀l,H l=ae->Q (.ref l) (upd H l (.tup d)))\/(cM K H p d/\Q (.ref p) H))) iP:=λF H g j Q pv h e q=>by
 unfold iP at e;split at e
 .cases e;obtain⟨v,rfl,a,b,rfl,c,_,f⟩:=gq h;exact⟨a,b,rfl,.inl ⟨.inl c,λl i=>q _ F _ (Al.new0 i) ⟨l,b,rfl,cg,(Al.new0 i).reps f⟩⟩⟩
 .cases e;obtain⟨v,rfl,a,b,rfl,c,f⟩:=gq h;exact⟨a,b,rfl,.inr ⟨cM.of c,q _ F H (Al.refl ..) ⟨a,b,rfl,c,f⟩⟩⟩
 .cases e
def iT:List PV->Option (List Tx)
 |[]=>aa []
 |.str x::a=>(iT a).map (x::·)
 |_=>ae
def ak(a:List Tx):List PV:=a.map .str
theorem xa(a:List Tx):iT (ak a)=aa a:=by
 induction a with
 |nil=>rfl
 |cons x a b=>show(iT (ak a)).map (x::·)=_;rw[b];rfl
theorem wR:∀{a:List PV}{b:List Tx},iT a=aa b->a=ak b
 |[],b,e=>by cases e;rfl
 |.str x::a,b,e=>by
  unfold iT at e;cases q:iT a with
  |none=>rw[q]at e;cases e
  |some r=>rw[q]at e;cases e;rw[wR q];rfl
 |.non::_,_,e=>by cases e
 |.bl _::_,_,e=>by cases e
 |.int _::_,_,e=>by cases e
 |.tup _::_,_,e=>by cases e
 |.lst _::_,_,e=>by cases e
 |.raw _::_,_,e=>by cases e
 |.exc _::_,_,e=>by cases e
theorem Op{H:Hp}{F:ac->Prop}:∀{a:List Tx}{b:List V},ba K H F (ak a) b↔b=dX a/\∀x∈a,x.length<=b0
 |[],b=>by simp[ak,ba,dX]
 |x::a,b=>by
  show(∃v r,b=v::r/\(v=tV x/\x.length<=b0)/\ba K H F (ak a) r)↔_;constructor
  .rintro⟨v,r,rfl,⟨rfl,f⟩,h2⟩;obtain⟨rfl,d⟩:=Op.mp h2;exact⟨rfl,λy c=>by
    rcases bV.mp c with rfl|c
    .exact f
    .exact d y c⟩
  .rintro⟨rfl,h⟩;exact⟨tV x,dX a,rfl,⟨rfl,h x (by simp)⟩,Op.mpr ⟨rfl,λy c=>h y (by simp[c])⟩⟩
def o9:List PV->Option PO
 |[.lst b]=>(iT b).bind λa=>if a.length<64 then aa (.lst (ak (bu a)))else ae
 |[.tup b]=>(iT b).bind λa=>if a.length<64 then aa (.lst (ak (bu a)))else ae
 |_=>ae
theorem Bi:k7 K (λm H Q=>∃(p:ac) (b:List Tx),m=[.ref p]/\(b_ K H p (dX b)\/cM K H p (dX b))/\b.length<64/\∀l,H l=ae->Q (.ref l) (upd H l (.lst (dX (bu b))))) o9:=λF H m z Q o y n e q=>by
 have f:∀{g:List PV}{c:List V}{a:ac},((iT g).bind λb=>if b.length<64 then aa (PO.lst (ak (bu b)))else ae)=aa o->ba K H F g c->(b_ K H a c\/cM K H a c) ->
   ∃(p:ac) (b:List Tx),[V.ref a]=[.ref p]/\(b_ K H p (dX b)\/cM K H p (dX b))/\b.length<64/\∀l,H l=ae->Q (.ref l) (upd H l (.lst (dX (bu b)))):=λ{g c a} e d u=>by
  cases h:iT g with
  |none=>rw[h]at e;cases e
  |some b=>
   rw[h]at e;simp only[hV]at e;split at e
   .rename_i r;cases e;rw[wR h]at d;obtain⟨rfl,w⟩:=Op.mp d;refine⟨a,b,rfl,u,r,λl i=>q l F _ _ (Al.new0 i) (uL i (Op.mpr ⟨rfl,λx s=>w x ((jf b).mem_iff.mp s)⟩)) (uV i y trivial)⟩
   .cases e
 unfold o9 at e;split at e
 .obtain⟨v,rfl,a,c,rfl,j,_,d⟩:=gq n;exact f e d (.inl (.inl j))
 .obtain⟨v,rfl,a,c,rfl,j,d⟩:=gq n;exact f e d (.inr (cM.of j))
 .cases e
def kQ:List PV->Option (List Bool)
 |[]=>aa []
 |.bl b::a=>(kQ a).map (b::·)
 |_=>ae
theorem B_{H:Hp}{F:ac->Prop}:∀{a:List PV}{c:List V}{bs:List Bool},ba K H F a c->kQ a=aa bs->c=bs.map V.bl
 |[],_,_,r,e=>by cases e;exact r
 |.bl b::a,_,bs,⟨v,r,rfl,f,d⟩,e=>by
  unfold kQ at e;cases q:kQ a with
  |none=>rw[q]at e;cases e
  |some g=>rw[q]at e;cases e;rw[B_ d q,show v=V.bl b from f];rfl
 |.non::_,_,_,_,e=>by cases e
 |.str _::_,_,_,_,e=>by cases e
 |.int _::_,_,_,_,e=>by cases e
 |.tup _::_,_,_,_,e=>by cases e
 |.lst _::_,_,_,_,e=>by cases e
 |.raw _::_,_,_,_,e=>by cases e
 |.exc _::_,_,_,_,e=>by cases e
def pb:List PV->Option PV
 |[.lst a]=>(kQ a).map λbs=>.bl (bs.all id)
 |_=>ae
theorem zh:PL K (λc H Q=>∃(p:ac) (bs:List Bool),c=[.ref p]/\b_ K H p (bs.map V.bl)/\Q (.bl (bs.all id)) H) pb:=λF H c i Q pv g e q=>by
 unfold pb at e;split at e
 .rename_i f;cases b:kQ f with
  |none=>rw[b]at e;cases e
  |some bs=>
   rw[b]at e;cases e;obtain⟨v,rfl,a,j,rfl,d,_,h⟩:=gq g;rw[B_ h b]at d;exact⟨a,bs,rfl,.inl d,q _ F H (Al.refl ..) rfl⟩
 .cases e
def sm:PV->Option String
 |.non=>aa "NoneType"
 |.bl _=>aa "bool"
 |.int _=>aa "int"
 |.str _=>aa "str"
 |.tup _=>aa "tuple"
 |.lst _=>aa "list"
 |_=>ae
def iy:List PV->Option PV
 |[x,.raw (.ty T)]=>(sm x).bind λt=>(iD [] (.type t) (.type T)).map λb=>.bl b
 |_=>ae
theorem qJ:fh X (.builtin "isinstance") (λa H Q=>∃x t T b,a=[x,.ty T]/\gZ X.K H x (.type t)/\iD X.K (.type t) (.type T)=aa b/\Q (.bl b) H):=by
 intro m s i H a j Q I r h;obtain⟨x,t,T,b,rfl,ty,e,q⟩:=h;cases r with
 |cons g f=>
  cases f with
  |cons d c=>
   cases c;cases d;exact Iv I g ty e λl=>⟨.bl b,H,I.tok _,rfl,q⟩
theorem Jh{H:Hp}{F:ac->Prop}{x:PV}{v:V}{t:String}(r:aO K H F x v)(e:sm x=aa t):gZ K H v (.type t):=by
 cases x with
 |non=>cases e;rw[show v=V.non from r];exact .non
 |bl b=>cases e;rw[show v=V.bl b from r];exact .bl b
 |int b=>cases e;rw[show v=V.int b from r];exact .int b
 |str b=>cases e;rw[show v=tV b from r.1];exact .str _
 |tup d=>cases e;obtain⟨a,f,rfl,c,_⟩:=r;exact .tup c
 |lst d=>
  cases e;obtain⟨a,f,rfl,c,_⟩:=r;rcases c with c|⟨o,c⟩
  .exact .lst c
  .exact .frz c
 |raw _=>cases e
 |exc _=>cases e
theorem rA:PL K (λd H Q=>∃x t T b,d=[x,.ty T]/\gZ K H x (.type t)/\iD K (.type t) (.type T)=aa b/\Q (.bl b) H) iy:=λF H d j Q pv f e q=>by
 unfold iy at e;split at e
 .rename_i x T;cases a:sm x with
  |none=>rw[a]at e;cases e
  |some t=>
   cases c:iD [] (.type t) (.type T)with
   |none=>rw[a,hV,c]at e;cases e
   |some b=>
    rw[a,hV,c]at e;cases e;obtain⟨v,l,rfl,i,h⟩:=f;obtain⟨u,rfl,g⟩:=gq h;rw[show u=V.ty T from g];exact⟨v,t,T,b,rfl,Jh i a,c,q _ F H (Al.refl ..) rfl⟩
 .cases e
theorem qN{E:XK}{x:Str}{T:String}{f:Pos}(c:X.mg x=ae)(a:d3 x=aa (.type T))(d:Gl X x:=by rfl)(b:x≠"__name__":=by decide)(g:(x==("__debug__":Str))=aj:=by decide):DE X E (.Name x f) (dC (.raw (.ty T))):=λF S i h H Q r q=>bW (I0 (v:=.ty T) d c a rfl b g) (q F S H r (a5.refl ..) _ rfl)
def bN:PV->PV->Option PV
 |.lst a,.int i=>ez a i
 |.tup a,.int i=>ez a i
 |.str x,.int i=>(ez x i).map λc=>.str [c]
 |_,_=>ae
theorem AK{H:Hp}{F:ac->Prop}{a:List PV}{b:List V}{i:Int}{x:PV}(r:ba K H F a b)(e:ez a i=aa x):∃v,ez b i=aa v/\aO K H F x v:=by
 unfold ez at e ⊢;rw[r.len];cases q:k_ a.length i with
 |none=>rw[q]at e;cases e
 |some j=>rw[q]at e;exact r.get e
theorem gW:P2 K (Dp K) bN:=λF H x y v u Q pv b f e q=>by
 unfold bN at e;split at e
 .rename_i n i;obtain⟨a,d,rfl,j,_,g⟩:=b;obtain⟨w,m,l⟩:=AK g e;exact .inl ⟨a,d,i,w,rfl,f,.inl j,m,q _ F H (Al.refl ..) l⟩
 .rename_i n i;obtain⟨a,d,rfl,j,g⟩:=b;obtain⟨w,m,l⟩:=AK g e;exact .inr (.inl ⟨a,d,i,w,rfl,f,cM.of j,m,q _ F H (Al.refl ..) l⟩)
 .rename_i x i;cases h:ez x i with
  |none=>rw[h]at e;cases e
  |some c=>
   rw[h]at e;cases e;rw[b.1];exact .inr (.inr ⟨_,i,c,rfl,f,by rw[kl];exact cO b.2 jA,by rw[mq];exact h,q _ F H (Al.refl ..) ⟨rfl,by show 1<=b0;decide⟩⟩)
 .cases e
def dH{b:Type}(a:List b)(c d:Option Int):List b:=(a.drop (HT.sIx a.length 0 c)).take (HT.sIx a.length a.length d-HT.sIx a.length 0 c)
theorem Ko{b:Type}(a:List b)(c d:Option Int):(dH a c d).length<=a.length:=by unfold dH;rw[pN,mJ];lia
def cy:PV->Option Int->Option Int->Option PV
 |.str x,b,c=>aa (.str (dH x b c))
 |.lst a,b,c=>aa (.lst (dH a b c))
 |.tup a,b,c=>if HT.sIx a.length 0 b=0/\HT.sIx a.length a.length c=a.length then ae else aa (.tup (dH a b c))
 |_,_,_=>ae
def B0(K:ar):V->Option Int->Option Int->Hp->VK->Prop:=λx a b H Q=>Cc x a b H Q\/(BV K x a b H Q\/C7 K x a b H Q)
theorem mz:lc X (B0 X.K):=On.or (Oq.or Il)
theorem Ba{H:Hp}{F:ac->Prop}{a:List PV}{b:List V}(r:ba K H F a b)(c d:Option Int):ba K H F (dH a c d) (l8 b c d):=by unfold dH l8;rw[r.len];exact(r.drop _).take _
theorem mx:Ci K (B0 K) cy:=λF H x h i v Q pv b e q=>by
 unfold cy at e;split at e
 .cases e;rw[b.1];refine .inl ⟨_,rfl,by rw[kl];exact cO b.2 jA,?_⟩;refine q _ F H (Al.refl ..) ⟨?_,cO (Ko ..) b.2⟩;unfold kh dH;rw[kl,mq];rfl
 .cases e;obtain⟨a,f,rfl,g,_,d⟩:=b;exact .inr (.inl ⟨a,f,rfl,.inl g,λp c=>q _ _ _ (Al.new c) ⟨p,_,rfl,.inl cg,.inr rfl,(Al.new c).reps (Ba d h i)⟩⟩)
 .split at e
  .cases e
  .rename_i j;cases e;obtain⟨a,f,rfl,g,d⟩:=b;exact .inr (.inr ⟨a,f,rfl,cM.of g,by rw[d.len];exact j,λp c=>q _ _ _ (Al.new0 c) ⟨p,_,rfl,cg,(Al.new0 c).reps (Ba d h i)⟩⟩)
 .cases e
variable{E:XK}{g l a b:ay}{d:ag->R PV}{m:ag->R (List PV)}{p f:Pos}
def gT:PV->Option (List PV)
 |.lst h=>aa h
 |.tup h=>aa h
 |.str x=>aa (x.map λc=>.str [c])
 |_=>ae
def bI(d:ag->R PV):ag->R (List PV):=λε=>(d ε).bind λx ε1=>aG (gT x) ε1
theorem BG{H:Hp}{F:ac->Prop}:∀(x:Tx),ba K H F (x.map λc=>PV.str [c]) (x.map sg)
 |[]=>rfl
 |c::x=>⟨sg c,x.map sg,rfl,⟨rfl,by show 1<=b0;decide⟩,BG x⟩
theorem gx(he:DE X E l d):DI X E g l (bI d):=λF S ε Z H Rr rl h=>Bx.mk λaf s I=>by
 have w:=he F S ε Z H (λv r=>∃B D u x,aH X.K B D u Z r/\aO X.K r B x v/\Ok X.K E Z B D r (aG (gT x) u) (λpvs _ F' S' H'=>∀J L RR,ba X.K H' F' pvs L->L.length<=bc->Walk J L RR->(∀S'' F'' Y,a5 (U S') (U S'') F' F'' H' Y->RR Y)->Rr J H')) rl
  ((Ok.bind h).imp λx u B D r G g1 q v N=>⟨B,D,u,x,G,N,q⟩)
 refine aT (w.run af s I) λv c ⟨x,r,y,rx,B,D,u,pv,G,N,q⟩=>?_;cases pv with
 |lst xs=>
  obtain⟨a,M,rfl,C,hF,ra⟩:=N;cases rx;obtain⟨O,rr,pp,P⟩:=y.list (.inl C);refine pW pp.isList ?_;refine⟨c.heap.objs.size,[c.heap.objs.size],_,_,r,rfl,y.kept (t':=c.toks) λb o e=>bi _ e,Cm a _,⟨_,cm _ rfl,rfl,rfl⟩,λb T=>?_,q B D r G (a5.refl ..) (xg X.K a) M (λH=>b_ X.K H a M) ra P Cz λS2 F2 H2 g2=>.inl (g2.lst G.fit hF C)⟩;have e:b=c.heap.objs.size:=by simpa using T
  subst e;exact y.fpOk (bd _) (y.hok.fresh (bd _))
 |tup xs=>
  obtain⟨a,M,rfl,C,ra⟩:=N;cases rx;obtain⟨O,rr,pp,P⟩:=y.tuple (cM.of C);refine wpAny_pyIter_tuple (show c.heap.IsTuple a O.toArray from pp) ?_;refine⟨c.heap.objs.size,[c.heap.objs.size],_,_,r,rfl,y.kept (t':=c.toks) λb o e=>bi _ e,Mp a _,⟨_,cm _ rfl,rfl,rfl⟩,λb T=>?_,q B D r G (a5.refl ..) (yt X.K a) M (λH=>cM X.K H a M) ra P FM λS2 F2 H2 g2=>cM.of (g2.imm G.fit C id)⟩;have e:b=c.heap.objs.size:=by simpa using T
  subst e;exact y.fpOk (bd _) (y.hok.fresh (bd _))
 |str z=>
  obtain⟨rfl,P⟩:=N;obtain⟨t,rfl⟩:=rx;have qq:Rr (sk (tS z)) r:=q B D r G (a5.refl ..) (sk (tS z)) (z.map sg) (λ_=>True) (BG z) (by rw[cf];exact cO P jA) (by have:=K5 (z:=tS z);rw[mq]at this;exact this) λ_ _ _ _=>trivial;have W:∀(n:String) (j:Nat->aC->Prop),(∀i h,j i h->∃o n L,h.get? c.heap.objs.size=aa o/\o.cls=.type n/\o.data=.fields L /\ ["enumerate","zip","dict_itemiterator","dict_reverseitemiterator","odict_iterator","itertools.zip_longest","itertools.pairwise"].contains n=aj) ->
    (∀(A:aX) (i:Nat) (s:am) (Q:ah->am->Prop) (E:ah->am->Prop),j i s.heap->Q (.ref c.heap.objs.size) s->aw (az X.prog X.w) A (mD (.ref c.heap.objs.size)) Q E s) ->
    (∀A:aX,A.handled=ae->Walks X.prog X.w A c.heap.objs.size [c.heap.objs.size] [c.heap.objs.size] (tS z).cps.size (SignAt (tS z)) j) ->
    j 0 (c.heap.push {cls:=.type n,data:=.fields #[.str (tS z) t,.int 0 0]}) ->
    uu X af Z g Rr (.ref c.heap.objs.size) {c with heap:=c.heap.push {cls:=.type n,data:=.fields #[.str (tS z) t,.int 0 0]}}:=λn j q h2 h3 h4=>by
   refine⟨c.heap.objs.size,[c.heap.objs.size],j,sk (tS z),r,rfl,y.kept (t':=c.toks) λb o e=>bi _ e,Ma q h2 h3,h4,λb T=>?_,qq⟩;have e:b=c.heap.objs.size:=by simpa using T
   subst e;exact y.fpOk (bd _) (y.hok.fresh (bd _))
  cases C:(tS z).cps.all (· < 128)
  .refine wpAny_pyIter_wide C (W "str_iterator" (λi h=>h.IsStrIter c.heap.objs.size "str_iterator" (tS z) t i) (λi h ⟨o,e1,e2,e3⟩=>⟨o,_,_,e1,e2,e3,by decide⟩) (λA i s Q E st h=>wpAny_pyIter_striter_wide st h) (λA' hA=>Walks.strWide hA _ (tS z) t) ⟨_,cm _ rfl,rfl,rfl⟩)
  .refine wpAny_pyIter_ascii C (W "str_ascii_iterator" (λi h=>h.IsStrIter c.heap.objs.size "str_ascii_iterator" (tS z) t i) (λi h ⟨o,e1,e2,e3⟩=>⟨o,_,_,e1,e2,e3,by decide⟩) (λA i s Q E st h=>wpAny_pyIter_striter_ascii st h) (λA' hA=>Walks.strAscii hA _ (tS z) t) ⟨_,cm _ rfl,rfl,rfl⟩)
 |non=>exact(show False from q).elim
 |bl _=>exact(show False from q).elim
 |int _=>exact(show False from q).elim
 |raw _=>exact(show False from q).elim
 |exc _=>exact(show False from q).elim
def fi(c:Int)(n:Nat):List PV:=(cp n).map λi=>PV.int (c+(i:Nat))
theorem Gz{H:Hp}{F:ac->Prop}(c:Int)(n:Nat):ba K H F (fi c n) (oX c n):=by
 unfold fi oX
 induction (cp n)with
 |nil=>rfl
 |cons x i h=>exact⟨_,_,rfl,rfl,h⟩
def jD:List PV->Option (List PV)
 |[.int j]=>if j<=1000000/\-1000000<=j then aa (fi 0 j.toNat)else ae
 |_=>ae
theorem uz(x:X.mg "range"=ae)(z:DA X E [a] m)(y:Gl X "range":=by rfl)(w:aL [a] X.env=[(aj,aK a X.env)]:=by rfl):DI X E g (.Call (.Name "range" p) [a] [] f) (dL jD m):=λF S o i H L r h=>by
 refine HS (NC y x fU w) (z F S o i H _ r ((Ok.bind h).imp λD n C A B s J c G u=>?_));unfold jD at c;split at c
 .rename_i j;split at c
  .rename_i I;obtain⟨v,rfl,q⟩:=gq u;refine⟨j,by rw[show v=V.int j from q],∅,∅,c C A B s (a5.refl ..) _ _ _ (Gz 0 j.toNat) (by rw[xy,sE];lia) IE λ_ _ _ _=>trivial⟩
  .exact c.elim
 .exact c.elim
end
section
variable{K:ar}{F:ac->Prop}{S:Nat->ac->Prop}{f:ag}{l:St}{H:Hp}{i:Nat}{p m:List PV}{d:List V}{a:ac}
theorem aH.lstAt(r:aH K F S f l H)(e:f[i]?=aa (.own (.lst p))):∃a c,l[i]?=aa (aa (.ref a))/\H a=aa (.lst c)/\ba K H F p c/\S i a/\∀b,S i b->b=a:=by obtain⟨a,o,⟨c,n,j⟩,g⟩:=r.own i _ e;exact⟨a,c,o,n,j,(g a).mpr rfl,λb h=>(g b).mp h⟩
theorem aH.upd(r:aH K F S f l H)(e:f[i]?=aa (.own (.lst p)))(E:l[i]?=aa (aa (.ref a)))(h:ba K H F m d):aH K F S (f.set i (.own (.lst m))) l (upd H a (.lst d))/\a5 (U S) (U S) F F H (upd H a (.lst d)):=by
 obtain⟨O,L,G,N,M,y,C⟩:=r.lstAt e;rw[E]at G;cases G;have B:i<f.length:=(cq.mp e).1;have g:a5 (U S) (U S) F F H (L2.upd H a (.lst d)):=⟨λ_ z=>z,λb o q n=>by rw[bF (by rintro rfl;exact n ⟨i,y⟩)];exact q,λb o q=>by
  by_cases D:b=a
  .subst D;exact⟨_,cg⟩
  .exact⟨o,by rw[bF D];exact q⟩,λ_ z=>.inl z,λ_ z=>.inl z⟩
 refine⟨⟨by rw[iG];exact r.len,λb z=>let ⟨o,q⟩:=r.ex b z;g.there b o q,λj pv q=>?_,λj A q=>?_,λj b z=>?_,r.dist⟩,g⟩
 .have s:i≠j:=by rintro rfl;rw[dw B]at q;cases q
  rw[cP s]at q;obtain⟨v,x,u⟩:=r.val j pv q;exact⟨v,x,u.grow g r.fit⟩
 .by_cases s:i=j
  .subst s;rw[dw B]at q;cases q;exact⟨a,E,⟨d,cg,h.grow g r.fit⟩,λb=>⟨C b,λz=>by rw[z];exact y⟩⟩
  .rw[cP s]at q;obtain⟨c,x,u⟩:=r.own j A q;refine⟨c,x,u.mono (λ_ _ z=>z.grow g r.fit) (λ_ _ z=>z.grow g r.fit) λb o z w=>?_⟩;rw[bF (by rintro rfl;exact s (r.dist i j b y z))];exact w
 .obtain⟨⟨A,x⟩,u,o,J,I⟩:=r.foot j b z;by_cases s:i=j
  .subst s;rw[C b z];exact⟨⟨_,dw B⟩,by rw[<-C b z];exact u,_,cg,trivial⟩
  .exact⟨⟨A,by rw[cP s];exact x⟩,u,o,by rw[bF (by rintro rfl;exact s (r.dist i j b y z))];exact J,I⟩
end
section
variable{X:Cx}{E:XK}{pin:List Nat}{e b:ay}{de db:ag->R PV}{d:Pos}
def jg(a:ag)(i:Nat):Option (List PV):=match a[i]? with
 |some (.own (.lst c))=>aa c
 |_=>ae
theorem nN{a:ag}{i:Nat}{c:List PV}(h:jg a i=aa c):a[i]?=aa (.own (.lst c)):=by
 unfold jg at h;split at h
 .cases h;assumption
 .cases h
def uS(i:Nat)(de:ag->R PV):ag->R aE:=λc=>(aG (jg c i) c).bind λ_ c=>(de c).bind λy a=>(aG (jg a i) a).bind λf a=>if f.length<b0 then .ok .next (a.set i (.own (.lst (f++[y]))))else .no
theorem Cr(i:Nat){x:Str}{p f c:Pos}(N:DE X E e de)(Q:X.N[i]?=aa x:=by rfl)(K:dR X.env.scope x:=by eq_refl)(O:(x==("__debug__":Str))=aj:=by decide)(bf:(x==("__classdict__":Str))=aj:=by decide) (Z:g7 (.Name x p) "append" X.env (aK (.Name x p) X.env)=aK (.Name x p) X.env:=by rfl)(Y:((ce c (aL [e] X.env)).all (λx=>!x.1)&&(lO c (lP [] X.env)).all (λx=>x.1.isSome)&&decide ([e].length+([]:List jV).length+(if([]:List jV).isEmpty then 0 else 1)<30))=ai:=by rfl)(W:(f.endLine == c.line)=ai:=by rfl) (z:aL [e] X.env=(aj,aK e X.env)::aL [] X.env:=by rfl) (T:(ce c (aL [] X.env)).any (·.1)=aj:=by rfl)(L:gD (.Call (.Attribute (.Name x p) "append" f) [e] [] c) ae d.line X.env=pure aj:=by rfl):DS X E pin (.Expr (.Call (.Attribute (.Name x p) "append" f) [e] [] c) d) (uS i de):=λF S r o H D s h=>by
 unfold uS at h;cases n:jg r i with
 |none=>rw[n]at h;exact h.elim
 |some A=>
  rw[n]at h;simp only[cW,R.bind_ok]at h;obtain⟨a,B,m,P,_,_,_⟩:=s.lstAt (nN n);refine eD (u9 (yM EB PySem.F.slot_list_append PySem.F.type_list_append ya (eC Q K O bf) (io bx jB z) Z Y W z T) L) ⟨.ref a,m,.inl ⟨rfl,_,b_.of P⟩,?_⟩;refine N F S r o H _ s (h.bindE.imp λy l F1 S1 H1 w g1 q v G=>?_);cases j:jg l i with
  |none=>rw[j]at q;exact q.elim
  |some xs=>
   rw[j]at q;simp only[cW,R.bind_ok]at q;obtain⟨a',C,g,J,u,_,_⟩:=w.lstAt (nN j);rw[m]at g;cases g;split at q
   .rename_i M;obtain⟨I,g2⟩:=w.upd (nN j) m (u.app (.one G));exact⟨a,C,v,rfl,rfl,J,by rw[u.len];exact eR M jA,q F1 S1 o _ I g2 (gJ.refl _ _)⟩
   .exact q.elim
def J_:V->List V->Hp->VK->Prop:=λx f H Q=>∃l b c a,x=.ref l/\f=[.ref b]/\H l=aa (.lst c)/\Rd H b (.lst a)/\c.length+a.length<=bc/\Q .non (L2.upd H l (.lst (c++a)))
theorem KB:zb X "list.extend" J_:=by
 intro N s B H x G v J Q I j m h;obtain⟨l,b,D,C,rfl,rfl,i,w,L,q⟩:=h;cases j;obtain⟨u,rfl,o⟩:=m.one;cases o;obtain⟨z,c,n,r,M,e⟩:=I.lstM i;obtain⟨a,p,g,y,_⟩:=yC I w;have K:=g.length;have f:c.toArray.size+a.toArray.size<=bc:=by rw[cu,cu];lia
 have A:¬(!c.toArray.isEmpty&&Et (c.toArray.size+a.toArray.size))=ai:=by rw[L1 f,Bool.and_false];exact eZ
 refine call_meets F.slot_list_extend ⟨_,e,rfl⟩ F.entry_list_extend (F.args_list_extend_2 _ _)
  (AutoSeq1.list_extend_list_list_0 l c.toArray n b a.toArray p A (by rw[cu];lia) ∅) ⟨e,y,?_⟩
 refine⟨.non,_,I.lset (its':=c++a) i e (by simp) (r.append g) ?_,rfl,q⟩;rw[eG];lia
def nG(i:Nat)(de:ag->R PV):ag->R aE:=λε=>(aG (jg ε i) ε).bind λ_ ε=>(de ε).bind λy ε1=>(aG (jg ε1 i) ε1).bind λc ε1=>match y with
 |.lst a=>if c.length+a.length<=b0 then .ok .next (ε1.set i (.own (.lst (c++a))))else .no
 |_=>.no
theorem IW(i:Nat){x:Str}{p g f:Pos}(Q:DE X E e de)(Z:X.N[i]?=aa x:=by rfl)(N:dR X.env.scope x:=by eq_refl)(T:(x==("__debug__":Str))=aj:=by decide)(bf:(x==("__classdict__":Str))=aj:=by decide) (h1:g7 (.Name x p) "extend" X.env (aK (.Name x p) X.env)=aK (.Name x p) X.env:=by rfl)(h2:((ce f (aL [e] X.env)).all (λx=>!x.1)&&(lO f (lP [] X.env)).all (λx=>x.1.isSome)&&decide ([e].length+([]:List jV).length+(if([]:List jV).isEmpty then 0 else 1)<30))=ai:=by rfl)(h3:(g.endLine == f.line)=ai:=by rfl) (B:aL [e] X.env=(aj,aK e X.env)::aL [] X.env:=by rfl) (h5:(ce f (aL [] X.env)).any (·.1)=aj:=by rfl)(O:gD (.Call (.Attribute (.Name x p) "extend" g) [e] [] f) ae d.line X.env=pure aj:=by rfl):DS X E pin (.Expr (.Call (.Attribute (.Name x p) "extend" g) [e] [] f) d) (nG i de):=λF S s r H D u h=>by
 unfold nG at h;cases o:jg s i with
 |none=>rw[o]at h;exact h.elim
 |some C=>
  rw[o]at h;simp only[cW,R.bind_ok]at h;obtain⟨a,G,n,Y,_,_,_⟩:=u.lstAt (nN o);refine eD (u9 (yM EB PySem.F.slot_list_extend PySem.F.type_list_extend KB (eC Z N T bf) (io bx jB B) h1 h2 h3 B h5) O) ⟨.ref a,n,.inl ⟨rfl,_,b_.of Y⟩,?_⟩;refine Q F S s r H _ u (h.bindE.imp λy m F1 S1 H1 A g1 q v K=>?_);cases l:jg m i with
  |none=>rw[l]at q;exact q.elim
  |some xs=>
   rw[l]at q;simp only[cW,R.bind_ok]at q;obtain⟨a',I,j,M,z,_,_⟩:=A.lstAt (nN l);rw[n]at j;cases j;split at q
   .rename_i ys;split at q
    .rename_i P;obtain⟨c,J,rfl,W,_,w⟩:=K;obtain⟨L,g2⟩:=A.upd (nN l) n (z.app w);exact⟨a,c,I,J,rfl,rfl,M,W,by rw[z.len,w.len];exact cO P jA,q F1 S1 r _ L g2 (gJ.refl _ _)⟩
    .exact q.elim
   .exact q.elim
end
mutual
def imm:PV->Bool
 |.lst _=>aj
 |.tup a=>jw a
 |_=>ai
def jw:List PV->Bool
 |[]=>ai
 |x::a=>imm x&&jw a
end
mutual
theorem aO.imm{K:ar}{H:Hp}{F i:ac->Prop}:∀(x:PV) {v:V},imm x=ai->aO K H F x v->aO K H i x v
 |.non,_,_,h=>h
 |.bl _,_,_,h=>h
 |.int _,_,_,h=>h
 |.str _,_,_,h=>h
 |.raw _,_,_,h=>h
 |.exc _,_,_,h=>h
 |.lst _,_,e,_=>by simp[Pu.imm]at e
 |.tup b,_,e,⟨a,c,g,f,d⟩=>⟨a,c,g,f,ba.imm b (by simpa[Pu.imm]using e) d⟩
theorem ba.imm{K:ar}{H:Hp}{F i:ac->Prop}:∀(a:List PV) {b:List V},jw a=ai->ba K H F a b->ba K H i a b
 |[],_,_,h=>h
 |x::a,_,e,⟨v,r,g,f,d⟩=>by
  have c:imm x=ai/\jw a=ai:=by simpa[jw]using e
  exact⟨v,r,g,aO.imm x c.1 f,ba.imm a c.2 d⟩
end
section
variable{K:ar}{F:ac->Prop}{S:Nat->ac->Prop}{d:ag}{c:St}{H:Hp}{i:Nat}{f:List PV}
theorem aH.look(r:aH K F S d c H)(e:d[i]?=aa (.own (.lst f))):∃a,c[i]?=aa (aa (.ref a))/\¬F a/\aO K H (λb=>F b\/b=a) (.lst f) (.ref a)/\(∀b,F b\/b=a->∃o,H b=aa o) /\ (∀{h g},Al (λb=>F b\/b=a) h H g->Al F (λb=>h b/\b≠a) H g):=by
 obtain⟨a,m,q,l,p,n,s⟩:=r.lstAt e;have j:¬F a:=(r.foot i a n).2.1;refine⟨a,q,j,⟨a,m,rfl,.inl l,.inr rfl,ba.mono (λ_ z=>.inl z) (λ_ _ _ z=>z) (λ_ _ z _=>z) _ _ p⟩,λb z=>z.elim (r.ex b) λz=>by rw[z];exact⟨_,l⟩,λ{h g} al=>⟨λb z=>⟨al.fro b (.inl z),by rintro rfl;exact j z⟩,al.same,λb z=>?_⟩⟩;rcases al.fnew b z.1 with(w|w)|w
 .exact .inl w
 .exact absurd w z.2
 .exact .inr w
end
section
variable{X:Cx}{E:XK}{e b:ay}{de j:ag->R PV}{c p:Pos}{x y:Str}{d T:String}{r:List V->Hp->VK->Prop}{f:List PV->Option PV}{g:List PV->Option PO}
def qX(o:Option PV):Option PV:=o.bind λv=>if imm v then aa v else ae
theorem Fp{o:Option PV}{v:PV}(h:qX o=aa v):o=aa v/\imm v=ai:=by
 cases o with
 |none=>cases h
 |some w=>
  have h:(if imm w then aa w else ae)=aa v:=h;split at h
  .cases h;exact⟨rfl,by assumption⟩
  .cases h
def Df:PO->Bool
 |.lst a=>jw a
 |_=>aj
def vk{h:Type}(f:List PV->Option h)(i:Nat):ag->R h:=λa=>(aG (jg a i) a).bind λl a=>aG (f [.lst l]) a
theorem Nz{F:ac->Prop}{S:Nat->ac->Prop}{o:ag}{n:St}{H:Hp}{Q:VK}{i:Nat}(D:PL X.K r f)(z:aH X.K F S o n H)(h:Ok X.K E n F S H (vk (λl=>qX (f l)) i o) (λpv _ B _ m=>∀v,aO X.K m B pv v->Q v m)):∃a,n[i]?=aa (aa (.ref a))/\r [.ref a] H Q:=by
 unfold vk at h;cases u:jg o i with
 |none=>rw[u]at h;exact h.elim
 |some l=>
  rw[u]at h;simp only[cW,R.bind_ok]at h;obtain⟨a,I,L,C,G,A⟩:=z.look (nN u);refine⟨a,I,?_⟩;cases s:qX (f [.lst l])with
  |none=>rw[s]at h;exact h.elim
  |some pv=>rw[s]at h;obtain⟨K,J⟩:=Fp s;exact D _ H [.lst l] [.ref a] Q pv (.one C) K λw B m al q=>h _ S m (z.al (A al)) (A al).grow w (aO.imm pv J q)
theorem Lo(i:Nat)(B:fh X (.builtin d) r)(u:PL X.K r f)(w:X.mg x=ae)(o:d3 x=aa (.builtin d))(C:X.N[i]?=aa y:=by rfl)(D:dR X.env.scope y:=by eq_refl)(A:(y==("__debug__":Str))=aj:=by decide) (J:(y==("__classdict__":Str))=aj:=by decide) (z:Gl X x:=by rfl) (v:x≠"__name__":=by decide) (G:(x==("__debug__":Str))=aj:=by decide) {h:Pos}(l:aL [.Name y h] X.env=(aj,aK (.Name y h) X.env)::aL [] X.env:=by rfl) (K:(ce c (aL [] X.env)).any (·.1)=aj:=by rfl):DE X E (.Call (.Name x p) [.Name y h] [] c) (vk (λm=>qX (f m)) i):=λF S M L H Q n q=>by obtain⟨a,I,s⟩:=Nz u n q;exact bW (sj B z w o (io (eC C D A J) jB l) v G l K) ⟨_,I,s⟩
def vp(o:Option PO):Option PO:=o.bind λv=>if Df v then aa v else ae
end
end Pu
namespace Pu
open L2
def nz(h:aC)(e T:ac)(c g:ah):Prop:=∃a b f d,h.get? e=aa a/\a.cls=c/\(a.data=.fields b/\a.dict=ae)/\b[1]?=aa (.ref T)/\T≠e/\h.get? T=aa f/\f.data=.fields d/\d[3]?=aa g
def Made(h:aC)(e:ac)(c:ah):Prop:=∃a b,h.get? e=aa a/\a.cls=c/\(a.data=.fields b/\a.dict=ae)/\b[1]?=aa .none
structure Kp(fs:List ac)(X:ac->Prop)(h h':aC):Prop where
 keep:∀b o,h.get? b=aa o->b∉fs->¬X b->h'.get? b=aa o
 slot:∀b o,h.get? b=aa o->b∈fs->¬X b->∃sl,h'.get? b=aa {o with slots:=sl}
 there:∀b o,h.get? b=aa o->∃o',h'.get? b=aa o'
theorem Kp.trans{fs:List ac}{X Y:ac->Prop}{h g f:aC}(a:Kp fs X h g)(b:Kp fs Y g f):Kp fs (λc=>X c\/Y c) h f where
 keep:=λc o e n x=>b.keep c o (a.keep c o e n λz=>x (.inl z)) n λz=>x (.inr z)
 slot:=λc o e n x=>by obtain⟨l,j⟩:=a.slot c o e n λz=>x (.inl z);obtain⟨d,i⟩:=b.slot c _ j n λz=>x (.inr z);exact⟨d,i⟩
 there:=λc o e=>let ⟨o',e'⟩:=a.there c o e;b.there c o' e'
theorem Kp.imp{fs d:List ac}{X Y:ac->Prop}{h j:aC}(a:Kp fs X h j)(f:∀b,b∈fs->b∈d)(g:∀b o,h.get? b=aa o->X b->Y b):Kp d Y h j where
 keep:=λc o e n x=>a.keep c o e (λz=>n (f c z)) λz=>x (g c o e z)
 slot:=λc o e n x=>by
  by_cases i:c∈fs
  .exact a.slot c o e i λz=>x (g c o e z)
  .exact⟨o.slots,a.keep c o e i λz=>x (g c o e z)⟩
 there:=a.there
theorem Iu(f:Array ah->Array ah)(o:Obj):(og f o).dict=o.dict:=by
 obtain⟨c,d,dt,a⟩:=o;cases dt <;> rfl
section
variable{M:Model}{A:aX}{E:ah->am->Prop}{s:am}
theorem By{B:aC}{l:Env}{g:List Env}{L e:ac}{y:Obj}{H:Array ah}{C:ah}{N9:Bool}{Q:Unit->am->Prop}(jr:A.frames=aa (l::g)) (S:s.heap.FunFrames B (l::g)) (hf:l.frame=aa L) (W:s.heap.get? e=aa y) (J:y.data=.fields H) (lZ:y.dict=ae) (w:1<H.size)(h:∀N T,Kp (eV (l::g)) (λb=>b=e) s.heap N->nz N e T y.cls .none->s.heap.objs.size<=T->Q () {s with heap:=N}):aw M A (do let a <-frameOf l;let u <-entryPlaceOf L N9;let b <-EntryCells.newEntry C a .none (dO L) .none u;lW (.ref e) 1 b) (λ_ Z=>aw M A (setFlight (.ref e) ae) Q E Z) E s:=by
 have z:e∉(l::g).filterMap (·.frame):=λhm=>by obtain⟨_,o,G,Y⟩:=S.mem hm;rw[W]at G;injection G with G;subst G;exact Y H J
 refine au (wpAny_frameOf_fun jr S hf λc d=>?_);refine au (wpAny_entryPlaceOf λu X=>?_);unfold EntryCells.newEntry newFields;refine au (lS ?_ (X.sizeOk5 _ _ _ _ _));have p:c.get? e=aa y:=(d.2.1 e z).trans W;have n:=bi (h:=c) {cls:=.type "traceback",dict:=ae,data:=.fields ([C,.ref L,.none,dO L,.none]++(if u.isEmpty then cY 6 Value.none else u)).toArray} p;refine sQ n J w ?_;have D:c.objs.size≠e:=iB (bo p);have j:=zQ J (·.setIfInBounds 1 (Value.ref c.objs.size));have i:=p0 (og (·.setIfInBounds 1 (Value.ref c.objs.size))) n (EC j);have r:=(pT (c.push {cls:=.type "traceback",dict:=ae,data:=.fields ([C,.ref L,.none,dO L,.none]++(if u.isEmpty then cY 6 Value.none else u)).toArray}) (og (·.setIfInBounds 1 (Value.ref c.objs.size))) (eE D)).trans (cm c rfl);unfold setFlight;refine au (pP i j (x:=.ref c.objs.size) (by simp[w]) ?_);rw[if_pos (show(Value.ref c.objs.size != Value.none)=ai from by simp)];refine sQ r rfl (by simp only[cu,eG,e_,kD] <;> lia) (h _ c.objs.size ?_ ?_ ?_)
 .have m:∀b o,b≠e->c.get? b=aa o ->
    (((c.push {cls:=.type "traceback",dict:=ae,data:=.fields ([C,.ref L,.none,dO L,.none]++(if u.isEmpty then cY 6 Value.none else u)).toArray}).update e (og (·.setIfInBounds 1 (Value.ref c.objs.size)))).update c.objs.size (og (·.setIfInBounds 3 ((ae:Option ac).elim Value.none λf=>dO f)))).get? b=aa o:=λb o F v=>by
   have K:c.objs.size≠b:=iB (bo v);rw[pT _ _ K,pT _ _ (eE F)];exact bi _ v
  refine⟨λb o v P I=>m b o I ((d.2.1 b P).trans v),λb o v P I=>?_,λb o v=>?_⟩
  .obtain⟨O,q⟩:=d.2.2 b o v;exact⟨O,m b _ I q⟩
  .by_cases F:b=e
   .subst F;exact⟨_,(pT _ _ D).trans i⟩
   .obtain⟨O,q⟩:=d.2.2 b o v;exact⟨_,m b _ F q⟩
 .refine⟨_,_,_,_,(pT _ _ D).trans i,Obj.cls_mapFields _ _,⟨j,by rw[Iu];exact lZ⟩,by simp[w],D,p0 _ r (EC (zQ rfl _)),zQ rfl _,by first | (simp;done) | (rcases X with rfl|⟨_,_,_,_,_,_,_,rfl⟩ <;> simp)⟩
 .exact lN d.1.symm
theorem K9{f:aC}{d:Env}{a:List Env}{L e:ac}{c:ah}{Q:Unit->am->Prop}(o:A.frames=aa (d::a))(q:s.heap.FunFrames f (d::a))(i:d.frame=aa L)(p:Made s.heap e c)(h:∀g T,Kp (eV (d::a)) (λb=>b=e) s.heap g->nz g e T c .none->s.heap.objs.size<=T->Q () {s with heap:=g}):aw M A (leaving d (.ref e)) Q E s:=by obtain⟨v,u,j,r,⟨l,n⟩,m⟩:=p;subst r;unfold leaving noteFrame;simp only[i];refine au (au (pP j l m ?_));rw[if_neg (by decide)];exact By o q i j l n (wf.mp m).1 h
theorem KF{n:aC}{i:Env}{d:List Env}{L e T:ac}{c:ah}{Q:Unit->am->Prop}(K:A.frames=aa (i::d))(P:s.heap.FunFrames n (i::d))(w:i.frame=aa L)(N:nz s.heap e T c .none)(h:∀m p,Kp (eV (i::d)) (λb=>b=e\/b=T) s.heap m->nz m e p c .none->s.heap.objs.size<=p->Q () {s with heap:=m}):aw M A (noteFrame (.ref e) i) (λ_ G=>aw M A (setFlight (.ref e) ae) Q E G) E s:=by
 obtain⟨X,v,Y,F,x,D,⟨y,I⟩,C,H,r,j,B⟩:=N;subst D;unfold noteFrame;simp only[w];refine au (pP x y C ?_);rw[if_pos (show(Value.ref T != Value.none)=ai from by simp)];refine au (pP r j B ?_);rw[if_neg (show ¬((Value.none == dO L)=ai)from by simp[dO])];refine au (sQ r j (wf.mp B).1 ?_);have a:∀b,b≠T->(s.heap.update T (og (·.setIfInBounds 3 Value.none))).get? b=s.heap.get? b:=λb f=>pT _ _ (eE f);have g:∀b o,s.heap.get? b=aa o->(∀v,o.data≠.fields v)->b≠T:=λb o f u q=>by rw[q,r]at f;injection f with f;subst f;exact u F j
 refine By K (P.of_keeps λb o f u=>⟨o,(a b (g b o f u)).trans f,rfl⟩) w ((a e (eE H)).trans x) y I (wf.mp C).1 λm p k S O=>?_;have J:Kp (eV (i::d)) (λb=>b=T) s.heap (s.heap.update T (og (·.setIfInBounds 3 Value.none))):=by
  refine⟨λb o f _ l=>(a b l).trans f,λb o f _ l=>⟨o.slots,(a b l).trans f⟩,λb o f=>?_⟩;by_cases l:b=T
  .subst l;exact⟨_,p0 _ r (EC (zQ j _))⟩
  .exact⟨o,(a b l).trans f⟩
 refine h m p ((J.trans k).imp (λ_ z=>z) λb o _ z=>z.symm) S ?_;have W:(s.heap.update T (og (·.setIfInBounds 3 Value.none))).objs.size<=p:=O;rwa[Heap.size_update]at W
theorem MD{f:aC}{d:Env}{a:List Env}{L e T:ac}{c:ah}{Q:Unit->am->Prop}(j:A.frames=aa (d::a))(m:s.heap.FunFrames f (d::a))(n:d.frame=aa L)(l:nz s.heap e T c .none)(h:∀g i,Kp (eV (d::a)) (λb=>b=e\/b=T) s.heap g->nz g e i c .none->s.heap.objs.size<=i->Q () {s with heap:=g}):aw M A (leaving d (.ref e)) Q E s:=by unfold leaving;exact au (KF j m n l h)
end
def bX(P:aY)(w:aR):dQ:=λb H s E e s'=>∃(a T:ac) (c:ah) (d:Hp),e=.ref a/\s'.os=s.os/\lI s'.gens/\Un (eV b) [] H d s.heap s'.heap/\c_ P w d s'.heap/\nz s'.heap a T c .none /\
 (s.heap.get? a=ae/\s.heap.get? T=ae/\d a=ae/\d T=ae)/\E c ae d
theorem Ff{P:aY}{w:aR}{H:Hp}{h:aC}{a:ac}{o:HO}(x:cZ P w H h a o):∃u,h.get? a=aa u:=by
 cases o with
 |lst c=>obtain⟨_,_,_,_,e⟩:=x;exact⟨_,e⟩
 |tup c=>obtain⟨_,_,_,⟨o,e,_⟩,_⟩:=x;exact⟨_,e⟩
 |dK b=>obtain⟨_,_,_,_,o,_,_,e,_⟩:=x;exact⟨_,e⟩
 |dT b=>obtain⟨_,_,_,_,o,_,_,e,_⟩:=x;exact⟨_,e⟩
 |dN b=>obtain⟨_,_,_,_,o,_,_,e,_⟩:=x;exact⟨_,e⟩
 |set S n=>obtain⟨o,_,_,_,e,_⟩:=x;exact⟨_,e⟩
 |ins C m fs=>obtain⟨_,_,_,e,_⟩:=x;exact⟨_,e⟩
 |own y=>exact x
 |xd fs=>obtain⟨_,⟨_,_,_,e,_⟩,_⟩:=x;exact⟨_,e⟩
 |rng j l=>obtain⟨_,_,_,e⟩:=x;exact⟨_,e⟩
 |frz i u=>obtain⟨e,_⟩:=x;exact⟨_,e⟩
 |tbl g=>obtain⟨_,e,_⟩:=x;exact⟨_,e⟩
 |met f y=>exact⟨_,x⟩
 |ext d=>obtain⟨_,e,_⟩:=x;exact e
theorem Hz{P:aY}{w:aR}{H:Hp}{h:aC}{a:ac}(x:c_ P w H h)(e:h.get? a=ae):H a=ae:=by
 cases q:H a with
 |none=>rfl
 |some u=>obtain⟨o,z⟩:=Ff (x a u q);rw[e]at z;cases z
theorem r_{fs:List ac}{H c:Hp}{h b:aC}{a:ac}(u:Un fs [] H c h b)(e:b.get? a=ae):h.get? a=ae:=by
 cases q:h.get? a with
 |none=>rfl
 |some o=>obtain⟨d,z⟩:=u.there a o q (by simp);rw[e]at z;cases z
theorem Do{fs a:List ac}{H p:Hp}{h v s:aC}{X:ac->Prop}(u:Un fs [] H p h v)(k:Kp a X v s)(y:∀b o,h.get? b=aa o->b∈a->b∈fs)(l:∀b o,h.get? b=aa o->¬X b)(x:∀b∈a,p b=ae):Un fs [] H p h s where
 keep:=λb o e n j d=>k.keep b o (u.keep b o e n j d) (λz=>j (y b o e z)) (l b o e)
 slot:=λb o e n j d=>by
  obtain⟨w,i⟩:=u.slot b o e n j d;by_cases r:b∈a
  .obtain⟨m,f⟩:=k.slot b _ i r (l b o e);exact⟨m,f⟩
  .exact⟨w,k.keep b _ i r (l b o e)⟩
 free:=u.free
 there:=λb o e d=>let ⟨o',e'⟩:=u.there b o e d;k.there b o' e'
 tups:=u.tups
 frzs:=u.frzs
 tbls:=λb q e=>⟨(u.tbls b q e).1,λc o f g=>⟨k.keep c o ((u.tbls b q e).2 c o f g).1 (λz=>by have i:=((u.tbls b q e).2 c o f g).2;rw[x c z]at i;cases i) (l c o g),((u.tbls b q e).2 c o f g).2⟩⟩
theorem B8{P:aY}{w:aR}{fs:List ac}{H:Hp}{h d:aC}{X:ac->Prop}(x:c_ P w H h)(k:Kp fs X h d)(f:∀b∈fs,H b=ae)(g:∀b,X b->H b=ae):c_ P w H d:=λb u e=>
 (x b u e).stay (λc v a q=>k.keep c v q (λz=>by
   have:=f c z;rcases a with rfl|a
   .rw[e]at this;cases this
   .rw[a]at this;cases this) λz=>by
   have:=g c z;rcases a with rfl|a
   .rw[e]at this;cases this
   .rw[a]at this;cases this) (λ_ q=>q) λ_ _ q=>q
section
variable{P:aY}{w:aR}{K:ar}{n:Str->Option ah}{l:aC}{N:List Str}{j:Str}{g:dm}{f:ac}{p:ah}{A:aX}{i:List Env}{d:am}{m:Hp}{E:XK}
theorem cR:iQ (bX P w) (eO (bX P w) P w K n l N j g f p A i d m E) E:=λaf Y H s e s' I h=>by
 obtain⟨a,T,c,X,rfl,J,M,un,B,Q,⟨S,W,G,Z⟩,O⟩:=h;have r:=I.call' (s':=s') (ch:=[]) J un B M (λb z=>absurd z (by simp));refine MD (L:=d.heap.objs.size) I.ok.frames r.stack rfl Q λkK F k C y=>?_;have Js:(eO (bX P w) P w K n l N j g f p A i d m E).ex=[]:=rfl;have v:d.heap.get? a=ae:=r_ I.base S;have D:d.heap.get? T=ae:=r_ I.base W;have x:d.heap.get? F=ae:=r_ r.base (Ej y);have u:∀b o,d.heap.get? b=aa o->b≠a/\b≠T:=λb o e=>⟨(by rintro rfl;rw[v]at e;cases e),(by rintro rfl;rw[D]at e;cases e)⟩
 refine⟨a,F,c,X,rfl,r.os,r.bare,Do r.base k (λb o e z=>?_) (λb o e z=>z.elim (u b o e).1 (u b o e).2) r.stkFree,B8 r.hok k r.stkFree (λb z=>by rcases z with rfl|rfl <;> assumption),C,⟨v,x,G,r.hok.fresh y⟩,O⟩;rcases bV.mp (I.stkSub b z)with q|q
 .exact absurd (bo e) (by rw[q];exact dZ _)
 .exact q
end
section
variable{X:Cx}{E:XK}{pin:List Nat}{e:ay}{de:ag->R PV}{x:Str}{C:ac}{i:List ah}{d f B:String}{l g j:Pos}
def Ah(X:Cx)(E:XK):Prop:=∀(n:List (ac×Obj)) (m:St) (H:Hp) (s:am) (a:ac) (c:ah) (h:aC),Inv X n m H s->(∀b o,s.heap.get? b=aa o->h.get? b=aa o)->Made h a c->s.heap.get? a=ae->(E c ae H)->X.xe (.ref a) {s with heap:=h}
def kX(c:ah)(de:ag->R PV):ag->R aE:=λb=>(de b).bind λ_ a=>.er c a
theorem Ku{h c:aC}{e:ac}{a:ah}{b:List ah}(m:Heap.MadeExcOf h c e a b):Made c e a:=by obtain⟨t,n,_,_⟩:=m.there;exact⟨_,_,n,rfl,⟨rfl,rfl⟩,rfl⟩
theorem o8(hx:Ah X E)(hc:X.calm=ai)(O:OwnCls x C i d X.mg X.base)(Q:ExcBaseFacts B d f i)(he:DE X.nox E0 e de)(hg:Gl X x:=by rfl)(hd:(x==("__debug__":Str))=aj:=by decide)(M:aL [e] X.env=[(aj,aK e X.env)]:=by rfl):DS X E pin (.Raise (aa (.Call (.Name x l) [e] [] g)) ae j) (kX (.ref C) (λw=>bp (de w))):=λF S w n H D Z q=>Bx.mk λP s I=>by
 obtain⟨W,N,nm,qn,bs,hdct,sn,sub,ab,col,dd,k0,k1,k2,k3,k5,mN,hC,hN,J,T⟩:=O.obj;refine wpAny_Raise_call_subT (C:=C) (nm:=nm) (q:=qn) (N:=N) (bs:=bs) (bm:=W) (hdct:=hdct) (sn:=sn) (sub:=sub) (ab:=ab) (col:=col) (dd:=dd) (k0:=k0) (k1:=k1) (k2:=k2) (k3:=k3) (k5:=k5)
  Q (mN:=mN) (T.hasType Q.hasBase) (I.ok.hd hc) (by rw[M];rfl) J (vV I hg O.bound ⟨rfl,?_⟩ hd)
 have q2:Ok X.K E0 n F S H (de w) (λ_ b r o p=>gw X.K E pin n r o p (.er (.ref C) b) D):=by
  have q:gw X.K E pin n F S H ((bp (de w)).bind λ_ b=>.er (.ref C) b) D:=q;cases K:de w with
  |no=>rw[K]at q;exact q.elim
  |er c A=>rw[K]at q;exact q.elim
  |ok v A=>rw[K]at q;exact λF' S' H' r' g'=>q.from g' (gJ.refl _ _)
 rw[M];refine zA (eF (zv (eF ((he F S w n H (λv p=>∃r o b,aH X.K r o b n p/\gw X.K E pin n r o p (.er (.ref C) b) D) Z (q2.imp λv b r o p L g1 h v' rv=>⟨r,o,b,L,h⟩)).run P s (I.wish _)) (λu Y ⟨v,p,y,L,r,o,b,G,ok⟩=>?_) λ_ _ z=>z.elim)) (λ_ _ z=>z) λ_ _ z=>z);have y:=y.unwish;refine Eo ⟨rfl,(by show 1<=bc;decide),y.bk _ _ hC,hN.keeps y.bk,T.keeps y.bk,λh' a m=>?_⟩;exact hx P n p Y a (.ref C) h' y m.keeps (Ku m) m.new (ok ae r o n p G (a5.refl ..) (gJ.refl _ _))
end
section
variable{P:aY}{w:aR}{K:ar}{m:Str->Option ah}{j:aC}{N:List Str}{i:Str}{g:dm}{f:ac}{n:ah}{A:aX}{h:List Env}{d:am}{l:Hp}{E:XK}
theorem oE:Ah (eO (bX P w) P w K m j N i g f n A h d l E) E:=λM D H s a c B I G F new J=>by
 have p:Inv _ M D H {s with heap:=B}:=I.kept (t':=s.toks) G;refine K9 (s:={s with heap:=B}) (L:=d.heap.objs.size) I.ok.frames p.stack rfl F λO C k x v=>?_;have r:d.heap.get? a=ae:=r_ I.base new;have u:d.heap.get? C=ae:=r_ p.base (Ej v);have y:H a=ae:=Hz I.hok new;refine⟨a,C,c,H,rfl,p.os,p.bare,Do p.base k (λb o e z=>?_) (λb o e z=>by rw[show b=a from z,r]at e;cases e) p.stkFree,B8 p.hok k p.stkFree (λb z=>by rw[show b=a from z];exact y),x,⟨r,u,y,p.hok.fresh v⟩,J⟩;rcases bV.mp (I.stkSub b z)with q|q
 .exact absurd (bo e) (by rw[q];exact dZ _)
 .exact q
end
def XP(X:Cx)(g:List (ac×Obj))(d:St)(h:ah->Hp->Prop)(e:ah)(f:am):Prop:=∃a b,Inv X g d b a/\bX X.prog X.w X.stack b a (λc _ i=>h c i) e f
section
variable{X:Cx}{K:ar}
variable{E:XK}{e:ay}{de:ag->R PV}{a:Pos}{y:Str}
def nt(b:List PV)(y:PV):Option PV:=(dy y).bind λv=>(iS b).map λc=>.int (c.countP λz=>fk z v)
end
theorem Gh(c:Nat)(x:Tx):ud [c] x=x.contains c:=by unfold ud;have:=StrLaws.found_one (tS x) c;rw[mq]at this;rw[show(tS [c])=⟨#[c]⟩from rfl,this];simp[List.contains_eq_mem]
section
variable{X:Cx}{E:XK}{n:dm}{x:Str}{N':List Str}{cap:List Nat}
variable{pin:List Nat}
theorem Gr{F:ac->Prop}{S:Nat->ac->Prop}{m:ag}{f:St}{H:Hp}{D:jC}{i:Nat}{dn:ag->R PO}(Q:i∉pin)(rl:aH X.K F S m f H)(h:gw X.K E pin f F S H (aZ i (dF dn) m) D):Ok X.K E f F S H (dn m) (λr _ q u l=>∀a d,dG X.K l q r a d->(∀b,d b->H b=ae/\¬q b/\¬U u b/\∃o,l b=aa o/\dA o)->D.nx (f.set i (aa (.ref a))) l):=by
 unfold aZ dF at h;cases s:dn m with
 |no=>rw[s]at h;exact h.elim
 |er c J=>rw[s]at h;exact λx q u l N g'=>h x q u f l N g' (gJ.refl _ _)
 |ok r I=>
  rw[s]at h;intro G B p M j a d O A;cases r with
  |dK g=>exact h.elim
  |lls fX=>exact h.elim
  |dL fX=>exact h.elim
  |ins C fs=>exact h.elim
  |dT g=>exact h.elim
  |dN g=>exact h.elim
  |inl C fs y v=>exact h.elim
  |lst v=>
   have Y:∀b,d b->¬U B b/\∃o,p b=aa o:=λb z=>let ⟨_,_,x3,o,x4,_⟩:=A b z;⟨x3,o,x4⟩
   obtain⟨⟨K,T,P⟩,W⟩:=O;have Z:a5 (U S) (U B) F (λb=>G b\/d b) H p:=⟨λb z=>.inl (j.fro b z),j.keep,j.there,λb z=>z.elim (j.fnew b) λw=>.inr (.inl (A b w).1),j.onew⟩
   have L:aO X.K p (λb=>G b\/d b) (.lst v) (.ref a):=⟨a,K,rfl,.inl T,.inr ((W a).mpr rfl),ba.mono (λ_ z=>.inl z) (λ_ _ _ z=>z) (λ_ _ z _=>z) _ _ P⟩
   exact h _ _ _ p ((M.more Y).set L) (Z.trans (a5.less i)) (gJ.set Q)
section
variable{c a:ay}{y:Str}{g j f d:Pos}{l:ag->R (List PV)}{dt:ag->R Bool}{de:ag->R PV}{m:ag->R PO}{b:List ay}
theorem FA(i:Nat)(T:X.N.Nodup)(B:f8 X n x N' cap)(P:X.calm=ai)(M:DI X E (.Name x g) a l)(J:∀C o p r q,DF (cx X n N' C o p r q) E0 b dt) (O:∀C o p r q,DE (cx X n N' C o p r q) E0 c de)(L:i∉pin:=by decide) (A:X.N[i]?=aa y:=by rfl) (G:Loc X.env.scope y:=by first|exact Or.inl rfl|exact Or.inr rfl) (z:gD (.ListComp c [⟨.Name x g,a,b,0⟩] n f) (aa (.Name y j)) d.line X.env=pure ai:=by rfl)(N:X.fn y=ai\/X.env.scope.names.lookup y=aa .local:=by first|exact .inl rfl|exact .inr rfl) (K:∀x,mE a X.env x=pure x:=by intro _;rfl):DS X E pin (.Assign [.Name y j] (.ListComp c [⟨.Name x g,a,b,0⟩] n f) d) (aZ i (dF (cj cap l dt de))):=λF S W u H D w h=>eD (Nb (wi:=pC X (.Name x g) a) (ts:=λu H Q=>∀C o p r q,u6 (cx X n N' C o p r q) b u H Q) (te:=λu H Q=>∀C o p r q,fY (cx X n N' C o p r q) c u H Q) B P vY (λC o p r q v s u H Q I h=>(h C o p r q).run v s I) (λC o p r q v s u H Q I h=>(h C o p r q).run v s I) T A G z N K) (B7 M J O w (Gr L w h))
end
end
def fP(a:List Nat):Nat->ag->Bool
 |_,[]=>ai
 |i,.own c::b=>a.contains i&&gQ c&&fP a (i+1) b
 |i,_::b=>fP a (i+1) b
theorem qS{c:List Nat}:∀{b:ag}{k:Nat},fP c k b=ai->∀(i:Nat) a,b[i]?=aa (.own a)->k+i∈c/\gQ a=ai
 |[],_,_,i,a,e=>by simp at e
 |.own q::b,k,h,0,a,e=>by simp only[List.getElem?_cons_zero,Option.some.injEq,Slot.own.injEq]at e;subst e;simp only[fP,ef]at h;exact⟨by simpa using h.1.1,h.1.2⟩
 |.own q::b,k,h,i+1,a,e=>by simp only[fP,ef]at h;have:=qS (k:=k+1) h.2 i a (by simpa using e);rwa[sS,sT]at this
 |.val q::b,k,h,0,a,e=>by simp at e
 |.none::b,k,h,0,a,e=>by simp at e
 |.val q::b,k,h,i+1,a,e=>by have:=qS (k:=k+1) (by simpa[fP]using h) i a (by simpa using e);rwa[sS,sT]at this
 |.none::b,k,h,i+1,a,e=>by have:=qS (k:=k+1) (by simpa[fP]using h) i a (by simpa using e);rwa[sS,sT]at this
def bz(len:Nat)(b:List Nat)(g:ag->R Slot):ag->R Slot:=λa=>if a.length=len/\fP b 0 a=ai then g a else .no
theorem c8{q:dQ}{P:aY}{w:aR}{K:ar}{o:Str->Option ah}{g:aC}{x:Str}{c:aU}{N b:List Str}{k n:Nat}{d:ag->R aE}{pin:List Nat}(D:cS K o x c)(G:bJ N b (aJ c))(v:N.length=b.length+n)(y:∀(kV p u:ah) (F:Option ac) (l C:ah) (m:List ah),m.length=b.length->dP (fG x x (fI c) (df c) (aJ c) .none kV p u F l C) ⟨m,[]⟩=pure (b.zip m))(B:∀(f:ac) (l:ah) (A:aX) (j:List Env) (s:am) (H:Hp) (E:XK),Room k (A.deeper (fD x (aJ c) s.heap.objs.size f l))->fj (eO q P w K o g N x (aJ c) f l A j s H E) E pin (df c) d):cK q P w K o g x (k+1) b (bj K (bz b.length pin (a6 n d))):=by
 have no:∀{a},bz b.length pin (a6 n d) a≠.no->a.length=b.length/\fP pin 0 a=ai:=λ{a} h=>by
  unfold bz at h;by_cases z:a.length=b.length/\fP pin 0 a=ai
  .exact z
  .rw[if_neg z]at h;exact absurd rfl h
 exact NR D G v y (λa h=>(no h).1) (λa h i r e=>by have:=qS (no h).2 i r e;rwa[p9]at this) (λa h=>by unfold bz;rw[if_pos (no h)]) B
theorem BR{f:ac}{r:gb}{u:dQ}{P:aY}{w:aR}{K:ar}{q:Str->Option ah}{j:aC}{x a:Str}{g:aU}{N c:List Str}{k n:Nat}{d:ag->R aE}{pin:List Nat}(J:ki K x a g f r)(I:bJ N c (aJ g))(B:N.length=c.length+n)(C:∀(kV p y:ah) (G:Option ac) (m F:ah) (o:List ah),o.length=c.length->dP (fG x a (fI g) (df g) (aJ g) .none kV p y G m F) ⟨o,[]⟩=pure (c.zip o))(D:∀(f:ac) (m:ah) (A:aX) (l:List Env) (s:am) (H:Hp) (E:XK),Room k (A.deeper (fD a (aJ g) s.heap.objs.size f m))->fj (eO u P w K q j N a (aJ g) f m A l s H E) E pin (df g) d):fO P w K q j u (k+1) f r c (bj K (bz c.length pin (a6 n d))):=by
 have no:∀{b},bz c.length pin (a6 n d) b≠.no->b.length=c.length/\fP pin 0 b=ai:=λ{b} h=>by
  unfold bz at h;by_cases z:b.length=c.length/\fP pin 0 b=ai
  .exact z
  .rw[if_neg z]at h;exact absurd rfl h
 exact Ch J I B C (λb h=>(no h).1) (λb h i v e=>by have:=qS (no h).2 i v e;rwa[p9]at this) (λb h=>by unfold bz;rw[if_pos (no h)]) D
theorem DB{P:List ah->Prop}(h:∀a,P [a])(c:List ah)(d:c.length=1):P c:=by
 cases c with
 |nil=>cases d
 |cons a r=>cases r with
  |nil=>exact h a
  |cons b r=>cases d
theorem D9{P:List ah->Prop}(h:∀a b,P [a,b])(c:List ah)(d:c.length=2):P c:=by
 cases c with
 |nil=>cases d
 |cons a r=>exact DB (P:=λr=>P (a::r)) (h a) r (zR d)
theorem Bn{P:List ah->Prop}(h:∀a b c,P [a,b,c])(d:List ah)(f:d.length=3):P d:=by
 cases d with
 |nil=>cases f
 |cons a r=>exact D9 (P:=λr=>P (a::r)) (h a) r (zR f)
theorem MW{P:List ah->Prop}(h:∀a b c d,P [a,b,c,d])(f:List ah)(g:f.length=4):P f:=by
 cases f with
 |nil=>cases g
 |cons a r=>exact Bn (P:=λr=>P (a::r)) (h a) r (zR g)
theorem Oz{d:gb}{c:List Str}(h:∀a,dP d ⟨[a],[]⟩=pure (c.zip [a]))(b:List ah)(f:b.length=1):dP d ⟨b,[]⟩=pure (c.zip b):=DB (P:=λb=>dP d ⟨b,[]⟩=pure (c.zip b)) h b f
theorem Om{f:gb}{d:List Str}(h:∀a b,dP f ⟨[a,b],[]⟩=pure (d.zip [a,b]))(c:List ah)(g:c.length=2):dP f ⟨c,[]⟩=pure (d.zip c):=D9 (P:=λc=>dP f ⟨c,[]⟩=pure (d.zip c)) h c g
theorem Ow{g:gb}{f:List Str}(h:∀a b c,dP g ⟨[a,b,c],[]⟩=pure (f.zip [a,b,c]))(d:List ah)(i:d.length=3):dP g ⟨d,[]⟩=pure (f.zip d):=Bn (P:=λd=>dP g ⟨d,[]⟩=pure (f.zip d)) h d i
theorem OI{i:gb}{g:List Str}(h:∀a b c d,dP i ⟨[a,b,c,d],[]⟩=pure (g.zip [a,b,c,d]))(f:List ah)(j:f.length=4):dP i ⟨f,[]⟩=pure (g.zip f):=MW (P:=λf=>dP i ⟨f,[]⟩=pure (g.zip f)) h f j
theorem dE{P:aY}{w:aR}{X:Cx}:iQ (bX P w) X E0:=λ_ _ _ _ _ _ _ h=>by obtain⟨a,T,c,b,_,_,_,_,_,_,_,z⟩:=h;exact z.elim
theorem d7:d3 "len"=aa (.builtin "len"):=by decide +kernel
theorem y9:d3 "all"=aa (.builtin "all"):=by decide +kernel
theorem KP:d3 "any"=aa (.builtin "any"):=by decide +kernel
theorem x8:d3 "sorted"=aa (.builtin "sorted"):=by decide +kernel
theorem rJ:d3 "isinstance"=aa (.builtin "isinstance"):=by decide +kernel
theorem K3:d3 "int"=aa (.type "int"):=by decide +kernel
theorem KQ:d3 "bool"=aa (.type "bool"):=by decide +kernel
theorem Jm:d3 "str"=aa (.type "str"):=by decide +kernel
theorem xq:d3 "list"=aa (.type "list"):=by decide +kernel
theorem nq:d3 "tuple"=aa (.type "tuple"):=by decide +kernel
theorem Je:d3 "set"=aa (.type "set"):=by decide +kernel
def lr:ay->Bool
 |.Starred _ _=>ai
 |_=>aj
theorem j9{e:ay}{es:List ay}{env:Env}(h:lr e=aj):aL (e::es) env=(aj,aK e env)::aL es env:=by
 cases e <;> first|rfl|cases h
section
variable{X:Cx}{E:XK}{e:ay}{a:List ay}{d:ag->R PV}{b:ag->R (List PV)}{c:ag->R (List bK)}
theorem aS(g:DE X E e d)(f:DA X E a b)(h:lr e=aj:=by rfl):DA X E (e::a) (aq d b):=JH g f (j9 h)
theorem aQ(g:DE X E e d)(f:DG X E a c)(h:lr e=aj:=by rfl):DG X E (e::a) (gV d c):=GO g f (j9 h)
end
def u0:List ah:=[.type "ValueError",.type "Exception",.type "BaseException",.type "object"]
theorem MN{K:ar}{h:aC}{C:ac}{B:List ah}{nw:String}(X:K.In h)(q:p_ K C B nw=ai):∃g N v o bs D i sub F b E A z y x w f,h.get? C=aa (excClassObj v o C N bs g D i sub F b E A z y x w nw)/\h.Ns N f/\f "__init__"=ae/\OwnTail h B g:=by
 unfold p_ at q;split at q
 case h_2=>cases q
 case h_1 d0 cdata slots look=>
  split at q
  case h_2=>cases q
  case h_1 C2 tl s0 s1 s2 s3 nn s5 em es=>
   rw[ef,ef,ef,ef,ef]at q;obtain⟨⟨⟨⟨⟨u,s⟩,d⟩,r⟩,a⟩,p⟩:=q;have n:=beq_iff_eq.mp u;have m:=beq_iff_eq.mp s;have c:=beq_iff_eq.mp p;subst n m;cases cdata;dsimp only at em d a c;subst em;have l:=Bool.not_eq_true' _ |>.mp d
   subst l;have j:slots=#[s0,s1,s2,s3,aa (.builtin nn),s5]:=by cases slots;exact congrArg Array.mk es
   subst j;exact⟨tl,_,_,_,_,_,_,_,_,_,d0,s0,s1,s2,s3,s5,_,X _ _ look,Heap.Ns.of_isNs (PySem.W.isNs_of_in X a),PySem.W.nsMap_none_of_in X a c,PySem.W.tail_of_in X r⟩
theorem qT{K:ar}{h:aC}{a:Str->Option ah}{x:Str}{C:ac}{B:List ah}{nw:String}(X:K.In h)(e:a x=aa (.ref C))(q:p_ K C B nw=ai):OwnCls x C B nw a h:=⟨e,MN X q⟩
def subB(K:ar)(D C:ac):Bool:=match K.lookup C with
 |some ⟨_,_,.cls a,_⟩=>a.mro.contains (.ref D)
 |_=>aj
def Ck(K:ar)(C:ac):Bool :=
 gC K (.ref C) "__getattribute__" == aa (aa (.builtin "BaseException.__getattribute__"))&&gC K (.ref C) "__getattr__" == aa ae&&gC K (.ref C) "__class__" == aa (aa (.builtin "object.__class__")) &&
 PySem.W.specialIn K (.builtin "object.__class__") "__get__" == aa (aa (.builtin "getset_descriptor.__get__"))&&PySem.W.takesIn K (.builtin "object.__class__") == aa ai&&PySem.W.mroIn K C (.type "object") == aa ai&&PySem.W.mroIn K C (.type "BaseException") == aa ai&&(PySem.W.clsIn K C).isSome
def wI(K:ar):Bool:=K.all λp=>match p.2.cls with
 |.type t=>t != "list"
 |_=>ai
theorem Dl{a:ac}{o:Obj}:∀{K:ar},K.lookup a=aa o->(a,o)∈K
 |[],e=>by cases e
 | (b,u)::K,e=>by
  rw[iE]at e;cases q:a == b with
  |true=>rw[q]at e;cases e;rw[beq_iff_eq.mp q];exact lJ ..
  |false=>rw[q]at e;exact iA _ (Dl e)
theorem Ca{K:ar}{H:Hp}{F:ac->Prop}:∀a:List Int,ba K H F (a.map .int) (a.map V.int)
 |[]=>rfl
 |x::a=>⟨.int x,a.map V.int,rfl,rfl,Ca a⟩
theorem Mb{K:ar}{H:Hp}{a:ac}{b:List V}(h:wI K=ai)(s:b_ K H a b):Rd H a (.lst b):=by
 rcases s with s|⟨o,d,n,c,f,_⟩
 .exact s
 .have:=iF.mp h _ (Dl c);rw[f]at this;simp at this
theorem MU{K:ar}{g:ag->R Slot}{H:Hp}{a:ac}{c:List Int}{E:XK}(d:Rd H a (.lst (c.map V.int)))(h:g [.val (.lst (c.map .int))]=.ok (.val (.bl ai)) [.val (.lst (c.map .int))]):bj K g [.ref a] H (λv _=>v=.bl ai) E:=by
 refine⟨λb=>b=a,λ_ _=>False,[.val (.lst (c.map .int))],⟨rfl,λb e=>?_,λi pv e=>?_,λi l e=>?_,λi b z=>z.elim,λi j b z=>z.elim⟩,?_⟩
 .subst e;rcases d with d|⟨o,d⟩ <;> exact⟨_,d⟩
 .cases i with
  |zero=>cases e;exact⟨_,rfl,a,_,rfl,d,rfl,Ca c⟩
  |succ i=>simp at e
 .cases i with
  |zero=>cases e
  |succ i=>simp at e
 .rw[h];exact λv q n p m _ _ f _ _=>f.1
theorem OF{K:ar}{x:Str}{i:Int}{t:Tok}(e:cX K bP x=aa (aa (.int i t))):∃t,cX K bP x=aa (aa (.int i t)):=⟨t,e⟩
theorem OA{K:ar}{x:Str}{l:Tx}{t:Tok}(e:cX K bP x=aa (aa (.str (tS l) t))):∃t,cX K bP x=aa (aa (.str (tS l) t)):=⟨t,e⟩
def c5(K:ar)(x:Str)(a:aU):Prop:=∃f oc g kV h d j b i c,cX K bP x=aa (aa (.ref f))/\K.lookup f=aa ⟨oc,g,.func (fG x x (fI a) (df a) (aJ a) .none kV h d j b i),c⟩/\pO K b x=ai/\kx K (.ref f)=ai
theorem Ol{K:ar}{x:Str}{b:aU}{f:ac}{oc kV j h d m:ah}{i n:Option ac}{g:Array (Option ah)}(a:cX K bP x=aa (aa (.ref f)))(l:K.lookup f=aa ⟨oc,i,.func (fG x x (fI b) (df b) (aJ b) .none kV j h n d m),g⟩)(c:pO K d x=ai) (k:kx K (.ref f)=ai):c5 K x b:=⟨f,oc,i,kV,j,h,n,d,m,g,a,l,c,k⟩
theorem c5.at{K:ar}{h:aC}{mg:Str->Option ah}{x:Str}{b:aU}(d:c5 K x b)(X:K.In h)(G:h.Ns bP mg):cS K mg x b:=by obtain⟨f,oc,j,kV,m,i,p,o,n,g,a,l,c,k⟩:=d;exact⟨f,_,gd X G a,vt l c k⟩
def kT(a:List (aM×PV))(k:aM):Option PV:=(a.find? λb=>decide (b.1=k)).map (·.2)
def oJ(a:List (aM×PV))(k:aM)(v:PV):List (aM×PV):=if(a.any λb=>decide (b.1=k))=ai then a.map (λb=>if b.1=k then(b.1,v)else b)else a++[(k,v)]
def iM:PV->Option aM
 |.int i=>aa (.inl i)
 |.str x=>aa (.inr (tS x))
 |_=>ae
section
variable{K:ar}{F:ac->Prop}{S:Nat->ac->Prop}{ε:ag}{σ:St}{H:Hp}{i:Nat}{kvs:List (aM×PV)}{d:List (aM×V)}{a:ac}
theorem vH{x:PV}{v:V}{k:aM}(r:aO K H F x v)(e:iM x=aa k):v=kV k:=by
 cases x <;> simp[iM]at e
 .subst e;exact r
 .subst e;exact r.1
theorem gz.len(h:gz K H F kvs d):d.length=kvs.length:=by
 unfold gz at h
 induction h with
 |nil=>rfl
 |cons _ _ b=>simp[b]
theorem gz.val(h:gz K H F kvs d)(k:aM):(∃x v,kT kvs k=aa x/\f9 d k=aa v/\aO K H F x v)\/(kT kvs k=ae/\f9 d k=ae):=by
 unfold gz at h
 induction h with
 |nil=>exact .inr ⟨rfl,rfl⟩
 |@cons p q ps qs r _ ih=>
  by_cases e:p.1=k
  .refine .inl ⟨p.2,q.2,by simp[kT,gF,e],?_,r.2⟩;rw[rN (by rw[<-r.1];exact e)]
  .have b:¬q.1=k:=by rw[<-r.1];exact e
   rw[rk b];have:kT (p::ps) k=kT ps k:=by simp[kT,gF,e]
   rw[this];exact ih
theorem gz.any(h:gz K H F kvs d)(k:aM):(kvs.any λb=>decide (b.1=k))=d.any λb=>decide (b.1=k):=by
 unfold gz at h
 induction h with
 |nil=>rfl
 |cons r _ c=>rw[lU,lU,c,r.1]
theorem gz.put(h:gz K H F kvs d)(k:aM){x:PV}{v:V}(r:aO K H F x v):gz K H F (oJ kvs k x) (fV d k v):=by
 unfold oJ fV;rw[h.any k];split
 .rename_i b;clear b;unfold gz at h ⊢
  induction h with
  |nil=>exact .nil
  |@cons p q ps qs r1 _ ih=>
   refine .cons ?_ ih;dsimp only;by_cases e:p.1=k
   .rw[if_pos e,if_pos (by rw[<-r1.1];exact e)];exact⟨r1.1,r⟩
   .rw[if_neg e,if_neg (by rw[<-r1.1];exact e)];exact r1
 .exact zB h ⟨rfl,r⟩
theorem aH.dkAt(r:aH K F S ε σ H)(e:ε[i]?=aa (.own (.dK kvs))):∃a d,σ[i]?=aa (aa (.ref a))/\H a=aa (.dK d)/\gz K H F kvs d/\S i a/\∀b,S i b->b=a:=by obtain⟨a,l,⟨f,j,g⟩,c⟩:=r.own i _ e;exact⟨a,f,l,j,g,(c a).mpr rfl,λb h=>(c b).mp h⟩
theorem aH.updO{l po':PO}{o':HO}(r:aH K F S ε σ H)(e:ε[i]?=aa (.own l))(N:gQ l=ai)(D:σ[i]?=aa (aa (.ref a)))(M:dA o')(h:∀u,(∀x v,aO K H F x v->aO K u F x v)->(∀x v,ba K H F x v->ba K u F x v)->u a=aa o'->∀G:ac->Prop,(∀b,G b↔b=a)->dG K u F po' a G):aH K F S (ε.set i (.own po')) σ (L2.upd H a o')/\a5 (U S) (U S) F F H (L2.upd H a o'):=by
 obtain⟨O,E,L⟩:=r.own i l e;rw[D]at E;cases E;have m:=Bw L N;have A:S i a:=(m a).mpr rfl;have C:∀b,S i b->b=a:=λb z=>(m b).mp z;have y:i<ε.length:=(cq.mp e).1;have g:a5 (U S) (U S) F F H (L2.upd H a o'):=⟨λ_ z=>z,λb o q n=>by rw[bF (by rintro rfl;exact n ⟨i,A⟩)];exact q,λb o q=>by
  by_cases B:b=a
  .subst B;exact⟨_,cg⟩
  .exact⟨o,by rw[bF B];exact q⟩,λ_ z=>.inl z,λ_ z=>.inl z⟩
 refine⟨⟨by rw[iG];exact r.len,λb z=>let ⟨o,q⟩:=r.ex b z;g.there b o q,λj pv q=>?_,λj l q=>?_,λj b z=>?_,r.dist⟩,g⟩
 .have f:i≠j:=by rintro rfl;rw[dw y]at q;cases q
  rw[cP f]at q;obtain⟨v,s,p⟩:=r.val j pv q;exact⟨v,s,p.grow g r.fit⟩
 .by_cases f:i=j
  .subst f;rw[dw y]at q;cases q;exact⟨a,D,h _ (λ_ _ z=>z.grow g r.fit) (λ_ _ z=>z.grow g r.fit) cg _ m⟩
  .rw[cP f]at q;obtain⟨c,s,p⟩:=r.own j l q;refine⟨c,s,p.mono (λ_ _ z=>z.grow g r.fit) (λ_ _ z=>z.grow g r.fit) λb o z w=>?_⟩;rw[bF (by rintro rfl;exact f (r.dist i j b A z))];exact w
 .obtain⟨⟨l,s⟩,p,o,J,I⟩:=r.foot j b z;by_cases f:i=j
  .subst f;rw[C b z];exact⟨⟨_,dw y⟩,by rw[<-C b z];exact p,_,cg,M⟩
  .exact⟨⟨l,by rw[cP f];exact s⟩,p,o,by rw[bF (by rintro rfl;exact f (r.dist i j b A z))];exact J,I⟩
end
def eQ(b:ag)(i:Nat):Option (List (aM×PV)):=match b[i]? with
 |some (.own (.dK a))=>aa a
 |_=>ae
theorem mw{b:ag}{i:Nat}{a:List (aM×PV)}(h:eQ b i=aa a):b[i]?=aa (.own (.dK a)):=by
 unfold eQ at h;split at h
 .cases h;assumption
 .cases h
section
variable{X:Cx}{E:XK}{pin:List Nat}{e b c:ay}{de db f:ag->R PV}{d:Pos}
def xN:ag->R PO:=λa=>.ok (.dK []) a
theorem GW:DN X E (.Dict [] [] d) xN:=λF S l i H Q g h=>bW HH λp a=>by
 have al:Al F F H (upd H p (.dK [])):=Al.new0 a;refine h F S _ (g.al al) al.grow p (λb=>b=p) ⟨⟨[],cg,.nil⟩,λb=>p8⟩ λb z=>?_;subst z;refine⟨a,λz=>?_,λ⟨j,z⟩=>?_,_,cg,trivial⟩
 .obtain⟨o,q⟩:=g.ex b z;rw[a]at q;cases q
 .obtain⟨_,_,o,q,_⟩:=g.foot j b z;rw[a]at q;cases q
def lE(i:Nat)(db:ag->R PV):ag->R PV:=λg=>(aG (eQ g i) g).bind λ_ g=>(db g).bind λk a=>(aG (eQ a i) a).bind λh a=>aG ((iM k).bind λk=>kT h k) a
theorem BW(i:Nat){y:Str}{A:Pos}(hu:X.A.units+64<cLine)(L:DE X E b db)(N:X.N[i]?=aa y:=by rfl)(O:dR X.env.scope y:=by eq_refl)(K:(y==("__debug__":Str))=aj:=by decide) (P:(y==("__classdict__":Str))=aj:=by decide) (I:uX b:=by exact λ_ _=>rfl):DE X E (.Subscript (.Name y A) b d) (lE i db):=λF S o z H Q p h=>by
 unfold lE at h;cases n:eQ o i with
 |none=>rw[n]at h;exact h.elim
 |some s=>
  rw[n]at h;simp only[cW,R.bind_ok]at h;obtain⟨a,B,w,_⟩:=p.dkAt (mw n);refine bW (Ai ∅ (eC N O K P) bx I) ⟨.ref a,w,L F S o z H _ p ((Ok.bind h).imp λk j Y T W r g1 q u C=>?_)⟩;cases m:eQ j i with
  |none=>rw[m]at q;exact q.elim
  |some G=>
   rw[m]at q;simp only[cW,R.bind_ok]at q;obtain⟨a',Z,g,M,J,_⟩:=r.dkAt (mw m);rw[w]at g;cases g;cases l:iM k with
   |none=>rw[l]at q;exact q.elim
   |some D=>
    rw[l,hV]at q;rw[vH C l];rcases J.val D with⟨x,v,h1,h2,h3⟩|⟨h1,h2⟩
    .rw[h1]at q;exact⟨a,v,rfl,by rw[<-h2];exact kg.k M,q Y T W r (a5.refl ..) v h3⟩
    .rw[h1]at q;exact q.elim
def lC(i:Nat)(db f:ag->R PV):ag->R PV:=λg=>(aG (eQ g i) g).bind λ_ g=>(db g).bind λk h=>(f h).bind λz a=>(aG (eQ a i) a).bind λj a=>aG ((iM k).map λk=>(kT j k).getD z) a
theorem Db(i:Nat){y:Str}{j g:Pos}(hu:X.A.units+64<cLine)(hb:DE X E b db)(hc:DE X E c f)(hN:X.N[i]?=aa y:=by rfl)(fg:dR X.env.scope y:=by eq_refl)(hd:(y==("__debug__":Str))=aj:=by decide) (bf:(y==("__classdict__":Str))=aj:=by decide)(l:g7 (.Name y j) "get" X.env (aK (.Name y j) X.env)=aK (.Name y j) X.env:=by rfl) (B:(g.endLine == d.line)=ai:=by rfl) (s1:lr b=aj:=by rfl) (Z:lr c=aj:=by rfl):DE X E (.Call (.Attribute (.Name y j) "get" g) [b,c] [] d) (lC i db f):=λF S J I H Q L h=>by
 have K:aL [b,c] X.env=[(aj,aK b X.env),(aj,aK c X.env)]:=by rw[j9 s1,j9 Z];rfl
 have m:M2 X (.Name y j) "get" g b c d:=⟨l,by rw[K];rfl,B,by rw[K];rfl⟩
 unfold lC at h;cases G:eQ J i with
 |none=>rw[G]at h;exact h.elim
 |some M=>
  rw[G]at h;simp only[cW,R.bind_ok]at h;obtain⟨a,Y,O,A,_⟩:=L.dkAt (mw G);refine bW (HL ∅ (eC hN fg hd bf) bx bx m) ⟨.ref a,O,a,rfl,.inl ⟨_,.inl A⟩,hb F S J I H _ L ((Ok.bind h).imp λk p F1 S1 H1 r1 g1 q u ru=>?_)⟩;refine hc F1 S1 p I H1 _ r1 ((Ok.bind q).imp λz o W P T s g2 q w r=>?_);cases D:eQ o i with
  |none=>rw[D]at q;exact q.elim
  |some kvs=>
   rw[D]at q;simp only[cW,R.bind_ok]at q;obtain⟨a',ws,n,N,hk,_⟩:=s.dkAt (mw D);rw[O]at n;cases n;cases C:iM k with
   |none=>rw[C]at q;exact q.elim
   |some ky=>
    rw[C,oa]at q;rw[vH ru C];rcases hk.val ky with⟨x,v,l,h2,B⟩|⟨l,h2⟩
    .rw[l]at q;exact⟨aa v,by rw[<-h2];exact kg.k N,q W P T s (a5.refl ..) v B⟩
    .rw[l]at q;exact⟨ae,by rw[<-h2];exact kg.k N,q W P T s (a5.refl ..) w r⟩
def kP(i:Nat)(db de:ag->R PV):ag->R aE:=λj=>(de j).bind λy g=>(aG (eQ g i) g).bind λ_ g=>(db g).bind λk a=>(aG (eQ a i) a).bind λh a=>(aG (iM k) a).bind λk a=>if h.length<b0 then .ok .next (a.set i (.own (.dK (oJ h k y))))else .no
theorem yY(i:Nat){y:Str}{B j:Pos}(hu:X.A.units+64<cLine)(hb:DE X E b db)(he:DE X E e de)(hN:X.N[i]?=aa y:=by rfl)(fg:dR X.env.scope y:=by eq_refl)(hd:(y==("__debug__":Str))=aj:=by decide) (bf:(y==("__classdict__":Str))=aj:=by decide) (Y:gD e (aa (.Subscript (.Name y B) b j)) d.line X.env=pure aj:=by rfl):DS X E pin (.Assign [.Subscript (.Name y B) b j] e d) (kP i db de):=λF S J o H D P h=>by
 refine eD (AV ∅ (eC hN fg hd bf) bx bx Y) (he F S J o H _ P (h.bindE.imp λy l F1 S1 H1 r g1 q v N=>?_));cases A:eQ l i with
 |none=>rw[A]at q;exact q.elim
 |some G=>
  rw[A]at q;simp only[cW,R.bind_ok]at q;obtain⟨a,K,x,ha0,_⟩:=r.dkAt (mw A);refine⟨.ref a,x,hb F1 S1 l o H1 _ r (q.bindE.imp λk p F2 S2 H2 C g2 g u O=>?_)⟩;cases n:eQ p i with
  |none=>rw[n]at g;exact g.elim
  |some w=>
   rw[n]at g;simp only[cW,R.bind_ok]at g;obtain⟨a',L,m,ha,I,_⟩:=C.dkAt (mw n);rw[x]at m;cases m;cases z:iM k with
   |none=>rw[z]at g;exact g.elim
   |some s=>
    rw[z]at g;simp only[cW,R.bind_ok]at g;split at g
    .rename_i Z;rw[vH O z];have gh:=I.put s (N.grow g2 r.fit);obtain⟨Q,g3⟩:=C.updO (po':=.dK (oJ w s y)) (o':=.dK (fV L s v)) (mw n) rfl x trivial λH' W m2 M Sa T=>⟨⟨_,M,gh.mono W⟩,T⟩
     exact⟨a,_,rfl,v6.k ha (by rw[I.len];exact eR Z jA),g F2 S2 o _ Q g3 (gJ.refl _ _)⟩
    .exact g.elim
end
section
variable{X:Cx}
def rL(a d:ac):HO:=.ext λh=>h.IsValuesView a d
theorem Ke:vZ X "dict.values" (λx c H Q=>∃d b,x=.ref d/\c=[]/\H d=aa (.dK b)/\∀a,H a=ae->Q (.ref a) (upd H a (rL a d))):=by
 intro B s u H x c v w Q I i j h;obtain⟨d,b,rfl,rfl,r,q⟩:=h;cases i;cases j.zero;obtain⟨z,p,g,l,f⟩:=yh I.hok r;refine call_meetsIn PySem.F.slot_dict_values f.typeIs PySem.F.entry_dict_values (PySem.F.args_dict_values_1 _) (meets_dict_values (gu X.prog X.w) d p) ⟨⟨g,f⟩,?_⟩;refine⟨.ref s.heap.objs.size,_,I.laid (a:=s.heap.objs.size) (o:=rL s.heap.objs.size d) (t':=s.toks) (λ_ _ q=>bi _ q) (bd _) ?_,rfl,q _ I.fresh⟩;exact⟨⟨_,cm _ rfl,rfl,rfl⟩,⟨_,cm _ rfl⟩,λA y ⟨o,n,m⟩ k=>⟨o,k o n,m⟩⟩
theorem KV.at{kvs:List (aM×V)}{a:List (aM×ah)}(r:KV kvs a){i:Nat}{k:aM}{u:ah}(h:a[i]?=aa (k,u)):∃v,kvs[i]?=aa (k,v)/\RelV v u:=by
 unfold KV at r
 induction r generalizing i with
 |nil=>simp at h
 |@cons p q ps qs r1 _ ih=>
  cases i with
  |zero=>simp at h;subst h;exact⟨p.2,by simp[show k=p.1 from r1.1.symm],r1.2⟩
  |succ i=>exact ih (by simpa using h)
def jn(a:List (aM×V)):Option Bool:=match a with
 |[]=>aa aj
 | (_,.int i)::r=>(jn r).map λb=>(decide (i≠0))||b
 |_=>ae
theorem B4:∀{a:List (aM×V)}{b:Bool},jn a=aa b->(∀(i:Nat) k v,a[i]?=aa (k,v)->∃n,v=.int n)/\b=(cp a.length).any λi=>match a[i]? with|aa (_,.int n)=>decide (n≠0)|_=>aj
 |[],b,h=>by simp[jn]at h;subst h;exact⟨by simp,rfl⟩
 | (k,.int n)::r,b,h=>by
  simp only[jn,wc]at h;obtain⟨l,j,g⟩:=h;obtain⟨f,d⟩:=B4 j;refine⟨λi c v e=>?_,?_⟩
  .cases i with
   |zero=>simp at e;exact⟨n,e.2.symm⟩
   |succ i=>exact f i c v (by simpa using e)
  .rw[e_,zG,lU,List.any_map,<-g,d];rfl
 | (_,.non)::_,_,h=>by simp[jn]at h
 | (_,.bl _)::_,_,h=>by simp[jn]at h
 | (_,.str _)::_,_,h=>by simp[jn]at h
 | (_,.ref _)::_,_,h=>by simp[jn]at h
 | (_,.ty _)::_,_,h=>by simp[jn]at h
theorem GU(P:X.calm=ai):fh X (.builtin "any") (λA H Q=>∃(p d:ac) (a:List (aM×V)) (b:Bool),A=[.ref p]/\H p=aa (rL p d)/\H d=aa (.dK a)/\jn a=aa b/\Q (.bl b) H):=by
 intro af s D H A us Q I r h;obtain⟨p,d,a,b,rfl,m,O,T,q⟩:=h;obtain⟨u,rfl,F⟩:=vals1 r;cases F;obtain⟨l,_,_⟩:=(show cZ X.prog X.w H s.heap p (rL p d)from I.hok p _ m)
 obtain⟨z,hs,j,g,Z⟩:=yh I.hok O;obtain⟨B,f⟩:=Z.dictAt;obtain⟨M,L⟩:=B4 T;refine call_any_walk (wpAny_pyIter_values l f ?_);refine⟨s.heap.objs.size,_,_,_,_,_,λi=>match a[i]? with|aa (_,.int n)=>decide (n≠0)|_=>aj,rfl,Walks.dictValues (qF (I.ok.hd P)) _ d (cN f.lt_size) j B,⟨⟨_,cm _ rfl,rfl,rfl⟩,f.push _⟩,λi v s' Q' E' l y=>?_,λh' E k=>?_⟩
 .obtain⟨K,N⟩:=l;obtain⟨w,C,Y⟩:=KV.at g N;obtain⟨n,rfl⟩:=M i K w C;obtain⟨t,rfl⟩:=Y;dsimp only at y;rw[C]at y;exact PyProof.Rows.truthy_int (by rw[show(n != 0)=decide (n≠0) by by_cases z:n=0 <;> simp[z]];exact y)
 .have I1:Inv X af D H {s with heap:=s.heap.push {cls:=.type "dict_valueiterator",data:=.fields #[.ref d,.int 0 0,.int j.length 0,.int B 0]},toks:=s.toks}:=I.kept (t':=s.toks) λb o e=>bi _ e;have W:(cp j.length).any (λi=>match a[i]? with|aa (_,.int n)=>decide (n≠0)|_=>aj)=b:=by rw[<-g.length];exact L.symm
  rw[W];exact⟨.bl _,H,Inv.turned (t':=E) I1 (it:=s.heap.objs.size) (λb o S e=>k b o (by simpa using S) e) I.fresh (iB I.lt) (.inr I.sz) (λx c e z=>by obtain⟨v,G⟩:=I.cell x c e;exact absurd G.lt (by rw[z];exact dZ _)) (λJ m z=>absurd (bo (I.pin J m).1) (by rw[z];exact dZ _)),rfl,q⟩
end
section
variable{X:Cx}{E:XK}{pin:List Nat}{e b c:ay}{de db G:ag->R PV}{pos:Pos}
def nM:List (aM×PV)->Option Bool
 |[]=>aa aj
 | (_,.int i)::r=>(nM r).map λb=>(decide (i≠0))||b
 |_=>ae
theorem Lc{K:ar}{H:Hp}{F:ac->Prop}{a:List (aM×PV)}{d:List (aM×V)}{k:Bool}(h:gz K H F a d)(e:nM a=aa k):jn d=aa k:=by
 unfold gz at h
 induction h generalizing k with
 |nil=>exact e
 |@cons p q C qs r _ ih=>
  obtain⟨l,pv⟩:=p;obtain⟨j,g⟩:=q;cases pv <;> simp only[nM,wc]at e <;> try cases e
  obtain⟨i,f⟩:=r;obtain rfl:g=V.int _:=f;rename_i h;simp only[jn,ih h.1,oa];rw[<-h.2]
def rq(i:Nat):ag->R PV:=λa=>(aG (eQ a i) a).bind λd a=>aG ((nM d).map .bl) a
theorem Ki(i:Nat){y:Str}{g p f d:Pos}(D:X.calm=ai)(z:X.mg "any"=ae)(I:X.N[i]?=aa y:=by rfl)(J:dR X.env.scope y:=by eq_refl)(C:(y==("__debug__":Str))=aj:=by decide) (L:(y==("__classdict__":Str))=aj:=by decide) (B:Gl X "any":=by rfl)(x:g7 (.Name y g) "values" X.env (aK (.Name y g) X.env)=aK (.Name y g) X.env:=by rfl) (w:(f.endLine == d.line)=ai:=by rfl)(u:aL [.Call (.Attribute (.Name y g) "values" f) [] [] d] X.env=(aj,aK (.Call (.Attribute (.Name y g) "values" f) [] [] d) X.env)::aL [] X.env:=by rfl) (N:(ce pos (aL [] X.env)).any (·.1)=aj:=by rfl):DE X E (.Call (.Name "any" p) [.Call (.Attribute (.Name y g) "values" f) [] [] d] [] pos) (rq i):=λF S v O H Q s h=>by
 unfold rq at h;cases o:eQ v i with
 |none=>rw[o]at h;exact h.elim
 |some l=>
  rw[o]at h;simp only[cW,R.bind_ok]at h;obtain⟨a,r,K,j,A,P,_⟩:=s.dkAt (mw o);cases n:nM l with
  |none=>rw[n]at h;exact h.elim
  |some k=>
   rw[n,oa]at h;refine bW (sj (GU D) B z KP (io (Ho PySem.F.plainAttrs_dict PySem.F.slot_dict_values PySem.F.type_dict_values Ke (eC I J C L) x w) jB u) (by decide) (by decide) u N) ⟨.ref a,K,.inr (.inr (.inl ⟨rfl,.inl ⟨_,j⟩⟩)),a,r,rfl,rfl,j,λq m=>?_⟩;have al:Al F F H (L2.upd H q (rL q a)):=Al.new0 m;have M:a≠q:=by rintro rfl;rw[j]at m;cases m
   exact⟨q,a,r,k,rfl,cg,by rw[bF M];exact j,Lc A n,h F S _ (s.al al) al.grow _ rfl⟩
def uO(X:Cx)(E:XK)(m:List ay)(d:ag->R (PO×List bK)):Prop :=
 ∀F S i f H Q,aH X.K F S i f H->Ok X.K E f F S H (d i) (λp _ h n g=>∀a l j,dG X.K g h p.1 a l->(∀b,l b->H b=ae/\¬h b/\¬U n b/\∃o,g b=aa o/\dA o)->eK X.K (f++[aa (.ref a)]) h g p.2 j->Q j g)->m8 X m f H Q
theorem eK.app{K:ar}{g:St}{F:ac->Prop}{H:Hp}(d:St):∀{l:List bK}{j:List V},eK K g F H l j->eK K (g++d) F H l j
 |[],_,h=>h
 |.inl _::_,_,⟨v,r,e,a,f⟩=>⟨v,r,e,a,f.app d⟩
 |.inr i::_,_,⟨v,r,e,a,f⟩=>⟨v,r,e,by rw[g8 (cq.mp a).1];exact a,f.app d⟩
theorem dG.stay{K:ar}{O i F h:ac->Prop}{H f:Hp}{po:PO}{a:ac}{Sa:ac->Prop}(n:dG K H F po a Sa)(g:a5 O i F h H f)(fit:Fit O F H)(d:∀b,Sa b->¬F b/\¬O b/\∃o,H b=aa o/\dA o):dG K f h po a Sa/\∀b,Sa b->¬h b/\¬i b/\∃o,f b=aa o/\dA o:=by refine⟨n.mono (λ_ _ z=>z.grow g fit) (λ_ _ z=>z.grow g fit) λb o z w=>(g.stay w (d b z).2.1 (d b z).1).1,λb z=>?_⟩;obtain⟨s,r,o,q,p⟩:=d b z;obtain⟨m,l,j⟩:=g.stay q r s;exact⟨l,j,o,m,p⟩
variable{m:List ay}{dn:ag->R PO}{B:ag->R (List bK)}{A:ag->R (PO×List bK)}
def gN(dn:ag->R PO)(B:ag->R (List bK)):ag->R (PO×List bK):=λε=>(dn ε).bind λf d=>(B d).bind λg a=>.ok (f,.inr a.length::g) a
theorem Bv(w:DN X E e dn)(v:DG X E m B)(u:lr e=aj:=by rfl):uO X E (e::m) (gN dn B):=λF S q i H Q r h=>by refine l_ (io bx fU (j9 u)) (w F S q i H _ r ((Ok.bind h).imp λP d O K M n T y a I s o=>?_));refine v O K d i M _ n ((Ok.bind y).imp λW p N J L l C x j D=>?_);obtain⟨f,g⟩:=s.stay C n.fit λb z=>(o b z).2;refine x N J L l (a5.refl ..) a I (.ref a::j) f (λb z=>⟨(o b z).1,g b z⟩) ⟨.ref a,j,rfl,?_,D.app _⟩;rw[l.len,nZ (bd _),zS];rfl
def lm(d:ag->R PV)(A:ag->R (PO×List bK)):ag->R (PO×List bK):=λε=>(d ε).bind λx f=>(A f).bind λp a=>.ok (p.1,.inl x::p.2) a
theorem wY(y:DE X E e de)(w:uO X E m A)(u:lr e=aj:=by rfl):uO X E (e::m) (lm de A):=λF S l f H Q q h=>by refine l_ (io bx fU (j9 u)) (y F S l f H _ q ((Ok.bind h).imp λx d W N P g J D v o=>?_));refine w W N d f P _ g ((Ok.bind D).imp λp j T M O r I C a L n s i K=>?_);exact C T M O r (a5.refl ..) a L _ s (λb z=>⟨kY J (i b z).1,(i b z).2⟩) ⟨v,n,rfl,o.grow I g.fit,K⟩
theorem aH.push{K:ar}{F:ac->Prop}{S:Nat->ac->Prop}{d:ag}{y:St}{H:Hp}{w:PO}{a:ac}{i:ac->Prop}(r:aH K F S d y H)(C:dG K H F w a i)(x:∀b,i b->¬F b/\¬U S b/\∃o,H b=aa o/\dA o):aH K F (λj b=>S j b\/(j=d.length/\i b)) (d++[.own w]) (y++[aa (.ref a)]) H:=by
 have lt:∀j b,S j b->j<d.length:=λj b z=>by obtain⟨⟨p,q⟩,_⟩:=r.foot j b z;exact(cq.mp q).1
 refine⟨by simp[r.len],r.ex,λj pv q=>?_,λj p q=>?_,λj b z=>?_,λj k b g f=>?_⟩
 .by_cases h:j<d.length
  .rw[g8 h]at q;obtain⟨v,u,l⟩:=r.val j pv q;exact⟨v,by rw[g8 (by rw[<-r.len];exact h)];exact u,l⟩
  .rw[nZ ∅]at q;cases s:j-d.length with
   |zero=>rw[s]at q;simp at q
   |succ n=>rw[s]at q;simp at q
 .by_cases h:j<d.length
  .rw[g8 h]at q;obtain⟨v,u,l⟩:=r.own j p q;refine⟨v,by rw[g8 (by rw[<-r.len];exact h)];exact u,?_⟩;have:(λb=>S j b\/(j=d.length/\i b))=S j:=by funext b;exact propext ⟨λz=>z.elim id λz=>absurd z.1 (cN h),.inl⟩
   rw[this];exact l
  .rw[nZ ∅]at q;cases s:j-d.length with
   |zero=>
    rw[s]at q;simp at q;subst q;have J:j=d.length:=∅
    subst J;refine⟨a,by rw[r.len,nZ (bd _),zS];rfl,?_⟩;have:(λb=>S d.length b\/(d.length=d.length/\i b))=i:=by funext b;exact propext ⟨λz=>z.elim (λz=>absurd (lt _ _ z) (dZ _)) (·.2),λz=>.inr ⟨rfl,z⟩⟩
    rw[this];exact C
   |succ n=>rw[s]at q;simp at q
 .rcases z with z|⟨rfl,z⟩
  .obtain⟨⟨p,q⟩,l⟩:=r.foot j b z;exact⟨⟨p,by rw[g8 (lt j b z)];exact q⟩,l⟩
  .obtain⟨I,L,D⟩:=x b z;exact⟨⟨w,by rw[nZ (bd _),zS];rfl⟩,I,D⟩
 .rcases g with g|⟨rfl,g⟩ <;> rcases f with f|⟨rfl,f⟩
  .exact r.dist j k b g f
  .exact absurd ⟨j,g⟩ (x b f).2.1
  .exact absurd ⟨k,f⟩ (x b g).2.1
  .rfl
theorem aH.pop{K:ar}{F:ac->Prop}{S:Nat->ac->Prop}{d:ag}{n:Slot}{h:St}{u:Option V}{H:Hp}(r:aH K F S (d++[n]) (h++[u]) H):aH K F (λj b=>S j b/\j<d.length) d h H:=by
 have len:d.length=h.length:=by have:=r.len;simpa using this
 refine⟨len,r.ex,λj pv q=>?_,λj p q=>?_,λj b z=>?_,λj k b l i=>r.dist j k b l.1 i.1⟩
 .have a:=(cq.mp q).1;obtain⟨v,g,f⟩:=r.val j pv (by rw[g8 a];exact q);exact⟨v,by rw[g8 (by rw[<-len];exact a)]at g;exact g,f⟩
 .have a:=(cq.mp q).1;obtain⟨v,g,f⟩:=r.own j p (by rw[g8 a];exact q);refine⟨v,by rw[g8 (by rw[<-len];exact a)]at g;exact g,?_⟩;have:(λb=>S j b/\j<d.length)=S j:=by funext b;simp[a]
  rw[this];exact f
 .obtain⟨⟨p,q⟩,f⟩:=r.foot j b z.1;exact⟨⟨p,by rw[g8 z.2]at q;exact q⟩,f⟩
def xM{a:Type}:R a->R a
 |.ok s ε=>.ok s ε.dropLast
 |.er c ε=>.er c ε.dropLast
 |.no=>.no
def kR(g:ag->R Slot)(A:ag->R (PO×List bK)):ag->R Slot:=λε=>(A ε).bind λp a=>(aG (if(bv p.2).Nodup then cn (a++[.own p.1]) p.2 else ae) a).bind λd a=>xM (cH (a++[.own p.1]) p.2 (g d))
theorem Ar{a:ag}{n:Nat}(h:a.length=n+1):∃l x,a=l++[x]/\l.length=n:=by
 refine⟨a.dropLast,a.getLast (by intro z;rw[z]at h;cases h),(List.dropLast_concat_getLast _).symm,by rw[zT,h];rfl⟩
theorem a5.pushed{K:ar}{F s:ac->Prop}{S i:Nat->ac->Prop}{f H p:Hp}{n:Nat}{h:ac->Prop}(g:a5 (U λj b=>S j b\/(j=n/\h b)) (U i) F s H p){r:ac->Prop}{l:Nat->ac->Prop}(a:a5 (U l) (U S) r F f H)(d:∀b,h b->f b=ae):a5 (U l) (U λj b=>i j b/\j<n) r s f p where
 fro:=λb z=>g.fro b (a.fro b z)
 keep:=λb o q no=>g.keep b o (a.keep b o q no) λ⟨j,z⟩=>by
  rcases z with z|⟨_,z⟩
  .rcases a.onew b ⟨j,z⟩with w|w
   .exact no w
   .rw[w]at q;cases q
  .rw[d b z]at q;cases q
 there:=λb o q=>let ⟨o',q'⟩:=a.there b o q;g.there b o' q'
 fnew:=λb z=>by
  rcases g.fnew b z with w|w|⟨j,w|⟨_,w⟩⟩
  .exact a.fnew b w
  .exact .inr (.inl (kY a w))
  .exact .inr ((a.onew b ⟨j,w⟩).symm)
  .exact .inr (.inl (d b w))
 onew:=λb ⟨j,z,_⟩=>by
  rcases g.onew b ⟨j,z⟩with⟨k,w|⟨_,w⟩⟩|w
  .exact a.onew b ⟨k,w⟩
  .exact .inr (d b w)
  .exact .inr (kY a w)
variable{D:dQ}{x:Str}{k:Nat}{C:List Str}{g:ag->R Slot}{p:Pos}
theorem Dh(c:cK D X.prog X.w X.K X.mg X.base x k C (bj X.K g))(hr:Room k X.A)(hx:iQ D X E)(ha:uO X E (e::m) A)(hg:Gl X x:=by rfl)(hd:(x==("__debug__":Str))=aj:=by decide) (h1:aL (e::m) X.env=(aj,aK e X.env)::aL m X.env:=by rfl) (h2:(ce pos (aL m X.env)).any (·.1)=aj:=by rfl):DR X E (.Call (.Name x p) (e::m) [] pos) (kR g A):=λF S ε P H Q rl h=>by
 obtain⟨f,fd,hm,Fn,hb,hk⟩:=c.ex;refine bW (Bl Fn hr hg hm hk hb .nil hx fU hd h1 h2) (ha F S ε P H _ rl ?_);unfold kR at h;cases ed:A ε with
 |no=>rw[ed]at h;exact h.elim
 |er cv d=>rw[ed]at h;exact h
 |ok pa d=>
  obtain⟨N,q⟩:=pa;rw[ed]at h;simp only[R.bind_ok]at h;intro F1 S1 H1 r1 g1 a Sa vs ow W O;dsimp only at h O ow;have M:=r1.push ow λb z=>(W b z).2;by_cases nd:(bv q).Nodup
  .rw[if_pos nd]at h;cases m:cn (d++[.own N]) q with
   |none=>rw[m]at h;exact h.elim
   |some ss=>
    rw[m]at h;simp only[cW,R.bind_ok]at h;rw[kB];refine⟨F1,km q _,ss,M.cal O m nd,?_⟩;have len:∀n,(cI (d++[.own N]) q n).length=d.length+1:=λn=>by rw[uE];simp
    cases eg:g ss with
    |no=>rw[eg]at h;exact h.elim
    |er cv n=>
     rw[eg]at h;intro y F' S' H' T g';unfold cH at h;dsimp only at h;by_cases u:cG q n=ai
     .rw[if_pos u]at h;obtain⟨S2,I,Z,_⟩:=M.called O m nd T g' (λ_ z=>z) (lj u);obtain⟨l,sl,L,Y⟩:=Ar (len n);rw[L]at I;have h:Ok X.K E P F S H (R.er cv (cI (d++[.own N]) q n).dropLast:R Slot) _:=h;rw[L,List.dropLast_concat]at h;have J:=a5.pushed (K:=X.K) Z g1 λb z=>(W b z).1;rw[<-Y]at J;exact h y F' _ H' I.pop J
     .rw[if_neg u]at h;exact h.elim
    |ok s n=>
     rw[eg]at h;intro v F' S' H' Sr T g' rv r fr;unfold cH at h;dsimp only at h;by_cases u:cG q n=ai
     .rw[if_pos u]at h;obtain⟨S2,I,Z,u2⟩:=M.called O m nd T g' (λ_ z=>.inl z) (lj u);obtain⟨l,sl,L,Y⟩:=Ar (len n);rw[L]at I;have h:Ok X.K E P F S H (R.ok s (cI (d++[.own N]) q n).dropLast:R Slot) _:=h;rw[L,List.dropLast_concat]at h;have J:=a5.pushed (K:=X.K) Z g1 λb z=>(W b z).1;rw[<-Y]at J;refine h F' _ H' I.pop J v Sr rv λb z=>⟨kY g1 (fr b z),(r b z).1,λ⟨j,w,_⟩=>?_,(r b z).2.2⟩
      rcases u2 b ⟨j,w⟩with w|⟨i,w⟩
      .exact(r b z).2.1 w
      .obtain⟨_,_,o,y1,_⟩:=M.foot i b w;rw[fr b z]at y1;cases y1
     .rw[if_neg u]at h;exact h.elim
  .rw[if_neg nd]at h;exact h.elim
end
section
variable{X:Cx}{E:XK}{pin:List Nat}{e b c o:ay}{de db u d:ag->R PV}{n:ag->R (List PV)}{g p q m:Pos}
def rF:List PV->Option PO
 |[.lst f]=>(iT f).bind λa=>if a≠[]/\(eP a).length<60 then aa (.lst (ak (bu (eP a))))else ae
 |_=>ae
def Lg(X:Cx)(r:List V->Hp->VK->Prop):List V->Hp->VK->Prop:=λh H Q=>∃(p:ac) (f:List Tx),h=[.ref p]/\b_ X.K H p (dX f)/\(eP f).length<4000/\∀a,H a=ae->r [.ref a] (upd H a (m9 X a (eP f))) Q
def Hy(X:Cx):List V->Hp->VK->Prop:=λf H Q=>∃(p:ac) (a:List Tx),f=[.ref p]/\H p=aa (m9 X p a)/\a≠[]/\a.length<64/\∀l,H l=ae->Q (.ref l) (upd H l (.lst (dX (bu a))))
theorem HR{l:List Tx}(h:l≠[]):eP l≠[]:=λz=>by
 cases l with
 |nil=>exact h rfl
 |cons x r=>have:x∈eP (x::r):=(rn _ _).mpr (by simp);rw[z]at this;simp at this
theorem Gi:k7 X.K (Lg X (Hy X)) rF:=λF H K L Q N I y e q=>by
 unfold rF at e;split at e
 .obtain⟨v,rfl,a,M,rfl,G,_,s⟩:=gq y;obtain⟨i,J,r⟩:=zU.mp e;rw[wR J]at s;obtain⟨rfl,B⟩:=Op.mp s;split at r
  .rename_i C;cases r;refine⟨a,i,rfl,.inl G,∅,λb D=>⟨b,eP i,rfl,cg,HR C.1,∅,λl f=>?_⟩⟩;have j:l≠b:=by rintro rfl;rw[cg]at f;cases f
   have h:H l=ae:=by rw[bF j]at f;exact f
   have al:Al F F H (upd (upd H b (m9 X b (eP i))) l (.lst (dX (bu (eP i))))):=(Al.new0 D).trans (Al.new0 f);refine q l F _ (λc=>c=l) al ⟨⟨_,cg,Op.mpr ⟨rfl,λx A=>B x ((rn _ _).mp ((jf _).mem_iff.mp A))⟩⟩,λc=>p8⟩ λc z=>?_;subst z;exact⟨h,λz=>Exists.elim (I _ z) (λo w=>by rw[h]at w;cases w),_,cg,trivial⟩
  .cases r
 .cases e
theorem Jy(i:X.calm=ai)(s:DA X E [e] n)(l:X.mg "sorted"=ae)(a:X.mg "set"=ae)(r:Gl X "sorted":=by rfl)(f:Gl X "set":=by rfl)(h:lr e=aj:=by rfl):DN X E (.Call (.Name "sorted" p) [.Call (.Name "set" q) [e] [] m] [] g) (dL rF n):=λF S x w H Q j v=>bW (sj (FT i) r l x8 (io (vx (Iq i) f a Je fU (by decide) (by decide) (j9 h) rfl) jB (j9 rfl)) (by decide) (by decide) (j9 rfl) rfl) (uW Gi s j v)
def jF(i j:Nat)(d:ag->R PV):ag->R aE:=λε=>(d ε).bind λx ε1=>match x with
 |.tup [a,b]=>.ok .next ((ε1.set i (.val a)).set j (.val b))
 |_=>.no
theorem yZ(i j:Nat){x y:Str}{k:Nat}{f r l:Pos}(hc:X.calm=ai)(w:X.N.Nodup)(he:DE X E e de)(hp:i∉pin:=by decide)(gg:j∉pin:=by decide)(hi:X.N[i]?=aa x:=by rfl)(hj:X.N[j]?=aa y:=by rfl)(W:Loc X.env.scope x:=by first|exact Or.inl rfl|exact Or.inr rfl) (T:Loc X.env.scope y:=by first|exact Or.inl rfl|exact Or.inr rfl)(hf:X.fn x=ai\/X.env.scope.names.lookup x=aa .local:=by first|exact .inl rfl|exact .inr rfl) (P:X.fn y=ai\/X.env.scope.names.lookup y=aa .local:=by first|exact .inl rfl|exact .inr rfl)(Z:swapsWithSole [.Tuple [.Name x r,.Name y l] k f] e g.line X.env=pure aj:=by rfl) (Y:swappedStores [.Tuple [.Name x r,.Name y l] k f] e X.env=pure ae:=by rfl):DS X E pin (.Assign [.Tuple [.Name x r,.Name y l] k f] e g) (jF i j de):=λF S C A H D L h=>by
 refine eD (Ja bx (Da hc (vS (pI w hi W hf) (vS (pI w hj T P) C8))) Z Y rfl) (he F S C A H _ L (h.bindE.imp λz B F1 S1 H1 O g1 s v J=>?_));split at s
 .rename_i a b;obtain⟨p,us,rfl,Q,K⟩:=J;obtain⟨I,ra,rfl,N,G,rb,rfl,M,rfl⟩:=K;refine⟨p,_,rfl,cM.of Q,rfl,I,_,rfl,G,_,rfl,rfl,?_⟩;exact s F1 _ _ H1 ((O.set N).set M) ((a5.less i).trans (a5.less j)) ((gJ.set hp).trans (gJ.set gg))
 .exact s.elim
def Ik(K:ar)(r:V->List V->Hp->VK->Prop)(i:TE)(t:TA):TE:=λf H Q=>i f H λx h=>(∃p a,x=.ref p/\h p=aa (.tup a))/\t f h λa j=>r x a j Q
theorem FE{i:Str}{y:String}{r:V->List V->Hp->VK->Prop}{C:TE}{t:TA}{l f:Pos}{es:List ay}(w:PySem.Slot "tuple" i y)(mQ:typeOf (.builtin y)=pure (.type "method_descriptor"))(hm:vZ X y r)(ho:PE X o C)(ha:PA X (e::es) t)(lX:g7 o i X.env (aK o X.env)=aK o X.env:=by rfl)(K:((ce f (aL (e::es) X.env)).all (λx=>!x.1)&&(lO f (lP [] X.env)).all (λx=>x.1.isSome)&&decide ((e::es).length+([]:List jV).length+(if([]:List jV).isEmpty then 0 else 1)<30))=ai:=by rfl)(lY:(l.endLine == f.line)=ai:=by rfl) (hs:aL (e::es) X.env=(aj,aK e X.env)::aL es X.env:=by rfl) (j:(ce f (aL es X.env)).any (·.1)=aj:=by rfl):PE X (.Call (.Attribute o i l) (e::es) [] f) (Ik X.K r C t):=by
 intro B s A H Q I h;refine wpAny_Call_method_late lX K lY rfl (aT (ho B s A H _ I h) λv D h'=>?_);obtain⟨x,J,G,S,⟨p,L,rfl,hp⟩,W⟩:=h';cases S;obtain⟨_,its,_,⟨Y,e1,e2,_⟩,Z,e3,e4⟩:=(show cZ X.prog X.w J D.heap p (.tup L)from G.hok p _ hp)
 refine⟨"tuple",y,PySem.F.plainAttrs_tuple,w,mQ,⟨Y,e1,e2⟩,λa z=>?_,?_⟩
 .cases z;exact⟨Z,e3,e4⟩
 have F:=ha f B D A J _ G W;rw[hs]at F ⊢;refine zz (by show(aj||(ce f (aL es X.env)).any (·.1))=aj;rw[j] <;> rfl) (zA ?_);exact aT F λN O h2=>by obtain⟨M,H2,I2,P,T⟩:=h2;exact hm B O A H2 (.ref p) M (.ref p) N Q I2 rfl P T
def oM(f:List PV->PV->Option PV)(d de:ag->R PV):ag->R PV:=λε=>(d ε).bind λx h=>match x with
 |.tup i=>(de h).bind λk a=>aG (f i k) a
 |_=>.no
theorem Cv{f a:Pos}(W:DE X E o d)(Z:DE X E e de)(T:g7 o "count" X.env (aK o X.env)=aK o X.env:=by rfl)(P:(f.endLine == a.line)=ai:=by rfl) (eJ:lr e=aj:=by rfl):DE X E (.Call (.Attribute o "count" f) [e] [] a) (oM nt d de):=λF S J B H Q N h=>by
 have y:=j9 (es:=[]) (env:=X.env) eJ;refine bW (FE PySem.F.slot_tuple_count PySem.F.type_tuple_count E_ bx (io bx jB y) T (by rw[y];rfl) P y rfl) (W F S J B H _ N ((Ok.bind h).imp λx j F1 S1 H1 r g1 A v L=>?_));split at A
 .rename_i K;obtain⟨p,C,rfl,D,M⟩:=L;refine⟨⟨p,C,rfl,D⟩,Z F1 S1 j B H1 _ r ((Ok.bind A).imp λk I F2 S2 H2 O G q w l=>?_)⟩;unfold nt at q;cases i:dy k with
  |none=>rw[i]at q;exact q.elim
  |some z=>
   cases s:iS K with
   |none=>rw[i,s]at q;exact q.elim
   |some ws=>rw[i,s]at q;obtain⟨rfl,Y⟩:=w6 (M.grow G r.fit) s;rw[je l i];exact⟨p,C,z,rfl,rfl,cM.of (G.imm r.fit D id),ue i,Y,q F2 S2 H2 O (a5.refl ..) _ rfl⟩
 .exact A.elim
end
theorem wQ(a:Nat->Nat->Bool):∀k,jY a k<=k
 |0=>bd _
 |k+1=>by
  unfold jY;split
  .exact bd _
  .exact Nat.le_succ_of_le (wQ a k)
section
variable{X:Cx}
theorem E4:d3 "min"=aa (.builtin "min"):=by decide +kernel
def C1:List (aM×PV)->Option (List Tx)
 |[]=>aa []
 | (.inr k,_)::r=>(C1 r).map (k.cps.toList::·)
 |_=>ae
def IB(b:List (aM×PV)):Option PO:=(C1 b).bind λa=>if a.length<64/\(∀x∈a,x.length<=b0)then aa (.lst (ak (bu a)))else ae
def Np(i:Nat):ag->R PO:=λa=>(aG (eQ a i) a).bind λb a=>aG (IB b) a
end
end Pu
namespace L2
def GH(b:KeyKind)(p:Keyed):Prop:=∃a,b.keyOf p.1=aa a
structure SB(kz:SortKind)(st:SortSt):Prop where
 kind:kindOf st=kz
 failed:failedOf st=ae
section
variable{d:KeyKind}{f:SortKind}
theorem MK(a:Array Keyed)(i j:Nat):(a.extract i j).toList=(a.toList.drop i).take (j-i):=by simp[Array.toList_extract,List.extract_eq_take_drop]
variable{a b c:Array Keyed}{h g:Nat}
end
section
variable{d:KeyKind}{g:SortKind}
theorem Js(a:Array Keyed)(n:Nat):(a.extract 0 n).toList=a.toList.take n:=by rw[MK];simp
variable{a b c:Array Keyed}{f nb:Nat}
end
section
variable{b:KeyKind}{c:SortKind}
def AllK(b:KeyKind)(a:Array Keyed):Prop:=∀i (d:i<a.size),GH b a[i]
end
end L2
namespace Pu
open L2
def jd:List Int->Int
 |[]=>0
 |x::r=>r.foldl (λb y=>if y > b then y else b) x
theorem MP(l:List Int)(y:Int)(h:l≠[]):jd (l++[y])=if y > jd l then y else jd l:=by
 cases l with
 |nil=>exact absurd rfl h
 |cons x r=>show(r++[y]).foldl _ x=_;rw[zK];rfl
theorem Eg(a:List Int):∀k,k<a.length->a[jY (λi j=>decide (a.getD i 0 > a.getD j 0)) k]?=aa (jd (a.take (k+1)))
 |0,h=>by
  cases a with
  |nil=>cases h
  |cons x r=>simp[jY,jd]
 |k+1,h=>by
  have b:=Eg a k ∅;have e:a.take (k+1+1)=a.take (k+1)++[a[k+1]]:=by rw[N8 h]
  have g:=wQ (λi j=>decide (a.getD i 0 > a.getD j 0)) k;rw[e,MP _ _ (by intro z;have:=congrArg nY z;rw[pN,kD]at this;lia)];unfold jY;have f:a.getD (k+1) 0=a[k+1]:=by simp[wg,h]
  have d:a.getD (jY (λi j=>decide (a.getD i 0 > a.getD j 0)) k) 0=jd (a.take (k+1)):=by rw[qa,b];rfl
  rw[f,d];by_cases c:a[k+1] > jd (a.take (k+1))
  .rw[if_pos (by simpa using c),if_pos c];simp[h]
  .rw[if_neg (by simpa using c),if_neg c];exact b
section
variable{X:Cx}
theorem pJ{b:List Int}{a:List ah}(r:bq (b.map V.int) a){i:Nat}{v:ah}(h:a.toArray[i]?=aa v):∃t,v=.int (b.getD i 0) t:=by
 have d:=r.length;rw[cf]at d;have g:i<a.length:=by have:=(wf.mp h).1;simpa using this
 have e:(b.map V.int)[i]?=aa (V.int (b.getD i 0)):=by rw[jU,eh ∅];simp[wg,eh (show i<b.length by lia)]
 obtain⟨u,c,f⟩:=r.get e;have:a[i]?=aa v:=by simpa using h
 rw[this]at c;cases c;exact f
theorem Hv(n:X.calm=ai):fh X (.builtin "max") (λw H Q=>∃(p:ac) (a:List Int),w=[.ref p]/\b_ X.K H p (a.map V.int)/\a≠[]/\Q (.int (jd a)) H):=by
 intro S s A H w us Q I r h;obtain⟨p,a,rfl,J,P,q⟩:=h;obtain⟨u,rfl,D⟩:=vals1 r;cases D;obtain⟨d,l,m,hz⟩:=I.list J;have y:=l.length;rw[cf]at y;have hn:0<a.length:=by cases a with|nil=>exact absurd rfl P|cons=>simp
 refine call_max_walk (pW m.isList ?_);have W:p≠s.heap.objs.size:=by obtain⟨o,f,_⟩:=m.isList;exact cN (bo f)
 refine⟨s.heap.objs.size,_,_,_,_,_,λi j=>decide (a.getD i 0 > a.getD j 0),rfl,pX (qF (I.ok.hd n)) s.heap.objs.size p W d.toArray,⟨⟨_,cm _ rfl,rfl,rfl⟩,?_⟩,?_,by rw[cu];lia,λi j Z Y s' Q' E' M L O=>?_,λv h' B G k=>?_⟩
 .obtain⟨o,f,n,N⟩:=m.isList;exact⟨o,bi _ f,n,N⟩
 .intro b g;obtain⟨o,f,_⟩:=m.isList;have C:p<s.heap.objs.size:=bo f;have sz:∀o:Obj,(s.heap.push o).objs.size=s.heap.objs.size+1:=λo=>by simp[Heap.push]
  rcases bV.mp g with rfl|g
  .show _<(s.heap.push _).objs.size;rw[sz];exact iY _
  .rw[g9.mp g];show _<(s.heap.push _).objs.size;rw[sz];exact jo C
 .obtain⟨t,rfl⟩:=pJ l M;obtain⟨t',rfl⟩:=pJ l L;exact gt_int O
 .obtain⟨t,rfl⟩:=pJ l G;have e:a.getD (jY (λi j=>decide (a.getD i 0 > a.getD j 0)) (d.toArray.size-1)) 0=jd a:=by rw[cu,<-y,qa,Eg a _ ∅,show a.length-1+1=a.length by lia,List.take_length];rfl
  rw[e];have T:Inv X S A H {s with heap:=s.heap.push {cls:=.type "list_iterator",data:=.fields #[.ref p,.int 0 0]},toks:=s.toks}:=I.kept (t':=s.toks) λb o e=>bi _ e;exact⟨.int (jd a),H,Inv.turned (t':=B) T (it:=s.heap.objs.size) (λb o g e=>k b o (by simpa using g) e) I.fresh (iB I.lt) (.inr I.sz) (λx c e z=>by obtain⟨v,E⟩:=I.cell x c e;exact absurd E.lt (by rw[z];exact dZ _)) (λF K z=>absurd (bo (I.pin F K).1) (by rw[z];exact dZ _)),⟨t,rfl⟩,q⟩
def et:List PV->Option (List Int)
 |[]=>aa []
 |.int i::r=>(et r).map (i::·)
 |_=>ae
theorem wU{K:ar}{H:Hp}{F:ac->Prop}:∀{a:List PV}{c:List V}{b:List Int},ba K H F a c->et a=aa b->c=b.map V.int
 |[],_,_,r,e=>by cases e;exact r
 |.int i::a,_,b,⟨v,r,rfl,f,d⟩,e=>by
  cases q:et a with
  |none=>simp[et,q]at e
  |some g=>simp[et,q]at e;subst e;rw[wU d q,show v=V.int i from f];rfl
 |.non::_,_,_,_,e=>by simp[et]at e
 |.bl _::_,_,_,_,e=>by simp[et]at e
 |.str _::_,_,_,_,e=>by simp[et]at e
 |.tup _::_,_,_,_,e=>by simp[et]at e
 |.lst _::_,_,_,_,e=>by simp[et]at e
 |.raw _::_,_,_,_,e=>by simp[et]at e
 |.exc _::_,_,_,_,e=>by simp[et]at e
def rM:List PV->Option PV
 |[.lst b]=>(et b).bind λa=>if a≠[] then aa (.int (jd a))else ae
 |_=>ae
theorem Gp:PL X.K (λd H Q=>∃(p:ac) (b:List Int),d=[.ref p]/\b_ X.K H p (b.map V.int)/\b≠[]/\Q (.int (jd b)) H) rM:=λF H d m Q pv g e q=>by
 unfold rM at e;split at e
 .obtain⟨v,rfl,a,n,rfl,j,_,f⟩:=gq g;obtain⟨h,l,c⟩:=zU.mp e;have:=wU f l;subst this;split at c
  .rename_i i;cases c;exact⟨a,h,rfl,.inl j,i,q _ F H (Al.refl ..) rfl⟩
  .cases c
 .cases e
end
theorem xK:d3 "max"=aa (.builtin "max"):=by decide +kernel
def pw(f:Str)(v:PV):List (Str×PV)->List (Str×PV)
 |[]=>[(f,v)]
 | (g,x)::r=>if g=f then(g,v)::r else(g,x)::pw f v r
section
variable{K:ar}{H:Hp}{F:ac->Prop}
theorem gs.look{f:Str}{pv:PV}{fs:List (Str×PV)}{a:List (Str×V)}(h:gs K H F fs a)(e:fs.lookup f=aa pv):∃v,a.lookup f=aa v/\aO K H F pv v:=by
 unfold gs at h
 induction h with
 |nil=>cases e
 |@cons p q ps qs r _ ih=>
  obtain⟨j,i⟩:=p;obtain⟨l,g⟩:=q;obtain⟨c,b⟩:=r;simp only at c b;subst c;rw[iE]at e ⊢;cases d:f == j with
  |true=>rw[d]at e;cases e;exact⟨g,rfl,b⟩
  |false=>rw[d]at e;exact ih e
theorem gs.miss{f:Str}{fs:List (Str×PV)}{a:List (Str×V)}(h:gs K H F fs a)(e:fs.lookup f=ae):a.lookup f=ae:=by
 unfold gs at h
 induction h with
 |nil=>rfl
 |@cons p q ps qs r _ ih=>
  obtain⟨i,g⟩:=p;obtain⟨l,j⟩:=q;obtain⟨b,d⟩:=r;simp only at b d;subst b;rw[iE]at e ⊢;cases c:f == i with
  |true=>rw[c]at e;cases e
  |false=>rw[c]at e;exact ih e
theorem gs.len{fs:List (Str×PV)}{a:List (Str×V)}(h:gs K H F fs a):a.length=fs.length:=by
 unfold gs at h
 induction h with
 |nil=>rfl
 |cons _ _ b=>simp[b]
theorem gs.put{f:Str}{y:PV}{v:V}{fs:List (Str×PV)}{a:List (Str×V)}(h:gs K H F fs a)(r:aO K H F y v):gs K H F (pw f y fs) (d8 f v a):=by
 unfold gs at h ⊢
 induction h with
 |nil=>exact .cons ⟨rfl,r⟩ .nil
 |@cons p q ps qs r' t ih=>
  obtain⟨j,d⟩:=p;obtain⟨i,g⟩:=q;obtain⟨c,b⟩:=r';simp only at c b;subst c;unfold pw d8;split
  .exact .cons ⟨rfl,r⟩ t
  .exact .cons ⟨rfl,b⟩ ih
end
def nu(a:ag)(C:ac)(i:Nat):Option (List (Str×PV)):=match a[i]? with
 |some (.own (.ins D fs))=>if D=C then aa fs else ae
 |_=>ae
theorem ur{a:ag}{C:ac}{i:Nat}{fs:List (Str×PV)}(h:nu a C i=aa fs):a[i]?=aa (.own (.ins C fs)):=by
 unfold nu at h;split at h
 .rename_i D c e;split at h
  .rename_i b;subst b;cases h;exact e
  .cases h
 .cases h
section
variable{X:Cx}{E:XK}{pin:List Nat}{e b:ay}{f x:Str}{C:ac}{p g d:Pos}{j:ag->R PV}
def xu(C:ac)(i:Nat)(f:Str)(j:ag->R PV):ag->R aE:=λc=>(j c).bind λy a=>(aG (nu a C i) a).bind λfs a=>if fs.length<1000 then .ok .next (a.set i (.own (.ins C (pw f y fs))))else .no
theorem JY(i:Nat)(c:Cls X.K C)(n:gY X.K C f)(Ac:DE X E b j)(W:X.N[i]?=aa x:=by rfl)(N:dR X.env.scope x:=by eq_refl)(Q:(x==("__debug__":Str))=aj:=by decide)(Z:(x==("__classdict__":Str))=aj:=by decide) (O:gD b (aa (.Attribute (.Name x p) f d)) g.line X.env=pure aj:=by rfl):DS X E pin (.Assign [.Attribute (.Name x p) f d] b g) (xu C i f j):=λF S A o H D I h=>by
 refine eD (AI (eC W N Q Z) bx O) (Ac F S A o H _ I (h.bindE.imp λy m F1 S1 H1 s g1 q v G=>?_));cases l:nu m C i with
 |none=>rw[l]at q;exact q.elim
 |some fs=>
  rw[l]at q;simp only[cW,R.bind_ok]at q;obtain⟨a,w,⟨z,r,T,u⟩,_⟩:=s.own i _ (ur l);split at q
  .rename_i P;have L:=u.put (f:=f) G;obtain⟨J,Y⟩:=s.updO (po':=.ins C (pw f y fs)) (o':=.ins C z (d8 f v r)) (ur l) rfl w trivial λH' M m2 B Sa K=>⟨⟨_,_,B,L.mono M⟩,K⟩
   exact⟨.ref a,w,a,C,z,r,rfl,T,c,n,by rw[u.len];exact P,q F1 S1 o _ J Y (gJ.refl _ _)⟩
  .exact q.elim
end
def mi(a:ag)(b:List bK)(g:ag->R Slot):R Slot:=(aG (if(bv b).Nodup then cn a b else ae) a).bind λc a=>cH a b (g c)
section
variable{K:ar}{E:XK}{F:ac->Prop}{S:Nat->ac->Prop}{j:ag}{f:St}{H:Hp}{a:List bK}{d:List V}{g:ag->R Slot}
theorem xU{D:Slot->ag->(ac->Prop)->(Nat->ac->Prop)->Hp->Prop}(r:aH K F S j f H)(M:eK K f F H a d)(h:Ok K E f F S H (mi j a g) D):bj K g d H (λv l=>∃u p c n B,aH K c n p f l/\a5 (U S) (U n) F c H l/\pe K l c u v B/\(∀b,B b->H b=ae/\¬c b/\¬U n b/\∃o,l b=aa o/\dA o)/\D u p c n l) E:=by
 unfold mi at h;have q:=Ok.bind h;by_cases nd:(bv a).Nodup
 .rw[if_pos nd]at q;cases s:cn j a with
  |none=>rw[s]at q;exact q.elim
  |some P=>
   rw[s]at q;have q:=q F S H r (a5.refl ..);dsimp only at q;refine⟨F,km a S,P,r.cal M s nd,?_⟩;cases L:g P with
   |no=>rw[L]at q;exact q.elim
   |er X N=>
    rw[L]at q;intro y c n l G J;unfold cH at q;dsimp only at q;by_cases m:cG a N=ai
    .rw[if_pos m]at q;obtain⟨C,x,A,_⟩:=r.called M s nd G J (λ_ z=>z) (lj m);exact q y c C l x A
    .rw[if_neg m]at q;exact q.elim
   |ok u N=>
    rw[L]at q;intro v c n l B G J W I Q;unfold cH at q;dsimp only at q;by_cases m:cG a N=ai
    .rw[if_pos m]at q;obtain⟨C,x,A,T⟩:=r.called M s nd G J (λ_ z=>.inl z) (lj m);refine⟨u,_,c,C,B,x,A,W,λb z=>⟨Q b z,(I b z).1,λw=>?_,(I b z).2.2⟩,q c C l x A⟩;rcases T b w with w|⟨i,w⟩
     .exact(I b z).2.1 w
     .obtain⟨_,_,o,O,_⟩:=r.foot i b w;rw[Q b z]at O;cases O
    .rw[if_neg m]at q;exact q.elim
 .rw[if_neg nd]at q;exact q.elim
theorem yx{Q m:VK}(h:bj K g d H Q E)(r:∀v b,Q v b->m v b):bj K g d H m E:=by
 obtain⟨F,S,l,o,ok⟩:=h;refine⟨F,S,l,o,?_⟩;cases i:g l with
 |no=>rw[i]at ok;exact ok
 |er c w=>rw[i]at ok;exact ok
 |ok A w=>rw[i]at ok;exact λv z y b x p s n q u=>r v b (ok v z y b x p s n q u)
theorem eK.al{l:ac->Prop}{i:Hp}(al:Al F l H i):∀{a:List bK}{d:List V},eK K f F H a d->eK K f l i a d
 |[],_,h=>h
 |.inl _::_,_,⟨v,r,e,c,b⟩=>⟨v,r,e,al.rep c,eK.al al b⟩
 |.inr _::_,_,⟨v,r,e,c,b⟩=>⟨v,r,e,c,eK.al al b⟩
end
structure zf(CX:dQ)(P:aY)(w:aR)(K:ar)(mg:Str->Option ah)(base:aC)(C:ac)(k:Nat)(ps:List Str)(sp:Sp):Prop where
 ex:∃f fd,Mk K C f/\fO P w K mg base CX k f fd ps sp/\Binds K fd ps []
structure jz(CX:dQ)(P:aY)(w:aR)(K:ar)(mg:Str->Option ah)(base:aC)(C:ac)(m:Str)(k:Nat)(ps:List Str)(sp:Sp):Prop where
 ex:∃f fd,qG K C m f/\fO P w K mg base CX k f fd ps sp/\Binds K fd ps []
def uK(K:ar)(C:ac)(a:Str)(b:aU):Prop:=∃f c,Mk K C f/\ki K "__init__" a b f c
def gK(K:ar)(C:ac)(m a:Str)(b:aU):Prop:=∃f c,qG K C m f/\ki K m a b f c
theorem Ou{K:ar}{C:ac}{a:Str}{b:aU}{f:ac}{oc kV o h d q:ah}{j r:Option ac}{g:Array (Option ah)}(m:PySem.W.makesIn K C=ai)(i:gC K (.ref C) "__init__"=aa (aa (.ref f)))(n:v9 K (.ref f)=ai)(p:kx K (.ref C)=ai)(l:K.lookup f=aa ⟨oc,j,.func (fG "__init__" a (fI b) (df b) (aJ b) .none kV o h r d q),g⟩) (c:pO K d a=ai) (k:kx K (.ref f)=ai):uK K C a b:=⟨f,_,⟨m,i,n,p⟩,vt l c k⟩
theorem OH{K:ar}{C:ac}{m a:Str}{b:aU}{f:ac}{oc kV o h d p:ah}{j q:Option ac}{g:Array (Option ah)}(i:gC K (.ref C) m=aa (aa (.ref f)))(n:v9 K (.ref f)=ai)(l:K.lookup f=aa ⟨oc,j,.func (fG m a (fI b) (df b) (aJ b) .none kV o h q d p),g⟩) (c:pO K d a=ai) (k:kx K (.ref f)=ai):gK K C m a b:=⟨f,_,⟨i,n,k⟩,vt l c k⟩
section
variable{i:dQ}{P:aY}{w:aR}{K:ar}{h:Str->Option ah}{c:aC}{C:ac}{m a:Str}{b:aU}{N g:List Str}{k n:Nat}{d:ag->R aE}{pin:List Nat}
theorem Ie(D:uK K C a b)(F:bJ N g (aJ b))(v:N.length=g.length+n)(q:∀(kV p u:ah) (B:Option ac) (l z:ah) (o:List ah),o.length=g.length->dP (fG "__init__" a (fI b) (df b) (aJ b) .none kV p u B l z) ⟨o,[]⟩=pure (g.zip o))(x:∀(f:ac) (l:ah) (A:aX) (j:List Env) (s:am) (H:Hp) (E:XK),Room k (A.deeper (fD a (aJ b) s.heap.objs.size f l))->fj (eO i P w K h c N a (aJ b) f l A j s H E) E pin (df b) d):zf i P w K h c C (k+1) g (bj K (bz g.length pin (a6 n d))):=by obtain⟨f,y,M,r⟩:=D;exact⟨f,y,M,BR r F v q x,r.binds q⟩
end
end Pu
namespace Mx
def F5:Nat->Nat->Nat
 |0,x=>x
 |n+1,x=>F5 n (5*x+1)
end Mx
namespace Pu
open L2
def nL:List PV->Option PV
 |[.int i,.int j]=>aa (.int (if j > i then j else i))
 |_=>ae
theorem Bj{K:ar}:PL K (λa H Q=>∃i j,a=[.int i,.int j]/\Q (.int (if j > i then j else i)) H) nL:=λF H a g Q pv b e q=>by
 unfold nL at e;split at e
 .cases e;obtain⟨v,h,rfl,f,d⟩:=b;obtain⟨u,rfl,c⟩:=gq d;exact⟨_,_,by rw[show v=V.int _ from f,show u=V.int _ from c],q _ F H (Al.refl ..) rfl⟩
 .cases e
end Pu
namespace L2
theorem HX{d:Pos}{a b:Int}{c g:ah}(l:List ah)(h:TriplesOk l)(e:sB d (l++[dO a,dO b,c])=aa g):sB d l=aa g\/g=c:=by
 fun_induction TriplesOk l with
 |case1=>simp[sB,dO]at e;exact .inr e.2.symm
 |case2 o t n u x rest i=>
  simp only[ED,sB]at e ⊢;split at e
  .rename_i f;rw[if_pos f];exact .inl e
  .rename_i f;rw[if_neg f];exact i h e
 |case3 l m j=>exact h.elim
section
variable{X:Cx}{i:List (ac×Obj)}{d:St}{H:Hp}{s:am}
structure uN(X:Cx)(x:Str)(c P:ac):Prop where
 mem:x∈sh
 tab:ji X.K x=aa (c,P)
 hd:wd X.K c P=ai
 code:X.env.code=.ref c
theorem ML(I:Inv X i d H s){x:Str}{c P:ac}(L:uN X x c P){j:sJ}{y:ay}{l:dm}{G:Pos}{w:List (Str×ac)}(hq:X.env.qual++"<lambda>"=x++".<locals>.<lambda>") (mT:closureFor l X.env=pure w) (sY:defaultsOf j X.env=([],[])) {Q:ah->am->Prop}(h:∀f c' p H' s',Inv X i d H' s'->(∀b o,H b=aa o->H' b=aa o)->s'.heap.get? f=aa (zV "<lambda>" (X.env.qual++"<lambda>") j y l w ((X.mg "__name__").getD .none) c' p)->f≠X.env.locals -> s'.heap.CodeRec (.ref c') (X.env.qual++"<lambda>")->c'≠X.env.locals->H' c'=aa (.own P)->s.heap.objs.size<=f->H' f=ae->Q (.ref f) s'):aw (az X.prog X.w) X.A (aK (.Lambda j y l G) X.env) Q X.xe s:=by
 have F:=I.tab x L.mem c P L.tab;obtain⟨ps,hP,D,g⟩:=I.hok P _ F;have M:s.heap.Ns bP X.mg:=I.mod.glob.keeps I.bk;have hgP:bP≠P:=λz=>by
  obtain⟨o,es,ep,e,hd,_⟩:=M;rw[z,hP]at e;cases e;cases hd
 have Y:s.heap.BuiltinsAt X.mg P:=by
  obtain⟨bm,ob,b1,b2,b3,b4,b5,b6⟩:=I.mod.bm;refine⟨bm,ob,b1,b2,λz=>?_,λz=>?_,I.bk _ _ b3,b4,b5,b6⟩
  .obtain⟨o,es,ep,e,hd,_⟩:=I.mod.glob;rw[<-z,b3]at e;cases e;rw[b6]at hd;cases hd
  .have e:=I.bk _ _ b3;rw[z,hP]at e;cases e;simp at b4
 have hC:=PySem.W.codeHd_of_K I.kIn L.hd;have Lne:X.env.locals≠P:=λz=>by have:=I.free;rw[z,F]at this;cases this
 refine PySem.W.kla_eval sY ?_;cases hf:sB G ps.toList with
 |some cv=>
  obtain⟨A,rfl,gf,wF⟩:=g G _ hf;refine PySem.W.kla_makeFunctionHit (mg:=X.mg) mT I.ok.glob M L.code hC hP D hf Y λp h' tk hk J=>?_;have C:∀b o,s.heap.get? b=aa o->(h'.push (zV "<lambda>" (X.env.qual++"<lambda>") j y l w ((X.mg "__name__").getD .none) A p)).get? b=aa o:=λb o e=>bi _ (hk b o e);refine h _ A p H _ (I.un (Un.kept C) (I.hok.kept C)) (λ_ _ e=>e) (cm _ rfl) (iB (eR I.lt J)) ?_ (λz=>?_) gf J (I.hok.fresh J)
  .have K:s.heap.CodeRec (.ref A) (X.env.qual++"<lambda>"):=by rw[hq];exact wF
   exact K.keeps C
  .have:=I.free;rw[<-z,gf]at this;cases this
 |none=>
  refine PySem.W.kla_makeFunction (mg:=X.mg) mT I.ok.glob M L.code hC hP D hf hgP Y λA p h' tk hx S bG wF W=>?_;generalize ho:zV "<lambda>" (X.env.qual++"<lambda>") j y l w ((X.mg "__name__").getD .none) A p=fo;have C:∀b o,b≠P->s.heap.get? b=aa o->(h'.push fo).get? b=aa o:=λb o n e=>bi _ (hx b o n e);have fr:H A=ae:=I.hok.fresh S;have B:(h'.push fo).CodeRec (.ref A) (X.env.qual++"<lambda>"):=wF.keeps λb o e=>bi _ e;have nP:∀b,H b=ae->b≠P:=λb n z=>by rw[z,F]at n;cases n
  have nc:∀b o,s.heap.get? b=aa o->b≠A:=λb o e=>cN (eR (bo e) S);have E:∀b o,H b=aa o->(upd H A (.own P)) b=aa o:=λb o e=>by rw[bF (ma e fr)];exact e
  have I':Inv X i d (upd H A (.own P)) {s with heap:=h'.push fo,gens:=s.gens,drawn:=s.drawn,toks:=tk}:=by
   refine I.step (ch:=[]) (λ_ z=>nomatch z) (λb o _ _ _ e n=>C b o (nP b n) e) (λb o _ _ _ e n=>⟨o.slots,C b o (nP b n) e⟩) (λb o _ e n=>by rw[bF (nc b o e)];exact n)
    (λb o _ e=>?_) (λb xs e=>E b _ e) (λb o u e=>E b _ e) (λb q e=>⟨E b _ e,λc o O g=>⟨C c o (λz=>by rw[z,F]at O;cases O) g,E c _ O⟩⟩) (λm hm=>?_) (λa u e=>?_) I.bare
   .by_cases Z:b=P
    .subst Z;exact⟨_,bi _ W⟩
    .exact⟨o,C b o Z e⟩
   .exact(hm.extBut hx Lne).push _
   .by_cases ha:a=A
    .subst ha;rw[cg]at e;cases e;obtain⟨_,o,_,_,z,O,_⟩:=B;cases z;exact⟨o,O⟩
    .rw[bF ha]at e;by_cases Z:a=P
     .subst Z;rw[F]at e;cases e;refine⟨_,bi _ W,by rw[Array.toList_append];exact TriplesOk_snoc _ _ _ _ D,λT cv N=>?_⟩;rw[Array.toList_append]at N;rcases HX _ D N with z|rfl
      .obtain⟨c2,rfl,h1,h2⟩:=g T cv z;refine⟨c2,rfl,E c2 _ h1,?_⟩;obtain⟨c3,o,vs,t,z,O,r⟩:=h2;cases z;exact⟨c2,o,vs,t,rfl,C c2 o (λz=>by rw[z,F]at h1;cases h1) O,r⟩
      .exact⟨A,rfl,cg,hq ▸ B⟩
     .refine(I.hok a u e).stay (λb v N r=>C b v ?_ r) (λb r=>E b _ r) λb xs r=>E b _ r;rcases N with rfl|N
      .exact Z
      .rintro rfl;rw[F]at N;cases N
  exact h _ A p _ _ I' E (by rw[<-ho];exact cm _ rfl) (iB (eR I.lt (cO S (kt bG)))) B (iB (eR I.lt S)) cg (cO S (kt bG)) (by rw[bF (iB bG)];exact I.hok.fresh (cO S (kt bG)))
end
open Att
theorem Dk:∀{c:List V}{d:List ah}{i:Nat}{v:ah},bq c d->d[i]?=aa v->∃x,c[i]?=aa x/\RelV x v
 |_,_,_,_,.nil,e=>by simp at e
 |_,_,0,_,.cons h _,e=>by simp at e;subst e;exact⟨_,rfl,h⟩
 |_,_,i+1,_,.cons _ t,e=>by obtain⟨x,a,b⟩:=Dk (i:=i) t (by simpa using e);exact⟨x,by simpa using a,b⟩
end L2
namespace Pu
open L2
structure xG(K:ar)(x:Str)(C:ac)(m:Str)(c T:ac):Prop where
 tab:ji K x=aa (c,T)
 hd:wd K c T=ai
 code:∀f fd oc od osl,gC K (.ref C) m=aa (aa (.ref f))->K.lookup f=aa ⟨oc,od,.func fd,osl⟩->fd.code=.ref c
theorem GS{K:ar}{x:Str}{C c T:ac}(i:cX K bP "Seeker"=aa (aa (.ref C)))(a:ji K x=aa (c,T))(h:wd K c T=ai):xG K x C "best" c T:=by
 refine⟨a,h,λf m oc l b g d=>?_⟩;unfold ji at a;rw[i]at a;dsimp only at a;rw[g]at a;dsimp only at a;rw[d]at a;dsimp only at a;split at a
 .rename_i n j;split at a
  .split at a
   .cases a;exact j
   .cases a
  .cases a
 .cases a
end Pu
theorem L2.Room.d1{k:Nat}{A:PySem.Around}(r:L2.Room k A):A.depth+1<PySem.recursionLimit:=by have:=r.dp;lia
namespace L2
open Mx
section
variable{P:aY}{w:aR}{A:aX}{E:ah->am->Prop}{s:am}
structure Keyd(P:aY)(w:aR)(K:Type)[DecidableEq K] where
 is:aC->K->ah->Prop
 hash:K->Int
 room:aX->Prop
 keep:∀{h h':aC}{k:K}{v:ah},is h k v->(∀b o,h.get? b=aa o->o.cls=.type "tuple"->h'.get? b=aa o)->is h' k v
 ref:∀{h:aC}{k:K}{v:ah},is h k v->∃a o,v=.ref a/\h.get? a=aa o
 eqBool:∀{A:aX}{E:ah->am->Prop}{s:am}{x y:K}{u v:ah}{Q:Bool->am->Prop},room A->is s.heap x u->is s.heap y v->Q (decide (x=y)) s->aw (az P w) A (PySem.eqBool u v) Q E s
 quiet:∀{A:aX}{E:ah->am->Prop}{s:am}{k:K}{v:ah}{Q:Bool->am->Prop},is s.heap k v->Q ai s->aw (az P w) A (eqIsQuiet 8 v) Q E s
 cls:∀{A:aX}{E:ah->am->Prop}{s:am}{k:K}{v:ah}{Q:Bool->am->Prop},is s.heap k v->Q aj s->aw (az P w) A (ofAClassStatement 8 v) Q E s
 hbv:∀{A:aX}{E:ah->am->Prop}{s:am}{k:K}{v:ah}{Q:Bool->am->Prop},is s.heap k v->Q aj s->aw (az P w) A (hashByValue 8 v) Q E s
variable{K:Type}[DecidableEq K]{c:Keyd P w K}
end
section
open PySem.SeqAt
open PySem.AutoSeq1 (wpAny_loadPart')
open PySem.MeetsSeq PySem.MeetsSeq2 PySem.MeetsSeq3
end
end L2
namespace Pu
open L2
abbrev ci:=List aM
def eW(a:List (ci×PV))(k:ci):Option PV:=(a.find? λb=>decide (b.1=k)).map (·.2)
def jb(kvs:List (ci×PV))(k:ci)(v:PV):List (ci×PV):=if(kvs.any λa=>decide (a.1=k))=ai then kvs.map (λa=>if a.1=k then(a.1,v)else a)else kvs++[(k,v)]
def oK:List PV->Option ci
 |[]=>aa []
 |x::a=>(iM x).bind λk=>(oK a).map (k::·)
def lF:PV->Option ci
 |.tup a=>oK a
 |_=>ae
section
variable{K:ar}{F:ac->Prop}{S:Nat->ac->Prop}{ε:ag}{σ:St}{H:Hp}{i:Nat}{kvs:List (ci×PV)}{c:List (ci×V)}{a:ac}
theorem B6:∀{d:List PV}{b:List V}{k:ci},ba K H F d b->oK d=aa k->b=k.map kV
 |[],b,k,r,e=>by cases r;cases e;rfl
 |x::d,b,k,⟨v,r,h,g,f⟩,e=>by simp only[oK,zU,wc]at e;obtain⟨m,l,ks,j,rfl⟩:=e;rw[h,vH g l,B6 f j];rfl
theorem wP{x:PV}{v:V}{k:ci}(r:aO K H F x v)(e:lF x=aa k):∃b,v=.ref b/\H b=aa (.tup (k.map kV)):=by
 cases x <;> simp[lF]at e;obtain⟨b,g,rfl,f,d⟩:=r;exact⟨b,rfl,by rw[f,B6 d e]⟩
theorem ix.len(h:ix K H F kvs c):c.length=kvs.length:=by
 unfold ix at h
 induction h with
 |nil=>rfl
 |cons _ _ b=>simp[b]
theorem ix.val(h:ix K H F kvs c)(k:ci):(∃x v,eW kvs k=aa x/\f9 c k=aa v/\aO K H F x v)\/(eW kvs k=ae/\f9 c k=ae):=by
 unfold ix at h
 induction h with
 |nil=>exact .inr ⟨rfl,rfl⟩
 |@cons p q ps qs r _ ih=>
  by_cases e:p.1=k
  .refine .inl ⟨p.2,q.2,by simp[eW,gF,e],?_,r.2⟩;rw[rN (by rw[<-r.1];exact e)]
  .have b:¬q.1=k:=by rw[<-r.1];exact e
   rw[rk b];have:eW (p::ps) k=eW ps k:=by simp[eW,gF,e]
   rw[this];exact ih
theorem ix.any(h:ix K H F kvs c)(k:ci):(kvs.any λb=>decide (b.1=k))=c.any λb=>decide (b.1=k):=by
 unfold ix at h
 induction h with
 |nil=>rfl
 |cons r _ d=>rw[lU,lU,d,r.1]
theorem ix.put(h:ix K H F kvs c)(k:ci){x:PV}{v:V}(r:aO K H F x v):ix K H F (jb kvs k x) (fV c k v):=by
 unfold jb fV;rw[h.any k];split
 .rename_i b;clear b;unfold ix at h ⊢
  induction h with
  |nil=>exact .nil
  |@cons p q ps qs r1 _ ih=>
   refine .cons ?_ ih;dsimp only;by_cases e:p.1=k
   .rw[if_pos e,if_pos (by rw[<-r1.1];exact e)];exact⟨r1.1,r⟩
   .rw[if_neg e,if_neg (by rw[<-r1.1];exact e)];exact r1
 .exact zB h ⟨rfl,r⟩
theorem aH.dtAt(r:aH K F S ε σ H)(e:ε[i]?=aa (.own (.dT kvs))):∃a c,σ[i]?=aa (aa (.ref a))/\H a=aa (.dT c)/\ix K H F kvs c/\S i a/\∀b,S i b->b=a:=by obtain⟨a,l,⟨f,j,g⟩,d⟩:=r.own i _ e;exact⟨a,f,l,j,g,(d a).mpr rfl,λb h=>(d b).mp h⟩
end
def gG(b:ag)(i:Nat):Option (List (ci×PV)):=match b[i]? with
 |some (.own (.dT a))=>aa a
 |_=>ae
theorem oY{b:ag}{i:Nat}{a:List (ci×PV)}(h:gG b i=aa a):b[i]?=aa (.own (.dT a)):=by
 unfold gG at h;split at h
 .cases h;assumption
 .cases h
section
variable{X:Cx}{E:XK}{pin:List Nat}{e b c:ay}{de d g:ag->R PV}{f:Pos}
def pK(i:Nat)(d:ag->R PV):ag->R PV:=λh=>(aG (gG h i) h).bind λ_ h=>(d h).bind λk a=>(aG (gG a i) a).bind λj a=>aG ((lF k).bind λk=>eW j k) a
theorem JA(i:Nat){y:Str}{B:Pos}(hu:X.A.units+64<cLine)(N:DE X E b d)(P:X.N[i]?=aa y:=by rfl)(T:dR X.env.scope y:=by eq_refl)(M:(y==("__debug__":Str))=aj:=by decide) (W:(y==("__classdict__":Str))=aj:=by decide) (K:uX b:=by exact λ_ _=>rfl):DE X E (.Subscript (.Name y B) b f) (pK i d):=λF S p A H Q r h=>by
 unfold pK at h;cases o:gG p i with
 |none=>rw[o]at h;exact h.elim
 |some w=>
  rw[o]at h;simp only[cW,R.bind_ok]at h;obtain⟨a,C,z,_⟩:=r.dtAt (oY o);refine bW (Ai ∅ (eC P T M W) bx K) ⟨.ref a,z,N F S p A H _ r ((Ok.bind h).imp λk l F1 Y Z s g1 q u D=>?_)⟩;cases n:gG l i with
  |none=>rw[n]at q;exact q.elim
  |some J=>
   rw[n]at q;simp only[cW,R.bind_ok]at q;obtain⟨a',ws,j,O,L,_⟩:=s.dtAt (oY n);rw[z]at j;cases j;cases m:lF k with
   |none=>rw[m]at q;exact q.elim
   |some I=>
    rw[m,hV]at q;obtain⟨bb,rfl,G⟩:=wP D m;rcases L.val I with⟨x,v,h1,h2,h3⟩|⟨h1,h2⟩
    .rw[h1]at q;exact⟨a,v,rfl,by rw[<-h2];exact kg.t O G,q F1 Y Z s (a5.refl ..) v h3⟩
    .rw[h1]at q;exact q.elim
def q8(i:Nat)(d de:ag->R PV):ag->R aE:=λl=>(de l).bind λy h=>(aG (gG h i) h).bind λ_ h=>(d h).bind λk a=>(aG (gG a i) a).bind λj a=>(aG (lF k) a).bind λk a=>if j.length<b0 then .ok .next (a.set i (.own (.dT (jb j k y))))else .no
theorem NQ(i:Nat){y:Str}{C l:Pos}(hu:X.A.units+64<cLine)(hb:DE X E b d)(he:DE X E e de)(hN:X.N[i]?=aa y:=by rfl)(fg:dR X.env.scope y:=by eq_refl)(hd:(y==("__debug__":Str))=aj:=by decide) (bf:(y==("__classdict__":Str))=aj:=by decide) (hs:gD e (aa (.Subscript (.Name y C) b l)) f.line X.env=pure aj:=by rfl):DS X E pin (.Assign [.Subscript (.Name y C) b l] e f) (q8 i d de):=λF S K p H D Q h=>by
 refine eD (AV ∅ (eC hN fg hd bf) bx bx hs) (he F S K p H _ Q (h.bindE.imp λy m F1 S1 H1 s g1 q v O=>?_));cases B:gG m i with
 |none=>rw[B]at q;exact q.elim
 |some I=>
  rw[B]at q;simp only[cW,R.bind_ok]at q;obtain⟨a,L,z,ha0,_⟩:=s.dtAt (oY B);refine⟨.ref a,z,hb F1 S1 m p H1 _ s (q.bindE.imp λk r F2 S2 H2 G g2 j u P=>?_)⟩;cases o:gG r i with
  |none=>rw[o]at j;exact j.elim
  |some x=>
   rw[o]at j;simp only[cW,R.bind_ok]at j;obtain⟨a',M,n,ha,J,_⟩:=G.dtAt (oY o);rw[z]at n;cases n;cases A:lF k with
   |none=>rw[A]at j;exact j.elim
   |some w=>
    rw[A]at j;simp only[cW,R.bind_ok]at j;split at j
    .rename_i hl;obtain⟨bb,rfl,Y⟩:=wP P A;have gh:=J.put w (O.grow g2 s.fit);obtain⟨T,g3⟩:=G.updO (po':=.dT (jb x w y)) (o':=.dT (fV M w v)) (oY o) rfl z trivial λH' Z m2 N Sa W=>⟨⟨_,N,gh.mono Z⟩,W⟩
     exact⟨a,_,rfl,v6.t ha Y (by rw[J.len];exact eR hl jA),j F2 S2 p _ T g3 (gJ.refl _ _)⟩
    .exact j.elim
def pq:ag->R PO:=λε=>.ok (.dT []) ε
theorem Bs:DN X E (.Dict [] [] f) pq:=λF S m l H Q i h=>bW MY λp a=>by
 have al:Al F F H (upd H p (.dT [])):=Al.new0 a;refine h F S _ (i.al al) al.grow p (λb=>b=p) ⟨⟨[],cg,.nil⟩,λb=>p8⟩ λb z=>?_;subst z;refine⟨a,λz=>?_,λ⟨j,z⟩=>?_,_,cg,trivial⟩
 .obtain⟨o,q⟩:=i.ex b z;rw[a]at q;cases q
 .obtain⟨_,_,o,q,_⟩:=i.foot j b z;rw[a]at q;cases q
def ln(h:Bool)(i:Nat)(d:ag->R PV):ag->R PV:=λε=>(d ε).bind λk a=>(aG (gG a i) a).bind λkvs a=>aG ((lF k).map λk=>.bl (h^^(eW kvs k).isSome)) a
theorem Lr{i:Nat}(l:Bool){F:ac->Prop}{S:Nat->ac->Prop}{p:ag}{j:St}{H:Hp}{Q:VK}(M:DE X E b d)(I:aH X.K F S p j H)(h:Ok X.K E j F S H (ln l i d p) (λpv _ P _ B=>∀v,aO X.K B P pv v->Q v B)):fY X b j H λy m=>∃x,j[i]?=aa (aa x)/\∃a o,x=.ref a/\kg m a y o/\Q (.bl (l^^o.isSome)) m:=by
 unfold ln at h;refine M F S p j H _ I ((Ok.bind h).imp λk n C A m r T q u G=>?_);cases w:gG n i with
 |none=>rw[w]at q;exact q.elim
 |some K=>
  rw[w]at q;simp only[cW,R.bind_ok]at q;obtain⟨a,D,O,N,L,_⟩:=r.dtAt (oY w);cases s:lF k with
  |none=>rw[s]at q;exact q.elim
  |some z=>
   rw[s,oa]at q;obtain⟨W,rfl,J⟩:=wP G s;refine⟨.ref a,O,a,f9 D z,rfl,kg.t N J,?_⟩;rcases L.val z with⟨x,v,h1,h2,h3⟩|⟨h1,h2⟩
   .rw[h1]at q;rw[h2];exact q C A m r (a5.refl ..) _ rfl
   .rw[h1]at q;rw[h2];exact q C A m r (a5.refl ..) _ rfl
theorem NK(i:Nat){y:Str}{a:Pos}(w:X.A.units+64<cLine)(n:DE X E b d)(o:X.N[i]?=aa y:=by rfl)(p:dR X.env.scope y:=by eq_refl)(m:(y==("__debug__":Str))=aj:=by decide) (q:(y==("__classdict__":Str))=aj:=by decide) (l:nX .NotIn (.Name y a)=aj:=by rfl):DT X E (.Compare b [.NotIn] [.Name y a] f) (dB (ln ai i d)):=λF S u s H Q j h=>by refine si (Mr (Ln ∅ bx (eC o p m q)) l) ?_;have:=Lr (Q:=λv r=>∃k,v=.bl k/\Q k r) ai n j (qI h);simp only[Bool.true_xor]at this;exact this
end
section
variable{K:ar}{F f:ac->Prop}{S:Nat->ac->Prop}{c:ag}{σ:St}{H d:Hp}
theorem aH.putOwn{j:Nat}{po:PO}{a:ac}{Sa:ac->Prop}(r:aH K F S c σ H)(i:j<c.length)(e:σ[j]?=aa (aa (.ref a)))(h:dG K H F po a Sa)(l:nQ F S H Sa):aH K F (λk b=>(S k b/\k≠j)\/(k=j/\Sa b)) (c.set j (.own po)) σ H:=by
 have:=r.setOwn i h l;have m:σ.set j (aa (.ref a))=σ:=by
  apply sR;intro k;by_cases g:j=k
  .subst g;rw[dw (by rw[<-r.len];exact i),e]
  .rw[cP g]
 rw[m]at this;exact this
end
end Pu
namespace L2
open Mx
def eu(k:List Tx):List aM:=k.map λx=>Sum.inr (tS x)
end L2
namespace Pu
open L2
def ug:ci->Option (List Tx)
 |[]=>aa []
 |.inr z::r=>(ug r).map (z.cps.toList::·)
 |_=>ae
theorem BL(t:List Tx):ug (eu t)=aa t:=by
 induction t with
 |nil=>rfl
 |cons x t a=>show ug (Sum.inr (tS x)::eu t)=_;simp[ug,a,mq]
def jj(k:List Tx):PV:=.tup (ak k)
def im:List Int->Int
 |[]=>0
 |x::r=>r.foldl (λb y=>if y<b then y else b) x
theorem F7(l:List Int)(y:Int)(h:l≠[]):im (l++[y])=if y<im l then y else im l:=by
 cases l with
 |nil=>exact absurd rfl h
 |cons x r=>show(r++[y]).foldl _ x=_;rw[zK];rfl
theorem Dq(a:List Int):∀k,k<a.length->a[jY (λi j=>decide (a.getD i 0<a.getD j 0)) k]?=aa (im (a.take (k+1)))
 |0,h=>by
  cases a with
  |nil=>cases h
  |cons x r=>simp[jY,im]
 |k+1,h=>by
  have b:=Dq a k ∅;have e:a.take (k+1+1)=a.take (k+1)++[a[k+1]]:=by rw[N8 h]
  have g:=wQ (λi j=>decide (a.getD i 0<a.getD j 0)) k;rw[e,F7 _ _ (by intro z;have:=congrArg nY z;rw[pN,kD]at this;lia)];unfold jY;have f:a.getD (k+1) 0=a[k+1]:=by simp[wg,h]
  have d:a.getD (jY (λi j=>decide (a.getD i 0<a.getD j 0)) k) 0=im (a.take (k+1)):=by rw[qa,b];rfl
  rw[f,d];by_cases c:a[k+1]<im (a.take (k+1))
  .rw[if_pos (by simpa using c),if_pos c];simp[h]
  .rw[if_neg (by simpa using c),if_neg c];exact b
section
variable{X:Cx}
theorem Fm(n:X.calm=ai):fh X (.builtin "min") (λw H Q=>∃(p:ac) (a:List Int),w=[.ref p]/\b_ X.K H p (a.map V.int)/\a≠[]/\Q (.int (im a)) H):=by
 intro S s A H w us Q I r h;obtain⟨p,a,rfl,J,P,q⟩:=h;obtain⟨u,rfl,D⟩:=vals1 r;cases D;obtain⟨d,l,m,hz⟩:=I.list J;have y:=l.length;rw[cf]at y;have hn:0<a.length:=by cases a with|nil=>exact absurd rfl P|cons=>simp
 refine call_min_walk (pW m.isList ?_);have W:p≠s.heap.objs.size:=by obtain⟨o,f,_⟩:=m.isList;exact cN (bo f)
 refine⟨s.heap.objs.size,_,_,_,_,_,λi j=>decide (a.getD i 0<a.getD j 0),rfl,pX (qF (I.ok.hd n)) s.heap.objs.size p W d.toArray,⟨⟨_,cm _ rfl,rfl,rfl⟩,?_⟩,?_,by rw[cu];lia,λi j Z Y s' Q' E' M L O=>?_,λv h' B G k=>?_⟩
 .obtain⟨o,f,n,N⟩:=m.isList;exact⟨o,bi _ f,n,N⟩
 .intro b g;obtain⟨o,f,_⟩:=m.isList;have C:p<s.heap.objs.size:=bo f;have sz:∀o:Obj,(s.heap.push o).objs.size=s.heap.objs.size+1:=λo=>by simp[Heap.push]
  rcases bV.mp g with rfl|g
  .show _<(s.heap.push _).objs.size;rw[sz];exact iY _
  .rw[g9.mp g];show _<(s.heap.push _).objs.size;rw[sz];exact jo C
 .obtain⟨t,rfl⟩:=pJ l M;obtain⟨t',rfl⟩:=pJ l L;exact lt_int O
 .obtain⟨t,rfl⟩:=pJ l G;have e:a.getD (jY (λi j=>decide (a.getD i 0<a.getD j 0)) (d.toArray.size-1)) 0=im a:=by rw[cu,<-y,qa,Dq a _ ∅,show a.length-1+1=a.length by lia,List.take_length];rfl
  rw[e];have T:Inv X S A H {s with heap:=s.heap.push {cls:=.type "list_iterator",data:=.fields #[.ref p,.int 0 0]},toks:=s.toks}:=I.kept (t':=s.toks) λb o e=>bi _ e;exact⟨.int (im a),H,Inv.turned (t':=B) T (it:=s.heap.objs.size) (λb o g e=>k b o (by simpa using g) e) I.fresh (iB I.lt) (.inr I.sz) (λx c e z=>by obtain⟨v,E⟩:=I.cell x c e;exact absurd E.lt (by rw[z];exact dZ _)) (λF K z=>absurd (bo (I.pin F K).1) (by rw[z];exact dZ _)),⟨t,rfl⟩,q⟩
def pE:List PV->Option PV
 |[.lst b]=>(et b).bind λa=>if a≠[] then aa (.int (im a))else ae
 |_=>ae
theorem Fg:PL X.K (λd H Q=>∃(p:ac) (b:List Int),d=[.ref p]/\b_ X.K H p (b.map V.int)/\b≠[]/\Q (.int (im b)) H) pE:=λF H d m Q pv g e q=>by
 unfold pE at e;split at e
 .obtain⟨v,rfl,a,n,rfl,j,_,f⟩:=gq g;obtain⟨h,l,c⟩:=zU.mp e;have:=wU f l;subst this;split at c
  .rename_i i;cases c;exact⟨a,h,rfl,.inl j,i,q _ F H (Al.refl ..) rfl⟩
  .cases c
 .cases e
end
def jv(a:ag)(C:ac)(y:Str)(i:Nat):Option (List (Str×PV)×List PV):=match a[i]? with
 |some (.own (.inl D fs z xs))=>if D=C/\z=y then aa (fs,xs)else ae
 |_=>ae
theorem uY{a:ag}{C:ac}{y:Str}{i:Nat}{p:List (Str×PV)×List PV}(h:jv a C y i=aa p):a[i]?=aa (.own (.inl C p.1 y p.2)):=by
 unfold jv at h;split at h
 .rename_i D fs z xs e;split at h
  .rename_i b;obtain⟨rfl,rfl⟩:=b;cases h;exact e
  .cases h
 .cases h
theorem MJ{a:List (Str×V)}{f:Str}{v:V}{r:List (Str×V)}(h:a.lookup f=aa v):(a++r).lookup f=aa v:=by rw[sL,h];rfl
theorem xf{a:List (Str×V)}{y:Str}{v:V}(h:a.lookup y=ae):(a++[(y,v)]).lookup y=aa v:=by rw[sL,h];simp[iC]
section
variable{K:ar}{F u:ac->Prop}{S B:Nat->ac->Prop}{l:ag}{p:St}{H s:Hp}{i:Nat}{C a b m:ac}{fs:List (Str×PV)}{j:List (Str×V)}{y:Str}{x A:List PV}{f:List V}
theorem aH.updI(r:aH K F S l p H)(e:l[i]?=aa (.own (.inl C fs y x)))(ea:p[i]?=aa (aa (.ref a)))(Y:H a=aa (.ins C m (j++[(y,.ref b)])))(Z:gs K H F fs j)(X:fs.lookup y=ae)(P:a≠b)(Q:∀c,S i c↔c=a\/c=b)(h:ba K H F A f):aH K F S (l.set i (.own (.inl C fs y A))) p (L2.upd H b (.lst f))/\a5 (U S) (U S) F F H (L2.upd H b (.lst f)):=by
 have J:S i b:=(Q b).mpr (.inr rfl);have M:i<l.length:=(cq.mp e).1;have g:a5 (U S) (U S) F F H (L2.upd H b (.lst f)):=⟨λ_ z=>z,λc o q n=>by rw[bF (by rintro rfl;exact n ⟨i,J⟩)];exact q,λc o q=>by
  by_cases I:c=b
  .subst I;exact⟨_,cg⟩
  .exact⟨o,by rw[bF I];exact q⟩,λ_ z=>.inl z,λ_ z=>.inl z⟩
 refine⟨⟨by rw[iG];exact r.len,λb z=>let ⟨o,q⟩:=r.ex b z;g.there b o q,λk pv q=>?_,λk L q=>?_,λk c z=>?_,r.dist⟩,g⟩
 .have D:i≠k:=by rintro rfl;rw[dw M]at q;cases q
  rw[cP D]at q;obtain⟨v,G,E⟩:=r.val k pv q;exact⟨v,G,E.grow g r.fit⟩
 .by_cases D:i=k
  .subst D;rw[dw M]at q;cases q;exact⟨a,ea,m,j,b,f,by rw[bF P];exact Y,Z.mono (λ_ _ z=>z.grow g r.fit),X,cg,h.grow g r.fit,P,Q⟩
  .rw[cP D]at q;obtain⟨c,G,E⟩:=r.own k L q;refine⟨c,G,E.mono (λ_ _ z=>z.grow g r.fit) (λ_ _ z=>z.grow g r.fit) λd o z w=>?_⟩;rw[bF (by rintro rfl;exact D (r.dist i k d J z))];exact w
 .obtain⟨⟨L,G⟩,E,o,W,T⟩:=r.foot k c z;have N:∃O,(L2.upd H b (.lst f)) c=aa O/\dA O:=by
   by_cases I:c=b
   .subst I;exact⟨_,cg,trivial⟩
   .exact⟨o,by rw[bF I];exact W,T⟩
  by_cases D:i=k
  .subst D;exact⟨⟨_,dw M⟩,E,N⟩
  .exact⟨⟨L,by rw[cP D];exact G⟩,E,N⟩
theorem aH.lookI(r:aH K F S l p H)(e:l[i]?=aa (.own (.inl C fs y x))):∃a b m j,p[i]?=aa (aa (.ref a))/\H a=aa (.ins C m j)/\j.lookup y=aa (.ref b)/\aO K H (λc=>F c\/c=b) (.lst x) (.ref b)/\(∀c,F c\/c=b->∃o,H c=aa o) /\ (∀{u s},Al (λc=>F c\/c=b) u H s->Al F (λc=>u c/\c≠b) H s):=by
 obtain⟨a,E,m,j,b,f,q,D,h,d,n,G,v⟩:=r.own i _ e;have g:¬F b:=(r.foot i b ((v b).mpr (.inr rfl))).2.1;refine⟨a,b,m,_,E,q,xf (D.miss h),⟨b,f,rfl,.inl d,.inr rfl,ba.mono (λ_ z=>.inl z) (λ_ _ _ z=>z) (λ_ _ z _=>z) _ _ n⟩,λc z=>z.elim (r.ex c) λz=>by rw[z];exact⟨_,d⟩,λ{u s} al=>⟨λc z=>⟨al.fro c (.inl z),λw=>g (w ▸ z)⟩,al.same,λc z=>?_⟩⟩;rcases al.fnew c z.1 with(w|w)|w
 .exact .inl w
 .exact absurd w z.2
 .exact .inr w
end
section
variable{X:Cx}{E:XK}{pin:List Nat}{e d:ay}{f x y u:Str}{C:ac}{p g j:Pos}{w de:ag->R PV}{m T:String}{r:List V->Hp->VK->Prop}{o:List PV->Option PV}{s:List PV->Option PO}
def jt(C:ac)(y:Str)(i:Nat)(f:Str):ag->R PV:=λa=>(aG (jv a C y i) a).bind λq a=>aG (q.1.lookup f) a
theorem A5(i:Nat)(y:Str)(c:Cls X.K C)(n:gY X.K C f)(M:X.N[i]?=aa x:=by rfl)(I:dR X.env.scope x:=by eq_refl)(J:(x==("__debug__":Str))=aj:=by decide)(W:(x==("__classdict__":Str))=aj:=by decide) (K:g7 (.Name x p) f X.env (aK (.Name x p) X.env)=aK (.Name x p) X.env:=by rfl):DE X E (.Attribute (.Name x p) f g) (jt C y i f):=λF S D Y H Q B h=>by
 unfold jt at h;cases A:jv D C y i with
 |none=>rw[A]at h;exact h.elim
 |some q=>
  rw[A]at h;simp only[cW,R.bind_ok]at h;obtain⟨a,O,P,Z,b,vs,L,N,hy,l5,hx,ie,hS⟩:=B.own i _ (uY A);cases z:q.1.lookup f with
  |none=>rw[z]at h;exact h.elim
  |some pv=>rw[z]at h;obtain⟨v,l,G⟩:=N.look z;exact bW (vd (eC M I J W) K) ⟨.ref a,O,a,C,P,_,v,rfl,L,c,n,MJ l,h F S H B (a5.refl ..) v G⟩
def qZ{b:Type}(f:List PV->Option b)(C:ac)(y:Str)(i:Nat):ag->R b:=λa=>(aG (jv a C y i) a).bind λq a=>aG (f [.lst q.2]) a
end
theorem BI{f:Str}{v:V}:∀{a:List (Str×V)},a.lookup f=ae->d8 f v a=a++[(f,v)]
 |[],_=>rfl
 | (g,x)::r,h=>by
  by_cases q:g=f
  .subst q;simp[iC]at h
  .have b:r.lookup f=ae:=by
    have:(f == g)=aj:=by simpa using λe=>q e.symm
    simpa[iC,this]using h
   rw[d8,if_neg q,BI b];rfl
section
variable{K:ar}{F l:ac->Prop}{S A:Nat->ac->Prop}{p s:ag}{m:St}{H f:Hp}{i:Nat}{C a b u:ac}{h:PO}{fs:List (Str×PV)}{y:Str}{x D:List PV}{B:List V}
theorem aH.away(r:aH K F S p m H)(e:p[i]?=aa (.own h))(M:aH K l A s m f)(d:a5 (U λj b=>S j b/\j≠i) (U A) F l H f):∃N,aH K l N (s.set i (.own h)) m f/\a5 (U S) (U N) F l H f/\∀c o,S i c->H c=aa o->f c=aa o:=by
 obtain⟨a,J,Q⟩:=r.own i h e;have G:∀c,S i c->¬U (λj b=>S j b/\j≠i) c:=λc z ⟨j,w,g⟩=>g (r.dist j i c w z);have I:∀c o,S i c->H c=aa o->f c=aa o:=λc o z q=>d.keep c o q (G c z);have fit:Fit (U λj b=>S j b/\j≠i) F H:=λc ⟨j,z,_⟩=>(r.foot j c z).2;have W:i<s.length:=by rw[M.len];exact(cq.mp J).1
 have E:dG K f l h a (S i):=Q.mono (λ_ _ z=>z.grow d fit) (λ_ _ z=>z.grow d fit) I;have T:nQ l A f (S i):=λc z=>by
  obtain⟨_,P,o,v,O⟩:=r.foot i c z;refine⟨λw=>?_,λw=>?_,o,I c o z v,O⟩
  .rcases d.fnew c w with w|w|w
   .exact P w
   .rw[v]at w;cases w
   .exact G c z w
  .rcases d.onew c w with w|w
   .exact G c z w
   .rw[v]at w;cases w
 have L:=M.setOwn W E T;have X:m.set i (aa (.ref a))=m:=by
  apply sR ;intro j;by_cases g:i=j
  .subst g;rw[dw (cq.mp J).1,J]
  .rw[cP g]
 rw[X]at L;refine⟨_,L,⟨d.fro,λc o q n=>d.keep c o q λ⟨j,w,_⟩=>n ⟨j,w⟩,d.there,λc w=>(d.fnew c w).imp id λw=>w.imp id λ⟨j,w,_⟩=>⟨j,w⟩,λc ⟨j,w⟩=>?_⟩,I⟩;rcases w with⟨w,_⟩|⟨_,w⟩
 .exact(d.onew c ⟨j,w⟩).imp (λ⟨j,w,_⟩=>⟨j,w⟩) id
 .exact .inl ⟨i,w⟩
theorem aH.giveI{I:List (Str×V)}{T:ac->Prop}(r:aH K F S p m H)(e:p[i]?=aa (.own (.ins C fs)))(ea:m[i]?=aa (aa (.ref a)))(ha:H a=aa (.ins C u I))(fr:gs K H F fs I)(hS:∀c,S i c↔c=a)(hy:fs.lookup y=ae)(ow:dG K H F (.lst x) b T) (W:nQ F S H T):aH K F (λj c=>S j c\/(j=i/\T c)) (p.set i (.own (.inl C fs y x))) m (L2.upd H a (.ins C u (d8 y (.ref b) I)))/\a5 (U S) (U S) F F H (L2.upd H a (.ins C u (d8 y (.ref b) I))):=by
 obtain⟨⟨B,hb,hx⟩,P⟩:=ow;have L:S i a:=(hS a).mpr rfl;have hi:i<p.length:=(cq.mp e).1;have hbL:=W b ((P b).mpr rfl);have ie:a≠b:=by rintro rfl;exact hbL.2.1 ⟨i,L⟩
 have g:a5 (U S) (U S) F F H (L2.upd H a (.ins C u (d8 y (.ref b) I))):=⟨λ_ z=>z,λc o q n=>by rw[bF (by rintro rfl;exact n ⟨i,L⟩)];exact q,λc o q=>by
  by_cases O:c=a
  .subst O;exact⟨_,cg⟩
  .exact⟨o,by rw[bF O];exact q⟩,λ_ z=>.inl z,λ_ z=>.inl z⟩
 refine⟨⟨by rw[iG];exact r.len,λb z=>let ⟨o,q⟩:=r.ex b z;g.there b o q,λk pv q=>?_,λk h q=>?_,λk c z=>?_,λj k c M E=>?_⟩,g⟩
 .have G:i≠k:=by rintro rfl;rw[dw hi]at q;cases q
  rw[cP G]at q;obtain⟨v,N,J⟩:=r.val k pv q;exact⟨v,N,J.grow g r.fit⟩
 .by_cases G:i=k
  .subst G;rw[dw hi]at q;cases q;refine⟨a,ea,u,I,b,B,?_,fr.mono (λ_ _ z=>z.grow g r.fit),hy,by rw[bF ie.symm];exact hb,hx.grow g r.fit,ie,λc=>?_⟩
   .rw[cg,BI (fr.miss hy)]
   .show(S i c\/i=i/\T c)↔_;rw[hS,P];simp
  .rw[cP G]at q;obtain⟨c,N,J⟩:=r.own k h q;have:(λc=>S k c\/(k=i/\T c))=S k:=by funext c;exact propext ⟨λz=>z.elim id λz=>absurd z.1.symm G,.inl⟩
   refine⟨c,N,?_⟩;rw[this];refine J.mono (λ_ _ z=>z.grow g r.fit) (λ_ _ z=>z.grow g r.fit) λd o z w=>?_;rw[bF (by rintro rfl;exact G (r.dist i k d L z))];exact w
 .have up:∀{c:ac}{o:HO},H c=aa o->dA o->∃o',(L2.upd H a (.ins C u (d8 y (.ref b) I))) c=aa o'/\dA o':=λ{c o} h1 h2=>by
   by_cases O:c=a
   .subst O;exact⟨_,cg,trivial⟩
   .exact⟨o,by rw[bF O];exact h1,h2⟩
  have Q:∀{k:Nat}{h:PO},p[k]?=aa (.own h)->∃Z,(p.set i (.own (.inl C fs y x)))[k]?=aa (.own Z):=λ{k h} q=>by
   by_cases G:i=k
   .subst G;exact⟨_,dw hi⟩
   .exact⟨h,by rw[cP G];exact q⟩
  rcases z with z|⟨rfl,z⟩
  .obtain⟨⟨h,N⟩,J,o,Y,X⟩:=r.foot k c z;exact⟨Q N,J,up Y X⟩
  .obtain⟨J,_,o,Y,X⟩:=W c z;exact⟨Q e,J,up Y X⟩
 .rcases M with M|⟨rfl,M⟩
  .rcases E with E|⟨rfl,E⟩
   .exact r.dist j k c M E
   .exact absurd ⟨j,M⟩ (W c E).2.1
  .rcases E with E|⟨rfl,E⟩
   .exact absurd ⟨k,E⟩ (W c M).2.1
   .rfl
theorem aH.aside{O n:ac->Prop}(r:aH K F S p m H)(g:a5 O n F l H f)(d:∀c,O c->H c=ae)(j:∀c,l c->∃o,f c=aa o):aH K l S p m f/\a5 (U S) (U S) F l H f:=by
 have no:∀c o,H c=aa o->¬O c:=λc o q z=>by rw[d c z]at q;cases q
 have al:Al F l H f:=⟨g.fro,λc o q=>g.keep c o q (no c o q),λc z=>by
  rcases g.fnew c z with w|w|w
  .exact .inl w
  .exact .inr ⟨w,j c z⟩
  .exact .inr ⟨d c w,j c z⟩⟩
 exact⟨r.al al,al.grow⟩
end
section
variable{X:Cx}{E:XK}{pin:List Nat}{e d:ay}{f x y m:Str}{C:ac}{p g l:Pos}{B de:ag->R PV}{u T:String}{r:List V->Hp->VK->Prop}{A:List PV->Option PV}{s:List PV->Option PO}
theorem MQ{F:ac->Prop}{S:Nat->ac->Prop}{D:ag}{v:St}{H:Hp}{Q:VK}{i:Nat}(hp:k7 X.K r s)(K:aH X.K F S D v H)(h:Ok X.K E v F S H (qZ (λxs=>vp (s xs)) C y i D) (λL _ W S' n=>∀a I,dG X.K n W L a I->(∀b,I b->H b=ae/\¬W b/\¬U S' b/\∃o,n b=aa o/\dA o)->Q (.ref a) n)):∃a b P G,v[i]?=aa (aa (.ref a))/\H a=aa (.ins C P G)/\G.lookup y=aa (.ref b)/\r [.ref b] H Q:=by
 unfold qZ at h;cases O:jv D C y i with
 |none=>rw[O]at h;exact h.elim
 |some q=>
  rw[O]at h;simp only[cW,R.bind_ok]at h;obtain⟨a,b,P,G,ea,ha,hl,ra,M,ig⟩:=K.lookI (uY O);refine⟨a,b,P,G,ea,ha,hl,?_⟩;cases N:s [.lst q.2]with
  |none=>rw[N]at h;exact h.elim
  |some L=>
   rw[N]at h;cases L with
   |lst J=>
    have h:Ok X.K E v F S H (aG (if jw J then aa (PO.lst J)else ae) D) _:=h;split at h
    .rename_i hi;refine hp _ H [.lst q.2] [.ref b] Q _ M (.one ra) N λc W n I al ow fr=>h _ S n (K.al (ig al)) (ig al).grow c I ?_ λb z=>?_
     .obtain⟨⟨vs,o1,o2⟩,o3⟩:=ow;exact⟨⟨vs,o1,ba.imm J hi o2⟩,o3⟩
     .obtain⟨Y,z2,o,z3,z4⟩:=fr b z;refine⟨Y,λw=>z2 w.1,λ⟨j,w⟩=>?_,o,z3,z4⟩;obtain⟨_,_,o',Z,_⟩:=K.foot j b w;rw[Y]at Z;cases Z
    .exact h.elim
   |_=>exact h.elim
theorem L7(i:Nat)(c:Cls X.K C)(n:gY X.K C y)(O:fh X (.type T) r)(I:k7 X.K r s)(K:X.mg m=ae)(D:d3 m=aa (.type T))(Y:X.N[i]?=aa x:=by rfl)(Z:dR X.env.scope x:=by eq_refl)(N:(x==("__debug__":Str))=aj:=by decide) (bf:(x==("__classdict__":Str))=aj:=by decide) (M:Gl X m:=by rfl) (J:m≠"__name__":=by decide) (fM:(m==("__debug__":Str))=aj:=by decide) {h j:Pos}(P:g7 (.Name x h) y X.env (aK (.Name x h) X.env)=aK (.Name x h) X.env:=by rfl)(o:aL [.Attribute (.Name x h) y j] X.env=(aj,aK (.Attribute (.Name x h) y j) X.env)::aL [] X.env:=by rfl) (bY:(ce g (aL [] X.env)).any (·.1)=aj:=by rfl):DN X E (.Call (.Name m p) [.Attribute (.Name x h) y j] [] g) (qZ (λv=>vp (s v)) C y i):=λF S ε σ H Q z q=>by obtain⟨a,b,dx,w,ea,W,L,G⟩:=MQ I z q;exact bW (vx O M K D (io (vd (eC Y Z N bf) P) jB o) J fM o bY) ⟨.ref a,ea,a,C,dx,w,.ref b,rfl,W,c,n,L,G⟩
def nR(C:ac)(y:Str)(i:Nat)(de:ag->R PV):ag->R aE:=λa=>(aG (jv a C y i) a).bind λq a=>match de (a.set i .none)with
 |.ok v b=>if q.2.length<b0 then .ok .next (b.set i (.own (.inl C q.1 y (q.2++[v]))))else .no
 |_=>.no
theorem JU(i:Nat)(c:Cls X.K C)(n:gY X.K C y)(he:DE X E e de){x:Str}{p L w o:Pos}(hN:X.N[i]?=aa x:=by rfl)(hv:dR X.env.scope x:=by eq_refl)(hd:(x==("__debug__":Str))=aj:=by decide)(bf:(x==("__classdict__":Str))=aj:=by decide) (hb:g7 (.Name x p) y X.env (aK (.Name x p) X.env)=aK (.Name x p) X.env:=by rfl)(h1:g7 (.Attribute (.Name x p) y L) "append" X.env (aK (.Attribute (.Name x p) y L) X.env)=aK (.Attribute (.Name x p) y L) X.env:=by rfl)(h2:((ce o (aL [e] X.env)).all (λx=>!x.1)&&(lO o (lP [] X.env)).all (λx=>x.1.isSome)&&decide ([e].length+([]:List jV).length+(if([]:List jV).isEmpty then 0 else 1)<30))=ai:=by rfl)(h3:(w.endLine == o.line)=ai:=by rfl) (h4:aL [e] X.env=(aj,aK e X.env)::aL [] X.env:=by rfl) (h5:(ce o (aL [] X.env)).any (·.1)=aj:=by rfl)(hs:gD (.Call (.Attribute (.Attribute (.Name x p) y L) "append" w) [e] [] o) ae g.line X.env=pure aj:=by rfl):DS X E pin (.Expr (.Call (.Attribute (.Attribute (.Name x p) y L) "append" w) [e] [] o) g) (nR C y i de):=λF S ε σ H D P h=>by
 unfold nR at h;cases e0:jv ε C y i with
 |none=>rw[e0]at h;exact h.elim
 |some q=>
  rw[e0]at h;simp only[cW,R.bind_ok]at h;have J:=uY e0;obtain⟨a,N,dx,ws,b,vs,ha,fr,hy,l5,hx,ie,hS⟩:=P.own i _ J;refine eD (u9 (yM EB PySem.F.slot_list_append PySem.F.type_list_append ya (vd (eC hN hv hd bf) hb) (io bx jB h4) h1 h2 h3 h4 h5) hs) ⟨.ref a,N,a,C,dx,_,.ref b,rfl,ha,c,n,xf (fr.miss hy),.inl ⟨rfl,_,b_.of l5⟩,?_⟩;refine he F _ _ σ H _ (P.drop i) ?_;cases Z:de (ε.set i .none)with
  |no=>rw[Z]at h;exact h.elim
  |er c' ε'=>rw[Z]at h;exact h.elim
  |ok v O=>
   rw[Z]at h;dsimp only at h;split at h
   .rename_i hl;intro F1 S1 H1 r1 g1 v' rv;obtain⟨S2,r2,g2,ke⟩:=P.away J r1 g1;have hi:i<O.length:=by rw[r1.len];exact(cq.mp N).1
    obtain⟨a2,K,dx2,ws2,b2,vs2,M,Y,Q,z,W,G,kM⟩:=r2.own i _ (dw hi);rw[N]at K;cases K;have mX:=ke a _ ((hS a).mpr (.inl rfl)) ha;have gh:=ke b _ ((hS b).mpr (.inr rfl)) l5;rw[mX]at M;injection M with M;injection M with _ edx ews;obtain⟨I,j⟩:=List.append_inj' ews rfl;injection j with j _;injection j with _ j;injection j with j;subst I j edx;rw[gh]at z;cases z;obtain⟨r3,g3⟩:=r2.updI (dw hi) N mX Y Q G kM (W.app (.one rv));rw[List.set_set]at r3;exact⟨b,vs,v',rfl,rfl,gh,by rw[hx.len];exact eR hl jA,h F1 S2 σ _ r3 (g2.trans g3) (gJ.refl _ _)⟩
   .exact h.elim
def uG(C:ac)(i:Nat)(y:Str)(dn:ag->R PO):ag->R aE:=λb=>(dn b).bind λh a=>match h with
 |.lst c=>(aG (nu a C i) a).bind λfs a=>if fs.length<1000/\fs.lookup y=ae then .ok .next (a.set i (.own (.inl C fs y c)))else .no
 |_=>.no
theorem LN(i:Nat)(c:Cls X.K C)(n:gY X.K C y){dn:ag->R PO}(Ac:DN X E d dn)(hN:X.N[i]?=aa x:=by rfl)(hv:dR X.env.scope x:=by eq_refl)(hd:(x==("__debug__":Str))=aj:=by decide)(bf:(x==("__classdict__":Str))=aj:=by decide) (hs:gD d (aa (.Attribute (.Name x p) y l)) g.line X.env=pure aj:=by rfl):DS X E pin (.Assign [.Attribute (.Name x p) y l] d g) (uG C i y dn):=λF S I v H D Y h=>by
 refine eD (AI (eC hN hv hd bf) bx hs) (Ac F S I v H _ Y ?_);unfold uG at h;cases G:dn I with
 |no=>rw[G]at h;exact h.elim
 |er c Q=>rw[G]at h;exact λx F' S' H' r' g'=>h x F' S' v H' r' g' (gJ.refl _ _)
 |ok po w=>
  rw[G]at h;simp only[R.bind_ok]at h;intro F1 S1 H1 J N b Sb ow O;cases po with
  |lst xs=>
   dsimp only at h;cases q:nu w C i with
   |none=>rw[q]at h;exact h.elim
   |some fs=>
    rw[q]at h;simp only[cW,R.bind_ok]at h;obtain⟨a,P,⟨dx,W,M,L⟩,hS⟩:=J.own i _ (ur q);split at h
    .rename_i K;obtain⟨Z,g2⟩:=J.giveI (ur q) P M L hS K.2 ow λb z=>(O b z).2;refine⟨.ref a,P,a,C,dx,W,rfl,M,c,n,by rw[L.len];exact K.1,h F1 _ v _ Z ?_ (gJ.refl _ _)⟩;have o:=N.trans g2;refine⟨o.fro,o.keep,o.there,o.fnew,λb ⟨j,z⟩=>?_⟩;rcases z with z|⟨_,z⟩
     .exact N.onew b ⟨j,z⟩
     .exact .inr (O b z).1
    .exact h.elim
  |_=>exact h.elim
end
section
variable{K:ar}{F:ac->Prop}{S:Nat->ac->Prop}{ε:ag}{σ c:St}{H:Hp}{i:Nat}{C:ac}{m:Str}
def me(ε:ag)(C:ac)(m:Str)(i:Nat):Bool:=match ε[i]? with
 |some (.own (.ins D fs))=>decide (D=C)&&(fs.lookup m).isNone
 |some (.own (.inl D fs y _))=>decide (D=C)&&(fs.lookup m).isNone&&decide (m≠y)
 |_=>aj
theorem DC(r:aH K F S ε σ H)(h:me ε C m i=ai):∃a f d,σ[i]?=aa (aa (.ref a))/\H a=aa (.ins C f d)/\d.lookup m=ae:=by
 unfold me at h;split at h
 .rename_i D fs e;simp only[ef,decide_eq_true_eq,Option.isNone_iff_eq_none]at h;obtain⟨rfl,g⟩:=h;obtain⟨a,n,⟨f,d,l,j⟩,_⟩:=r.own i _ e;exact⟨a,f,d,n,l,j.miss g⟩
 .rename_i D fs y p e;simp only[ef,decide_eq_true_eq,Option.isNone_iff_eq_none]at h;obtain⟨⟨rfl,g⟩,o⟩:=h;obtain⟨a,n,f,d,b,q,l,j,_⟩:=r.own i _ e;refine⟨a,f,_,n,l,?_⟩;have:(m == y)=aj:=by simpa using o
  rw[sL,j.miss g];simp[iC,this]
 .cases h
theorem eK.bare:∀{b:List bK}{d:List V},bv b=[]->eK K σ F H b d->eK K c F H b d
 |[],_,_,h=>h
 |.inl _::_,_,a,⟨v,r,e,g,f⟩=>⟨v,r,e,g,eK.bare a f⟩
 |.inr _::_,_,a,_=>by cases a
theorem aH.only{po:PO}{a:ac}{Sa:ac->Prop}(l:∀b,F b->∃o,H b=aa o)(g:dG K H F po a Sa)(h:∀b,Sa b->¬F b/\∃o,H b=aa o/\dA o):aH K F (λj b=>j=0/\Sa b) [.own po] [aa (.ref a)] H:=by
 refine⟨rfl,l,λj pv q=>?_,λj p q=>?_,λj b z=>?_,λj k b f d=>f.1.trans d.1.symm⟩
 .match j,q with
  |0,q=>cases q
 .match j,q with
  |0,q=>
   cases q;refine⟨a,rfl,?_⟩;have:(λb=>0=0/\Sa b)=Sa:=by funext b;exact propext ⟨λz=>z.2,λz=>⟨rfl,z⟩⟩
   rw[this];exact g
 .obtain⟨rfl,z⟩:=z;exact⟨⟨po,rfl⟩,h b z⟩
end
section
variable{s:dQ}{X:Cx}{E:XK}{pin:List Nat}{e:ay}{n:List ay}{r:ag->R (List bK)}{p d l:Pos}{x m:Str}{C:ac}{k:Nat}{A:List Str}{g u B:ag->R Slot}
def ng(C:ac)(m:Str)(i:Nat)(g:ag->R Slot)(r:ag->R (List bK)):ag->R Slot:=λε=>if me ε C m i then(r ε).bind λb a=>mi a (.inr i::b) g else .no
theorem GT{pl:Sem Bool}(i:Nat)(c:Cls X.K C)(P:jz s X.prog X.w X.K X.mg X.base C m k A (bj X.K g))(Z:Room k X.A)(T:iQ s X E)(ha:DG X E (e::n) r)(hN:X.N[i]?=aa x:=by rfl) (W:dR X.env.scope x:=by eq_refl) (hd:(x==("__debug__":Str))=aj:=by decide) (bf:(x==("__classdict__":Str))=aj:=by decide)(h1:aL (e::n) X.env=(aj,aK e X.env)::aL n X.env:=by rfl) (h2:(ce d (aL n X.env)).any (·.1)=aj:=by rfl)(Y:aK (.Call (.Attribute (.Name x p) m l) (e::n) [] d) X.env=(do
   let ov <-aK (.Name x p) X.env
   standAt l.atName
   let (f,first) <-pL [ov] (sF ov m pl)
   callWith d f first (ce d (aL (e::n) X.env)) (lO d (lP [] X.env))):=by rfl) :
  DR X E (.Call (.Attribute (.Name x p) m l) (e::n) [] d) (ng C m i g r):=λF S y w H Q G h=>by
 unfold ng at h;by_cases j:me y C m i=ai
 .rw[if_pos j]at h;obtain⟨f,fd,hm,Fn,hb⟩:=P.ex;obtain⟨a,dx,M,J,hH,hl⟩:=DC G j;refine bW (Hr (pl:=pl) (eC hN W hd bf) c hm Fn Z hb .nil T fU h1 h2 Y) ⟨.ref a,J,a,dx,M,rfl,hH,hl,ha F S y w H _ G ((Ok.bind h).imp λas K F1 S1 H1 O g1 q D av=>?_)⟩;rw[kB];have o:eK X.K w F1 H1 (.inr i::as) (.ref a::D):=⟨.ref a,D,rfl,J,av⟩
  exact yx (xU O o q) λv H' ⟨sl,L,F',S',Sr,r',g',N,I,hq⟩=>hq v Sr N λb z=>⟨kY g1 (I b z).1,(I b z).2⟩
 .rw[if_neg j]at h;exact h.elim
def cr(C:ac)(m:Str)(i:Nat)(g:ag->R Slot):ag->R Slot:=λε=>if me ε C m i then mi ε [.inr i] g else .no
theorem jN{pl:Sem Bool}(i:Nat)(c:Cls X.K C)(I:jz s X.prog X.w X.K X.mg X.base C m k A (bj X.K g))(M:Room k X.A)(J:iQ s X E)(Y:X.N[i]?=aa x:=by rfl) (K:dR X.env.scope x:=by eq_refl) (T:(x==("__debug__":Str))=aj:=by decide) (bf:(x==("__classdict__":Str))=aj:=by decide)(L:aK (.Call (.Attribute (.Name x p) m l) [] [] d) X.env=(do
   let ov <-aK (.Name x p) X.env
   standAt l.atName
   let (f,first) <-pL [ov] (sF ov m pl)
   callWith d f first (ce d (aL [] X.env)) (lO d (lP [] X.env))):=by rfl) :
  DR X E (.Call (.Attribute (.Name x p) m l) [] [] d) (cr C m i g):=λF S z w H Q o h=>by
 unfold cr at h;by_cases b:me z C m i=ai
 .rw[if_pos b]at h;obtain⟨f,fd,O,Fn,W⟩:=I.ex;obtain⟨a,dx,D,q,Z,P⟩:=DC o b;refine bW (Gu (pl:=pl) (eC Y K T bf) c O Fn M W .nil J L) ⟨.ref a,q,a,dx,D,rfl,Z,P,?_⟩;have j:eK X.K w F H [.inr i] [.ref a]:=⟨.ref a,[],rfl,q,rfl⟩
  exact yx (xU o j h) λv H' ⟨sl,y,F',S',Sr,r',g',G,fr,N⟩=>N v Sr G fr
 .rw[if_neg b]at h;exact h.elim
def li(C:ac)(u:ag->R Slot)(r:ag->R (List bK)):ag->R PO:=λε=>(r ε).bind λa ε1=>if bv a=[] then(match mi [.own (.ins C [])] (.inr 0::a) u with
 |.ok (.val .non) [.own b]=>.ok b ε1
 |.er c _=>.er c ε1
 |_=>.no)else .no
theorem G3(mk:zf s X.prog X.w X.K X.mg X.base C k A (bj X.K u))(hr:Room (k+1) X.A)(hx:iQ s X E)(hm:X.mg x=aa (.ref C))(ha:DG X E (e::n) r)(hg:Gl X x:=by rfl)(hd:(x==("__debug__":Str))=aj:=by decide) (h1:aL (e::n) X.env=(aj,aK e X.env)::aL n X.env:=by rfl) (h2:(ce d (aL n X.env)).any (·.1)=aj:=by rfl):DN X E (.Call (.Name x p) (e::n) [] d) (li C u r):=λF S ε σ H Q rl h=>by
 obtain⟨f,fd,M,Fn,hb⟩:=mk.ex;refine bW (JB M Fn hr hg hm hb .nil hx fU hd h1 h2) (ha F S ε σ H _ rl ((Ok.bind h).imp λas ε1 P S1 J N g1 q vs av a I G hdx bZ=>?_));rw[kB];by_cases ho:bv as=[]
 .rw[if_pos ho]at q;have al:Al P P J (L2.upd (L2.upd J I (.own a)) a (.ins C I [])):=(Al.new0 hdx).trans (Al.new0 (by rw[bF (eE bZ)];exact G));have nF:¬P a:=λz=>by obtain⟨o,q⟩:=N.ex a z;rw[G]at q;cases q
  have ow:dG X.K (L2.upd (L2.upd J I (.own a)) a (.ins C I [])) P (.ins C []) a (λb=>b=a):=⟨⟨I,[],cg,.nil⟩,λb=>p8⟩
  have rp:=aH.only (N.al al).ex ow λb z=>by subst z;exact⟨nF,_,cg,trivial⟩
  have av2:eK X.K [aa (.ref a)] P (L2.upd (L2.upd J I (.own a)) a (.ins C I [])) (.inr 0::as) (.ref a::vs):=⟨.ref a,vs,rfl,rfl,eK.bare ho (av.al al)⟩
  have hU:∀c,U (λj b=>j=0/\b=a) c->J c=ae:=λc ⟨j,_,z⟩=>by rw[z];exact G
  refine yx (xU (D:=λsl L T W K=>sl=.val .non/\Q (.ref a) K) rp av2 ?_) λv K ⟨sl,L,T,W,Sr,i,O,rs,fr,hs,hq⟩=>⟨by subst hs;exact rs.1,hq⟩
  split at q
  .rename_i po e0;rw[e0];intro T W K i O;obtain⟨a',ea',Z⟩:=i.own 0 _ rfl;cases ea';obtain⟨Y,g2⟩:=N.aside (al.grow.trans O) hU i.ex;refine⟨rfl,q T S1 K Y g2 a (W 0) Z λb z=>?_⟩;have hn:J b=ae:=by
    rcases O.onew b ⟨0,z⟩with w|w
    .exact hU b w
    .exact al.same.free w
   exact⟨kY g1 hn,(i.foot 0 b z).2.1,(λ⟨j,w⟩=>by obtain⟨_,_,o,w1,_⟩:=N.foot j b w;rw[hn]at w1;cases w1),(i.foot 0 b z).2.2⟩
  .rename_i c L e0;rw[e0];intro y T W K i O;obtain⟨Y,g2⟩:=N.aside (al.grow.trans O) hU i.ex;exact q y T S1 K Y g2
  .exact q.elim
 .rw[if_neg ho]at q;exact q.elim
end
def fJ(a:List Nat):Nat->ag->Bool
 |_,[]=>ai
 |i,.own _::b=>a.contains i&&fJ a (i+1) b
 |i,_::b=>fJ a (i+1) b
theorem oU{c:List Nat}:∀{b:ag}{k:Nat},fJ c k b=ai->∀(i:Nat) a,b[i]?=aa (.own a)->k+i∈c
 |[],_,_,i,a,e=>by simp at e
 |.own q::b,k,h,0,a,e=>by simp only[fJ,ef]at h;simpa using h.1
 |.own q::b,k,h,i+1,a,e=>by simp only[fJ,ef]at h;have:=oU (k:=k+1) h.2 i a (by simpa using e);rwa[sS,sT]at this
 |.val q::b,k,h,0,a,e=>by simp at e
 |.none::b,k,h,0,a,e=>by simp at e
 |.val q::b,k,h,i+1,a,e=>by have:=oU (k:=k+1) (by simpa[fJ]using h) i a (by simpa using e);rwa[sS,sT]at this
 |.none::b,k,h,i+1,a,e=>by have:=oU (k:=k+1) (by simpa[fJ]using h) i a (by simpa using e);rwa[sS,sT]at this
def lp:R Slot->R Slot
 |.ok (.val v) a=>.ok (.val v) a
 |.er c a=>.er c a
 |_=>.no
theorem AO{r:R Slot}(h:lp r≠.no):lp r=r:=by unfold lp at h ⊢;split <;> simp_all
def fA(len:Nat)(b:List Nat)(g:ag->R Slot):ag->R Slot:=λa=>if a.length=len/\fJ b 0 a=ai then lp (g a)else .no
section
variable{l:dQ}{P:aY}{w:aR}{K:ar}{j:Str->Option ah}{g:aC}{C:ac}{m x a:Str}{b:aU}{N c:List Str}{k n:Nat}{d:ag->R aE}{pin:List Nat}
theorem MO{f:ac}{u:gb}(M:ki K x a b f u)(L:bJ N c (aJ b))(D:N.length=c.length+n)(F:∀(kV v B:ah) (J:Option ac) (q I:ah) (r:List ah),r.length=c.length->dP (fG x a (fI b) (df b) (aJ b) .none kV v B J q I) ⟨r,[]⟩=pure (c.zip r))(G:∀(f:ac) (q:ah) (A:aX) (o:List Env) (s:am) (H:Hp) (E:XK),Room k (A.deeper (fD a (aJ b) s.heap.objs.size f q))->fj (eO l P w K j g N a (aJ b) f q A o s H E) E pin (df b) d):fO P w K j g l (k+1) f u c (bj K (fA c.length pin (a6 n d))):=by
 have no:∀{p},fA c.length pin (a6 n d) p≠.no->p.length=c.length/\fJ pin 0 p=ai:=λ{p} h=>by
  unfold fA at h;by_cases z:p.length=c.length/\fJ pin 0 p=ai
  .exact z
  .rw[if_neg z]at h;exact absurd rfl h
 refine wX M L D F (λp h=>(no h).1) (λp h i y e=>by have:=oU (no h).2 i y e;rwa[p9]at this) (λp O Q h=>.inl ?_) (λp h=>?_) λA o s H E=>G f u.code A o s H E
 .unfold fA at h;split at h
  .unfold lp at h;split at h
   .cases h;exact⟨_,rfl⟩
   .cases h
   .cases h
  .cases h
 .have z:=no h;unfold fA at h ⊢;rw[if_pos z]at h ⊢;exact(AO h).symm
theorem B9(D:gK K C m a b)(G:bJ N c (aJ b))(v:N.length=c.length+n)(q:∀(kV p u:ah) (F:Option ac) (i B:ah) (o:List ah),o.length=c.length->dP (fG m a (fI b) (df b) (aJ b) .none kV p u F i B) ⟨o,[]⟩=pure (c.zip o))(y:∀(f:ac) (i:ah) (A:aX) (h:List Env) (s:am) (H:Hp) (E:XK),Room k (A.deeper (fD a (aJ b) s.heap.objs.size f i))->fj (eO l P w K j g N a (aJ b) f i A h s H E) E pin (df b) d):jz l P w K j g C m (k+1) c (bj K (fA c.length pin (a6 n d))):=by obtain⟨f,z,M,r⟩:=D;exact⟨f,z,M,MO r G v q y,r.binds q⟩
end
section
variable{X:Cx}{E:XK}{a:List Nat}{pos:Pos}
def ko(i j:Nat)(d:ag->R aE):List PV->ag->R aE
 |[],c=>.ok .next c
 |x::xs,c=>match x with
  |.tup [u,v]=>match d ((c.set i (.val u)).set j (.val v))with
   |.ok .next b=>ko i j d xs b
   |.ok .cont b=>ko i j d xs b
   |.ok .brk b=>.ok .next b
   |r=>r
  |_=>.no
end
section
variable{n:dQ}{P:aY}{w:aR}{K:ar}{l:Str->Option ah}{j:aC}{C:ac}{m x d:Str}{i:aU}{N g:List Str}{k:Nat}{e:ay}{o:Pos}
def o4(len:Nat)(dn:ag->R PO):ag->R Slot:=λa=>if a.length=len then(dn a).bind λb c=>.ok (.own b) c else .no
theorem Fz{dn:ag->R PO}(D:gK K C m d i)(Sc:bJ N g (aJ i))(hn:N.length=g.length)(hb:∀(kV u L:ah) (W:Option ac) (v O:ah) (B:List ah),B.length=g.length->dP (fG m d (fI i) (df i) (aJ i) .none kV u L W v O) ⟨B,[]⟩=pure (g.zip B))(he:df i=[.Return (aa e) o])(lZ:∀(f:ac) (v:ah) (A:aX) (p:List Env) (s:am) (H:Hp) (E:XK),Room k (A.deeper (fD d (aJ i) s.heap.objs.size f v))->DN (eO n P w K l j N d (aJ i) f v A p s H E) E e dn):jz n P w K l j C m (k+1) g (bj K (o4 g.length dn)):=by
 obtain⟨f,fd,M,X⟩:=D;refine⟨f,fd,M,?_,X.binds hb⟩;have T:∀q,o4 g.length dn q≠.no->q.length=g.length:=λq h=>by
  unfold o4 at h;by_cases z:q.length=g.length
  .exact z
  .rw[if_neg z]at h;exact absurd rfl h
 obtain⟨oc,od,kV,u,L,W,v,O,osl,rfl,lk,bf⟩:=X.ex;refine wJ lk bf Sc (w_ T) λA p s H y Q E hr iI=>⟨_,lA,?_⟩
 obtain⟨F,S,q,J,ok⟩:=iI;have hl:=T q (pj ok);have h2:=J.len;rw[cf]at h2;have es:L2.start N y=y.map aa:=by unfold L2.start;rw[show N.length-y.length=0 by lia];simp
 rw[es,he];refine rT (xc oP) (eD (oN bx) (lZ _ _ A p s H E hr F S q _ H _ J ?_));unfold o4 at ok;rw[if_pos hl]at ok;cases I:dn q with
 |no=>rw[I]at ok;exact ok.elim
 |er c Y=>rw[I]at ok;exact λx F' S' H' r' g'=>ok x F' S' H' r' g'
 |ok po aI=>rw[I]at ok;intro F1 S1 H1 Z r a Sa ow G;exact ok _ F1 S1 H1 Sa Z ⟨r.fro,r.keep,r.there,r.fnew,λb z=>z.elim (r.onew b) λw=>.inr (G b w).1⟩ ⟨a,rfl,ow⟩ (λb z=>let ⟨_,x2,x3,x4⟩:=G b z;⟨x2,x3,x4⟩) λb z=>(G b z).1
end
section
variable{X:Cx}{E:XK}{pin:List Nat}{pos:Pos}{C:ac}{y:Str}
def mh(C:ac)(y:Str)(i d c:Nat)(f:ag->R aE):ag->R aE:=λb=>(aG (jv b C y i) b).bind λq b=>match ko d c f q.2 (b.set i .none)with
 |.ok .next a=>if i<a.length then .ok .next (a.set i (.own (.inl C q.1 y q.2)))else .no
 |_=>.no
theorem IX(i K J:Nat)(c:Cls X.K C)(n:gY X.K C y){x O N:Str}{p ap p1 p2 Y:Pos}{k:Nat}{G:List aU}{db:ag->R aE}(tI:v8 (az X.prog X.w) X.A X.env X.xe)(hc:X.calm=ai)(hN:X.N.Nodup)(hb:fj X E (i::pin) G db)(hp:K∉i::pin:=by decide) (gg:J∉i::pin:=by decide) (hNi:X.N[i]?=aa x:=by rfl) (hv:dR X.env.scope x:=by eq_refl)(hd:(x==("__debug__":Str))=aj:=by decide) (bf:(x==("__classdict__":Str))=aj:=by decide) (hat:g7 (.Name x p) y X.env (aK (.Name x p) X.env)=aK (.Name x p) X.env:=by rfl)(hx:X.N[K]?=aa O:=by rfl) (hy:X.N[J]?=aa N:=by rfl) (hl:Loc X.env.scope O:=by first|exact Or.inl rfl|exact Or.inr rfl) (i_:Loc X.env.scope N:=by first|exact Or.inl rfl|exact Or.inr rfl)(tG:∀u,mE (.Attribute (.Name x p) y ap) X.env u=pure u:=by intro _;rfl)(hf:X.fn O=ai\/X.env.scope.names.lookup O=aa .local:=by first|exact .inl rfl|exact .inr rfl) (qo:X.fn N=ai\/X.env.scope.names.lookup N=aa .local:=by first|exact .inl rfl|exact .inr rfl):DS X E pin (.For (.Tuple [.Name O p1,.Name N p2] k Y) (.Attribute (.Name x p) y ap) G [] pos) (mh C y i K J db):=λF S ε σ H D rl h=>by
 unfold mh at h;cases e0:jv ε C y i with
 |none=>rw[e0]at h;exact h.elim
 |some T=>
  rw[e0]at h;simp only[cW,R.bind_ok]at h;split at h;rotate_left
  .exact h.elim
  rename_i εe Og;split at h;rotate_left
  .exact h.elim
  rename_i hie;obtain⟨a,ea,dx,ws,b,vs,ha,jr,hno,hB,rs,ie,hS⟩:=rl.own i _ (uY e0);have qw:S i a:=(hS a).mpr (.inl rfl);have hSb:S i b:=(hS b).mpr (.inr rfl);have tP:∀c,c=a\/c=b->¬U (λk b=>S k b/\k≠i) c:=λc hc ⟨k,O,N⟩=>N (rl.dist k i c O ((hS c).mpr hc));have hF0:∀c,c=a\/c=b->¬F c:=λc hc=>(rl.foot i c ((hS c).mpr hc)).2.1;have r0:aH X.K F (λk b=>S k b/\k≠i) (ε.set i .none) σ H:=rl.drop i;have hlk:(ws++[(y,V.ref b)]).lookup y=aa (.ref b):=xf (gs.miss jr hno);have fin:∀r B d l,aH X.K r B εe d l->a5 (U λk b=>S k b/\k≠i) (U B) F r H l->gJ (i::pin) σ d->D.nx d l:=by
   intro r B d l r' j Z;have qu:l a=aa (.ins C dx (ws++[(y,.ref b)])):=j.keep a _ ha (tP a (.inl rfl));have hB':l b=aa (.lst vs):=j.keep b _ hB (tP b (.inr rfl));obtain⟨_,nFa,nSa⟩:=j.stay ha (tP a (.inl rfl)) (hF0 a (.inl rfl));obtain⟨_,nFb,nSb⟩:=j.stay hB (tP b (.inr rfl)) (hF0 b (.inr rfl));have r4:=r'.putOwn (po:=.inl C T.1 y T.2) (Sa:=λc=>c=a\/c=b) hie (by rw[Z i (by simp)];exact ea) ⟨dx,ws,b,vs,qu,jr.mono (λ_ _ z=>z.grow j r0.fit),hno,hB',rs.grow j r0.fit,ie,λ_=>p8⟩ λc z=>by
    rcases z with rfl|rfl
    .exact⟨nFa,nSa,_,qu,trivial⟩
    .exact⟨nFb,nSb,_,hB',trivial⟩
   refine h r _ d _ r4 ⟨j.fro,λc o' e n=>j.keep c o' e λ⟨k,z⟩=>n ⟨k,z.1⟩,j.there,λc z=>?_,λc ⟨k,z⟩=>?_⟩ λk hk=>Z k (by simp[hk])
   .rcases j.fnew c z with w|w|⟨k,w⟩
    .exact .inl w
    .exact .inr (.inl w)
    .exact .inr (.inr ⟨k,w.1⟩)
   .rcases z with z|⟨_,z⟩
    .rcases j.onew c ⟨k,z.1⟩with⟨k',w⟩|w
     .exact .inl ⟨k',w.1⟩
     .exact .inr w
    .exact .inl ⟨i,(hS c).mpr z⟩
  refine eD (Cd tI hc vY (Da hc (vS (pI hN hx hl hf) (vS (pI hN hy i_ qo) C8))) lA tG) (Bx.mk λaf s I=>?_);have w:=bW (X:=X) (vd (f:=y) (pos:=ap) (eC hNi hv hd bf) hat) (σ:=σ) (H:=H) (Q:=λv H1=>v=.ref b/\H1=H) ⟨.ref a,ea,a,C,dx,_,.ref b,rfl,ha,c,n,hlk,rfl,rfl⟩;refine aT (w.run af s I) λv s1 ⟨x',H1,I1,rx,ex,eH⟩=>?_;subst ex eH;obtain rfl:v=Value.ref b:=rx;obtain⟨its,rr,pp,hz⟩:=I1.list (b_.of hB);refine pW pp.isList ?_;refine⟨s1.heap.objs.size,[s1.heap.objs.size],_,_,H1,rfl,I1.kept (t':=s1.toks) λb o e=>bi _ e,Cm b _,⟨_,cm _ rfl,rfl,rfl⟩,λc tQ=>?_,?_⟩
  .have e:c=s1.heap.objs.size:=by simpa using tQ
   subst e;exact I1.fpOk (bd _) (I1.hok.fresh (bd _))
  refine C6 (Cz (xs:=vs)) (λm d l=>∃r B A,aH X.K r B A d l/\a5 (U λk b=>S k b/\k≠i) (U B) F r H1 l/\gJ (i::pin) σ d/\ko K J db (T.2.drop m) A=.ok .next εe) ⟨F,_,_,r0,a5.refl ..,gJ.refl _ _,Og⟩ (λm d l _ ⟨r,B,A,_,g,_⟩=>b_.of (g.keep b _ hB (tP b (.inr rfl)))) ?_ ?_
  .rintro m v d l hv' ⟨r,B,A,r',j,Z,q⟩;obtain⟨xv,hxv,rxv⟩:=rs.back hv';have hk:m<T.2.length:=(cq.mp hxv).1;have ed:T.2.drop m=xv::T.2.drop (m+1):=by rw[zO hk];congr 1;exact(cq.mp hxv).2
   rw[ed]at q;have rx':=rxv.grow j r0.fit;unfold ko at q;split at q
   .rename_i u w';obtain⟨pp',us,rfl,j4,ru⟩:=rx';obtain⟨va,ra,rfl,r2,vb,rb,rfl,P,rfl⟩:=ru;have r5:=(r'.set (i:=K) r2).set (i:=J) P;have gl:a5 (U B) (U λj' b=>(B j' b/\j'≠K)/\j'≠J) r r l l:=(a5.less K).trans (a5.less J);refine⟨pp',_,rfl,cM.of j4,rfl,va,_,rfl,vb,_,rfl,rfl,?_⟩;show ny X G _ ((d.set K (aa va)).set J (aa vb)) l;refine hb r _ _ _ l _ r5 ?_;have W:=(Z.trans (gJ.set (x:=aa va) hp)).trans (gJ.set (x:=aa vb) gg);cases e:db ((A.set K (.val u)).set J (.val w'))with
    |no=>rw[e]at q;cases q
    |er c M=>rw[e]at q;cases q
    |ok f M=>
     rw[e]at q;cases f with
     |next=>exact λF3 S3 L H3 P g3 Y=>⟨F3,S3,M,P,(j.trans gl).trans g3,W.trans Y,q⟩
     |cont=>exact λF3 S3 L H3 P g3 Y=>⟨F3,S3,M,P,(j.trans gl).trans g3,W.trans Y,q⟩
     |brk=>
      cases q;exact λF3 S3 L H3 P g3 Y=>fin F3 S3 L H3 P ((j.trans gl).trans g3) (W.trans Y)
     |ret s=>cases q
   .cases q
  .rintro d l ⟨r,B,A,r',j,Z,q⟩;have hl:vs.length=T.2.length:=rs.len;rw[hl,zP]at q;cases q;exact fin r B d l r' j Z
end
def mn(len n:Nat)(f:List Nat)(d1 d2:ag->R aE)(dn:ag->R PO):ag->R Slot:=λa=>if a.length=len/\fJ f 0 a=ai then
 match d1 (a++cY n .none)with
 |.ok .next d=>match d2 d with
  |.ok .next c=>match dn c with
   |.ok g b=>(aG (back a b) []).bind λh _=>.ok (.own g) h
   |_=>.no
  |_=>.no
 |_=>.no else .no
section
variable{u:dQ}{P:aY}{w:aR}{K:ar}{r:Str->Option ah}{j:aC}{C:ac}{m d:Str}{l x v:aU}{N p:List Str}{k n:Nat}{pin:List Nat}{e:ay}{y:Pos}{d1 d2:ag->R aE}{dn:ag->R PO}
theorem GD(D:gK K C m d l)(Sc:bJ N p (aJ l))(hn:N.length=p.length+n)(hb:∀(kV O pm:ah) (an:Option ac) (I ct:ah) (Z:List ah),Z.length=p.length->dP (fG m d (fI l) (df l) (aJ l) .none kV O pm an I ct) ⟨Z,[]⟩=pure (p.zip Z))(he:df l=[x,v,.Return (aa e) y])(h1:∀(f:ac) (I:ah) (A:aX) (B:List Env) (s:am) (H:Hp) (E:XK),Room k (A.deeper (fD d (aJ l) s.heap.objs.size f I))->DS (eO u P w K r j N d (aJ l) f I A B s H E) E pin x d1)(h2:∀(f:ac) (I:ah) (A:aX) (B:List Env) (s:am) (H:Hp) (E:XK),Room k (A.deeper (fD d (aJ l) s.heap.objs.size f I))->DS (eO u P w K r j N d (aJ l) f I A B s H E) E pin v d2)(lZ:∀(f:ac) (I:ah) (A:aX) (B:List Env) (s:am) (H:Hp) (E:XK),Room k (A.deeper (fD d (aJ l) s.heap.objs.size f I))->DN (eO u P w K r j N d (aJ l) f I A B s H E) E e dn):jz u P w K r j C m (k+1) p (bj K (mn p.length n pin d1 d2 dn)):=by
 obtain⟨f,fd,M,Fn⟩:=D;refine⟨f,fd,M,?_,Fn.binds hb⟩;have tR:∀G,mn p.length n pin d1 d2 dn G≠.no->G.length=p.length/\fJ pin 0 G=ai:=λG h=>by
  unfold mn at h;by_cases z:G.length=p.length/\fJ pin 0 G=ai
  .exact z
  .rw[if_neg z]at h;exact absurd rfl h
 have bB:∀G,mn p.length n pin d1 d2 dn G≠.no->G.length=p.length:=λG h=>(tR G h).1;obtain⟨oc,od,kV,O,pm,an,I,ct,osl,rfl,lk,bf⟩:=Fn.ex;refine wJ lk bf Sc (w_ bB) λA B s H Y Q E hr iI=>⟨_,lA,?_⟩
 obtain⟨F,S,G,rl,ok⟩:=iI;obtain⟨hl,L⟩:=tR G (pj ok);have gf:∀(i:Nat) T,G[i]?=aa (.own T)->i∈pin:=λi T e=>by have:=oU L i T e;rwa[p9]at this
 have hvl:=rl.len;rw[cf]at hvl;have es:L2.start N Y=Y.map aa++cY n ae:=by unfold L2.start;rw[show N.length-Y.length=n by lia]
 unfold mn at ok;rw[if_pos ⟨hl,L⟩]at ok;rw[es,he];refine rT (wN oP (wN oP (xc oP))) ?_;refine h1 _ _ A B s H E hr F S _ _ H _ (rl.start n) ?_;generalize e1:d1 (G++cY n .none)=q1 at ok;cases q1 with
 |no=>exact ok.elim
 |er c ε=>exact ok.elim
 |ok f1 X=>
  cases f1 with
  |brk=>exact ok.elim
  |cont=>exact ok.elim
  |ret _=>exact ok.elim
  |next=>
   intro F1 S1 σ1 H1 r1 g1 p1;refine h2 _ _ A B s H E hr F1 S1 _ _ H1 _ r1 ?_;dsimp only at ok;generalize e2:d2 X=q2 at ok;cases q2 with
   |no=>exact ok.elim
   |er c ε=>exact ok.elim
   |ok f2 J=>
    cases f2 with
    |brk=>exact ok.elim
    |cont=>exact ok.elim
    |ret _=>exact ok.elim
    |next=>
     intro F2 S2 σ2 H2 r2 g2 p2;refine eD (oN bx) (lZ _ _ A B s H E hr F2 S2 J _ H2 _ r2 ?_);dsimp only at ok;generalize e3:dn J=q3 at ok;cases q3 with
     |no=>exact ok.elim
     |er c ε=>exact ok.elim
     |ok T W=>
      dsimp only at ok;cases e4:back G W with
      |none=>rw[e4]at ok;exact ok.elim
      |some aI=>
       rw[e4]at ok;intro F3 S3 H3 r3 g3 a Sa ow fr;have g:=(g1.trans g2).trans g3;obtain⟨S'',r'',sub,_⟩:=rl.back r3 g (p1.trans p2) gf e4;have nw:∀b,Sa b->H b=ae:=λb z=>by
        cases q:H b with
        |none=>rfl
        |some o=>
         obtain⟨o',q'⟩:=(g1.trans g2).there b o q;rw[(fr b z).1]at q';cases q'
       refine ok _ F3 S'' H3 Sa r'' ⟨g.fro,g.keep,g.there,g.fnew,λb z=>z.elim (λw=>g.onew b (sub b w)) λw=>.inr (nw b w)⟩ ⟨a,rfl,ow⟩ (λb z=>let ⟨_,x2,x3,x4⟩:=fr b z;⟨x2,λw=>x3 (sub b w),x4⟩) nw
end
end Pu
local macro_rules | `(⇑$x) => `(.val (.int $x))
local macro_rules | `(↥$x) => `(.val (.str $x))
namespace Sh
open L2 Pu
set_option genInjectivity false in
structure Ad where
 SlitError:ac
 NoText:ac
 NoWidth:ac
 NoView:ac
 NoWindow:ac
 Never:ac
 Full:ac
 Nothing:ac
 Unlike:ac
 NoPlace:ac
 NoLetters:ac
 BadText:ac
 Seeker:ac
 Slit:ac
def yao(a:Ad):ag->R aE:=bD (dL pb (aq (dF (cj [1] (bI (dV 0)) (cb) (d2 (oH aj) (dV 0) (dV 1)))) (aA)))
def vN(a:Ad):ag->R Slot:=bz 2 [] (a6 0 (yao a))
def yar(a:Ad):ag->R aE:=bD (oC (dL iy (aq (dV 0) (aq (dC (.raw (.ty "int"))) (aA)))) (Dv (dL iy (aq (dV 0) (aq (dC (.raw (.ty "bool"))) (aA))))))
def oB(a:Ad):ag->R Slot:=bz 1 [] (a6 0 (yar a))
def yas(a:Ad):ag->R aE:=bD (oC (ax (aD (oB a) (gV (dV 0) (bE)))) (lg (bR λi j=>decide (i<=j)) (bR λi j=>decide (i<=j)) (dC (.int 1)) (dV 0) (dC (.int 4))))
def pD(a:Ad):ag->R Slot:=bz 1 [] (a6 0 (yas a))
def yat(a:Ad):ag->R aE:=bD (oC (dL iy (aq (dV 0) (aq (dC (.raw (.ty "str"))) (aA)))) (oC (d2 (eqT aj) (dL aV (aq (dV 0) (aA))) (dV 1)) (ax (aD (vN a) (gV (dV 0) (gV (dV 2) (bE)))))))
def nO(a:Ad):ag->R Slot:=bz 3 [] (a6 0 (yat a))
def yaj(a:Ad):ag->R aE:=aF (ca (j_ (iK (dB (dL iy (aq (dV 0) (aq (dC (.raw (.ty "tuple"))) (aA)))))) (iK (dB (lg (bR λi j=>decide (i<=j)) (bR λi j=>decide (i<=j)) (dC (.int 1)) (dL aV (aq (dV 0) (aA))) (dC (.int 9)))))) (bD (dC (.bl aj))) (cL))
 (aF (ca (iK (dB (dL pb (aq (dF (cj [1,2] (bI (dV 0)) (cb) (ax (aD (nO a) (gV (dV 0) (gV (dV 1) (gV (dV 2) (bE)))))))) (aA))))) (bD (dC (.bl aj))) (cL))
 (bD (d2 (eqT aj) (dF (dL jE (aq (dV 0) (aA)))) (dF (dL o9 (aq (dV 0) (aA)))))))
def ml(a:Ad):ag->R Slot:=bz 3 [] (a6 0 (yaj a))
def yaq(a:Ad):ag->R aE:=aF (ca (j_ (iK (dB (dL iy (aq (dV 0) (aq (dC (.raw (.ty "tuple"))) (aA)))))) (dB (d2 (eqT ai) (dL aV (aq (dV 0) (aA))) (dC (.int 2))))) (bD (dC (.bl aj))) (cL))
 (bD (oC (ax (aD (pD a) (gV (d2 bN (dV 0) (dC (.int 0))) (bE)))) (ax (aD (ml a) (gV (d2 bN (dV 0) (dC (.int 1))) (gV (d2 bN (dV 0) (dC (.int 0))) (gV (dV 1) (bE))))))))
def o6(a:Ad):ag->R Slot:=bz 2 [] (a6 0 (yaq a))
def yap(a:Ad):ag->R aE:=oF (aD (o6 a) (gV (dV 0) (gV (dC (.str [97,98,99])) (bE))))
def ve(a:Ad):ag->R Slot:=bz 1 [] (a6 0 (yap a))
def yam(a:Ad):ag->R aE:=ca (iK (dB (ax (aD (ve a) (gV (dV 0) (bE)))))) (kX (.ref a.NoView) (λb=>bp ((dC (.str [97,32,118,105,101,119,32,105,115,32,97,32,116,117,112,108,101,32,111,102,32,97,32,119,105,100,116,104,32,97,110,100,32,97,32,114,105,115,105,110,103,32,116,117,112,108,101,32,111,102,32,49,32,116,111,32,57,32,119,105,110,100,111,119,115])) b))) (cL)
def uJ(a:Ad):ag->R Slot:=bz 1 [] (a6 0 (yam a))
def yan(a:Ad):ag->R aE:=aF (ir 1 (xN))
 (aF (λb=>cU (eN 2 (bI (dV 0)) (kP 1 (dV 2) (d2 a9 (lC 1 (dV 2) (dC (.int 0))) (dC (.int 1)))) b))
 (pd 1))
def sq(a:Ad):ag->R Slot:=bz 1 [] (a6 2 (yan a))
def yah(a:Ad)(c:ag->R Slot):ag->R aE:=aF (ca (iK (dB (rq 2))) (aF (uS 3 (dV 0)) (D5 (.ret (.val .non)))) (cL))
 (aF (aZ 4 (c7 cy (dV 0) (cz (d2 a9 (d2 ga (dL aV (aq (dV 0) (aA))) (dV 1)) (dC (.int 1)))) (eA)))
 (λb=>cU (eN 5 (bI (dC (.str [97,98,99]))) (aF (aZ 6 (d2 a9 (dV 4) (dV 5)))
 (ca (dB (d2 (bR λi j=>decide (j<i)) (lC 2 (dV 6) (dC (.int 0))) (dC (.int 0)))) (aF (kP 2 (dV 6) (d2 ga (lE 2 (dV 6)) (dC (.int 1))))
 (aF (gX (aD (c) (gV (d2 a9 (dV 0) (dV 5)) (gV (dV 1) (gO 2 (gO 3 (bE)))))))
 (kP 2 (dV 6) (d2 a9 (lE 2 (dV 6)) (dC (.int 1)))))) (cL))) b)))
def my(a:Ad):Nat->ag->R Slot
 |0=>bz 4 [2,3] (a6 3 xR)
 |k+1=>bz 4 [2,3] (a6 3 (yah a (my a k)))
def yaI(a:Ad):ag->R aE:=aF (gX (aD (uJ a) (gV (dV 0) (bE))))
 (aF (aZ 1 (d2 bN (dV 0) (dC (.int 0))))
 (aF (ir 2 (dL eB (aA)))
 (aF (λb=>cU (eN 3 (bI (dF (dL rF (aq (dF (cj [] (bI (d2 bN (dV 0) (dC (.int 1)))) (cb) (c7 cy (dV 0) (eA) (cz (d1 jx (dC (.int 1))))))) (aA))))) (gX (kR (my a 12) (lm (dV 3) (lm (dV 1) (gN (rD (aD (sq a) (gV (d2 bN (dV 0) (dC (.int 1))) (bE)))) (gO 2 (bE))))))) b))
 (pd 2))))
def vC(a:Ad):ag->R Slot:=bz 1 [] (a6 3 (yaI a))
def yaw(a:Ad):ag->R aE:=aF (ca (dB (d2 (bR λi j=>decide (i<j)) (dV 1) (dL aV (aq (dV 0) (aA))))) (bD (d2 bN (dV 0) (dV 1))) (cL))
 (aF (ca (dB (d2 (eqT aj) (dV 0) (dF (dL eB (aA))))) (bD (dC (.int 0))) (cL))
 (bD (d2 a9 (d2 jK (d2 bN (dV 0) (d2 fZ (dV 1) (dL aV (aq (dV 0) (aA))))) (dC (.int 31))) (dV 1))))
def oZ(a:Ad):ag->R Slot:=bz 2 [] (a6 0 (yaw a))
def yaA(a:Ad):ag->R aE:=aF (aZ 3 (d2 fZ (d2 a9 (d2 a9 (d2 jK (ax (aD (oZ a) (gV (dV 0) (gV (dV 1) (bE))))) (dC (.int 1103515245))) (d2 jK (dC (.int 7919)) (dV 1))) (dC (.int 12345))) (dC (.int 2147483647))))
 (bD (d2 fZ (d2 fZ (d2 fZ (d2 ri (dV 3) (dC (.int 5))) (dC (.int 2147483647))) (dC (.int 999983))) (dV 2)))
def vL(a:Ad):ag->R Slot:=bz 3 [] (a6 1 (yaA a))
def yax(a:Ad):ag->R aE:=aF (uS 1 (dC (.int 0)))
 (oF (aD (vL a) (gV (dV 0) (gV (vk (λb=>qX (aV b)) 1) (gV (dV 2) (bE))))))
def kq(a:Ad):ag->R Slot:=bz 3 [1] (a6 0 (yax a))
def yaB(a:Ad):ag->R aE:=bD (d2 bN (dV 2) (ax (aD (kq a) (gV (dV 0) (gO 1 (gV (dL aV (aq (dV 2) (aA))) (bE)))))))
def jy(a:Ad):ag->R Slot:=bz 3 [1] (a6 0 (yaB a))
def yaD(a:Ad):ag->R aE:=aF (aZ 4 (ax (aD (jy a) (gV (dV 0) (gO 1 (gV (dF (dL eB (aq (dC (.int 1)) (aq (dC (.int 2)) (aq (dC (.int 2)) (aq (dC (.int 3)) (aq (dC (.int 3)) (aq (dC (.int 3)) (aA))))))))) (bE)))))))
 (aF (aZ 5 (dC (.str [])))
 (aF (λb=>cU (eN 6 (dL jD (aq (d2 a9 (dV 2) (ax (aD (kq a) (gV (dV 0) (gO 1 (gV (d2 a9 (d2 ga (dV 3) (dV 2)) (dC (.int 1))) (bE))))))) (aA))) (aZ 5 (d2 a9 (dV 5) (d2 bN (dC (.str [97,98,99])) (ax (aD (kq a) (gV (dV 0) (gO 1 (gV (dV 4) (bE))))))))) b))
 (bD (dV 5))))
def l7(a:Ad):ag->R Slot:=bz 4 [1] (a6 3 (yaD a))
def yaC(a:Ad):ag->R aE:=bD (dL iP (aq (dF (dL o9 (aq (dF (cj [0,1] (dL jD (aq (dL aV (aq (dV 0) (aA))) (aA))) (dB (d2 (bR λi j=>decide (i<=j)) (d2 a9 (dV 0) (dV 2)) (dL aV (aq (dV 1) (aA))))) (c7 cy (dV 1) (cz (dV 0)) (cz (d2 a9 (dV 0) (dV 2)))))) (aA)))) (aA)))
def gP(a:Ad):ag->R Slot:=bz 2 [] (a6 0 (yaC a))
def yaE(a:Ad):ag->R aE:=aF (aZ 3 (ax (aD (gP a) (gV (dV 0) (gV (dV 1) (bE))))))
 (bD (dL pb (aq (dF (cj [3,2] (bI (dV 3)) (cb) (d2 (bR λi j=>decide (i<=j)) (oM nt (dV 1) (dV 0)) (oM nt (dV 2) (dV 0))))) (aA))))
def mv(a:Ad):ag->R Slot:=bz 3 [] (a6 1 (yaE a))
def yav(a:Ad):ag->R aE:=aF (jF 1 2 (dV 0))
 (aF (aZ 3 (dF (dL eB (aq (dC (.str [])) (aA)))))
 (aF (λε=>cU (eN 4 (dL jD (aq (d2 ga (d2 a9 (dL aV (aq (dV 2) (aA))) (dV 1)) (dC (.int 1))) (aA))) (aF (ir 5 (dL eB (aA)))
 (aF (eN 6 (bI (dV 3)) (nG 5 (dF (cj [6,1,2] (bI (dC (.str [97,98,99]))) (dB (ax (aD (mv a) (gV (d2 a9 (dV 1) (dV 0)) (gV (dV 2) (gV (dV 3) (bE))))))) (d2 a9 (dV 1) (dV 0))))))
 (aZ 3 (dM 5)))) ε))
 (l6 (cj [1,2] (bI (dV 3)) (dB (d2 (eqT aj) (ax (aD (gP a) (gV (dV 0) (gV (dV 1) (bE))))) (dV 2))) (dV 0)))))
def k9(a:Ad):ag->R Slot:=bz 1 [] (a6 6 (yav a))
def yaz(a:Ad):ag->R aE:=aF (aZ 4 (d2 a9 (dC (.int 1)) (ax (aD (jy a) (gV (dV 0) (gO 1 (gV (dF (dL eB (aq (dC (.int 1)) (aq (dC (.int 1)) (aq (dC (.int 2)) (aq (dC (.int 2)) (aq (dC (.int 3)) (aA)))))))) (bE))))))))
 (aF (aZ 5 (ax (aD (l7 a) (gV (dV 0) (gO 1 (gV (dV 2) (gV (dC (.int 4)) (bE))))))))
 (aF (λb=>cU (dj (dB (d2 (bR λi j=>decide (i<j)) (dL aV (aq (dV 5) (aA))) (d2 ga (dV 3) (dC (.int 2))))) (aZ 5 (d2 a9 (dV 5) (ax (aD (jy a) (gV (dV 0) (gO 1 (gV (dF (dL eB (aq (c7 cy (dV 5) (eA) (cz (dC (.int 2)))) (aq (c7 cy (dV 5) (eA) (cz (dC (.int 3)))) (aq (c7 cy (dV 5) (cz (dC (.int 1))) (cz (dC (.int 3)))) (aq (dC (.str [97])) (aq (dC (.str [98])) (aq (c7 cy (dV 5) (cz (d1 jx (dC (.int 2)))) (eA)) (aA))))))))) (bE)))))))) 1000 b))
 (bD (dL dU (aq (c7 cy (dV 5) (eA) (cz (dL nL (aq (dV 4) (aq (d2 ga (dV 3) (ax (aD (kq a) (gV (dV 0) (gO 1 (gV (dC (.int 3)) (bE))))))) (aA)))))) (aq (dV 4) (aA)))))))
def kU(a:Ad):ag->R Slot:=bz 4 [1] (a6 2 (yaz a))
def yaJ(a:Ad):ag->R aE:=bD (dL iP (aq (dF (cj [1,2] (bI (dV 0)) (dB (d2 (eqT aj) (d2 bN (dV 0) (dV 1)) (dV 2))) (dV 0))) (aA)))
def gM(a:Ad):ag->R Slot:=bz 3 [] (a6 0 (yaJ a))
def yai(a:Ad):ag->R aE:=l6 (cj [0,1] (bI (dC (.str [97,98,99]))) (dB (d2 (bR λi j=>decide (j<i)) (dL aV (aq (ax (aD (gM a) (gV (dV 1) (gV (dV 2) (gV (dV 0) (bE)))))) (aA))) (dC (.int 0)))) (dV 0))
def jI(a:Ad):ag->R Slot:=bz 2 [] (a6 0 (yai a))
def yaH(a:Ad):ag->R aE:=l6 (cj [0] (dL jD (aq (dL aV (aq (d2 bN (dV 0) (dC (.int 0))) (aA))) (aA))) (dB (d2 (bR λi j=>decide (j<i)) (dL aV (aq (ax (aD (jI a) (gV (dV 1) (gV (dV 0) (bE))))) (aA))) (dC (.int 1)))) (dV 0))
def jk(a:Ad):ag->R Slot:=bz 1 [] (a6 0 (yaH a))
def yaF(a:Ad)(b:ag->R Slot):ag->R aE:=aF (aZ 3 (dF (cj [1,0] (bI (ax (aD (jI a) (gV (dV 1) (gV (dV 0) (bE)))))) (cb) (ax (aD (gM a) (gV (dV 1) (gV (dV 2) (gV (dV 0) (bE)))))))))
 (bD (d2 a9 (dC (.int 1)) (dL rM (aq (dF (cj [2] (bI (dV 3)) (cb) (ax (aD (b) (gV (dV 0) (gO 1 (bE))))))) (aA)))))
def jc(a:Ad)(rc:ag->R Slot):ag->R Slot:=bz 3 [2] (a6 1 (yaF a rc))
def yaG(a:Ad)(rc:ag->R Slot):ag->R aE:=aF (ca (dB (d2 (eqT aj) (dL aV (aq (dV 0) (aA))) (dC (.int 1)))) (bD (dC (.int 0))) (cL))
 (aF (ca (dB (ln ai 1 (dV 0))) (q8 1 (dV 0) (dL pE (aq (dF (cj [0,1] (bI (ax (aD (jk a) (gV (dV 0) (bE))))) (cb) (ax (aD (jc a rc) (gV (dV 0) (gV (dV 1) (gO 2 (bE)))))))) (aA)))) (cL))
 (bD (pK 1 (dV 0))))
def fz(a:Ad):Nat->ag->R Slot
 |0=>bz 2 [1] (a6 0 xR)
 |k+1=>bz 2 [1] (a6 0 (yaG a (fz a k)))
def yay(a:Ad):ag->R aE:=aF (jF 2 3 (ax (aD (kU a) (gV (dV 0) (gO 1 (gV (dC (.int 2)) (gV (dC (.int 8)) (bE))))))))
 (aF (aZ 4 (dL dU (aq (dV 3) (aq (ax (aD (gP a) (gV (dV 2) (gV (dV 3) (bE))))) (aA)))))
 (aF (aZ 5 (ax (aD (k9 a) (gV (dV 4) (bE)))))
 (aF (λb=>cU (dj (dB (d2 (bR λi j=>decide (j<i)) (dL aV (aq (dV 5) (aA))) (dC (.int 16)))) (aF (aZ 4 (ca (dB (d2 (bR λi j=>decide (i<j)) (dV 3) (dC (.int 4)))) (dL dU (aq (d2 a9 (dV 3) (dC (.int 1))) (aq (ax (aD (gP a) (gV (dV 2) (gV (d2 a9 (dV 3) (dC (.int 1))) (bE))))) (aA)))) (dL dU (aq (dC (.int 1)) (aq (dL dU (aq (dC (.str [97])) (aA))) (aA))))))
 (aF (aZ 3 (d2 bN (dV 4) (dC (.int 0))))
 (aZ 5 (ax (aD (k9 a) (gV (dV 4) (bE))))))) 1000 b))
 (bD (dL dU (aq (dV 4) (aq (dV 5) (aA))))))))
def rj(a:Ad):ag->R Slot:=bz 2 [1] (a6 4 (yay a))
def yal(a:Ad):ag->R aE:=ca (j_ (iK (dB (ax (aD (oB a) (gV (dV 0) (bE)))))) (iK (dB (lg (bR λi j=>decide (i<=j)) (bR λi j=>decide (i<j)) (dC (.int 0)) (dV 0) (dV 1))))) (kX (.ref a.NoPlace) (λb=>bp ((dC (.str [97,32,112,108,97,99,101,32,105,115,32,97,32,119,104,111,108,101,32,110,117,109,98,101,114,32,102,114,111,109,32,48,32,111,110,44,32,108,101,115,115,32,116,104,97,110,32,116,104,101,32,116,101,120,116,32,104,97,115,32,108,101,116,116,101,114,115])) b))) (cL)
def qQ(a:Ad):ag->R Slot:=bz 2 [] (a6 0 (yal a))
def yak(a:Ad):ag->R aE:=ca (iK (dB (ax (aD (nO a) (gV (dV 0) (gV (dC (.int 1)) (gV (dC (.str [97,98,99])) (bE)))))))) (kX (.ref a.NoLetters) (λb=>bp ((dC (.str [97,32,108,101,116,116,101,114,32,105,115,32,97,44,32,98,32,111,114,32,99])) b))) (cL)
def rQ(a:Ad):ag->R Slot:=bz 1 [] (a6 0 (yak a))
end Sh
namespace L2
open Mx SeqAt
section
variable{P:aY}{w:aR}{A:aX}{E:ah->am->Prop}{s:am}{q l I S:ac}{n:Nat}{a:Nat->ah->Prop}{kf:Nat->Int}{R:Result->am->Prop}{Q:ah->am->Prop}{J:Nat->am->Prop}
def Aq(P:aY)(w:aR)(A:aX)(q I S:ac)(a:Nat->ah->Prop)(kf:Nat->Int)(J:Nat->am->Prop):Prop:=∀(i:Nat) (v:ah) (s:am) (d c:Obj),a i v->J i s->s.heap.get? I=aa d->s.heap.get? S=aa c->(∀z,d.data≠.cell z)->(∀z,c.data≠.cell z) ->
 aw (az P w) A.in1 (call (.ref q) [v]) (λu b=>(∃t,u=.int (kf i) t)/\J (i+1) b/\b.heap.get? I=aa d/\b.heap.get? S=aa c) (λ_ _=>False) s
def q_(f:ac)(J:Nat->am->Prop):Prop:=∀(i:Nat) (s:am) (c:aC) (d:Nat),J i s->(∀b o,b≠f->s.heap.get? b=aa o->c.get? b=aa o)->J i {s with heap:=c,toks:=d}
structure G5(J:Nat->am->Prop)(l I S:ac)(a:Nat->ah->Prop)(kf:Nat->Int)(j i:Nat)(s:am):Prop where
 inv:J (j+1) s
 it:s.heap.IsListIter I l (j+1)
 st:∃vb t c,s.heap.get? S=aa (jW "list" #[vb,.int (kf i) t] c)/\a i vb
 ij:i<=j
 best:∀j',j'<=j->kf i<=kf j'/\(j'<i->kf i<kf j')
def uI(l:ac)(n:Nat)(a:Nat->ah->Prop)(s:am):Prop:=∃b:List ah,b.length=n/\s.heap.IsList l b.toArray/\∀(i:Nat) v,b[i]?=aa v->a i v
theorem Fe(hh:A.handled=ae)(tT:l≠I)(O:S≠I)(hl:∀i s,J i s->uI l n a s)(mI:q_ I J)(mS:q_ S J)(B:Aq P w A q I S a kf J)(hR:∀i v s',a i v->(∀j,j<n->kf i<=kf j/\(j<i->kf i<kf j))->J n s'->R (.ok (.ret v)) s'):∀(r j i:Nat) (s:am),n-(j+1)=r->j+1<=n->G5 J l I S a kf j i s->ku (az P w) A (.builtin "min.loop" ⟨[.ref I,.ref q,.ref S],[]⟩) R s:=by
 have sW:(toString "min"++toString ".loop" : String) = "min.loop":=by decide
 intro r
 induction r with
 |zero=>
  intro j i s hr hj M;obtain⟨L,t,c,G,g⟩:=M.st;obtain⟨d,rfl,p,F⟩:=hl _ _ M.inv;have W:=pX (prog:=P) (w:=w) (A:=A.in1) hh I l tT d.toArray;have m:d.toArray.size=d.length:=cu ..;have bB:d.length=j+1:=∅
  refine mK EE ?_;rw[n9 qb _];refine au (zM G rfl ?_);refine au (sU (W.done _ _ _ ⟨by rw[m,bB];exact M.it,p⟩ λh' N qr=>?_));have J1:=mI (j+1) s h' N M.inv λb o n e=>qr b o (by simpa using n) e;have K:=n8 h' S (kC λ_=>(#[]:Array ah));refine au ?_;refine wpAny_updateSeq (qr S _ (by simpa using O) G) rfl (au (zW (aN ?_)));refine hR i L _ g (λf D=>M.best f ∅) ?_;rw[bB];exact mS (j+1) _ _ _ J1 λb o n e=>(K.2 b n).trans e
 |succ r ih=>
  intro j i s hr hj M;obtain⟨L,t,c,G,g⟩:=M.st;obtain⟨d,rfl,p,F⟩:=hl _ _ M.inv;have W:=pX (prog:=P) (w:=w) (A:=A.in1) hh I l tT d.toArray;have m:d.toArray.size=d.length:=cu ..;have bG:j+1<d.length:=∅
  refine mK EE ?_;rw[n9 qb _];refine au (zM G rfl ?_);refine au (sU (W.item (j+1) _ _ _ (by rw[m];exact bG) ⟨M.it,p⟩ λv h1 C hP eJ mX=>?_));have hv:a (j+1) v:=F _ _ (by simpa using hP);obtain⟨X,eI,ol,T⟩:=id eJ.1;have J1:=mI (j+1) s h1 C M.inv λb o n e=>mX b o (by simpa using n) e;have Y:=mX S _ (by simpa using O) G;refine au (sU (lR (eF (B (j+1) v {s with heap:=h1,toks:=C} X _ hv J1 eI Y (λz=>by rw[T];exact nofun) (λz=>nofun)) (λu s2 he=>?_) λ_ _ hF=>hF.elim)));obtain⟨⟨y,rfl⟩,J2,H,x⟩:=he;refine au (sU (lR (au (CmpOf.ints_lt (prog:=P) (w:=w) (A:=A.in1) (P:=λi v=>∃t,v=.int (kf i) t) kf (λi v h=>h) (j+1) i _ _ _ _ _ ⟨y,rfl⟩ ⟨t,rfl⟩ ?_))));refine au (lR (lL ?_));refine au (zW (aN ?_));by_cases l5:kf (j+1)<kf i
  .have K:=n8 s2.heap S (kC λ_=>#[v,.int (kf (j+1)) y]);obtain⟨Z,mP⟩:∃Z,(s2.heap.update S (kC λ_=>#[v,.int (kf (j+1)) y])).get? S=aa (jW "list" #[v,.int (kf (j+1)) y] Z):=⟨_,zN x λ_=>#[v,.int (kf (j+1)) y]⟩
   simp only[l5,decide_true,if_true];refine au ?_;refine wpAny_updateSeq x rfl (au (zW ?_));rw[sW];refine aN ⟨n_ qb _,ih (j+1) (j+1) _ ∅ bG ⟨mS _ _ _ _ J2 λb o n e=>(K.2 b n).trans e,⟨X,(K.2 I O.symm).trans H,ol,T⟩,⟨v,y,Z,mP,hv⟩,bd _,λf D=>?_⟩⟩;by_cases e:f=j+1
   .subst e;exact⟨∅,λ_=>∅⟩
   .have hb1:=(M.best f ∅).1;exact⟨∅,λ_=>∅⟩
  .simp only[l5,decide_false,wj,if_false];refine au (zW ?_);rw[sW];refine aN ⟨n_ qb _,ih (j+1) i _ ∅ bG ⟨J2,⟨X,H,ol,T⟩,⟨L,t,c,x,g⟩,by have:=M.ij;lia,λf D=>?_⟩⟩;by_cases e:f=j+1
   .subst e;have:=M.ij;exact⟨∅,λ_=>∅⟩
   .exact M.best f ∅
theorem im(hh:A.handled=ae)(bZ:0<n)(d:uI l n a s)(m:s.heap.objs.size=I)(hS:I+1=S)(hl:∀i s,J i s->uI l n a s)(mI:q_ I J)(mS:q_ S J)(c:Aq P w A q I S a kf J)(start:∀(h':aC) (tk:Nat),(∀b o,s.heap.get? b=aa o->h'.get? b=aa o)->J 0 {s with heap:=h',toks:=tk})(hQ:∀i v Y,a i v->(∀j,j<n->kf i<=kf j/\(j<i->kf i<kf j))->J n Y->Q v Y):aw (az P w) A (call (.builtin "min") [.ref l] [(bn "key",.ref q)]) Q E s:=by
 have O:(toString "min"++toString ".loop" : String) = "min.loop":=by decide
 obtain⟨p,rfl,d,G⟩:=d;refine kmk_tree PySem.F.kind_min PySem.F.plain_min PySem.F.entry_min (kmk_min_key _ _) ?_;refine au (wpAny_of_eq (show Builtin.Builtins.bindParams "min" ["key","default"] 0 ⟨[],[(bn "key",.ref q)]⟩=pure [aa (.ref q),ae] from rfl) ?_);refine au (aN ?_);refine au (pW d ?_);refine au (wpAny_newList ?_ (g6 _));rw[O];rw[m];generalize F:s.heap.push {cls:=.type "list_iterator",data:=.fields #[.ref l,.int 0 0]}=g1;have D:g1.get? I=aa {cls:=.type "list_iterator",data:=.fields #[.ref l,.int 0 0]}:=by rw[<-F,<-m];exact cm _ rfl
 have C:∀b o,s.heap.get? b=aa o->g1.get? b=aa o:=λb o e=>by rw[<-F];exact bi _ e
 have N:g1.objs.size=S:=by rw[<-F,<-hS,<-m];exact i4 ..
 rw[N];have M:l≠I:=λz=>by obtain⟨o,e,_⟩:=d;exact absurd (bo e) (by rw[z,m];exact dZ _)
 have y:S≠I:=λz=>by rw[<-hS]at z;exact Nat.succ_ne_self _ z
 refine aN ⟨n_ qb _,?_⟩;have k0:∀b o,s.heap.get? b=aa o->(g1.push (jW "list" #[] 0)).get? b=aa o:=λb o e=>bi _ (C b o e);have gS:(g1.push (jW "list" #[] 0)).get? S=aa (jW "list" #[] 0):=by rw[<-N];exact cm _ rfl
 have gI:(g1.push (jW "list" #[] 0)).get? I=aa {cls:=.type "list_iterator",data:=.fields #[.ref l,.int 0 0]}:=bi _ D;have W:=pX (prog:=P) (w:=w) (A:=A.in1) hh I l M p.toArray;have B:p.toArray.size=p.length:=cu ..;have J0:=start (g1.push (jW "list" #[] 0)) s.toks k0;refine mK EE ?_;rw[n9 qb _];refine au (zM gS rfl ?_);refine au (sU (W.item 0 _ _ _ (by rw[B];exact bZ) ⟨⟨_,gI,rfl,rfl⟩,(let ⟨o,e,r⟩:=d;⟨o,k0 _ _ e,r⟩)⟩ λv h1 x hP eJ mX=>?_));have hv:a 0 v:=G _ _ (by simpa using hP);obtain⟨oI,eI,ol,Z⟩:=id eJ.1;have J1:=mI 0 _ h1 x J0 λb o n e=>mX b o (by simpa using n) e;have H:=mX S _ (by simpa using y) gS;refine au (sU (lR (eF (c 0 v _ oI _ hv J1 eI H (λz=>by rw[Z];exact nofun) (λz=>nofun)) (λu T he=>?_) λ_ _ hF=>hF.elim)));obtain⟨⟨f,rfl⟩,J2,K,g⟩:=he;have X:=n8 T.heap S (kC λ_=>#[v,.int (kf 0) f]);obtain⟨L,mP⟩:∃L,(T.heap.update S (kC λ_=>#[v,.int (kf 0) f])).get? S=aa (jW "list" #[v,.int (kf 0) f] L):=⟨_,zN g λ_=>#[v,.int (kf 0) f]⟩
 refine au ?_;refine wpAny_updateSeq g rfl ?_;rw[O];refine aN ⟨n_ qb _,Fe hh M y hl mI mS c hQ _ 0 0 _ rfl bZ ⟨mS _ _ _ _ J2 λb o n e=>(X.2 b n).trans e,⟨oI,(X.2 _ y.symm).trans K,ol,Z⟩,⟨v,f,L,mP,hv⟩,bd _,λj' hj'=>?_⟩⟩;obtain rfl:j'=0:=∅
 exact⟨∅,λh=>∅⟩
end
open Att
def xO(X:Cx)(a:dm)(b:Str)(f:ac)(c:ah)(s:am):Env:=newEnv a s.heap.objs.size bP (fu X.env a.names []) b (aa f) c ae mC
def nI(X:Cx)(A:aX)(a:dm)(d:List Str)(b:Str)(f:ac)(c:ah)(s:am)(H:Hp):Cx where
 prog:=X.prog
 w:=X.w
 K:=X.K
 mg:=X.mg
 base:=X.base
 A:=A.deeper (xO X a b f c s)
 N:=d
 s₀:=s
 H₀:=H
 env:=xO X a b f c s
 outer:=X.stack
 stack:=xO X a b f c s::X.stack
 ex:=[]
 fn:=λ_=>aj
 calm:=ai
 pn:=[]
 xe:=λ_ _=>False
section
variable{X:Cx}{C:List (ac×Obj)}{m:St}{H:Hp}{s:am}{a:dm}{x:Str}{n:List Str}{g:List Nat}{A:aX}{d:Str}{f:ac}{D:ah}
theorem Inv.lam{q:aC}{t':Nat}{v:V}{u:ah}(I:Inv X C m H s)(B:f8 X a x n g)(nc:∀z∈a.names,z.2≠.cell)(lx:a.names.lookup x=aa .local)(hA:A.handled=ae)(hf:A.frames=aa X.stack)(r:RelV v u)(jq:q.Ns s.heap.objs.size (λy=>[(x,u)].reverse.lookup y)) (E:∀b o,s.heap.get? b=aa o->q.get? b=aa o):Inv (nI X A a n d f D s H) [] (aa v::d4 m g) H {s with heap:=q,toks:=t'}:=by
 have F:∀y,a.names.lookup y=aa .free->∃c,(fu X.env a.names []).lookup y=aa c:=λy h=>uf a.names [] (CH h);refine⟨⟨I.ok.mod,B.kind,rfl,rfl,bd _,λy z c h1 h2=>I.ok.inj y z c (I.clIn B h1) (I.clIn B h2),λy K=>?_,λy c h _=>(nomatch h),λ_=>hA,Around.frames_deeper hf,.inr ⟨rfl,rfl⟩,λb G=>(nomatch G),λb o e=>I.bs b o e,cO I.ok.bsz I.sz,λb o _ G=>(nomatch G),λb G=>(nomatch G),I.stack,(λb G=>I.stkFree b G),I.tab⟩,rfl,I.bare,Un.kept E,⟨_,jq,λi y w Y W e3=>?_⟩,λy c h=>?_,I.hok.fresh (bd _),λy c h=>I.freeC y c (I.clIn B h),λp hp=>(nomatch hp),I.hok.kept E,?_⟩
 .rcases K with K|K
  .exact absurd rfl (nc _ (i3 (show a.names.lookup y=aa .cell from K)))
  .exact F y K
 .cases i with
  |zero=>
   have hx:n[0]?=aa x:=by rw[<-List.head?_eq_getElem?];exact B.hd
   have ey:x=y:=dY (hx.symm.trans Y);subst ey;have ev:v=w:=by simpa using W
   subst ev;exact⟨u,r,.inl ⟨lx,by simp⟩⟩
  |succ i=>
   have J:(d4 m g)[i]?=aa (aa w):=by simpa using W
   unfold d4 at J;rw[jU]at J;cases N:g[i]? with
   |none=>rw[N]at J;cases J
   |some j=>
    rw[N]at J;have L:(m[j]?).join=aa w:=dY J;have T:m[j]?=aa (aa w):=by
     cases Q:m[j]? with
     |none=>rw[Q]at L;cases L
     |some o=>rw[Q]at L;exact congrArg aa L
    obtain⟨b1,b2⟩:=(B.caps i j y Y N).elim id λz=>by have:=(cq.mp T).1;rw[I.len]at this;exact absurd this (Nat.not_lt.mpr z.1)
    obtain⟨mm,hn,hl⟩:=I.loc;have P:=B.free _ (i3 b2) rfl;obtain⟨Z,r',l⟩:=hl j y w b1 T (P.elim (λz=>.inr (.inl z)) λz=>.inr (.inr z));refine⟨Z,r',.inr ⟨.inr b2,?_⟩⟩;rcases l with⟨l,_⟩|⟨_,c,hc,qf⟩
    .rcases P with z|z <;> rw[l]at z <;> cases z
    .obtain⟨c',S⟩:=F y b2;have:=I.clIn B S;rw[hc]at this;cases this;obtain⟨o,M,O⟩:=qf;exact⟨c,S,o,E _ _ M,O⟩
 .obtain⟨w,o,M,O⟩:=I.cell y c (I.clIn B h);exact⟨w,o,E _ _ M,O⟩
 .show(aa v::d4 m g).length=n.length;rw[B.len];simp[d4]
theorem F9{c:sJ}{i:ay}{G K:ah}{F:ac}{v:V}{u:ah}{M:TE}{Q:V->Hp->Prop}(I:Inv X C m H s)(B:f8 X a x n g)(N:∀z∈a.names,z.2≠.cell)(O:a.names.lookup x=aa .local)(co:a.isCoroutine=aj) (J:a.isGenerator=aj) (bind:∀(p d:Str) (i:ay) (cl:List (Str×ac)) (G aB ct v:ah),dP (PySem.W.kla_fn p d c i a cl G aB ct) ⟨[v],[]⟩=pure [(x,v)])(Oh:A.depth<zu) (hA:A.handled=ae) (hf:A.frames=aa X.stack) (r:RelV v u)(Z:s.heap.get? f=aa (zV "<lambda>" d c i a (fu X.env a.names []) G F K)) (bf:s.heap.CodeRec (.ref F) d)(he:PE (nI X A a n (d++".<locals>.") f (.ref F) s H) i M) (h:M (aa v::d4 m g) H Q):aw (az X.prog X.w) A (call (.ref f) [u]) (λL s'=>∃y E,Inv X C m E s'/\Un (eV X.stack) [] H E s.heap s'.heap/\RelV y L/\Q y E) (λ_ _=>False) s:=by refine wpAny_call (PySem.W.kla_callFunE Oh Z rfl co J rfl bf ?_);rw[bind];refine aN (wpAny_newFunctionEnv N (λz W=>by rw[g9.mp W];exact O) (λl T S=>?_) B.kind);have j:∀b o,s.heap.get? b=aa o->l.get? b=aa o:=λb o e=>(S.2 b (cN (bo e))).trans (bi _ e);refine⟨I.nolimit.keeps j,PySem.W.kla_codeExpr ?_⟩;have I1:Inv (nI X A a n (d++".<locals>.") f (.ref F) s H) [] (aa v::d4 m g) H {s with heap:=l,toks:=s.toks + [(x,u)].length}:=I.lam B N O hA hf r T j;refine eF (he [] _ _ H Q I1 h) (λL s' Y=>?_) λ_ _ z=>z.elim;obtain⟨y,E,w,P,q⟩:=Y;exact⟨y,E,I.call' (s':=s') (ch:=[]) w.os w.base w.hok w.bare (λb hb=>(nomatch hb)),w.base,P,q⟩
end
def Jk(d:List Nat)(l:TA)(h:TE):TE:=λf H Q=>l f H λm n=>∃(a:ac) (c:List V) (kf:Nat->Int) (W:Nat->Hp->Prop),m=[.ref a]/\c≠[]/\(∀g,(∀b o,n b=aa o->g b=aa o)->W 0 g)/\(∀i H,W i H->Rd H a (.lst c)) /\
 (∀i v H,c[i]?=aa v->W i H->h (aa v::d4 f d) H λy p=>y=.int (kf i)/\W (i+1) p)/\∀i v H,c[i]?=aa v->(∀j,j<c.length->kf i<=kf j/\(j<i->kf i<kf j))->W c.length H->Q v H
section
variable{X:Cx}{m:List (ac×Obj)}{r:St}{H:Hp}{s:am}{d:dm}{x:Str}{D:List Str}{C:List Nat}
structure An(X:Cx)(m:List (ac×Obj))(r:St)(W:Nat->Hp->Prop)(P c' I S f:ac)(q:Str)(fo oc:Obj)(i:Nat)(s:am):Prop where
 ex:∃H,Inv X m r H s/\W i H/\(∀b∈[I,S,f],iz X m H b)/\s.heap.get? f=aa fo/\H P=aa (.tbl q)/\H c'=aa (.own P)/\s.heap.get? c'=aa oc
theorem An.move{W:Nat->Hp->Prop}{P v I S f:ac}{q:Str}{l oc:Obj}{a:ac}(b:a∈[I,S,f])(j:a≠f):q_ a (An X m r W P v I S f q l oc):=λi s B A ⟨H,y,w,c,e,p,o,g⟩ k=>by
 obtain⟨h,u,f2,f3,f4,n⟩:=c a b;exact⟨H,y.turned k h u f3 f4 n,w,c,k _ _ (eE j) e,p,o,k _ _ (λz=>by rw[z,h]at o;cases o) g⟩
theorem LR{n:Str}{l E:ay}{c P:ac}{g:sJ}{p Y kp F:Pos}{ta:TA}{tl:TE}(hc:X.calm=ai)(hr:X.A.depth+1<zu)(LA:uN X n c P)(hq:X.env.qual++"<lambda>"=n++".<locals>.<lambda>")(B:f8 X d x D C) (nc:∀z∈d.names,z.2≠.cell) (lx:d.names.lookup x=aa .local)(co:d.isCoroutine=aj) (gen:d.isGenerator=aj) (bind:∀(T O:Str) (E:ay) (cl:List (Str×ac)) (pm aB ct v:ah),dP (PySem.W.kla_fn T O g E d cl pm aB ct) ⟨[v],[]⟩=pure [(x,v)])(sY:defaultsOf g X.env=([],[])) (hg:Gl X "min") (hm:X.mg "min"=ae) (hs:ce F (aL [l] X.env)=(aj,aK l X.env)::ce F (aL [] X.env)) (bY:(ce F (aL [l] X.env)).any (·.1)=aj) (ha:PA X [l] ta) (he:∀q f cd s H,PE (nI X X.A.in1 d D q f cd s H) E tl):PE X (.Call (.Name "min" p) [l] [⟨aa "key",.Lambda g E d Y,kp⟩] F) (Jk C ta tl):=by
 intro m s r H Q I h;refine v_ (r8 I hg hm (show d3 "min"=aa (.builtin "min") by kernel_rfl) ?_ (by decide) (by decide));refine callWith_kw (aT (ha F m s r H _ I h) λus s1 ⟨vs,H1,I1,r1,q⟩=>?_) (he:=hs) (hplain:=bY);obtain⟨a,xs,kf,W,rfl,bZ,w0,wl,wt,wq⟩:=q;obtain⟨u,rfl⟩:∃u,us=[u]:=by
  cases r1 with
  |cons _ t=>cases t;exact⟨_,rfl⟩
 obtain rfl:u=.ref a:=by
  cases r1 with
  |cons z _=>exact z
 refine kws_cons (ML I1 LA hq (DU (I1.freeHas B)) sY λf c' ctv H2 G M sub hf hfL wF hcL gf hfs ti=>kws_nil ?_);have w2:=w0 H2 sub;have tb:=M.tab n LA.mem c P LA.tab;obtain⟨cc,oc,vc,tc,zc,ec,rc⟩:=id wF;cases zc;have lst:∀{H':Hp}{s':am}{i:Nat},Inv X m r H' s'->W i H'->uI a xs.length (λi u=>∃v,xs[i]?=aa v/\RelV v u) s':=λ{H' s' i} I' w'=>by obtain⟨_,its,n0,rv,eL⟩:=(wl i H' w').ok I'.hok;exact⟨its,rv.length.symm,⟨_,eL,rfl,n0,rfl⟩,λj v Z=>Dk rv Z⟩
 have hh:=M.ok.hd hc;obtain⟨fo,efo,hfo⟩:∃fo,G.heap.get? f=aa fo/\fo=_:=⟨_,hf,rfl⟩
 have fp1:iz X m H2 f:=I1.fpOk hfs ti;have E2:f<G.heap.objs.size:=bo hf;show aw _ _ (call (.builtin "min") [.ref a] [(bn "key",.ref f)]) _ _ _;have fpN:∀b,G.heap.objs.size<=b->iz X m H2 b:=λb w=>M.fpOk w (M.hok.fresh w);refine im (J:=An X m r W P c' G.heap.objs.size (G.heap.objs.size+1) f (n++".<locals>.<lambda>") fo oc) (kf:=kf) hh (jZ.mpr bZ) (lst M w2) rfl rfl (λi s3 ⟨H3,L,N,_⟩=>lst L N)
  (An.move (by simp) (iB E2)) (An.move (by simp) (iB (jo E2))) (λi v s3 oI oS Z ⟨H3,L,N,fp3,e3,p3,o3,g3⟩ eI eS dI dS=>?_) (λh' tk k=>?_) λi v s3 Z sZ ⟨H3,L,N,_⟩=>?_
 .obtain⟨xv,hx,rx⟩:=Z;have S:∀b∈[G.heap.objs.size,G.heap.objs.size+1,f],∃o,s3.heap.get? b=aa o/\∀v,o.data≠.cell v:=λb w=>by
   simp only[bV,g_,or_false]at w;rcases w with rfl|rfl|rfl
   .exact⟨_,eI,dI⟩
   .exact⟨_,eS,dS⟩
   .exact⟨_,e3,λv z=>by rw[hfo]at z;cases z⟩
  have I4:=L.pinned fp3 S;refine aT (F9 I4 B nc lx co gen bind (A:=X.A.in1) (Nat.lt_of_succ_lt hr) hh L.ok.frames rx (e3.trans (congrArg aa hfo)) ⟨c',oc,vc,tc,rfl,g3,rc⟩ (he _ _ _ _ _) (wt i xv H3 hx N)) λu' s5 ⟨y,H5,I5,un,r5,q5,w5⟩=>?_;subst q5;have K:∀{b:ac}{o:Obj},b∈[G.heap.objs.size,G.heap.objs.size+1,f]->s3.heap.get? b=aa o->s5.heap.get? b=aa o/\H5 b=ae:=λ{b o} w e=>by have z:=I5.pin (b,o) (jR _ (jR _ (rR w e)));exact⟨z.1,z.2.1⟩
  obtain⟨t1,t2⟩:=un.tbls P _ p3;obtain⟨t3,t4⟩:=t2 c' oc o3 g3;exact⟨r5,⟨H5,I5.unpinned,w5,λb w=>(let ⟨o,e,_⟩:=S b w;⟨(K w e).2,(fp3 b w).2⟩),(K (by simp) e3).1,t1,t4,t3⟩,(K (by simp) eI).1,(K (by simp) eS).1⟩
 .refine⟨H2,M.kept k,w2,λb w=>?_,k _ _ efo,tb,gf,k _ _ ec⟩;simp only[bV,g_,or_false]at w;rcases w with rfl|rfl|rfl
  .exact fpN _ (bd _)
  .exact fpN _ (sI _)
  .exact fp1
 .obtain⟨xv,hx,rx⟩:=Z;exact⟨xv,H3,L,rx,wq i xv H3 hx sZ N⟩
end
end L2
namespace Pu
open L2
def l9(a:List PV)(ks:List Int):Option PV:=((a.zip ks).find? λq=>ks.all λk=>decide (q.2<=k)).map (·.1)
def Kr:PV->Option (List PV)
 |.lst a=>aa a
 |_=>ae
def oG(d:ag->R PV):ag->R (List PV):=λε=>(d ε).bind λx a=>aG (Kr x) a
def qO(c:List Nat)(g:ag->R (List PV))(de:ag->R PV):ag->R PV:=λε=>(g ε).bind λd b=>(dD c cb de d [] b).bind λf a=>aG ((et f).bind (l9 d)) a
theorem M8{a:List PV}{ks:List Int}{x:PV}{i:Nat}(m:ks.length=a.length)(d:a[i]?=aa x)(f:∀j,j<a.length->ks.getD i 0<=ks.getD j 0/\(j<i->ks.getD i 0<ks.getD j 0)):l9 a ks=aa x:=by
 have c:i<a.length:=(cq.mp d).1;have b:∀j (h:j<a.length),ks.getD j 0=ks[j]'∅:=λj h=>by rw[qa,eh ∅];rfl
 unfold l9;have:(a.zip ks).find? (λq=>ks.all λk=>decide (q.2<=k))=aa (x,ks[i]'∅):=by
  rw[List.find?_eq_some_iff_getElem];refine⟨?_,i,by simp;lia,?_,λj g=>?_⟩
  .rw[iF];intro k l;obtain⟨j,g,rfl⟩:=List.getElem_of_mem l;have:=(f j ∅).1;rw[b i c,b j ∅]at this;exact decide_eq_true this
  .rw[List.getElem_zip];exact congrArg (·,_) (cq.mp d).2
  .rw[List.getElem_zip,Bool.not_eq_true',List.all_eq_false];refine⟨ks[i]'∅,zJ _,?_⟩;have:=(f j ∅).2 g;rw[b i c,b j ∅]at this;simpa using this
 rw[this];rfl
theorem vG{d:List Nat}{de:ag->R PV}:∀{n i j:List PV}{g f:ag},dD d cb de n i g=.ok j f->j.length=i.length+n.length/\i <+: j
 |[],i,j,g,f,h=>by cases h;exact⟨rfl,List.prefix_refl _⟩
 |x::n,i,j,g,f,h=>by
  unfold dD at h;cases a:bp (bO d cb x g)with
  |no=>rw[a]at h;cases h
  |er c m=>rw[a]at h;cases h
  |ok b l=>
   rw[a,R.bind_ok]at h;cases b with
   |false=>
    unfold bO at a;cases q:c0 g d with
    |none=>rw[q]at a;cases a
    |some r=>
     rw[q]at a;simp only[cW,R.bind_ok]at a;by_cases nd:(bv r).Nodup
     .rw[if_pos nd]at a;cases p:cn g (.inl x::r)with
      |none=>rw[p]at a;cases a
      |some w=>
       rw[p]at a;simp only[cW,R.bind_ok,cb,cH]at a;split at a
       .cases a
       .cases a
     .rw[if_neg nd]at a;cases a
   |true=>
    dsimp only at h;cases o:bp (bO d de x l)with
    |no=>rw[o]at h;cases h
    |er c m=>rw[o]at h;cases h
    |ok y s=>rw[o,R.bind_ok]at h;obtain⟨v,u⟩:=vG h;refine⟨by rw[v];simp;lia,(List.prefix_append i [y]).trans u⟩
theorem wH{d:List Nat}{de:ag->R PV}:∀{n m:List PV}{f a:ag}{c:ah},dD d cb de n m f≠.er c a
 |[],m,f,a,c,h=>by cases h
 |x::n,m,f,a,c,h=>by
  unfold dD at h;cases i:bp (bO d cb x f)with
  |no=>rw[i]at h;cases h
  |er c l=>unfold bp at i;split at i <;> simp_all
  |ok b j=>
   rw[i,R.bind_ok]at h;cases b with
   |false=>exact wH h
   |true=>
    dsimp only at h;cases g:bp (bO d de x j)with
    |no=>rw[g]at h;cases h
    |er c l=>unfold bp at g;split at g <;> simp_all
    |ok y o=>rw[g,R.bind_ok]at h;exact wH h
theorem CC:∀{a:List PV}{ks:List Int},et a=aa ks->a=ks.map PV.int
 |[],ks,h=>by cases h;rfl
 |.int i::a,ks,h=>by
  unfold et at h;cases e:et a with
  |none=>rw[e]at h;cases h
  |some r=>rw[e]at h;cases h;rw[CC e];rfl
 |.non::_,_,h=>by cases h
 |.bl _::_,_,h=>by cases h
 |.str _::_,_,h=>by cases h
 |.tup _::_,_,h=>by cases h
 |.lst _::_,_,h=>by cases h
 |.raw _::_,_,h=>by cases h
 |.exc _::_,_,h=>by cases h
theorem Hx{K:ar}{F:ac->Prop}{S:Nat->ac->Prop}{i c:ag}{f:St}{H:Hp}{g:List Nat}{x:PV}{v:V}{b:Bool}(r:aH K F S i f H)(j:aO K H F x v)(h:bp (bO g cb x i)=.ok b c):∃d,aH K F d c f H/\a5 (U S) (U d) F F H H:=by
 obtain⟨o,p,l,ok⟩:=uv (E:=E0) (C:=λ_ a _ _ _=>a=c) r j (by rw[h];exact λ_ _ _ _ _=>rfl);obtain⟨a,d,m,n,e⟩:=(show ∃a d,aH K F d a f H/\a5 (U S) (U d) F F H H/\a=c from ok F o H l (a5.refl ..))
 subst e;exact⟨d,m,n⟩
section
variable{X:Cx}{E:XK}{d:dm}{x:Str}{N':List Str}{cap:List Nat}
theorem FZ{k:Nat}{n:Str}{l A:ay}{c P:ac}{w:sJ}{p lpos kp K:Pos}{dl de:ag->R PV}(B:f8 X d x N' cap)(hc:X.calm=ai)(hr:Room (k+2) X.A)(LA:uN X n c P)(hm:X.mg "min"=ae)(hl:DE X E l dl)(he:∀q f M g m,Room k (nI X X.A.in1 d N' q f M g m).A->DE (nI X X.A.in1 d N' q f M g m) E0 A de)(hq:X.env.qual++"<lambda>"=n++".<locals>.<lambda>":=by rfl) (nc:∀z∈d.names,z.2≠.cell:=by decide) (lx:d.names.lookup x=aa .local:=by rfl)(co:d.isCoroutine=aj:=by rfl) (gen:d.isGenerator=aj:=by rfl) (bind:∀(name qual:Str) (A:ay) (cl:List (Str×ac)) (pm aB ct v:ah),dP (PySem.W.kla_fn name qual w A d cl pm aB ct) ⟨[v],[]⟩=pure [(x,v)]:=by exact λ_ _ _ _ _ _ _ _=>rfl)(sY:defaultsOf w X.env=([],[]):=by rfl) (hg:Gl X "min":=by rfl) (hs:ce K (aL [l] X.env)=(aj,aK l X.env)::ce K (aL [] X.env):=by rfl) (bY:(ce K (aL [l] X.env)).any (·.1)=aj:=by rfl) (eJ:aL [l] X.env=(aj,aK l X.env)::aL [] X.env:=by rfl):DE X E (.Call (.Name "min" p) [l] [⟨aa "key",.Lambda w A d lpos,kp⟩] K) (qO cap (oG dl) de):=λF S ε Z H Q rl h=>by
 refine bW (LR (tl:=λZ H Q=>∀q f M g m,fY (nI X X.A.in1 d N' q f M g m) A Z H Q) hc hr.d1 LA hq B nc lx co gen bind sY hg hm hs bY fU λq f M g m af s Z H Q I h=>(h q f M g m).run af s I) ?_;refine l_ (io (te:=fY X l) bx jB eJ) (hl F S ε Z H _ rl (h.bind.bind.imp λx1 O F1 S1 H1 r1 g1 h1 v rv=>?_));cases x1 with
 |lst G=>
  obtain⟨a,us,rfl,ha,hF,ra⟩:=rv;have J:Ok X.K E Z F1 S1 H1 ((dD cap cb de G [] O).bind λys N=>aG ((et ys).bind (l9 G)) N) _:=h1 F1 S1 H1 r1 (a5.refl ..);cases ec:dD cap cb de G [] O with
  |no=>rw[ec]at J;exact J.elim
  |er c D=>exact(wH ec).elim
  |ok ys N=>
   rw[ec,R.bind_ok]at J;cases e3:et ys with
   |none=>rw[e3]at J;exact J.elim
   |some ks=>
    rw[e3,hV]at J;cases e4:l9 G ks with
    |none=>rw[e4]at J;exact J.elim
    |some pv=>
     rw[e4,cW]at J;have eys:=CC e3;have lys:ys.length=G.length:=by have:=(vG ec).1;simpa using this
     have lks:ks.length=G.length:=by rw[<-lys,eys,cf]
     have L:us.length=G.length:=ra.len;show ∃(a':ac) (xs':List V) (kf:Nat->Int) (W:Nat->Hp->Prop),_;refine⟨a,us,λi=>ks.getD i 0,λi Y=>∃F' S' D aP,aH X.K F' S' D Z Y/\a5 (U S1) (U S') F1 F' H1 Y/\aP.length=i/\dD cap cb de (G.drop i) aP D=.ok ys N,rfl,λz=>?_,λH2 sub=>?_,λi Y ⟨F2,S2,_,_,_,T,_,_⟩=>T.lst r1.fit hF ha,λi v Y hv ⟨F2,S2,εa,aP,r2,T,el,r⟩=>?_,λi v Y hv sZ ⟨F2,S2,εa,aP,r2,T,el,r⟩=>?_⟩
     .rw[z]at L;obtain rfl:=sN L.symm;cases e4
     .have al:Al F1 F1 H1 H2:=⟨λ_ z=>z,λb o e=>sub b o e,λ_ z=>.inl z⟩
      exact⟨F1,S1,O,[],r1.al al,al.grow,rfl,ec⟩
     .obtain⟨px,hx,rx⟩:=ra.back hv;have il:i<G.length:=(cq.mp hx).1;have ed:G.drop i=px::G.drop (i+1):=by rw[zO il];congr 1;exact(cq.mp hx).2
      rw[ed]at r;unfold dD at r;have rx2:=rx.grow T r1.fit;cases e5:bp (bO cap cb px εa)with
      |no=>rw[e5]at r;cases r
      |er c D=>rw[e5]at r;cases r
      |ok b ε3=>
       obtain⟨S3,r3,g3⟩:=Hx r2 rx2 e5;rw[e5,R.bind_ok]at r;cases b with
       |false=>have:=(vG r).1;rw[mJ]at this;lia
       |true=>
        dsimp only at r;cases e6:bp (bO cap de px ε3)with
        |no=>rw[e6]at r;cases r
        |er c D=>rw[e6]at r;cases r
        |ok y ε4=>
         rw[e6,R.bind_ok]at r;obtain⟨t,ht⟩:=(vG r).2;have ey:y=.int (ks.getD i 0):=by
          have e7:ys[i]?=aa y:=by rw[<-ht,sO,nZ ∅,el,zS];rfl
          rw[eys,jU,eh ∅]at e7;rw[qa,eh ∅];exact(dY e7).symm
         obtain⟨Sc,sc,rc,okc⟩:=uv (E:=E0) (C:=λy' D _ _ _=>y'=y/\D=ε4) r3 rx2 (by rw[e6];exact λ_ _ _ _ _=>⟨rfl,rfl⟩);intro q f M g m;refine he q f M g m (Room.deeper (Room.in1 hr) _) F2 Sc sc _ Y _ rc (okc.imp λy' _ F4 _ H4 _ _ ⟨ε4',S4,r4,g4,e8,e9⟩ u ru=>?_);subst e9;subst e8;subst ey;exact⟨ru,F4,S4,_,_,r4,(T.trans g3).trans g4,by simp[el],r⟩
     .obtain⟨px,hx,rx⟩:=ra.back hv;rw[L,zP]at r;have:l9 G ks=aa px:=M8 lks hx λj hj=>sZ j (by rw[L];exact hj);rw[this]at e4;cases e4;cases r;exact J F2 S2 Y r2 T v (rx.grow T r1.fit)
 |_=>exact h1.elim
end
section
variable{o:dQ}{P:aY}{w:aR}{K:ar}{l:Str->Option ah}{b:aC}{C:ac}{m x a:Str}{g:aU}{N j:List Str}{k n:Nat}{d:ag->R aE}{pin:List Nat}
theorem IY(LF:∃c T,xG K x C m c T)(S:x∈sh)(D:gK K C m a g)(Sc:bJ N j (aJ g))(X:N.length=j.length+n)(G:∀(kV B J:ah) (an:Option ac) (r Z:ah) (u:List ah),u.length=j.length->dP (fG m a (fI g) (df g) (aJ g) .none kV B J an r Z) ⟨u,[]⟩=pure (j.zip u))(Y:∀(f:ac) (r:ah) (c T:ac) (A:aX) (p:List Env) (s:am) (H:Hp) (E:XK),Room k (A.deeper (fD a (aJ g) s.heap.objs.size f r))->uN (eO o P w K l b N a (aJ g) f r A p s H E) x c T->fj (eO o P w K l b N a (aJ g) f r A p s H E) E pin (df g) d):jz o P w K l b C m (k+1) j (bj K (fA j.length pin (a6 n d))):=by
 obtain⟨f,y,M,F⟩:=D;obtain⟨c,T,L⟩:=LF;have no:∀{q},fA j.length pin (a6 n d) q≠.no->q.length=j.length/\fJ pin 0 q=ai:=λ{q} h=>by
  unfold fA at h;by_cases z:q.length=j.length/\fJ pin 0 q=ai
  .exact z
  .rw[if_neg z]at h;exact absurd rfl h
 refine⟨f,y,M,wX (d:=d) F Sc X G (λq h=>(no h).1) (λq h i I e=>by have:=oU (no h).2 i I e;rwa[p9]at this) (λq rs aI h=>.inl ?_) (λq h=>?_) λA p s H E W=>?_,F.binds G⟩
 .unfold fA at h;split at h
  .unfold lp at h;split at h
   .cases h;exact⟨_,rfl⟩
   .cases h
   .cases h
  .cases h
 .have z:=no h;unfold fA at h ⊢;rw[if_pos z]at h ⊢;exact(AO h).symm
 .obtain⟨oc,O,_,_,_,_,_,_,v,_,Q,_⟩:=F.ex;exact Y f y.code c T A p s H E W ⟨S,L.tab,L.hd,L.code f y oc O v M.at_ Q⟩
end
end Pu
local macro_rules | `(tactic| simp! [$xs,*]) => `(tactic| simp [Pu.aF, Pu.ca, Pu.dB, Pu.d2, Pu.d1, Pu.dV, Pu.dC, Pu.dL, Pu.dF, Pu.aq, Pu.aA, Pu.bD, Pu.oF, Pu.aZ, Pu.ir, Pu.aD, Pu.gV, Pu.gO, Pu.bE, Pu.cH, Pu.cG, Pu.bv, Pu.cn, Pu.cI, Pu.R.bind, Pu.aG, Pu.bz, Pu.fP, Pu.a6, Pu.back, Pu.gQ, Pu.ik, Pu.Mi, Pu.qU, Pu.jM, Pu.La, Pu.ax, Pu.rD, Pu.eB, Pu.dU, Pu.cL, Pu.D5, Pu.gX, Pu.OJ, Pu.iK, Pu.Dv, Pu.Gm, Pu.j_, Pu.oC, Pu.OE, Pu.lg, Pu.bR, Pu.jg, Pu.uS, Pu.vk, Pu.qX, Pu.imm, Pu.vp, Pu.jw, cY, nY, $xs,*])
local macro_rules | `(tactic| and_intros) => `(tactic| (refine' Pu.Ol ?a ?l ?c ?k; (case a => k_is); (case l => k_is); (case c => k_is); (case k => k_is)))
namespace K32
open L2 Pu Sh
def cF(i:Nat):aU:=PySem.Challenge.pw_slitview_k32_whole_asked_best.main.body.getD i (.Pass ⟨0,0,0,0⟩)
def pi(s:aU)(j:Nat):aU:=match s with
 |.ClassDef _ _ _ b _ _ _ _ _ _ _=>b.getD j (.Pass ⟨0,0,0,0⟩)
 |_=>.Pass ⟨0,0,0,0⟩
abbrev w8:aU:=cF 35
abbrev wM:aU:=cF 36
abbrev x6:aU:=cF 37
abbrev yV:aU:=cF 38
abbrev xQ:aU:=cF 39
abbrev yB:aU:=cF 40
abbrev ui:aU:=cF 41
abbrev vR:aU:=cF 42
abbrev qH:aU:=cF 43
abbrev x_:aU:=cF 44
abbrev xA:aU:=cF 13
abbrev zd:aU:=cF 14
abbrev uF:aU:=cF 12
abbrev yI:aU:=cF 15
abbrev uH:aU:=cF 16
abbrev yA:aU:=cF 17
abbrev yg:aU:=cF 18
abbrev ze:aU:=cF 19
abbrev xJ:aU:=cF 22
abbrev xk:aU:=cF 21
abbrev vU:aU:=cF 23
abbrev yr:aU:=pi (cF 33) 0
abbrev vF:aU:=cF 26
abbrev vA:aU:=cF 27
abbrev qM:aU:=cF 29
abbrev ul:aU:=cF 28
abbrev uP:aU:=cF 30
abbrev xH:aU:=pi (cF 33) 1
abbrev yJ:aU:=pi (cF 33) 2
abbrev vT:aU:=pi (cF 33) 3
abbrev x9:aU:=cF 31
abbrev ye:aU:=cF 32
abbrev wO:aU:=pi (cF 33) 4
abbrev xr:aU:=pi (cF 33) 5
abbrev uc:aU:=cF 45
def lv(a:Ad):List ac:=[a.NoView,a.Never,a.Full,a.NoPlace,a.NoLetters]
structure cE(K:ar)(mg:Str->Option ah)(base:aC)(a:Ad):Prop where
 yaw:cS K mg "_law_cell_at" w8
 yaA:cS K mg "_law_mixed" wM
 yax:cS K mg "_law_draw" x6
 yaB:cS K mg "_law_pick" yV
 yaD:cS K mg "_law_text" xQ
 yaz:cS K mg "_law_like" yB
 yaC:cS K mg "_law_seen" ui
 yaE:cS K mg "_law_under" vR
 yav:cS K mg "_law_all" qH
 yay:cS K mg "_law_few" x_
 yar:cS K mg "is_whole_number" xA
 yas:cS K mg "is_width" zd
 yao:cS K mg "has_only" uF
 yat:cS K mg "is_window" yI
 yaj:cS K mg "are_windows" uH
 yaq:cS K mg "is_view_with" yA
 yap:cS K mg "is_view" yg
 yam:cS K mg "check_view" ze
 yah:cS K mg "add_endings" xJ
 yan:cS K mg "counted" xk
 yaI:cS K mg "texts" vU
 yaK:uK K a.Seeker "Seeker.__init__" yr
 yaJ:cS K mg "with_letter" vF
 yai:cS K mg "answers_to" vA
 yaF:cS K mg "needed_by" qM
 yaH:cS K mg "places_to_ask" ul
 yaG:cS K mg "needed_for" uP
 yba:gK K a.Seeker "left" "Seeker.left" xH
 ybb:gK K a.Seeker "needed" "Seeker.needed" yJ
 ya7:gK K a.Seeker "best" "Seeker.best" vT
 yal:cS K mg "check_place" x9
 yak:cS K mg "check_letter" ye
 ya8:gK K a.Seeker "hear" "Seeker.hear" wO
 ya9:gK K a.Seeker "heard" "Seeker.heard" xr
 yau:cS K mg "law" uc
 k_Seeker:Cls K a.Seeker
 ya1:gY K a.Seeker "having"
 ya0:gY K a.Seeker "answers"
 yaM:mg "all"=ae
 yaN:mg "any"=ae
 yaO:mg "bool"=ae
 yaP:mg "int"=ae
 yaQ:mg "isinstance"=ae
 yaR:mg "len"=ae
 yaS:mg "list"=ae
 yaT:mg "max"=ae
 yaU:mg "min"=ae
 yaV:mg "range"=ae
 yaW:mg "set"=ae
 yaX:mg "sorted"=ae
 yaY:mg "str"=ae
 yaZ:mg "tuple"=ae
 ybc:∃t,mg "LETTERS"=aa (.str (tS [97,98,99]) t)
 ybd:∃t,mg "MOST_TEXTS"=aa (.int 16 t)
 ybe:∃t,mg "MOST_WINDOWS"=aa (.int 9 t)
 ybf:∃t,mg "WIDEST"=aa (.int 4 t)
 yag:mg "SlitError"=aa (.ref a.SlitError)
 yae:mg "NoView"=aa (.ref a.NoView)
 yab:mg "Never"=aa (.ref a.Never)
 yaa:mg "Full"=aa (.ref a.Full)
 yad:mg "NoPlace"=aa (.ref a.NoPlace)
 yac:mg "NoLetters"=aa (.ref a.NoLetters)
 yaf:mg "Seeker"=aa (.ref a.Seeker)
 ya6:OwnCls "NoView" a.NoView [.type "ValueError",.type "Exception",.type "BaseException",.type "object"] "ValueError.__new__" mg base
 ya3:OwnCls "Never" a.Never [.type "ValueError",.type "Exception",.type "BaseException",.type "object"] "ValueError.__new__" mg base
 ya2:OwnCls "Full" a.Full [.type "ValueError",.type "Exception",.type "BaseException",.type "object"] "ValueError.__new__" mg base
 ya5:OwnCls "NoPlace" a.NoPlace [.type "ValueError",.type "Exception",.type "BaseException",.type "object"] "ValueError.__new__" mg base
 ya4:OwnCls "NoLetters" a.NoLetters [.type "ValueError",.type "Exception",.type "BaseException",.type "object"] "ValueError.__new__" mg base
 yaL:∃c T,xG K "Seeker.best" a.Seeker "best" c T
section
variable{P:aY}{w:aR}{K:ar}{d:Str->Option ah}{b:aC}{a:Ad}
theorem Lp:bJ ["_law_script","_law_k"] ["_law_script","_law_k"] (aJ w8):=by ac_nf
theorem LB(G:cE K d b a):cK (bX P w) P w K d b "_law_cell_at" 1 ["_law_script","_law_k"] (bj K (oZ a)) :=
 c8 (k:=0) (pin:=[]) G.yaw Lp rfl (λ_ _ _ _ _ _ g i=>Pu.Om (λ_ _=>rfl) g i) (λf j A c s H E h=>by exact
  (be (fQ (eU vE fS (ao 1) (cD d9 d_ G.yaR d7 (aS (ao 0) a8)) rfl) (bh (dr (gH gU gW (ao 0) (ao 1)))) fN)
  (be (fQ (eU (kn h.units) kj (ao 0) (ph a8) rfl) (bh (dr a4)) fN)
  (bh (dr (cA eX eT (cA xZ xF (gH gU gW (ao 0) (cA qL sw (ao 1) (cD d9 d_ G.yaR d7 (aS (ao 0) a8)))) a4) (ao 1)))))))
theorem KA:bJ ["_law_script","_law_k","_law_many","_law_drawn"] ["_law_script","_law_k","_law_many"] (aJ wM):=by ac_nf
theorem E7(G:cE K d b a):cK (bX P w) P w K d b "_law_mixed" 2 ["_law_script","_law_k","_law_many"] (bj K (vL a)) :=
 c8 (k:=1) (pin:=[]) G.yaA KA rfl (λ_ _ _ _ _ _ g i=>Pu.Ow (λ_ _ _=>rfl) g i) (λf j A c s H E h=>by exact
  (be (dz 3 KA.nd (cA qL sw (cA eX eT (cA eX eT (cA xZ xF ((bU (LB G) (h.mono (by decide)) cR (aQ (ao 0) (aQ (ao 1) bH)))).de a4) (cA xZ xF a4 (ao 1))) a4) a4))
  (bh (dr (cA qL sw (cA qL sw (cA qL sw (cA Me NW (ao 3) a4) a4) a4) (ao 2))))))
theorem M9:bJ ["_law_script","_law_town","_law_many"] ["_law_script","_law_town","_law_many"] (aJ x6):=by ac_nf
theorem uk(G:cE K d b a):cK (bX P w) P w K d b "_law_draw" 3 ["_law_script","_law_town","_law_many"] (bj K (kq a)) :=
 c8 (k:=2) (pin:=[1]) G.yax M9 rfl (λ_ _ _ _ _ _ g i=>Pu.Ow (λ_ _ _=>rfl) g i) (λf j A c s H E h=>by exact
  (be (Cr 1 a4)
  (bh (wT (bU (E7 G) (h.mono (by decide)) cR (aQ (ao 0) (aQ (Lo 1 d9 d_ G.yaR d7) (aQ (ao 2) bH))))))))
theorem KG:bJ ["_law_script","_law_town","_law_some"] ["_law_script","_law_town","_law_some"] (aJ yV):=by ac_nf
theorem y6(G:cE K d b a):cK (bX P w) P w K d b "_law_pick" 4 ["_law_script","_law_town","_law_some"] (bj K (jy a)) :=
 c8 (k:=3) (pin:=[1]) G.yaB KG rfl (λ_ _ _ _ _ _ g i=>Pu.Ow (λ_ _ _=>rfl) g i) (λf j A c s H E h=>by exact
  (bh (dr (gH gU gW (ao 2) ((bU (uk G) (h.mono (by decide)) cR (aQ (ao 0) (gk 1 (aQ (cD d9 d_ G.yaR d7 (aS (ao 2) a8)) bH))))).de))))
theorem NG:bJ ["_law_script","_law_town","_law_low","_law_most","_law_few_here","_law_made","_law_k"] ["_law_script","_law_town","_law_low","_law_most"] (aJ xQ):=by ac_nf
theorem Gw(G:cE K d b a):cK (bX P w) P w K d b "_law_text" 5 ["_law_script","_law_town","_law_low","_law_most"] (bj K (l7 a)) :=
 c8 (k:=4) (pin:=[1]) G.yaD NG rfl (λ_ _ _ _ _ _ h i=>Pu.OI (λ_ _ _ _=>rfl) h i) (λf j A c s H E g=>by exact
  (be (dz 4 NG.nd ((bU (y6 G) (g.mono (by decide)) cR (aQ (ao 0) (gk 1 (aQ (ph (aS a4 (aS a4 (aS a4 (aS a4 (aS a4 (aS a4 a8))))))) bH))))).de)
  (be (dz 5 NG.nd (iU []))
  (be (k8 (nr 6 kF rfl NG.nd (uz G.yaV (aS (cA eX eT (ao 2) ((bU (uk G) (g.mono (by decide)) dE (aQ (ao 0) (gk 1 (aQ (cA eX eT (cA oz oA (ao 3) (ao 2)) a4) bH))))).de) a8)) (bh (dz 5 NG.nd (cA eX eT (ao 5) (gH gU gW (iU [97,98,99]) ((bU (uk G) (g.mono (by decide)) dE (aQ (ao 0) (gk 1 (aQ (ao 4) bH))))).de))))))
  (bh (dr (ao 5)))))))
theorem Jp:bJ ["_law_script","_law_town","_law_low","_law_most","_law_width","_law_made"] ["_law_script","_law_town","_law_low","_law_most"] (aJ yB):=by ac_nf
theorem G_(G:cE K d b a):cK (bX P w) P w K d b "_law_like" 6 ["_law_script","_law_town","_law_low","_law_most"] (bj K (kU a)) :=
 c8 (k:=5) (pin:=[1]) G.yaz Jp rfl (λ_ _ _ _ _ _ h i=>Pu.OI (λ_ _ _ _=>rfl) h i) (λf j A g s H E c=>by exact
  (be (dz 4 Jp.nd (cA eX eT a4 ((bU (y6 G) (c.mono (by decide)) cR (aQ (ao 0) (gk 1 (aQ (ph (aS a4 (aS a4 (aS a4 (aS a4 (aS a4 a8)))))) bH))))).de))
  (be (dz 5 Jp.nd ((bU (Gw G) (c.mono (by decide)) cR (aQ (ao 0) (gk 1 (aQ (ao 2) (aQ a4 bH)))))).de)
  (be (k8 (xY (λ_=>1000) kF (eU vE fS (cD d9 d_ G.yaR d7 (aS (ao 5) a8)) (cA oz oA (ao 3) a4) rfl) (bh (dz 5 Jp.nd (cA eX eT (ao 5) ((bU (y6 G) (c.mono (by decide)) dE (aQ (ao 0) (gk 1 (aQ (ph (aS (mr mz mx (ao 5) o0 (ka a4)) (aS (mr mz mx (ao 5) o0 (ka a4)) (aS (mr mz mx (ao 5) (ka a4) (ka a4)) (aS (iU [97]) (aS (iU [98]) (aS (mr mz mx (ao 5) (ka (Ct BC DM a4)) o0) a8))))))) bH))))).de)))))
  (bh (dr (nh (aS (mr mz mx (ao 5) o0 (ka (cD (Co rfl) Bj G.yaT xK (aS (ao 4) (aS (cA oz oA (ao 3) ((bU (uk G) (c.mono (by decide)) cR (aQ (ao 0) (gk 1 (aQ a4 bH))))).de) a8))))) (aS (ao 4) a8)))))))))
theorem Mt:bJ ["_law_text_here","_law_width"] ["_law_text_here","_law_width"] (aJ ui):=by ac_nf
theorem um(G:cE K d b a):cK (bX P w) P w K d b "_law_seen" 1 ["_law_text_here","_law_width"] (bj K (gP a)) :=
 c8 (k:=0) (pin:=[]) G.yaC Mt rfl (λ_ _ _ _ _ _ i l=>Pu.Om (λ_ _=>rfl) i l) (λf o A h s H E n=>by exact
  (bh (dr (su rY rZ G.yaZ nq (aS (AX AA Bi G.yaX x8 (aS (ja (cap:=[0,1]) (N':=["_law_at","_law_text_here","_law_width"]) (f8.of ["_law_text_here","_law_width"] (aJ ui) rfl rfl (by decide +kernel)) rfl (uz G.yaV (aS (cD d9 d_ G.yaR d7 (aS (ao 0) a8)) a8)) (λC c g m j=>by exact o5 (eU mZ fS (cA eX eT (ao 0) (ao 2)) (cD d9 d_ G.yaR d7 (aS (ao 1) a8)) rfl)) (λC c g m j=>by exact(mr mz mx (ao 1) (ka (ao 0)) (ka (cA eX eT (ao 0) (ao 2)))))).de a8)).de a8)))))
theorem FI:bJ ["_law_text_here","_law_width","_law_windows","_law_made"] ["_law_text_here","_law_width","_law_windows"] (aJ vR):=by ac_nf
theorem J8(G:cE K d b a):cK (bX P w) P w K d b "_law_under" 2 ["_law_text_here","_law_width","_law_windows"] (bj K (mv a)) :=
 c8 (k:=1) (pin:=[]) G.yaE FI rfl (λ_ _ _ _ _ _ i m=>Pu.Ow (λ_ _ _=>rfl) i m) (λf o A h s H E l=>by exact
  (be (dz 3 FI.nd ((bU (um G) (l.mono (by decide)) cR (aQ (ao 0) (aQ (ao 1) bH)))).de)
  (bh (dr (cD (yO rfl) zh G.yaM y9 (aS (ja (cap:=[3,2]) (N':=["_law_window","_law_made","_law_windows"]) (f8.of ["_law_text_here","_law_width","_law_windows","_law_made"] (aJ vR) rfl rfl (by decide +kernel)) rfl (gx (ao 3)) (λC c g n j=>by exact m_) (λC c g n j=>by exact(r9 mZ fS (Cv (ao 1) (ao 0)) (Cv (ao 2) (ao 0)) rfl))).de a8))))))
theorem Hs:bJ ["_law_asked","_law_width","_law_windows","_law_rows","_law_k","_law_longer","_law_line"] ["_law_asked"] (aJ qH):=by ac_nf
theorem A9(G:cE K d b a):cK (bX P w) P w K d b "_law_all" 3 ["_law_asked"] (bj K (k9 a)) :=
 c8 (k:=2) (pin:=[]) G.yav Hs rfl (λ_ _ _ _ _ _ m n=>Pu.Oz (λ_=>rfl) m n) (λf o A i s H E j=>by exact
  (be (yZ 1 2 rfl Hs.nd (ao 0))
  (be (dz 3 Hs.nd (ph (aS (iU []) a8)))
  (be (k8 (nr 4 kF rfl Hs.nd (uz G.yaV (aS (cA oz oA (cA eX eT (cD d9 d_ G.yaR d7 (aS (ao 2) a8)) (ao 1)) a4) a8)) (be (pf 5 Hs.nd (qV a8))
  (be (nr 6 kF rfl Hs.nd (gx (ao 3)) (bh (IW 5 (ja (cap:=[6,1,2]) (N':=["_law_letter","_law_line","_law_width","_law_windows"]) (f8.of ["_law_asked","_law_width","_law_windows","_law_rows","_law_k","_law_longer","_law_line"] (aJ qH) rfl rfl (by decide +kernel)) rfl (gx (iU [97,98,99])) (λC c g l h=>by exact o5 (mB ((bU (J8 G) (j.mono (by decide)) dE (aQ (cA eX eT (ao 1) (ao 0)) (aQ (ao 2) (aQ (ao 3) bH))))).de)) (λC c g l h=>by exact(cA eX eT (ao 1) (ao 0)))).de)))
  (bh (dz 3 Hs.nd (Nw 5)))))))
  (bh (xS (ja (cap:=[1,2]) (N':=["_law_line","_law_width","_law_windows"]) (f8.of ["_law_asked","_law_width","_law_windows","_law_rows","_law_k","_law_longer","_law_line"] (aJ qH) rfl rfl (by decide +kernel)) rfl (gx (ao 3)) (λC c g l h=>by exact o5 (eU (kn j.units) kj ((bU (um G) (j.mono (by decide)) dE (aQ (ao 0) (aQ (ao 1) bH)))).de (ao 2) rfl)) (λC c g l h=>by exact(ao 0)))))))))
theorem Md:bJ ["_law_script","_law_town","_law_text_here","_law_width","_law_asked","_law_lines"] ["_law_script","_law_town"] (aJ x_):=by ac_nf
theorem Jt(G:cE K d b a):cK (bX P w) P w K d b "_law_few" 7 ["_law_script","_law_town"] (bj K (rj a)) :=
 c8 (k:=6) (pin:=[1]) G.yay Md rfl (λ_ _ _ _ _ _ h i=>Pu.Om (λ_ _=>rfl) h i) (λf j A g s H E c=>by exact
  (be (yZ 2 3 rfl Md.nd ((bU (G_ G) (c.mono (by decide)) cR (aQ (ao 0) (gk 1 (aQ a4 (aQ a4 bH)))))).de)
  (be (dz 4 Md.nd (nh (aS (ao 3) (aS ((bU (um G) (c.mono (by decide)) cR (aQ (ao 2) (aQ (ao 3) bH)))).de a8))))
  (be (dz 5 Md.nd ((bU (A9 G) (c.mono (by decide)) cR (aQ (ao 4) bH))).de)
  (be (k8 (xY (λ_=>1000) kF (eU oW fS (cD d9 d_ G.yaR d7 (aS (ao 5) a8)) a4 rfl) (be (dz 4 Md.nd (Kz (eU vE fS (ao 3) a4 rfl) (nh (aS (cA eX eT (ao 3) a4) (aS ((bU (um G) (c.mono (by decide)) dE (aQ (ao 2) (aQ (cA eX eT (ao 3) a4) bH)))).de a8))) (nh (aS a4 (aS (nh (aS (iU [97]) a8)) a8)))))
  (be (dz 3 Md.nd (gH gU gW (ao 4) a4))
  (bh (dz 5 Md.nd ((bU (A9 G) (c.mono (by decide)) dE (aQ (ao 4) bH))).de))))))
  (bh (dr (nh (aS (ao 4) (aS (ao 5) a8))))))))))
theorem IF:bJ ["thing"] ["thing"] (aJ xA):=by ac_nf
theorem AT(G:cE K d b a):cK (bX P w) P w K d b "is_whole_number" 1 ["thing"] (bj K (oB a)) :=
 c8 (k:=0) (pin:=[]) G.yar IF rfl (λ_ _ _ _ _ _ g h=>Pu.Oz (λ_=>rfl) g h) (λf j A c s H E i=>by exact
  (bh (dr (rO (cD qJ rA G.yaQ rJ (aS (ao 0) (aS (qN G.yaP K3) a8))) (uh (LW (cD qJ rA G.yaQ rJ (aS (ao 0) (aS (qN G.yaO KQ) a8)))))))))
theorem MT:bJ ["thing"] ["thing"] (aJ zd):=by ac_nf
theorem Iz(G:cE K d b a):cK (bX P w) P w K d b "is_width" 2 ["thing"] (bj K (pD a)) :=
 c8 (k:=1) (pin:=[]) G.yas MT rfl (λ_ _ _ _ _ _ g i=>Pu.Oz (λ_=>rfl) g i) (λf j A c s H E h=>by exact
  (bh (dr (rO ((bU (AT G) (h.mono (by decide)) cR (aQ (ao 0) bH))).de (uh (Nj mZ mZ fS fS a4 (ao 0) (yN G.ybf)))))))
theorem GL:bJ ["text","signs"] ["text","signs"] (aJ uF):=by ac_nf
theorem KL(G:cE K d b a):cK (bX P w) P w K d b "has_only" 1 ["text","signs"] (bj K (vN a)) :=
 c8 (k:=0) (pin:=[]) G.yao GL rfl (λ_ _ _ _ _ _ i l=>Pu.Om (λ_ _=>rfl) i l) (λf o A h s H E n=>by exact
  (bh (dr (cD (yO rfl) zh G.yaM y9 (aS (ja (cap:=[1]) (N':=["sign","signs"]) (f8.of ["text","signs"] (aJ uF) rfl rfl (by decide +kernel)) rfl (gx (ao 0)) (λC c g m j=>by exact m_) (λC c g m j=>by exact(r9 Mn Fo (ao 0) (ao 1) rfl))).de a8)))))
theorem GP:bJ ["thing","width","signs"] ["thing","width","signs"] (aJ yI):=by ac_nf
theorem BH(G:cE K d b a):cK (bX P w) P w K d b "is_window" 2 ["thing","width","signs"] (bj K (nO a)) :=
 c8 (k:=1) (pin:=[]) G.yat GP rfl (λ_ _ _ _ _ _ h i=>Pu.Ow (λ_ _ _=>rfl) h i) (λf j A c s H E g=>by exact
  (bh (dr (rO (cD qJ rA G.yaQ rJ (aS (ao 0) (aS (qN G.yaY Jm) a8))) (rO (r9 (kn g.units) kj (cD d9 d_ G.yaR d7 (aS (ao 0) a8)) (ao 1) rfl) (uh ((bU (KL G) (g.mono (by decide)) cR (aQ (ao 0) (aQ (ao 2) bH)))).de))))))
theorem L4:bJ ["thing","width","signs"] ["thing","width","signs"] (aJ uH):=by ac_nf
theorem Jg(G:cE K d b a):cK (bX P w) P w K d b "are_windows" 3 ["thing","width","signs"] (bj K (ml a)) :=
 c8 (k:=2) (pin:=[]) G.yaj L4 rfl (λ_ _ _ _ _ _ j m=>Pu.Ow (λ_ _ _=>rfl) j m) (λf o A h s H E i=>by exact
  (be (fQ ((uB (kW (mB (cD qJ rA G.yaQ rJ (aS (ao 0) (aS (qN G.yaZ nq) a8))))) (uw (kW (AY mZ mZ fS fS a4 (cD d9 d_ G.yaR d7 (aS (ao 0) a8)) (yN G.ybe)))))).dt (bh (dr rE)) fN)
  (be (fQ (kW (mB (cD (yO rfl) zh G.yaM y9 (aS (ja (cap:=[1,2]) (N':=["window","width","signs"]) (f8.of ["thing","width","signs"] (aJ uH) rfl rfl (by decide +kernel)) rfl (gx (ao 0)) (λC c g n l=>by exact m_) (λC c g n l=>by exact((bU (BH G) (i.mono (by decide)) dE (aQ (ao 0) (aQ (ao 1) (aQ (ao 2) bH))))).de)).de a8)))) (bh (dr rE)) fN)
  (bh (dr (r9 (kn i.units) kj (B5 y8 yb G.yaS xq (aS (ao 0) a8)).de (AX AA Bi G.yaX x8 (aS (ao 0) a8)).de rfl))))))
theorem Fc:bJ ["thing","signs"] ["thing","signs"] (aJ yA):=by ac_nf
theorem GR(G:cE K d b a):cK (bX P w) P w K d b "is_view_with" 4 ["thing","signs"] (bj K (o6 a)) :=
 c8 (k:=3) (pin:=[]) G.yaq Fc rfl (λ_ _ _ _ _ _ h i=>Pu.Om (λ_ _=>rfl) h i) (λf j A c s H E g=>by exact
  (be (fQ ((uB (kW (mB (cD qJ rA G.yaQ rJ (aS (ao 0) (aS (qN G.yaZ nq) a8))))) (uw (eU (AU g.units) CV (cD d9 d_ G.yaR d7 (aS (ao 0) a8)) a4 rfl)))).dt (bh (dr rE)) fN)
  (bh (dr (rO ((bU (Iz G) (g.mono (by decide)) cR (aQ (gH gU gW (ao 0) a4) bH))).de (uh ((bU (Jg G) (g.mono (by decide)) cR (aQ (gH gU gW (ao 0) a4) (aQ (gH gU gW (ao 0) a4) (aQ (ao 1) bH))))).de))))))
theorem Ge:bJ ["thing"] ["thing"] (aJ yg):=by ac_nf
theorem LY(G:cE K d b a):cK (bX P w) P w K d b "is_view" 5 ["thing"] (bj K (ve a)) :=
 c8 (k:=4) (pin:=[]) G.yap Ge rfl (λ_ _ _ _ _ _ g i=>Pu.Oz (λ_=>rfl) g i) (λf j A c s H E h=>by exact
  (bh (wT (bU (GR G) (h.mono (by decide)) cR (aQ (ao 0) (aQ (vJ G.ybc) bH))))))
theorem NJ:bJ ["thing"] ["thing"] (aJ ze):=by ac_nf
theorem Mj(G:cE K d b a):cK (bX P w) P w K d b "check_view" 6 ["thing"] (bj K (uJ a)) :=
 c8 (k:=5) (pin:=[]) G.yam NJ rfl (λ_ _ _ _ _ _ g i=>Pu.Oz (λ_=>rfl) g i) (λf j A c s H E h=>by exact
  (bh (fQ (kW (mB ((bU (LY G) (h.mono (by decide)) cR (aQ (ao 0) bH))).de)) (bh (o8 oE rfl G.ya6 sV (iU [97,32,118,105,101,119,32,105,115,32,97,32,116,117,112,108,101,32,111,102,32,97,32,119,105,100,116,104,32,97,110,100,32,97,32,114,105,115,105,110,103,32,116,117,112,108,101,32,111,102,32,49,32,116,111,32,57,32,119,105,110,100,111,119,115]))) fN)))
theorem AL:bJ ["text","width","left","found","head","letter","window"] ["text","width","left","found"] (aJ xJ):=by ac_nf
theorem JD(G:cE K d b a)(m:Nat):cK (bX P w) P w K d b "add_endings" (1+m) ["text","width","left","found"] (bj K (my a m)):=by
 induction m with
 |zero=>exact c8 (k:=0) (pin:=[2,3]) G.yah AL rfl (λ_ _ _ _ _ _ h i=>Pu.OI (λ_ _ _ _=>rfl) h i) (λf l A c s H E g=>DP)
 |succ m j=>exact c8 (k:=1+m) (pin:=[2,3]) G.yah AL rfl (λ_ _ _ _ _ _ h i=>Pu.OI (λ_ _ _ _=>rfl) h i) (λf l A c s H E g=>by exact
  (be (fQ (kW (mB (Ki 2 rfl G.yaN))) (be (Cr 3 (ao 0))
  (bh M7)) fN)
  (be (dz 4 AL.nd (mr mz mx (ao 0) (ka (cA eX eT (cA oz oA (cD d9 d_ G.yaR d7 (aS (ao 0) a8)) (ao 1)) a4)) o0))
  (bh (k8 (nr 5 kF rfl AL.nd (gx (vJ G.ybc)) (be (dz 6 AL.nd (cA eX eT (ao 4) (ao 5)))
  (bh (fQ (eU oW fS (Db 2 g.units (ao 6) a4) a4 rfl) (be (yY 2 g.units (ao 6) (cA oz oA (BW 2 g.units (ao 6)) a4))
  (be (oy (bU j (g.mono ∅) dE (aQ (cA eX eT (ao 0) (ao 5)) (aQ (ao 1) (gk 2 (gk 3 bH))))))
  (bh (yY 2 g.units (ao 6) (cA eX eT (BW 2 g.units (ao 6)) a4))))) fN)))))))))
theorem FS:bJ ["windows","counts","window"] ["windows"] (aJ xk):=by ac_nf
theorem Hl(G:cE K d b a):cK (bX P w) P w K d b "counted" 1 ["windows"] (bj K (sq a)) :=
 c8 (k:=0) (pin:=[]) G.yan FS rfl (λ_ _ _ _ _ _ h i=>Pu.Oz (λ_=>rfl) h i) (λf j A c s H E g=>by exact
  (be (pf 1 FS.nd (GW))
  (be (k8 (nr 2 kF rfl FS.nd (gx (ao 0)) (bh (yY 1 g.units (ao 2) (cA eX eT (Db 1 g.units (ao 2) a4) a4)))))
  (bh (CP 1)))))
theorem NM:bJ ["view","width","found","head"] ["view"] (aJ vU):=by ac_nf
theorem FW(G:cE K d b a):cK (bX P w) P w K d b "texts" 14 ["view"] (bj K (vC a)) :=
 c8 (k:=13) (pin:=[]) G.yaI NM rfl (λ_ _ _ _ _ _ j m=>Pu.Oz (λ_=>rfl) j m) (λf o A h s H E i=>by exact
  (be (oy (bU (Mj G) (i.mono (by decide)) cR (aQ (ao 0) bH)))
  (be (dz 1 NM.nd (gH gU gW (ao 0) a4))
  (be (pf 2 NM.nd (qV a8))
  (be (k8 (nr 3 kF rfl NM.nd (gx (Jy rfl (aS (ja (cap:=[]) (N':=["window"]) (f8.of ["view","width","found","head"] (aJ vU) rfl rfl (by decide +kernel)) rfl (gx (gH gU gW (ao 0) a4)) (λC c g n l=>by exact m_) (λC c g n l=>by exact(mr mz mx (ao 0) o0 (ka (Ct BC DM a4))))).de a8) G.yaX G.yaW).de) (bh (oy (Dh (JD G 12) (i.mono (by decide)) dE (wY (ao 3) (wY (ao 1) (Bv (((bU (Hl G) (i.mono (by decide)) dE (aQ (gH gU gW (ao 0) a4) bH))).dn) (gk 2 bH)))))))))
  (bh (CP 2)))))))
def CG(a:Ad):ag->R aE:=aF (aZ 2 (ax (aD (vC a) (gV (dV 1) (bE)))))
 (aF (ca (dB (d2 (eqT aj) (dL aV (aq (dV 2) (aA))) (dC (.int 0)))) (kX (.ref a.Never) (λc=>bp ((dC (.str [110,111,32,116,101,120,116,32,104,97,115,32,116,104,105,115,32,118,105,101,119])) c))) (cL))
 (aF (ca (dB (d2 (bR λi j=>decide (j<i)) (dL aV (aq (dV 2) (aA))) (dC (.int 16)))) (kX (.ref a.Full) (λc=>bp ((dC (.str [97,32,115,101,101,107,101,114,32,116,97,107,101,115,32,97,32,118,105,101,119,32,116,104,97,116,32,117,112,32,116,111,32,49,54,32,116,101,120,116,115,32,104,97,118,101])) c))) (cL))
 (aF (xu a.Seeker 0 "having" (dL iP (aq (dV 2) (aA))))
 (uG a.Seeker 0 "answers" (dL eB (aA))))))
def kb(a:Ad):ag->R Slot:=bz 2 [0] (a6 1 (CG a))
theorem HA:bJ ["self","view","having"] ["self","view"] (aJ yr):=by ac_nf
theorem Jn(G:cE K d b a):zf (bX P w) P w K d b a.Seeker 15 ["self","view"] (bj K (kb a)) :=
 Ie (k:=14) (pin:=[0]) G.yaK HA rfl (λ_ _ _ _ _ _ h i=>Pu.Om (λ_ _=>rfl) h i) (λf j A c s H E g=>by exact
  (be (dz 2 HA.nd ((bU (FW G) (g.mono (by decide)) cR (aQ (ao 1) bH))).de)
  (be (fQ (eU (kn g.units) kj (cD d9 d_ G.yaR d7 (aS (ao 2) a8)) a4 rfl) (bh (o8 oE rfl G.ya3 sV (iU [110,111,32,116,101,120,116,32,104,97,115,32,116,104,105,115,32,118,105,101,119]))) fN)
  (be (fQ (eU oW fS (cD d9 d_ G.yaR d7 (aS (ao 2) a8)) (yN G.ybd) rfl) (bh (o8 oE rfl G.ya2 sV (iU [97,32,115,101,101,107,101,114,32,116,97,107,101,115,32,97,32,118,105,101,119,32,116,104,97,116,32,117,112,32,116,111,32,49,54,32,116,101,120,116,115,32,104,97,118,101]))) fN)
  (be (JY 0 G.k_Seeker G.ya1 (su rY rZ G.yaZ nq (aS (ao 2) a8)))
  (bh (LN 0 G.k_Seeker G.ya0 (qV a8))))))))
theorem K0:bJ ["left","place","letter"] ["left","place","letter"] (aJ vF):=by ac_nf
theorem uC(G:cE K d b a):cK (bX P w) P w K d b "with_letter" 1 ["left","place","letter"] (bj K (gM a)) :=
 c8 (k:=0) (pin:=[]) G.yaJ K0 rfl (λ_ _ _ _ _ _ i m=>Pu.Ow (λ_ _ _=>rfl) i m) (λf o A h s H E l=>by exact
  (bh (dr (su rY rZ G.yaZ nq (aS (ja (cap:=[1,2]) (N':=["text","place","letter"]) (f8.of ["left","place","letter"] (aJ vF) rfl rfl (by decide +kernel)) rfl (gx (ao 0)) (λC c g n j=>by exact o5 (eU (kn l.units) kj (gH gU gW (ao 0) (ao 1)) (ao 2) rfl)) (λC c g n j=>by exact(ao 0))).de a8)))))
theorem Nc:bJ ["left","place"] ["left","place"] (aJ vA):=by ac_nf
theorem C5(G:cE K d b a):cK (bX P w) P w K d b "answers_to" 2 ["left","place"] (bj K (jI a)) :=
 c8 (k:=1) (pin:=[]) G.yai Nc rfl (λ_ _ _ _ _ _ i m=>Pu.Om (λ_ _=>rfl) i m) (λf o A h s H E l=>by exact
  (bh (xS (ja (cap:=[0,1]) (N':=["letter","left","place"]) (f8.of ["left","place"] (aJ vA) rfl rfl (by decide +kernel)) rfl (gx (vJ G.ybc)) (λC c g n j=>by exact o5 (eU oW fS (cD d9 d_ G.yaR d7 (aS ((bU (uC G) (l.mono (by decide)) dE (aQ (ao 1) (aQ (ao 2) (aQ (ao 0) bH))))).de a8)) a4 rfl)) (λC c g n j=>by exact(ao 0))))))
theorem JN:bJ ["place","left","known","parts"] ["place","left","known"] (aJ qM):=by ac_nf
theorem Cg(G:cE K d b a){m:Nat}{n:ag->R Slot}(r:2<=m)(p:cK (bX P w) P w K d b "needed_for" m ["left","known"] (bj K n)):cK (bX P w) P w K d b "needed_by" (m+1) ["place","left","known"] (bj K (jc a n)) :=
 c8 (k:=m) (pin:=[2]) G.yaF JN rfl (λ_ _ _ _ _ _ o q=>Pu.Ow (λ_ _ _=>rfl) o q) (λf u A i s H E j=>by exact
  (be (FA 3 JN.nd (cap:=[1,0]) (N':=["letter","left","place"]) (f8.of ["place","left","known","parts"] (aJ qM) rfl rfl (by decide +kernel)) rfl (gx ((bU (C5 G) (j.mono ∅) cR (aQ (ao 1) (aQ (ao 0) bH)))).de) (λC c g l h=>by exact m_) (λC c g l h=>by exact((bU (uC G) (j.mono ∅) dE (aQ (ao 1) (aQ (ao 2) (aQ (ao 0) bH))))).de))
  (bh (dr (cA eX eT a4 (cD (Hv rfl) Gp G.yaT xK (aS (ja (cap:=[2]) (N':=["part","known"]) (f8.of ["place","left","known","parts"] (aJ qM) rfl rfl (by decide +kernel)) rfl (gx (ao 3)) (λC c g l h=>by exact m_) (λC c g l h=>by exact((bU p (j.mono ∅) dE (aQ (ao 0) (gk 1 bH)))).de)).de a8)))))))
theorem FH:bJ ["left"] ["left"] (aJ ul):=by ac_nf
theorem DL(G:cE K d b a):cK (bX P w) P w K d b "places_to_ask" 3 ["left"] (bj K (jk a)) :=
 c8 (k:=2) (pin:=[]) G.yaH FH rfl (λ_ _ _ _ _ _ i m=>Pu.Oz (λ_=>rfl) i m) (λf o A h s H E l=>by exact
  (bh (xS (ja (cap:=[0]) (N':=["place","left"]) (f8.of ["left"] (aJ ul) rfl rfl (by decide +kernel)) rfl (uz G.yaV (aS (cD d9 d_ G.yaR d7 (aS (gH gU gW (ao 0) a4) a8)) a8)) (λC c g n j=>by exact o5 (eU oW fS (cD d9 d_ G.yaR d7 (aS ((bU (C5 G) (l.mono (by decide)) dE (aQ (ao 1) (aQ (ao 0) bH)))).de a8)) a4 rfl)) (λC c g n j=>by exact(ao 0))))))
theorem AE:bJ ["left","known"] ["left","known"] (aJ uP):=by ac_nf
theorem Bc(G:cE K d b a)(m:Nat):cK (bX P w) P w K d b "needed_for" (4+2*m) ["left","known"] (bj K (fz a m)):=by
 induction m with
 |zero=>exact c8 (k:=3) (pin:=[1]) G.yaG AE rfl (λ_ _ _ _ _ _ j l=>Pu.Om (λ_ _=>rfl) j l) (λf q A c s H E g=>DP)
 |succ m o=>exact c8 (k:=4+2*m+1) (pin:=[1]) G.yaG AE rfl (λ_ _ _ _ _ _ j l=>Pu.Om (λ_ _=>rfl) j l) (λf q A c s H E g=>by exact
  (be (fQ (eU (kn g.units) kj (cD d9 d_ G.yaR d7 (aS (ao 0) a8)) a4 rfl) (bh (dr a4)) fN)
  (be (fQ (NK 1 g.units (ao 0)) (bh (NQ 1 g.units (ao 0) (cD (Fm rfl) Fg G.yaU E4 (aS (ja (cap:=[0,1]) (N':=["place","left","known"]) (f8.of ["left","known"] (aJ uP) rfl rfl (by decide +kernel)) rfl (gx ((bU (DL G) (g.mono ∅) cR (aQ (ao 0) bH))).de) (λC h i p n=>by exact m_) (λC h i p n=>by exact((bU (Cg G ∅ o) (g.mono ∅) dE (aQ (ao 0) (aQ (ao 1) (gk 2 bH))))).de)).de a8)))) fN)
  (bh (dr (JA 1 g.units (ao 0)))))))
def iq(a:Ad):ag->R Slot:=mn 1 3 [0] (aZ 1 (jt a.Seeker "answers" 0 "having")) (λε=>cU (mh a.Seeker "answers" 0 2 3 (aZ 1 (ax (aD (gM a) (gV (dV 1) (gV (dV 2) (gV (dV 3) (bE))))))) ε)) (dL jE (aq (dV 1) (aA)))
theorem Hk:bJ ["self","found","place","letter"] ["self"] (aJ xH):=by ac_nf
theorem vK(G:cE K d b a):jz (bX P w) P w K d b a.Seeker "left" 2 ["self"] (bj K (iq a)) :=
 GD (k:=1) (pin:=[0]) G.yba Hk rfl (λ_ _ _ _ _ _ i j=>Pu.Oz (λ_=>rfl) i j) rfl (λf h A c s H E g=>by exact
  ((dz 1 Hk.nd (A5 0 "answers" G.k_Seeker G.ya1)))) (λf h A c s H E g=>by exact
  ((k8 (IX 0 2 3 G.k_Seeker G.ya0 kF rfl Hk.nd (bh (dz 1 Hk.nd ((bU (uC G) (g.mono (by decide)) dE (aQ (ao 1) (aQ (ao 2) (aQ (ao 3) bH))))).de)))))) (λf h A c s H E g=>by exact
  (B5 y8 yb G.yaS xq (aS (ao 1) a8)))
def Bd(a:Ad):ag->R aE:=oF (kR (fz a 17) (lm (dL iP (aq (ax (cr a.Seeker "left" 0 (iq a))) (aA))) (gN (pq) (bE))))
def iW(a:Ad):ag->R Slot:=fA 1 [0] (a6 0 (Bd a))
theorem K7:bJ ["self"] ["self"] (aJ yJ):=by ac_nf
theorem xz(G:cE K d b a):jz (bX P w) P w K d b a.Seeker "needed" 39 ["self"] (bj K (iW a)) :=
 B9 (k:=38) (pin:=[0]) G.ybb K7 rfl (λ_ _ _ _ _ _ h i=>Pu.Oz (λ_=>rfl) h i) (λf j A c s H E g=>by exact
  (bh (wT (Dh (Bc G 17) (g.mono (by decide)) cR (wY (su rY rZ G.yaZ nq (aS ((jN 0 G.k_Seeker (vK G) (g.mono (by decide)) cR)).de a8)) (Bv (Bs) bH))))))
def LZ(a:Ad):ag->R aE:=aF (aZ 1 (dL iP (aq (ax (cr a.Seeker "left" 0 (iq a))) (aA))))
 (aF (ca (dB (d2 (eqT aj) (dL aV (aq (dV 1) (aA))) (dC (.int 1)))) (bD (dC .non)) (cL))
 (aF (ir 2 pq)
 (bD (qO [1,2] (oG (ax (aD (jk a) (gV (dV 1) (bE))))) (ax (aD (jc a (fz a 17)) (gV (dV 0) (gV (dV 1) (gO 2 (bE))))))))))
def jH(a:Ad):ag->R Slot:=fA 1 [0] (a6 2 (LZ a))
theorem FJ:bJ ["self","left","known"] ["self"] (aJ vT):=by ac_nf
theorem C_(G:cE K d b a):jz (bX P w) P w K d b a.Seeker "best" 42 ["self"] (bj K (jH a)) :=
 IY G.yaL (by decide) (k:=41) (pin:=[0]) G.ya7 FJ rfl (λ_ _ _ _ _ _ m n=>Pu.Oz (λ_=>rfl) m n) (λf p c T A h s H E g j=>by exact
  (be (dz 1 FJ.nd (su rY rZ G.yaZ nq (aS ((jN 0 G.k_Seeker (vK G) (g.mono (by decide)) cR)).de a8)))
  (be (fQ (eU (kn g.units) kj (cD d9 d_ G.yaR d7 (aS (ao 1) a8)) a4 rfl) (bh (dr Ao)) fN)
  (be (pf 2 FJ.nd Bs)
  (bh (dr (FZ (x:="place") (cap:=[1,2]) (N':=["place","left","known"]) (f8.of ["self","left","known"] (aJ vT) rfl rfl (by decide +kernel)) rfl g (by first|exact j|exact uN.nox j) G.yaU (((bU (DL G) (g.mono (by decide)) cR (aQ (ao 1) bH))).de) (λq f o i l g=>by exact((bU (Cg G ∅ (Bc G 17)) (g.mono (by decide)) dE (aQ (ao 0) (aQ (ao 1) (gk 2 bH))))).de))))))))
theorem Hh:bJ ["thing","count"] ["thing","count"] (aJ x9):=by ac_nf
theorem K6(G:cE K d b a):cK (bX P w) P w K d b "check_place" 2 ["thing","count"] (bj K (qQ a)) :=
 c8 (k:=1) (pin:=[]) G.yal Hh rfl (λ_ _ _ _ _ _ g i=>Pu.Om (λ_ _=>rfl) g i) (λf j A c s H E h=>by exact
  (bh (fQ ((uB (kW (mB ((bU (AT G) (h.mono (by decide)) cR (aQ (ao 0) bH))).de)) (uw (kW (AY mZ vE fS fS a4 (ao 0) (ao 1)))))).dt (bh (o8 oE rfl G.ya5 sV (iU [97,32,112,108,97,99,101,32,105,115,32,97,32,119,104,111,108,101,32,110,117,109,98,101,114,32,102,114,111,109,32,48,32,111,110,44,32,108,101,115,115,32,116,104,97,110,32,116,104,101,32,116,101,120,116,32,104,97,115,32,108,101,116,116,101,114,115]))) fN)))
theorem HC:bJ ["thing"] ["thing"] (aJ ye):=by ac_nf
theorem KJ(G:cE K d b a):cK (bX P w) P w K d b "check_letter" 3 ["thing"] (bj K (rQ a)) :=
 c8 (k:=2) (pin:=[]) G.yak HC rfl (λ_ _ _ _ _ _ g i=>Pu.Oz (λ_=>rfl) g i) (λf j A c s H E h=>by exact
  (bh (fQ (kW (mB ((bU (BH G) (h.mono (by decide)) cR (aQ (ao 0) (aQ a4 (aQ (vJ G.ybc) bH))))).de)) (bh (o8 oE rfl G.ya4 sV (iU [97,32,108,101,116,116,101,114,32,105,115,32,97,44,32,98,32,111,114,32,99]))) fN)))
def HW(a:Ad):ag->R aE:=aF (gX (aD (qQ a) (gV (dV 1) (gV (dL aV (aq (d2 bN (jt a.Seeker "answers" 0 "having") (dC (.int 0))) (aA))) (bE)))))
 (aF (gX (aD (rQ a) (gV (dV 2) (bE))))
 (aF (aZ 3 (ax (aD (gM a) (gV (ax (cr a.Seeker "left" 0 (iq a))) (gV (dV 1) (gV (dV 2) (bE)))))))
 (aF (ca (dB (d2 (eqT aj) (dL aV (aq (dV 3) (aA))) (dC (.int 0)))) (kX (.ref a.Never) (λc=>bp ((dC (.str [110,111,32,116,101,120,116,32,116,104,97,116,32,105,115,32,108,101,102,116,32,104,97,115,32,116,104,105,115,32,108,101,116,116,101,114,32,116,104,101,114,101])) c))) (cL))
 (aF (nR a.Seeker "answers" 0 (dL dU (aq (dV 1) (aq (dV 2) (aA)))))
 (bD (dL aV (aq (dV 3) (aA))))))))
def mf(a:Ad):ag->R Slot:=fA 3 [0] (a6 1 (HW a))
theorem IA:bJ ["self","place","letter","found"] ["self","place","letter"] (aJ wO):=by ac_nf
theorem Kt(G:cE K d b a):jz (bX P w) P w K d b a.Seeker "hear" 4 ["self","place","letter"] (bj K (mf a)) :=
 B9 (k:=3) (pin:=[0]) G.ya8 IA rfl (λ_ _ _ _ _ _ h i=>Pu.Ow (λ_ _ _=>rfl) h i) (λf j A g s H E c=>by exact
  (be (oy (bU (K6 G) (c.mono (by decide)) cR (aQ (ao 1) (aQ (cD d9 d_ G.yaR d7 (aS (gH gU gW (A5 0 "answers" G.k_Seeker G.ya1) a4) a8)) bH))))
  (be (oy (bU (KJ G) (c.mono (by decide)) cR (aQ (ao 2) bH)))
  (be (dz 3 IA.nd ((bU (uC G) (c.mono (by decide)) cR (aQ ((jN 0 G.k_Seeker (vK G) (c.mono (by decide)) cR)).de (aQ (ao 1) (aQ (ao 2) bH))))).de)
  (be (fQ (eU (kn c.units) kj (cD d9 d_ G.yaR d7 (aS (ao 3) a8)) a4 rfl) (bh (o8 oE rfl G.ya3 sV (iU [110,111,32,116,101,120,116,32,116,104,97,116,32,105,115,32,108,101,102,116,32,104,97,115,32,116,104,105,115,32,108,101,116,116,101,114,32,116,104,101,114,101]))) fN)
  (be (JU 0 G.k_Seeker G.ya0 (nh (aS (ao 1) (aS (ao 2) a8))))
  (bh (dr (cD d9 d_ G.yaR d7 (aS (ao 3) a8))))))))))
def lu(a:Ad):ag->R Slot:=o4 1 (qZ (λxs=>vp (jE xs)) a.Seeker "answers" 0)
theorem LG:bJ ["self"] ["self"] (aJ xr):=by ac_nf
theorem B2(G:cE K d b a):jz (bX P w) P w K d b a.Seeker "heard" 1 ["self"] (bj K (lu a)) :=
 Fz (k:=0) G.ya9 LG rfl (λ_ _ _ _ _ _ g h=>Pu.Oz (λ_=>rfl) g h) rfl (λf j A c s H E i=>by exact
  (L7 0 G.k_Seeker G.ya0 y8 yb G.yaS xq))
def yau(a:Ad):ag->R aE:=aF (ir 1 (dL eB (aA)))
 (aF (jF 2 3 (ax (aD (rj a) (gV (dV 0) (gO 1 (bE))))))
 (aF (aZ 4 (dC (.int 0)))
 (aF (λc=>cU (eN 5 (bI (dV 3)) (aF (ir 6 (li a.Seeker (kb a) (gV (dV 2) (bE))))
 (aF (aZ 7 (ax (cr a.Seeker "needed" 6 (iW a))))
 (aF (λc=>dj (dB (d2 (qW ai) (ax (cr a.Seeker "best" 6 (jH a))) (dC .non))) (aF (aZ 8 (ax (cr a.Seeker "needed" 6 (iW a))))
 (aF (aZ 9 (ax (cr a.Seeker "best" 6 (jH a))))
 (aF (gX (ng a.Seeker "hear" 6 (mf a) (gV (dV 9) (gV (d2 bN (dV 5) (dV 9)) (bE)))))
 (ca (dB (d2 (bR λi j=>decide (j<=i)) (ax (cr a.Seeker "needed" 6 (iW a))) (dV 8))) (bD (dC (.bl aj))) (cL))))) 1000 c)
 (aF (ca (j_ (dB (d2 (eqT ai) (ax (cr a.Seeker "left" 6 (iq a))) (dF (dL eB (aq (dV 5) (aA)))))) (dB (d2 (bR λi j=>decide (j<i)) (dL aV (aq (ax (cr a.Seeker "heard" 6 (lu a))) (aA))) (dV 7)))) (bD (dC (.bl aj))) (cL))
 (aZ 4 (dL nL (aq (dV 4) (aq (dL aV (aq (ax (cr a.Seeker "heard" 6 (lu a))) (aA))) (aA))))))))) c))
 (bD (d2 (eqT aj) (dV 4) (dV 7))))))
def qP(a:Ad):ag->R Slot:=bz 1 [] (a6 9 (yau a))
theorem Kh:bJ ["_law_script","_law_town","_law_asked","_law_lines","_law_most","_law_text_here","_law_seeker","_law_begun","_law_before","_law_place"] ["_law_script"] (aJ uc):=by ac_nf
theorem JZ(G:cE K d b a){f:ac}{h:gb}(l:ki K "law" "law" uc f h):fO P w K d b (bX P w) 43 f h ["_law_script"] (bj K (qP a)) :=
 BR (k:=42) (pin:=[]) l Kh rfl (λ_ _ _ _ _ _ i j=>Pu.Oz (λ_=>rfl) i j) (λf m A g s H E c=>by exact
  (be (pf 1 Kh.nd (qV a8))
  (be (yZ 2 3 rfl Kh.nd ((bU (Jt G) (c.mono (by decide)) cR (aQ (ao 0) (gk 1 bH)))).de)
  (be (dz 4 Kh.nd a4)
  (be (k8 (nr 5 kF rfl Kh.nd (gx (ao 3)) (be (pf 6 Kh.nd (G3 (Jn G) (c.mono (by decide)) dE G.yaf (aQ (ao 2) bH)))
  (be (dz 7 Kh.nd ((jN 6 G.k_Seeker (xz G) (c.mono (by decide)) dE)).de)
  (be (xY (λ_=>1000) kF (eU Ir Mu ((jN 6 G.k_Seeker (C_ G) (c.mono (by decide)) dE)).de Ao rfl) (be (dz 8 Kh.nd ((jN 6 G.k_Seeker (xz G) (c.mono (by decide)) dE)).de)
  (be (dz 9 Kh.nd ((jN 6 G.k_Seeker (C_ G) (c.mono (by decide)) dE)).de)
  (be (oy (GT 6 G.k_Seeker (Kt G) (c.mono (by decide)) dE (aQ (ao 9) (aQ (gH gU gW (ao 5) (ao 9)) bH))))
  (bh (fQ (eU J3 fS ((jN 6 G.k_Seeker (xz G) (c.mono (by decide)) dE)).de (ao 8) rfl) (bh (dr rE)) fN))))))
  (be (fQ ((uB (eU (AU c.units) CV ((jN 6 G.k_Seeker (vK G) (c.mono (by decide)) dE)).de (ph (aS (ao 5) a8)) rfl) (uw (eU oW fS (cD d9 d_ G.yaR d7 (aS ((jN 6 G.k_Seeker (B2 G) (c.mono (by decide)) dE)).de a8)) (ao 7) rfl)))).dt (bh (dr rE)) fN)
  (bh (dz 4 Kh.nd (cD (Co rfl) Bj G.yaT xK (aS (ao 4) (aS (cD d9 d_ G.yaR d7 (aS ((jN 6 G.k_Seeker (B2 G) (c.mono (by decide)) dE)).de a8)) a8)))))))))))
  (bh (dr (r9 (kn c.units) kj (ao 4) (ao 7) rfl))))))))
end
end K32
namespace Mx
open L2 Pu
def bA:Tx:=[97,98,99]
def c9:Nat->List Tx
 |0=>[[]]
 |k+1=>bA.flatMap λc=>(c9 k).map (c::·)
theorem lq:∀(k:Nat) (x:Tx),x∈c9 k↔x.length=k/\∀c∈x,c∈bA
 |0,x=>by
  simp only[c9,g9];constructor
  .rintro rfl;simp
  .rintro⟨h,_⟩;exact EF.mp h
 |k+1,x=>by
  simp only[c9,List.mem_flatMap,b7];constructor
  .rintro⟨c,i,y,g,rfl⟩;obtain⟨f,b⟩:=(lq k y).mp g;refine⟨by simp[f],λd a=>?_⟩;rcases bV.mp a with rfl|a
   .exact i
   .exact b d a
  .rintro⟨f,b⟩;cases x with
   |nil=>cases f
   |cons c y=>exact⟨c,b c (by simp),y,(lq k y).mpr ⟨zR f,λd a=>b d (by simp[a])⟩,rfl⟩
theorem yT:∀k:Nat,(c9 k).length=3^k
 |0=>rfl
 |k+1=>by simp only[c9,bA,qc,EG,eG,cf,yT k,kD,Nat.pow_succ];lia
theorem Ce(i j:Nat):c9 (i+j)=(c9 i).flatMap λh=>(c9 j).map (h++·):=by
 induction i with
 |zero=>simp[c9]
 |succ i a=>rw[show i+1+j=(i+j)+1 by lia];simp only[c9,a,List.flatMap_assoc,List.map_flatMap,List.flatMap_map,fe,Function.comp_def,ED]
theorem F6(k:Nat):c9 (k+1)=(c9 k).flatMap λh=>bA.map λc=>h++[c]:=by rw[Ce k 1];congr 1
theorem yK:∀k:Nat,(c9 k).Pairwise (λa b=>a<b)
 |0=>by simp[c9]
 |k+1=>by
  simp only[c9];rw[List.pairwise_flatMap];refine⟨λc _=>?_,?_⟩
  .rw[List.pairwise_map];exact(yK k).imp λh=>List.cons_lt_cons_iff.mpr (.inr ⟨rfl,h⟩)
  .have:bA.Pairwise (λa b=>a<b):=by decide
   refine this.imp λh=>?_;intro x f y d;obtain⟨i,_,rfl⟩:=b7.mp f;obtain⟨g,_,rfl⟩:=b7.mp d;exact List.cons_lt_cons_iff.mpr (.inl h)
theorem Fb{a b:Tx}(h:a<b):c6 a b=ai:=by simp only[c6,decide_eq_true_eq];exact List.le_of_lt h
theorem FP(k:Nat):(c9 k).Pairwise (λa b=>c6 a b=ai):=(yK k).imp Fb
theorem Cb(k:Nat):(c9 k).Nodup:=(yK k).imp λh z=>by subst z;exact List.lt_irrefl _ h
def bw(z:Tx)(w:Nat):List Tx:=((cp z.length).filter λi=>decide (i+w<=z.length)).map λi=>(z.drop i).take w
theorem Cw(w L:Nat):∀m:Nat,(cp m).filter (λi=>decide (i+w<=L))=cp (min m (L+1-w))
 |0=>by simp
 |m+1=>by
  rw[sM,List.filter_append,Cw w L m];by_cases h:m+w<=L
  .rw[show min m (L+1-w)=m by lia,show min (m+1) (L+1-w)=m+1 by lia,sM];simp[h]
  .rw[show min (m+1) (L+1-w)=min m (L+1-w) by lia];simp[h]
theorem vy(z:Tx)(w:Nat)(a:1<=w):bw z w=(cp (z.length+1-w)).map λi=>(z.drop i).take w:=by unfold bw;rw[Cw,show min z.length (z.length+1-w)=z.length+1-w by lia]
def nw(w:Nat)(t:Tx):Tx->List Tx
 |[]=>[]
 |c::s=>(t.drop (t.length+1-w)++[c])::nw w (t++[c]) s
theorem Dx(w:Nat)(b:1<=w):∀(s t:Tx),w<=t.length+1->nw w t s=(cp s.length).map λi=>((t++s).drop (t.length+1-w+i)).take w
 |[],t,_=>by simp[nw]
 |c::s,t,h=>by
  rw[nw,Dx w b s (t++[c]) (by simp;lia),e_,zG,fK,fe];congr 1
  .show _=((t++c::s).drop (t.length+1-w)).take w;rw[Ew ∅,List.take_append];have a:(t.drop (t.length+1-w)).length=w-1:=by rw[mJ];lia
   rw[a,n5 (by rw[a];lia),show w-(w-1)=1 by lia];rfl
  .refine kE λi _=>?_;simp only[mL];rw[eG,sK,show t.length+1+1-w+i=t.length+1-w+Nat.succ i by lia];simp
theorem AW{w:Nat}(a:1<=w){h s:Tx}(b:h.length=w-1):bw (h++s) w=nw w h s:=by rw[vy _ _ a,Dx w a s h ∅,eG,show h.length+s.length+1-w=s.length by lia];refine kE λi _=>?_;rw[show h.length+1-w+i=i by lia]
theorem Mf{w:Nat}(a:1<=w)(t:Tx)(c:Nat):bw (t++[c]) w=bw t w++(if w<=t.length+1 then [((t++[c]).drop (t.length+1-w)).take w] else []):=by
 rw[vy _ _ a,vy _ _ a,eG,sK];by_cases h:w<=t.length+1
 .rw[if_pos h,show t.length+1+1-w=(t.length+1-w)+1 by lia,sM,pY];congr 1;refine kE λi b=>?_;have b:i<t.length+1-w:=by simpa using b
  rw[Ew ∅,List.take_append_of_le_length (by rw[mJ];lia)]
 .rw[if_neg h,show t.length+1+1-w=0 by lia,show t.length+1-w=0 by lia];simp
theorem Ot{z:Tx}{w:Nat}{x:Tx}(a:x∈bw z w):x.length=w/\∀c∈x,c∈z:=by simp only[bw,b7,eY,lH,decide_eq_true_eq]at a;obtain⟨i,⟨_,h⟩,rfl⟩:=a;exact⟨by rw[pN,mJ];lia,λc b=>EH (wo b)⟩
def f_(w:Nat):Nat->Tx->List Tx->List Tx
 |0,t,_=>[t]
 |r+1,t,q=>bA.flatMap λc=>if t.drop (t.length+1-w)++[c]∈q then f_ w r (t++[c]) (q.erase (t.drop (t.length+1-w)++[c]))else []
theorem As(w:Nat):∀(r:Nat) (t:Tx) (q:List Tx),q.length=r->f_ w r t q=((c9 r).filter λs=>(nw w t s).isPerm q).map (t++·)
 |0,t,q,hq=>by have:q=[]:=EF.mp hq;subst this;simp[f_,c9,nw,List.isPerm]
 |r+1,t,q,hq=>by
  simp only[f_,c9,EI,List.map_flatMap];congr 1;funext c;rw[mM,fe];by_cases h:t.drop (t.length+1-w)++[c]∈q
  .rw[if_pos h,As w r (t++[c]) _ (by rw[List.length_erase_of_mem h,hq];rfl)];have e:((λs=>(nw w t s).isPerm q) ∘ λx=>c::x)=λs=>(nw w (t++[c]) s).isPerm (q.erase (t.drop (t.length+1-w)++[c])):=by funext s;show(q.contains (t.drop (t.length+1-w)++[c])&&(nw w (t++[c]) s).isPerm (q.erase (t.drop (t.length+1-w)++[c])))=_;rw[List.contains_iff_mem.mpr h,Bool.true_and]
   rw[e];refine kE λs _=>?_;simp
  .rw[if_neg h];have e:((λs=>(nw w t s).isPerm q) ∘ λx=>c::x)=λ_=>aj:=by
    funext s;show(q.contains (t.drop (t.length+1-w)++[c])&&(nw w (t++[c]) s).isPerm (q.erase (t.drop (t.length+1-w)++[c])))=_;have:q.contains (t.drop (t.length+1-w)++[c])=aj:=by rw[Bool.eq_false_iff];intro z;exact h (List.contains_iff_mem.mp z)
    rw[this,Bool.false_and]
   rw[e];simp
def bS(w:Nat)(a:List Tx):List Tx:=(bu (eP (a.map oh))).flatMap λh=>f_ w a.length h a
theorem Cs{a b:Type}{l:List a}{f:a->List b}(p:a->Bool)(h:∀x∈l,p x=aj->f x=[]):l.flatMap f=(l.filter p).flatMap f:=by
 induction l with
 |nil=>rfl
 |cons x l c=>
  rw[qc,c λy d=>h y (by simp[d]),EJ];cases e:p x with
  |true=>simp
  |false=>rw[h x (by simp) e];simp
theorem rW{w:Nat}{a:List Tx}(g:1<=w)(D:1<=a.length)(j:∀x∈a,x.length=w/\∀c∈x,c∈bA):bS w a=(c9 (w-1+a.length)).filter λz=>(bw z w).isPerm a:=by
 rw[Ce,EI];have B:(λh=>((c9 a.length).map (h++·)).filter λz=>(bw z w).isPerm a)=λh=>((c9 a.length).filter λs=>(bw (h++s) w).isPerm a).map (h++·):=by funext h;rw[mM];rfl
 rw[B,Cs (λh=>decide (h∈a.map oh))]
 .have A:(c9 (w-1)).filter (λh=>decide (h∈a.map oh))=bu (eP (a.map oh)):=by
   refine vz ?_ ((FP (w-1)).filter _);refine(List.perm_ext_iff_of_nodup ((Cb (w-1)).filter _) (Nn _)).mpr λx=>?_;rw[eY,decide_eq_true_eq,rn,lq];refine⟨λh=>h.2,λh=>⟨?_,h⟩⟩;obtain⟨y,d,rfl⟩:=b7.mp h;obtain⟨u,r⟩:=j y d;exact⟨by rw[zT,u],λc q=>r c ((List.dropLast_sublist _).mem q)⟩
  rw[A];unfold bS;have:∀l:List Tx,(∀h∈l,h.length=w-1)->l.flatMap (λh=>f_ w a.length h a)=l.flatMap λh=>((c9 a.length).filter λs=>(bw (h++s) w).isPerm a).map (h++·):=by
   intro l
   induction l with
   |nil=>intro _;rfl
   |cons h l n=>
    intro b;rw[qc,qc,n λy d=>b y (by simp[d]),As w _ h a rfl];have v:(λs=>(nw w h s).isPerm a)=λs=>(bw (h++s) w).isPerm a:=by funext s;rw[AW g (b h (by simp))]
    rw[v]
  refine this _ λh b=>?_;have p:=(rn _ _).mp ((jf _).mem_iff.mp b);obtain⟨y,d,rfl⟩:=b7.mp p;rw[zT,(j y d).1]
 .intro h b i;have C:=((lq _ h).mp b).1;rw[List.map_eq_nil_iff,EK];intro s o f;have m:=((lq _ s).mp o).1;rw[AW g C,List.isPerm_iff]at f;cases s with
  |nil=>rw[kD]at m;lia
  |cons c s=>rw[nw,show h.length+1-w=0 by lia,zH]at f;have:h++[c]∈a:=f.mem_iff.mp (by simp);rw[decide_eq_false_iff_not]at i;exact i (b7.mpr ⟨_,this,by simp⟩)
def unD(w:Nat)(a:List Tx)(t:Tx):Bool:=(bw t w).all λx=>decide ((bw t w).count x<=a.count x)
theorem BS{w:Nat}{a:List Tx}{t:Tx}:unD w a t=ai↔∀x,(bw t w).count x<=a.count x:=by
 unfold unD;rw[iF];constructor
 .intro h x;by_cases b:x∈bw t w
  .simpa using h x b
  .rw[EL b];lia
 .intro h x _;simpa using h x
theorem GX{w:Nat}(b:1<=w){a:List Tx}{t:Tx}{c:Nat}(h:unD w a (t++[c])=ai):unD w a t=ai:=by rw[BS]at h ⊢;intro x;have:=h x;rw[Mf b,EM]at this;lia
def rowsOf(w:Nat)(a:List Tx)(k:Nat):List Tx:=(c9 k).filter (unD w a)
theorem Ft{w:Nat}(b:1<=w)(a:List Tx):rowsOf w a 0=[[]]:=by simp[rowsOf,c9,unD,bw]
theorem LK{w:Nat}(f:1<=w)(a:List Tx)(k:Nat):rowsOf w a (k+1)=(rowsOf w a k).flatMap λt=>(bA.map λc=>t++[c]).filter (unD w a):=by
 unfold rowsOf;rw[F6,EI];refine Cs _ λt _ b=>?_;rw[EK];intro z d g;obtain⟨c,_,rfl⟩:=b7.mp d;rw[GX f g]at b;cases b
theorem No(w:Nat)(a:List Tx)(k:Nat):(rowsOf w a k).length<=3^k:=by rw[<-yT k];exact EN _ _
theorem GI{w:Nat}{c:List Tx}(d:c.Pairwise (λa b=>c6 a b=ai))(L:Nat):(rowsOf w c L).filter (λz=>decide (bu (bw z w)=c))=(c9 L).filter λz=>(bw z w).isPerm c:=by
 unfold rowsOf;rw[List.filter_filter];refine List.filter_congr λz _=>?_;rw[mF,ef,decide_eq_true_eq,List.isPerm_iff];constructor
 .rintro⟨h,_⟩;rw[<-h];exact(jf _).symm
 .intro h;refine⟨by rw[AR h,yF d],?_⟩;rw[BS];intro x;rw[h.count_eq];exact bd _
end Mx
namespace Sh
open L2 Pu Mx
theorem lz{a:Type}{f:List PV->Option a}{b:ag->R (List PV)}{ε ε1:ag}{xs:List PV}{v:a}(h:b ε=.ok xs ε1)(c:f xs=aa v):dL f b ε=.ok v ε1:=by unfold dL;rw[h];show aG (f xs) ε1=_;rw[c];rfl
theorem iN{d:ag->R PV}{b:ag->R (List PV)}{ε ε1 a:ag}{x:PV}{xs:List PV}(h:d ε=.ok x ε1)(c:b ε1=.ok xs a):aq d b ε=.ok (x::xs) a:=by unfold aq;rw[h];show(b ε1).bind _=_;rw[c];rfl
theorem kZ{ε:ag}:aA ε=.ok [] ε:=rfl
theorem jG(pv:PV)(ε:ag):dC pv ε=.ok pv ε:=rfl
theorem ip{f:PV->PV->Option PV}{c b:ag->R PV}{ε ε1 a:ag}{x y z:PV}(h:c ε=.ok x ε1)(g:b ε1=.ok y a)(d:f x y=aa z):d2 f c b ε=.ok z a:=by unfold d2;rw[h];show(b ε1).bind _=_;rw[g];show aG (f x y) a=_;rw[d];rfl
section
theorem JG{a:List Tx}(h:a.length<64):o9 [.lst (ak a)]=aa (.lst (ak (bu a))):=by show(iT (ak a)).bind _=_;rw[xa,hV,if_pos h]
end
section
variable{a:Ad}
abbrev br(b:List Int):Slot:=.val (.lst (b.map .int))
theorem DZ(b:List Int)(k:Int)(d:0<=k)(h:k<b.length):∃v,ez (b.map PV.int) k=aa (.int v):=by
 have c:k.toNat<b.length:=∅
 refine⟨b[k.toNat],?_⟩;rw[C0 d (by rw[cf];exact c)];simp
theorem HZ(b:List Int):Pu.eqT aj (.lst (b.map .int)) (.lst [])=aa (.bl b.isEmpty):=by
 cases b with
 |nil=>rfl
 |cons x c=>
  have f:∀l:List Int,gA (l.map .int)=0:=λl=>by induction l with|nil=>rfl|cons y l d=>simp[gA,iu,d]
  have:gA ((x::c).map .int)=0:=f _;simp only[fK]at this;simp[Pu.eqT,dy,cV,fR,iu,this]
theorem nE(b:Bool)(i j:Int):Pu.eqT b (.int i) (.int j)=aa (.bl (b^^decide (i=j))):=by show(if nH (V.int i) (V.int j)then aa (PV.bl (b^^decide (V.int i=V.int j)))else ae)=_;have:nH (V.int i) (V.int j)=ai:=rfl;rw[if_pos this];simp
theorem IV(b:Bool)(x y:Tx):Pu.eqT b (.str x) (.str y)=aa (.bl (b^^decide (x=y))):=by show(if nH (tV x) (tV y)then aa (PV.bl (b^^decide (tV x=tV y)))else ae)=_;have:nH (tV x) (tV y)=ai:=rfl;rw[if_pos this];have e:(tV x=tV y)=(x=y):=propext ⟨Iw,λh=>by rw[h]⟩;simp only[e]
theorem F8(b:List Int)(k:Int)(j:0<=k):∃v,oZ a [br b,⇑k]=.ok (⇑v) [br b,⇑k]:=by
 by_cases h:k<b.length
 .obtain⟨v,d⟩:=DZ b k j h;refine⟨v,?_⟩;simp![oZ,yaw,aV,bN,d,h]
 .have e:=HZ b;by_cases f:b=[]
  .subst f;refine⟨0,?_⟩;simp only[List.map_nil,EO]at e;have l:¬k<0:=∅
   simp![oZ,yaw,aV,bN,e,l]
  .have g:0<b.length:=by cases b with|nil=>exact absurd rfl f|cons=>simp
   obtain⟨v,d⟩:=DZ b (k % b.length) (Int.emod_nonneg _ ∅) (EQ _ ∅);refine⟨v*31+k,?_⟩;have m:b.isEmpty=aj:=by cases b with|nil=>exact absurd rfl f|cons=>rfl
   rw[m]at e;have i:fZ (.int k) (.int (b.length:Int))=aa (.int (k % b.length)):=by simp[fZ];lia
   have c:jK (.int v) (.int 31)=aa (.int (v*31)):=by simp[jK,sd]
   simp![oZ,yaw,aV,bN,h,e,i,d,c,a9]
theorem J5(b:List Int)(k m:Int)(q:0<=k)(i:0<m):∃v,0<=v/\v<m/\vL a [br b,⇑k,⇑m]=.ok (⇑v) [br b,⇑k,⇑m]:=by
 obtain⟨c,p⟩:=F8 (a:=a) b k q;have r:0<=(c*1103515245+7919*k+12345) % 2147483647:=Int.emod_nonneg _ (by decide);have d1:(c*1103515245+7919*k+12345) % 2147483647<2147483647:=EQ _ (by decide);have o:jK (.int c) (.int 1103515245)=aa (.int (c*1103515245)):=by simp[jK,sd]
 have n:jK (.int 7919) (.int k)=aa (.int (7919*k)):=by simp[jK,sd]
 have h:fZ (.int (c*1103515245+7919*k+12345)) (.int 2147483647)=aa (.int ((c*1103515245+7919*k+12345) % 2147483647)):=by simp[fZ]
 generalize (c*1103515245+7919*k+12345) % 2147483647=d at r d1 h;have l:ri (.int d) (.int 5)=aa (.int (d^5)):=by
  have:d.natAbs<2^64:=∅
  simp[ri,this]
 have g:fZ (.int (d^5)) (.int 2147483647)=aa (.int (d^5 % 2147483647)):=by simp[fZ]
 generalize d^5 % 2147483647=d5 at g;have f:fZ (.int d5) (.int 999983)=aa (.int (d5 % 999983)):=by simp[fZ]
 generalize d5 % 999983=d6 at f;have j:fZ (.int d6) (.int m)=aa (.int (d6 % m)):=by simp[fZ,i]
 refine⟨d6 % m,Int.emod_nonneg _ ∅,EQ _ i,?_⟩;simp![vL,yaA,p,o,n,h,l,g,f,j,a9]
theorem vQ(c:List Int)(b:List PV)(m:Int)(i:0<m)(j:b.length<=1000):∃v,0<=v/\v<m/\kq a [br c,.own (.lst b),⇑m]=.ok (⇑v) [br c,.own (.lst (b++[.int 0])),⇑m]:=by
 obtain⟨v,g,f,h⟩:=J5 (a:=a) c ((b.length:Int)+1) m ∅ i;refine⟨v,g,f,?_⟩;have d:b.length<b0:=by unfold b0;lia
 simp![kq,yax,aV,d,h]
theorem BE{c:Type}(b:List c)(v:Int)(f:0<=v)(g:v<b.length):∃x∈b,ez b v=aa x:=by
 have d:v.toNat<b.length:=∅
 exact⟨b[v.toNat],zJ _,C0 f d⟩
theorem yE(d:List Int)(c b:List PV)(i:c.length<=1000)(m:0<b.length):∃x∈b,jy a [br d,.own (.lst c),.val (.lst b)]=.ok (.val x) [br d,.own (.lst (c++[.int 0])),.val (.lst b)]:=by obtain⟨v,h,g,j⟩:=vQ (a:=a) d c (b.length:Nat) ∅ i;obtain⟨x,l,f⟩:=BE b v h g;refine⟨x,l,?_⟩;simp![jy,yaB,aV,bN,j,f]
theorem vo{n:Nat}(h:n<=1000000):jD [.int n]=aa (fi 0 n):=by show(if(n:Int)<=1000000/\-1000000<=(n:Int)then aa (fi 0 (n:Int).toNat)else ae)=_;rw[if_pos ⟨∅,∅⟩];simp
theorem ro{x y:Tx}(h:x.length+y.length<=b0):a9 (.str x) (.str y)=aa (.str (x++y)):=by show(if(x++y).length<=b0 then aa (PV.str (x++y))else ae)=_;rw[if_pos (by rw[eG];exact h)]
theorem c4{d1 d2:ag->R aE}{ε ε1:ag}(h:d1 ε=.ok .next ε1):aF d1 d2 ε=d2 ε1:=by unfold aF;rw[h]
theorem iw{i:Nat}{d:ag->R PV}{ε ε1:ag}{x:PV}(h:d ε=.ok x ε1):aZ i d ε=.ok .next (ε1.set i (.val x)):=by unfold aZ;rw[h];rfl
theorem xt{i:Nat}{db:ag->R aE}{I:Nat->ag->Prop}{N:Nat}(step:∀k ε x,k<N->I k ε->∃b,db (ε.set i (.val x))=.ok .next b/\I (k+1) b):∀(c:List PV) (k:Nat) (ε:ag),k+c.length<=N->I k ε->∃b,gy i db c ε=.ok .next b/\I (k+c.length) b
 |[],k,ε,_,h=>⟨ε,rfl,h⟩
 |x::c,k,ε,f,h=>by simp only[e_]at f;obtain⟨ε1,m,j⟩:=step k ε x ∅ h;obtain⟨d,l,g⟩:=xt step c (k+1) ε1 ∅ j;refine⟨d,by unfold gy;rw[m];exact l,?_⟩;rw[e_,show k+(c.length+1)=k+1+c.length by lia];exact g
theorem so{i:Nat}{db:ag->R aE}{I:List PV->ag->Prop}(step:∀(x:PV) (r:List PV) ε,I (x::r) ε->∃b,db (ε.set i (.val x))=.ok .next b/\I r b):∀(c:List PV) (ε:ag),I c ε->∃b,gy i db c ε=.ok .next b/\I [] b
 |[],ε,h=>⟨ε,rfl,h⟩
 |x::c,ε,h=>by obtain⟨f,m,j⟩:=step x c ε h;obtain⟨d,l,g⟩:=so step c f j;exact⟨d,by unfold gy;rw[m];exact l,g⟩
theorem KY(o:List Int)(l:List PV)(g b:Nat)(P:g<=b)(Z:b<=100)(Y:l.length<=500):∃(z:Tx) (j:List PV),g<=z.length/\z.length<=b/\(∀c∈z,c∈bA)/\j.length<=l.length+2+b /\ l7 a [br o,.own (.lst l),⇑g,⇑b]=.ok (↥z) [br o,.own (.lst j),⇑g,⇑b]:=by
 obtain⟨f,A,M⟩:=yE (a:=a) o l [.int 1,.int 2,.int 2,.int 3,.int 3,.int 3] ∅ (by decide);obtain⟨h,rfl,S,f1⟩:∃h:Int,f=.int h/\0<h/\h<=3:=by simp only[bV,g_,or_false]at A;rcases A with rfl|rfl|rfl|rfl|rfl|rfl <;> exact⟨_,rfl,by decide,by decide⟩
 obtain⟨m,X,W,p⟩:=vQ (a:=a) o (l++[.int 0]) ((b:Int)-g+1) ∅ (by simp;lia);obtain⟨n,O⟩:∃n:Nat,(g:Int)+m=n:=⟨(g+m).toNat,∅⟩
 have L:jD [.int ((g:Int)+m)]=aa (fi 0 n):=by rw[O];exact vo ∅
 have bB:(fi 0 n).length=n:=by simp[fi]
 obtain⟨C,B,j,z,q,rfl,y,J,u⟩:=xt (i:=6) (db:=aZ 5 (d2 a9 (dV 5) (d2 bN (dC (.str [97,98,99])) (ax (aD (kq a) (gV (dV 0) (gO 1 (gV (dV 4) (Pu.bE)))))))))
  (I:=λk w=>∃j z q,w=[br o,.own (.lst j),⇑g,⇑b,⇑h,↥z,q]/\z.length=k/\j.length<=l.length+2+k/\∀c∈z,c∈bA) (N:=n)
  (by
   rintro k w x hk ⟨j,z,q,rfl,y,J,u⟩;obtain⟨v,D,T,K⟩:=vQ (a:=a) o j h S ∅;obtain⟨c,Q,F⟩:=BE bA v D (by simp[bA];lia);refine⟨[br o,.own (.lst (j++[.int 0])),⇑g,⇑b,⇑h,↥(z++[c]),.val x],?_,j++[.int 0],z++[c],.val x,rfl,by simp[y],by simp;lia,λd p=>?_⟩
   .have r:bN (.str [97,98,99]) (.int v)=aa (.str [c]):=by
     show(ez bA v).map _=_;rw[F];rfl
    have G:a9 (.str z) (.str [c])=aa (.str (z++[c])):=ro (by simp[b0];lia);simp![K,r,G]
   .simp only[nW,g9]at p;rcases p with p|rfl
    .exact u d p
    .exact Q)
  (fi 0 n) 0 [br o,.own (.lst (l++[.int 0]++[.int 0])),⇑g,⇑b,⇑h,.val (.str []),.none] ∅ ⟨l++[.int 0]++[.int 0],[],.none,rfl,rfl,by simp,by simp⟩
 refine⟨z,j,∅,∅,u,∅,?_⟩;have H:ga (.int b) (.int g)=aa (.int ((b:Int)-g)):=rfl;have s:a9 (.int ((b:Int)-g)) (.int 1)=aa (.int ((b:Int)-g+1)):=rfl;have E:a9 (.int g) (.int m)=aa (.int ((g:Int)+m)):=rfl;simp only[sO,ED,iH]at B;simp![l7,yaD,M,H,s,E,p,eN,L,cU,B]
theorem jh{cap:List Nat}{dt:ag->R Bool}{de:ag->R PV}{ε:ag}(p:PV->Bool)(f:PV->PV):∀(c:List PV),(∀x∈c,bp (bO cap dt x ε)=.ok (p x) ε/\(p x=ai->bp (bO cap de x ε)=.ok (f x) ε))->∀b,dD cap dt de c b ε=.ok (b++(c.filter p).map f) ε
 |[],_,b=>by simp[dD]
 |x::c,h,b=>by
  have i:=h x (by simp);have g:=jh p f c (λy j=>h y (by simp[j]));unfold dD;rw[i.1];simp only[R.bind_ok];cases d:p x with
  |false=>simp only[g b,EJ,d];simp
  |true=>simp only[i.2 d,R.bind_ok,g (b++[f x]),EJ,d];simp
theorem JL{z:Tx}{i w:Nat}(h:i+w<=z.length):dH z (aa (i:Int)) (aa ((i:Int)+w))=(z.drop i).take w:=by
 unfold dH;have c:HT.sIx z.length 0 (aa (i:Int))=i:=by rw[HT.sIx_nat];lia
 have b:HT.sIx z.length z.length (aa ((i:Int)+w))=i+w:=by rw[show(i:Int)+w=((i+w:Nat):Int) by lia,HT.sIx_nat];lia
 rw[c,b,Nat.add_sub_cancel_left]
theorem vq(z:Tx)(w:Nat)(o:z.length<=60):gP a [↥z,⇑w]=.ok (.val (.tup (ak (bu (bw z w))))) [↥z,⇑w]:=by
 have g:jD [.int (z.length:Nat)]=aa (fi 0 z.length):=vo ∅;have b:=jh (cap:=[0,1]) (dt:=(dB (d2 (bR λi j=>decide (i<=j)) (d2 a9 (dV 0) (dV 2)) (dL aV (aq (dV 1) (aA)))))) (de:=(c7 cy (dV 1) (cz (dV 0)) (cz (d2 a9 (dV 0) (dV 2)))))
  (ε:=[↥z,⇑w]) (λx=>match x with|.int i=>decide (i+w<=z.length)|_=>aj) (λx=>match x with|.int i=>.str (dH z (aa i) (aa (i+w)))|_=>.non) (fi 0 z.length)
  (by
   intro x d;simp only[fi,b7]at d;obtain⟨i,f,rfl⟩:=d;refine⟨?_,λh=>?_⟩
   .simp![bO,c0,bp,aV,a9]
   .simp![bO,c0,bp,aV,a9,c7,cz,cy]) []
 have l:(bw z w).length<64:=by unfold bw;rw[cf];have:=EN (λi=>decide (i+w<=z.length)) (cp z.length);rw[Ex]at this;lia
 have m:(((fi 0 z.length).filter (λx=>match x with|.int i=>decide (i+w<=z.length)|_=>aj)).map (λx=>match x with|.int i=>PV.str (dH z (aa i) (aa (i+w)))|_=>.non))=ak (bw z w):=by
  unfold fi bw ak;rw[mM,fe,fe];have n:((λx=>match x with|PV.int i=>decide (i+(w:Int)<=(z.length:Nat))|_=>aj) ∘ λ(i:Nat)=>PV.int (0+(i:Nat)))=λi=>decide (i+w<=z.length):=by funext i;simp only[mL];congr 1;simp;lia
  rw[n];refine kE λi f=>?_;have:=(eY.mp f).2;simp only[decide_eq_true_eq]at this;simp only[mL,Int.zero_add];rw[JL this]
 simp only[iH]at b;rw[m]at b;have c:=JG l;generalize ak (bu (bw z w))=T at c;generalize ak (bw z w)=B at b c;simp![gP,yaC,aV,g,cj,b,c,iP]
structure Good(l:Tx)(w:Nat)(ls:List Tx):Prop where
 len:∀x∈ls,x.length=w
 abc:∀x∈ls,∀c∈x,c∈l
 some:1<=ls.length
 few:ls.length<=9
theorem iO(b:List Tx):(ak b).length=b.length:=by simp[ak]
theorem yS{n:Nat}{v:Int}(c:0<=v)(b:v<n):k_ n v=aa v.toNat:=by unfold k_;rw[if_pos c,if_pos b]
theorem Ip{c:Type}(b:List c)(n:Nat):dH b ae (aa (n:Int))=b.take n:=by
 unfold dH;have d:HT.sIx b.length 0 ae=0:=rfl;rw[d,HT.sIx_nat,zH,Nat.sub_zero];by_cases h:n<=b.length
 .rw[zX h]
 .rw[ER ∅,n5 (bd _),n5 ∅]
theorem Kc{c:Type}(b:List c)(n:Nat):dH b (aa (n:Int)) ae=b.drop n:=by
 unfold dH;have d:HT.sIx b.length b.length ae=b.length:=rfl;rw[d,HT.sIx_nat];by_cases h:n<=b.length
 .rw[zX h,n5 (by rw[mJ];lia)]
 .rw[ER ∅,zY ∅,zY ∅];simp
theorem o7{t T:String}{b:Bool}{x:PV}(h:sm x=aa t)(e:iD [] (.type t) (.type T)=aa b):iy [x,.raw (.ty T)]=aa (.bl b):=by show((sm x).bind λt=>(iD [] (.type t) (.type T)).map λb=>PV.bl b)=_;rw[h,hV,e];rfl
theorem KO:iD [] (.type "int") (.type "int")=aa ai:=by decide +kernel
theorem Mo:iD [] (.type "int") (.type "bool")=aa aj:=by decide +kernel
theorem J4:iD [] (.type "str") (.type "str")=aa ai:=by decide +kernel
theorem xi:iD [] (.type "tuple") (.type "tuple")=aa ai:=by decide +kernel
theorem GA(bs:List Bool):kQ (bs.map .bl)=aa bs:=by
 induction bs with
 |nil=>rfl
 |cons b bs c=>show(kQ (bs.map .bl)).map (b::·)=_;rw[c];rfl
theorem xI(bs:List Bool):pb [.lst (bs.map .bl)]=aa (.bl (bs.all id)):=by show(kQ (bs.map .bl)).map _=_;rw[GA];rfl
theorem Jv(z s:Tx):vN a [↥z,↥s]=.ok (.val (.bl (z.all s.contains))) [↥z,↥s]:=by
 have b:=jh (cap:=[1]) (dt:=cb) (de:=(d2 (oH aj) (dV 0) (dV 1))) (ε:=[↥z,↥s]) (λ_=>ai) (λx=>match x with|.str [c]=>.bl (s.contains c)|_=>.non) (z.map λc=>.str [c])
  (by
   intro x h;obtain⟨c,_,rfl⟩:=b7.mp h;refine⟨by simp![bO,c0,bp,cb],λ_=>?_⟩;have g:oH aj (.str [c]) (.str s)=aa (.bl (s.contains c)):=by rw[<-Gh];simp[oH]
   simp![bO,c0,bp,g]) []
 have i:((z.map λc=>PV.str [c]).filter (λ_=>ai)).map (λx=>match x with|.str [c]=>PV.bl (s.contains c)|_=>.non)=(z.map s.contains).map .bl:=by rw[wp.mpr (by simp),fe,fe];rfl
 rw[iH,i]at b;have d:(z.map s.contains).all id=z.all s.contains:=by rw[we];rfl
 generalize z.map s.contains=bs at b d;have f:=xI bs;rw[d]at f;simp![vN,yao,cj,bI,gT,b,f]
def ii(w:Int)(s z:Tx):Bool:=decide ((z.length:Int)=w)&&z.all s.contains
theorem AZ(z s:Tx)(w:Int):nO a [↥z,⇑w,↥s]=.ok (.val (.bl (ii w s z))) [↥z,⇑w,↥s]:=by
 have d:iy [.str z,.raw (.ty "str")]=aa (.bl ai):=o7 rfl J4;have f:=Jv (a:=a) z s;have c:aV [.str z]=aa (.int (z.length:Nat)):=rfl;have b:=nE aj (z.length:Nat) w;unfold ii;by_cases h:((z.length:Nat):Int)=w
 .simp only[h,decide_true,Bool.xor_true,Bool.not_false]at b;simp![nO,yat,d,c,b,f,h]
 .simp only[h,decide_false,Bool.xor_false]at b;simp![nO,yat,d,c,b,h]
theorem AD(d c:List Tx):fR (ak d) (ak c)=aa (decide (d=c)):=by
 induction d generalizing c with
 |nil=>cases c <;> simp[ak,fR]
 |cons x d f=>
  cases c with
  |nil=>simp[ak,fR]
  |cons y c=>
   show(cV (.str x) (.str y)).bind (λa=>(fR (ak d) (ak c)).map λb=>a&&b)=_;rw[f];have:cV (.str x) (.str y)=aa (decide (x=y)):=by
    show aa (tS x == tS y)=_;by_cases h:x=y
    .subst h;simp
    .have:tS x≠tS y:=λz=>h (rf z);simp[h,this]
   rw[this];simp[qd]
theorem AS(b:List Tx):gA (ak b)=0:=by
 induction b with
 |nil=>rfl
 |cons x b c=>show max (iu (.str x)) (gA (ak b))=0;rw[c];rfl
theorem DK(b:Bool)(c d:List Tx):Pu.eqT b (.lst (ak c)) (.lst (ak d))=aa (.bl (b^^decide (c=d))):=by show(if iu (.lst (ak c))<=8 then(fR (ak c) (ak d)).map (λk=>PV.bl (b^^k))else ae)=_;rw[if_pos (by show gA (ak c)+1<=8;rw[AS];decide),AD];rfl
theorem G6(b:List Tx)(w:Int)(s:Tx)(u:1<=b.length)(r:b.length<=9):ml a [.val (.tup (ak b)),⇑w,↥s]=.ok (.val (.bl (b.all (ii w s)&&decide (b=bu b)))) [.val (.tup (ak b)),⇑w,↥s]:=by
 have h:iy [.tup (ak b),.raw (.ty "tuple")]=aa (.bl ai):=o7 rfl xi;have i:aV [.tup (ak b)]=aa (.int (b.length:Nat)):=by simp[aV,iO]
 have m:(1:Int)<=(b.length:Nat):=∅
 have l:((b.length:Nat):Int)<=9:=∅
 have d:=jh (cap:=[1,2]) (dt:=cb) (de:=(ax (aD (nO a) (gV (dV 0) (gV (dV 1) (gV (dV 2) (Pu.bE))))))) (ε:=[.val (.tup (ak b)),⇑w,↥s]) (λ_=>ai) (λx=>match x with|.str z=>.bl (ii w s z)|_=>.non) (ak b)
  (by intro x o;obtain⟨z,_,rfl⟩:=b7.mp o;refine⟨by simp![bO,c0,bp,cb],λ_=>?_⟩;have p:=AZ (a:=a) z s w;simp![bO,c0,bp,p]) []
 have q:((ak b).filter (λ_=>ai)).map (λx=>match x with|.str z=>PV.bl (ii w s z)|_=>.non)=(b.map (ii w s)).map .bl:=by rw[wp.mpr (by simp)];unfold ak;rw[fe,fe];rfl
 rw[iH,q]at d;have g:(b.map (ii w s)).all id=b.all (ii w s):=by rw[we];rfl
 generalize b.map (ii w s)=bs at d g;have f:=xI bs;have n:b.length<64:=∅
 have c:=DK aj b (bu b);cases j:b.all (ii w s)with
 |false=>rw[g,j]at f;simp![ml,yaj,h,i,m,l,cj,bI,gT,d,f]
 |true=>rw[g,j]at f;simp only[zZ]at c;simp![ml,yaj,h,i,m,l,cj,bI,gT,d,f,jE,o9,xa,n,c]
theorem NI(b:List Tx)(w:Int)(s:Tx)(h:b.length=0\/9<b.length):ml a [.val (.tup (ak b)),⇑w,↥s]=.ok (.val (.bl aj)) [.val (.tup (ak b)),⇑w,↥s]:=by
 have c:iy [.tup (ak b),.raw (.ty "tuple")]=aa (.bl ai):=o7 rfl xi;have d:aV [.tup (ak b)]=aa (.int (b.length:Nat)):=by simp[aV,iO]
 by_cases f:(1:Int)<=(b.length:Nat)
 .have g:¬((b.length:Nat):Int)<=9:=∅
  simp![ml,yaj,c,d,f,g]
 .simp![ml,yaj,c,d,f]
theorem Dn(i:Int):oB a [⇑i]=.ok (.val (.bl ai)) [⇑i]:=by have c:iy [.int i,.raw (.ty "int")]=aa (.bl ai):=o7 rfl KO;have b:iy [.int i,.raw (.ty "bool")]=aa (.bl aj):=o7 rfl Mo;simp![oB,yar,c,b]
theorem HI(i:Int):pD a [⇑i]=.ok (.val (.bl (decide (1<=i/\i<=4)))) [⇑i]:=by
 have h:=Dn (a:=a) i;by_cases b:1<=i
 .by_cases c:i<=4
  .simp![pD,yas,h,b,c]
  .simp![pD,yas,h,b,c]
 .simp![pD,yas,h,b]
def qK(s:Tx)(w:Int)(b:List Tx):Bool:=decide (1<=w/\w<=4)&&(decide (1<=b.length/\b.length<=9)&&(b.all (ii w s)&&decide (b=bu b)))
theorem NT(s:Tx)(w:Int)(b:List Tx):o6 a [.val (.tup [.int w,.tup (ak b)]),↥s]=.ok (.val (.bl (qK s w b))) [.val (.tup [.int w,.tup (ak b)]),↥s]:=by
 have h:iy [.tup [.int w,.tup (ak b)],.raw (.ty "tuple")]=aa (.bl ai):=o7 rfl xi;have l:aV [.tup [.int w,.tup (ak b)]]=aa (.int 2):=rfl;have f:=nE ai 2 2;simp only[decide_true,Bool.true_xor,Bool.not_true]at f;have j:bN (.tup [.int w,.tup (ak b)]) (.int 0)=aa (.int w):=rfl;have i:bN (.tup [.int w,.tup (ak b)]) (.int 1)=aa (.tup (ak b)):=rfl;have d:=HI (a:=a) w;unfold qK;by_cases c:1<=w/\w<=4
 .rw[decide_eq_true c]at d ⊢;by_cases g:1<=b.length/\b.length<=9
  .have m:=G6 (a:=a) b w s g.1 g.2;rw[decide_eq_true g];simp![o6,yaq,h,l,f,j,i,d,m]
  .have m:=NI (a:=a) b w s ∅;rw[decide_eq_false g];simp![o6,yaq,h,l,f,j,i,d,m]
 .rw[decide_eq_false c]at d ⊢;simp![o6,yaq,h,l,f,j,i,d]
abbrev vw(w:Int)(b:List Tx):Bool:=qK bA w b
theorem Ii(w:Int)(b:List Tx):ve a [.val (.tup [.int w,.tup (ak b)])]=.ok (.val (.bl (vw w b))) [.val (.tup [.int w,.tup (ak b)])]:=by have c:=NT (a:=a) bA w b;simp only[bA]at c;simp![ve,yap,c];rfl
theorem L9{w:Int}{b:List Tx}(h:vw w b=ai):uJ a [.val (.tup [.int w,.tup (ak b)])]=.ok (.val .non) [.val (.tup [.int w,.tup (ak b)])]:=by have c:=Ii (a:=a) w b;rw[h]at c;simp![uJ,yam,c]
theorem Good.vw{w:Nat}{d:List Tx}(g:Good bA w d)(n:1<=w)(m:w<=4)(h:d.Pairwise (λa b=>c6 a b=ai)):vw w d=ai:=by
 have l:d.all (ii w bA)=ai:=by rw[iF];intro x f;unfold ii;rw[g.len x f,decide_eq_true rfl,Bool.true_and,iF];intro c i;simpa using g.abc x f c i
 have j:decide (d=bu d)=ai:=decide_eq_true (yF h).symm;show qK bA w d=ai;unfold qK;rw[l,j,decide_eq_true (show 1<=(w:Int)/\(w:Int)<=4 by lia),decide_eq_true (show 1<=d.length/\d.length<=9 from⟨g.some,g.few⟩)];rfl
end
def cJ(m:List (Tx×Int))(x:Tx):Option Int:=(m.find? λp=>decide (p.1=x)).map (·.2)
def dq(m:List (Tx×Int))(x:Tx)(n:Int):List (Tx×Int):=if(m.any λp=>decide (p.1=x))=ai then m.map (λp=>if p.1=x then(p.1,n)else p)else m++[(x,n)]
def dk(m:List (Tx×Int)):List (aM×PV):=m.map λp=>(Sum.inr (tS p.1),PV.int p.2)
theorem y0(x y:Tx):((Sum.inr (tS x):aM)=Sum.inr (tS y))=(x=y):=propext ⟨λh=>rf (Sum.inr.inj h),λh=>by rw[h]⟩
theorem ut(m:List (Tx×Int))(x:Tx):kT (dk m) (Sum.inr (tS x))=(cJ m x).map .int:=by
 induction m with
 |nil=>rfl
 |cons p m a=>
  show((List.find? _ ((Sum.inr (tS p.1),PV.int p.2)::dk m)).map (·.2))=_;unfold cJ;rw[gF,gF];simp only[y0];by_cases h:p.1=x
  .simp[h]
  .simp only[h,decide_false];exact a
theorem M_(m:List (Tx×Int))(x:Tx):((dk m).any λa=>decide (a.1=(Sum.inr (tS x):aM)))=m.any λp=>decide (p.1=x):=by unfold dk;rw[List.any_map];congr 1;funext p;simp only[mL,y0]
theorem xl(m:List (Tx×Int))(x:Tx)(n:Int):oJ (dk m) (Sum.inr (tS x)) (.int n)=dk (dq m x n):=by
 unfold oJ dq;rw[M_];split
 .unfold dk;rw[fe,fe];refine kE λp _=>?_;simp only[mL,y0];split <;> rfl
 .unfold dk;simp
theorem CY(m:List (Tx×Int)):nM (dk m)=aa (m.any λp=>decide (p.2≠0)):=by
 induction m with
 |nil=>rfl
 |cons p m a=>show(nM (dk m)).map _=_;rw[a];simp
theorem wZ{m:List (Tx×Int)}{x:Tx}(h:(m.any λp=>decide (p.1=x))=aj):cJ m x=ae:=by unfold cJ;rw[z0,z5];intro p a;have:=El.mp h p a;simpa using this
theorem IG{m:List (Tx×Int)}{x y:Tx}{n:Int}(h:(m.any λp=>decide (p.1=x))=aj):cJ (m++[(x,n)]) y=if y=x then aa n else cJ m y:=by
 have a:=wZ h;unfold cJ at a ⊢;rw[List.find?_append];by_cases e:y=x
 .subst e;rw[z0]at a;simp[a]
 .rw[if_neg e];have:¬x=y:=λz=>e z.symm;cases b:m.find? (λp=>decide (p.1=y))with
  |none=>simp[this]
  |some p=>simp
theorem FX{m:List (Tx×Int)}{x y:Tx}{n:Int}:cJ (m.map λp=>if p.1=x then(p.1,n)else p) y=(cJ m y).map λz=>if y=x then n else z:=by
 induction m with
 |nil=>rfl
 |cons p m a=>
  unfold cJ at a ⊢;rw[fK,gF,gF];by_cases h:p.1=x
  .rw[if_pos h];by_cases e:p.1=y
   .simp[e,show y=x from e.symm.trans h]
   .simp only[e,decide_false];exact a
  .rw[if_neg h];by_cases e:p.1=y
   .simp[e,show ¬y=x from λz=>h (e.trans z)]
   .simp only[e,decide_false];exact a
theorem Nx{m:List (Tx×Int)}{x:Tx}(h:(m.any λp=>decide (p.1=x))=ai):∃n,cJ m x=aa n:=by
 unfold cJ;cases a:m.find? (λp=>decide (p.1=x))with
 |none=>rw[z5]at a;obtain⟨p,c,b⟩:=j0.mp h;exact absurd b (a p c)
 |some p=>exact⟨_,rfl⟩
theorem wL(m:List (Tx×Int))(x y:Tx)(n:Int):cJ (dq m x n) y=if y=x then aa n else cJ m y:=by
 unfold dq;by_cases h:(m.any λp=>decide (p.1=x))=ai
 .rw[if_pos h,FX];by_cases e:y=x
  .subst e;obtain⟨k,a⟩:=Nx h;rw[a];simp
  .simp[e]
 .rw[if_neg h,IG (Bool.eq_false_iff.mpr h)]
structure mj(m:List (Tx×Int))(q:List Tx):Prop where
 nd:(m.map (·.1)).Nodup
 get:∀x,(cJ m x).getD 0=(q.count x:Nat)
theorem mj.mem{m:List (Tx×Int)}{q:List Tx}(h:mj m q){p:Tx×Int}(a:p∈m):cJ m p.1=aa p.2:=by
 have nd:=h.nd;clear h
 induction m with
 |nil=>cases a
 |cons r m b=>
  unfold cJ;rw[gF];rcases bV.mp a with rfl|a
  .simp
  .rw[fK,jT]at nd;have:¬r.1=p.1:=λz=>nd.1 (b7.mpr ⟨p,a,z.symm⟩);simp only[this,decide_false];exact b a nd.2
theorem Bm{m:List (Tx×Int)}{x:Tx}{n:Int}:(dq m x n).map (·.1)=if(m.any λp=>decide (p.1=x))=ai then m.map (·.1)else m.map (·.1)++[x]:=by
 unfold dq;split
 .rw[fe];refine kE λp _=>?_;simp only[mL];split <;> rfl
 .simp
theorem BU{m:List (Tx×Int)}{x:Tx}{n:Int}(h:(m.map (·.1)).Nodup):((dq m x n).map (·.1)).Nodup:=by
 rw[Bm];split
 .exact h
 .rename_i f;rw[EA];refine⟨h,by simp,λa g b c=>?_⟩;rw[g9]at c;subst c;rintro rfl;obtain⟨p,d,rfl⟩:=b7.mp g;exact f (j0.mpr ⟨p,d,by simp⟩)
theorem mj.any{m:List (Tx×Int)}{q:List Tx}(h:mj m q):(m.any λp=>decide (p.2≠0))=!q.isEmpty:=by
 cases q with
 |nil=>rw[EO,Bool.not_true,El];intro p b;have a:=h.get p.1;rw[h.mem b]at a;simpa using a
 |cons x q=>
  rw[List.isEmpty_cons,Bool.not_false,j0];have a:=h.get x;rw[List.count_cons_self]at a;cases e:m.find? (λp=>decide (p.1=x))with
  |none=>unfold cJ at a;rw[e]at a;simp at a;lia
  |some p=>unfold cJ at a;rw[e]at a;refine⟨p,z6 e,?_⟩;simp at a;simp;lia
theorem mj.dec{m:List (Tx×Int)}{q:List Tx}(h:mj m q){x:Tx}(i:x∈q):∃n,cJ m x=aa n/\0<n/\mj (dq m x (n-1)) (q.erase x)/\cJ (dq m x (n-1)) x=aa (n-1)/\dq (dq m x (n-1)) x (n-1+1)=m:=by
 have a:=h.get x;have o:0<q.count x:=List.count_pos_iff.mpr i;cases e:cJ m x with
 |none=>rw[e]at a;simp at a;lia
 |some n=>
  rw[e]at a;simp only[ES]at a;refine⟨n,rfl,∅,⟨BU h.nd,λy=>?_⟩,by rw[wL,if_pos rfl],?_⟩
  .rw[wL];by_cases c:y=x
   .subst c;rw[if_pos rfl,List.count_erase_self];simp only[ES];lia
   .rw[if_neg c,List.count_erase_of_ne (eE (eE c))];exact h.get y
  .have f:(m.any λp=>decide (p.1=x))=ai:=by
    cases z:(m.any λp=>decide (p.1=x))with
    |true=>rfl
    |false=>rw[wZ z]at e;cases e
   have j:((dq m x (n-1)).any λp=>decide (p.1=x))=ai:=by unfold dq;rw[if_pos f];obtain⟨p,d,b⟩:=j0.mp f;refine j0.mpr ⟨_,b7.mpr ⟨p,d,rfl⟩,?_⟩;rw[decide_eq_true_eq]at b;rw[if_pos b];simpa using b
   have l:dq (dq m x (n-1)) x (n-1+1)=(m.map λp=>if p.1=x then(p.1,n-1)else p).map λp=>if p.1=x then(p.1,n-1+1)else p:=by show(if((dq m x (n-1)).any λp=>decide (p.1=x))=ai then _ else _)=_;rw[if_pos j];unfold dq;rw[if_pos f]
   rw[l,fe];have:∀p∈m,((λp:Tx×Int=>if p.1=x then(p.1,n-1+1)else p) ∘ λp:Tx×Int=>if p.1=x then(p.1,n-1)else p) p=p:=by
    intro p d;simp only[mL];by_cases c:p.1=x
    .rw[if_pos c,if_pos c];have g:=h.mem d;rw[c,e]at g;cases g;rw[show p.2-1+1=p.2 by lia]
    .rw[if_neg c,if_neg c]
   rw[kE this,List.map_id''];intro p;rfl
theorem mj.zero{m:List (Tx×Int)}{q:List Tx}(h:mj m q){x:Tx}(a:x∉q):(cJ m x).getD 0=0:=by rw[h.get,EL a];rfl
section
variable{a:Ad}
theorem Mz(b:List Tx)(G:b.length<=100):∃m,mj m b/\m.length<=b.length/\sq a [.val (.tup (ak b))]=.ok (.own (.dK (dk m))) [.val (.tup (ak b))]:=by
 obtain⟨A,w,m,g,l,rfl,f,n,B⟩:=so (i:=2) (db:=(kP 1 (dV 2) (d2 a9 (lC 1 (dV 2) (dC (.int 0))) (dC (.int 1)))))
  (I:=λr j=>∃(m:List (Tx×Int)) (g:Slot) (l:List Tx),j=[.val (.tup (ak b)),.own (.dK (dk m)),g]/\mj m l/\m.length<=l.length/\∃q,b=l++q/\r=ak q)
  (by
   rintro x r j ⟨m,g,l,rfl,f,n,q,d,s⟩;cases q with
   |nil=>cases s
   |cons y q=>
    have o:x::r=.str y::ak q:=s;simp only[qd]at o;obtain⟨rfl,rfl⟩:=o;have F:m.length<b0:=by have:=congrArg nY d;simp at this;unfold b0;lia
    refine⟨[.val (.tup (ak b)),.own (.dK (dk (dq m y ((cJ m y).getD 0+1)))),↥y],?_,dq m y ((cJ m y).getD 0+1),_,l++[y],rfl,⟨BU f.nd,λz=>?_⟩,?_,q,by rw[d];simp,rfl⟩
    .have p:=ut m y;have u:=xl m y ((cJ m y).getD 0+1);have v:(dk m).length<b0:=by unfold dk;rw[cf];exact F
     have C:((cJ m y).map PV.int).getD (.int 0)=.int ((cJ m y).getD 0):=by cases cJ m y <;> rfl
     generalize dk m=D at p u v;simp![kP,lC,eQ,iM,p,C,a9,v,u]
    .rw[wL];by_cases c:z=y
     .subst c;rw[if_pos rfl,EM,List.count_singleton_self];have:=f.get z;simp only[ES];lia
     .rw[if_neg c,EM,f.get z];have:[y].count z=0:=EL (by simpa using c);rw[this];rfl
    .have:(dq m y ((cJ m y).getD 0+1)).length<=m.length+1:=by
      unfold dq;split <;> simp
     rw[eG,sK];lia)
  (ak b) [.val (.tup (ak b)),.own (.dK (dk [])),.none] ⟨[],.none,[],rfl,⟨by simp,λx=>by simp[cJ]⟩,by simp,b,by simp,rfl⟩
 obtain⟨q,d,h⟩:=B;have:q=[]:=by cases q with|nil=>rfl|cons=>cases h
 subst this;rw[kB]at d;subst d;refine⟨m,f,n,?_⟩;have E:dk []=[]:=rfl;rw[E]at w;simp![sq,yan,xN,eN,bI,gT,cU,w,pd]
theorem K2{t:Tx}{w:Nat}(b:w<=t.length+1)(c:1<=w):cy (.str t) (aa ((t.length:Int)-w+1)) ae=aa (.str (t.drop (t.length+1-w))):=by show aa (PV.str (dH t _ ae))=_;rw[show((t.length:Int)-w+1)=((t.length+1-w:Nat):Int) by lia,Kc]
def jm(c:Nat):PV:=.str [c]
theorem Cn(w:Nat)(T:1<=w):∀(r v:Nat) (t:Tx) (m:List (Tx×Int)) (q:List Tx) (b:List Tx),r<v->q.length=r->mj m q->w<=t.length+1->t.length+r<=1000->m.length<=1000->b.length+(f_ w r t q).length<=b0 -> my a v [↥t,⇑w,.own (.dK (dk m)),.own (.lst (ak b))]=.ok (.val .non) [↥t,⇑w,.own (.dK (dk m)),.own (.lst (ak (b++f_ w r t q)))]
 |0,0,_,_,_,_,h,_,_,_,_,_,_=>absurd h ∅
 |r+1,0,_,_,_,_,h,_,_,_,_,_,_=>absurd h ∅
 |0,v+1,t,m,q,b,_,hq,hm,hw,ht,qz,hs=>by
  have P:q=[]:=EF.mp hq;subst P;have d:=CY m;rw[hm.any]at d;simp only[EO,Bool.not_true]at d;have Z:(ak b).length<b0:=by rw[iO];simp only[f_,sK]at hs;lia
  have e:ak (b++f_ w 0 t [])=ak b++[.str t]:=by simp[ak,f_]
  rw[e];generalize dk m=D at d;generalize ak b=L at Z;simp![my,yah,rq,eQ,d,Z]
 |r+1,v+1,t,m,q,b,hf,hq,hm,hw,ht,qz,hs=>by
  have bZ:q.isEmpty=aj:=by cases q with|nil=>cases hq|cons=>rfl
  have d:=CY m;rw[hm.any,bZ]at d;simp only[Bool.not_false]at d;have C:=K2 (t:=t) hw T;have bG:aV [.str t]=aa (.int (t.length:Nat)):=rfl;have jp:ga (.int (t.length:Nat)) (.int w)=aa (.int ((t.length:Int)-w)):=rfl;have kG:a9 (.int ((t.length:Int)-w)) (.int 1)=aa (.int ((t.length:Int)-w+1)):=rfl
  let H:=t.drop (t.length+1-w)
  let f:=λc=>if H++[c]∈q then f_ w r (t++[c]) (q.erase (H++[c]))else []
  have hE:f_ w (r+1) t q=bA.flatMap f:=rfl;have hH:H.length<=1000:=by simp only[H,mJ];lia
  obtain⟨ε',u,K,J,p,rest,s,tY,rfl⟩:=so (i:=5) (db:=(aF (aZ 6 (d2 a9 (dV 4) (dV 5)))
 (ca (dB (d2 (bR λi j=>decide (j<i)) (lC 2 (dV 6) (dC (.int 0))) (dC (.int 0)))) (aF (kP 2 (dV 6) (d2 ga (lE 2 (dV 6)) (dC (.int 1))))
 (aF (gX (aD (my a v) (gV (d2 a9 (dV 0) (dV 5)) (gV (dV 1) (gO 2 (gO 3 (Pu.bE)))))))
 (kP 2 (dV 6) (d2 a9 (lE 2 (dV 6)) (dC (.int 1)))))) (cL))))
   (I:=λM S=>∃(K J:Slot) (p rest:Tx),bA=p++rest/\M=rest.map jm/\S=[↥t,⇑w,.own (.dK (dk m)),.own (.lst (ak (b++p.flatMap f))),↥H,K,J])
   (by
    rintro x M S ⟨K,J,p,rest,s,Y,rfl⟩;cases rest with
    |nil=>cases Y
    |cons c rest=>
     have E3:x::M=jm c::rest.map jm:=Y;simp only[qd]at E3;obtain⟨rfl,rfl⟩:=E3;have A:a9 (.str H) (.str [c])=aa (.str (H++[c])):=ro (by simp[b0];lia);have O:a9 (.str t) (.str [c])=aa (.str (t++[c])):=ro (by simp[b0];lia);have N_:b.length+(p.flatMap f).length+(f c).length<=b0:=by rw[hE,s,ET,qc,eG,eG]at hs;lia
     have X:ak (b++(p++[c]).flatMap f)=ak ((b++p.flatMap f)++f c):=by simp
     by_cases E:H++[c]∈q
     .obtain⟨n,Q,g2,g3,g4,g5⟩:=hm.dec E;have l:f c=f_ w r (t++[c]) (q.erase (H++[c])):=if_pos E;have y:=Cn w T r v (t++[c]) (dq m (H++[c]) (n-1)) (q.erase (H++[c])) (b++p.flatMap f) ∅ (by rw[List.length_erase_of_mem E,hq];rfl) g3 (by simp;lia) (by simp;lia)
       (by
        have:(dq m (H++[c]) (n-1)).length=m.length:=by
         have:=congrArg nY (Bm (m:=m) (x:=H++[c]) (n:=n-1));have d:(m.any λp=>decide (p.1=H++[c]))=ai:=by
          cases z:(m.any λp=>decide (p.1=H++[c]))with
          |true=>rfl
          |false=>rw[wZ z]at Q;cases Q
         rw[if_pos d]at this;simpa using this
        lia)
       (by rw[<-l,eG];exact N_)
      rw[<-l]at y;have o:=ut m (H++[c]);rw[Q]at o;have G:=xl m (H++[c]) (n-1);have g:=ut (dq m (H++[c]) (n-1)) (H++[c]);rw[g4]at g;have F:=xl (dq m (H++[c]) (n-1)) (H++[c]) (n-1+1);rw[g5,show n-1+1=n by lia]at F;have B:(dk m).length<b0:=by unfold dk;rw[cf];unfold b0;lia
      have W:(dk (dq m (H++[c]) (n-1))).length<b0:=by
       unfold dk;rw[cf];have:(dq m (H++[c]) (n-1)).length<=m.length+1:=by unfold dq;split <;> simp
       unfold b0;lia
      have gt:(0:Int)<n:=g2;refine⟨[↥t,⇑w,.own (.dK (dk m)),.own (.lst (ak (b++(p++[c]).flatMap f))),↥H,.val (.str [c]),↥(H++[c])],?_,_,_,p++[c],rest,by rw[s];simp,rfl,rfl⟩;rw[X];have s1:ga (.int n) (.int 1)=aa (.int (n-1)):=rfl;have s2:a9 (.int (n-1)) (.int 1)=aa (.int n):=by show aa (PV.int (n-1+1))=_;congr 2;lia
      simp only[oa]at o g;generalize dk m=D at o G F B;generalize dk (dq m (H++[c]) (n-1))=D2 at g G F y W;generalize ak (b++p.flatMap f)=L at y;generalize ak ((b++p.flatMap f)++f c)=L2 at y;clear_value H f;simp![jm,A,lC,lE,kP,eQ,iM,o,gt,s1,B,G,O,y,g,s2,W,F]
     .have l:f c=[]:=if_neg E;have N:=hm.zero E;have o:=ut m (H++[c]);have hg:((cJ m (H++[c])).map PV.int).getD (.int 0)=.int 0:=by
       cases e:cJ m (H++[c])with
       |none=>rfl
       |some k=>rw[e]at N;simp at N;subst N;rfl
      refine⟨[↥t,⇑w,.own (.dK (dk m)),.own (.lst (ak (b++(p++[c]).flatMap f))),↥H,.val (.str [c]),↥(H++[c])],?_,_,_,p++[c],rest,by rw[s];simp,rfl,rfl⟩;rw[X,l,kB];generalize dk m=D at o;generalize ak (b++p.flatMap f)=L;clear_value H f;simp![jm,A,lC,eQ,iM,o,hg])
   (bA.map jm) [↥t,⇑w,.own (.dK (dk m)),.own (.lst (ak (b++([]:Tx).flatMap f))),↥H,.none,.none] ⟨.none,.none,[],bA,by simp,rfl,rfl⟩
  have t0:rest=[]:=by cases rest with|nil=>rfl|cons=>cases tY
  subst t0;rw[kB]at s;rw[hE];rw[<-s]at u;simp only[EG,kB]at u;have wG:gT (.str [97,98,99])=aa (bA.map jm):=rfl;have Oi:cy (.str t) (aa ((t.length:Int)-w+1)) ae=aa (.str H):=C;generalize dk m=D at d u;generalize ak b=L at u;generalize ak (b++bA.flatMap f)=L2 at u;clear_value H f;simp![my,yah,rq,eQ,d,c7,cz,eA,bG,jp,kG,Oi,cU,eN,bI,wG,u]
end
section
variable{a:Ad}
abbrev a_(w:Nat)(b:List Tx):PV:=.tup [.int w,.tup (ak b)]
theorem Kf{c:Type}(b:List c):dH b ae (aa (-1))=b.dropLast:=by unfold dH;rw[show HT.sIx b.length 0 ae=0 from rfl,zH,Nat.sub_zero,List.dropLast_eq_take];congr 1;show(HT.sIx b.length b.length (aa (-1)))=_;show(if(-1:Int)<0 then((-1:Int)+(b.length:Int)).toNat else min (-1:Int).toNat b.length)=_;rw[if_pos (by decide)];lia
theorem Kl{w:Nat}{b:List Tx}(g:Good bA w b)(d:1<=w)(f:w<=4):(bS w b).length<=531441:=by rw[rW d g.some λx c=>⟨g.len x c,g.abc x c⟩];refine cO (EN _ _) ?_;rw[yT];exact cO (EU (by decide) (show w-1+b.length<=12 by have:=g.few;lia)) (by decide)
theorem FG(V:PV)(d:List Tx)(w:Nat)(c b:Slot):dD [] cb (c7 cy (dV 0) eA (cz (d1 jx (dC (.int 1))))) (ak d) [] [.val V,⇑w,c,b]=.ok (ak (d.map oh)) [.val V,⇑w,c,b]:=by
 have i:=jh (cap:=[]) (dt:=cb) (de:=(c7 cy (dV 0) eA (cz (d1 jx (dC (.int 1)))))) (ε:=[.val V,⇑w,c,b]) (λ_=>ai) (λx=>match x with|.str z=>.str z.dropLast|_=>.non) (ak d)
  (by
   intro x f;obtain⟨z,_,rfl⟩:=b7.mp f;refine⟨by simp![bO,c0,bp,cb],λ_=>?_⟩;have g:cy (.str z) ae (aa (-1))=aa (.str z.dropLast):=by show aa (PV.str (dH z ae (aa (-1))))=_;rw[Kf]
   have h:jx (.int 1)=aa (.int (-1)):=rfl;simp![bO,c0,bp,c7,eA,cz,h,g]) []
 rw[i,iH,wp.mpr (by simp)];unfold ak;rw[fe,fe];rfl
theorem M3{w:Nat}{c:List Tx}(g:Good bA w c)(u:1<=w)(H:w<=4)(Y:c.Pairwise (λa b=>c6 a b=ai)):vC a [.val (a_ w c)]=.ok (.own (.lst (ak (bS w c)))) [.val (a_ w c)]:=by
 have n:=L9 (a:=a) (g.vw u H Y);have B:bN (a_ w c) (.int 0)=aa (.int w):=rfl;have o:bN (a_ w c) (.int 1)=aa (.tup (ak c)):=rfl;obtain⟨m,C,M,v⟩:=Mz (a:=a) c (by have:=g.few;lia);have W:m.length<=1000:=by have:=g.few;lia
 let hd:=bu (eP (c.map oh))
 have E:∀h∈hd,h.length=w-1:=λh N=>by have C:=(rn _ _).mp ((jf _).mem_iff.mp N);obtain⟨y,X,rfl⟩:=b7.mp C;rw[zT,g.len y X]
 let f:=λh=>f_ w c.length h c
 have O:bS w c=hd.flatMap f:=rfl;have F:=Kl g u H;obtain⟨P,j,A,p,rest,q,Q,rfl⟩:=so (i:=3) (db:=(gX (kR (my a 12) (lm (dV 3) (lm (dV 1) (gN (rD (aD (sq a) (gV (d2 bN (dV 0) (dC (.int 1))) (Pu.bE)))) (gO 2 (Pu.bE))))))))
  (I:=λr G=>∃(A:Slot) (p rest:List Tx),hd=p++rest/\r=ak rest/\G=[.val (a_ w c),⇑w,.own (.lst (ak (p.flatMap f))),A])
  (by
   rintro x r G ⟨A,p,rest,q,K,rfl⟩;cases rest with
   |nil=>cases K
   |cons h rest=>
    have J:x::r=.str h::ak rest:=K;simp only[qd]at J;obtain⟨rfl,rfl⟩:=J;have N:h.length=w-1:=E h (by rw[q];simp);have s:=Cn (a:=a) w u c.length 12 h m c (p.flatMap f) (by have:=g.few;lia) rfl C ∅ (by have:=g.few;lia) W (by rw[O,q,ET,qc,eG,eG]at F;show(p.flatMap f).length+(f h).length<=b0;unfold b0;lia);refine⟨[.val (a_ w c),⇑w,.own (.lst (ak ((p++[h]).flatMap f))),↥h],?_,_,p++[h],rest,by rw[q];simp,rfl,rfl⟩;have e2:(p++[h]).flatMap f=p.flatMap f++f_ w c.length h c:=by simp[f]
    rw[e2];generalize ak (p.flatMap f)=L at s;generalize ak (p.flatMap f++f_ w c.length h c)=L2 at s;generalize dk m=D at s v;simp only[a_]at o ⊢;generalize ak c=T at v o;clear_value f hd;simp![kR,lm,gN,xM,o,v,s])
  (ak hd) [.val (a_ w c),⇑w,.own (.lst (ak (([]:List Tx).flatMap f))),.none] ⟨.none,[],hd,by simp,rfl,rfl⟩
 have S:rest=[]:=by cases rest with|nil=>rfl|cons=>cases Q
 subst S;rw[kB]at q;rw[<-q,<-O]at j;simp only[EG]at j;have d:=FG (a_ w c) c w (.own (.lst [])) .none;have l:rF [.lst (ak (c.map oh))]=aa (.lst (ak hd)):=by show(iT (ak _)).bind _=_;have h2:=g.few;rw[xa,hV,if_pos ⟨λz=>by have:=congrArg nY z;have:=g.some;simp at *;simp_all,zF (Ls _) (by rw[cf];lia)⟩]
 have e0:ak ([]:List Tx)=[]:=rfl;rw[e0]at j;generalize ak (bS w c)=L at j;generalize ak hd=D at j l;generalize ak (c.map oh)=D0 at d l;simp only[a_]at n B o d j ⊢;generalize Z:ak c=T at n B o d j;clear_value f hd;simp![vC,yaI,n,B,o,cU,eN,bI,gT,cj,d,l,j,pd]
theorem IT(b:List Tx):iS (ak b)=aa (dX b):=by
 induction b with
 |nil=>rfl
 |cons x b c=>show(dy (.str x)).bind (λv=>(iS (ak b)).map (v::·))=_;rw[c];rfl
theorem De(b:List Tx)(x:Tx):nt (ak b) (.str x)=aa (.int (b.count x:Nat)):=by show(dy (.str x)).bind (λv=>(iS (ak b)).map λc=>PV.int (c.countP λz=>fk z v))=_;rw[IT,<-G0];rfl
theorem Mv(w:Nat)(b:List Tx)(t:Tx)(p:t.length<=60):mv a [↥t,⇑w,.val (.tup (ak b))]=.ok (.val (.bl (unD w b t))) [↥t,⇑w,.val (.tup (ak b))]:=by
 have g:=vq (a:=a) t w p
 let M:=bu (bw t w)
 have f:=jh (cap:=[3,2]) (dt:=cb) (de:=(d2 (bR λi j=>decide (i<=j)) (oM nt (dV 1) (dV 0)) (oM nt (dV 2) (dV 0)))) (ε:=[↥t,⇑w,.val (.tup (ak b)),.val (.tup (ak M))]) (λ_=>ai) (λx=>match x with|.str z=>.bl (decide (M.count z<=b.count z))|_=>.non) (ak M)
  (by intro x c;obtain⟨z,_,rfl⟩:=b7.mp c;refine⟨by simp![bO,c0,bp,cb],λ_=>?_⟩;have o:=De M z;have n:=De b z;generalize ak M=A at o;generalize ak b=B at n;simp![bO,c0,bp,oM,o,n]) []
 have q:((ak M).filter (λ_=>ai)).map (λx=>match x with|.str z=>PV.bl (decide (M.count z<=b.count z))|_=>.non)=(M.map λz=>decide (M.count z<=b.count z)).map .bl:=by rw[wp.mpr (by simp)];unfold ak;rw[fe,fe];rfl
 rw[iH,q]at f;have l:(M.map λz=>decide (M.count z<=b.count z)).all id=unD w b t:=by
  rw[we];unfold unD;have d:=jf (bw t w);rw[mF,iF,iF];constructor
  .intro h x c;have:=h x (d.mem_iff.mpr c);simp only[mL,id,M,d.count_eq]at this;exact this
  .intro h x c;have:=h x (d.mem_iff.mp c);simp only[mL,id,M,d.count_eq];exact this
 generalize (M.map λz=>decide (M.count z<=b.count z))=bs at f l;have m:=xI bs;rw[l]at m;change gP a _=R.ok (Slot.val (.tup (ak M))) _ at g;generalize ak M=MM at g f;clear_value M;simp![mv,yaE,g,cj,bI,gT,f,m]
theorem Mw(b:Bool)(c d:List Tx):Pu.eqT b (.tup (ak c)) (.tup (ak d))=aa (.bl (b^^decide (c=d))):=by show(if iu (.tup (ak c))<=8 then(fR (ak c) (ak d)).map (λk=>PV.bl (b^^k))else ae)=_;rw[if_pos (by show gA (ak c)+1<=8;rw[AS];decide),AD];rfl
def nextT(w:Nat)(b:List Tx)(t:Tx):List Tx:=(bA.map λc=>t++[c]).filter (unD w b)
theorem M6(w:Nat)(g:List Tx)(V j h s:Slot)(d:List Tx)(H:∀t∈d,t.length<=50)(M:(d.flatMap (nextT w g)).length<=999999):∃l,gy 6 (nG 5 (dF (cj [6,1,2] (bI (dC (.str [97,98,99]))) (dB (ax (aD (mv a) (gV (d2 a9 (dV 1) (dV 0)) (gV (dV 2) (gV (dV 3) (Pu.bE))))))) (d2 a9 (dV 1) (dV 0))))) (ak d) [V,⇑w,.val (.tup (ak g)),j,h,.own (.lst []),s]=.ok .next [V,⇑w,.val (.tup (ak g)),j,h,.own (.lst (ak (d.flatMap (nextT w g)))),l]:=by
 let f:=nextT w g
 obtain⟨C,A,l,p,rest,m,D,rfl⟩:=so (i:=6) (db:=(nG 5 (dF (cj [6,1,2] (bI (dC (.str [97,98,99]))) (dB (ax (aD (mv a) (gV (d2 a9 (dV 1) (dV 0)) (gV (dV 2) (gV (dV 3) (Pu.bE))))))) (d2 a9 (dV 1) (dV 0))))))
  (I:=λr ε=>∃(l:Slot) (p rest:List Tx),d=p++rest/\r=ak rest/\ε=[V,⇑w,.val (.tup (ak g)),j,h,.own (.lst (ak (p.flatMap f))),l])
  (by
   rintro x r ε ⟨l,p,rest,m,z,rfl⟩;cases rest with
   |nil=>cases z
   |cons t rest=>
    have y:x::r=.str t::ak rest:=z;simp only[qd]at y;obtain⟨rfl,rfl⟩:=y;have G:=H t (by rw[m];simp);have n:=jh (cap:=[6,1,2]) (dt:=(dB (ax (aD (mv a) (gV (d2 a9 (dV 1) (dV 0)) (gV (dV 2) (gV (dV 3) (Pu.bE)))))))) (de:=(d2 a9 (dV 1) (dV 0))) (ε:=[V,⇑w,.val (.tup (ak g)),j,h,.own (.lst (ak (p.flatMap f))),↥t])
     (λx=>match x with|.str [c]=>unD w g (t++[c])|_=>aj) (λx=>match x with|.str [c]=>.str (t++[c])|_=>.non) (bA.map jm)
     (by
      intro x F;obtain⟨c,_,rfl⟩:=b7.mp F;have o:=Mv (a:=a) w g (t++[c]) (by simp;lia);have u:a9 (.str t) (.str [c])=aa (.str (t++[c])):=ro (by simp[b0];lia);simp only[jm];generalize ak (p.flatMap f)=L;generalize unD w g (t++[c])=b at o;generalize t++[c]=tc at o u;generalize ak g=B at o;refine⟨?_,λ_=>?_⟩
      .simp![bO,c0,bp,u,o]
      .simp![bO,c0,bp,u]) []
    have J:((bA.map jm).filter (λx=>match x with|.str [c]=>unD w g (t++[c])|_=>aj)).map (λx=>match x with|.str [c]=>PV.str (t++[c])|_=>.non)=ak (f t):=by simp only[f,nextT];rw[mM,fe,mM];unfold ak;rw[fe];rfl
    rw[iH,J]at n;have v:gT (.str [97,98,99])=aa (bA.map jm):=rfl;have q:(ak (p.flatMap f)).length+(ak (f t)).length<=b0:=by
     rw[iO,iO];have N:(p.flatMap f).length+(f t).length<=(d.flatMap (nextT w g)).length:=by rw[m,ET,qc,eG,eG];simp only[f];lia
     unfold b0;lia
    refine⟨[V,⇑w,.val (.tup (ak g)),j,h,.own (.lst (ak ((p++[t]).flatMap f))),↥t],?_,↥t,p++[t],rest,by rw[m];simp,rfl,rfl⟩;have K:ak ((p++[t]).flatMap f)=ak (p.flatMap f)++ak (f t):=by simp[ak]
    rw[K];generalize ak (f t)=Y at n q;generalize ak (p.flatMap f)=L at n q;generalize ak g=B at n;generalize bA.map jm=A3 at n v;clear_value f;simp![nG,cj,bI,v,n,q])
  (ak d) [V,⇑w,.val (.tup (ak g)),j,h,.own (.lst (ak (([]:List Tx).flatMap f))),s] ⟨s,[],d,by simp,rfl,rfl⟩
 have E:rest=[]:=by cases rest with|nil=>rfl|cons=>cases D
 subst E;rw[kB]at m;rw[<-m]at A;exact⟨l,A⟩
theorem MG{k:Nat}(h:k<=12):3^k<=531441:=cO (EU (by decide) h) (by decide)
theorem CU{w:Nat}{c:List Tx}(g:Good bA w c)(v:1<=w)(w4:w<=4)(X:c.Pairwise (λa b=>c6 a b=ai)):k9 a [.val (a_ w c)]=.ok (.own (.lst (ak (bS w c)))) [.val (a_ w c)]:=by
 have H:bS w c=(rowsOf w c (c.length+w-1)).filter (λz=>decide (bu (bw z w)=c)):=by rw[GI X,rW v g.some λx s=>⟨g.len x s,g.abc x s⟩];congr 2;lia
 obtain⟨L,E⟩:∃L:Nat,c.length+w-1=L:=⟨_,rfl⟩
 rw[E]at H;have G:L<=12:=by have:=g.few;lia
 have J:aV [.tup (ak c)]=aa (.int (c.length:Nat)):=by simp[aV,iO]
 have C:a9 (.int (c.length:Nat)) (.int w)=aa (.int ((c.length:Int)+w)):=rfl;have Q:ga (.int ((c.length:Int)+w)) (.int 1)=aa (.int L):=by show aa (PV.int ((c.length:Int)+w-1))=_;congr 2;lia
 have Y:jD [.int L]=aa (fi 0 L):=vo ∅;have A:(fi 0 L).length=L:=by simp[fi]
 obtain⟨K,n,r,q,j,rfl⟩:=xt (i:=4) (db:=(aF (ir 5 (dL eB (aA)))
 (aF (eN 6 (bI (dV 3)) (nG 5 (dF (cj [6,1,2] (bI (dC (.str [97,98,99]))) (dB (ax (aD (mv a) (gV (d2 a9 (dV 1) (dV 0)) (gV (dV 2) (gV (dV 3) (Pu.bE))))))) (d2 a9 (dV 1) (dV 0))))))
 (aZ 3 (dM 5)))))
  (I:=λk ε=>∃(r q j:Slot),ε=[.val (a_ w c),⇑w,.val (.tup (ak c)),.val (.lst (ak (rowsOf w c k))),r,q,j]) (N:=L)
  (by
   rintro k ε x hk ⟨r,q,j,rfl⟩;have o:∀t∈rowsOf w c k,t.length<=50:=λt W=>by have:=((lq k t).mp (eY.mp W).1).1;lia
   have e:(rowsOf w c k).flatMap (nextT w c)=rowsOf w c (k+1):=(LK v c k).symm;have O:((rowsOf w c k).flatMap (nextT w c)).length<=999999:=by rw[e];have m:=No w c (k+1);have h2:=MG (show k+1<=12 by lia);lia
   obtain⟨P,m⟩:=M6 (a:=a) w c (.val (a_ w c)) (.val (.lst (ak (rowsOf w c k)))) (.val x) j (rowsOf w c k) o O;rw[e]at m;refine⟨_,?_,.val x,.val (.lst (ak (rowsOf w c (k+1)))),P,rfl⟩;generalize ak (rowsOf w c (k+1))=R1 at m;generalize Z:ak (rowsOf w c k)=R0 at m;simp only[a_]at m ⊢;have p:∀(d:ag->R aE) (u:List PV) (ε:ag),ε[3]?=aa (.val (.lst u))->eN 6 (bI (dV 3)) d ε=gy 6 d u ε:=λd u ε h=>by unfold eN bI dV;rw[h];rfl
   refine(c4 (ε1:=[.val (.tup [.int w,.tup (ak c)]),⇑w,.val (.tup (ak c)),.val (.lst R0),.val x,.own (.lst []),j]) (by simp![])).trans ?_;refine(c4 ((p _ R0 _ rfl).trans m)).trans ?_;simp[aZ,dM,R.bind])
  (fi 0 L) 0 [.val (a_ w c),⇑w,.val (.tup (ak c)),.val (.lst (ak (rowsOf w c 0))),.none,.none,.none] ∅ ⟨.none,.none,.none,rfl⟩
 rw[A,p9,Ft v]at n;have l:=jh (cap:=[1,2]) (dt:=(dB (d2 (Pu.eqT aj) (ax (aD (gP a) (gV (dV 0) (gV (dV 1) (Pu.bE))))) (dV 2)))) (de:=dV 0) (ε:=[.val (a_ w c),⇑w,.val (.tup (ak c)),.val (.lst (ak (rowsOf w c L))),r,q,j])
  (λx=>match x with|.str z=>decide (bu (bw z w)=c)|_=>aj) (λx=>x) (ak (rowsOf w c L))
  (by
   intro x s;obtain⟨z,S,rfl⟩:=b7.mp s;have y:z.length<=60:=by have:=((lq L z).mp (eY.mp S).1).1;lia
   have F:=vq (a:=a) z w y;have f:=Mw aj (bu (bw z w)) c;simp only[zZ]at f;generalize ak (bu (bw z w))=M at F f;generalize hD:decide (bu (bw z w)=c)=D at f;generalize ak (rowsOf w c L)=RR;simp only[a_];refine⟨?_,λ_=>?_⟩
   .simp only[hD];generalize ak c=B at f;simp![bO,c0,bp,F,f]
   .generalize ak c=B;simp![bO,c0,bp]) []
 have f:((ak (rowsOf w c L)).filter (λx=>match x with|.str z=>decide (bu (bw z w)=c)|_=>aj)).map (λx=>x)=ak (bS w c):=by rw[wu,H];unfold ak;rw[mM];rfl
 rw[iH,f]at l;have e0:ak [[]]=[.str []]:=rfl;rw[e0]at n;generalize ak (bS w c)=T at l;generalize ak (rowsOf w c L)=RR at l n;simp only[a_]at l n ⊢;generalize ak c=B at l n J;simp![k9,yav,jF,J,C,Q,cU,eN,Y,n,l6,cj,bI,gT,l]
end
end Sh
namespace Mx
open L2 Pu
def lG(z:Tx)(i:Nat):Nat:=z.getD (i % z.length) 0
def Is(z:Tx)(w:Nat):Tx:=((cY w z).flatten).take (z.length+w-1)
end Mx
namespace Sh
open L2 Pu Mx
section
variable{a:Ad}
def AN(t:Tx)(v:Nat):List Tx:=(cp (t.length+1-v)).map λi=>(t.drop i).take v
def oV(b c:Nat):List Nat:=List.range' b (c-b)
def part(t:Tx)(i j:Nat):Tx:=(t.drop i).take (j-i)
theorem J9(t:Tx)(i j:Nat):dH t (aa (i:Nat)) (aa (j:Nat))=part t i j:=by
 unfold dH part;rw[HT.sIx_nat,HT.sIx_nat];by_cases h:i<=t.length
 .rw[zX h];by_cases b:j<=t.length
  .rw[zX b]
  .rw[ER ∅,n5 (by simp),n5 (by simp;lia)]
 .rw[show min i t.length=t.length by lia,zY (bd _),zY (show t.length<=i by lia)];simp
theorem Ij(t:Tx)(i j:Nat):cy (.str t) (aa (i:Nat)) (aa (j:Nat))=aa (.str (part t i j)):=by show aa (PV.str (dH t (aa (i:Nat)) (aa (j:Nat))))=_;rw[J9]
theorem yd(t:Tx)(j:Nat):cy (.str t) ae (aa (j:Nat))=aa (.str (t.take j)):=by show aa (PV.str (dH t ae (aa (j:Nat))))=_;rw[Ip]
def lG(b:List Tx)(i:Nat):Tx:=b.getD i []
def LH(t:Tx)(s e g l:Nat):Tx:=t.take s++part t g l++part t e g++part t s e++t.drop l
def LU(t:Tx)(b:List Tx)(s g e:Nat):List Tx:=(oV (g+1) b.length).flatMap λl=>if lG b e=lG b l then [LH t s e g l] else []
def II(t:Tx)(b:List Tx)(s g:Nat):List Tx:=(oV (s+1) (g+1)).flatMap λe=>LU t b s g e
theorem Kv{i:Nat}{g:ag->R (List PV)}{j:ag->R aE}{d c b:ag}{f:List PV}(h:g d=.ok f c)(l:gy i j f c=.ok .next b):eN i g j d=.ok .next b:=by unfold eN;rw[h];exact l
theorem Nd{i:Nat}{g:ag->R (List PV)}{j:ag->R aE}{d c b:ag}{f:List PV}(h:g d=.ok f c)(l:gy i j f c=.ok .next b):(λd=>cU (eN i g j d)) d=.ok .next b:=by show cU _=_;rw[Kv h l];rfl
theorem GE{i:Nat}{d:ag->R (List PV)}{f d2:ag->R aE}{b ε1 c:ag}{g:List PV}(h:d b=.ok g ε1)(j:gy i f g ε1=.ok .next c):aF (λb=>cU (eN i d f b)) d2 b=d2 c :=c4 (d1:=λb=>cU (eN i d f b)) (Nd h j)
end
section
variable{a:Ad}
def F_(t:Tx)(b:List Tx)(s:Nat):List Tx:=(oV (s+1) b.length).flatMap λg=>if lG b s=lG b g then II t b s g else []
def KW(t:Tx)(b:List Tx):List Tx:=(oV 0 b.length).flatMap λs=>F_ t b s
theorem eM{i:Nat}{ε:ag}{v:PV}(h:ε[i]?=aa (.val v)):dV i ε=.ok v ε:=by unfold dV;rw[h]
theorem Cp{f:Type}{c:ag->R Bool}{d1 d2:ag->R f}{d b:ag}(h:c d=.ok ai b):ca c d1 d2 d=d1 b:=by unfold ca;rw[h];rfl
theorem u7{b:Type}{c:ag->R Bool}{d1 d2:ag->R b}{ε ε1:ag}(h:c ε=.ok aj ε1):ca c d1 d2 ε=d2 ε1:=by unfold ca;rw[h];rfl
theorem k6{d:ag->R PV}{b:Bool}{ε c:ag}(h:d ε=.ok (.bl b) c):dB d ε=.ok b c:=by unfold dB;rw[h];rfl
def Fa(t:Tx)(m w:Nat):List Tx:=(oV 1 m).map λp=>Is ((t.take m).drop p++(t.take m).take p) w
def Jr(t:Tx)(b:List Tx)(w:Nat):List Tx:=if lG b 0=lG b (b.length-1)then Fa t (b.length-1) w else []
def Hb(t:Tx)(w:Nat):List Tx:=KW t (AN t (w-1))++Jr t (AN t (w-1)) w
def GJ(t:Tx)(m:Nat):List Tx:=(oV 1 m).map λp=>part (cY 3 (t.take m)).flatten p (p+t.length)
def jl(t:Tx)(b:List Tx):List Tx:=if lG b 0=lG b (b.length-1)then GJ t (b.length-1)else []
end
section
variable{a:Ad}
theorem LJ{c:Type}(b:List c)(k:Nat)(d:1<=k):dH b (aa (-(k:Int))) ae=b.drop (b.length-k):=by
 unfold dH;rw[show HT.sIx b.length b.length ae=b.length from rfl];have:HT.sIx b.length 0 (aa (-(k:Int)))=b.length-k:=by show(if(-(k:Int))<0 then((-(k:Int))+(b.length:Int)).toNat else min (-(k:Int)).toNat b.length)=_;rw[if_pos ∅];lia
 rw[this,n5 (by simp)]
def rV(a:Ad):ag->R aE:=aZ 5 (d2 a9 (dV 5) (ax (aD (jy a) (gV (dV 0) (gO 1 (gV (dF (dL eB (aq (c7 cy (dV 5) (eA) (cz (dC (.int 2)))) (aq (c7 cy (dV 5) (eA) (cz (dC (.int 3)))) (aq (c7 cy (dV 5) (cz (dC (.int 1))) (cz (dC (.int 3)))) (aq (dC (.str [97])) (aq (dC (.str [98])) (aq (c7 cy (dV 5) (cz (d1 jx (dC (.int 2)))) (eA)) (aA))))))))) (Pu.bE)))))))
def sx:ag->R Bool:=dB (d2 (bR λi j=>decide (i<j)) (dL aV (aq (dV 5) (aA))) (d2 ga (dV 3) (dC (.int 2))))
theorem Nu:yaz a=aF (aZ 4 (d2 a9 (dC (.int 1)) (ax (aD (jy a) (gV (dV 0) (gO 1 (gV (dF (dL eB (aq (dC (.int 1)) (aq (dC (.int 1)) (aq (dC (.int 2)) (aq (dC (.int 2)) (aq (dC (.int 3)) (aA)))))))) (Pu.bE)))))))) (aF (aZ 5 (ax (aD (l7 a) (gV (dV 0) (gO 1 (gV (dV 2) (gV (dC (.int 4)) (Pu.bE)))))))) (aF (λb=>cU (dj sx (rV a) 1000 b)) (bD (dL dU (aq (c7 cy (dV 5) (eA) (cz (dL nL (aq (dV 4) (aq (d2 ga (dV 3) (ax (aD (kq a) (gV (dV 0) (gO 1 (gV (dC (.int 3)) (Pu.bE))))))) (aA)))))) (aq (dV 4) (aA))))))):=rfl
theorem Jx(d:List Int)(b:List PV)(L M W:PV)(z:Tx)(A:2<=z.length)(u:z.length<=12)(g:∀c∈z,c∈bA)(B:b.length<=900):∃y:Tx,1<=y.length/\y.length<=3/\(∀c∈y,c∈bA) /\ rV a [br d,.own (.lst b),.val L,.val M,.val W,↥z]=.ok .next [br d,.own (.lst (b++[.int 0])),.val L,.val M,.val W,↥(z++y)]:=by
 obtain⟨x,n,f⟩:=yE (a:=a) d b [.str (z.take 2),.str (z.take 3),.str (part z 1 3),.str [97],.str [98],.str (z.drop (z.length-2))] ∅ (by simp);obtain⟨y,rfl,s,r,q⟩:∃y:Tx,x=.str y/\1<=y.length/\y.length<=3/\∀c∈y,c∈bA:=by
  simp only[bV,g_,or_false]at n;rcases n with rfl|rfl|rfl|rfl|rfl|rfl
  .exact⟨_,rfl,by simp;lia,by simp;lia,λc h=>g c (wo h)⟩
  .exact⟨_,rfl,by simp;lia,by simp;lia,λc h=>g c (wo h)⟩
  .exact⟨_,rfl,by unfold part;simp;lia,by unfold part;simp;lia,λc h=>g c (EH (wo h))⟩
  .exact⟨_,rfl,by simp,by simp,by simp[bA]⟩
  .exact⟨_,rfl,by simp,by simp,by simp[bA]⟩
  .exact⟨_,rfl,by simp;lia,by simp;lia,λc h=>g c (EH h)⟩
 refine⟨y,s,r,q,?_⟩;have m:cy (.str z) ae (aa 2)=aa (.str (z.take 2)):=yd z 2;have l:cy (.str z) ae (aa 3)=aa (.str (z.take 3)):=yd z 3;have j:cy (.str z) (aa 1) (aa 3)=aa (.str (part z 1 3)):=Ij z 1 3;have i:cy (.str z) (aa (-2)) ae=aa (.str (z.drop (z.length-2))):=by show aa (PV.str (dH z (aa (-((2:Nat):Int))) ae))=_;rw[LJ _ _ (by decide)]
 have v:jx (.int 2)=aa (.int (-2)):=rfl;have o:a9 (.str z) (.str y)=aa (.str (z++y)):=ro (by unfold b0;lia);generalize z++y=ZY at o;generalize z.take 2=Z1 at m f;generalize z.take 3=Z2 at l f;generalize part z 1 3=Z3 at j f;generalize z.drop (z.length-2)=Z4 at i f;unfold rV;generalize jy a=G at f ⊢;have p:dF (dL eB (aq (c7 cy (dV 5) (eA) (cz (dC (.int 2)))) (aq (c7 cy (dV 5) (eA) (cz (dC (.int 3)))) (aq (c7 cy (dV 5) (cz (dC (.int 1))) (cz (dC (.int 3)))) (aq (dC (.str [97])) (aq (dC (.str [98])) (aq (c7 cy (dV 5) (cz (d1 jx (dC (.int 2)))) (eA)) (aA)))))))) [br d,.own (.lst b),.val L,.val M,.val W,↥z]=.ok (.lst [.str Z1,.str Z2,.str Z3,.str [97],.str [98],.str Z4]) [br d,.own (.lst b),.val L,.val M,.val W,↥z]:=by simp![c7,cz,eA,m,l,j,i,v]
 have w:ax (aD G (gV (dV 0) (gO 1 (gV (dF (dL eB (aq (c7 cy (dV 5) (eA) (cz (dC (.int 2)))) (aq (c7 cy (dV 5) (eA) (cz (dC (.int 3)))) (aq (c7 cy (dV 5) (cz (dC (.int 1))) (cz (dC (.int 3)))) (aq (dC (.str [97])) (aq (dC (.str [98])) (aq (c7 cy (dV 5) (cz (d1 jx (dC (.int 2)))) (eA)) (aA))))))))) (Pu.bE))))) [br d,.own (.lst b),.val L,.val M,.val W,↥z]=.ok (.str y) [br d,.own (.lst (b++[.int 0])),.val L,.val M,.val W,↥z]:=by generalize dF (dL eB _)=D at p ⊢;simp[ax,aD,gV,gO,Pu.bE,dV,p,R.bind,aG,bv,cn,f,cH,cI,cG,jM]
 exact iw (ip (x:=.str z) rfl w o)
theorem Bk(d:List Int)(c:List PV)(L W:PV)(b:Nat)(z:Tx)(i:2<=b):sx [br d,.own (.lst c),.val L,⇑b,.val W,↥z]=.ok (decide (z.length<b-2)) [br d,.own (.lst c),.val L,⇑b,.val W,↥z]:=by
 have g:aV [.str z]=aa (.int (z.length:Nat)):=rfl;have f:ga (.int b) (.int 2)=aa (.int ((b-2:Nat):Int)):=by show aa (PV.int _)=_;congr 2;lia
 have h:decide (((z.length:Nat):Int)<((b-2:Nat):Int))=decide (z.length<b-2):=by
  by_cases q:z.length<b-2
  .rw[decide_eq_true q,decide_eq_true ∅]
  .rw[decide_eq_false q,decide_eq_false ∅]
 rw[<-h];generalize ((b-2:Nat):Int)=m2 at f;generalize ((z.length:Nat):Int)=zl at g;simp![sx,g,f]
theorem rG{t:ag->R Bool}{d:ag->R aE}{n:Nat}{ε c b:ag}(h:t ε=.ok ai c)(f:d c=.ok .next b):dj t d (n+1) ε=dj t d n b:=by rw[dj,h,R.bind_ok];simp only;rw[f]
theorem pt{t:ag->R Bool}{c:ag->R aE}{n:Nat}{ε b:ag}(h:t ε=.ok aj b):dj t c (n+1) ε=.ok .next b:=by rw[dj,h,R.bind_ok]
theorem Jc(i:List Int)(L W:PV)(b:Nat)(I:6<=b)(x:b<=10):∀(k h:Nat) (g:List PV) (z:Tx),b-2-z.length<=k->k<h->2<=z.length->z.length<=b->(∀c∈z,c∈bA)->g.length+k<=900 -> ∃(m:List PV) (y:Tx),b<=y.length+2/\y.length<=b/\(∀c∈y,c∈bA)/\m.length<=g.length+k/\dj sx (rV a) h [br i,.own (.lst g),.val L,⇑b,.val W,↥z]=.ok .next [br i,.own (.lst m),.val L,⇑b,.val W,↥y]:=by
 intro k
 induction k with
 |zero=>
  intro h g z F E o n l B;obtain⟨f,rfl⟩:∃f,h=f+1:=⟨h-1,∅⟩
  have c:=Bk i g L W b z ∅;rw[decide_eq_false ∅]at c;exact⟨g,z,∅,n,l,∅,pt c⟩
 |succ k A=>
  intro h g z F E o n l B;obtain⟨f,rfl⟩:∃f,h=f+1:=⟨h-1,∅⟩
  have c:=Bk i g L W b z ∅;by_cases q:z.length<b-2
  .rw[decide_eq_true q]at c;obtain⟨y,H,G,p,D⟩:=Jx (a:=a) i g L (.int b) W z o ∅ l ∅;obtain⟨m,v,w,u,s,r,C⟩:=A f (g++[.int 0]) (z++y) (by simp;lia) ∅ (by simp;lia) (by simp;lia) (λd j=>by
    rcases nW.mp j with j|j
    .exact l d j
    .exact p d j) (by simp;lia)
   refine⟨m,v,w,u,s,?_,(rG c D).trans C⟩;simp at r;lia
  .rw[decide_eq_false q]at c;exact⟨g,z,∅,n,l,∅,pt c⟩
theorem Lh(j:List Int)(l:List PV)(g b:Nat)(l2:2<=g)(L:g<=4)(K:6<=b)(x:b<=10)(hx:l.length<=400):∃(t:Tx) (w:Nat) (C:List PV),2<=w/\w<=4/\b<=t.length+2/\t.length<=b/\(∀c∈t,c∈bA)/\C.length<=l.length+30 /\ kU a [br j,.own (.lst l),⇑g,⇑b]=.ok (.val (.tup [.str t,.int w])) [br j,.own (.lst C),⇑g,⇑b]:=by
 obtain⟨f,I,H⟩:=yE (a:=a) j l [.int 1,.int 1,.int 2,.int 2,.int 3] ∅ (by decide);obtain⟨i,rfl,f0,f1⟩:∃i:Nat,f=.int i/\1<=i/\i<=3:=by
  simp only[bV,g_,or_false]at I;rcases I with rfl|rfl|rfl|rfl|rfl
  .exact⟨1,rfl,by decide,by decide⟩
  .exact⟨1,rfl,by decide,by decide⟩
  .exact⟨2,rfl,by decide,by decide⟩
  .exact⟨2,rfl,by decide,by decide⟩
  .exact⟨3,rfl,by decide,by decide⟩
 obtain⟨z,s,T,S,m,A,O⟩:=KY (a:=a) j (l++[.int 0]) g 4 L (by decide) (by simp;lia);simp only[eG,sK]at A;obtain⟨r,o,c1,c2,Q,P,F⟩:=Jc (a:=a) j (.int g) (.int ((i+1:Nat):Int)) b K x 10 1000 s z ∅ ∅ ∅ ∅ m ∅;obtain⟨v,X,W,B⟩:=vQ (a:=a) j r 3 (by decide) ∅;obtain⟨d,rfl⟩:∃d:Nat,v=d:=⟨v.toNat,∅⟩
 obtain⟨n,q,Z,Y⟩:∃n:Nat,nL [.int ((i+1:Nat):Int),.int ((b:Int)-d)]=aa (.int n)/\b<=n+2/\n<=b:=by refine⟨b-d,?_,∅,∅⟩;show aa (PV.int (if((b:Int)-d) > ((i+1:Nat):Int)then((b:Int)-d)else((i+1:Nat):Int)))=_;congr 2;split <;> lia
 refine⟨o.take n,i+1,r++[.int 0],∅,∅,by simp;lia,by simp;lia,λc h=>Q c (wo h),by simp;lia,?_⟩;have E:a9 (.int 1) (.int i)=aa (.int ((i+1:Nat):Int)):=by show aa (PV.int _)=_;congr 2;lia
 have y:ga (.int b) (.int d)=aa (.int ((b:Int)-d)):=rfl;have u:=yd o n;have J:yaz a [br j,.own (.lst l),⇑g,⇑b,.none,.none]=.ok (.ret (.val (.tup [.str (o.take n),.int ((i+1:Nat):Int)]))) [br j,.own (.lst (r++[.int 0])),⇑g,⇑b,⇑((i+1:Nat):Int),↥o]:=by
  rw[Nu];generalize (b:Int)-d=md at q y;generalize ((d:Nat):Int)=di at B y;generalize ((i+1:Nat):Int)=wi at q E F ⊢;generalize o.take n=ZN at u ⊢;generalize ((n:Nat):Int)=ni at q u;have N:aZ 4 (d2 a9 (dC (.int 1)) (ax (aD (jy a) (gV (dV 0) (gO 1 (gV (dF (dL eB (aq (dC (.int 1)) (aq (dC (.int 1)) (aq (dC (.int 2)) (aq (dC (.int 2)) (aq (dC (.int 3)) (aA)))))))) (Pu.bE))))))) [br j,.own (.lst l),⇑g,⇑b,.none,.none]=.ok .next [br j,.own (.lst (l++[.int 0])),⇑g,⇑b,⇑wi,.none]:=by generalize jy a=G at H ⊢;simp![H,E]
  have M:aZ 5 (ax (aD (l7 a) (gV (dV 0) (gO 1 (gV (dV 2) (gV (dC (.int 4)) (Pu.bE))))))) [br j,.own (.lst (l++[.int 0])),⇑g,⇑b,⇑wi,.none]=.ok .next [br j,.own (.lst s),⇑g,⇑b,⇑wi,↥z]:=by have p:l7 a [br j,.own (.lst (l++[.int 0])),⇑g,⇑4]=.ok (↥z) [br j,.own (.lst s),⇑g,⇑4]:=O;generalize l7 a=G at p ⊢;simp![p]
  refine(c4 N).trans ?_;refine(c4 M).trans ?_;refine(c4 (d1:=λε=>cU (dj sx (rV a) 1000 ε)) (by show cU _=_;rw[F];rfl)).trans ?_;generalize kq a=G at B ⊢;simp![B,y,q,c7,cz,eA,u]
 unfold kU;generalize yaz a=D at J;simp[bz,fP,a6,cY,J,back,aG,R.bind,gQ]
end
end Sh
namespace Mx
open L2 Pu
theorem Di{z:Tx}{w:Nat}(a:1<=w):(bw z w).length=z.length+1-w:=by rw[vy z w a];simp
def LQ(t:Tx)(w:Nat):List Tx:=(c9 t.length).filter λz=>(bw z w).isPerm (bw t w)
end Mx
namespace Sh
open L2 Pu Mx
section
variable{v:Nat}
def oc(v:Nat)(M:List Tx)(y:Tx):Nat:=(M.map λx=>if x.take v=y then 1 else 0).sum
abbrev b2(p:Prop)[Decidable p]:Nat:=if p then 1 else 0
end
inductive WN(w:Nat):Nat->Tx->Tx->Prop
 |here (n:Nat) (t:Tx):WN w n t t
 |on {n:Nat}{t u z:Tx}:WN w n t u->z∈Hb u w->WN w (n+1) t z
def Full(w:Nat)(t:Tx)(k:Nat):Prop:=∀z∈LQ t w,WN w k t z
abbrev ks(m:List (Tx×Int)):List Tx:=m.map (·.1)
def b1(p:Prop)[Decidable p]:Int:=if p then 1 else 0
def exc(a:List Tx)(y:Tx):Int:=(a.map λx=>b1 (x.dropLast=y)-b1 (x.tail=y)).sum
section
variable{a:Ad}
def f2(a:Ad):ag->R aE:=aZ 2 (dF (cj [1] (bI (dF (Np 1))) (dB (d2 (bR λi j=>decide (j<i)) (lE 1 (dV 0)) (dC (.int 0)))) (dV 0)))
def f3:ag->R aE:=ca (dB (d2 (bR λi j=>decide (j<i)) (dL aV (aq (dV 2) (aA))) (dC (.int 1)))) (bD (dL dU (aq (dC (.str [116,119,111])) (aq (d2 bN (dV 2) (dC (.int 0))) (aq (d2 bN (dV 2) (dC (.int 1))) (aA)))))) (cL)
def f4:ag->R aE:=ca (Gm (dB (d2 (eqT aj) (dL aV (aq (dV 2) (aA))) (dC (.int 1)))) (dB (d2 (bR λi j=>decide (j<i)) (lE 1 (d2 bN (dV 2) (dC (.int 0)))) (dC (.int 1))))) (bD (dL dU (aq (dC (.str [109,111,114,101])) (aq (d2 bN (dV 2) (dC (.int 0))) (aA))))) (cL)
end
end Sh
namespace Mx
open L2 Pu
def ovD(a w:Tx):Nat->Nat
 |0=>0
 |k+1=>if w.take (k+1) <:+ a then k+1 else ovD a w k
def ov(a w:Tx):Nat:=ovD a w (w.length-1)
theorem Lb{w:Nat}{a:List Tx}(b:1<=w)(d:1<=a.length)(f:∀x∈a,x.length=w/\∀c∈x,c∈bA):(bS w a).Nodup:=by rw[rW b d f];exact(Cb _).filter _
theorem E6{w:Nat}{d:List Tx}(f:1<=w)(i:1<=d.length)(j:∀x∈d,x.length=w/\∀c∈x,c∈bA)(h:d.Pairwise (λa b=>c6 a b=ai)){z:Tx}(g:∀c∈z,c∈bA):z∈bS w d↔bu (bw z w)=d:=by
 rw[rW f i j,eY,lq,List.isPerm_iff];constructor
 .rintro⟨_,p⟩;rw[AR p,yF h]
 .intro e;have p:(bw z w).Perm d:=by rw[<-e];exact(jf _).symm
  have l:=p.length_eq;rw[Di f]at l;exact⟨⟨∅,g⟩,p⟩
theorem Fs{w:Nat}{a:List Tx}(b:1<=w)(d:1<=a.length)(f:∀x∈a,x.length=w/\∀c∈x,c∈bA){z:Tx}(h:z∈bS w a):z.length=w-1+a.length/\∀c∈z,c∈bA:=by rw[rW b d f,eY,lq]at h;exact h.1
end Mx
namespace Sh
open L2 Pu Mx
theorem txKey_ii{x y:List Tx}:eu x=eu y↔x=y:=by
 constructor
 .intro h;have a:=BL x;rw[h,BL]at a;exact(dY a).symm
 .rintro rfl;rfl
def GG:Nat->Nat
 |0=>1
 |k+1=>1+3*GG k
def wl(l:List Tx)(p c:Nat):List Tx:=l.filter λt=>decide (t[p]?=aa c)
def ans(l:List Tx)(p:Nat):Tx:=bA.filter λc=>decide (wl l p c≠[])
def parts(l:List Tx)(p:Nat):List (List Tx):=(ans l p).map (wl l p)
def wide(l:List Tx):Nat:=(l.headD []).length
def can:Nat->List Tx->Bool
 |0,l=>decide (l.length=1)
 |m+1,l=>decide (l.length=1)||(cp (wide l)).any λp=>decide (1<(parts l p).length)&&(parts l p).all (can m)
structure Ql(l:List Tx):Prop where
 ne:l≠[]
 nd:l.Nodup
 abc:∀t∈l,∀c∈t,c∈bA
 len:∀t∈l,t.length=wide l
theorem wl_sub(l:List Tx)(p c:Nat):(wl l p c).Sublist l:=List.filter_sublist
theorem parts_mem{l m:List Tx}{p:Nat}:m∈parts l p↔∃c∈bA,m=wl l p c/\wl l p c≠[]:=by
 unfold parts ans;rw[b7];constructor
 .rintro⟨c,h,rfl⟩;obtain⟨b,a⟩:=eY.mp h;exact⟨c,b,rfl,of_decide_eq_true a⟩
 .rintro⟨c,b,rfl,a⟩;exact⟨c,eY.mpr ⟨b,decide_eq_true a⟩,rfl⟩
theorem Ql.sub{l m:List Tx}(h:Ql l)(a:m.Sublist l)(c:m≠[]):Ql m:=by
 have e:wide m=wide l:=by
  cases m with
  |nil=>exact absurd rfl c
  |cons x r=>exact h.len x (a.mem (by simp))
 exact⟨c,h.nd.sublist a,λt b=>h.abc t (a.mem b),λt b=>by rw[e];exact h.len t (a.mem b)⟩
theorem Ql.part{l m:List Tx}{p:Nat}(h:Ql l)(a:m∈parts l p):Ql m/\m.Sublist l:=by obtain⟨c,_,rfl,b⟩:=parts_mem.mp a;exact⟨h.sub (wl_sub l p c) b,wl_sub l p c⟩
theorem ans_nodup(l:List Tx)(p:Nat):(ans l p).Nodup:=List.Nodup.sublist List.filter_sublist (show bA.Nodup by decide)
theorem part_lt{l m:List Tx}{p:Nat}(a:1<(parts l p).length)(j:m∈parts l p):m.length<l.length:=by
 obtain⟨c,q,rfl,s⟩:=parts_mem.mp j;rw[parts,cf]at a;obtain⟨d,n,b⟩:∃d∈ans l p,d≠c:=by
  have nd:=ans_nodup l p
  match e:ans l p with
  |[]=>rw[e]at a;simp at a
  |[x]=>rw[e]at a;simp at a
  |x::y::r=>
   rw[e]at nd;by_cases z:x=c
   .refine⟨y,by simp,λw=>?_⟩;have:=(jT.mp nd).1;exact this (by rw[z,<-w];simp)
   .exact⟨x,by simp,z⟩
 have o:=of_decide_eq_true (eY.mp n).2;obtain⟨t,i⟩:=List.exists_mem_of_ne_nil _ o;obtain⟨g,h⟩:=eY.mp i;rcases wv (wl l p c).length l.length with z|z
 .exact z
 .have e:=(wl_sub l p c).eq_of_length_le z;rw[<-e]at g;have f:=of_decide_eq_true (eY.mp g).2;rw[of_decide_eq_true h]at f;exact absurd (dY f) b
theorem can_succ:∀(m:Nat) {l:List Tx},can m l=ai->can (m+1) l=ai
 |0,l,h=>by unfold can at h;unfold can;rw[h];rfl
 |m+1,l,h=>by unfold can at h ⊢;rw[n6]at h ⊢;refine h.imp id λh=>?_;obtain⟨p,b,h⟩:=j0.mp h;rw[ef]at h;exact j0.mpr ⟨p,b,by rw[ef];exact⟨h.1,iF.mpr λq a=>can_succ m (iF.mp h.2 q a)⟩⟩
theorem can_le{m n:Nat}{l:List Tx}(h:m<=n)(a:can m l=ai):can n l=ai:=by
 induction n with
 |zero=>
  obtain rfl:m=0:=∅
  exact a
 |succ n b=>
  rcases wv m (n+1)with z|z
  .exact can_succ n (b ∅)
  .obtain rfl:m=n+1:=∅
   exact a
theorem Ql.differ{l:List Tx}(h:Ql l)(n:2<=l.length):∃p,p<wide l/\1<(parts l p).length:=by
 match l,h,n with
 |x::y::r,h,_=>
  have i:x≠y:=λz=>(jT.mp h.nd).1 (by rw[z];simp);have A:=h.len x (by simp);have v:=h.len y (by simp);obtain⟨p,j,m⟩:∃p,p<wide (x::y::r)/\x[p]?≠y[p]?:=Decidable.byContradiction λz=>i (sR λp=>Decidable.byContradiction λw=>by
   rcases wv p (wide (x::y::r))with q|q
   .exact z ⟨p,q,w⟩
   .exact w (by rw[p7 ∅,p7 ∅]))
  refine⟨p,j,?_⟩;have a:∀t∈x::y::r,∃c,t[p]?=aa c/\c∈ans (x::y::r) p:=λt g=>by
   have B:=h.len t g;have f:p<t.length:=∅
   refine⟨t[p],eh f,eY.mpr ⟨h.abc t g _ (zJ f),decide_eq_true (ww (eY.mpr ⟨g,decide_eq_true (eh f)⟩))⟩⟩
  obtain⟨c,o,b⟩:=a x (by simp);obtain⟨d,d1,d2⟩:=a y (by simp);have s:c≠d:=λz=>m (by rw[o,d1,z]);rw[parts,cf]
  match e:ans (x::y::r) p with
  |[]=>rw[e]at b;cases b
  |[u]=>rw[e]at b d2;exact absurd ((g9.mp b).trans (g9.mp d2).symm) s
  |_::_::_=>simp
theorem Ql.can{l:List Tx}(h:Ql l):∀(k:Nat),l.length<=k+1->Sh.can k l=ai:=by
 intro k
 induction k generalizing l with
 |zero=>intro f;have:=jZ.mpr h.ne;unfold Sh.can;exact decide_eq_true ∅
 |succ k c=>
  intro f;unfold Sh.can;rw[n6];by_cases g:l.length=1
  .exact .inl (decide_eq_true g)
  .have:=jZ.mpr h.ne;obtain⟨p,d,a⟩:=h.differ ∅;refine .inr (j0.mpr ⟨p,lH.mpr d,?_⟩);rw[ef];exact⟨decide_eq_true a,iF.mpr λm b=>c (h.part b).1 (by have:=part_lt a b;lia)⟩
def nd(l:List Tx):Nat:=((cp l.length).filter λm=>can m l).headD 0
theorem range_first(f:Nat->Bool):∀n,(∃m,m<n/\f m=ai)->∃m r,(cp n).filter f=m::r/\f m=ai/\(∀i,i<m->f i=aj)/\m<n:=by
 intro n
 induction n with
 |zero=>rintro⟨m,h,_⟩;lia
 |succ n c=>
  rintro⟨m,j,b⟩;rw[sM,List.filter_append];by_cases h:∃m,m<n/\f m=ai
  .obtain⟨m,r,e,g,d,l⟩:=c h;exact⟨m,r++[n].filter f,by rw[e];rfl,g,d,∅⟩
  .have e:m=n:=by
    rcases wv m n with z|z
    .exact absurd ⟨m,z,b⟩ h
    .lia
   subst e;refine⟨m,[],?_,b,λi a=>?_,∅⟩
   .rw[EK.mpr λi a=>λz=>h ⟨i,lH.mp a,z⟩];simp[b]
   .cases q:f i with
    |false=>rfl
    |true=>exact absurd ⟨i,a,q⟩ h
theorem Ql.ndS{l:List Tx}(h:Ql l):∃r,(cp l.length).filter (λm=>Sh.can m l)=Sh.nd l::r/\Sh.can (Sh.nd l) l=ai/\(∀m,m<Sh.nd l->Sh.can m l=aj)/\Sh.nd l<l.length:=by
 have d:=jZ.mpr h.ne;obtain⟨m,r,e,c,b,a⟩:=range_first (λm=>Sh.can m l) l.length ⟨l.length-1,∅,h.can _ ∅⟩;have:Sh.nd l=m:=by unfold Sh.nd;rw[e];rfl
 rw[this];exact⟨r,e,c,b,a⟩
theorem Ql.nd_le{l:List Tx}(h:Ql l)(m:Nat):Sh.can m l=ai↔Sh.nd l<=m:=by
 obtain⟨_,_,c,b,_⟩:=h.ndS;constructor
 .intro a;rcases wv m (Sh.nd l)with z|z
  .rw[b m z]at a;cases a
  .exact z
 .exact λz=>can_le z c
theorem Ql.nd_one{l:List Tx}(h:Ql l)(b:l.length=1):Sh.nd l=0:=by obtain⟨_,_,_,_,a⟩:=h.ndS;lia
def mxI(l:List Nat):Nat:=l.foldl max 0
theorem mxI_le:∀(l:List Nat) (b m:Nat),l.foldl max b<=m↔b<=m/\∀x∈l,x<=m
 |[],b,m=>by simp
 |x::l,b,m=>by rw[jX,mxI_le l (max b x) m];simp only[bV,forall_eq_or_imp,Nat.max_le,and_assoc]
def plq(l:List Tx):List Nat:=(cp (wide l)).filter λp=>decide (1<(ans l p).length)
def nb(l:List Tx)(p:Nat):Nat:=1+mxI ((parts l p).map nd)
theorem Ql.nd_min{l:List Tx}(h:Ql l)(u:2<=l.length):(∃p∈plq l,nb l p=Sh.nd l)/\∀p∈plq l,Sh.nd l<=nb l p:=by
 have o:∀p,p∈plq l↔p<wide l/\1<(parts l p).length:=λp=>by unfold plq;rw[eY,lH,decide_eq_true_iff,parts,cf]
 have i:∀p∈plq l,∀m,nb l p<=m+1->Sh.can (m+1) l=ai:=λp f m s=>by obtain⟨j,n⟩:=(o p).mp f;unfold nb mxI at s;have g:=((mxI_le ((parts l p).map Sh.nd) 0 m).mp ∅).2;unfold Sh.can;rw[n6];refine .inr (j0.mpr ⟨p,lH.mpr j,?_⟩);rw[ef];exact⟨decide_eq_true n,iF.mpr λq c=>((h.part c).1.nd_le m).mpr (g _ (b7.mpr ⟨q,c,rfl⟩))⟩
 have b:∀p∈plq l,Sh.nd l<=nb l p:=λp f=>by
  obtain⟨m,e⟩:∃m,nb l p=m+1:=⟨mxI ((parts l p).map Sh.nd),by unfold nb;lia⟩
  rw[e];exact(h.nd_le _).mp (i p f m ∅)
 refine⟨?_,b⟩;obtain⟨_,_,a,_,_⟩:=h.ndS;cases e:Sh.nd l with
 |zero=>rw[e]at a;unfold Sh.can at a;have:=of_decide_eq_true a;lia
 |succ m=>
  rw[e]at a;unfold Sh.can at a;rw[n6]at a;rcases a with a|a
  .have:=of_decide_eq_true a;lia
  .obtain⟨p,f,a⟩:=j0.mp a;rw[ef]at a;have d:=(o p).mpr ⟨lH.mp f,of_decide_eq_true a.1⟩;refine⟨p,d,?_⟩;have j:=b p d;have n:mxI ((parts l p).map Sh.nd)<=m:=(mxI_le _ 0 m).mpr ⟨g6 _,λx r=>by obtain⟨q,c,rfl⟩:=b7.mp r;exact((h.part c).1.nd_le m).mp (iF.mp a.2 q c)⟩;unfold nb at j ⊢;lia
structure Vd where
 w:Nat
 ls:List Tx
def tx(v:Vd):List Tx:=bS v.w v.ls
section
variable{a:Ad}
theorem sk_ix{t:Tx}{p:Nat}(h:p<t.length):bN (.str t) (.int p)=aa (.str [t[p]]):=by show(ez t ((p:Nat):Int)).map _=_;unfold ez;rw[yS ∅ ∅];simp[h]
theorem sk_test{t:Tx}{p c:Nat}(h:p<t.length):(bN (.str t) (.int p)).bind (λv=>Pu.eqT aj v (.str [c]))=aa (.bl (decide (t[p]?=aa c))):=by rw[sk_ix h,hV,IV,zZ];congr 2;exact decide_eq_decide.mpr (by rw[eh h];simp)
def hasC(p c:Nat):PV->Bool
 |.str t=>decide (t[p]?=aa c)
 |_=>aj
theorem sk_blk{t:Tx}{p c:Nat}(h:p<t.length)(f:PV):bp (bO [1,2] (dB (d2 (Pu.eqT aj) (d2 bN (dV 0) (dV 1)) (dV 2))) (.str t) [.val f,⇑p,.val (.str [c])])=.ok (decide (t[p]?=aa c)) [.val f,⇑p,.val (.str [c])]:=by have d:=sk_ix h;have b:=sk_test (c:=c) h;rw[d,hV]at b;generalize ((p:Nat):Int)=PI at d;generalize decide (t[p]?=aa c)=B at b;simp![bO,c0,bp,d,b]
theorem with_eq{L:PV}{l:List Tx}{p c:Nat}(f:gT L=aa (ak l))(h:∀t∈l,p<t.length):gM a [.val L,⇑p,.val (.str [c])]=.ok (.val (.tup (ak (wl l p c)))) [.val L,⇑p,.val (.str [c])]:=by
 have b:=jh (cap:=[1,2]) (dt:=(dB (d2 (Pu.eqT aj) (d2 bN (dV 0) (dV 1)) (dV 2)))) (de:=dV 0) (ε:=[.val L,⇑p,.val (.str [c])]) (hasC p c) (λv=>v) (ak l) (λv g=>by obtain⟨t,d,rfl⟩:=b7.mp g;exact⟨sk_blk (h t d) L,λ_=>by generalize ((p:Nat):Int)=PI;simp![bO,c0,bp]⟩) [];have i:((ak l).filter (hasC p c)).map (λv=>v)=ak (wl l p c):=by rw[wu];unfold ak wl;rw[mM];rfl
 rw[iH,i]at b;have d:iP [.lst (ak (wl l p c))]=aa (.tup (ak (wl l p c))):=rfl;generalize ak (wl l p c)=W at b d;generalize ak l=TL at b f;generalize ((p:Nat):Int)=PI at b;simp![gM,yaJ,bI,cj,f,b,d]
def sgP(b:Tx):List PV:=b.map λc=>.str [c]
theorem sk_len{x:PV}{n:Nat}{d:ag->R PV}{ε:ag}(h:d ε=.ok x ε)(b:aV [x]=aa (.int n))(k:Nat):dB (d2 (bR λi j=>decide (j<i)) (dL aV (aq d aA)) (dC (.int k))) ε=.ok (decide (k<n)) ε:=by
 have e:(bR λi j=>decide (j<i)) (.int n) (.int k)=aa (.bl (decide (k<n))):=by show aa (PV.bl (decide (((k:Nat):Int)<(n:Nat))))=_;congr 2;exact decide_eq_decide.mpr ∅
 generalize ((n:Nat):Int)=N at b e;generalize ((k:Nat):Int)=KI at e;simp[dB,d2,dL,aq,aA,dC,h,b,e,R.bind,aG,ik]
theorem sk_call3{G:ag->R Slot}{d e f:ag->R PV}{ε:ag}{x y z u:PV}(h:d ε=.ok x ε)(g:e ε=.ok y ε)(c:f ε=.ok z ε)(b:G [.val x,.val y,.val z]=.ok (.val u) [.val x,.val y,.val z]):ax (aD G (gV d (gV e (gV f Pu.bE)))) ε=.ok u ε:=by simp[ax,aD,gV,Pu.bE,h,g,c,b,R.bind,aG,cH,cG,bv,cn,cI,jM]
theorem sk_call2o{G:ag->R Slot}{d e:ag->R PV}{ε:ag}{x y:PV}{l:List PV}(h:d ε=.ok x ε)(c:e ε=.ok y ε)(b:G [.val x,.val y]=.ok (.own (.lst l)) [.val x,.val y]):ax (aD G (gV d (gV e Pu.bE))) ε=.ok (.lst l) ε:=by simp[ax,aD,gV,Pu.bE,h,c,b,R.bind,aG,cH,cG,bv,cn,cI,jM,qU]
theorem sk_call1o{G:ag->R Slot}{d:ag->R PV}{ε:ag}{x:PV}{l:List PV}(h:d ε=.ok x ε)(b:G [.val x]=.ok (.own (.lst l)) [.val x]):ax (aD G (gV d Pu.bE)) ε=.ok (.lst l) ε:=by simp[ax,aD,gV,Pu.bE,h,b,R.bind,aG,cH,cG,bv,cn,cI,jM,qU]
theorem blk2{f:Type}{d:ag->R f}{x c b:PV}{r:f}(h:d [.val x,.val c,.val b]=.ok r [.val x,.val c,.val b]):bp (bO [0,1] d x [.val c,.val b])=.ok r [.val c,.val b]:=by simp[bO,c0,bp,bv,cn,R.bind,aG,h,cH,cI,cG]
theorem blk1{c:Type}{d:ag->R c}{x b:PV}{r:c}(h:d [.val x,.val b]=.ok r [.val x,.val b]):bp (bO [0] d x [.val b])=.ok r [.val b]:=by simp[bO,c0,bp,bv,cn,R.bind,aG,h,cH,cI,cG]
def ansB(l:List Tx)(p:Nat):PV->Bool
 |.str [c]=>decide (wl l p c≠[])
 |_=>aj
theorem answers_eq{L:PV}{l:List Tx}{p:Nat}(r:gT L=aa (ak l))(o:∀t∈l,p<t.length):jI a [.val L,⇑p]=.ok (.own (.lst (sgP (ans l p)))) [.val L,⇑p]:=by
 have b:=jh (cap:=[0,1]) (dt:=(dB (d2 (bR λi j=>decide (j<i)) (dL aV (aq (ax (aD (gM a) (gV (dV 1) (gV (dV 2) (gV (dV 0) (Pu.bE)))))) (aA))) (dC (.int 0))))) (de:=dV 0) (ε:=[.val L,⇑p]) (ansB l p) (λv=>v) (sgP bA) (λv m=>by obtain⟨c,b,rfl⟩:=b7.mp m;refine⟨blk2 ?_,λ_=>blk2 rfl⟩;have h:=sk_len (sk_call3 (d:=dV 1) (e:=dV 2) (f:=dV 0) (ε:=[.val (.str [c]),.val L,⇑p]) rfl rfl rfl (with_eq (a:=a) r o)) (n:=(wl l p c).length) (by simp[aV,iO]) 0;refine h.trans ?_;congr 1;exact decide_eq_decide.mpr jZ) [];have q:((sgP bA).filter (ansB l p)).map (λv=>v)=sgP (ans l p):=by rw[wu];unfold sgP ans;rw[mM];rfl
 rw[iH,q]at b;have g:gT (.str [97,98,99])=aa (sgP bA):=rfl;unfold jI yai;generalize (dB (d2 (bR λi j=>decide (j<i)) (dL aV (aq (ax (aD (gM a) (gV (dV 1) (gV (dV 2) (gV (dV 0) (Pu.bE)))))) (aA))) (dC (.int 0))))=DT at b;generalize sgP (ans l p)=W at b;generalize sgP bA=TL at b g;generalize ((p:Nat):Int)=PI at b;simp![bI,cj,l6,g,b]
theorem sg_len(b:Tx):aV [.lst (sgP b)]=aa (.int (b.length:Nat)):=by simp[aV,sgP]
def plB(l:List Tx):PV->Bool
 |.int i=>decide (1<(ans l i.toNat).length)
 |_=>aj
def nsP(l:List Nat):List PV:=l.map λp=>.int (p:Nat)
theorem rng_ns(n:Nat):fi 0 n=nsP (cp n):=by unfold fi nsP;exact kE λi _=>by simp
theorem places_eq{l:List Tx}(h:Ql l)(s:wide l<=1000):jk a [.val (.tup (ak l))]=.ok (.own (.lst (nsP (plq l)))) [.val (.tup (ak l))]:=by
 have b:=jh (cap:=[0]) (dt:=(dB (d2 (bR λi j=>decide (j<i)) (dL aV (aq (ax (aD (jI a) (gV (dV 1) (gV (dV 0) (Pu.bE))))) (aA))) (dC (.int 1))))) (de:=dV 0) (ε:=[.val (.tup (ak l))]) (plB l) (λv=>v) (nsP (cp (wide l))) (λv n=>by obtain⟨p,f,rfl⟩:=b7.mp n;have f:=lH.mp f;refine⟨blk1 ?_,λ_=>blk1 rfl⟩;have h:=sk_len (sk_call2o (d:=dV 1) (e:=dV 0) (ε:=[⇑p,.val (.tup (ak l))]) rfl rfl (answers_eq (a:=a) rfl λt o=>by rw[h.len t o];exact f)) (sg_len _) 1;exact h) [];have q:((nsP (cp (wide l))).filter (plB l)).map (λv=>v)=nsP (plq l):=by rw[wu];unfold nsP plq;rw[mM];congr 1
 rw[iH,q]at b;obtain⟨x,r,e⟩:=qe h.ne;have m:bN (.tup (ak l)) (.int 0)=aa (.str x):=by rw[e];show ez (ak (x::r)) ((0:Nat):Int)=_;unfold ez;rw[yS ∅ (by simp[ak])];rfl
 have g:aV [.str x]=aa (.int (wide l:Nat)):=by have:x.length=wide l:=h.len x (by rw[e];simp);show aa (PV.int (x.length:Nat))=_;rw[this]
 have c:jD [.int (wide l:Nat)]=aa (nsP (cp (wide l))):=by rw[<-rng_ns];exact vo ∅
 unfold jk yaH;generalize (dB (d2 (bR λi j=>decide (j<i)) (dL aV (aq (ax (aD (jI a) (gV (dV 1) (gV (dV 0) (Pu.bE))))) (aA))) (dC (.int 1))))=DT at b;generalize nsP (plq l)=W at b;generalize nsP (cp (wide l))=TL at b c;generalize ((wide l:Nat):Int)=WI at g c;generalize ak l=TX at b m;simp![cj,l6,m,g,c,b]
end
theorem ints_nat(l:List Nat):et (nsP l)=aa (l.map λi:Nat=>(i:Int)):=by
 induction l with
 |nil=>rfl
 |cons x l a=>show(et (nsP l)).map _=_;rw[a];rfl
theorem max_fold:∀(r:List Nat) (b:Nat),(r.map λi:Nat=>(i:Int)).foldl (λb y=>if y > b then y else b) (b:Int)=(((r.foldl max b):Nat):Int)
 |[],b=>rfl
 |x::r,b=>by
  rw[fK,jX,jX];have e:(if((x:Nat):Int) > (b:Nat)then((x:Nat):Int)else(b:Nat))=(((max b x):Nat):Int):=by split <;> lia
  rw[e];exact max_fold r (max b x)
theorem maxP_nat{l:List Nat}(h:l≠[]):rM [.lst (nsP l)]=aa (.int (mxI l:Nat)):=by
 show(et (nsP l)).bind _=_;rw[ints_nat,hV,if_pos (by simpa using h)];congr 2
 match l,h with
 |x::r,_=>show(r.map λi:Nat=>(i:Int)).foldl (λb y=>if y > b then y else b) ((x:Nat):Int)=_;rw[max_fold];unfold mxI;rw[jX,Nat.zero_max]
theorem min_fold:∀(r:List Nat) (b m:Nat),m<=b->(∀x∈r,m<=x)->(m=b\/m∈r)->(r.map λi:Nat=>(i:Int)).foldl (λb y=>if y<b then y else b) (b:Int)=(m:Int)
 |[],b,m,_,_,h=>by
  rcases h with rfl|h
  .rfl
  .cases h
 |x::r,b,m,f,a,h=>by
  rw[fK,jX];have e:(if((x:Nat):Int)<(b:Nat)then((x:Nat):Int)else(b:Nat))=(((min b x):Nat):Int):=by split <;> lia
  rw[e];have d:=a x (by simp);refine min_fold r (min b x) m ∅ (λy c=>a y (by simp[c])) ?_;rcases h with h|h
  .exact .inl ∅
  .rcases bV.mp h with h|h
   .exact .inl ∅
   .exact .inr h
theorem minP_nat{l:List Nat}{m:Nat}(h:m∈l)(a:∀x∈l,m<=x):pE [.lst (nsP l)]=aa (.int m):=by
 have c:=ww h;show(et (nsP l)).bind _=_;rw[ints_nat,hV,if_pos (by simpa using c)];congr 2
 match l,h,a with
 |x::r,h,a=>exact min_fold r x m (a x (by simp)) (λy b=>a y (by simp[b])) (bV.mp h)
def subs:List Tx->List (List Tx)
 |[]=>[[]]
 |x::l=>subs l++(subs l).map (x::·)
theorem subs_mem:∀{l m:List Tx},m.Sublist l->m∈subs l
 |[],m,h=>by rw[List.sublist_nil.mp h];simp[subs]
 |x::l,m,h=>by
  unfold subs;rw[nW,b7];cases h with
  |cons _ h=>exact .inl (subs_mem h)
  |cons_cons _ h=>exact .inr ⟨_,subs_mem h,rfl⟩
theorem subs_len:∀l:List Tx,(subs l).length=2^l.length
 |[]=>rfl
 |x::l=>by rw[subs,eG,cf,subs_len l,e_,Nat.pow_succ];lia
structure Kn(l0:List Tx)(kvs:List (ci×PV)):Prop where
 key:∀q∈kvs,∃l:List Tx,q.1=eu l/\q.2=.int (nd l:Nat)/\l.Sublist l0
 nd:(kvs.map (·.1)).Nodup
theorem Kn.nil(l0:List Tx):Kn l0 []:=⟨(λq h=>by cases h),List.Pairwise.nil⟩
theorem Kn.len{l0:List Tx}{kvs:List (ci×PV)}(h:Kn l0 kvs)(f:l0.length<=16):kvs.length<=65536:=by
 have d:=h.nd.length_le_of_subset (l₂:=(subs l0).map eu) λk c=>by obtain⟨q,b,rfl⟩:=b7.mp c;obtain⟨l,e,_,a⟩:=h.key q b;exact b7.mpr ⟨l,subs_mem a,e.symm⟩
 rw[cf,cf,subs_len]at d;have:2^l0.length<=2^16:=EU (by decide) f;lia
theorem Kn.val{l0 l:List Tx}{kvs:List (ci×PV)}(h:Kn l0 kvs):eW kvs (eu l)=ae\/eW kvs (eu l)=aa (.int (Sh.nd l:Nat)):=by
 unfold eW;cases e:kvs.find? λa=>decide (a.1=eu l)with
 |none=>exact .inl rfl
 |some q=>obtain⟨m,d,c,_⟩:=h.key q (z6 e);have b:q.1=eu l:=of_decide_eq_true (List.find?_some (p:=λa:ci×PV=>decide (a.1=eu l)) e);rw[d]at b;have:=txKey_ii.mp b;subst this;exact .inr (by rw[oa,c])
theorem valT_none{a:List (ci×PV)}{k:ci}(h:eW a k=ae):∀q∈a,q.1≠k:=λq b e=>by unfold eW at h;rw[z0,z5]at h;exact h q b (decide_eq_true e)
theorem putT_new{a:List (ci×PV)}{k:ci}{v:PV}(h:eW a k=ae):jb a k v=a++[(k,v)]/\eW (a++[(k,v)]) k=aa v:=by
 have c:=valT_none h;refine⟨?_,?_⟩
 .unfold jb;rw[if_neg];intro z;obtain⟨q,b,e⟩:=j0.mp z;exact c q b (of_decide_eq_true e)
 .unfold eW at h ⊢;rw[z0]at h;rw[List.find?_append,h];simp
theorem Kn.put{c l:List Tx}{a:List (ci×PV)}(h:Kn c a)(g:l.Sublist c)(f:eW a (eu l)=ae):Kn c (a++[(eu l,.int (Sh.nd l:Nat))]):=by
 refine⟨λq b=>?_,?_⟩
 .rcases nW.mp b with b|b
  .exact h.key q b
  .rw[g9.mp b];exact⟨l,rfl,rfl,g⟩
 .rw[pY,EA];refine⟨h.nd,by simp,λk i j d=>?_⟩;obtain⟨q,b,rfl⟩:=b7.mp i;have d:j=eu l:=by simpa using d
  rw[d];exact valT_none f q b
section
variable{a:Ad}
def partE(b:ag->R Slot):ag->R PV:=(ax (aD (b) (gV (dV 0) (gO 1 (Pu.bE)))))
theorem part_blk{d:ag->R Slot}{s0 s1 s3:Slot}{m:List Tx}{c b:List (ci×PV)}{n:Nat}(h:d [.val (.tup (ak m)),.own (.dT c)]=.ok (⇑n) [.val (.tup (ak m)),.own (.dT b)]):bp (bO [2] (partE d) (jj m) [s0,s1,.own (.dT c),s3])=.ok (.int n) [s0,s1,.own (.dT b),s3]:=by have e:jj m=.tup (ak m):=rfl;rw[e];generalize ak m=M at h;generalize ((n:Nat):Int)=N at h;simp[partE,bO,c0,bp,bv,cn,R.bind,aG,ax,aD,gV,gO,dV,Pu.bE,h,cH,cI,cG,jM]
theorem part_loop{rc:ag->R Slot}{g:List Tx}{s0 s1 s3:Slot}:∀(d:List (List Tx)) (f:List PV) (b:List (ci×PV)),Kn g b -> (∀m∈d,∀b,Kn g b->∃c,Kn g c/\rc [.val (.tup (ak m)),.own (.dT b)]=.ok (⇑(nd m:Nat)) [.val (.tup (ak m)),.own (.dT c)]) -> ∃c,Kn g c/\dD [2] cb (partE rc) (d.map jj) f [s0,s1,.own (.dT b),s3]=.ok (f++nsP (d.map nd)) [s0,s1,.own (.dT c),s3]
 |[],f,b,j,_=>⟨b,j,by simp[dD,nsP]⟩
 |m::d,f,b,j,h=>by obtain⟨o,v,u⟩:=h m (by simp) b j;obtain⟨n,s,r⟩:=part_loop d (f++[.int (nd m:Nat)]) o v λl i=>h l (by simp[i]);refine⟨n,s,?_⟩;have q:=part_blk (s0:=s0) (s1:=s1) (s3:=s3) u;have p:bp (bO [2] cb (jj m) [s0,s1,.own (.dT b),s3])=.ok ai [s0,s1,.own (.dT b),s3]:=rfl;rw[fK,dD,p,R.bind_ok];show(bp (bO [2] (partE rc) (jj m) [s0,s1,.own (.dT b),s3])).bind _=_;rw[q,R.bind_ok,r,sO];rfl
theorem blk_v{f:Type}{d:ag->R f}{x c b:PV}{i g:Slot}{r:f}(h:d [.val x,.val b,.val c]=.ok r [.val x,.val b,.val c]):bp (bO [1,0] d x [.val c,.val b,i,g])=.ok r [.val c,.val b,i,g]:=by simp[bO,c0,bp,bv,cn,R.bind,aG,h,cH,cI,cG]
def prtP(l:List Tx)(p:Nat):PV->PV
 |.str [c]=>jj (wl l p c)
 |v=>v
theorem parts_val{l:List Tx}{p:Nat}(i:∀t∈l,p<t.length)(b s3:Slot):dF (cj [1,0] (bI (ax (aD (jI a) (gV (dV 1) (gV (dV 0) (Pu.bE)))))) (cb) (ax (aD (gM a) (gV (dV 1) (gV (dV 2) (gV (dV 0) (Pu.bE))))))) [⇑p,.val (.tup (ak l)),b,s3]=.ok (.lst ((parts l p).map jj)) [⇑p,.val (.tup (ak l)),b,s3]:=by
 have g:=jh (cap:=[1,0]) (dt:=cb) (de:=(ax (aD (gM a) (gV (dV 1) (gV (dV 2) (gV (dV 0) (Pu.bE))))))) (ε:=[⇑p,.val (.tup (ak l)),b,s3]) (λ_=>ai) (prtP l p) (sgP (ans l p)) (λv j=>by obtain⟨c,g,rfl⟩:=b7.mp j;refine⟨rfl,λ_=>blk_v ?_⟩;exact sk_call3 (d:=dV 1) (e:=dV 2) (f:=dV 0) (ε:=[.val (.str [c]),.val (.tup (ak l)),⇑p]) rfl rfl rfl (with_eq (a:=a) rfl i)) [];have n:((sgP (ans l p)).filter (λ_=>ai)).map (prtP l p)=(parts l p).map jj:=by rw[wp.mpr (λ_ _=>rfl)];unfold sgP parts;rw[fe,fe];rfl
 rw[iH,n]at g;have m:bI (ax (aD (jI a) (gV (dV 1) (gV (dV 0) (Pu.bE))))) [⇑p,.val (.tup (ak l)),b,s3]=.ok (sgP (ans l p)) [⇑p,.val (.tup (ak l)),b,s3]:=by have h:=sk_call2o (d:=dV 1) (e:=dV 0) (ε:=[⇑p,.val (.tup (ak l)),b,s3]) rfl rfl (answers_eq (a:=a) (L:=.tup (ak l)) (p:=p) rfl i);unfold bI;rw[h];rfl
 generalize (parts l p).map jj=PP at g;unfold dF cj;rw[m,R.bind_ok,g];rfl
def nbE(rc:ag->R Slot):ag->R aE:=(bD (d2 a9 (dC (.int 1)) (dL rM (aq (dF (cj [2] (bI (dV 3)) (cb) (partE rc))) (aA)))))
theorem nb_def(rc:ag->R Slot):jc a rc=bz 3 [2] (a6 1 (aF (aZ 3 (dF (cj [1,0] (bI (ax (aD (jI a) (gV (dV 1) (gV (dV 0) (Pu.bE)))))) (cb) (ax (aD (gM a) (gV (dV 1) (gV (dV 2) (gV (dV 0) (Pu.bE))))))))) (nbE rc))):=rfl
theorem nb_ret{rc:ag->R Slot}{s0 s1:Slot}{c:List PV}{b:List Nat}{j i:List (ci×PV)}(l:b≠[])(h:dD [2] cb (partE rc) c [] [s0,s1,.own (.dT j),.val (.lst c)]=.ok (nsP b) [s0,s1,.own (.dT i),.val (.lst c)]):nbE rc [s0,s1,.own (.dT j),.val (.lst c)]=.ok (.ret (⇑((1+mxI b:Nat):Int))) [s0,s1,.own (.dT i),.val (.lst c)]:=by
 have f:=maxP_nat l;have g:a9 (.int 1) (.int (mxI b:Nat))=aa (.int ((1+mxI b:Nat):Int)):=by show aa (PV.int (1+((mxI b:Nat):Int)))=_;exact congrArg (λz=>aa (PV.int z)) ∅
 generalize nsP b=NS at h f;generalize ((1+mxI b:Nat):Int)=R1 at g;generalize ((mxI b:Nat):Int)=R2 at g f;generalize d:partE rc=PE at h;unfold nbE;rw[d];simp[bD,d2,dC,dL,aq,aA,dF,cj,bI,dV,gT,R.bind,aG,h,qU,f,g]
theorem needed_by_eq{rc:ag->R Slot}{f l:List Tx}{p:Nat}(u:Ql l)(n:p∈plq l){c:List (ci×PV)}(v:Kn f c)(h:∀m∈parts l p,∀c,Kn f c->∃b,Kn f b/\rc [.val (.tup (ak m)),.own (.dT c)]=.ok (⇑(nd m:Nat)) [.val (.tup (ak m)),.own (.dT b)]):∃b,Kn f b/\jc a rc [⇑p,.val (.tup (ak l)),.own (.dT c)]=.ok (⇑(nb l p:Nat)) [⇑p,.val (.tup (ak l)),.own (.dT b)]:=by
 unfold plq at n;obtain⟨g,i⟩:=eY.mp n;have g:=lH.mp g;have i:=of_decide_eq_true i;have y:∀t∈l,p<t.length:=λt r=>by rw[u.len t r];exact g
 obtain⟨j,w,o⟩:=part_loop (rc:=rc) (s0:=⇑p) (s1:=.val (.tup (ak l))) (s3:=.val (.lst ((parts l p).map jj))) (parts l p) [] c v h;rw[iH]at o;have x:(parts l p).map nd≠[]:=λz=>by have:=congrArg nY z;rw[cf,parts,cf,kD]at this;lia
 refine⟨j,w,?_⟩;have q:=parts_val (a:=a) y (.own (.dT c)) .none;have s:=nb_ret x o;rw[nb_def];have d:aF (aZ 3 (dF (cj [1,0] (bI (ax (aD (jI a) (gV (dV 1) (gV (dV 0) (Pu.bE)))))) (cb) (ax (aD (gM a) (gV (dV 1) (gV (dV 2) (gV (dV 0) (Pu.bE))))))))) (nbE rc) [⇑p,.val (.tup (ak l)),.own (.dT c),.none]=.ok (.ret (⇑(nb l p:Nat))) [⇑p,.val (.tup (ak l)),.own (.dT j),.val (.lst ((parts l p).map jj))]:=(c4 (iw q)).trans s;generalize aF (aZ 3 _) (nbE rc)=DD at d;generalize (parts l p).map jj=PP at d;generalize ((nb l p:Nat):Int)=NB at d;generalize ((p:Nat):Int)=PI at d;generalize ak l=TX at d;simp[bz,fP,a6,cY,d,back,gQ,aG,R.bind]
def plE(a:Ad)(rc:ag->R Slot):ag->R PV:=(ax (aD (jc a rc) (gV (dV 0) (gV (dV 1) (gO 2 (Pu.bE))))))
theorem pl_blk{d:ag->R Slot}{T:PV}{p n:Nat}{c b:List (ci×PV)}(h:jc a d [⇑p,.val T,.own (.dT c)]=.ok (⇑n) [⇑p,.val T,.own (.dT b)]):bp (bO [0,1] (plE a d) (.int p) [.val T,.own (.dT c)])=.ok (.int n) [.val T,.own (.dT b)]:=by generalize f:jc a d=GG at h;generalize ((n:Nat):Int)=N at h;generalize ((p:Nat):Int)=PI at h;unfold plE;rw[f];simp[bO,c0,bp,bv,cn,R.bind,aG,ax,aD,gV,gO,dV,Pu.bE,h,cH,cI,cG,jM]
theorem pl_loop{rc:ag->R Slot}{l0 l:List Tx}(f:Ql l)(h:∀p∈plq l,∀m∈parts l p,∀kvs,Kn l0 kvs->∃b,Kn l0 b/\rc [.val (.tup (ak m)),.own (.dT kvs)]=.ok (⇑(nd m:Nat)) [.val (.tup (ak m)),.own (.dT b)]):∀(c:List Nat) (d:List PV) (kvs:List (ci×PV)),Kn l0 kvs->(∀p∈c,p∈plq l) -> ∃b,Kn l0 b/\dD [0,1] cb (plE a rc) (nsP c) d [.val (.tup (ak l)),.own (.dT kvs)]=.ok (d++nsP (c.map (nb l))) [.val (.tup (ak l)),.own (.dT b)]
 |[],d,kvs,i,_=>⟨kvs,i,by simp[dD,nsP]⟩
 |p::c,d,kvs,i,g=>by obtain⟨j,v,u⟩:=needed_by_eq (a:=a) f (g p (by simp)) i (h p (g p (by simp)));obtain⟨k2,s,r⟩:=pl_loop f h c (d++[.int (nb l p:Nat)]) j v λq f=>g q (by simp[f]);refine⟨k2,s,?_⟩;have o:=pl_blk u;have n:bp (bO [0,1] cb (.int p) [.val (.tup (ak l)),.own (.dT kvs)])=.ok ai [.val (.tup (ak l)),.own (.dT kvs)]:=rfl;have e:nsP (p::c)=.int p::nsP c:=rfl;rw[e,dD,n,R.bind_ok];show(bp (bO [0,1] (plE a rc) (.int p) [.val (.tup (ak l)),.own (.dT kvs)])).bind _=_;rw[o,R.bind_ok,r,sO];rfl
def nfP(a:Ad)(rc:ag->R Slot):ag->R aE:=(q8 1 (dV 0) (dL pE (aq (dF (cj [0,1] (bI (ax (aD (jk a) (gV (dV 0) (Pu.bE))))) (cb) (plE a rc))) (aA))))
def nfI(a:Ad)(rc:ag->R Slot):ag->R aE:=(ca (dB (ln ai 1 (dV 0))) (nfP a rc) (cL))
def nfH:ag->R aE:=(ca (dB (d2 (Pu.eqT aj) (dL aV (aq (dV 0) (aA))) (dC (.int 1)))) (bD (dC (.int 0))) (cL))
theorem nf_def(rc:ag->R Slot):yaG a rc=aF nfH (aF (nfI a rc) (bD (pK 1 (dV 0)))):=rfl
theorem nfH_eq{T:PV}{n:Nat}(c:aV [T]=aa (.int n))(d:Slot):nfH [.val T,d]=if n=1 then .ok (.ret (⇑0)) [.val T,d] else .ok .next [.val T,d]:=by
 have f:=nE aj (n:Nat) 1;by_cases h:n=1
 .rw[if_pos h];have b:Pu.eqT aj (.int n) (.int 1)=aa (.bl ai):=by rw[f,decide_eq_true ∅];rfl
  generalize ((n:Nat):Int)=N at c b;simp[nfH,ca,dB,d2,dL,aq,aA,dV,dC,c,b,R.bind,aG,ik,bD]
 .rw[if_neg h];have b:Pu.eqT aj (.int n) (.int 1)=aa (.bl aj):=by rw[f,decide_eq_false ∅];rfl
  generalize ((n:Nat):Int)=N at c b;simp[nfH,ca,dB,d2,dL,aq,aA,dV,dC,c,b,R.bind,aG,ik,cL]
theorem tkey_sk(k:List Tx):lF (.tup (ak k))=aa (eu k):=by
 show oK (ak k)=_
 induction k with
 |nil=>rfl
 |cons x k b=>show(iM (.str x)).bind _=_;show(oK (ak k)).map _=_;rw[b];rfl
theorem nf_in{l:List Tx}{kvs:List (ci×PV)}{b:Bool}(d:(eW kvs (eu l)).isSome=b):dB (ln ai 1 (dV 0)) [.val (.tup (ak l)),.own (.dT kvs)]=.ok (!b) [.val (.tup (ak l)),.own (.dT kvs)]:=by have c:=tkey_sk l;generalize ak l=TX at c;simp only[dB,ln,dV,gG,c,R.bind,aG,ik,List.getElem?_cons_zero,List.getElem?_cons_succ,oa,d,Bool.true_xor]
theorem nf_get{l:List Tx}{kvs:List (ci×PV)}{v:PV}(c:eW kvs (eu l)=aa v):bD (pK 1 (dV 0)) [.val (.tup (ak l)),.own (.dT kvs)]=.ok (.ret (.val v)) [.val (.tup (ak l)),.own (.dT kvs)]:=by have b:=tkey_sk l;generalize ak l=TX at b;simp[bD,pK,dV,gG,b,c,R.bind,aG]
theorem nf_put{d:ag->R PV}{l:List Tx}{b k2:List (ci×PV)}{v:PV}(f:d [.val (.tup (ak l)),.own (.dT b)]=.ok v [.val (.tup (ak l)),.own (.dT k2)])(g:k2.length<b0):q8 1 (dV 0) d [.val (.tup (ak l)),.own (.dT b)]=.ok .next [.val (.tup (ak l)),.own (.dT (jb k2 (eu l) v))]:=by have c:=tkey_sk l;generalize ak l=TX at c f;simp[q8,dV,gG,f,c,g,R.bind,aG]
theorem nf_ret{d:ag->R aE}{b v:PV}{c k2:List (ci×PV)}(h:d [.val b,.own (.dT c)]=.ok (.ret (.val v)) [.val b,.own (.dT k2)]):bz 2 [1] (a6 0 d) [.val b,.own (.dT c)]=.ok (.val v) [.val b,.own (.dT k2)]:=by simp[bz,fP,a6,cY,h,back,gQ,aG,R.bind]
theorem Kn.get{l0 l:List Tx}{kvs:List (ci×PV)}(h:Kn l0 kvs)(i:l.Sublist l0):eW (jb kvs (eu l) (.int (Sh.nd l:Nat))) (eu l)=aa (.int (Sh.nd l:Nat))/\Kn l0 (jb kvs (eu l) (.int (Sh.nd l:Nat))):=by
 rcases h.val (l:=l)with e|e
 .obtain⟨f,d⟩:=putT_new (v:=.int (Sh.nd l:Nat)) e;rw[f];exact⟨d,h.put i e⟩
 .have n:jb kvs (eu l) (.int (Sh.nd l:Nat))=kvs:=by
   unfold jb;split
   .refine(kE λq b=>?_).trans (wu kvs);split
    .rename_i c;obtain⟨m,f,d,_⟩:=h.key q b;have:=txKey_ii.mp (f.symm.trans c);subst this;rw[<-d]
    .rfl
   .rename_i j;exfalso;refine j (j0.mpr ?_);unfold eW at e;obtain⟨q,b,_⟩:=wc.mp e;exact⟨q,z6 b,List.find?_some (p:=λg:ci×PV=>decide (g.1=eu l)) b⟩
  rw[n];exact⟨e,h⟩
theorem needed_eq{l0:List Tx}(X:l0.length<=16)(M:∀l,Ql l->l.Sublist l0->wide l<=1000):∀(k j:Nat) (l:List Tx) (kvs:List (ci×PV)),l.length<=k+1->k+1<=j->Ql l->l.Sublist l0->Kn l0 kvs -> ∃c,Kn l0 c/\fz a j [.val (.tup (ak l)),.own (.dT kvs)]=.ok (⇑(nd l:Nat)) [.val (.tup (ak l)),.own (.dT c)]:=by
 intro k
 induction k with
 |zero=>
  intro j l kvs N O g y r;obtain⟨f,rfl⟩:∃f,j=f+1:=⟨j-1,∅⟩
  have u:l.length=1:=by have:=jZ.mpr g.ne;lia
  refine⟨kvs,r,?_⟩;rw[g.nd_one u];show bz 2 [1] (a6 0 (yaG a (fz a f))) _=_;refine nf_ret ?_;rw[nf_def];have i:=nfH_eq (T:=.tup (ak l)) (n:=l.length) (by simp[aV,iO]) (.own (.dT kvs));rw[if_pos u]at i;unfold aF;rw[i];rfl
 |succ k K=>
  intro j l kvs N O g y r;obtain⟨f,rfl⟩:∃f,j=f+1:=⟨j-1,∅⟩
  have i:=nfH_eq (T:=.tup (ak l)) (n:=l.length) (by simp[aV,iO]) (.own (.dT kvs));show ∃c,Kn l0 c/\bz 2 [1] (a6 0 (yaG a (fz a f))) _=_;by_cases u:l.length=1
  .refine⟨kvs,r,?_⟩;rw[g.nd_one u];refine nf_ret ?_;rw[nf_def];rw[if_pos u]at i;unfold aF;rw[i];rfl
  .have Q:2<=l.length:=by have:=jZ.mpr g.ne;lia
   rw[if_neg u]at i;rcases r.val (l:=l)with e|e
   .obtain⟨k2,C,s⟩:=pl_loop (a:=a) (rc:=fz a f) (l0:=l0) g (λp A m o c G=>by
     have B:1<(parts l p).length:=by rw[parts,cf];exact of_decide_eq_true (eY.mp A).2
     obtain⟨I,H⟩:=g.part o;have:=part_lt B o;exact K f m c ∅ ∅ I (H.trans y) G) (plq l) [] kvs r λp A=>A
    rw[iH]at s;obtain⟨⟨p,E,B⟩,F⟩:=g.nd_min Q;have o:=minP_nat (l:=(plq l).map (nb l)) (m:=nd l) (b7.mpr ⟨p,E,B⟩) λx L=>by obtain⟨q,J,rfl⟩:=b7.mp L;exact F q J
    have Y:=places_eq (a:=a) g (M l g y);have z:bI (ax (aD (jk a) (gV (dV 0) (Pu.bE)))) [.val (.tup (ak l)),.own (.dT kvs)]=.ok (nsP (plq l)) [.val (.tup (ak l)),.own (.dT kvs)]:=by have h:=sk_call1o (d:=dV 0) (ε:=[.val (.tup (ak l)),.own (.dT kvs)]) rfl Y;unfold bI;rw[h];rfl
    have P:dL pE (aq (dF (cj [0,1] (bI (ax (aD (jk a) (gV (dV 0) (Pu.bE))))) (cb) (plE a (fz a f)))) (aA)) [.val (.tup (ak l)),.own (.dT kvs)]=.ok (.int (nd l:Nat)) [.val (.tup (ak l)),.own (.dT k2)]:=by generalize nsP ((plq l).map (nb l))=NN at s o;generalize (plE a (fz a f))=PE at s;generalize nsP (plq l)=PL at s z;generalize (bI (ax (aD (jk a) (gV (dV 0) (Pu.bE)))))=DI at z;generalize ak l=TX at s z;generalize ((nd l:Nat):Int)=ND at o;simp[dL,aq,aA,dF,cj,z,s,qU,R.bind,aG,o]
    have w:=nf_put P (by have:=C.len X;unfold b0;lia);obtain⟨W,S⟩:=C.get y;refine⟨_,S,nf_ret (k2:=jb k2 (eu l) (.int (nd l:Nat))) ?_⟩;rw[nf_def];refine(c4 i).trans ((c4 ?_).trans (nf_get W));have v:=nf_in (l:=l) (kvs:=kvs) (b:=aj) (by rw[e];rfl);have D:nfP a (fz a f) [.val (.tup (ak l)),.own (.dT kvs)]=_:=w;unfold nfI;generalize nfP a (fz a f)=NP at D;generalize dB (ln ai 1 (dV 0))=D1 at v;simp[ca,v,R.bind,D]
   .refine⟨kvs,r,nf_ret ?_⟩;rw[nf_def];refine(c4 i).trans ((c4 ?_).trans (nf_get e));have v:=nf_in (l:=l) (kvs:=kvs) (b:=ai) (by rw[e];rfl);unfold nfI;generalize nfP a (fz a f)=NP;generalize dB (ln ai 1 (dV 0))=D1 at v;simp[ca,v,R.bind,cL]
def lsP(l:List Tx):PV:=.lst (ak l)
end
def fbest(l:List Tx):Nat:=((plq l).find? λp=>decide (nb l p=nd l)).getD 0
theorem minAt_nat{a:List Nat}{f:Nat->Nat}{m:Nat}(n:∃p∈a,f p=m)(l:∀p∈a,m<=f p):l9 (nsP a) ((a.map f).map λi:Nat=>(i:Int))=aa (.int (((a.find? λp=>decide (f p=m)).getD 0:Nat):Int)):=by
 have w:(nsP a).zip ((a.map f).map λi:Nat=>(i:Int))=a.map λp:Nat=>(PV.int p,((f p:Nat):Int)):=by
  unfold nsP
  induction a with
  |nil=>rfl
  |cons p a d=>simp only[fK,List.zip_cons_cons,qd,true_and];clear n l d;induction a with
   |nil=>rfl
   |cons p a d=>simp only[fK,List.zip_cons_cons,qd,true_and,d]
 have v:∀p∈a,(((a.map f).map λi:Nat=>(i:Int)).all λk=>decide (((f p:Nat):Int)<=k))=decide (f p=m):=λp b=>by
  rw[mF,iF,decide_eq_true_iff];constructor
  .intro h;obtain⟨q,g,e⟩:=n;have:=h (((f q:Nat):Int)) (b7.mpr ⟨f q,b7.mpr ⟨q,g,rfl⟩,rfl⟩);have:=of_decide_eq_true this;have:=l p b;lia
  .intro h k r;obtain⟨i,s,rfl⟩:=b7.mp r;obtain⟨q,g,rfl⟩:=b7.mp s;have:=l q g;exact decide_eq_true ∅
 have u:∀(c:List Nat) (ks:List Int),(∀p∈c,(ks.all λk=>decide (((f p:Nat):Int)<=k))=decide (f p=m))->(∃p∈c,f p=m)->((c.map λp:Nat=>(PV.int p,((f p:Nat):Int))).find? λq=>ks.all λk=>decide (q.2<=k)).map (·.1)=aa (.int (((c.find? λp=>decide (f p=m)).getD 0:Nat):Int)):=by
  intro c
  induction c with
  |nil=>rintro ks _ ⟨p,b,_⟩;cases b
  |cons q c d=>
   intro ks h j;have g:=h q (by simp);rw[fK,gF,gF];dsimp only;rw[g];by_cases e:f q=m
   .rw[decide_eq_true e];rfl
   .rw[decide_eq_false e];refine d ks (λp b=>h p (by simp[b])) ?_;obtain⟨p,b,o⟩:=j;rcases bV.mp b with rfl|b
    .exact absurd o e
    .exact⟨p,b,o⟩
 unfold l9;rw[w];exact u a _ v n
section
variable{a:Ad}
theorem best_eq{s0:Slot}{l:List Tx}(g:Ql l)(i:2<=l.length)(O:l.length<=16)(I:wide l<=1000):∃b, qO [1,2] (oG (ax (aD (jk a) (gV (dV 1) (Pu.bE))))) (ax (aD (jc a (fz a 17)) (gV (dV 0) (gV (dV 1) (gO 2 (Pu.bE)))))) [s0,.val (.tup (ak l)),.own (.dT [])]=.ok (.int (fbest l:Nat)) [s0,.val (.tup (ak l)),.own (.dT b)]:=by
 have s:∀m,Ql m->m.Sublist l->wide m<=1000:=λm y J=>by
  obtain⟨x,r,e⟩:=qe y.ne;have:wide m=wide l:=by rw[e];exact g.len x (J.mem (by rw[e];simp))
  lia
 have u:∀p∈plq l,∀m∈parts l p,∀b,Kn l b->∃c,Kn l c/\fz a 17 [.val (.tup (ak m)),.own (.dT b)]=.ok (⇑(nd m:Nat)) [.val (.tup (ak m)),.own (.dT c)]:=λp n m y b z=>by obtain⟨D,A⟩:=g.part y;exact needed_eq (a:=a) O s 16 17 m b (by have:=A.length_le;lia) ∅ D A z
 have o:∀(f:List Nat) (j:List PV) (b:List (ci×PV)),Kn l b->(∀p∈f,p∈plq l) ->
   ∃c,dD [1,2] cb (ax (aD (jc a (fz a 17)) (gV (dV 0) (gV (dV 1) (gO 2 (Pu.bE)))))) (nsP f) j [s0,.val (.tup (ak l)),.own (.dT b)]=.ok (j++nsP (f.map (nb l))) [s0,.val (.tup (ak l)),.own (.dT c)]:=by
  intro f
  induction f with
  |nil=>intro j b _ _;exact⟨b,by simp[dD,nsP]⟩
  |cons p f H=>
   intro j b z n;obtain⟨F,M,i⟩:=needed_by_eq (a:=a) g (n p (by simp)) z (u p (n p (by simp)));obtain⟨E,L⟩:=H (j++[.int (nb l p:Nat)]) F M λq g=>n q (by simp[g]);refine⟨E,?_⟩;have e:nsP (p::f)=.int p::nsP f:=rfl;have N:j++nsP ((p::f).map (nb l))=j++[.int (nb l p:Nat)]++nsP (f.map (nb l)):=by rw[sO];rfl
   rw[e,N,<-L,dD];generalize jc a (fz a 17)=G at i ⊢;generalize ((nb l p:Nat):Int)=N1 at i ⊢;generalize ((p:Nat):Int)=N0 at i ⊢;generalize ak l=X at i ⊢;simp[bO,c0,bp,bv,cn,R.bind,aG,ax,aD,gV,gO,dV,cb,Pu.bE,i,cH,cI,cG,jM]
 obtain⟨b,C⟩:=o (plq l) [] [] (Kn.nil l) λp n=>n;obtain⟨w,v⟩:=g.nd_min i;refine⟨b,?_⟩;have B:=minAt_nat w v;have P:=places_eq (a:=a) g I;have K:oG (ax (aD (jk a) (gV (dV 1) (Pu.bE)))) [s0,.val (.tup (ak l)),.own (.dT [])]=.ok (nsP (plq l)) [s0,.val (.tup (ak l)),.own (.dT [])]:=by have h:=sk_call1o (d:=dV 1) (ε:=[s0,.val (.tup (ak l)),.own (.dT [])]) rfl P;unfold oG;rw[h];rfl
 unfold qO;rw[K,R.bind_ok,C,R.bind_ok,iH,ints_nat,hV,B];rfl
end
def ask:Nat->List Tx->Tx->Nat
 |0,_,_=>0
 |k+1,l,t=>if l.length=1 then 0 else 1+ask k (wl l (fbest l) (t.getD (fbest l) 0)) t
theorem fbest_mem{l:List Tx}(a:Ql l)(c:2<=l.length):fbest l∈plq l/\nb l (fbest l)=nd l:=by
 obtain⟨⟨p,b,e⟩,_⟩:=a.nd_min c;unfold fbest;cases h:(plq l).find? λp=>decide (nb l p=nd l)with
 |none=>have:=z5.mp h p b;simp[e]at this
 |some x=>exact⟨z6 h,by have:=List.find?_some h;simpa using this⟩
theorem plq_lt{l:List Tx}{p:Nat}(h:p∈plq l):p<wide l/\1<(parts l p).length:=by obtain⟨b,a⟩:=eY.mp h;exact⟨lH.mp b,by rw[parts,cf];exact of_decide_eq_true a⟩
theorem le_mxI{l:List Nat}{x:Nat}(h:x∈l):x<=mxI l:=((mxI_le l 0 (mxI l)).mp (bd _)).2 x h
theorem mxI_mem{l:List Nat}(h:l≠[]):mxI l∈l:=by
 have a:∀(l:List Nat) (b:Nat),l.foldl max b=b\/l.foldl max b∈l:=by
  intro l
  induction l with
  |nil=>intro b;exact .inl rfl
  |cons x l c=>
   intro b;rw[jX];rcases c (max b x)with e|e
   .rw[e];rcases Nat.le_total b x with z|z
    .rw[Nat.max_eq_right z];exact .inr (by simp)
    .exact .inl (Nat.max_eq_left z)
   .exact .inr (iA _ e)
 rcases a l 0 with e|e
 .match l,h with
  |x::r,_=>
   have:=le_mxI (l:=x::r) (x:=x) (by simp);have d:mxI (x::r)=0:=e;have:x=0:=∅
   rw[d,<-this];simp
 .exact e
theorem own_part{l:List Tx}{t:Tx}{p:Nat}(b:Ql l)(a:t∈l)(g:p∈plq l):t[p]?=aa (t.getD p 0)/\t.getD p 0∈bA/\t∈wl l p (t.getD p 0)/\wl l p (t.getD p 0)∈parts l p:=by
 obtain⟨f,_⟩:=plq_lt g;have h:p<t.length:=by rw[b.len t a];exact f
 have e:t[p]?=aa (t.getD p 0):=by rw[qa,eh h];rfl
 have d:t.getD p 0∈bA:=b.abc t a _ (List.mem_of_getElem? e);have c:t∈wl l p (t.getD p 0):=eY.mpr ⟨a,decide_eq_true e⟩;exact⟨e,d,c,parts_mem.mpr ⟨_,d,rfl,ww c⟩⟩
theorem part_nd{l m:List Tx}{p:Nat}(a:m∈parts l p):nd m+1<=nb l p:=by have:=le_mxI (b7.mpr ⟨m,a,rfl⟩:nd m∈(parts l p).map nd);unfold nb;lia
theorem ask_le:∀(k:Nat) (l:List Tx) (t:Tx),Ql l->t∈l->ask k l t<=nd l:=by
 intro k
 induction k with
 |zero=>intro l t _ _;exact g6 _
 |succ k f=>
  intro l t a g;unfold ask;by_cases c:l.length=1
  .rw[if_pos c];exact g6 _
  .rw[if_neg c];have h:2<=l.length:=by have:=jZ.mpr a.ne;lia
   obtain⟨i,f2⟩:=fbest_mem a h;obtain⟨_,_,d,b⟩:=own_part a g i;have:=f _ t (a.part b).1 d;have:=part_nd b;lia
theorem ask_max:∀(k:Nat) (l:List Tx),Ql l->l.length<=k->∃t∈l,ask k l t=nd l:=by
 intro k
 induction k with
 |zero=>intro l a h;have:=jZ.mpr a.ne;lia
 |succ k p=>
  intro l a h;by_cases i:l.length=1
  .obtain⟨t,r,e⟩:=qe a.ne;refine⟨t,by rw[e];simp,?_⟩;unfold ask;rw[if_pos i,a.nd_one i]
  .have s:2<=l.length:=by have:=jZ.mpr a.ne;lia
   obtain⟨n,f2⟩:=fbest_mem a s;obtain⟨w,f⟩:=plq_lt n;have v:(parts l (fbest l)).map nd≠[]:=by intro e;rw[List.map_eq_nil_iff.mp e]at f;simp at f
   obtain⟨m,d,u⟩:=b7.mp (mxI_mem v);have x:=part_lt f d;obtain⟨t,g,e⟩:=p m (a.part d).1 ∅;have b:=(a.part d).2.mem g;refine⟨t,b,?_⟩;obtain⟨c,_,o,_⟩:=parts_mem.mp d;have q:t.getD (fbest l) 0=c:=by rw[o]at g;have j:=of_decide_eq_true (eY.mp g).2;rw[(own_part a b n).1]at j;exact dY j
   unfold ask;rw[if_neg i,q,<-o,e,<-f2];unfold nb;rw[u]
theorem ask_all{l:List Tx}{k:Nat}(b:Ql l)(h:l.length<=k):mxI (l.map (ask k l))=nd l:=by
 refine Nat.le_antisymm ((mxI_le _ 0 _).mpr ⟨g6 _,λx c=>?_⟩) ?_
 .obtain⟨t,a,rfl⟩:=b7.mp c;exact ask_le k l t b a
 .obtain⟨t,a,e⟩:=ask_max k l b h;rw[<-e];exact le_mxI (b7.mpr ⟨t,a,rfl⟩)
end Sh
namespace K32
open L2 Pu Mx Sh
section
variable{a:Ad}
abbrev ft(T:List Tx):List (Str×PV):=[(bn "having",.tup (ak T))]
def SK(a:Ad)(T:List Tx)(L:List PV):PO:=.inl a.Seeker (ft T) (bn "answers") L
def aW(Rw:List (Nat×Nat)):List PV:=Rw.map λq=>.tup [.int (q.1:Nat),.str [q.2]]
def lf(T:List Tx)(Rw:List (Nat×Nat)):List Tx:=Rw.foldl (λl q=>wl l q.1 q.2) T
theorem se(T:List Tx)(L:List PV)(b:ag):jv (.own (SK a T L)::b) a.Seeker (bn "answers") 0=aa (ft T,L):=by show(if a.Seeker=a.Seeker/\_=_ then _ else _)=_;rw[if_pos ⟨rfl,rfl⟩]
theorem Ag(T:List Tx):(ft T).lookup (bn "having")=aa (.tup (ak T)):=rfl
theorem pr(Rw:List (Nat×Nat)):∀T:List Tx,(lf T Rw).Sublist T:=by
 induction Rw with
 |nil=>intro T;exact List.Sublist.refl _
 |cons q Rw b=>intro T;exact(b _).trans (wl_sub T q.1 q.2)
theorem CQ(T:List Tx)(Rw:List (Nat×Nat))(q:Nat×Nat):lf T (Rw++[q])=wl (lf T Rw) q.1 q.2:=by unfold lf;rw[zK];rfl
theorem Gn{w:Nat}{c:List Tx}(g:Good bA w c)(r:1<=w)(q:w<=4)(s:c.Pairwise (λa b=>c6 a b=ai))(p:bS w c≠[])(u:(bS w c).length<=16):kb a [.own (.ins a.Seeker []),.val (a_ w c)]=.ok (.val .non) [.own (SK a (bS w c) []),.val (a_ w c)]:=by
 have i:=M3 (a:=a) g r q s;generalize v:bS w c=T at i p u;have j:aV [.lst (ak T)]=aa (.int (T.length:Nat)):=by simp[aV,iO]
 have o:Pu.eqT aj (.int (T.length:Nat)) (.int 0)=aa (.bl aj):=by rw[nE,decide_eq_false (by have:=jZ.mpr p;lia)];rfl
 have n:¬(16:Int)<(T.length:Nat):=∅
 have d:iP [.lst (ak T)]=aa (.tup (ak T)):=rfl;have h:pw (bn "having") (.tup (ak T)) []=ft T:=rfl;have m:(ft T).lookup (bn "answers")=ae:=rfl;have l:(ft T).length<1000:=by simp
 unfold SK;generalize ft T=f at h m l ⊢;generalize ((T.length:Nat):Int)=N at j o n;generalize ak T=L at i j d h;generalize a_ w c=V at i;generalize PV.tup L=TL at d h;simp![kb,CG,i,j,o,n,d,xu,nu,h,uG,m,l]
theorem Gq{w:Nat}{c:List Tx}{f:ag}{d:ag->R PV}(g:Good bA w c)(i:1<=w)(h:w<=4)(j:c.Pairwise (λa b=>c6 a b=ai))(n:bS w c≠[])(o:(bS w c).length<=16)(m:d f=.ok (a_ w c) f):li a.Seeker (kb a) (gV d Pu.bE) f=.ok (SK a (bS w c) []) f:=by have l:=Gn (a:=a) g i h j n o;simp[li,gV,Pu.bE,m,mi,bv,cn,l,cH,cG,cI,aG,R.bind]
def lw(a:Ad):ag->R aE:=(aZ 1 (ax (aD (gM a) (gV (dV 1) (gV (dV 2) (gV (dV 3) (Pu.bE)))))))
theorem D7{s0:Slot}{n:Nat}:∀(d:List (Nat×Nat)) (T:List Tx) (g f:Slot),(∀t∈T,t.length=n)->(∀q∈d,q.1<n) -> ∃i h,ko 2 3 (lw a) (aW d) [s0,.val (.tup (ak T)),g,f]=.ok .next [s0,.val (.tup (ak (lf T d))),i,h]
 |[],T,g,f,_,_=>⟨g,f,rfl⟩
 |q::d,T,g,f,m,o=>by
  obtain⟨u,s,y⟩:=D7 (s0:=s0) d (wl T q.1 q.2) (⇑(q.1:Nat)) (.val (.str [q.2])) (λt j=>m t ((wl_sub T q.1 q.2).mem j)) λx v=>o x (by simp[v]);refine⟨u,s,?_⟩;have w:=with_eq (a:=a) (L:=.tup (ak T)) (l:=T) (p:=q.1) (c:=q.2) rfl λt j=>by rw[m t j];exact o q (by simp)
  have z:lw a [s0,.val (.tup (ak T)),⇑(q.1:Nat),.val (.str [q.2])]=.ok .next [s0,.val (.tup (ak (wl T q.1 q.2))),⇑(q.1:Nat),.val (.str [q.2])]:=iw (sk_call3 rfl rfl rfl w);show ko 2 3 (lw a) (.tup [.int (q.1:Nat),.str [q.2]]::aW d) _=_;rw[ko];show(match lw a [s0,.val (.tup (ak T)),⇑(q.1:Nat),.val (.str [q.2])]with
   |.ok .next b=>ko 2 3 (lw a) (aW d) b
   |.ok .cont b=>ko 2 3 (lw a) (aW d) b
   |.ok .brk b=>.ok .next b
   |r=>r)=_
  rw[z];exact y
theorem GQ{T:List Tx}{b:List (Nat×Nat)}{n:Nat}(o:∀t∈T,t.length=n)(p:∀q∈b,q.1<n):iq a [.own (SK a T (aW b))]=.ok (.own (.lst (ak (lf T b)))) [.own (SK a T (aW b))]:=by
 obtain⟨g,d,m⟩:=D7 (a:=a) (s0:=.none) b T .none .none o p;have j:aZ 1 (jt a.Seeker (bn "answers") 0 (bn "having")) [.own (SK a T (aW b)),.none,.none,.none]=.ok .next [.own (SK a T (aW b)),.val (.tup (ak T)),.none,.none]:=by have e:=se (a:=a) T (aW b) [.none,.none,.none];have l:=Ag T;generalize SK a T (aW b)=P at e ⊢;generalize ft T=f at e l;simp[aZ,jt,e,l,R.bind,aG]
 have i:(λc=>cU (mh a.Seeker (bn "answers") 0 2 3 (lw a) c)) [.own (SK a T (aW b)),.val (.tup (ak T)),.none,.none]=.ok .next [.own (SK a T (aW b)),.val (.tup (ak (lf T b))),g,d]:=by have e:=se (a:=a) T (aW b) [.val (.tup (ak T)),.none,.none];show cU (mh _ _ _ _ _ _ _)=_;unfold mh;rw[e];simp only[cW,R.bind_ok];have r:([.own (SK a T (aW b)),.val (.tup (ak T)),.none,.none]:ag).set 0 .none=[.none,.val (.tup (ak T)),.none,.none]:=rfl;rw[r,m];rfl
 have h:dL jE (aq (dV 1) (aA)) [.own (SK a T (aW b)),.val (.tup (ak (lf T b))),g,d]=.ok (.lst (ak (lf T b))) [.own (SK a T (aW b)),.val (.tup (ak (lf T b))),g,d]:=by have:jE [.tup (ak (lf T b))]=aa (.lst (ak (lf T b))):=rfl;generalize SK a T (aW b)=P;generalize ak (lf T b)=X at this ⊢;simp[dL,aq,aA,dV,R.bind,aG,this]
 show mn 1 3 [0] (aZ 1 (jt a.Seeker (bn "answers") 0 (bn "having"))) (λc=>cU (mh a.Seeker (bn "answers") 0 2 3 (lw a) c)) (dL jE (aq (dV 1) (aA))) _=_;generalize aZ 1 (jt a.Seeker (bn "answers") 0 (bn "having"))=D1 at j;generalize (λc=>cU (mh a.Seeker (bn "answers") 0 2 3 (lw a) c))=D2 at i;generalize dL jE (aq (dV 1) (aA))=D3 at h;generalize SK a T (aW b)=P at j i h ⊢;simp[mn,fJ,cY,j,i,h,back,aG,R.bind]
theorem CO{b:ag}{i:Nat}{T:List Tx}{L:List PV}{m:Str}(c:b[i]?=aa (.own (SK a T L)))(f:(ft T).lookup m=ae)(d:m≠bn "answers"):me b a.Seeker m i=ai:=by unfold me;rw[c];show(decide (a.Seeker=a.Seeker)&&((ft T).lookup m).isNone&&decide (m≠bn "answers"))=ai;rw[decide_eq_true rfl,f,decide_eq_true d];rfl
theorem vO{G:ag->R Slot}{b:ag}{i:Nat}{T:List Tx}{L f:List PV}{m:Str}{r:Slot}(c:b[i]?=aa (.own (SK a T L)))(j:(ft T).lookup m=ae)(h:m≠bn "answers")(d:G [.own (SK a T L)]=.ok r [.own (SK a T f)]):cr a.Seeker m i G b=.ok r (b.set i (.own (SK a T f))):=by have g:=CO (a:=a) (m:=m) c j h;unfold cr;rw[g];generalize SK a T L=P at c d;generalize SK a T f=P' at d;simp[mi,bv,cn,c,aG,R.bind,d,cH,cI,cG]
theorem vg{b:ag}{i:Nat}{s:Slot}(h:b[i]?=aa s):b.set i s=b:=by
 apply sR;intro j;by_cases e:i=j
 .subst e;have c:=(cq.mp h).1;rw[dw c,h]
 .rw[cP e]
theorem Mm{T:List Tx}{L:List PV}(c:jw L=ai):lu a [.own (SK a T L)]=.ok (.own (.lst L)) [.own (SK a T L)]:=by have e:=se (a:=a) T L [];have b:jE [.lst L]=aa (.lst L):=rfl;generalize SK a T L=P at e ⊢;generalize ft T=f at e;simp[lu,o4,qZ,e,aG,R.bind,vp,b,Df,c]
def Dm:ag->R PV:=λb=>bp ((dC (.str [97,32,112,108,97,99,101,32,105,115,32,97,32,119,104,111,108,101,32,110,117,109,98,101,114,32,102,114,111,109,32,48,32,111,110,44,32,108,101,115,115,32,116,104,97,110,32,116,104,101,32,116,101,120,116,32,104,97,115,32,108,101,116,116,101,114,115])) b)
def rH:ag->R Bool:=(dB (lg (bR λi j=>decide (i<=j)) (bR λi j=>decide (i<j)) (dC (.int 0)) (dV 0) (dV 1)))
theorem MC(i n:Int):rH [⇑i,⇑n]=.ok (decide (0<=i)&&decide (i<n)) [⇑i,⇑n]:=by
 by_cases b:0<=i
 .by_cases c:i<n <;> simp[rH,dB,lg,dC,dV,bR,R.bind,aG,ik,b,c]
 .simp[rH,dB,lg,dC,dV,bR,R.bind,aG,ik,b]
theorem NY:qQ a=bz 2 [] (a6 0 (ca (j_ (iK (dB (ax (aD (oB a) (gV (dV 0) (Pu.bE)))))) (iK rH)) (kX (.ref a.NoPlace) Dm) (cL))):=rfl
theorem IZ{n p:Nat}(h:p<n):qQ a [⇑p,⇑n]=.ok (.val .non) [⇑p,⇑n]:=by
 have c:=Dn (a:=a) (p:Nat);have b:=MC (p:Nat) (n:Nat);have e:(decide ((0:Int)<=(p:Nat))&&decide (((p:Nat):Int)<(n:Nat)))=ai:=by simp;lia
 rw[e]at b;rw[NY];generalize rH=C at b;generalize Dm=M;generalize ((n:Nat):Int)=N at b;generalize ((p:Nat):Int)=PI at b c;simp[bz,fP,a6,ca,j_,iK,dB,ax,aD,gV,dV,Pu.bE,c,R.bind,aG,cH,cG,bv,cn,cI,jM,ik,cL,b,back]
theorem FV{c:Nat}(h:c∈bA):rQ a [.val (.str [c])]=.ok (.val .non) [.val (.str [c])]:=by
 have b:=AZ (a:=a) [c] [97,98,99] 1;have e:ii 1 [97,98,99] [c]=ai:=by simp only[bA,bV,g_,or_false]at h;rcases h with rfl|rfl|rfl <;> rfl
 rw[e]at b;simp![rQ,yak,b]
end
section
variable{a:Ad}
theorem IM(T:List Tx):(ft T).lookup (bn "left")=ae:=rfl
theorem vf{ε:ag}{i:Nat}{T:List Tx}{Rw:List (Nat×Nat)}{n:Nat}(c:∀t∈T,t.length=n)(d:∀q∈Rw,q.1<n)(b:ε[i]?=aa (.own (SK a T (aW Rw)))):cr a.Seeker (bn "left") i (iq a) ε=.ok (.own (.lst (ak (lf T Rw)))) ε:=by have h:=vO (a:=a) b (IM T) (by decide) (GQ c d);rw[vg b]at h;exact h
theorem LI{T:List Tx}{b:List (Nat×Nat)}{n:Nat}(m:∀t∈T,t.length=n)(s:∀q∈b,q.1<n)(p:Ql (lf T b))(u:(lf T b).length<=16)(v:n<=1000):iW a [.own (SK a T (aW b))]=.ok (⇑(nd (lf T b):Nat)) [.own (SK a T (aW b))]:=by
 have g:=vf (a:=a) (ε:=[.own (SK a T (aW b))]) (i:=0) m s rfl;obtain⟨h,_,c⟩:=needed_eq (a:=a) (l0:=lf T b) u (λl g o=>by
  obtain⟨x,r,e⟩:=qe g.ne;have:wide l=n:=by rw[e];exact m x ((pr b T).mem (o.mem (by rw[e];simp)))
  lia) 16 17 (lf T b) [] ∅ ∅ p (List.Sublist.refl _) (Kn.nil _)
 have j:iP [.lst (ak (lf T b))]=aa (.tup (ak (lf T b))):=rfl;have f:ax (cr a.Seeker (bn "left") 0 (iq a)) [.own (SK a T (aW b))]=.ok (.lst (ak (lf T b))) [.own (SK a T (aW b))]:=by unfold ax;rw[g];rfl
 have d:kR (fz a 17) (lm (dL iP (aq (ax (cr a.Seeker (bn "left") 0 (iq a))) (aA))) (gN (pq) (Pu.bE))) [.own (SK a T (aW b))]=.ok (.val (.int (nd (lf T b):Nat))) [.own (SK a T (aW b))]:=by generalize ax (cr a.Seeker (bn "left") 0 (iq a))=D at f;generalize fz a 17=G at c ⊢;generalize SK a T (aW b)=P at f ⊢;generalize ak (lf T b)=X at f c j;generalize ((nd (lf T b):Nat):Int)=M at c ⊢;simp[kR,lm,gN,pq,dL,aq,aA,f,j,Pu.bE,R.bind,aG,bv,cn,c,cH,cG,cI,xM]
 unfold iW Bd;generalize kR _ _=D at d;generalize SK a T (aW b)=P at d ⊢;generalize ((nd (lf T b):Nat):Int)=M at d ⊢;simp[fA,fJ,lp,a6,oF,d,R.bind,aG,back]
theorem L6{T:List Tx}{L:List PV}{x y:PV}{n:Nat}(i:T≠[])(h:∀t∈T,t.length=n):dL aV (aq (d2 bN (jt a.Seeker (bn "answers") 0 (bn "having")) (dC (.int 0))) (aA)) [.own (SK a T L),.val x,.val y,.none]=.ok (.int n) [.own (SK a T L),.val x,.val y,.none]:=by
 obtain⟨t,r,e⟩:=qe i;have c:=se (a:=a) T L [.val x,.val y,.none];have b:=Ag T;have g:bN (.tup (ak T)) (.int 0)=aa (.str t):=by rw[e];show ez (ak (t::r)) ((0:Nat):Int)=_;unfold ez;rw[yS ∅ (by simp[ak])];rfl
 have d:aV [.str t]=aa (.int n):=by rw[<-h t (by rw[e];simp)];rfl
 generalize ((n:Nat):Int)=N at d ⊢;generalize ak T=X at b g;generalize SK a T L=P at c ⊢;generalize ft T=f at c b;simp[dL,aq,aA,d2,dC,jt,c,b,g,d,R.bind,aG]
def hW(a:Ad):ag->R PV:=ax (aD (gM a) (gV (ax (cr a.Seeker (bn "left") 0 (iq a))) (gV (dV 1) (gV (dV 2) (Pu.bE)))))
theorem Ga{T:List Tx}{b:List (Nat×Nat)}{n p c:Nat}(d:∀t∈T,t.length=n)(j:∀q∈b,q.1<n)(g:p<n):hW a [.own (SK a T (aW b)),⇑p,.val (.str [c]),.none]=.ok (.tup (ak (wl (lf T b) p c))) [.own (SK a T (aW b)),⇑p,.val (.str [c]),.none]:=by
 have h:=vf (a:=a) (ε:=[.own (SK a T (aW b)),.val (.int p),.val (.str [c]),.none]) (i:=0) d j rfl;have l:ax (cr a.Seeker (bn "left") 0 (iq a)) [.own (SK a T (aW b)),.val (.int p),.val (.str [c]),.none]=.ok (.lst (ak (lf T b))) [.own (SK a T (aW b)),.val (.int p),.val (.str [c]),.none]:=by unfold ax;rw[h];rfl
 exact sk_call3 l rfl rfl (with_eq (a:=a) rfl λt f=>by rw[d t ((pr b T).mem f)];exact g)
theorem Jo:mf a=fA 3 [0] (a6 1 (aF (gX (aD (qQ a) (gV (dV 1) (gV (dL aV (aq (d2 bN (jt a.Seeker (bn "answers") 0 (bn "having")) (dC (.int 0))) (aA))) (Pu.bE))))) (aF (gX (aD (rQ a) (gV (dV 2) (Pu.bE)))) (aF (aZ 3 (hW a)) (aF (ca (dB (d2 (Pu.eqT aj) (dL aV (aq (dV 3) (aA))) (dC (.int 0)))) (kX (.ref a.Never) (λb=>bp ((dC (.str [110,111,32,116,101,120,116,32,116,104,97,116,32,105,115,32,108,101,102,116,32,104,97,115,32,116,104,105,115,32,108,101,116,116,101,114,32,116,104,101,114,101])) b))) (cL)) (aF (nR a.Seeker (bn "answers") 0 (dL dU (aq (dV 1) (aq (dV 2) (aA))))) (bD (dL aV (aq (dV 3) (aA)))))))))):=rfl
theorem Fk(b:List (Nat×Nat))(p c:Nat):aW (b++[(p,c)])=aW b++[.tup [.int p,.str [c]]]:=by unfold aW;rw[pY];rfl
theorem IH{T:List Tx}{Rw:List (Nat×Nat)}{n p c:Nat}(E:T≠[])(u:∀t∈T,t.length=n)(B:∀q∈Rw,q.1<n)(s:p<n)(A:c∈bA)(z:wl (lf T Rw) p c≠[])(F:Rw.length<=1000):mf a [.own (SK a T (aW Rw)),⇑p,.val (.str [c])]=.ok (⇑((lf T (Rw++[(p,c)])).length:Nat)) [.own (SK a T (aW (Rw++[(p,c)]))),⇑p,.val (.str [c])]:=by
 have h:=L6 (a:=a) (L:=aW Rw) (x:=.int p) (y:=.str [c]) E u;have o:=IZ (a:=a) s;have C:=FV (a:=a) A;have g:=Ga (a:=a) (c:=c) u B s;have m:aV [.tup (ak (wl (lf T Rw) p c))]=aa (.int ((wl (lf T Rw) p c).length:Nat)):=by simp[aV,iO]
 have w:Pu.eqT aj (.int ((wl (lf T Rw) p c).length:Nat)) (.int 0)=aa (.bl aj):=by rw[nE,decide_eq_false (by have:=jZ.mpr z;lia)];rfl
 have v:(aW Rw).length<b0:=by unfold b0 aW;rw[cf];lia
 have l:dU [.int p,.str [c]]=aa (.tup [.int p,.str [c]]):=rfl;have i:=λε=>se (a:=a) T (aW Rw) ε;have d:PO.inl a.Seeker (ft T) (bn "answers") (aW Rw++[.tup [.int p,.str [c]]])=SK a T (aW Rw++[.tup [.int p,.str [c]]]):=rfl;rw[CQ,Fk,Jo];generalize hW a=W at g;generalize (((wl (lf T Rw) p c).length:Nat):Int)=WL at m w ⊢;generalize ak (wl (lf T Rw) p c)=X at g m;have r:dL aV (aq (dV 3) (aA))=(λε=>(dV 3 ε).bind λx j=>aG (aV [x]) j):=by
  funext ε;simp[dL,aq,aA,R.bind];cases dV 3 ε <;> rfl
 rw[r];generalize dL aV (aq (d2 bN _ _) _)=D at h;generalize ((n:Nat):Int)=N at h o;generalize ((p:Nat):Int)=PI at h o g l d ⊢;generalize PV.tup [.int PI,.str [c]]=Q at l d ⊢;have b:nR a.Seeker (bn "answers") 0 (dL dU (aq (dV 1) (aq (dV 2) (aA)))) [.own (SK a T (aW Rw)),.val (.int PI),.val (.str [c]),.val (.tup X)]=.ok .next [.own (SK a T (aW Rw++[Q])),.val (.int PI),.val (.str [c]),.val (.tup X)]:=by generalize aW Rw=L at v i d ⊢;generalize SK a T (L++[Q])=P2 at d ⊢;generalize SK a T L=P at i ⊢;generalize ft T=f at i d;simp[nR,i,R.bind,aG,dL,aq,aA,dV,l,v,d]
 generalize nR _ _ _ _=DA at b;generalize SK a T (aW Rw++[Q])=P2 at b ⊢;generalize SK a T (aW Rw)=P at h g b ⊢;simp[fA,fJ,lp,a6,aF,gX,aD,gV,dV,h,Pu.bE,R.bind,aG,bv,cn,o,C,g,m,w,cH,cG,cI,back,aZ,ca,dB,ik,d2,dC,cL,bD,b]
theorem MH{t:Tx}{w:Nat}(g:1<=w)(l:w<=t.length)(n:t.length+1-w<=9)(i:∀c∈t,c∈bA):Good bA w (bu (bw t w))/\(bu (bw t w)).Pairwise (λa b=>c6 a b=ai)/\bS w (bu (bw t w))≠[]:=by
 have j:=Di (z:=t) g;have f:∀x∈bu (bw t w),x.length=w/\∀c∈x,c∈bA:=λx d=>by have:=Mx.Ot ((jf _).mem_iff.mp d);exact⟨this.1,λc h=>i c (this.2 c h)⟩
 have m:(bu (bw t w)).length=t.length+1-w:=by rw[(jf _).length_eq,j]
 refine⟨⟨λx d=>(f x d).1,λx d=>(f x d).2,∅,∅⟩,vB _,λe=>?_⟩;have:=(E6 g ∅ f (vB _) i).mpr rfl;rw[e]at this;cases this
def qR:ag->R Bool:=dB (d2 (bR λi j=>decide (j<i)) (dL aV (aq (dV 5) (aA))) (dC (.int 16)))
def pG(a:Ad):ag->R PV:=(ca (dB (d2 (bR λi j=>decide (i<j)) (dV 3) (dC (.int 4)))) (dL dU (aq (d2 a9 (dV 3) (dC (.int 1))) (aq (ax (aD (gP a) (gV (dV 2) (gV (d2 a9 (dV 3) (dC (.int 1))) (Pu.bE))))) (aA)))) (dL dU (aq (dC (.int 1)) (aq (dL dU (aq (dC (.str [97])) (aA))) (aA)))))
def oR(a:Ad):ag->R aE:=(aF (aZ 4 (pG a)) (aF (aZ 3 (d2 bN (dV 4) (dC (.int 0)))) (aZ 5 (ax (aD (k9 a) (gV (dV 4) (Pu.bE)))))))
theorem Nq:rj a=bz 2 [1] (a6 4 (aF (jF 2 3 (ax (aD (kU a) (gV (dV 0) (gO 1 (gV (dC (.int 2)) (gV (dC (.int 8)) (Pu.bE)))))))) (aF (aZ 4 (dL dU (aq (dV 3) (aq (ax (aD (gP a) (gV (dV 2) (gV (dV 3) (Pu.bE))))) (aA))))) (aF (aZ 5 (ax (aD (k9 a) (gV (dV 4) (Pu.bE))))) (aF (λε=>cU (dj qR (oR a) 1000 ε)) (bD (dL dU (aq (dV 4) (aq (dV 5) (aA)))))))))):=rfl
theorem HD{G:ag->R Slot}{ε:ag}{d f:ag->R PV}{b v c r:PV}{p p':Pu.PO}(l:ε[0]?=aa (.val b))(j:ε[1]?=aa (.own p))(i:d ε=.ok v ε)(g:f ε=.ok c ε)(h:G [.val b,.own p,.val v,.val c]=.ok (.val r) [.val b,.own p',.val v,.val c]):aD G (gV (dV 0) (gO 1 (gV d (gV f Pu.bE)))) ε=.ok (.val r) (ε.set 1 (.own p')):=by simp[aD,gV,gO,Pu.bE,dV,l,j,i,g,h,R.bind,aG,cH,cG,bv,cn,cI]
structure Vw(w:Nat)(ls:List Tx):Prop where
 g:Good bA w ls
 w1:1<=w
 w4:w<=4
 hs:ls.Pairwise (λa b=>c6 a b=ai)
 h0:bS w ls≠[]
theorem yP{t:Tx}{w:Nat}(b:1<=w)(d:w<=4)(f:w<=t.length)(j:t.length+1-w<=9)(i:∀c∈t,c∈bA):Vw w (bu (bw t w)):=by obtain⟨g,h,l⟩:=MH b f j i;exact⟨g,b,d,h,l⟩
theorem L0:Vw 1 [[97]]/\(bS 1 [[97]]).length<=16:=by
 have h:bu (bw [97] 1)=[[97]]:=by decide +kernel
 have v:=yP (t:=[97]) (w:=1) (by decide) (by decide) (by decide) (by decide) (by decide);rw[h]at v;exact⟨v,by decide +kernel⟩
def fF(a:Ad)(d:List Int)(c:List PV)(t:Tx)(w:Nat)(b:List Tx):ag:=[br d,.own (.lst c),↥t,⇑w,.val (a_ w b),.val (.lst (ak (bS w b)))]
theorem CK(d:List Int)(c:List PV)(t:Tx)(w:Nat)(b:List Tx):qR (fF a d c t w b)=.ok (decide (16<(bS w b).length)) (fF a d c t w b):=by
 have g:aV [.lst (ak (bS w b))]=aa (.int ((bS w b).length:Nat)):=by simp[aV,iO]
 have f:bR (λi j=>decide (j<i)) (.int ((bS w b).length:Nat)) (.int 16)=aa (.bl (decide (16<(bS w b).length))):=by show aa (PV.bl (decide ((16:Int)<((bS w b).length:Nat))))=_;congr 2;exact decide_eq_decide.mpr ∅
 exact k6 (ip (lz (iN (eM rfl) kZ) g) (jG (.int 16) _) f)
theorem Bf(f:List Int)(d:List PV)(t:Tx)(w:Nat)(g:List Tx){x:PV}{c:Nat}{b:List Tx}(v:Vw c b)(h:pG a (fF a f d t w g)=.ok (a_ c b) (fF a f d t w g)):oR a (fF a f d t w g)=.ok .next (fF a f d t c b):=by have j:=CU (a:=a) v.g v.w1 v.w4 v.hs;have i:bN (a_ c b) (.int 0)=aa (.int c):=rfl;unfold oR;refine(c4 (iw h)).trans ?_;have l:aZ 3 (d2 bN (dV 4) (dC (.int 0))) ((fF a f d t w g).set 4 (.val (a_ c b)))=.ok .next (((fF a f d t w g).set 4 (.val (a_ c b))).set 3 (⇑c)) :=iw (ip (eM rfl) (jG (.int 0) _) i);refine(c4 l).trans ?_;exact iw (sk_call1o (eM rfl) j)
theorem Go(c:List Int)(b:List PV)(t:Tx)(w:Nat)(d:List Tx)(h:w<4)(m:t.length<=60):pG a (fF a c b t w d)=.ok (a_ (w+1) (bu (bw t (w+1)))) (fF a c b t w d):=by
 have g:=vq (a:=a) t (w+1) m;have o:bR (λi j=>decide (i<j)) (.int w) (.int 4)=aa (.bl ai):=by show aa (PV.bl (decide (((w:Nat):Int)<4)))=_;rw[decide_eq_true ∅]
 have n:a9 (.int w) (.int 1)=aa (.int ((w+1:Nat):Int)):=rfl;unfold pG;refine(Cp (k6 (ip (eM rfl) (jG (.int 4) _) o))).trans ?_;have f:d2 a9 (dV 3) (dC (.int 1)) (fF a c b t w d)=.ok (.int ((w+1:Nat):Int)) (fF a c b t w d):=ip (eM rfl) (jG (.int 1) _) n;have p:ax (aD (gP a) (gV (dV 2) (gV (d2 a9 (dV 3) (dC (.int 1))) (Pu.bE)))) (fF a c b t w d)=.ok (.tup (ak (bu (bw t (w+1))))) (fF a c b t w d):=by generalize d2 a9 (dV 3) (dC (.int 1))=D at f ⊢;have l:dV 2 (fF a c b t w d)=.ok (.str t) (fF a c b t w d):=eM rfl;generalize fF a c b t w d=ε at l f ⊢;generalize ((w+1:Nat):Int)=W1 at f g;simp[ax,aD,gV,Pu.bE,l,f,g,R.bind,aG,cH,cG,bv,cn,cI,jM]
 exact lz (iN f (iN p kZ)) rfl
theorem IQ(c:List Int)(b:List PV)(t:Tx)(w:Nat)(d:List Tx)(h:¬w<4):pG a (fF a c b t w d)=.ok (a_ 1 [[97]]) (fF a c b t w d):=by
 have f:bR (λi j=>decide (i<j)) (.int w) (.int 4)=aa (.bl aj):=by show aa (PV.bl (decide (((w:Nat):Int)<4)))=_;rw[decide_eq_false ∅]
 unfold pG;exact(u7 (k6 (ip (eM rfl) (jG (.int 4) _) f))).trans rfl
theorem JO(h:List Int)(g:List PV)(t:Tx)(B:6<=t.length)(D:t.length<=8)(z:∀c∈t,c∈bA):∀(k i:Nat) (w:Nat) (d:List Tx),Vw w d->5-w<=k->k+1<i -> ∃(j:Nat) (b:List Tx),Vw j b/\(bS j b).length<=16/\dj qR (oR a) i (fF a h g t w d)=.ok .next (fF a h g t j b):=by
 intro k
 induction k with
 |zero=>intro i w d v y;have:=v.w4;lia
 |succ k s=>
  intro i w d v y C;obtain⟨f,rfl⟩:∃f,i=f+1:=⟨i-1,∅⟩
  have c:=CK (a:=a) h g t w d;by_cases q:16<(bS w d).length
  .rw[decide_eq_true q]at c;by_cases o:w<4
   .have n:=yP (t:=t) (w:=w+1) ∅ ∅ ∅ (by have:=v.w1;lia) z;obtain⟨j,b,r,A,u⟩:=s f (w+1) _ n ∅ ∅;exact⟨j,b,r,A,(rG c (Bf h g t w d (x:=.non) n (Go h g t w d o ∅))).trans u⟩
   .obtain⟨m,l⟩:=L0;have p:=CK (a:=a) h g t 1 [[97]];rw[decide_eq_false ∅]at p;obtain⟨f2,rfl⟩:∃f2,f=f2+1:=⟨f-1,∅⟩
    exact⟨1,[[97]],m,l,(rG c (Bf h g t w d (x:=.non) m (IQ h g t w d o))).trans (pt p)⟩
  .rw[decide_eq_false q]at c;exact⟨w,d,v,∅,pt c⟩
theorem Fu(c:List Int)(h:List PV)(B:h.length<=400):∃(w:Nat) (j:List Tx) (d:List PV),Vw w j/\(bS w j).length<=16/\d.length<=h.length+30 /\ rj a [br c,.own (.lst h)]=.ok (.val (.tup [a_ w j,.lst (ak (bS w j))])) [br c,.own (.lst d)]:=by
 obtain⟨t,w,d,I,o,K,J,n,A,E⟩:=Lh (a:=a) c h 2 8 (by decide) (by decide) (by decide) (by decide) B;have v:=yP (t:=t) (w:=w) ∅ o ∅ ∅ n;obtain⟨g,b,q,H,C⟩:=JO (a:=a) c d t ∅ ∅ n 4 1000 w _ v ∅ (by decide);refine⟨g,b,d,q,H,A,?_⟩;have m:=vq (a:=a) t w ∅;have F:=CU (a:=a) v.g v.w1 v.w4 v.hs;have r:kU a [br c,.own (.lst h),⇑2,⇑8]=.ok (.val (.tup [.str t,.int w])) [br c,.own (.lst d),⇑2,⇑8]:=E;have z:jF 2 3 (ax (aD (kU a) (gV (dV 0) (gO 1 (gV (dC (.int 2)) (gV (dC (.int 8)) (Pu.bE))))))) [br c,.own (.lst h),.none,.none,.none,.none]=.ok .next [br c,.own (.lst d),↥t,⇑w,.none,.none]:=by have e:=HD (G:=kU a) (ε:=[br c,.own (.lst h),.none,.none,.none,.none]) (p:=.lst h) (p':=.lst d) rfl rfl (jG (.int 2) _) (jG (.int 8) _) r;unfold jF ax;rw[e];rfl
 have y:aZ 4 (dL dU (aq (dV 3) (aq (ax (aD (gP a) (gV (dV 2) (gV (dV 3) (Pu.bE))))) (aA)))) [br c,.own (.lst d),↥t,⇑w,.none,.none]=.ok .next [br c,.own (.lst d),↥t,⇑w,.val (a_ w (bu (bw t w))),.none]:=by refine(iw (lz (iN (eM rfl) (iN (x:=.tup (ak (bu (bw t w)))) (ε1:=[br c,.own (.lst d),↥t,⇑w,.none,.none]) ?_ kZ)) (v:=a_ w (bu (bw t w))) rfl)).trans rfl;generalize gP a=G at m;generalize ak (bu (bw t w))=X at m;simp[ax,aD,gV,Pu.bE,dV,m,R.bind,aG,cH,cG,bv,cn,cI,jM]
 have u:aZ 5 (ax (aD (k9 a) (gV (dV 4) (Pu.bE)))) [br c,.own (.lst d),↥t,⇑w,.val (a_ w (bu (bw t w))),.none]=.ok .next (fF a c d t w (bu (bw t w))) :=iw (sk_call1o (eM rfl) F);have s:bD (dL dU (aq (dV 4) (aq (dV 5) (aA)))) (fF a c d t g b)=.ok (.ret (.val (.tup [a_ g b,.lst (ak (bS g b))]))) (fF a c d t g b):=by unfold bD;rw[lz (f:=dU) (iN (eM (i:=4) (v:=a_ g b) rfl) (iN (eM (i:=5) (v:=.lst (ak (bS g b))) rfl) kZ)) rfl];rfl
 rw[Nq];have l:aF (jF 2 3 (ax (aD (kU a) (gV (dV 0) (gO 1 (gV (dC (.int 2)) (gV (dC (.int 8)) (Pu.bE))))))))
   (aF (aZ 4 (dL dU (aq (dV 3) (aq (ax (aD (gP a) (gV (dV 2) (gV (dV 3) (Pu.bE))))) (aA)))))
   (aF (aZ 5 (ax (aD (k9 a) (gV (dV 4) (Pu.bE)))))
   (aF (λε=>cU (dj qR (oR a) 1000 ε))
   (bD (dL dU (aq (dV 4) (aq (dV 5) (aA)))))))) [br c,.own (.lst h),.none,.none,.none,.none]=.ok (.ret (.val (.tup [a_ g b,.lst (ak (bS g b))]))) (fF a c d t g b):=by
  refine(c4 z).trans ((c4 y).trans ((c4 u).trans ?_));refine(c4 (d1:=λε=>cU (dj qR (oR a) 1000 ε)) (by show cU _=_;rw[C];rfl)).trans ?_;exact s
 unfold fF at l;generalize aF _ _=D at l;generalize PV.tup [a_ g b,.lst (ak (bS g b))]=Q at l ⊢;simp[bz,fP,a6,cY,l,back,aG,R.bind,gQ]
theorem Vw.ql{w:Nat}{b:List Tx}(v:Vw w b):Ql (bS w b)/\∃n,1<=n/\n<=20/\∀t∈bS w b,t.length=n:=by
 have g:∀x∈b,x.length=w/\∀c∈x,c∈bA:=λx h=>⟨v.g.len x h,v.g.abc x h⟩
 have f:∀t∈bS w b,t.length=w-1+b.length/\∀c∈t,c∈bA:=λt d=>Fs v.w1 v.g.some g d;have m:=v.g.some;have l:=v.g.few;have j:=v.w4;have i:=v.w1;refine⟨⟨v.h0,Lb v.w1 v.g.some g,λt d=>(f t d).2,λt d=>?_⟩,w-1+b.length,∅,∅,λt d=>(f t d).1⟩;obtain⟨x,r,e⟩:=qe v.h0;have:wide (bS w b)=w-1+b.length:=by rw[e];exact(f x (by rw[e];simp)).1
 rw[this];exact(f t d).1
end
section
variable{a:Ad}
theorem Mg{G:ag->R Slot}{b:ag}{c r:PV}{p p':Pu.PO}(g:b[0]?=aa (.val c))(f:b[1]?=aa (.own p))(d:G [.val c,.own p]=.ok (.val r) [.val c,.own p']):aD G (gV (dV 0) (gO 1 Pu.bE)) b=.ok (.val r) (b.set 1 (.own p')):=by simp[aD,gV,gO,Pu.bE,dV,g,f,d,R.bind,aG,cH,cG,bv,cn,cI]
theorem nk{d:ag->R Slot}{ε ε1:ag}{r:PV}(h:d ε=.ok (.val r) ε1):ax d ε=.ok r ε1:=by unfold ax;rw[h];rfl
theorem xn{d:ag->R Slot}{ε b:ag}{xs:List PV}(h:d ε=.ok (.own (.lst xs)) b):ax d ε=.ok (.lst xs) b:=by unfold ax;rw[h];rfl
theorem Lk{d:ag->R PO}{ε b:ag}{xs:List PV}(h:d ε=.ok (.lst xs) b):dF d ε=.ok (.lst xs) b:=by unfold dF;rw[h];rfl
theorem yw{d:ag->R PV}{b ε1:ag}{x:PV}(h:d b=.ok x ε1):bD d b=.ok (.ret (.val x)) ε1:=by unfold bD;rw[h];rfl
theorem NZ{d1 d2:ag->R aE}{c b:ag}{s:Slot}(h:d1 c=.ok (.ret s) b):aF d1 d2 c=.ok (.ret s) b:=by unfold aF;rw[h]
theorem Im{g f:ag->R Bool}{ε d c:ag}{b:Bool}(i:g ε=.ok aj d)(h:f d=.ok b c):j_ g f ε=.ok b c:=by unfold j_;rw[i,R.bind_ok];exact h
def bL(a:Ad):ag->R PV:=(dL iP (aq (ax (cr a.Seeker (bn "left") 0 (iq a))) (aA)))
def bM(a:Ad):ag->R PV:=qO [1,2] (oG (ax (aD (jk a) (gV (dV 1) (Pu.bE))))) (ax (aD (jc a (fz a 17)) (gV (dV 0) (gV (dV 1) (gO 2 (Pu.bE))))))
def bC:ag->R Bool:=(dB (d2 (Pu.eqT aj) (dL aV (aq (dV 1) (aA))) (dC (.int 1))))
theorem A1:jH a=fA 1 [0] (a6 2 (aF (aZ 1 (bL a)) (aF (ca bC (bD (dC .non)) (cL)) (aF (ir 2 (pq)) (bD (bM a)))))):=rfl
theorem Aw{T:List Tx}{b:List (Nat×Nat)}{n:Nat}(c:∀t∈T,t.length=n)(d:∀q∈b,q.1<n):bL a [.own (SK a T (aW b)),.none,.none]=.ok (.tup (ak (lf T b))) [.own (SK a T (aW b)),.none,.none] :=lz (iN (xn (vf (i:=0) c d rfl)) kZ) rfl
theorem DY{s0 s2:Slot}{l:List Tx}:bC [s0,.val (.tup (ak l)),s2]=.ok (decide (l.length=1)) [s0,.val (.tup (ak l)),s2]:=by refine k6 (ip (lz (iN (eM rfl) kZ) (v:=.int (l.length:Nat)) (by show aa (PV.int _)=_;rw[iO])) (jG (.int 1) _) ?_);rw[nE,zZ];congr 2;exact decide_eq_decide.mpr ∅
theorem CF{T:List Tx}{b:List (Nat×Nat)}{v:PV}{s1 s2:Slot}{D:ag->R aE}(h:D [.own (SK a T (aW b)),.none,.none]=.ok (.ret (.val v)) [.own (SK a T (aW b)),s1,s2]):fA 1 [0] (a6 2 D) [.own (SK a T (aW b))]=.ok (.val v) [.own (SK a T (aW b))]:=by generalize SK a T (aW b)=P at h ⊢;simp[fA,fJ,lp,a6,cY,h,back,R.bind,aG]
theorem ME{T:List Tx}{Rw:List (Nat×Nat)}{n:Nat}(c:∀t∈T,t.length=n)(d:∀q∈Rw,q.1<n)(f:(lf T Rw).length=1):jH a [.own (SK a T (aW Rw))]=.ok (.val .non) [.own (SK a T (aW Rw))]:=by rw[A1];refine CF (s1:=.val (.tup (ak (lf T Rw)))) (s2:=.none) ?_;refine(c4 (iw (Aw c d))).trans ?_;have b:=DY (s0:=.own (SK a T (aW Rw))) (l:=lf T Rw) (s2:=.none);rw[decide_eq_true f]at b;exact NZ ((Cp b).trans (yw (jG _ _)))
theorem Gj{T:List Tx}{Rw:List (Nat×Nat)}{n:Nat}(f:∀t∈T,t.length=n)(j:∀q∈Rw,q.1<n)(c:Ql (lf T Rw))(m:2<=(lf T Rw).length)(o:(lf T Rw).length<=16)(p:n<=1000):jH a [.own (SK a T (aW Rw))]=.ok (⇑(fbest (lf T Rw):Nat)) [.own (SK a T (aW Rw))]:=by
 have h:wide (lf T Rw)<=1000:=by
  obtain⟨x,r,e⟩:=qe c.ne;have:wide (lf T Rw)=n:=by have g:=f x ((pr Rw T).mem (by rw[e];simp));rw[e];exact g
  lia
 obtain⟨b,i⟩:=best_eq (a:=a) (s0:=.own (SK a T (aW Rw))) c m o h;rw[A1];refine CF (s1:=.val (.tup (ak (lf T Rw)))) (s2:=.own (.dT b)) ?_;refine(c4 (iw (Aw f j))).trans ?_;have d:=DY (s0:=.own (SK a T (aW Rw))) (l:=lf T Rw) (s2:=.none);rw[decide_eq_false ∅]at d;refine(c4 (u7 d)).trans ?_;refine(c4 (ε1:=[.own (SK a T (aW Rw)),.val (.tup (ak (lf T Rw))),.own (.dT [])]) rfl).trans ?_;exact yw i
theorem Kx(T:List Tx):(ft T).lookup (bn "heard")=ae:=rfl
theorem Hj(T:List Tx):(ft T).lookup (bn "needed")=ae:=rfl
theorem FR(T:List Tx):(ft T).lookup (bn "best")=ae:=rfl
theorem DV:∀b:List (Nat×Nat),jw (aW b)=ai
 |[]=>rfl
 |q::b=>by show(jw [.int (q.1:Nat),.str [q.2]]&&jw (aW b))=ai;rw[DV b];rfl
theorem Fx{ε:ag}{i:Nat}{T:List Tx}{Rw:List (Nat×Nat)}(b:ε[i]?=aa (.own (SK a T (aW Rw)))):cr a.Seeker (bn "heard") i (lu a) ε=.ok (.own (.lst (aW Rw))) ε:=by have h:=vO (a:=a) b (Kx T) (by decide) (Mm (DV Rw));rw[vg b]at h;exact h
theorem xT{ε:ag}{i:Nat}{T:List Tx}{Rw:List (Nat×Nat)}{n:Nat}(f:∀t∈T,t.length=n)(g:∀q∈Rw,q.1<n)(c:Ql (lf T Rw))(j:(lf T Rw).length<=16)(d:n<=1000)(b:ε[i]?=aa (.own (SK a T (aW Rw)))):cr a.Seeker (bn "needed") i (iW a) ε=.ok (⇑(nd (lf T Rw):Nat)) ε:=by have h:=vO (a:=a) b (Hj T) (by decide) (LI f g c j d);rw[vg b]at h;exact h
theorem xE{ε:ag}{i:Nat}{T:List Tx}{Rw:List (Nat×Nat)}{v:PV}(h:jH a [.own (SK a T (aW Rw))]=.ok (.val v) [.own (SK a T (aW Rw))])(b:ε[i]?=aa (.own (SK a T (aW Rw)))):cr a.Seeker (bn "best") i (jH a) ε=.ok (.val v) ε:=by have h:=vO (a:=a) b (FR T) (by decide) h;rw[vg b]at h;exact h
theorem NX(T:List Tx):(ft T).lookup (bn "hear")=ae:=rfl
theorem GK{ε:ag}{i:Nat}{T:List Tx}{L c:List PV}{d e:ag->R PV}{x y v:PV}(b:ε[i]?=aa (.own (SK a T L)))(j:d ε=.ok x ε)(g:e ε=.ok y ε)(h:mf a [.own (SK a T L),.val x,.val y]=.ok (.val v) [.own (SK a T c),.val x,.val y]):ng a.Seeker (bn "hear") i (mf a) (gV d (gV e (Pu.bE))) ε=.ok (.val v) (ε.set i (.own (SK a T c))):=by have f:=CO (a:=a) b (NX T) (by decide);unfold ng;rw[f];generalize SK a T L=P at b h;generalize SK a T c=P' at h ⊢;simp[gV,Pu.bE,j,g,mi,bv,cn,b,aG,R.bind,h,cH,cI,cG]
def fE(a:Ad)(f:List Int)(b:List PV)(V:PV)(T:List Tx)(g:Nat)(t:Tx)(Rw:List (Nat×Nat))(h:Nat)(d c:Slot):ag:=[br f,.own (.lst b),.val V,.val (lsP T),⇑g,↥t,.own (SK a T (aW Rw)),⇑h,d,c]
def wC(a:Ad):ag->R Bool:=(dB (d2 (qW ai) (ax (cr a.Seeker (bn "best") 6 (jH a))) (dC .non)))
def wB(a:Ad):ag->R aE:=(aF (aZ 8 (ax (cr a.Seeker (bn "needed") 6 (iW a)))) (aF (aZ 9 (ax (cr a.Seeker (bn "best") 6 (jH a)))) (aF (gX (ng a.Seeker (bn "hear") 6 (mf a) (gV (dV 9) (gV (d2 bN (dV 5) (dV 9)) (Pu.bE))))) (ca (dB (d2 (bR λi j=>decide (j<=i)) (ax (cr a.Seeker (bn "needed") 6 (iW a))) (dV 8))) (bD (dC (.bl aj))) (cL)))))
theorem rG{t:ag->R Bool}{d:ag->R aE}{n:Nat}{ε c b:ag}(h:t ε=.ok ai c)(f:d c=.ok .next b):dj t d (n+1) ε=dj t d n b:=by rw[dj,h,R.bind_ok];simp only;rw[f]
theorem pt{t:ag->R Bool}{c:ag->R aE}{n:Nat}{ε b:ag}(h:t ε=.ok aj b):dj t c (n+1) ε=.ok .next b:=by rw[dj,h,R.bind_ok]
theorem HQ(d:List Int)(b:List PV)(V:PV){T:List Tx}{n:Nat}(g l:Nat)(t:Tx)(hQ:Ql T)(z:∀t∈T,t.length=n)(P:n<=1000)(cQ:T.length<=16):∀(k C:Nat) (Rw:List (Nat×Nat)) (o m:Slot),(lf T Rw).length<=k->k<C->(∀q∈Rw,q.1<n)->t∈lf T Rw->Rw.length+k<=1000 -> ∃s L K,(∀q∈s,q.1<n)/\lf T s=[t]/\s.length=Rw.length+ask k (lf T Rw) t/\dj (wC a) (wB a) C (fE a d b V T g t Rw l o m)=.ok .next (fE a d b V T g t s l L K):=by
 intro k
 induction k with
 |zero=>intro C Rw o m hk _ _ r;have:=List.length_pos_of_mem r;lia
 |succ k ih=>
  intro C Rw o m hk hf B r hRn;obtain⟨f,rfl⟩:∃f,C=f+1:=⟨C-1,∅⟩
  have u:Ql (lf T Rw):=hQ.sub (pr Rw T) (ww r);have Af:(lf T Rw).length<=16:=cO (pr Rw T).length_le cQ;by_cases J:(lf T Rw).length=1
  .have I:=nk (xE (a:=a) (ε:=fE a d b V T g t Rw l o m) (i:=6) (ME (Rw:=Rw) z B J) rfl);have W:wC a (fE a d b V T g t Rw l o m)=.ok aj (fE a d b V T g t Rw l o m):=k6 (ip I (jG .non _) rfl);have he:lf T Rw=[t]:=by
    match h:lf T Rw,J,r with
    |[x],_,r=>rw[g9.mp r]
   refine⟨Rw,o,m,B,he,?_,pt W⟩;unfold Sh.ask;rw[if_pos J];rfl
  .have h2:2<=(lf T Rw).length:=by have:=List.length_pos_of_mem r;lia
   have y:=Gj (a:=a) (Rw:=Rw) z B u h2 Af P;have I:=nk (xE (a:=a) (ε:=fE a d b V T g t Rw l o m) (i:=6) y rfl);have W:wC a (fE a d b V T g t Rw l o m)=.ok ai (fE a d b V T g t Rw l o m):=k6 (ip I (jG .non _) rfl);obtain⟨Z,f2⟩:=fbest_mem u h2;obtain⟨p1,p2⟩:=plq_lt Z;obtain⟨E,M,H,D⟩:=own_part u r Z;generalize hp:fbest (lf T Rw)=p at I y Z f2 p1 p2 E M H D;generalize kJ:t.getD p 0=c at E M H D;have F:=(pr Rw T).mem r;have w:p<n:=by have:=(cq.mp E).1;rw[z t F]at this;exact this
   have qA:p<t.length:=by rw[z t F];exact w
   have S:t[p]=c:=by rw[eh qA]at E;exact dY E
   have hh:=IH (a:=a) (p:=p) (c:=c) hQ.ne z B w M (ww H) ∅;have Q:bN (.str t) (.int p)=aa (.str [c]):=by rw[sk_ix qA,S]
   have G:∀q∈Rw++[(p,c)],q.1<n:=λq u=>by
    rcases nW.mp u with h|h
    .exact B q h
    .rw[g9.mp h];exact w
   have A:lf T (Rw++[(p,c)])=wl (lf T Rw) p c:=CQ T Rw (p,c);obtain⟨O,N⟩:=u.part D;have hnd:=part_nd D;have bG:=part_lt p2 D;have z8:=nk (xT (a:=a) (ε:=fE a d b V T g t Rw l o m) (i:=6) z B u Af P rfl);have e1:aZ 8 (ax (cr a.Seeker (bn "needed") 6 (iW a))) (fE a d b V T g t Rw l o m)=.ok .next (fE a d b V T g t Rw l (.val (.int (nd (lf T Rw):Nat))) m):=(iw z8).trans rfl;have X:=nk (xE (a:=a) (ε:=fE a d b V T g t Rw l (.val (.int (nd (lf T Rw):Nat))) m) (i:=6) y rfl);have e2:aZ 9 (ax (cr a.Seeker (bn "best") 6 (jH a))) (fE a d b V T g t Rw l (.val (.int (nd (lf T Rw):Nat))) m)=.ok .next (fE a d b V T g t Rw l (.val (.int (nd (lf T Rw):Nat))) (.val (.int p))):=(iw X).trans rfl;have e3:gX (ng a.Seeker (bn "hear") 6 (mf a) (gV (dV 9) (gV (d2 bN (dV 5) (dV 9)) (Pu.bE)))) (fE a d b V T g t Rw l (.val (.int (nd (lf T Rw):Nat))) (.val (.int p)))=.ok .next (fE a d b V T g t (Rw++[(p,c)]) l (.val (.int (nd (lf T Rw):Nat))) (.val (.int p))):=by unfold gX;rw[GK (i:=6) rfl (eM (v:=.int p) rfl) (ip (eM (v:=.str t) rfl) (eM (v:=.int p) rfl) Q) hh];rfl
   have Oa:=nk (xT (a:=a) (ε:=fE a d b V T g t (Rw++[(p,c)]) l (.val (.int (nd (lf T Rw):Nat))) (.val (.int p))) (i:=6) (Rw:=Rw++[(p,c)]) z G (by rw[A];exact O) (by rw[A];exact cO N.length_le Af) P rfl);have e4:dB (d2 (bR λi j=>decide (j<=i)) (ax (cr a.Seeker (bn "needed") 6 (iW a))) (dV 8)) (fE a d b V T g t (Rw++[(p,c)]) l (.val (.int (nd (lf T Rw):Nat))) (.val (.int p)))=.ok aj (fE a d b V T g t (Rw++[(p,c)]) l (.val (.int (nd (lf T Rw):Nat))) (.val (.int p))):=by refine k6 (ip Oa (eM (i:=8) (v:=.int (nd (lf T Rw):Nat)) rfl) ?_);show aa (PV.bl (decide (((nd (lf T Rw):Nat):Int)<=(nd (lf T (Rw++[(p,c)])):Nat))))=_;rw[A,decide_eq_false ∅]
   have ff:wB a (fE a d b V T g t Rw l o m)=.ok .next (fE a d b V T g t (Rw++[(p,c)]) l (⇑(nd (lf T Rw):Nat)) (⇑p)):=by unfold wB;exact(c4 e1).trans ((c4 e2).trans ((c4 e3).trans (u7 e4)))
   obtain⟨R2,t8,t9,Y,i_,Oj,hw⟩:=ih f (Rw++[(p,c)]) (⇑(nd (lf T Rw):Nat)) (⇑p) (by rw[A];lia) ∅ G (by rw[A];exact H) (by simp;lia);refine⟨R2,t8,t9,Y,i_,?_,(rG W ff).trans hw⟩;rw[Oj,A];have ea:ask (k+1) (lf T Rw) t=1+ask k (wl (lf T Rw) p c) t:=by
    conv=>lhs;unfold Sh.ask
    rw[if_neg J,hp,kJ]
   rw[ea];simp;lia
def lT(a:Ad):ag->R Bool:=(j_ (dB (d2 (Pu.eqT ai) (ax (cr a.Seeker (bn "left") 6 (iq a))) (dF (dL eB (aq (dV 5) (aA)))))) (dB (d2 (bR λi j=>decide (j<i)) (dL aV (aq (ax (cr a.Seeker (bn "heard") 6 (lu a))) (aA))) (dV 7))))
def lM(a:Ad):ag->R aE:=(aZ 4 (dL nL (aq (dV 4) (aq (dL aV (aq (ax (cr a.Seeker (bn "heard") 6 (lu a))) (aA))) (aA)))))
def lB(a:Ad):ag->R aE:=(aF (ir 6 (li a.Seeker (kb a) (gV (dV 2) (Pu.bE)))) (aF (aZ 7 (ax (cr a.Seeker (bn "needed") 6 (iW a)))) (aF (λε=>dj (wC a) (wB a) 1000 ε) (aF (ca (lT a) (bD (dC (.bl aj))) (cL)) (lM a)))))
def gE(i:List Int)(b:List PV)(V:PV)(T:List Tx)(j:Nat)(h g f d c:Slot):ag:=[br i,.own (.lst b),.val V,.val (lsP T),⇑j,h,g,f,d,c]
theorem G9(f:List Int)(d:List PV){w:Nat}{c:List Tx}{T:List Tx}{n:Nat}(b:Nat){t:Tx}(x m l j:Slot)(s:Ql T)(r:∀t∈T,t.length=n)(z:n<=1000)(u:T.length<=16)(y:t∈T)(E:∀ε:ag,ε[2]?=aa (.val (a_ w c))->li a.Seeker (kb a) (gV (dV 2) (Pu.bE)) ε=.ok (SK a T []) ε):∃D h g,lB a (gE f d (a_ w c) T b (↥t) x m l j)=.ok .next (gE f d (a_ w c) T (max b (ask 16 T t)) (↥t) D (⇑(nd T:Nat)) h g):=by
 have M:ir 6 (li a.Seeker (kb a) (gV (dV 2) (Pu.bE))) (gE f d (a_ w c) T b (↥t) x m l j)=.ok .next (gE f d (a_ w c) T b (↥t) (.own (SK a T (aW []))) m l j):=by unfold ir;rw[E _ rfl];rfl
 have C:=nk (xT (a:=a) (ε:=gE f d (a_ w c) T b (.val (.str t)) (.own (SK a T (aW []))) m l j) (i:=6) (Rw:=[]) r (λq p=>by cases p) s u z rfl);have L:aZ 7 (ax (cr a.Seeker (bn "needed") 6 (iW a))) (gE f d (a_ w c) T b (.val (.str t)) (.own (SK a T (aW []))) m l j)=.ok .next (fE a f d (a_ w c) T b t [] (nd T) l j):=(iw C).trans rfl;obtain⟨Rw,h,g,I,H,o,F⟩:=HQ (a:=a) f d (a_ w c) b (nd T) t s r z u 16 1000 [] l j u (by decide) (λq p=>by cases p) y (by simp);simp only[kD,p9]at o;have o:Rw.length=ask 16 T t:=o;have G:=ask_le 16 T t s y;have B:=xn (vf (a:=a) (ε:=fE a f d (a_ w c) T b t Rw (nd T) h g) (i:=6) r I rfl);rw[H]at B;have N:=xn (Fx (a:=a) (ε:=fE a f d (a_ w c) T b t Rw (nd T) h g) (i:=6) (Rw:=Rw) rfl);have A:dL aV (aq (ax (cr a.Seeker (bn "heard") 6 (lu a))) (aA)) (fE a f d (a_ w c) T b t Rw (nd T) h g)=.ok (.int (Rw.length:Nat)) (fE a f d (a_ w c) T b t Rw (nd T) h g) :=lz (iN N kZ) (by show aa (PV.int _)=_;unfold aW;rw[cf]);have K:lT a (fE a f d (a_ w c) T b t Rw (nd T) h g)=.ok aj (fE a f d (a_ w c) T b t Rw (nd T) h g):=by
  refine Im (k6 (ip B (Lk (xs:=ak [t]) (lz (iN (eM (i:=5) (v:=.str t) rfl) kZ) rfl)) ?_)) (k6 (ip A (eM (i:=7) (v:=.int (nd T:Nat)) rfl) ?_))
  .rw[DK];simp
  .show aa (PV.bl (decide (((nd T:Nat):Int)<(Rw.length:Nat))))=_;rw[decide_eq_false ∅]
 have J:lM a (fE a f d (a_ w c) T b t Rw (nd T) h g)=.ok .next (gE f d (a_ w c) T (max b (ask 16 T t)) (↥t) (.own (SK a T (aW Rw))) (⇑(nd T:Nat)) h g):=by unfold lM;refine(iw (lz (iN (eM (i:=4) (v:=.int b) rfl) (iN A kZ)) (v:=.int ((max b (ask 16 T t):Nat):Int)) ?_)).trans rfl;show aa (PV.int (if((Rw.length:Nat):Int) > (b:Nat)then((Rw.length:Nat):Int)else(b:Nat)))=_;rw[o];congr 2;split <;> lia
 refine⟨.own (SK a T (aW Rw)),h,g,?_⟩;unfold lB;refine(c4 M).trans ((c4 L).trans ?_);refine(c4 (d1:=λε=>dj (wC a) (wB a) 1000 ε) F).trans ?_;exact(c4 (u7 K)).trans J
theorem Av(l:List Int)(j:List PV){w:Nat}{p:List Tx}{T:List Tx}{n:Nat}(C:Ql T)(B:∀t∈T,t.length=n)(A:n<=1000)(D:T.length<=16)(z:∀q:ag,q[2]?=aa (.val (a_ w p))->li a.Seeker (kb a) (gV (dV 2) (Pu.bE)) q=.ok (SK a T []) q):∀(b:List Tx) (d:Nat) (o i c g f:Slot),(∀t∈b,t∈T) -> ∃v u m s r,(b≠[]->m=⇑(nd T:Nat))/\(b=[]->m=c)/\gy 5 (lB a) (ak b) (gE l j (a_ w p) T d o i c g f)=.ok .next (gE l j (a_ w p) T ((b.map (ask 16 T)).foldl max d) v u m s r)
 |[],d,o,i,c,g,f,_=>⟨o,i,c,g,f,λh=>absurd rfl h,λ_=>rfl,rfl⟩
 |t::b,d,o,i,c,g,f,h=>by
  obtain⟨K,J,I,G⟩:=G9 l j d i c g f C B A D (h t (by simp)) z;obtain⟨v,u,m,s,r,H,y,F⟩:=Av l j C B A D z b (max d (ask 16 T t)) (↥t) K (⇑(nd T:Nat)) J I λx E=>h x (by simp[E]);refine⟨v,u,m,s,r,λ_=>?_,(λe=>by cases e),?_⟩
  .by_cases e:b=[]
   .exact y e
   .exact H e
  .rw[show ak (t::b)=.str t::ak b from rfl,gy,show(gE l j (a_ w p) T d o i c g f).set 5 (↥t)=gE l j (a_ w p) T d (↥t) i c g f from rfl,G,fK,jX];exact F
theorem JQ(b:List Int):qP a [br b]=.ok (.val (.bl ai)) [br b]:=by
 obtain⟨w,c,g,v,l,J,s⟩:=Fu (a:=a) b [] (by simp);obtain⟨j,n,I,B,u⟩:=v.ql;have r:∀d:ag,d[2]?=aa (.val (a_ w c))->li a.Seeker (kb a) (gV (dV 2) (Pu.bE)) d=.ok (SK a (bS w c) []) d:=λd h=>Gq v.g v.w1 v.w4 v.hs v.h0 l (eM h);obtain⟨T,C⟩:∃T,T=bS w c:=⟨_,rfl⟩
 rw[<-C]at j u r s l;obtain⟨A,z,H,y,x,o,_,q⟩:=Av (a:=a) b g j u ∅ l r T 0 .none .none .none .none .none (λt G=>G);have o:=o j.ne;subst o;have m:(T.map (ask 16 T)).foldl max 0=nd T:=ask_all j l;rw[m]at q;have F:ir 1 (dL eB aA) [br b,.none,.none,.none,.none,.none,.none,.none,.none,.none]=.ok .next [br b,.own (.lst []),.none,.none,.none,.none,.none,.none,.none,.none]:=rfl;have E:jF 2 3 (ax (aD (rj a) (gV (dV 0) (gO 1 (Pu.bE))))) [br b,.own (.lst []),.none,.none,.none,.none,.none,.none,.none,.none]=.ok .next [br b,.own (.lst g),.val (a_ w c),.val (lsP T),.none,.none,.none,.none,.none,.none]:=by unfold jF;rw[nk (Mg (p:=.lst []) (p':=.lst g) rfl rfl s)];rfl
 have f:yau a [br b,.none,.none,.none,.none,.none,.none,.none,.none,.none]=.ok (.ret (.val (.bl ai))) (gE b g (a_ w c) T (nd T) A z (⇑(nd T:Nat)) y x):=by show aF _ (aF _ (aF _ (aF (λd=>cU (eN 5 _ (lB a) d)) _))) _=_;refine(c4 F).trans ((c4 E).trans ?_);refine(c4 (ε1:=gE b g (a_ w c) T 0 .none .none .none .none .none) rfl).trans ?_;refine(GE (show bI (dV 3) (gE b g (a_ w c) T 0 .none .none .none .none .none)=.ok (ak T) _ from rfl) q).trans ?_;exact yw (ip (eM (i:=4) (v:=.int (nd T:Nat)) rfl) (eM (i:=7) (v:=.int (nd T:Nat)) rfl) (by rw[nE];simp))
 unfold qP;unfold gE at f;generalize yau a=D at f;generalize lsP T=A2 at f;generalize a_ w c=A3 at f;generalize ((nd T:Nat):Int)=A4 at f;simp[bz,fP,a6,cY,f,back,aG,R.bind,gQ]
end
open L2 Pu Sh
def yL(K:ar)(a:Ad):Bool:=p_ K a.SlitError u0 "ValueError.__new__" && (lv a).all (λx=>p_ K x u0 "ValueError.__new__" && subB K a.SlitError x&&Ck K x&&(lv a).all (λd=>iD K (.ref x) (.ref d) == aa (x == d))&&iD K (.ref x) (.type "ValueError") == aa ai)&&wI K
section
variable{K:ar}{h g:aC}{i:Str->Option ah}{a:Ad}
theorem oO(h:yL K a=ai):p_ K a.SlitError u0 "ValueError.__new__"=ai/\(∀x∈lv a,p_ K x u0 "ValueError.__new__"=ai/\subB K a.SlitError x=ai/\Ck K x=ai/\(∀d∈lv a,iD K (.ref x) (.ref d)=aa (x == d))/\iD K (.ref x) (.type "ValueError")=aa ai)/\wI K=ai:=by unfold yL at h;simp only[ef,iF,beq_iff_eq,decide_eq_true_eq]at h;obtain⟨⟨j,c⟩,f⟩:=h;exact⟨j,λx b=>⟨(c x b).1.1.1.1,(c x b).1.1.1.2,(c x b).1.1.2,(c x b).1.2,(c x b).2⟩,f⟩
structure Top(K:ar)(a:Ad):Prop where
 yaK:uK K a.Seeker "Seeker.__init__" yr
 yba:gK K a.Seeker "left" "Seeker.left" xH
 ybb:gK K a.Seeker "needed" "Seeker.needed" yJ
 ya7:gK K a.Seeker "best" "Seeker.best" vT
 ya8:gK K a.Seeker "hear" "Seeker.hear" wO
 ya9:gK K a.Seeker "heard" "Seeker.heard" xr
 k_Seeker:Cls K a.Seeker
 ya1:gY K a.Seeker "having"
 ya0:gY K a.Seeker "answers"
 yaw:c5 K "_law_cell_at" w8
 yaA:c5 K "_law_mixed" wM
 yax:c5 K "_law_draw" x6
 yaB:c5 K "_law_pick" yV
 yaD:c5 K "_law_text" xQ
 yaz:c5 K "_law_like" yB
 yaC:c5 K "_law_seen" ui
 yaE:c5 K "_law_under" vR
 yav:c5 K "_law_all" qH
 yay:c5 K "_law_few" x_
 yar:c5 K "is_whole_number" xA
 yas:c5 K "is_width" zd
 yao:c5 K "has_only" uF
 yat:c5 K "is_window" yI
 yaj:c5 K "are_windows" uH
 yaq:c5 K "is_view_with" yA
 yap:c5 K "is_view" yg
 yam:c5 K "check_view" ze
 yah:c5 K "add_endings" xJ
 yan:c5 K "counted" xk
 yaI:c5 K "texts" vU
 yaJ:c5 K "with_letter" vF
 yai:c5 K "answers_to" vA
 yaF:c5 K "needed_by" qM
 yaH:c5 K "places_to_ask" ul
 yaG:c5 K "needed_for" uP
 yal:c5 K "check_place" x9
 yak:c5 K "check_letter" ye
 yau:c5 K "law" uc
 yaM:cX K bP "all"=aa ae
 yaN:cX K bP "any"=aa ae
 yaO:cX K bP "bool"=aa ae
 yaP:cX K bP "int"=aa ae
 yaQ:cX K bP "isinstance"=aa ae
 yaR:cX K bP "len"=aa ae
 yaS:cX K bP "list"=aa ae
 yaT:cX K bP "max"=aa ae
 yaU:cX K bP "min"=aa ae
 yaV:cX K bP "range"=aa ae
 yaW:cX K bP "set"=aa ae
 yaX:cX K bP "sorted"=aa ae
 yaY:cX K bP "str"=aa ae
 yaZ:cX K bP "tuple"=aa ae
 ybc:∃t,cX K bP "LETTERS"=aa (aa (.str (tS [97,98,99]) t))
 ybd:∃t,cX K bP "MOST_TEXTS"=aa (aa (.int 16 t))
 ybe:∃t,cX K bP "MOST_WINDOWS"=aa (aa (.int 9 t))
 ybf:∃t,cX K bP "WIDEST"=aa (aa (.int 4 t))
 yag:cX K bP "SlitError"=aa (aa (.ref a.SlitError))
 yae:cX K bP "NoView"=aa (aa (.ref a.NoView))
 yab:cX K bP "Never"=aa (aa (.ref a.Never))
 yaa:cX K bP "Full"=aa (aa (.ref a.Full))
 yad:cX K bP "NoPlace"=aa (aa (.ref a.NoPlace))
 yac:cX K bP "NoLetters"=aa (aa (.ref a.NoLetters))
 yaf:cX K bP "Seeker"=aa (aa (.ref a.Seeker))
 ck:yL K a=ai
 z_Seeker_best:ji K "Seeker.best"=aa (238,234)/\wd K 238 234=ai/\K.lookup 234=ae
theorem HE(T:Top K a)(X:K.In g)(G:g.Ns bP i):cE K i g a where
 yaK:=T.yaK
 yba:=T.yba
 ybb:=T.ybb
 ya7:=T.ya7
 ya8:=T.ya8
 ya9:=T.ya9
 k_Seeker:=T.k_Seeker
 ya1:=T.ya1
 ya0:=T.ya0
 yaw:=T.yaw.at X G
 yaA:=T.yaA.at X G
 yax:=T.yax.at X G
 yaB:=T.yaB.at X G
 yaD:=T.yaD.at X G
 yaz:=T.yaz.at X G
 yaC:=T.yaC.at X G
 yaE:=T.yaE.at X G
 yav:=T.yav.at X G
 yay:=T.yay.at X G
 yar:=T.yar.at X G
 yas:=T.yas.at X G
 yao:=T.yao.at X G
 yat:=T.yat.at X G
 yaj:=T.yaj.at X G
 yaq:=T.yaq.at X G
 yap:=T.yap.at X G
 yam:=T.yam.at X G
 yah:=T.yah.at X G
 yan:=T.yan.at X G
 yaI:=T.yaI.at X G
 yaJ:=T.yaJ.at X G
 yai:=T.yai.at X G
 yaF:=T.yaF.at X G
 yaH:=T.yaH.at X G
 yaG:=T.yaG.at X G
 yal:=T.yal.at X G
 yak:=T.yak.at X G
 yau:=T.yau.at X G
 yaM:=i7 X G T.yaM
 yaN:=i7 X G T.yaN
 yaO:=i7 X G T.yaO
 yaP:=i7 X G T.yaP
 yaQ:=i7 X G T.yaQ
 yaR:=i7 X G T.yaR
 yaS:=i7 X G T.yaS
 yaT:=i7 X G T.yaT
 yaU:=i7 X G T.yaU
 yaV:=i7 X G T.yaV
 yaW:=i7 X G T.yaW
 yaX:=i7 X G T.yaX
 yaY:=i7 X G T.yaY
 yaZ:=i7 X G T.yaZ
 ybc:=T.ybc.imp λ_ e=>gd X G e
 ybd:=T.ybd.imp λ_ e=>gd X G e
 ybe:=T.ybe.imp λ_ e=>gd X G e
 ybf:=T.ybf.imp λ_ e=>gd X G e
 yag:=gd X G T.yag
 yae:=gd X G T.yae
 yab:=gd X G T.yab
 yaa:=gd X G T.yaa
 yad:=gd X G T.yad
 yac:=gd X G T.yac
 yaf:=gd X G T.yaf
 ya6:=qT X (gd X G T.yae) ((oO T.ck).2.1 a.NoView (by simp[lv])).1
 ya3:=qT X (gd X G T.yab) ((oO T.ck).2.1 a.Never (by simp[lv])).1
 ya2:=qT X (gd X G T.yaa) ((oO T.ck).2.1 a.Full (by simp[lv])).1
 ya5:=qT X (gd X G T.yad) ((oO T.ck).2.1 a.NoPlace (by simp[lv])).1
 ya4:=qT X (gd X G T.yac) ((oO T.ck).2.1 a.NoLetters (by simp[lv])).1
 yaL:=⟨_,_,GS T.yaf T.z_Seeker_best.1 T.z_Seeker_best.2.1⟩
theorem IN{l:zE}{w:aR}{d:ac}(X:K.In h)(G:h.Ns bP i)(b:i "law"=aa (.ref d))(T:Top K a):∃c:gb,(∀(s:am) (v:ah),BindsTo s c ⟨[v],[]⟩ [("_law_script",v)])/\∀g:aC,K.In g->g.Ns bP i->fO l.prog w K i g (bX l.prog w) 43 d c ["_law_script"] (bj K (qP a)):=by
 obtain⟨f,oc,x,kV,y,u,B,A,z,r,o,n,m,j⟩:=T.yau;have e:=b.symm.trans (gd X G o);cases e;exact⟨_,λs v=>.of_eq rfl,λg p q=>JZ (HE T p q) (vt n m j)⟩
theorem Ih{l:zE}{q:aY}{j:List Str}{XP:(Str->Option ah)->aC->Prop}{p:aR->aC->Prop}{d:DefRec}{K:Params->ar}(A:l.most=aa 63)(v:d.params.defaults=[])(m:d.name = "law")(o:∀(w:aR) (h:aC),p w h->(K w.params).In h/\h.get? 234=aa (PySem.W.tabObj #[])) {a:Ad} (T:∀w:aR,Top (K w.params) a):PySem.W.WalkO q j XP p l.row.toRowW d [] (λf r=>PySem.call f r) :=
 L2.OL (n:=63) (k:=43) (x:="_law_script") (K:=K) (CX:=λw=>bX l.prog w) (sp:=λw=>bj (K w.params) (qP a)) A (by decide) v ⟨rfl,by decide,by decide⟩ (λw h Y=>⟨(o w h Y).1,λc P e=>by rw[(T w).z_Seeker_best.1]at e;cases e;exact⟨(T w).z_Seeker_best.2.1,(T w).z_Seeker_best.2.2,(o w h Y).2⟩⟩)
  (λw i F h C G u=>IN C G (by rw[<-m];exact u) (T w))
  (λw H b y E _ B=>MU (Mb (oO (T w).ck).2.2 B) (JQ  y))
  (λw H s e D z=>by obtain⟨_,_,_,_,_,_,_,_,_,_,_,f⟩:=z;exact f)
theorem OG{l:zE}{q:aY}{b:List Str}{XP:(Str->Option ah)->aC->Prop}{j:aR->aC->Prop}{d:DefRec}{K:Params->ar}{yag yae yab yaa yad yac yaf:ac}(o:l.most=aa 63)(n:d.params.defaults=[])(c:d.name = "law")(p:∀(w:aR) (h:aC),j w h->(K w.params).In h/\h.get? 234=aa (PySem.W.tabObj #[])) (T:∀w:aR,Top (K w.params) ⟨yag,yae,yae,yae,yae,yab,yaa,yae,yae,yad,yac,yae,yaf,0⟩):PySem.W.WalkO q b XP j l.row.toRowW d [] (λf m=>PySem.call f m):=Ih o n c p T
end
end K32
def PySem.W.Fast.tw16382882177949176307:Nat:=0
def PySem.W.Fast.tw5166143033279216584:Nat:=0
def PySem.W.Fast.tw14538251629193258580:Nat:=0
def PySem.W.Fast.tw1682214884314999565:Nat:=0
def PySem.W.Fast.tw9895139786148046111:Nat:=0
def PySem.W.Fast.tw4481319142255770298:Nat:=0
def PySem.W.Fast.tw14497497503006784694:Nat:=0
def PySem.W.Fast.tw1879379828421830851:Nat:=0
def PySem.W.Fast.tw12900048368287489767:Nat:=0
def PySem.W.Fast.tw11827586499591187727:Nat:=0
def PySem.W.Fast.tw11884706816909960486:Nat:=0
def PySem.W.Fast.tw16638771819084000844:Nat:=0
def PySem.W.Fast.tw15033978569332606296:Nat:=0
def PySem.W.Fast.tw2596391782750419992:Nat:=0
def PySem.W.Fast.tw18340086470627742557:Nat:=0
def PySem.W.Fast.tw4353995405602964984:Nat:=0
def PySem.W.Fast.tw17312477172678351129:Nat:=0
def PySem.W.Fast.tw16091652038218338673:Nat:=0
def PySem.W.Fast.tw11522771265786460258:Nat:=0
def PySem.W.Fast.tw9764798940138441159:Nat:=0
def PySem.W.Fast.tw9819616369487482436:Nat:=0
def PySem.W.Fast.tw805060161845560027:Nat:=0
def PySem.W.Fast.tw13365322904620701570:Nat:=0
def PySem.W.Fast.tw7555328066387874175:Nat:=0
def PySem.W.Fast.tw9053423313042392128:Nat:=0
def PySem.W.Fast.tw13374201296782434367:Nat:=0
def PySem.W.Fast.tw3971013230553443624:Nat:=0
def PySem.W.Fast.tw17369883104422882625:Nat:=0
def PySem.W.Fast.tw14623630888891568247:Nat:=0
def PySem.W.Fast.tw1997351634142272475:Nat:=0
def PySem.W.Fast.tw17640195771292659095:Nat:=0
def PySem.W.Fast.tw7042290861485367854:Nat:=0
def PySem.W.Fast.tw890471682528195660:Nat:=0
def PySem.W.Fast.tw8608775145738596641:Nat:=0
def PySem.W.Fast.tw9612147500759013325:Nat:=0
def PySem.W.Fast.tw4093965693469914845:Nat:=0
def PySem.W.Fast.tw6937578042110815156:Nat:=0
def PySem.W.Fast.tw780301842830024084:Nat:=0
def PySem.W.Fast.tw6964576781850389426:Nat:=0
def PySem.W.Fast.tw4958305992483652422:Nat:=0
def PySem.W.Fast.tw88296137956800168:Nat:=0
def PySem.W.Fast.tw12423791443479681533:Nat:=0
def PySem.W.Fast.tw7220624759657633777:Nat:=0
def PySem.W.Fast.tw5995655777796440081:Nat:=0
def PySem.W.Fast.tw13283295379996019172:Nat:=0
def PySem.W.Fast.tw17339810526784198239:Nat:=0
def PySem.W.Fast.tw15060335907762475267:Nat:=0
def PySem.W.Fast.tw11009682799031986596:Nat:=0
def PySem.W.Fast.tw17975543495761599388:Nat:=0
def PySem.W.Fast.tw14181551349750792485:Nat:=0
def PySem.W.Fast.tw5156182482006828111:Nat:=0
def PySem.W.Fast.tw6328341270911288175:Nat:=0
def PySem.W.Fast.tw17074332416603130404:Nat:=0
def PySem.W.Fast.tw16268698628839076830:Nat:=0
def PySem.W.Fast.tw14785743959408527860:Nat:=0
def PySem.W.Fast.tw12136527224220040599:Nat:=0
def PySem.W.Fast.tw15216840432417996508:Nat:=0
def PySem.W.Fast.tw14259502266560276465:Nat:=0
def PySem.W.Fast.tw5993614615355327042:Nat:=0
def PySem.W.Fast.tw18242959171933995099:Nat:=0
open PySem PySem.W PyProof.Rows
set_option maxRecDepth 100000 in
set_option maxHeartbeats 0 in
theorem PySem.Challenge.cw_slitview_k32_whole_asked_best_holds : PySem.Challenge.rw_slitview_k32_whole_asked_best.Holds := by
 w_on; o_law; k_head; (case hw=>w_witness2)
 k_fill
 refine' K32.OG (l:=PySem.Challenge.rw_slitview_k32_whole_asked_best) rfl rfl rfl (fun w h Y=>⟨PySem.W.km_in_of Y,PySem.W.km_tabs_of Y _ (by simp)⟩) ?T
 case T =>
  intro w
  refine' { yaK:=?yaK,yba:=?yba,ybb:=?ybb,ya7:=?ya7,ya8:=?ya8,ya9:=?ya9,k_Seeker:=?k_Seeker,ya1:=?ya1,ya0:=?ya0,yaw:=?yaw,yaA:=?yaA,yax:=?yax,yaB:=?yaB,yaD:=?yaD,yaz:=?yaz,yaC:=?yaC,yaE:=?yaE,yav:=?yav,yay:=?yay,yar:=?yar,yas:=?yas,yao:=?yao,yat:=?yat,yaj:=?yaj,yaq:=?yaq,yap:=?yap,yam:=?yam,yah:=?yah,yan:=?yan,yaI:=?yaI,yaJ:=?yaJ,yai:=?yai,yaF:=?yaF,yaH:=?yaH,yaG:=?yaG,yal:=?yal,yak:=?yak,yau:=?yau,yaM:=?yaM,yaN:=?yaN,yaO:=?yaO,yaP:=?yaP,yaQ:=?yaQ,yaR:=?yaR,yaS:=?yaS,yaT:=?yaT,yaU:=?yaU,yaV:=?yaV,yaW:=?yaW,yaX:=?yaX,yaY:=?yaY,yaZ:=?yaZ,ybc:=?ybc,ybd:=?ybd,ybe:=?ybe,ybf:=?ybf,yag:=?yag,yae:=?yae,yab:=?yab,yaa:=?yaa,yad:=?yad,yac:=?yac,yaf:=?yaf,ck:=?ck,z_Seeker_best:=?z_Seeker_best }
  (case yag=>k_is)
  (case yae=>k_is)
  (case yab=>k_is)
  (case yaa=>k_is)
  (case yad=>k_is)
  (case yac=>k_is)
  (case yaf=>k_is)
  (case yaK=>refine' Pu.Ou ?zm ?zi ?zn ?zp ?zl ?zc ?zk; (case zm=>k_is); (case zi=>k_is); (case zn=>k_is); (case zp=>k_is); (case zl=>k_is); (case zc=>k_is); (case zk=>k_is))
  (case yba=>refine' Pu.OH ?yi ?yn ?yl ?yc ?yk; (case yi=>k_is); (case yn=>k_is); (case yl=>k_is); (case yc=>k_is); (case yk=>k_is))
  (case ybb=>refine' Pu.OH ?yi ?yn ?yl ?yc ?yk; (case yi=>k_is); (case yn=>k_is); (case yl=>k_is); (case yc=>k_is); (case yk=>k_is))
  (case ya7=>refine' Pu.OH ?yi ?yn ?yl ?yc ?yk; (case yi=>k_is); (case yn=>k_is); (case yl=>k_is); (case yc=>k_is); (case yk=>k_is))
  (case ya8=>refine' Pu.OH ?yi ?yn ?yl ?yc ?yk; (case yi=>k_is); (case yn=>k_is); (case yl=>k_is); (case yc=>k_is); (case yk=>k_is))
  (case ya9=>refine' Pu.OH ?yi ?yn ?yl ?yc ?yk; (case yi=>k_is); (case yn=>k_is); (case yl=>k_is); (case yc=>k_is); (case yk=>k_is))
  (case k_Seeker=>refine' L2.Cls.mk ?xp ?xh ?xo ?xs; (case xp=>k_is); (case xh=>k_is); (case xo=>k_is); (case xs=>k_is))
  (case ya1=>unfold L2.gY; k_is)
  (case ya0=>unfold L2.gY; k_is)
  (case yaw=>and_intros)
  (case yaA=>and_intros)
  (case yax=>and_intros)
  (case yaB=>and_intros)
  (case yaD=>and_intros)
  (case yaz=>and_intros)
  (case yaC=>and_intros)
  (case yaE=>and_intros)
  (case yav=>and_intros)
  (case yay=>and_intros)
  (case yar=>and_intros)
  (case yas=>and_intros)
  (case yao=>and_intros)
  (case yat=>and_intros)
  (case yaj=>and_intros)
  (case yaq=>and_intros)
  (case yap=>and_intros)
  (case yam=>and_intros)
  (case yah=>and_intros)
  (case yan=>and_intros)
  (case yaI=>and_intros)
  (case yaJ=>and_intros)
  (case yai=>and_intros)
  (case yaF=>and_intros)
  (case yaH=>and_intros)
  (case yaG=>and_intros)
  (case yal=>and_intros)
  (case yak=>and_intros)
  (case yau=>and_intros)
  (case yaM=>k_is)
  (case yaN=>k_is)
  (case yaO=>k_is)
  (case yaP=>k_is)
  (case yaQ=>k_is)
  (case yaR=>k_is)
  (case yaS=>k_is)
  (case yaT=>k_is)
  (case yaU=>k_is)
  (case yaV=>k_is)
  (case yaW=>k_is)
  (case yaX=>k_is)
  (case yaY=>k_is)
  (case yaZ=>k_is)
  (case ybc=>refine' Pu.OA ?e; (case e=>k_is))
  (case ybd=>refine' Pu.OF ?e; (case e=>k_is))
  (case ybe=>refine' Pu.OF ?e; (case e=>k_is))
  (case ybf=>refine' Pu.OF ?e; (case e=>k_is))
  (case ck=>kernel_rfl)
  (case z_Seeker_best=>refine⟨?u1,?u2,?u3⟩; (case u1=>kernel_rfl); (case u2=>kernel_rfl); (case u3=>kernel_rfl))
