import PyProof.Rows.All
import Wide.All
import OpenK.AllK
import Wide.FinOn
import Lean
import PyProof.EqAt
import PyProof.EqKinds
import PyProof.TupleCall
import KE.KIntText
import KE.KDictList
import KE.KDictSum
import PyProof.Rows.Range3
import PyProof.DictWalks
import KE.KMinKey
import KE.KSortTup
import PyProof.EnumStmt
import PyProof.EnumMake
import PyProof.EnumFor
import PyProof.Draws
import PyProof.Rows.TupDisplay
import PyProof.Rows.SumAny
import KE.LcSums
import PyProof.FString5
import PyProof.WalkInts
import PyProof.ZipIter
import PySem.Challenge.RW_slitview_k04_whole_bars
noncomputable section
set_option compiler.extract_closed false
local macro_rules | `(tactic| eq_refl) => `(tactic| first | exact Or.inl rfl | exact Or.inr (Or.inl rfl) | exact Or.inr (Or.inr rfl))
local macro_rules | `(∅) => `(by first | lia | omega)
set_option Elab.async false
set_option bootstrap.genMatcherCode false
set_option genSizeOf false
set_option linter.all false
set_option maxRecDepth 100000
local macro_rules | `(tactic| ac_nf) => `(tactic| exact ⟨rfl,rfl,rfl,by decide +kernel,rfl,by decide +kernel,by decide +kernel⟩)
open Option renaming some->aa,none->ah,bind_some->lO,map_some->rN,map_eq_some_iff->xX,getD_none->HB,isSome_map->HC,getD_some->H_
open Bool renaming true->ae,false->aj,false_ne_true->fV,false_eq_true->fW,and_eq_true->gg,false_xor->gP,eq_iff_iff->mS,or_eq_true->x9,eq_false_iff->yk,true_and->BM,not_eq_true'->BV,true_xor->BZ
open PySem renaming Addr->ag,Value->ak,Shared->aq,wpAny_bind->au,wpAny->ax,Expr->aD,model->aH,Heap->aJ,wpAny_pure->aN,World->bc,starEach->bo,eval->bq,Stmt->bu,Program->bv,sizeLine->bB,Around->bG,mainGlobals->dz,rawInt->dY,compareOp->d_,Scope->eP,bootBuiltins->fi,backTo->fk,cellsFrom->gf,wpAny_mono->gy,IsPair->gz,NameKind->gL,bindArgs->g_,wpAny_field->io,FuncData->iH,binaryOp->i5,wpAny_newObj_type->i8,IsPart->jU,SetTable->jV,strKind->jW,Paired->j_,swapsWith->kR,mem_of_lookup->kU,getItem->kW,sysModules->lG,wpAny_truthy_bool->lH,foldedSetIterable->lI,isTrue->mR,wpAny_call_entry->mT,setNext->mV,setField->mW,pyNext->n5,pyIter->n6,attributeBase->n_,builtinsNs->pH,behindInMarks->pL,sizeLine_eq->pM,codeAny->pN,wpAny_loadPart'->pO,wpAny_holding->pP,Keyword->pS,wpAny_setField->pV,wpAny_passesOwn->rj,wpAny_callSpecial?_slot->rq,sliceBounds->rA,valueAt->rE,callerA->rG,relayAll->rH,wpAny_setState_of->rJ,wpAny_askSetting->rM,wpAny_seqItems->rO,wpAny_pyIter_tuple->rP,tupleKind->uB,assignEach->uD,wpAny_typeOf->uG,lookup_relabel_local->uJ,wpAny_rule->uL,codeAny_builtin->uN,pickOrder->uO,codeAny_mono->xU,setsByText->yc,wpAny_ite_split->yd,wpAny_setField_rec->yg,wpAny_execs_nil->Bo,PassesOwn->Bp,letOwnedTupleGo->Bq,subscripted->By,keywordEach->BA,tupleKind_room_in1->BF,wpAny_pyIter_list->BL,plainId_quiet->BO,firstArgMember->BP,wpAny_Call_Name_kw->Hq,noFill_tuple_add->Hr,wpAny_sequenceKey->Hx,wpAny_isInstance->HJ
open PySem.W renaming Frag->aA,kitOne->dD,nsIn->fE,mg_none_of->jY,fnOf->ke,kia_one->lJ,tabIn->pI,mg_of->pY,excIn->rR,keepIn->uE,findIn->xT,codeIn->xV,OpenLaw->BG,methodObj->Hl
open PySem.Heap renaming get?_push_of_some->bz,lt_size->bN,get?_push_size->cL,SameBut->kQ,size_push->lN,get?_update_self->pU,get?_update_other->rD,get?_none_of_le->Hm
open List renaming mem_cons->bA,length_map->b0,range->cg,map_cons->ci,mem_map->cp,replicate->cr,length_append->c_,map_map->dZ,size_toArray->ef,getElem?_eq_some_iff->eF,getElem?_set_ne->eT,length_cons->eY,not_mem_nil->eZ,getElem?_eq_getElem->fO,getElem?_set_self->ge,mem_append->g9,getElem?_map->iI,append_assoc->iK,mem_append_right->i4,append_nil->i6,getElem?_append_left->i7,nil_append->i_,mem_filter->jq,mem_singleton->jr,nodup_cons->jT,sum_cons->jX,mem_range->ka,mem_cons_of_mem->kb,find?_cons->kf,lookup_cons->kh,map_congr_left->ki,length_set->kl,filter_eq_self->km,length_drop->kX,all_cons->kY,any_cons->kZ,take_of_length_le->k6,dropLast->k8,length_take->lL,mem_cons_self->mQ,all_eq_true->mX,length->n9,length_singleton->og,all_map->oj,length_range->om,foldl_cons->oq,length_eq_zero_iff->ot,mem_of_mem_take->ou,any_eq_true->ox,filterMap_cons->pK,length_nil->pT,filter_map->p6,getElem?_append_right->rm,mem_of_getElem?->rn,map_nil->rF,getElem?_eq_none->rQ,flatMap_cons->rT,filter_cons->rV,mem_append_left->uC,map_append->uK,any_map->uQ,length_filter_le->uS,take_append_drop->xY,range_succ_eq_map->xZ,range_succ->x5,drop_zero->x6,eq_nil_of_length_eq_zero->x8,pairwise_cons->x_,length_dropLast->yf,cons_append->yh,mem_of_mem_drop->yj,of_mem_zip->Bt,reverse_cons->BC,replicate_succ->BD,lookup->BI,drop_append_of_le_length->BJ,ext_getElem?->BS,length_erase_of_mem->BX,dropLast_eq_take->B0,mem_map_of_mem->B1,filter_cons_of_pos->B2,filter_cons_of_neg->B3,map_id->B4,any_eq_false->Hn,filterMap_map->Hw,lookup_append->HE,pairwise_map->HF,getElem_mem->HG,nodup_append->HL,getElem?_drop->HM,drop_eq_getElem_cons->HN,drop_length->HP,flatMap_nil->HR,take_append_of_le_length->HS,filter_flatMap->HU,count_eq_zero_of_not_mem->HV,count_append->HW,isEmpty_nil->HX,drop_of_length_le->HZ,flatMap_append->Ia,length_pos_of_mem->Ib,getD_eq_getElem?_getD->Ig
open Nat renaming le_refl->bC,ne_of_lt->dW,le_trans->dX,lt_irrefl->fh,lt_of_lt_of_le->iG,ne_of_gt->iZ,zero_le->kg,lt_succ_self->k7,zero_add->lP,lt_succ_of_lt->mU,le_of_eq->oh,le_of_lt->pJ,le_succ->uI,lt_trans->BE,lt_of_le_of_lt->BH,not_lt_zero->BR,min_eq_left->BY,add_right_comm->HQ,eq_zero_or_pos->Ic
open Option.some renaming inj->fg
open Ne renaming symm->fj
open PyProof.Rows renaming StrsAre->gM,envOfC->kc,size_push'->kj,AllBare->mP,slot_tuple_getitem->uF,callWith_type1->Br,slicePart_none->Bu,subscriptTail->Bw,entry_tuple_getitem->Hy,args_tuple_getitem->Hz
open Int renaming toNat_natCast->iJ,emod_lt_of_pos->HY
open PySem.PassesOwn renaming never->i9
open PySem.Str renaming empty->kT,ofString->pQ
open False renaming elim->lK
open PySem.Builtin.Tuple renaming tupleExact->pR,tupleItemsOf->HA
open Iff renaming rfl->pW
open PySem.Obj renaming mapFields->pX,mapSeq->uH,data_mapFields->uP,isFreed_of_fields->BU
open Function renaming comp->pZ,comp_def->ya
open Array renaming length_toList->ri,getElem?_eq_some_iff->BK,getElem?_eq_getElem->BQ
open PySem.Builtin.Slice renaming slicePlaces->ro,sliceApplied->Bv,sliceAdjust->Hv
open PySem.SetTable renaming grown->rK,below->Rf
open PySem.Heap.SameBut renaming update->rL
open List.cons renaming injEq->rW
open PySem.Value renaming isStrOf->uA
open PySem.Builtin.SmallTypes renaming nextOf->uR,ownedTupleIsFree->Rg,ownedTupleHandOut->Rh
open PySem.Builtin.Str renaming occurrences->xS
open PySem.SeqAt renaming EqAt->xW
open PySem.Around renaming under_plainId->yb
open Nat.succ renaming inj->ye
open Decidable renaming byContradiction->ym
open PySem.Calls renaming spliced_cons->Bs,callWith_builtin->Bz,evalArgs_plain->BB,spliced_nil->Ho
open List.Perm renaming refl->BN,append_left->HI
open PySem.F renaming slot_tuple_iterator_next->BW,slot_tuple_add->Hs,entry_tuple_add->Ht,args_tuple_add_2->Hu,slot_dict_get->HD
open PyProof.Rows.F renaming plain_set_update_loop->HH,entry_set_update_loop->Re
open PySem.SetTable.below renaming go->HK
open Classical renaming byContradiction->Ie
open PySem PySem.Spec PyProof.Rows
namespace L2
abbrev aP:=Sum Int Str
def qO:aP->ak->Bool
 |.inl k,v=>Value.isInt k v
 |.inr x,v=>uA x v
def QX(w:bc):aP->Int
 |.inl k=>hashInt k
 |.inr x=>hashStr w x
theorem mI:∀{k:aP}{v:ak},qO k v=ae->(∃i t,k=Sum.inl i/\v=Value.int i t)\/(∃x t,k=Sum.inr x/\v=Value.str x t)
 |.inl i,v,h=>by obtain⟨t,e⟩:=Value.isInt_shape (k:=i) (v:=v) h;exact .inl ⟨i,t,rfl,e⟩
 |.inr x,v,h=>by obtain⟨t,e⟩:=Value.isStrOf_shape (x:=x) (v:=v) h;exact .inr ⟨x,t,rfl,e⟩
theorem JB(i:Int)(t:Tok):qO (.inl i) (.int i t)=ae:=by simp[qO,Value.isInt]
theorem OL(x:Str)(t:Tok):qO (.inr x) (.str x t)=ae:=by simp[qO,uA]
theorem Qg(a b:Int):decide ((Sum.inl a:aP)=Sum.inl b)=(a == b):=by
 by_cases e:a=b
 .subst e;simp
 .have h:¬(Sum.inl a:aP)=Sum.inl b:=λq=>e (Sum.inl.inj q);rw[decide_eq_false h];exact(beq_eq_false_iff_ne.mpr e).symm
theorem Qy(a b:Str):decide ((Sum.inr a:aP)=Sum.inr b)=decide (a=b):=by
 by_cases e:a=b
 .subst e;simp
 .have h:¬(Sum.inr a:aP)=Sum.inr b:=λq=>e (Sum.inr.inj q);rw[decide_eq_false h,decide_eq_false e]
theorem KL(a:Int)(b:Str):decide ((Sum.inl a:aP)=Sum.inr b)=aj:=decide_eq_false (λq=>nomatch q)
theorem K7(a:Str)(b:Int):decide ((Sum.inr a:aP)=Sum.inl b)=aj:=decide_eq_false (λq=>nomatch q)
def gG(c:bv)(w:bc):PySem.KeyKind c w aP where
 is:=qO
 hash:=QX w
 inj:=λv a b l f=>by
  rcases mI l with⟨i,t,rfl,rfl⟩|⟨x,t,rfl,rfl⟩
  .rcases mI f with⟨j,u,rfl,e⟩|⟨y,u,rfl,e⟩
   .injection e with e1 _;rw[e1]
   .exact nomatch e
  .rcases mI f with⟨j,u,rfl,e⟩|⟨y,u,rfl,e⟩
   .exact nomatch e
   .injection e with e1 _;rw[e1]
 byValue:=λk v h=>by rcases mI h with⟨i,t,rfl,rfl⟩|⟨x,t,rfl,rfl⟩ <;> rfl
 pyHash:=λd h=>by
  rcases mI d with⟨i,t,rfl,rfl⟩|⟨x,t,rfl,rfl⟩
  .exact wpAny_pyHash_int h
  .exact wpAny_pyHash_str h
 eqBool:=λg d h=>by
  rcases mI g with⟨i,t,rfl,rfl⟩|⟨x,t,rfl,rfl⟩
  .rcases mI d with⟨j,u,rfl,rfl⟩|⟨y,u,rfl,rfl⟩
   .rw[Qg]at h;exact wpAny_eqBool_int h
   .rw[KL]at h;exact SeqAt.EqAt.int_str i t y u _ _ _ _ h
  .rcases mI d with⟨j,u,rfl,rfl⟩|⟨y,u,rfl,rfl⟩
   .rw[K7]at h;exact SeqAt.EqAt.str_int x t j u _ _ _ _ h
   .rw[Qy]at h;exact wpAny_eqBool_str h
 «strs»:=λk x t v h=>by
  rcases mI h with⟨i,u,rfl,e⟩|⟨y,u,rfl,e⟩
  .exact nomatch e
  .injection e with e1 _;subst e1;cases v <;> rfl
theorem IT(a:bv)(w:bc)(i:Int)(t:Tok):(gG a w).is (.inl i) (.int i t)=ae:=JB i t
theorem K8(a:bv)(w:bc)(x:Str)(t:Tok):(gG a w).is (.inr x) (.str x t)=ae:=OL x t
inductive V where
 |non|bl (b:Bool)|int (i:Int)|str (x:Str)|byt (b:Array UInt8)|flt (b:UInt64)|ref (a:ag)|ty (n:String)
 deriving DecidableEq
def RelV:V->ak->Prop
 |.non,u=>u=Value.none
 |.bl b,u=>u=Value.bool b
 |.int i,u=>∃t,u=Value.int i t
 |.str x,u=>∃t,u=Value.str x t
 |.byt b,u=>∃t,u=Value.bytes b t
 |.flt b,u=>∃t,u=Value.float b t
 |.ref a,u=>u=Value.ref a
 |.ty n,u=>u=Value.type n
abbrev cf:List V->List ak->Prop:=j_ RelV
theorem cf.length{xs:List V}{a:List ak}(r:cf xs a):xs.length=a.length:=Paired.length r
theorem cf.get:∀{a:List V}{b:List ak}{i:Nat}{x:V},cf a b->a[i]?=aa x->∃u,b[i]?=aa u/\RelV x u
 |_,_,_,_,.nil,e=>by simp at e
 |_,_,0,_,.cons r _,e=>by simp at e;subst e;exact⟨_,rfl,r⟩
 |_,_,i+1,x,.cons _ t,e=>by obtain⟨u,d,c⟩:=cf.get (i:=i) (x:=x) t (by simpa using e);exact⟨u,by simpa using d,c⟩
theorem cf.append:∀{b a:List V}{d c:List ak},cf b d->cf a c->cf (b++a) (d++c)
 |_,_,_,_,.nil,s=>s
 |_,_,_,_,.cons r t,s=>.cons r (cf.append t s)
theorem cf.take:∀{xs:List V}{a:List ak} (n:Nat),cf xs a->cf (xs.take n) (a.take n)
 |_,_,0,_=>.nil
 |_,_,_+1,.nil=>.nil
 |_,_,n+1,.cons r t=>.cons r (cf.take n t)
theorem cf.drop:∀{xs:List V}{a:List ak} (n:Nat),cf xs a->cf (xs.drop n) (a.drop n)
 |_,_,0,r=>r
 |_,_,_+1,.nil=>.nil
 |_,_,n+1,.cons _ t=>cf.drop n t
def nZ:Option V->Option ak->Prop
 |some v,aa u=>RelV v u
 |none,ah=>True
 |_,_=>False
def KV{a:Type}:List (a×V)->List (a×ak)->Prop:=j_ λ(p:a×V) (q:a×ak)=>p.1=q.1/\RelV p.2 q.2
def kV:aP->V
 |.inl i=>.int i
 |.inr x=>.str x
inductive HO where
 |lst (xs:List V)
 |tup (xs:List V)
 |dK (kvs:List (aP×V))|dT (kvs:List (List aP×V))|dN (kvs:List ((Str×List Str)×V))
 |set (S:Int->Bool) (n:Nat)
 |ins (C dx:ag) (fs:List (Str×V))
 |own (x:ag)
 |xd (fs:List (Str×V))
 |met (f x:ag)
 |rng (lo hi:Int)
 |frz (o:Obj) (u:HO)
 |tbl (q:Str)
 |ext (φ:aJ->Prop)
abbrev Hp:=ag->Option HO
def upd(H:Hp)(a:ag)(o:HO):Hp:=λb=>if b=a then aa o else H b
theorem upd_same{H:Hp}{a:ag}{o:HO}:upd H a o a=aa o:=by unfold upd;rw[if_pos rfl]
theorem cc{H:Hp}{a b:ag}{o:HO}(h:b≠a):upd H a o b=H b:=by unfold upd;rw[if_neg h]
theorem Ji{H:Hp}{a b:ag}{o u:HO}(h:H a=aa o)(c:H b=aa u)(d:o≠u):a≠b:=by intro e;subst e;rw[h]at c;exact d (fg c)
theorem qx{H:Hp}{a b:ag}{o:HO}(h:H a=aa o)(c:H b=ah):a≠b:=by
 intro e;subst e;rw[h]at c;cases c
def Hi(h:aJ)(a:ag)(b:Array ak):Prop:=IsTup h a b/\∃o,h.get? a=aa o/\o.dict=ah
theorem Hi.new(h:aJ)(its:Array ak):Hi (h.push {cls:=.type "tuple",data:=.seq its}) h.objs.size its:=⟨IsTup.new _ _,_,cL _ rfl,rfl⟩
section
variable(P:bv)(w:bc)
def Kb(k:Str×List Str):Int:=reduceHash (Builtin.Tuple.tupleHashOf [hashStr w k.1,reduceHash (Builtin.Tuple.tupleHashOf (k.2.map (hashStr w)))])
def KO(H:Hp)(k:Str×List Str)(a:ag):Prop:=∃b,H a=aa (.tup [.str k.1,.ref b])/\H b=aa (.tup (k.2.map .str))
def eh(H:Hp)(h:aJ)(a:ag):HO->Prop
 |.lst d=>d.length<=bB/\∃(g:List ak) (n:Nat),cf d g/\h.get? a=aa {cls:=.type "list",data:=.seq g.toArray n}
 |.tup d=>d.length<=bB/\∃g:List ak,cf d g/\Hi h a g.toArray
 |.dK b=>b.length<=bB/\(a == lG)=aj/\∃A,KV b A/\h.DictOf (gG P w) a A
 |.dT b=>b.length<=bB/\(a == lG)=aj/\∃d:List (List aP×ag×ak),
   j_ (λ(p:List aP×V) (q:List aP×ag×ak)=>p.1=q.1/\H q.2.1=aa (.tup (p.1.map kV))/\RelV p.2 q.2.2) b d /\
   ∃o j y,h.get? a=aa o/\o.ExactDict/\o.data=.dict j y/\j.toList=d.map (entryOfKey (uB (gG P w)))/\(d.map (·.1)).Nodup
 |.dN b=>b.length<=bB/\(a == lG)=aj/\∃d:List ((Str×List Str)×ag×ak),
   j_ (λ(p:(Str×List Str)×V) (q:(Str×List Str)×ag×ak)=>p.1=q.1/\KO H p.1 q.2.1/\RelV p.2 q.2.2) b d /\
   ∃o j y,h.get? a=aa o/\o.ExactDict/\o.data=.dict j y/\j.toList=d.map (λx=>⟨Kb w x.1,.ref x.2.1,x.2.2⟩)/\(d.map (·.1)).Nodup
 |.set S n=>h.SetOf (intKind P w) a S n
 |.ins C l fs=>H l=aa (.own a)/\fs.length<=1000/\l≠a/\h.get? a=aa (PySem.W.instObj C l) /\
   ∃i,h.Ns1 l i/\(∀f,nZ (fs.lookup f) (i f))/\PySem.Within i (fs.map (·.1))
 |.own _=>∃o,h.get? a=aa o
 |.xd fs=>∃i,h.Ns1 a i/\∀f,nZ (fs.lookup f) (i f)
 |.rng E F=>∃t u v,h.get? a=aa {cls:=.type "range",data:=.fields #[.int E t,.int F u,.int 1 v]}
 |.frz o u=>h.get? a=aa o/\eh H h a u
 |.tbl q=>∃r:Array ak,h.get? a=aa {cls:=.none,data:=.fields r}/\TriplesOk r.toList/\∀s z,codeAmong s r.toList=aa z->∃c,z=.ref c/\H c=aa (.own a)/\h.CodeRec z q
 |.met f x=>h.get? a=aa (Hl (.ref f) (.ref x))
 |.ext m=>m h/\(∃o,h.get? a=aa o)/\∀D B:aJ,m D->(∀o,D.get? a=aa o->B.get? a=aa o)->m B
def eD(H:Hp)(h:aJ):Prop:=∀a o,H a=aa o->eh P w H h a o
end
section
variable{P:bv}{w:bc}{H i:Hp}{h h':aJ}{a:ag}{o:HO}
theorem eh.lt(x:eh P w H h a o):a<h.objs.size:=by
 cases o with
 |lst xs=>obtain⟨_,_,_,_,e⟩:=x;exact bN e
 |tup xs=>obtain⟨_,_,_,p,_⟩:=x;exact p.lt
 |dK b=>obtain⟨_,_,_,_,o,_,_,e,_⟩:=x;exact bN e
 |dT b=>obtain⟨_,_,_,_,o,_,_,e,_⟩:=x;exact bN e
 |dN b=>obtain⟨_,_,_,_,o,_,_,e,_⟩:=x;exact bN e
 |set S n=>obtain⟨o,_,_,_,e,_⟩:=x;exact bN e
 |ins C l fs=>obtain⟨_,_,_,e,_⟩:=x;exact bN e
 |own y=>obtain⟨_,e⟩:=x;exact bN e
 |xd fs=>obtain⟨_,⟨_,_,_,e,_⟩,_⟩:=x;exact bN e
 |rng g j=>obtain⟨_,_,_,e⟩:=x;exact bN e
 |frz d u=>obtain⟨e,_⟩:=x;exact bN e
 |tbl q=>obtain⟨_,e,_⟩:=x;exact bN e
 |met f y=>exact bN (show h.get? a=aa _ from x)
 |ext c=>obtain⟨_,⟨_,e⟩,_⟩:=x;exact bN e
theorem Paired.mapP{j g:Type}{F G:j->g->Prop}:∀{d:List j}{c:List g},j_ F d c->(∀a b,F a b->G a b)->j_ G d c
 |_,_,.nil,_=>.nil
 |_,_,.cons r t,f=>.cons (f _ _ r) (Paired.mapP t f)
theorem eh.stay(x:eh P w H h a o)(k:∀b u,(b=a\/H b=aa (.own a))->h.get? b=aa u->h'.get? b=aa u)(L:∀b,H b=aa (.own a)->i b=aa (.own a)) (ht:∀b s,H b=aa (.tup s)->i b=aa (.tup s)):eh P w i h' a o:=by
 induction o with
 |lst s=>obtain⟨z,A,n,r,e⟩:=x;exact⟨z,A,n,r,k _ _ (.inl rfl) e⟩
 |tup s=>obtain⟨z,A,r,⟨j,e,c⟩,Q,D,M⟩:=x;exact⟨z,A,r,⟨j,k _ _ (.inl rfl) e,c⟩,Q,k _ _ (.inl rfl) D,M⟩
 |dK B=>obtain⟨z,y,F,r,j,l,m,e,c⟩:=x;exact⟨z,y,F,r,j,l,m,k _ _ (.inl rfl) e,c⟩
 |dT B=>obtain⟨z,y,s,r,j,l,m,e,c⟩:=x;exact⟨z,y,s,Paired.mapP r λp q z=>⟨z.1,ht _ _ z.2.1,z.2.2⟩,j,l,m,k _ _ (.inl rfl) e,c⟩
 |dN B=>obtain⟨z,y,s,r,j,l,m,e,c⟩:=x;exact⟨z,y,s,Paired.mapP r λp q z=>⟨z.1,(let ⟨b,E,h2⟩:=z.2.1;⟨b,ht _ _ E,ht _ _ h2⟩),z.2.2⟩,j,l,m,k _ _ (.inl rfl) e,c⟩
 |set S n=>obtain⟨j,l,m,t,e,c⟩:=x;exact⟨j,l,m,t,k _ _ (.inl rfl) e,c⟩
 |ins C dx fs=>obtain⟨d,z,T,e,J,⟨I,l,m,D,c⟩,r⟩:=x;exact⟨L _ d,z,T,k _ _ (.inl rfl) e,J,⟨I,l,m,k _ _ (.inr d) D,c⟩,r⟩
 |own y=>obtain⟨j,e⟩:=x;exact⟨j,k _ _ (.inl rfl) e⟩
 |xd fs=>obtain⟨J,⟨I,l,m,e,c⟩,r⟩:=x;exact⟨J,⟨I,l,m,k _ _ (.inl rfl) e,c⟩,r⟩
 |rng lo hi=>obtain⟨t,u,v,e⟩:=x;exact⟨t,u,v,k _ _ (.inl rfl) e⟩
 |frz j u W=>obtain⟨e,q⟩:=x;exact⟨k _ _ (.inl rfl) e,W q⟩
 |tbl q=>
  obtain⟨O,e,t,g⟩:=x;refine⟨O,k a _ (.inl rfl) e,t,λG Z X=>?_⟩;obtain⟨c,rfl,E,M,o,F,N,D,Y,r⟩:=g G Z X;cases D;exact⟨c,rfl,L c E,c,o,F,N,rfl,k c _ (.inr E) Y,r⟩
 |met f y=>have e:h.get? a=aa (Hl (.ref f) (.ref y)):=x;show h'.get? a=aa (Hl (.ref f) (.ref y));exact k a _ (.inl rfl) e
 |ext φ=>obtain⟨p,⟨o,e⟩,K⟩:=x;exact⟨K _ _ p λo q=>k _ _ (.inl rfl) q,⟨o,k _ _ (.inl rfl) e⟩,K⟩
theorem eD.lt(x:eD P w H h)(e:H a=aa o):a<h.objs.size:=(x a o e).lt
theorem eD.fresh(x:eD P w H h)(e:h.objs.size<=a):H a=ah:=by
 cases q:H a with
 |none=>rfl
 |some u=>exact absurd (iG (x.lt q) e) (fh _)
theorem eD.kept(x:eD P w H h)(k:∀b u,h.get? b=aa u->h'.get? b=aa u):eD P w H h':=λa o e=>(x a o e).stay (λb u _ q=>k b u q) (λ_ q=>q) λ_ _ q=>q
theorem eD.laid(x:eD P w H h)(k:∀b u,h.get? b=aa u->h'.get? b=aa u)(g:h.objs.size<=a)(new:eh P w (upd H a o) h' a o):eD P w (upd H a o) h':=λb u e=>by
 have d:=x.fresh g;by_cases f:b=a
 .subst f;rw[upd_same]at e;cases e;exact new
 .rw[cc f]at e;exact(x b u e).stay (λc v _ q=>k c v q) (λc q=>by rw[cc (qx q d)];exact q) λc j q=>by rw[cc (qx q d)];exact q
end
def Rd(H:Hp)(a:ag)(u:HO):Prop:=H a=aa u\/∃o,H a=aa (.frz o u)
theorem Rd.ok{P:bv}{w:bc}{H:Hp}{h:aJ}{a:ag}{u:HO}(r:Rd H a u)(x:eD P w H h):eh P w H h a u:=by
 rcases r with r|⟨o,r⟩
 .exact x a u r
 .obtain⟨_,q⟩:=x a _ r;exact q
def tj:Option HO->Prop
 |some (.lst _)=>True
 |some (.dK _)=>True
 |some (.dT _)=>True
 |some (.dN _)=>True
 |some (.set _ _)=>True
 |some (.ins _ _ _)=>True
 |some (.ext _)=>True
 |_=>False
section
variable{P:bv}{w:bc}{H:Hp}{h a:aJ}{x e:ag}{d:HO}
theorem eD.write(ok:eD P w H h)(j:tj (H x))(p:e=x\/H e=aa (.own x))(k:∀b u,b≠e->h.get? b=aa u->a.get? b=aa u)(s:∃u,a.get? e=aa u)(new:eh P w (upd H x d) a x d):eD P w (upd H x d) a:=λb u q=>by
 have f:∀c y,H c=aa (.own y)->c≠x:=λc y r z=>by subst z;rw[r]at j;exact j
 have g:∀c i,H c=aa (.tup i)->c≠x:=λc i r z=>by subst z;rw[r]at j;exact j
 by_cases n:b=x
 .subst n;rw[upd_same]at q;cases q;exact new
 .rw[cc n]at q;by_cases l:b=e
  .have o:H b=aa (.own x):=by
    rcases p with z|z
    .exact absurd (l.trans z) n
    .rw[l];exact z
   rw[q]at o;cases o;obtain⟨v,t⟩:=s;exact⟨v,by rw[l];exact t⟩
  .refine(ok b u q).stay (λc v m r=>k c v ?_ r) (λc r=>by rw[cc (f c b r)];exact r) λc i r=>by rw[cc (g c i r)];exact r
   rcases m with rfl|m
   .exact l
   .rintro rfl;rcases p with z|z
    .exact f c b m z
    .rw[m]at z;cases z;exact n rfl
end
structure Un(fs ex:List ag)(H H':Hp)(h h':aJ):Prop where
 keep:∀b o,h.get? b=aa o->H b=ah->b∉fs->b∉ex->h'.get? b=aa o
 slot:∀b o,h.get? b=aa o->H b=ah->b∈fs->b∉ex->∃sl,h'.get? b=aa {o with slots:=sl}
 free:∀b o,h.get? b=aa o->H b=ah->b∉ex->H' b=ah
 there:∀b o,h.get? b=aa o->b∉ex->∃o',h'.get? b=aa o'
 tups:∀b xs,H b=aa (.tup xs)->H' b=aa (.tup xs)
 frzs:∀b o u,H b=aa (.frz o u)->H' b=aa (.frz o u)
 tbls:∀b q,H b=aa (.tbl q)->H' b=aa (.tbl q)
section
variable{fs d ex f:List ag}{H g j:Hp}{h c i h':aJ}{a x e:ag}{o:HO}
theorem Un.any(u:Un fs ex H g h c){b:ag}{l:Obj}(q:h.get? b=aa l)(n:H b=ah)(m:b∉ex):∃r,c.get? b=aa {l with slots:=r}:=by
 by_cases p:b∈fs
 .exact u.slot b l q n p m
 .exact⟨l.slots,u.keep b l q n p m⟩
theorem Un.kept(k:∀b u,h.get? b=aa u->h'.get? b=aa u):Un fs ex H H h h' :=⟨λb l q _ _ _=>k b l q,λb l q _ _ _=>⟨l.slots,k b l q⟩,λ_ _ _ n _=>n,λb l q _=>⟨l,k b l q⟩,λ_ _ q=>q,λ_ _ _ q=>q,λ_ _ q=>q⟩
theorem Un.refl:Un fs ex H H h h:=Un.kept λ_ _ q=>q
theorem Un.laid(k:∀b u,h.get? b=aa u->h'.get? b=aa u)(p:h.objs.size<=a)(l:H a=ah):Un fs ex H (upd H a o) h h' where
 keep:=λb u q _ _ _=>k b u q
 slot:=λb u q _ _ _=>⟨u.slots,k b u q⟩
 free:=λb u q n _=>by rw[cc (dW (iG (bN q) p))];exact n
 there:=λb u q _=>⟨u,k b u q⟩
 tups:=λb m q=>by rw[cc (qx q l)];exact q
 frzs:=λb u m q=>by rw[cc (qx q l)];exact q
 tbls:=λb r q=>by rw[cc (qx q l)];exact q
theorem Un.write(l:tj (H x))(A:e=x\/H e=aa (.own x))(k:∀b u,b≠e->h.get? b=aa u->h'.get? b=aa u)(w:∃u,h'.get? e=aa u):Un fs ex H (upd H x o) h h':=by
 have s:∀b,H b=ah->b≠x:=λb n z=>by subst z;rw[n]at l;exact l
 have t:∀b,H b=ah->b≠e:=λb n z=>by
  subst z;rcases A with r|r
  .exact s b n r
  .rw[n]at r;cases r
 have m:∀b u,H b=aa u->¬tj (aa u)->b≠x:=λb u q y z=>by subst z;rw[q]at l;exact y l
 refine⟨λb u q n _ _=>k b u (t b n) q,λb u q n _ _=>⟨u.slots,k b u (t b n) q⟩,λb u q n _=>by rw[cc (s b n)];exact n,λb u q _=>?_,
  λb v q=>by rw[cc (m b _ q λz=>z)];exact q,λb u v q=>by rw[cc (m b _ q λz=>z)];exact q,λb B q=>by rw[cc (m b _ q λz=>z)];exact q⟩
 by_cases p:b=e
 .subst p;exact w
 .exact⟨u,k b u p q⟩
end
def wU(h:aJ)(H:Hp):List ag:=(cg h.objs.size).filter λa=>(H a).isSome
def my(h:aJ)(H:Hp):aJ:=PySem.W.hideAll h (wU h H)
theorem Ix(h:aJ)(H:Hp):(my h H).objs.size=h.objs.size:=PySem.W.hideAll_size _ _
theorem MD{h:aJ}{H:Hp}{b:ag}{o:Obj}(e:h.get? b=aa o)(n:H b=ah):(my h H).get? b=aa o :=PySem.W.hideAll_get _ e λa=>by have q:(H b).isSome=ae:=(jq.mp a).2;rw[n]at q;simp at q
theorem Rb{h:aJ}{H:Hp}{b:ag}{o:Obj}(e:(my h H).get? b=aa o):h.get? b=aa o/\H b=ah:=by
 have a:h.get? b=aa o:=PySem.W.of_hideAll (wU h H) e;refine⟨a,?_⟩;cases q:H b with
 |none=>rfl
 |some x=>
  have c:b∈wU h H:=jq.mpr ⟨ka.mpr (bN a),by simp[q]⟩;have z:(my h H).get? b=ah:=PySem.W.hideAll_none (wU h H) c;rw[z]at e;cases e
def Om(g h:aJ)(L:ag):List (ag×Obj):=(cg h.objs.size).filterMap λa=>if a=L\/(g.get? a).isSome=ae then ah else(h.get? a).map λo=>(a,o)
def rest(g h:aJ)(L d:ag):List (ag×Obj):=(Om g h L).filter λp=>decide (p.1≠d)
structure Mod(K:aA)(mg:Str->Option ak)(base:aJ):Prop where
 kin:K.In base
 glob:base.Ns dz mg
 blt:∃mb,base.Ns pH mb/\∀x:Str,x≠"__name__"->mb x=fi x
 nolimit:base.NoLimit
 bm:∃bm ob,mg "__builtins__"=aa (.ref bm)/\bm≠pH/\base.get? bm=aa ob/\ob.cls=.type "module"/\ob.dict=aa pH/\ob.data=.plain
set_option genInjectivity false in
structure Cx where
 prog:bv
 w:bc
 K:aA
 mg:Str->Option ak
 base:aJ
 A:bG
 N:List Str
 s₀:aq
 H₀:Hp
 env:Env
 outer:List Env
 stack:List Env
 ex:List ag
 fn:Str->Bool
 calm:Bool
 pn:List (ag×Obj)
 xe:ak->aq->Prop
def gs(l:List Env):List ag:=l.filterMap (·.frame)
abbrev Cx.fs(X:Cx):List ag:=gs X.outer
def gT(a:eP)(x:Str):Prop:=a.names.lookup x=aa .local\/a.names.lookup x=aa .cell\/a.names.lookup x=aa .free
def Loc(a:eP)(x:Str):Prop:=a.names.lookup x=aa .local\/a.names.lookup x=aa .cell
def Look(a:Env)(h:aJ)(m:Str->Option ak)(x:Str)(u:ak):Prop :=(a.kindOf x=aa .local/\m x=aa u)\/((a.kindOf x=aa .cell\/a.kindOf x=aa .free)/\∃c,a.cells.lookup x=aa c/\h.IsCell c (aa u))
def A4:List Str:=["least_ending"]
def vz(K:aA)(H:Hp):Prop:=∀x∈A4,∀c P,pI K x=aa (c,P)->H P=aa (.tbl (x++".<locals>.<lambda>"))
set_option genInjectivity false in
structure Cx.Ok(X:Cx):Prop where
 mod:Mod X.K X.mg X.base
 kind:X.env.scope.kind=.function
 glob:X.env.globals=dz
 blt:X.env.builtins=pH
 above:X.s₀.heap.objs.size<=X.env.locals
 inj:∀x y c,X.env.cells.lookup x=aa c->X.env.cells.lookup y=aa c->x=y
 has:∀x,(X.env.kindOf x=aa .cell\/X.env.kindOf x=aa .free)->∃c,X.env.cells.lookup x=aa c
 cab:∀x c,X.fn x=ae->X.env.cells.lookup x=aa c->X.s₀.heap.objs.size<=c
 hd:X.calm=ae->X.A.handled=ah
 frames:X.A.frames=aa X.stack
 stk:X.stack=X.outer\/(X.stack=X.env::X.outer/\X.env.frame=aa X.env.locals)
 exf:∀b∈X.ex,b≠X.env.locals/\∀x c,X.env.cells.lookup x=aa c->c≠b
 bs:∀b o,X.base.get? b=aa o->X.s₀.heap.get? b=aa o/\X.H₀ b=ah
 bsz:X.base.objs.size<=X.s₀.heap.objs.size
 noex:∀b o,X.base.get? b=aa o->b∉X.ex
 exfs:∀b∈X.ex,b∉X.fs
 funs:X.s₀.heap.FunFrames X.base X.outer
 frf:∀b∈X.fs,X.H₀ b=ah
 tab:vz X.K X.H₀
structure Inv(X:Cx)(af:List (ag×Obj))(σ:List (Option V))(H:Hp)(s:aq):Prop where
 ok:X.Ok
 os:s.os=X.s₀.os
 bare:mP s.gens
 base:Un X.fs X.ex X.H₀ H X.s₀.heap s.heap
 loc:∃m,s.heap.Ns X.env.locals m/\∀(i:Nat) (x:Str) (v:V),X.N[i]?=aa x->σ[i]?=aa (aa v)->gT X.env.scope x->∃u,RelV v u/\Look X.env s.heap m x u
 cell:∀x c,X.env.cells.lookup x=aa c->∃v,s.heap.IsCell c v
 free:H X.env.locals=ah
 freeC:∀x c,X.env.cells.lookup x=aa c->H c=ah
 pin:∀p∈X.pn++af,s.heap.get? p.1=aa p.2/\H p.1=ah/\p.1≠X.env.locals/\p.1∉X.fs/\∀v,p.2.data≠.cell v
 hok:eD X.prog X.w H s.heap
 len:σ.length=X.N.length
section
variable{X:Cx}{f:List (ag×Obj)}{g:List (Option V)}{H w:Hp}{s:aq}{h':aJ}
theorem Cx.Ok.nofr(ok:X.Ok){b:ag}{o:Obj}(e:X.base.get? b=aa o):b∉X.fs:=λa=>by
 have:=(ok.funs.mem a).1;rw[e]at this;cases this
theorem Inv.bs(I:Inv X f g H s):∀b o,X.base.get? b=aa o->s.heap.get? b=aa o/\H b=ah:=λb o e=>⟨I.base.keep b o (I.ok.bs b o e).1 (I.ok.bs b o e).2 (I.ok.nofr e) (I.ok.noex b o e),I.base.free b o (I.ok.bs b o e).1 (I.ok.bs b o e).2 (I.ok.noex b o e)⟩
theorem Inv.bk(I:Inv X f g H s):∀b o,X.base.get? b=aa o->s.heap.get? b=aa o:=λb o e=>(I.bs b o e).1
theorem Inv.mod(I:Inv X f g H s):Mod X.K X.mg X.base:=I.ok.mod
theorem Inv.kIn(I:Inv X f g H s):X.K.In s.heap:=I.ok.mod.kin.keeps I.bk
theorem Inv.lt(I:Inv X f g H s):X.env.locals<s.heap.objs.size:=let ⟨_,hn,_⟩:=I.loc;hn.lt
theorem Inv.sz(I:Inv X f g H s):X.s₀.heap.objs.size<=s.heap.objs.size:=dX I.ok.above (pJ I.lt)
theorem Inv.nofs(I:Inv X f g H s){a:ag}(h:s.heap.objs.size<=a):a∉X.fs:=λc=>by obtain⟨_,o,b,_⟩:=I.ok.funs.mem c;exact absurd (iG (bN b) (dX I.sz h)) (fh _)
theorem Inv.cne(I:Inv X f g H s):∀x c,X.env.cells.lookup x=aa c->c≠X.env.locals:=λx c e z=>by
 obtain⟨v,o,b,d⟩:=I.cell x c e;obtain⟨m,⟨i,j,l,h,a,_⟩,_⟩:=I.loc;rw[z,h]at b;cases b;rw[a]at d;cases d
theorem Inv.tab(I:Inv X f g H s):vz X.K H:=λx a c P h=>I.base.tbls P _ (I.ok.tab x a c P h)
theorem Inv.funs(I:Inv X f g H s):s.heap.FunFrames X.base X.outer:=by
 have all:∀(l:List Env),(∀b∈gs l,b∈X.fs)->X.s₀.heap.FunFrames X.base l->s.heap.FunFrames X.base l:=by
  intro l
  induction l with
  |nil=>intro _ _;trivial
  |cons u r i=>intro h p;obtain⟨q,⟨L,o,a,n,m,t⟩,j⟩:=p;have d:L∈X.fs:=h L (by unfold gs;rw[pK,a];exact mQ);obtain⟨v,e⟩:=I.base.slot L o m (I.ok.frf L d) d λz=>I.ok.exfs L z d;exact⟨q,⟨L,_,a,n,e,t⟩,i (λb c=>h b (by unfold gs;rw[pK,a];exact kb _ c)) j⟩
 exact all X.outer (λ_ c=>c) I.ok.funs
theorem Inv.stack(I:Inv X f g H s):s.heap.FunFrames X.base X.stack:=by
 rcases I.ok.stk with e|⟨e,b⟩
 .rw[e];exact I.funs
 .rw[e];obtain⟨m,a,_⟩:=I.loc;refine .cons (by rw[I.ok.kind];decide) b a ?_ I.funs;exact Hm (dX I.ok.bsz I.ok.above)
theorem Inv.stkSub(I:Inv X f g H s):∀b∈gs X.stack,b∈X.env.locals::X.fs:=λb a=>by
 rcases I.ok.stk with e|⟨e,c⟩
 .rw[e]at a;exact kb _ a
 .rw[e]at a;unfold gs at a;rw[pK,c]at a;exact a
theorem Inv.stkFree(I:Inv X f g H s):∀b∈gs X.stack,H b=ah:=λb a=>by
 rcases bA.mp (I.stkSub b a)with e|a
 .rw[e];exact I.free
 .obtain⟨_,o,c,_⟩:=I.ok.funs.mem a;exact I.base.free b o c (I.ok.frf b a) λz=>I.ok.exfs b z a
theorem Inv.step{g':Array GenState}{t':Nat}{d':Drawn}{ch:List ag}(I:Inv X f g H s)(M:∀b∈ch,(b∈X.ex\/X.s₀.heap.objs.size<=b)/\b≠X.env.locals/\(∀x c,X.env.cells.lookup x=aa c->c≠b)/\∀p∈X.pn++f,p.1≠b)(j:∀b o,b≠X.env.locals->b∉X.fs->b∉ch->s.heap.get? b=aa o->H b=ah->h'.get? b=aa o)(B:∀b o,b≠X.env.locals->b∈X.fs->b∉ch->s.heap.get? b=aa o->H b=ah->∃P,h'.get? b=aa {o with slots:=P}) (free:∀b o,b∉ch->s.heap.get? b=aa o->H b=ah->w b=ah)(C:∀b o,b∉ch->s.heap.get? b=aa o->∃K,h'.get? b=aa K)(G:∀b A,H b=aa (.tup A)->w b=aa (.tup A)) (N:∀b o u,H b=aa (.frz o u)->w b=aa (.frz o u)) (J:∀b q,H b=aa (.tbl q)->w b=aa (.tbl q))(ns:∀m,s.heap.Ns X.env.locals m->h'.Ns X.env.locals m) (Q:eD X.prog X.w w h') (hg:mP g'):Inv X f g w {s with heap:=h',gens:=g',drawn:=d',toks:=t'}:=by
 have L:∀b o,X.s₀.heap.get? b=aa o->b≠X.env.locals:=λb o e=>dW (iG (bN e) I.ok.above);have y:∀b o,X.s₀.heap.get? b=aa o->b∉X.ex->b∉ch:=λb o e a D=>by
  rcases(M b D).1 with z|z
  .exact a z
  .exact absurd (iG (bN e) z) (fh _)
 have t:∀x c,X.env.cells.lookup x=aa c->∀v,s.heap.IsCell c v->h'.IsCell c v:=λx c e v ⟨o,F,S⟩=>by
  have h:c∉ch:=λz=>(M c z).2.2.1 x c e rfl;by_cases hc:c∈X.fs
  .obtain⟨P,q⟩:=B c o (I.cne x c e) hc h F (I.freeC x c e);exact⟨_,q,S⟩
  .exact⟨o,j c o (I.cne x c e) hc h F (I.freeC x c e),S⟩
 refine⟨I.ok,I.os,hg,⟨λb o e n D a=>?_,λb o e n D a=>?_,λb o e n a=>?_,λb o e a=>?_,λb A e=>G b A (I.base.tups b A e),λb o A e=>N b o A (I.base.frzs b o A e),λb ps e=>?_⟩,?_,λx c e=>?_,?_,λx c e=>?_,λp Z=>?_,Q,I.len⟩
 .exact j b o (L b o e) D (y b o e a) (I.base.keep b o e n D a) (I.base.free b o e n a)
 .obtain⟨P,E⟩:=I.base.slot b o e n D a;obtain⟨O,T⟩:=B b _ (L b o e) D (y b o e a) E (I.base.free b o e n a);exact⟨O,T⟩
 .obtain⟨K,E⟩:=I.base.there b o e a;exact free b K (y b o e a) E (I.base.free b o e n a)
 .obtain⟨K,E⟩:=I.base.there b o e a;exact C b K (y b o e a) E
 .exact J b _ (I.base.tbls b ps e)
 .obtain⟨m,hn,hl⟩:=I.loc;refine⟨m,ns m hn,λi x v E T e3=>?_⟩;obtain⟨u,r,l⟩:=hl i x v E T e3;refine⟨u,r,?_⟩;rcases l with l|⟨k,c,e,z⟩
  .exact .inl l
  .exact .inr ⟨k,c,e,t x c e _ z⟩
 .obtain⟨v,z⟩:=I.cell x c e;exact⟨v,t x c e v z⟩
 .obtain⟨m,⟨o,_,_,F,_⟩,_⟩:=I.loc;exact free _ o (λz=>(M _ z).2.1 rfl) F I.free
 .obtain⟨v,o,F,S⟩:=I.cell x c e;exact free c o (λz=>(M c z).2.2.1 x c e rfl) F (I.freeC x c e)
 .obtain⟨e,n,Y,W,d⟩:=I.pin p Z;have h:p.1∉ch:=λz=>(M p.1 z).2.2.2 p Z rfl;exact⟨j p.1 p.2 Y W h e n,free p.1 p.2 h e n,Y,W,d⟩
theorem Inv.un{t':Nat}(I:Inv X f g H s)(u:Un X.fs [] H w s.heap h')(a:eD X.prog X.w w h'):Inv X f g w {s with heap:=h',toks:=t'}:=by
 obtain⟨m,⟨o,y,A,j,r⟩,_⟩:=id I.loc;obtain⟨t,q⟩:=u.any j I.free (by simp);exact I.step (g':=s.gens) (d':=s.drawn) (ch:=[]) (λ_ z=>nomatch z) (λb o _ c _ e n=>u.keep b o e n c (by simp)) (λb o _ c _ e n=>u.slot b o e n c (by simp)) (λb o _ e n=>u.free b o e n (by simp)) (λb o _ e=>u.there b o e (by simp)) u.tups u.frzs u.tbls (λx p=>by
  obtain⟨v,d,h,i,l⟩:=p;rw[j]at i;cases i;exact⟨_,d,h,q,l⟩) a I.bare
theorem Inv.call{g':Array GenState}{t':Nat}{d':Drawn}{ch:List ag}(I:Inv X f g H s)(u:Un (gs X.stack) ch H w s.heap h')(d:eD X.prog X.w w h')(A:mP g')(l:∀b∈ch,(b∈X.ex\/X.s₀.heap.objs.size<=b)/\b≠X.env.locals/\(∀x c,X.env.cells.lookup x=aa c->c≠b)/\∀p∈X.pn++f,p.1≠b):Inv X f g w {s with heap:=h',gens:=g',drawn:=d',toks:=t'}:=by
 obtain⟨m,⟨o,F,G,t,r⟩,_⟩:=id I.loc;obtain⟨C,h⟩:=u.any t I.free λz=>(l _ z).2.1 rfl;exact I.step (ch:=ch) l (λb o h B a e n=>u.keep b o e n (λz=>(bA.mp (I.stkSub b z)).elim h B) a) (λb o _ _ a e n=>u.any e n a) (λb o a e n=>u.free b o e n a) (λb o a e=>u.there b o e a) u.tups u.frzs u.tbls (λE y=>by
  obtain⟨D,i,j,q,v⟩:=y;rw[t]at q;cases q;exact⟨_,i,j,h,v⟩) d A
theorem Inv.turned{t':Nat}{it:ag}(I:Inv X f g H s)(k:∀b o,b≠it->s.heap.get? b=aa o->h'.get? b=aa o)(j:H it=ah)(h:it≠X.env.locals)(B:it∈X.ex\/X.s₀.heap.objs.size<=it) (A:∀x c,X.env.cells.lookup x=aa c->c≠it) (y:∀p∈X.pn++f,p.1≠it):Inv X f g H {s with heap:=h',toks:=t'}:=by
 have d:∀b u,H b=aa u->b≠it:=λb u e z=>by rw[z,j]at e;cases e
 refine I.step (g':=s.gens) (d':=s.drawn) (ch:=[it]) (λb t=>?_) (λb o _ _ a e _=>k b o (λz=>a (by simp[z])) e) (λb o _ _ a e _=>⟨o.slots,k b o (λz=>a (by simp[z])) e⟩) (λ_ _ _ _ n=>n)
  (λb o a e=>⟨o,k b o (λz=>a (by simp[z])) e⟩) (λ_ _ e=>e) (λ_ _ _ e=>e) (λ_ _ e=>e) (λm l=>?_) (λb u e=>?_) I.bare
 .have e:b=it:=by simpa using t
  subst e;exact⟨B,h,A,y⟩
 .obtain⟨o,C,D,i,r⟩:=l;exact⟨o,C,D,k _ o (fj h) i,r⟩
 .refine(I.hok b u e).stay (λc v a q=>k c v ?_ q) (λ_ q=>q) λ_ _ q=>q;rcases a with z|z
  .rw[z];exact d b u e
  .exact d c _ z
theorem Inv.tok(I:Inv X f g H s)(t:Nat):Inv X f g H {s with toks:=t}:=I.un (h':=s.heap) (t':=t) Un.refl I.hok
theorem Inv.kept{t':Nat}(I:Inv X f g H s)(k:∀b u,s.heap.get? b=aa u->h'.get? b=aa u):Inv X f g H {s with heap:=h',toks:=t'}:=I.un (Un.kept k) (I.hok.kept k)
theorem Inv.laid{a:ag}{o:HO}{t':Nat}(I:Inv X f g H s)(k:∀b u,s.heap.get? b=aa u->h'.get? b=aa u)(c:s.heap.objs.size<=a)(new:eh X.prog X.w (upd H a o) h' a o):Inv X f g (upd H a o) {s with heap:=h',toks:=t'}:=I.un (Un.laid k c (I.hok.fresh c)) (I.hok.laid k c new)
theorem Inv.write{x e:ag}{o:HO}{h:Nat}(I:Inv X f g H s)(c:tj (H x))(d:e=x\/H e=aa (.own x))(k:∀b u,b≠e->s.heap.get? b=aa u->h'.get? b=aa u)(a:∃u,h'.get? e=aa u)(new:eh X.prog X.w (upd H x o) h' x o):Inv X f g (upd H x o) {s with heap:=h',toks:=h}:=I.un (Un.write c d k a) (I.hok.write c d k a new)
theorem Inv.pins_of{a:List (ag×Obj)}(I:Inv X f g H s)(h:∀p∈a,s.heap.get? p.1=aa p.2/\H p.1=ah/\p.1≠X.env.locals/\p.1∉X.fs/\∀v,p.2.data≠.cell v):Inv X a g H s :=⟨I.ok,I.os,I.bare,I.base,I.loc,I.cell,I.free,I.freeC,λp b=>(g9.mp b).elim (λz=>I.pin p (uC _ z)) (h p),I.hok,I.len⟩
theorem CM{N:List Str}(c:N.Nodup){i j:Nat}{x:Str}(a:N[i]?=aa x)(b:N[j]?=aa x):i=j:=by obtain⟨m,h⟩:=eF.mp a;obtain⟨l,d⟩:=eF.mp b;exact(List.getElem_inj c).mp (h.trans d.symm)
theorem FT{M:Model}{A:bG}{E:ak->aq->Prop}{i:Nat}{x:Str}{v:V}{u:ak}{Q:Unit->aq->Prop}(I:Inv X f g H s)(hN:X.N.Nodup)(S:X.N[i]?=aa x)(D:Loc X.env.scope x)(r:RelV v u)(h:∀s',Inv X f (g.set i (aa v)) H s'->(∃a,kQ a s.heap s'.heap/\(a=X.env.locals\/X.env.cells.lookup x=aa a))->Q () s') (hf:X.fn x=ae\/X.env.scope.names.lookup x=aa .local:=by first|exact .inl rfl|exact .inr rfl|assumption):ax M A (storeName X.env x u) Q E s:=by
 obtain⟨m,hn,hl⟩:=id I.loc;have B8:(X.env.scope.kind == .class||(X.env.scope.kind == .module&&X.env.locals != X.env.globals))=aj:=by rw[I.ok.kind];rfl
 have J:i<g.length:=by rw[I.len];exact(eF.mp S).1
 have cne:=I.cne;have t:∀{a:ag}{h':aJ},(∃o,s.heap.get? a=aa o/\H a=ah)->kQ a s.heap h'->eD X.prog X.w H h':=λ{a h'} ha l b ob e=>by
  obtain⟨_,_,uT⟩:=ha;refine(I.hok b ob e).stay (λc W C q=>(l.2 c ?_).trans q) (λ_ q=>q) λ_ _ q=>q;rintro rfl;rcases C with rfl|C
  .rw[uT]at e;cases e
  .rw[uT]at C;cases C
 rcases D with G|G
 .refine wpAny_storeName_local G hn (λh' hn' l=>?_) B8;obtain⟨oL,_,_,uV,_⟩:=id hn;refine h _ ⟨I.ok,I.os,I.bare,⟨λb o e n N D=>?_,λb o e n N D=>?_,I.base.free,λb o e D=>?_,I.base.tups,I.base.frzs,I.base.tbls⟩,⟨_,hn',λj y v' B F e3=>?_⟩,λy c e=>?_,I.free,I.freeC,λp hp=>?_,t ⟨oL,uV,I.free⟩ l,by simpa using I.len⟩ ⟨_,l,.inl rfl⟩
  .exact(l.2 b (dW (iG (bN e) I.ok.above))).trans (I.base.keep b o e n N D)
  .obtain⟨sl,B⟩:=I.base.slot b o e n N D;exact⟨sl,(l.2 b (dW (iG (bN e) I.ok.above))).trans B⟩
  .obtain⟨o',B⟩:=I.base.there b o e D;exact⟨o',(l.2 b (dW (iG (bN e) I.ok.above))).trans B⟩
  .by_cases K:j=i
   .subst K;rw[S]at B;cases B;rw[ge J]at F;cases F;exact⟨u,r,.inl ⟨G,by simp⟩⟩
   .rw[eT (fj K)]at F;obtain⟨u',r',q⟩:=hl j y v' B F e3;refine⟨u',r',?_⟩;rcases q with⟨k,e⟩|⟨k,c,e,z⟩
    .refine .inl ⟨k,?_⟩;have:y≠x:=λe=>K (CM hN B (e ▸ S));simp[this,e]
    .exact .inr ⟨k,c,e,z.sameBut l (cne y c e)⟩
  .obtain⟨W,z⟩:=I.cell y c e;exact⟨W,z.sameBut l (cne y c e)⟩
  .obtain⟨e,n,Y,nf,d⟩:=I.pin p hp;exact⟨(l.2 p.1 Y).trans e,n,Y,nf,d⟩
 .have L:X.fn x=ae:=by
   rcases hf with z|z
   .exact z
   .rw[z]at G;cases G
  obtain⟨c,C⟩:=I.ok.has x (.inl G);obtain⟨W,z⟩:=I.cell x c C;refine wpAny_storeName_cell I.ok.kind G C z (λh' jb l=>?_);obtain⟨oc,P,O⟩:=id z;refine h {s with heap:=h'} ⟨I.ok,I.os,I.bare,⟨λb o e n N D=>?_,λb o e n N D=>?_,I.base.free,λb o e D=>?_,I.base.tups,I.base.frzs,I.base.tbls⟩,⟨m,hn.sameBut l (fj (cne x c C)),λj y v' B F e3=>?_⟩,λy Z e=>?_,I.free,I.freeC,λp hp=>?_,t ⟨oc,P,I.freeC x c C⟩ l,by simpa using I.len⟩ ⟨c,l,.inr C⟩
  .exact(l.2 b (dW (iG (bN e) (I.ok.cab x c L C)))).trans (I.base.keep b o e n N D)
  .obtain⟨sl,B⟩:=I.base.slot b o e n N D;exact⟨sl,(l.2 b (dW (iG (bN e) (I.ok.cab x c L C)))).trans B⟩
  .obtain⟨o',B⟩:=I.base.there b o e D;exact⟨o',(l.2 b (dW (iG (bN e) (I.ok.cab x c L C)))).trans B⟩
  .by_cases K:j=i
   .subst K;rw[S]at B;cases B;rw[ge J]at F;cases F;exact⟨u,r,.inr ⟨.inl G,c,C,jb⟩⟩
   .rw[eT (fj K)]at F;obtain⟨u',r',q⟩:=hl j y v' B F e3;refine⟨u',r',?_⟩;rcases q with q|⟨k,Z,e,z'⟩
    .exact .inl q
    .refine .inr ⟨k,Z,e,z'.sameBut l ?_⟩;rintro rfl;exact K (CM hN B (I.ok.inj _ _ _ e C ▸ S))
  .by_cases T:Z=c
   .subst T;exact⟨_,jb⟩
   .obtain⟨w2,z2⟩:=I.cell y Z e;exact⟨w2,z2.sameBut l T⟩
  .obtain⟨e,n,Y,nf,d⟩:=I.pin p hp;refine⟨(l.2 p.1 ?_).trans e,n,Y,nf,d⟩;intro q;rw[q,P]at e;have q':oc=p.2:=fg e;exact d W (by rw[<-q'];exact O)
theorem Fy{M:Model}{A:bG}{E:ak->aq->Prop}{i:Nat}{x:Str}{v:V}{u:ak}{Q:Unit->aq->Prop}(I:Inv X f g H s)(j:X.N.Nodup)(c:X.N[i]?=aa x)(b:Loc X.env.scope x)(r:RelV v u)(h:∀a,Inv X f (g.set i (aa v)) H a->Q () a) (d:X.fn x=ae\/X.env.scope.names.lookup x=aa .local:=by first|exact .inl rfl|exact .inr rfl|assumption):ax M A (storeName X.env x u) Q E s :=FT I j c b r (λa l _=>h a l) d
theorem Inv.call'{s':aq}{ch:List ag}(I:Inv X f g H s)(i:s'.os=s.os)(u:Un (gs X.stack) ch H w s.heap s'.heap)(a:eD X.prog X.w w s'.heap)(j:mP s'.gens)(h:∀b∈ch,(b∈X.ex\/X.s₀.heap.objs.size<=b)/\b≠X.env.locals/\(∀x c,X.env.cells.lookup x=aa c->c≠b)/\∀p∈X.pn++f,p.1≠b):Inv X f g w s':=by obtain⟨h',g',d',t',d⟩:=s';have e:d=s.os:=i;subst e;exact I.call (g':=g') (t':=t') (d':=d') u a j h
end
abbrev XK:=ak->Option ag->Hp->Prop
abbrev St:=List (Option V)
abbrev VK:=V->Hp->Prop
abbrev TE:=St->Hp->VK->Prop
abbrev TT:=St->Hp->(Bool->Hp->Prop)->Prop
abbrev TA:=St->Hp->(List V->Hp->Prop)->Prop
structure kC where
 nx:St->Hp->Prop
 rt:VK
 bk:St->Hp->Prop:=λ_ _=>False
 ct:St->Hp->Prop:=λ_ _=>False
abbrev TS:=kC->St->Hp->Prop
def EP(X:Cx)(d:List (ag×Obj))(b:St)(Q:VK)(u:ak)(c:aq):Prop:=∃v a,Inv X d b a c/\RelV v u/\Q v a
def TP(X:Cx)(f:List (ag×Obj))(c:St)(Q:Bool->Hp->Prop)(b:Bool)(d:aq):Prop:=∃a,Inv X f c a d/\Q b a
def AP(X:Cx)(g:List (ag×Obj))(c:St)(Q:List V->Hp->Prop)(d:List ak)(f:aq):Prop:=∃a b,Inv X g c b f/\cf a d/\Q a b
def SP(X:Cx)(c:List (ag×Obj))(D:kC)(f:Flow)(s':aq):Prop :=
 match f with
 |.next=>∃a b,Inv X c a b s'/\D.nx a b
 |.brk=>∃a b,Inv X c a b s'/\D.bk a b
 |.cont=>∃a b,Inv X c a b s'/\D.ct a b
 |.ret u=>∃v a b,Inv X c a b s'/\RelV v u/\D.rt v b
def PE(X:Cx)(e:aD)(t:TE):Prop :=
 ∀(b:List (ag×Obj)) (s:aq) (a:St) (H:Hp) (Q:VK),Inv X b a H s->t a H Q->ax (aH X.prog X.w) X.A (bq e X.env) (EP X b a Q) X.xe s
def PT(X:Cx)(e:aD)(t:TT):Prop :=
 ∀(b:List (ag×Obj)) (s:aq) (a:St) (H:Hp) (Q:Bool->Hp->Prop),Inv X b a H s->t a H Q->ax (aH X.prog X.w) X.A (mR e X.env (bq e X.env)) (TP X b a Q) X.xe s
def PW(X:Cx)(e:aD)(t:TT):Prop :=
 ∀(c:Sem ak) (b:List (ag×Obj)) (s:aq) (a:St) (H:Hp) (Q:Bool->Hp->Prop),Inv X b a H s->t a H Q->ax (aH X.prog X.w) X.A (mR e X.env c) (TP X b a Q) X.xe s
def PA(X:Cx)(d:List aD)(t:TA):Prop :=
 ∀(b:Pos) (c:List (ag×Obj)) (s:aq) (a:St) (H:Hp) (Q:List V->Hp->Prop),Inv X c a H s->t a H Q->ax (aH X.prog X.w) X.A (spliced (fk b (bo d X.env))) (AP X c a Q) X.xe s
def PS(X:Cx)(c:bu)(t:TS):Prop :=
 ∀(b:List (ag×Obj)) (s:aq) (a:St) (H:Hp) (D:kC),Inv X b a H s->t D a H->ax (aH X.prog X.w) X.A (exec c X.env) (SP X b D) X.xe s
def kK(X:Cx)(c:List bu)(t:TS):Prop :=
 ∀(b:List (ag×Obj)) (s:aq) (a:St) (H:Hp) (D:kC),Inv X b a H s->t D a H->ax (aH X.prog X.w) X.A (execs c X.env) (SP X b D) X.xe s
theorem a9{b:Type}{t:Sem b}{Q c:b->aq->Prop}{M:Model}{A:bG}{E:ak->aq->Prop}{s:aq}(h:ax M A t Q E s)(d:∀a s,Q a s->c a s):ax M A t c E s:=gy h d λ_ _ x=>x
section
variable{X:Cx}
def GA(i:Nat):TE:=λa H Q=>∃v,a[i]?=aa (aa v)/\Q v H
def tC(v:V):TE:=λ_ H Q=>Q v H
theorem iQ{i:Nat}{x:Str}{f:Pos}(p:X.N[i]?=aa x)(j:gT X.env.scope x)(d:(x==("__debug__":Str))=aj:=by decide)(q:(x==("__classdict__":Str))=aj:=by decide):PE X (.Name x f) (GA i):=by
 intro t s g H Q I h;obtain⟨v,e,h⟩:=h;obtain⟨m,n,o⟩:=I.loc;obtain⟨u,r,l⟩:=o i x v p e j;have b:EP X t g Q u s:=⟨v,H,I,r,h⟩
 rcases l with⟨a,hm⟩|⟨a,c,hc,yn⟩
 .exact wpAny_Name (wpAny_loadName_local I.ok.kind a n hm b) d
 .rcases a with a|a
  .exact wpAny_Name (wpAny_loadName_cell I.ok.kind a hc yn b) d
  .exact wpAny_Name (wpAny_loadName_free I.ok.kind a hc yn b q) d
theorem QA{i j f}:PE X (.Constant (.int i) j f) (tC (.int i)):=λ_ _ _ H _ I h=>wpAny_Constant_int ⟨.int i,H,I.tok _,⟨_,rfl⟩,h⟩
theorem NU{b j f}:PE X (.Constant (.bool b) j f) (tC (.bl b)):=λ_ _ _ H _ I h=>Constant_bool ⟨.bl b,H,I,rfl,h⟩
theorem N8{j f}:PE X (.Constant .none j f) (tC .non):=λ_ _ _ H _ I h=>Constant_none ⟨.non,H,I,rfl,h⟩
theorem MQ{x j f}:PE X (.Constant (.str x) j f) (tC (.str x)):=λ_ _ _ H _ I h=>Calls.Constant_str ⟨.str x,H,I.tok _,⟨_,rfl⟩,h⟩
def Gl(X:Cx)(x:Str):Prop:=X.env.kindOf x=aa .globalImplicit
theorem Bh{E:ak->aq->Prop}{g:List (ag×Obj)}{s:aq}{a:St}{H:Hp}{x:Str}{u:ak}{f:Pos}{Q:ak->aq->Prop}(I:Inv X g a H s)(c:Gl X x)(b:X.mg x=aa u)(h:Q u s)(d:(x==("__debug__":Str))=aj:=by decide):ax (aH X.prog X.w) X.A (bq (.Name x f) X.env) Q E s :=Calls.Name_function_global I.ok.kind c (Calls.loadGlobal_global (by rw[I.ok.glob];exact I.mod.glob.keeps I.bk) b h) d
theorem qU{E:ak->aq->Prop}{m:List (ag×Obj)}{s:aq}{a:St}{H:Hp}{x:Str}{u:ak}{f:Pos}{Q:ak->aq->Prop}(I:Inv X m a H s)(g:Gl X x)(d:X.mg x=ah)(b:fi x=aa u)(h:Q u s)(c:x≠"__name__":=by decide) (i:(x==("__debug__":Str))=aj:=by decide):ax (aH X.prog X.w) X.A (bq (.Name x f) X.env) Q E s:=by obtain⟨n,l,j⟩:=I.mod.blt;exact Calls.Name_function_global I.ok.kind g (Calls.loadGlobal_builtin (by rw[I.ok.glob];exact I.mod.glob.keeps I.bk) d (by rw[I.ok.blt];exact l.keeps I.bk) ((j x c).trans b) h) i
theorem Fq{x:Str}{v:V}{u:ak}{f:Pos}(b:Gl X x)(a:X.mg x=aa u)(r:RelV v u)(c:(x==("__debug__":Str))=aj:=by decide):PE X (.Name x f) (tC v) :=λ_ _ _ H _ I h=>Bh I b a ⟨v,H,I,r,h⟩ c
theorem Mf{x:Str}{v:V}{u:ak}{f:Pos}(d:Gl X x)(c:X.mg x=ah)(a:fi x=aa u)(r:RelV v u)(b:x≠"__name__":=by decide)(g:(x==("__debug__":Str))=aj:=by decide):PE X (.Name x f) (tC v) :=λ_ _ _ H _ I h=>qU I d c a ⟨v,H,I,r,h⟩ b g
variable{a b:aD}{g p:TE}{f:Pos}
def PC(X:Cx)(j:CmpOp)(a b:aD)(t:TE):Prop :=
 ∀(i:List (ag×Obj)) (s:aq) (h:St) (H:Hp) (Q:VK),Inv X i h H s->t h H Q ->
  ax (aH X.prog X.w) X.A (bq a X.env) (λv d=>ax (aH X.prog X.w) X.A (bq b X.env) (λu c=>ax (aH X.prog X.w) X.A (d_ j v u) (EP X i h Q) X.xe c) X.xe d) X.xe s
theorem QM(b:aD){c:CmpOp}(h:c≠.In)(d:c≠.NotIn):pL c b=aj:=by
 have j:(c == CmpOp.In)=aj:=by cases c <;> first|rfl|exact absurd rfl h
 have i:(c == CmpOp.NotIn)=aj:=by cases c <;> first|rfl|exact absurd rfl d
 cases b <;> simp[pL,j,i]
def tB(t:TE):TT:=λd H Q=>t d H λx h=>∃c,x=.bl c/\Q c h
theorem PB{i:CmpOp}{t:TE}(h:PC X i a b t)(j:pL i b=aj:=by first|exact QM _ (by decide) (by decide)|rfl):PT X (.Compare a [i] [b] f) (tB t):=by
 intro w s l H Q I o;refine wpAny_isTrue_Compare1 (a9 (h w s l H _ I o) λv C j=>a9 j λu B r=>a9 r λc A ⟨x,z,y,m,n⟩=>?_) j;obtain⟨d,rfl,q⟩:=n;cases m;exact lH ⟨z,y,q⟩
theorem O_{e:aD}{t:TE}(h:PE X e t)(n:∀c,mR e X.env c=(do let v <-c;standAt e.pos;holding [v] (truthy v)):=by intro _;rfl):PT X e (tB t):=by
 intro o s i H Q I m;refine isTrue_plain (a9 (h o s i H _ I m) λv w ⟨x,u,r,j,l⟩=>?_) (n _);obtain⟨d,rfl,q⟩:=l;cases j;exact lH ⟨u,r,q⟩
variable{n o:TT}{rest:List aD}
def ID(t u:TT):TT:=λd H Q=>t d H λc h=>if c=ae then u d h Q else Q aj h
def JE(t u:TT):TT:=λd H Q=>t d H λc h=>if c=ae then Q ae h else u d h Q
def Qk(t:TT):TT:=λd H Q=>t d H λc h=>Q (!c) h
theorem NS(i:PT X a n):PW X (.BoolOp .And [a] f) n:=by
 intro l j s d H Q I h;refine isTrue_and (a9 (i j s d H Q I h) λc m e=>?_);cases c with
 |true=>exact isTrue_and_nil e
 |false=>exact e
theorem Mu(i:PT X a n):PW X (.BoolOp .Or [a] f) n:=by
 intro l j s d H Q I h;refine isTrue_or (a9 (i j s d H Q I h) λc m e=>?_);cases c with
 |false=>exact isTrue_or_nil e
 |true=>exact e
theorem Mg(u:PT X a n)(t:PW X (.BoolOp .And (b::rest) f) o):PW X (.BoolOp .And (a::b::rest) f) (ID n o):=by
 intro q j s d H Q I h;refine isTrue_and (a9 (u j s d H _ I h) λc r ⟨m,l,i⟩=>?_);cases c with
 |true=>exact t q j r d m Q l i
 |false=>exact⟨m,l,i⟩
theorem N0(u:PT X a n)(t:PW X (.BoolOp .Or (b::rest) f) o):PW X (.BoolOp .Or (a::b::rest) f) (JE n o):=by
 intro q j s d H Q I h;refine isTrue_or (a9 (u j s d H _ I h) λc r ⟨m,l,i⟩=>?_);cases c with
 |true=>exact⟨m,l,i⟩
 |false=>exact t q j r d m Q l i
theorem Kz(i:PT X a n):PT X (.UnaryOp .Not a f) (Qk n):=by intro j s d H Q I h;exact isTrue_not (i j s d H (λc l=>Q (!c) l) I h)
def Ko(g p:TE):TE:=λd H Q=>g d H λx h=>∃c,x=.bl c/\if c=ae then p d h Q else Q (.bl aj) h
def Ov(g p:TE):TE:=λd H Q=>g d H λx h=>∃c,x=.bl c/\if c=ae then Q (.bl ae) h else p d h Q
def Ni(g:TE):TE:=λd H Q=>g d H λx h=>∃c,x=.bl c/\Q (.bl (!c)) h
theorem Lq{op}{t:TE}(h:PE X a t):PE X (.BoolOp op [a] f) t:=λi s c H Q I d=>BoolOp_one (h i s c H Q I d)
theorem IL(u:PE X a g)(t:PE X (.BoolOp .And (b::rest) f) p):PE X (.BoolOp .And (a::b::rest) f) (Ko g p):=by
 intro j s i H Q I h;refine BoolOp_and (a9 (u j s i H _ I h) λv q ⟨x,m,l,r,d⟩=>?_);obtain⟨c,rfl,d⟩:=d;cases r;refine lH ?_;cases c with
 |true=>exact t j q i m Q l d
 |false=>exact⟨.bl aj,m,l,rfl,d⟩
theorem N_(u:PE X a g)(t:PE X (.BoolOp .Or (b::rest) f) p):PE X (.BoolOp .Or (a::b::rest) f) (Ov g p):=by
 intro j s i H Q I h;refine BoolOp_or (a9 (u j s i H _ I h) λv q ⟨x,m,l,r,d⟩=>?_);obtain⟨c,rfl,d⟩:=d;cases r;refine lH ?_;cases c with
 |false=>exact t j q i m Q l d
 |true=>exact⟨.bl ae,m,l,rfl,d⟩
theorem Pw(l:PE X a g):PE X (.UnaryOp .Not a f) (Ni g):=by
 intro m s i H Q I h;refine UnaryOp_ (a9 (l m s i H _ I h) λv t ⟨x,r,q,j,d⟩=>?_);obtain⟨c,rfl,d⟩:=d;cases j;exact not_of (lH ⟨.bl (!c),r,q,rfl,d⟩)
end
def cI(K:aA)(H:Hp)(a:ag)(c:List V):Prop :=
 Rd H a (.lst c) \/
  ∃(o:Obj) (b:Array ak) (n:Nat),K.lookup a=aa o/\o.cls=.type "list"/\o.dict=ah/\o.data=.seq b n/\b.size<=bB/\cf c b.toList
def cD(K:aA)(H:Hp)(a:ag)(c:List V):Prop :=
 Rd H a (.tup c) \/
  ∃(o:Obj) (b:Array ak) (n:Nat),K.lookup a=aa o/\o.cls=.type "tuple"/\o.data=.seq b n/\b.size<=bB/\cf c b.toList
def Rc:ak->Option V
 |.none=>aa .non
 |.bool b=>aa (.bl b)
 |.int i _=>aa (.int i)
 |.str x _=>aa (.str x)
 |.bytes b _=>aa (.byt b)
 |.float b _=>aa (.flt b)
 |.ref a=>aa (.ref a)
 |.type n=>aa (.ty n)
 |_=>ah
theorem RelV.abs{x:V}{u:ak}(r:RelV x u):Rc u=aa x:=by
 cases x with
 |non=>cases r;rfl
 |bl _=>cases r;rfl
 |int _=>obtain⟨t,rfl⟩:=r;rfl
 |str _=>obtain⟨t,rfl⟩:=r;rfl
 |byt _=>obtain⟨t,rfl⟩:=r;rfl
 |flt _=>obtain⟨t,rfl⟩:=r;rfl
 |ref _=>cases r;rfl
 |ty _=>cases r;rfl
theorem RelV.inj{x y:V}{u:ak}(r:RelV x u)(q:RelV y u):x=y:=fg (r.abs.symm.trans q.abs)
theorem cf.inj:∀{b a:List V}{c:List ak},cf b c->cf a c->b=a
 |_,_,_,.nil,.nil=>rfl
 |_,_,_,.cons r t,.cons f d=>by rw[r.inj f,cf.inj t d]
section
variable{X:Cx}{c:List (ag×Obj)}{b:St}{H:Hp}{s:aq}{a:ag}{xs ys:List V}
theorem cI.of{K:aA}(h:H a=aa (.lst xs)):cI K H a xs:=.inl (.inl h)
theorem cD.of{K:aA}(h:H a=aa (.tup xs)):cD K H a xs:=.inl (.inl h)
theorem Inv.list(I:Inv X c b H s)(h:cI X.K H a xs):∃its:List ak,cf xs its/\PlainL s.heap a its.toArray/\xs.length<=bB:=by
 rcases h with h|⟨o,its,n,f,i,g,d,j,r⟩
 .obtain⟨z,its,n,r,e⟩:=h.ok I.hok;exact⟨its,r,⟨_,n,e,rfl,rfl,rfl⟩,z⟩
 .refine⟨its.toList,r,⟨o,n,I.kIn a o f,i,g,by simpa using d⟩,?_⟩;have e:=r.length;simp only[ri]at e;lia
theorem Inv.tuple(I:Inv X c b H s)(h:cD X.K H a xs):∃d:List ak,cf xs d/\IsTup s.heap a d.toArray/\xs.length<=bB:=by
 rcases h with h|⟨o,d,n,g,i,f,j,r⟩
 .obtain⟨z,d,r,p,_⟩:=h.ok I.hok;exact⟨d,r,p,z⟩
 .refine⟨d.toList,r,⟨o,I.kIn a o g,i,n,by simpa using f⟩,?_⟩;have e:=r.length;simp only[ri]at e;lia
theorem Inv.list_inj(I:Inv X c b H s)(h:cI X.K H a xs)(m:cI X.K H a ys):xs=ys:=by
 obtain⟨g,r,⟨o,n,e,_,_,d⟩,_⟩:=I.list h;obtain⟨f,l,⟨p,q,i,_,_,j⟩,_⟩:=I.list m;rw[e]at i;cases i;rw[d]at j;injection j with d1 _;have:g=f:=by simpa using congrArg Array.toList d1
 subst this;exact r.inj l
theorem Inv.tuple_inj(I:Inv X c b H s)(h:cD X.K H a xs)(m:cD X.K H a ys):xs=ys:=by
 obtain⟨g,r,⟨o,e,_,n,d⟩,_⟩:=I.tuple h;obtain⟨f,l,⟨p,i,_,q,j⟩,_⟩:=I.tuple m;rw[e]at i;cases i;rw[d]at j;injection j with d1 _;have:g=f:=by simpa using congrArg Array.toList d1
 subst this;exact r.inj l
end
abbrev Cx.wish(X:Cx)(E:ak->aq->Prop):Cx:={X with xe:=E}
abbrev Cx.nox(X:Cx):Cx:=X.wish λ_ _=>False
theorem Cx.Ok.wish{X:Cx}(ok:X.Ok)(E:ak->aq->Prop):(X.wish E).Ok :=⟨ok.mod,ok.kind,ok.glob,ok.blt,ok.above,ok.inj,ok.has,ok.cab,ok.hd,ok.frames,ok.stk,ok.exf,ok.bs,ok.bsz,ok.noex,ok.exfs,ok.funs,ok.frf,ok.tab⟩
theorem Cx.Ok.unwish{X:Cx}{E:ak->aq->Prop}(ok:(X.wish E).Ok):X.Ok :=⟨ok.mod,ok.kind,ok.glob,ok.blt,ok.above,ok.inj,ok.has,ok.cab,ok.hd,ok.frames,ok.stk,ok.exf,ok.bs,ok.bsz,ok.noex,ok.exfs,ok.funs,ok.frf,ok.tab⟩
section
variable{X:Cx}{a:List (ag×Obj)}{b:St}{H:Hp}{s:aq}{E:ak->aq->Prop}
theorem Inv.wish(I:Inv X a b H s)(E:ak->aq->Prop):Inv (X.wish E) a b H s:=⟨I.ok.wish E,I.os,I.bare,I.base,I.loc,I.cell,I.free,I.freeC,I.pin,I.hok,I.len⟩
theorem Inv.unwish(I:Inv (X.wish E) a b H s):Inv X a b H s:=⟨I.ok.unwish,I.os,I.bare,I.base,I.loc,I.cell,I.free,I.freeC,I.pin,I.hok,I.len⟩
theorem SP.unwish{D:kC}{f:Flow}{g:aq}(h:SP (X.wish E) a D f g):SP X a D f g:=by
 cases f with
 |next=>obtain⟨c,d,I,q⟩:=h;exact⟨c,d,I.unwish,q⟩
 |brk=>obtain⟨c,d,I,q⟩:=h;exact⟨c,d,I.unwish,q⟩
 |cont=>obtain⟨c,d,I,q⟩:=h;exact⟨c,d,I.unwish,q⟩
 |ret u=>obtain⟨v,c,d,I,r,q⟩:=h;exact⟨v,c,d,I.unwish,r,q⟩
end
section
variable{X:Cx}{j:bu}{rest:List bu}{t u:TS}{e:aD}{i:TE}{g:Pos}
def LM:TS:=λD a H=>D.nx a H
def Kv(t u:TS):TS:=λD a H=>t {D with nx:=u D} a H
theorem J_:kK X [] LM:=λ_ _ a H _ I h=>Bo ⟨a,H,I,h⟩
theorem IU(m:PS X j t)(l:kK X rest u):kK X (j::rest) (Kv t u):=by
 intro b s c H D I h;refine wpAny_execs_cons (a9 (m b s c H {D with nx:=u D} I h) λf d q=>?_);cases f with
 |next=>obtain⟨a,o,n,q⟩:=q;exact l b d a o D n q
 |ret v=>exact q
 |brk=>exact q
 |cont=>exact q
theorem J2(b:PS X j t):kK X [j] t:=by
 intro c s a H D I h;refine wpAny_execs_cons (a9 (b c s a H D I h) λf d q=>?_);cases f with
 |next=>exact Bo q
 |ret v=>exact q
 |brk=>exact q
 |cont=>exact q
theorem Inv.quiet{b:List (ag×Obj)}{a:St}{H:Hp}{s:aq}(I:Inv X b a H s):interactive X.env=aj:=by simp[interactive,I.ok.kind]
def Nx(i:TE):TS:=λD a H=>i a H λ_ b=>D.nx a b
theorem E9(d:PE X e i)(c:kR e ah g.line X.env=pure aj:=by rfl):PS X (.Expr e g) (Nx i):=by intro f s a H D I h;exact wpAny_Expr_any (a9 (d f s a H _ I h) λv n ⟨x,m,l,o,b⟩=>⟨a,m,l,b⟩) I.quiet c
def M9(i:TE):TS:=λD a H=>i a H D.rt
theorem vX(d:PE X e i):PS X (.Return (aa e) g) (M9 i):=by intro f s a H D I h;exact wpAny_Return_some (a9 (d f s a H _ I h) λv n ⟨x,m,l,b,c⟩=>⟨x,a,m,l,b,c⟩)
def Pg:TS:=λD _ H=>D.rt .non H
theorem QP:PS X (.Return ah g) Pg:=λ_ _ a H _ I h=>wpAny_Return_none ⟨.non,a,H,I,rfl,h⟩
def QF(c:TT)(t u:TS):TS:=λD a H=>c a H λb d=>if b=ae then t D a d else u D a d
theorem Qv{c:aD}{a b:List bu}{m:TT}(r:PT X c m)(w:kK X a t)(v:kK X b u):PS X (.If c a b g) (QF m t u):=by
 intro l s f H D I h;refine wpAny_If (a9 (r l s f H _ I h) λd n ⟨q,p,o⟩=>?_);cases d with
 |true=>exact w l n f q D p o
 |false=>exact v l n f q D p o
end
abbrev TG:=V->St->Hp->(St->Hp->Prop)->Prop
abbrev pe:=List V->St->Hp->(St->Hp->Prop)->Prop
def PG(X:Cx)(a:aD)(t:TG):Prop :=
 ∀(d:List (ag×Obj)) (s:aq) (c:St) (H:Hp) (v:V) (u:ak) (Q:St->Hp->Prop),Inv X d c H s->RelV v u->t v c H Q ->
  ax (aH X.prog X.w) X.A (assign a X.env u) (λ_ s'=>∃b f,Inv X d b f s'/\Q b f) X.xe s
def vR(X:Cx)(h:List aD)(t:pe):Prop :=
 ∀(f:List (ag×Obj)) (s:aq) (b:St) (H:Hp) (c:List V) (d:List ak) (Q:St->Hp->Prop),Inv X f b H s->cf c d->t c b H Q ->
  ax (aH X.prog X.w) X.A (assignInOrder ((uD h X.env).map (·.2)) d) (λ_ i=>∃a g,Inv X f a g i/\Q a g) X.xe s
section
variable{X:Cx}{d:Pos}
def Cy(i:Nat):TG:=λv a H Q=>Q (a.set i (aa v)) H
theorem rh{i:Nat}{x:Str}(f:X.N.Nodup)(b:X.N[i]?=aa x)(a:Loc X.env.scope x)(c:X.fn x=ae\/X.env.scope.names.lookup x=aa .local:=by first|exact .inl rfl|exact .inr rfl|assumption):PG X (.Name x d) (Cy i):=by intro m s j H v u Q I r h;exact wpAny_assign_Name (Fy I f b a r (λl g=>⟨_,H,g,h⟩) c)
def br:pe:=λb a H Q=>b=[]/\Q a H
def M8(t:TG)(u:pe):pe:=λc b H Q=>∃v r,c=v::r/\t v b H λa f=>u r a f Q
theorem FM:vR X [] br:=by
 intro f s a H b c Q I r h;obtain⟨e,h⟩:=h;subst e;cases r;exact assignInOrder_nil ⟨a,H,I,h⟩
theorem xD{e:aD}{a:List aD}{t:TG}{u:pe}(n:PG X e t)(m:vR X a u)(l:(uD (e::a) X.env).map (·.2)=assign e X.env::(uD a X.env).map (·.2):=by rfl):vR X (e::a) (M8 t u):=by
 intro c s f H w y Q I r h;obtain⟨v,x,o,h⟩:=h;subst o;cases r with
 |cons r i=>rw[l];refine assignInOrder_cons (a9 (n c s f H _ _ _ I r h) λ_ g ⟨b,q,p,j⟩=>?_);exact m c g b q _ _ Q p i j
def OR(K:aA)(n:Nat)(t:pe):TG:=λv c H Q=>∃a b,v=.ref a/\cD K H a b/\b.length=n/\t b c H Q
theorem FP{c:List aD}{k:Nat}{t:pe}{n:Nat}(y:X.calm=ae)(h:vR X c t)(w:(uD c X.env).length=n:=by rfl) (A:(uD c X.env).findIdx? (·.1)=ah:=by rfl):PG X (.Tuple c k d) (OR X.K n t):=by
 intro j s g H v u Q I r f;obtain⟨a,l,B,q,x,f⟩:=f;subst B;cases r;obtain⟨m,i,ht,D⟩:=I.tuple q;refine assign_Tuple_tuple (I.ok.hd y) ht (by simp[w,<-x,i.length]) A λz p=>?_;have C:Inv X j g H {s with heap:=z}:=I.kept (t':=s.toks) λb o e=>p b o (dW (bN e)) e;exact h j _ g H l _ Q C (by simpa using i) f
def C8(b:TE)(g:TG):TS:=λD a H=>b a H λx c=>g x a c D.nx
theorem Mj{a e:aD}{c:TE}{g:TG}(p:PE X e c)(o:PG X a g)(n:swapsWithSole [a] e d.line X.env=pure aj:=by rfl)(m:swappedStores [a] e X.env=pure ah:=by rfl)(r:(uD [a] X.env).map (·.2)=[assign a X.env]:=by rfl):PS X (.Assign [a] e d) (C8 c g):=by intro f s b H D I h;refine wpAny_Assign_stores (a9 (p f s b H _ I h) λv i ⟨x,u,t,j,l⟩=>?_) n m;rw[r];exact a9 (o f i b u x v _ t j l) λ_ w q=>q
theorem GI{i:Nat}{x:Str}{e:aD}{b:TE}{a:Pos}(p:X.N.Nodup)(m:X.N[i]?=aa x)(j:Loc X.env.scope x)(o:PE X e b)(l:kR e (aa (.Name x a)) d.line X.env=pure aj:=by rfl)(n:X.fn x=ae\/X.env.scope.names.lookup x=aa .local:=by first|exact .inl rfl|exact .inr rfl|assumption):PS X (.Assign [.Name x a] e d) (C8 b (Cy i)):=by intro q s c H D I h;refine wpAny_Assign_Name (a9 (o q s c H _ I h) λv z ⟨y,u,t,f,g⟩=>?_) l;exact Fy t p m j f (λw r=>⟨_,u,r,g⟩) n
def K1(c:TT)(j:TS):TS:=λD a H=>∃W:Nat->St->Hp->Prop,(∃m,W m a H)/\∀m a H,W m a H ->
 c a H λb h=>if b=ae then ∃N:St->Hp->Prop,(∀f i,N f i->∃g,g<m/\W g f i)/\j {D with nx:=N,ct:=N,bk:=D.nx} a h else D.nx a h
theorem P4{c:aD}{i:List bu}{x:TT}{y:TS}(z:Bp (aH X.prog X.w) X.A X.env X.xe)(Q:PT X c x)(S:kK X i y):PS X (.While c i [] d) (K1 x y):=by
 intro u s G H D I h;obtain⟨W,⟨P,K⟩,l⟩:=h;refine wpAny_While (codeAny_whileLoop (λn O=>∃j F,Inv X u j F O/\W n j F) ?_ P ⟨G,H,I,K⟩);rintro n M ⟨g,E,T,J⟩;refine rj z (a9 (Q u M g E _ T (l n g E J)) λb L ⟨C,B,p⟩=>?_);cases b with
 |true=>
  obtain⟨N,A,p⟩:=p;rw[if_pos rfl];refine rj z (a9 (S u L g C _ B p) λf Y o=>?_);cases f with
  |next=>obtain⟨a,m,w,q⟩:=o;obtain⟨r,t,w3⟩:=A a m q;exact⟨r,t,a,m,w,w3⟩
  |cont=>obtain⟨a,m,w,q⟩:=o;obtain⟨r,t,w3⟩:=A a m q;exact⟨r,t,a,m,w,w3⟩
  |brk=>exact o
  |ret v=>exact o
 |false=>rw[if_neg fV];exact Bo ⟨g,C,B,p⟩
end
structure It where
 go:Nat->Hp->Prop
 yld:Nat->Hp->V->Hp->Prop
 stop:Nat->Hp->Prop
def kP(X:Cx)(a:List (ag×Obj))(H:Hp)(b:ag):Prop :=
 H b=ah/\b≠X.env.locals/\b∉X.fs/\(b∈X.ex\/X.s₀.heap.objs.size<=b)/\(∀x c,X.env.cells.lookup x=aa c->c≠b)/\∀p∈X.pn++a,p.1≠b
theorem Inv.fpOk{X:Cx}{d:List (ag×Obj)}{g:St}{H f:Hp}{s:aq}{b:ag}(I:Inv X d g H s)(a:s.heap.objs.size<=b)(i:f b=ah):kP X d f b:=by
 refine⟨i,iZ (iG I.lt a),I.nofs a,.inr (dX I.sz a),λx c e z=>?_,λp h z=>?_⟩
 .obtain⟨v,q⟩:=I.cell x c e;exact absurd (iG q.lt (by rw[z];exact a)) (fh _)
 .exact absurd (iG (bN (I.pin p h).1) (by rw[z];exact a)) (fh _)
structure oZ(P:bv)(w:bc)(K:aA)(tg:aD)(J:It)(fp:List ag)(it:ag)(tn:Nat->aJ->Prop):Prop where
 mem:it∈fp
 obj:∀i h,tn i h->∀b∈fp,∃o,h.get? b=aa o/\∀v,o.data≠.cell v
 keep:∀i h h',tn i h->(∀b∈fp,∀o,h.get? b=aa o->h'.get? b=aa o)->tn i h'
 item:∀(X:Cx),X.prog=P->X.w=w->X.K=K->X.calm=ae->∀(i:Nat) (af:List (ag×Obj)) (s:aq) (σ:St) (H:Hp) (E:ak->aq->Prop),Inv X af σ H s->(∀b∈fp,kP X af H b)->tn i s.heap->J.go i H ->
  ax (aH P w) X.A (n5 (.ref it)) (λr s1=>∃u,r=aa u /\ ax (aH P w) X.A (Bq tg (.ref it) u) (λ_ s2=>∃x H',Inv X af σ H' s2/\RelV x u/\J.yld i H x H'/\tn (i+1) s2.heap/\∀b∈fp,H' b=ah) E s1) E s
 done:∀(X:Cx),X.prog=P->X.w=w->X.K=K->X.calm=ae->∀(i:Nat) (af:List (ag×Obj)) (s:aq) (σ:St) (H:Hp) (E:ak->aq->Prop),Inv X af σ H s->(∀b∈fp,kP X af H b)->tn i s.heap->J.stop i H ->
  ax (aH P w) X.A (n5 (.ref it)) (λr s1=>r=ah/\Inv X af σ H s1) E s
 self:∀(A:bG) (i:Nat) (s:aq) (Q:ak->aq->Prop) (E:ak->aq->Prop),tn i s.heap->Q (.ref it) s->ax (aH P w) A (n6 (.ref it)) Q E s
abbrev TI:=St->Hp->(It->Hp->Prop)->Prop
def vI(X:Cx)(i:List (ag×Obj))(j:St)(l:aD)(R:It->Hp->Prop)(a:ak)(f:aq):Prop :=
 ∃(g:ag) (h:List ag) (d:Nat->aJ->Prop) (J:It) (c:Hp),a=.ref g/\Inv X i j c f/\oZ X.prog X.w X.K l J h g d/\d 0 f.heap/\(∀b∈h,kP X i c b)/\R J c
def PI(X:Cx)(f a:aD)(d:TI):Prop :=
 ∀(c:List (ag×Obj)) (s:aq) (b:St) (H:Hp) (R:It->Hp->Prop),Inv X c b H s->d b H R ->
  ax (aH X.prog X.w) X.A (bq a X.env) (λv g=>ax (aH X.prog X.w) X.A (n6 v) (vI X c b f R) X.xe g) X.xe s
theorem vC{M:Model}{A:bG}{E:ak->aq->Prop}{s:aq}{c:aD}{d:ag}{u:ak}{o:Obj}{n:String}{b:Array ak}{Q:Unit->aq->Prop}(f:s.heap.get? d=aa o)(j:o.cls=.type n)(i:o.data=.fields b)(g:["enumerate","zip","dict_itemiterator","dict_reverseitemiterator","odict_iterator","itertools.zip_longest","itertools.pairwise"].contains n=aj) (a:Q () s):ax M A (Bq c (.ref d) u) Q E s:=by
 unfold Bq;cases c <;> first
  |exact aN a
  | (cases u <;> first
    |exact aN a
    | (refine au (wpAny_load f ?_)
       rw[j,i];show ax M A (if(["enumerate","zip","dict_itemiterator","dict_reverseitemiterator","odict_iterator","itertools.zip_longest","itertools.pairwise"].contains n&&b[0]? == aa (dY _))=ae then _ else _) Q E s;rw[if_neg (by intro h;rw[g,Bool.false_and]at h;cases h)];exact aN a))
def yZ(K:aA)(a:ag):It :=⟨λi H=>∃b x,cI K H a b/\b[i]?=aa x,λi H x c=>c=H/\∀b,cI K H a b->b[i]?=aa x,λi H=>∃b,cI K H a b/\b.length<=i⟩
def Am(K:aA)(a:ag):It :=⟨λi H=>∃b x,cD K H a b/\b[i]?=aa x,λi H x c=>c=H/\∀b,cD K H a b->b[i]?=aa x,λi H=>∃b,cD K H a b/\b.length<=i⟩
def wD(a:Int)(n:Nat):It:=⟨λi _=>i<n,λi H x b=>b=H/\x=.int (a+i),λi _=>n<=i⟩
theorem No{P:bv}{w:bc}{K:aA}{Q:aD}(a g:ag):oZ P w K Q (yZ K a) [g] g (λi h=>h.IsListIter g a i) where
 mem:=by simp
 obj:=λi h f b j=>by
  have e:b=g:=by simpa using j
  subst e;obtain⟨o,e,c,d⟩:=f;exact⟨o,e,λv z=>by rw[d]at z;cases z⟩
 keep:=λi h n f k=>f.at λo e=>k g (by simp) o e
 item:=by intro X B y C L i N s J H E I m f A;subst B y C;obtain⟨O,x,l,t⟩:=A;obtain⟨r,q,p,W⟩:=I.list l;obtain⟨u,Z,T⟩:=q.get t;obtain⟨G,F,f2,f3,f4,D⟩:=m g (by simp);refine wpAny_pyNext_list_item f p.isList (x:=u) (by simpa using Z) λn M S=>?_;have I1:Inv X N J H {s with heap:=n}:=I.turned (t':=s.toks) (λb o j e=>(S.2 b j).trans e) G F f3 f4 D;obtain⟨o,e,c,d⟩:=id M;exact⟨u,rfl,vC (s:={s with heap:=n}) e c d (by decide) ⟨x,H,I1,T,⟨rfl,λys Y=>by rw[I.list_inj Y l];exact t⟩,M,λb j=>(m b j).1⟩⟩
 done:=by intro X B y C L i N s J H E I m f A;subst B y C;obtain⟨O,l,t⟩:=A;obtain⟨r,q,p,W⟩:=I.list l;obtain⟨G,F,f2,f3,f4,D⟩:=m g (by simp);have hl:=q.length;exact wpAny_pyNext_list_end (I.ok.hd L) f p.isList (by simp;lia) λn eb=>⟨rfl,I.turned (t':=s.toks) (λb o j e=>eb b o j e) G F f3 f4 D⟩
 self:=λ_ _ _ _ _ f h=>wpAny_pyIter_listiter f h
theorem Py{P:bv}{w:bc}{K:aA}{Q:aD}(a j:ag):oZ P w K Q (Am K a) [j] j (λi h=>h.IsTupleIter j a i) where
 mem:=by simp
 obj:=λi h f b l=>by
  have e:b=j:=by simpa using l
  subst e;obtain⟨o,e,c,d⟩:=f;exact⟨o,e,λv z=>by rw[d]at z;cases z⟩
 keep:=λi h q f k=>f.at λo e=>k j (by simp) o e
 item:=by intro X B y C L i N s J H E I n f A;subst B y C;obtain⟨O,x,m,t⟩:=A;obtain⟨g,r,p,W⟩:=I.tuple m;obtain⟨u,Z,T⟩:=r.get t;obtain⟨G,F,f2,f3,f4,D⟩:=n j (by simp);refine wpAny_pyNext_tuple_item f (show s.heap.IsTuple a g.toArray from p) (x:=u) (by simpa using Z) λq M S=>?_;have I1:Inv X N J H {s with heap:=q}:=I.turned (t':=s.toks) (λb o l e=>(S.2 b l).trans e) G F f3 f4 D;obtain⟨o,e,c,d⟩:=id M;exact⟨u,rfl,vC (s:={s with heap:=q}) e c d (by decide) ⟨x,H,I1,T,⟨rfl,λys Y=>by rw[I.tuple_inj Y m];exact t⟩,M,λb l=>(n b l).1⟩⟩
 done:=by intro X B y C L i N s J H E I n f A;subst B y C;obtain⟨O,m,t⟩:=A;obtain⟨g,r,p,W⟩:=I.tuple m;obtain⟨G,F,f2,f3,f4,D⟩:=n j (by simp);have hl:=r.length;exact wpAny_pyNext_tuple_end (I.ok.hd L) f (show s.heap.IsTuple a g.toArray from p) (by simp;lia) λq eb=>⟨rfl,I.turned (t':=s.toks) (λb o l e=>eb b o l e) G F f3 f4 D⟩
 self:=λ_ _ _ _ _ f h=>wpAny_pyIter_tupleiter f h
theorem L9{P:bv}{w:bc}{K:aA}{G:aD}(c:ag)(f:Int)(n:Nat):oZ P w K G (wD f n) [c] c (λi h=>IsRangeIter h c (f+(i:Nat)*1) ((n:Int)-(i:Nat)) 1) where
 mem:=by simp
 obj:=λi h a b d=>by
  have e:b=c:=by simpa using d
  subst e;exact⟨_,a,λv z=>by
   have F:Data.fields _=Data.cell v:=z;cases F⟩
 keep:=λi h j a k=>k c (by simp) _ a
 item:=by intro X q l r p i D s A H E I g a m;subst q l r;obtain⟨y,x,f2,f3,f4,u⟩:=g c (by simp);have W:=Walks.range (prog:=X.prog) (w:=X.w) (I.ok.hd p) c f 1 n;refine W.item i s _ _ m a λv j B L C J=>?_;obtain⟨t,rfl⟩:=L;have N:Inv X D A H {s with heap:=j,toks:=B}:=I.turned (λb o d e=>J b o (by simpa using d) e) y x f3 f4 u;refine⟨_,rfl,vC (s:={s with heap:=j,toks:=B}) (n:="range_iterator") C rfl rfl (by decide) ⟨.int (f+i),H,N,⟨t,?_⟩,⟨rfl,rfl⟩,C,λb d=>(g b d).1⟩⟩;rw[Int.mul_one]
 done:=by intro X q l r p i D s A H E I g a m;subst q l r;obtain⟨y,x,f2,f3,f4,u⟩:=g c (by simp);exact wpAny_pyNext_range_end (I.ok.hd p) a (by have:n<=i:=m;lia) λj M=>⟨rfl,I.turned (t':=s.toks) (λb o d e=>M b o d e) y x f3 f4 u⟩
 self:=λ_ _ _ _ _ a h=>wpAny_pyIter_rangeiter a h
section
variable{X:Cx}{c:aD}
theorem IW{h:List (ag×Obj)}{f:St}{H:Hp}{s:aq}{R:It->Hp->Prop}{E:ak->aq->Prop}{a d:Int}{t u v:Tok}{g:Nat}(I:Inv X h f H s)(p:-(2^62)<=a)(n:a<2^62)(m:-(2^62)<=d)(l:d<2^62)(q:R (wD a (d-a).toNat) H):ax (aH X.prog X.w) X.A (n6 (.ref s.heap.objs.size)) (vI X h f c R) E {s with heap:=s.heap.push {cls:=.type "range",data:=.fields #[.int a t,.int d u,.int 1 v]},toks:=g}:=by
 refine wpAny_pyIter_range (IsRange.new ..) (small_one p n m l) ?_;have i:Inv X h f H {s with heap:=s.heap.push {cls:=.type "range",data:=.fields #[.int a t,.int d u,.int 1 v]},toks:=g}:=I.kept λb o e=>bz _ e;refine⟨(s.heap.push {cls:=.type "range",data:=.fields #[.int a t,.int d u,.int 1 v]}).objs.size,[(s.heap.push {cls:=.type "range",data:=.fields #[.int a t,.int d u,.int 1 v]}).objs.size],_,_,H,rfl,i.kept (t':=g) λb o e=>bz _ e,L9 _ a (d-a).toNat,?_,λb j=>?_,q⟩
 .have w:a+((0:Nat):Int)*1=a:=by simp
  have r:(((d-a).toNat:Nat):Int)-((0:Nat):Int)=Builtin.Range.rangeSize a d 1:=by rw[rangeSize_one];split <;> lia
  show IsRangeIter _ _ (a+((0:Nat):Int)*1) ((((d-a).toNat:Nat):Int)-((0:Nat):Int)) 1;rw[w,r];exact cL _ rfl
 .have e:b=(s.heap.push {cls:=.type "range",data:=.fields #[.int a t,.int d u,.int 1 v]}).objs.size:=by simpa using j
  subst e;exact i.fpOk (bC _) (i.hok.fresh (bC _))
def Jo(d:TA):TI:=λa H R=>d a H λb f=>∃j:Int,b=[.int j]/\-(2^62)<=j/\j<2^62/\R (wD 0 j.toNat) f
theorem QS{a:aD}{f:TA}{p b:Pos}(u:Gl X "range")(o:X.mg "range"=ah)(v:PA X [a] f)(n:bo [a] X.env=[(aj,bq a X.env)]:=by rfl):PI X c (.Call (.Name "range" p) [a] [] b) (Jo f):=by
 intro w s g H R I h;refine Call_ (qU I u o boot_range (Br (a9 (v b w s g H _ I h) λz A ⟨y,B,x,l,d⟩=>?_) n rfl));obtain⟨j,e,d,m,q⟩:=d;subst e;cases l with
 |cons r i=>
  cases i;obtain⟨t,rfl⟩:=r;exact call_range_1 (IW x ∅ ∅ d m (by simpa using q))
def Ph(j:TI)(g:TG)(l:TS):TS:=λD a H=>j a H λJ o=>∃W:Nat->Nat->St->Hp->Prop,(∃m,W 0 m a o)/\∀i m a H,W i m a H ->
 (J.stop i H/\D.nx a H)\/(J.go i H/\∃N:St->Hp->Prop,(∀b d,N b d->∃h,h<m/\W (i+1) h b d)/\∀x d,J.yld i H x d->g x a d λf n=>l {D with nx:=N,ct:=N,bk:=D.nx} f n)
def ub(a:List ag)(h:aJ):List (ag×Obj):=a.filterMap λb=>(h.get? b).map λo=>(b,o)
theorem wX{a:List ag}{h:aJ}{b:ag}{o:Obj}(d:b∈a)(e:h.get? b=aa o):(b,o)∈ub a h:=List.mem_filterMap.mpr ⟨b,d,by rw[e];rfl⟩
theorem Mp{a:List ag}{h:aJ}{p:ag×Obj}(d:p∈ub a h):p.1∈a/\h.get? p.1=aa p.2:=by
 obtain⟨b,f,e⟩:=List.mem_filterMap.mp d;cases q:h.get? b with
 |none=>rw[q]at e;cases e
 |some o=>rw[q]at e;have g:(b,o)=p:=fg e;subst g;exact⟨f,q⟩
theorem Inv.pinned{f:List (ag×Obj)}{g:St}{H:Hp}{s:aq}{a:List ag}(I:Inv X f g H s)(m:∀b∈a,kP X f H b)(l:∀b∈a,∃o,s.heap.get? b=aa o/\∀v,o.data≠.cell v):Inv X (f++ub a s.heap) g H s :=
 I.pins_of λp j=>(g9.mp j).elim (λz=>I.pin p (i4 _ z)) λz=>by
  obtain⟨h,e⟩:=Mp z;obtain⟨q,n,f2,_⟩:=m p.1 h;obtain⟨o,i,d⟩:=l p.1 h;rw[e]at i;cases i;exact⟨e,q,n,f2,d⟩
theorem Inv.unpinned{b d:List (ag×Obj)}{a:St}{H:Hp}{s:aq}(I:Inv X (b++d) a H s):Inv X b a H s:=I.pins_of λp f=>I.pin p (i4 _ (uC _ f))
theorem M7{q:aD}{C:List bu}{wi:TI}{g:TG}{tb:TS}{S:Pos}(K:Bp (aH X.prog X.w) X.A X.env X.xe)(hc:X.calm=ae)(hi:PI X c q wi)(hg:PG X c g)(t:kK X C tb)(hs:∀x,lI q X.env x=pure x:=by intro _;rfl):PS X (.For c q C [] S) (Ph wi g tb):=by
 intro E s σ H D I h;refine wpAny_For (a9 (hi E s σ H _ I h) λv s1 h1=>a9 h1 λitv s2 h2=>?_) hs;obtain⟨it,M,tn,J,H2,e,I2,T,jt,f2,W,⟨m0,w0⟩,F⟩:=h2;subst e;have p:∀{A:Hp},(∀b∈M,A b=ah)->∀b∈M,kP X E A b:=λhn b t=>⟨hn b t,(f2 b t).2⟩
 refine codeAny_forLoop_any (λn s'=>∃i l A,Inv X E l A s'/\tn i s'.heap/\(∀b∈M,A b=ah)/\W i n l A) ?_ m0 ⟨0,σ,H2,I2,jt,λb t=>(f2 b t).1,w0⟩;rintro n s3 ⟨i,j,O,I3,qa,L,w3⟩;rcases F i n j O w3 with⟨stop,qn⟩|⟨go,N,hN,step⟩
 .refine rj K (a9 (T.done X rfl rfl rfl hc i E s3 j O X.xe I3 (p L) qa stop) λr s4 ⟨Z,I4⟩=>?_);subst Z;exact Bo ⟨j,O,I4,qn⟩
 .refine rj K (a9 (T.item X rfl rfl rfl hc i E s3 j O X.xe I3 (p L) qa go) λr s4 ⟨u,Z,h4⟩=>?_);subst Z;refine rj K (a9 h4 λ_ s5 ⟨x,H5,I5,r5,y5,Y,fr5⟩=>?_);have I5':=I5.pinned (p fr5) (T.obj _ _ Y);refine rj K (a9 (hg _ s5 j H5 x u _ I5' r5 (step x H5 y5)) λ_ s6 ⟨P,H6,I6,q6⟩=>?_);refine rj K (a9 (t _ s6 P H6 _ I6 q6) λf Q B=>?_);have w:∀{a:St}{z:Hp},Inv X (E++ub M s5.heap) a z Q->N a z->∃m,m<n/\∃i l A,Inv X E l A Q/\tn i Q.heap/\(∀b∈M,A b=ah)/\W i m l A:=λ{a z} y G=>by obtain⟨m',hm,w7⟩:=hN a z G;refine⟨m',hm,i+1,a,z,y.unpinned,T.keep _ _ _ Y λb t o e=>(y.pin (b,o) (i4 _ (i4 _ (wX t e)))).1,λb t=>?_,w7⟩;obtain⟨o,e,d⟩:=T.obj _ _ Y b t;exact(y.pin (b,o) (i4 _ (i4 _ (wX t e)))).2.1
  cases f with
  |next=>obtain⟨a,z,y,G⟩:=B;exact w y G
  |cont=>obtain⟨a,z,y,G⟩:=B;exact w y G
  |brk=>obtain⟨a,z,y,B⟩:=B;exact⟨a,z,y.unpinned,B⟩
  |ret v=>obtain⟨x7,a,z,y,r7,B⟩:=B;exact⟨x7,a,z,y.unpinned,r7,B⟩
end
abbrev R2:=V->V->Hp->VK->Prop
def b8(X:Cx)(f:ak->ak->Sem ak)(r:R2):Prop :=
 ∀(b:List (ag×Obj)) (s:aq) (a:St) (H:Hp) (x y:V) (v u:ak) (Q:VK),Inv X b a H s->RelV x v->RelV y u->r x y H Q ->
  ax (aH X.prog X.w) X.A (f v u) (EP X b a Q) X.xe s
def xK(X:Cx)(f:ak->Sem ak)(r:V->Hp->VK->Prop):Prop :=
 ∀(b:List (ag×Obj)) (s:aq) (a:St) (H:Hp) (x:V) (v:ak) (Q:VK),Inv X b a H s->RelV x v->r x H Q ->
  ax (aH X.prog X.w) X.A (f v) (EP X b a Q) X.xe s
def gn(X:Cx)(f:ak)(r:List V->Hp->VK->Prop):Prop :=
 ∀(d:List (ag×Obj)) (s:aq) (a:St) (H:Hp) (b:List V) (c:List ak) (Q:VK),Inv X d a H s->cf b c->r b H Q ->
  ax (aH X.prog X.w) X.A (call f c) (EP X d a Q) X.xe s
def vM(r:R2)(c b:TE):TE:=λa H Q=>c a H λx f=>b a f λy d=>r x y d Q
def O8(r:V->Hp->VK->Prop)(b:TE):TE:=λa H Q=>b a H λx c=>r x c Q
def rI(C:Int->Int->Prop)(g:Int->Int->V):R2:=λx y H Q=>∃i j,x=.int i/\y=.int j/\C i j/\Q (g i j) H
def ku(g:Int->Int->V):R2:=λx y H Q=>∃i j,x=.int i/\y=.int j/\Q (g i j) H
def rU(g:Int->V):V->Hp->VK->Prop:=λx H Q=>∃i,x=.int i/\Q (g i) H
section
variable{X:Cx}{a b c:aD}{d m n:TE}{l:Pos}
theorem AV(E:PE X a d)(D:PE X b m){q:List (ag×Obj)}{s:aq}{g:St}{H:Hp}{R:V->V->Hp->Prop}(I:Inv X q g H s)(h:d g H λx r=>m g r λy i=>R x y i) {Q:ak->aq->Prop}{f:ak->ak->Sem ak}(C:∀v u p x y i,Inv X q g i p->RelV x v->RelV y u->R x y i->ax (aH X.prog X.w) X.A (f v u) Q X.xe p):ax (aH X.prog X.w) X.A (bq a X.env) (λv o=>ax (aH X.prog X.w) X.A (bq b X.env) (λu j=>ax (aH X.prog X.w) X.A (f v u) Q X.xe j) X.xe o) X.xe s:=by refine a9 (E q s g H _ I h) λv t ⟨x,r,G,z,B⟩=>?_;refine a9 (D q t g r _ G B) λu p ⟨y,i,F,w,A⟩=>?_;exact C v u p x y i F z w A
theorem Iw{f:Operator}{r:R2}(p:b8 X (i5 f) r)(w:PE X a d)(t:PE X b m):PE X (.BinOp a f b l) (vM r d m):=by intro z s g H Q I h;exact wpAny_BinOp (AV w t I h λv u i x y B A o j q=>p z i g B x y v u Q A o j q)
theorem Pk{g:UnaryOp}{r:V->Hp->VK->Prop}(q:xK X (unaryOp g) r)(t:PE X a d):PE X (.UnaryOp g a l) (O8 r d):=by intro i s f H Q I h;exact UnaryOp_ (a9 (t i s f H _ I h) λv j ⟨x,w,u,o,p⟩=>q i j f w x v Q u o p)
theorem FC{f:ak->ak->Sem ak}{C:Int->Int->Prop}{g:Int->Int->Int}(o:∀(i j:Int) (t u:Tok) (s:aq) (Q:ak->aq->Prop) (E:ak->aq->Prop),C i j->Q (.int (g i j) s.toks) {s with toks:=s.toks+1}->ax (aH X.prog X.w) X.A (f (.int i t) (.int j u)) Q E s):b8 X f (rI C λi j=>.int (g i j)):=by intro B s A H x y v u Q I w r h;obtain⟨i,j,rfl,rfl,z,q⟩:=h;obtain⟨t,rfl⟩:=w;obtain⟨p,rfl⟩:=r;exact o i j t p s _ _ z ⟨.int (g i j),H,I.tok _,⟨_,rfl⟩,q⟩
theorem EL{f:ak->ak->Sem ak}{g:Int->Int->Int}(o:∀(i j:Int) (t u:Tok) (s:aq) (Q:ak->aq->Prop) (E:ak->aq->Prop),Q (.int (g i j) s.toks) {s with toks:=s.toks+1}->ax (aH X.prog X.w) X.A (f (.int i t) (.int j u)) Q E s):b8 X f (ku λi j=>.int (g i j)):=by intro A s z H x y v u Q I w r h;obtain⟨i,j,rfl,rfl,q⟩:=h;obtain⟨t,rfl⟩:=w;obtain⟨p,rfl⟩:=r;exact o i j t p s _ _ ⟨.int (g i j),H,I.tok _,⟨_,rfl⟩,q⟩
theorem xR{f:ak->ak->Sem ak}{g:Int->Int->Bool}(o:∀(i j:Int) (t u:Tok) (s:aq) (Q:ak->aq->Prop) (E:ak->aq->Prop),Q (.bool (g i j)) s->ax (aH X.prog X.w) X.A (f (.int i t) (.int j u)) Q E s):b8 X f (ku λi j=>.bl (g i j)):=by intro A s z H x y v u Q I w r h;obtain⟨i,j,rfl,rfl,q⟩:=h;obtain⟨t,rfl⟩:=w;obtain⟨p,rfl⟩:=r;exact o i j t p s _ _ ⟨.bl (g i j),H,I,rfl,q⟩
def Ai(i j:Int):Prop:=(-(2^64)<i/\i<2^64)\/(-(2^64)<j/\j<2^64)
theorem Ai.ok{i j:Int}(h:Ai i j):IntMulOk i j:=by
 rcases h with⟨h1,h2⟩|⟨h1,h2⟩
 .exact .of_left (intBits_le_64 h1 h2)
 .exact .of_right (intBits_le_64 h1 h2)
theorem RJ:b8 X (i5 .Add) (ku λi j=>.int (i+j)):=EL λ_ _ _ _ _ _ _ q=>add_int q
theorem nq:b8 X (i5 .Sub) (ku λi j=>.int (i-j)):=EL λ_ _ _ _ _ _ _ q=>sub_int q
theorem Rv:b8 X (i5 .Mult) (rI Ai λi j=>.int (i*j)):=FC λ_ _ _ _ _ _ _ f q=>mul_int q f.ok
theorem vJ:b8 X (i5 .Mod) (rI (λ_ j=>0<j) λi j=>.int (i % j)):=FC λi j _ _ _ _ _ f q=>by have g:(0:Int)<j:=f;exact mod_int' ∅ (by rw[Int.fmod_eq_emod_of_nonneg i ∅];exact q)
theorem IZ{f:ak->Sem ak}{g:Int->Int}(j:∀(i:Int) (t:Tok) (s:aq) (Q:ak->aq->Prop) (E:ak->aq->Prop),Q (.int (g i) s.toks) {s with toks:=s.toks+1}->ax (aH X.prog X.w) X.A (f (.int i t)) Q E s):xK X f (rU λi=>.int (g i)):=by intro r s p H x v Q I o h;obtain⟨i,rfl,q⟩:=h;obtain⟨t,rfl⟩:=o;exact j i t s _ _ ⟨.int (g i),H,I.tok _,⟨_,rfl⟩,q⟩
theorem iP:xK X (unaryOp .USub) (rU λi=>.int (-i)):=IZ λ_ _ _ _ _ q=>neg_int q
end
def pc:V->V->Bool
 |.non,.non=>ae|.non,.int _=>ae|.int _,.non=>ae|.non,.bl _=>ae|.bl _,.non=>ae|.non,.str _=>ae|.str _,.non=>ae
 |.int _,.int _=>ae|.bl _,.bl _=>ae|.str _,.str _=>ae|.byt _,.byt _=>ae
 |.int _,.str _=>ae|.str _,.int _=>ae|.bl _,.str _=>ae|.str _,.bl _=>ae
 |_,_=>aj
def Fa:R2:=λx y H Q=>pc x y=ae/\Q (.bl (decide (x=y))) H
def D9:R2:=λx y H Q=>pc x y=ae/\Q (.bl (!decide (x=y))) H
theorem ER{i j:Int}:decide (V.int i=V.int j)=(i == j):=by rw[mS];simp
theorem Ee{i j:Bool}:decide (V.bl i=V.bl j)=(i == j):=by rw[mS];simp
theorem Dk{i j:Str}:decide (V.str i=V.str j)=(i == j):=by rw[mS];simp
theorem G7{i j:Array UInt8}:decide (V.byt i=V.byt j)=(i.toList == j.toList):=by
 rw[mS];cases i;cases j;simp
section
variable{X:Cx}{a b c:aD}{l g o:TE}{m:Pos}
theorem dH{h:List (ag×Obj)}{d:St}{H:Hp}{s:aq}{Q:VK}{k f:Bool}(I:Inv X h d H s)(q:Q (.bl k) H)(e:k=f):EP X h d Q (.bool f) s:=by subst e;exact⟨.bl k,H,I,rfl,q⟩
theorem RE:b8 X (d_ .Eq) Fa:=by
 intro w s r H x y v u Q I p d h;obtain⟨n,q⟩:=h;cases x with
 |non=>
  cases p;cases y with
  |non=>cases d;exact PySem.EqNone.eq_none_none (dH I q (by simp))
  |bl j=>cases d;exact PySem.EqNone.eq_none_bool (dH I q (by simp))
  |int j=>obtain⟨f,rfl⟩:=d;exact PySem.EqNone.eq_none_int (dH I q (by simp))
  |str j=>obtain⟨f,rfl⟩:=d;exact PySem.EqNone.eq_none_str (dH I q (by simp))
  |_=>exact absurd (show aj=ae from n) fV
 |bl i=>
  cases p;cases y with
  |non=>cases d;exact PySem.EqNone.eq_bool_none (dH I q (by simp))
  |bl j=>cases d;exact eq_bool (dH I q Ee)
  |str j=>obtain⟨f,rfl⟩:=d;exact PySem.EqMixed.eq_bool_str (dH I q (by simp))
  |_=>exact absurd (show aj=ae from n) fV
 |int i=>
  obtain⟨t,rfl⟩:=p;cases y with
  |non=>cases d;exact PySem.EqNone.eq_int_none (dH I q (by simp))
  |int j=>obtain⟨f,rfl⟩:=d;exact eq_int (dH I q ER)
  |str j=>obtain⟨f,rfl⟩:=d;exact PySem.EqMixed.eq_int_str (dH I q (by simp))
  |_=>exact absurd (show aj=ae from n) fV
 |str i=>
  obtain⟨t,rfl⟩:=p;cases y with
  |non=>cases d;exact PySem.EqNone.eq_str_none (dH I q (by simp))
  |bl j=>cases d;exact PySem.EqMixed.eq_str_bool (dH I q (by simp))
  |int j=>obtain⟨f,rfl⟩:=d;exact PySem.EqMixed.eq_str_int (dH I q (by simp))
  |str j=>obtain⟨f,rfl⟩:=d;exact eq_str (dH I q Dk)
  |_=>exact absurd (show aj=ae from n) fV
 |byt i=>
  obtain⟨t,rfl⟩:=p;cases y with
  |byt j=>obtain⟨f,rfl⟩:=d;exact PySem.W.eq_bytes (dH I q G7)
  |_=>exact absurd (show aj=ae from n) fV
 |_=>cases y <;> exact absurd (show aj=ae from n) fV
theorem RX:b8 X (d_ .NotEq) D9:=by
 intro w s r H x y v u Q I p d h;obtain⟨n,q⟩:=h;cases x with
 |non=>
  cases p;cases y with
  |non=>cases d;exact PySem.EqNone.ne_none_none (dH I q (by simp))
  |bl j=>cases d;exact PySem.EqNone.ne_none_bool (dH I q (by simp))
  |int j=>obtain⟨f,rfl⟩:=d;exact PySem.EqNone.ne_none_int (dH I q (by simp))
  |str j=>obtain⟨f,rfl⟩:=d;exact PySem.EqNone.ne_none_str (dH I q (by simp))
  |_=>exact absurd (show aj=ae from n) fV
 |bl i=>
  cases p;cases y with
  |non=>cases d;exact PySem.EqNone.ne_bool_none (dH I q (by simp))
  |bl j=>cases d;exact ne_bool (dH I q (congrArg not Ee))
  |str j=>obtain⟨f,rfl⟩:=d;exact PySem.EqMixed.ne_bool_str (dH I q (by simp))
  |_=>exact absurd (show aj=ae from n) fV
 |int i=>
  obtain⟨t,rfl⟩:=p;cases y with
  |non=>cases d;exact PySem.EqNone.ne_int_none (dH I q (by simp))
  |int j=>obtain⟨f,rfl⟩:=d;exact ne_int (dH I q (congrArg not ER))
  |str j=>obtain⟨f,rfl⟩:=d;exact PySem.EqMixed.ne_int_str (dH I q (by simp))
  |_=>exact absurd (show aj=ae from n) fV
 |str i=>
  obtain⟨t,rfl⟩:=p;cases y with
  |non=>cases d;exact PySem.EqNone.ne_str_none (dH I q (by simp))
  |bl j=>cases d;exact PySem.EqMixed.ne_str_bool (dH I q (by simp))
  |int j=>obtain⟨f,rfl⟩:=d;exact PySem.EqMixed.ne_str_int (dH I q (by simp))
  |str j=>obtain⟨f,rfl⟩:=d;exact ne_str (dH I q (congrArg not Dk))
  |_=>exact absurd (show aj=ae from n) fV
 |byt i=>
  obtain⟨t,rfl⟩:=p;cases y with
  |byt j=>obtain⟨f,rfl⟩:=d;exact PySem.W.ne_bytes (dH I q (congrArg not G7))
  |_=>exact absurd (show aj=ae from n) fV
 |_=>cases y <;> exact absurd (show aj=ae from n) fV
theorem nU:b8 X (d_ .Lt) (ku λi j=>.bl (decide (i<j))):=xR λ_ _ _ _ _ _ _ q=>lt_int q
theorem lh:b8 X (d_ .LtE) (ku λi j=>.bl (decide (i<=j))):=xR λ_ _ _ _ _ _ _ q=>le_int q
theorem nA:b8 X (d_ .Gt) (ku λi j=>.bl (decide (j<i))):=xR λ_ _ _ _ _ _ _ q=>gt_int q
theorem Ng:b8 X (d_ .GtE) (ku λi j=>.bl (decide (j<=i))):=xR λ_ _ _ _ _ _ _ q=>ge_int q
theorem Rz:b8 X (d_ .In) (λx y H Q=>∃i j,x=.str i/\y=.str j/\Q (.bl (!(xS j i 0 j.length 1).isEmpty)) H):=by intro r s n H x y v u Q I f d h;obtain⟨i,j,rfl,rfl,q⟩:=h;obtain⟨t,rfl⟩:=f;obtain⟨p,rfl⟩:=d;exact in_str (dH I q rfl)
theorem IB:b8 X (d_ .Is) (λx y H Q=>y=.non/\Q (.bl (decide (x=.non))) H):=by
 intro j s i H x y v u Q I d f h;obtain⟨rfl,q⟩:=h;cases f;refine is_none_gen (dH I q ?_);cases x <;> first
  | (cases d;rfl)
  | (obtain⟨t,rfl⟩:=d;rfl)
theorem LG:b8 X (d_ .IsNot) (λx y H Q=>y=.non/\Q (.bl (!decide (x=.non))) H):=by
 intro j s i H x y v u Q I d f h;obtain⟨rfl,q⟩:=h;cases f;refine isnot_none_gen (dH I q ?_);cases x <;> first
  | (cases d;rfl)
  | (obtain⟨t,rfl⟩:=d;rfl)
theorem b8.or{f:ak->ak->Sem ak}{r n:R2}(h:b8 X f r)(t:b8 X f n):b8 X f (λx y H Q=>r x y H Q\/n x y H Q):=by
 intro p s d H x y v u Q I j i q;rcases q with q|q
 .exact h p s d H x y v u Q I j i q
 .exact t p s d H x y v u Q I j i q
theorem O6{d:CmpOp}{r:R2}(p:b8 X (d_ d) r)(z:PE X a l)(w:PE X b g)(t:pL d b=aj):PE X (.Compare a [d] [b] m) (vM r l g):=by intro A s f H Q I h;exact wpAny_Compare1 (AV z w I h λv u i x y C B n j q=>p A i f C x y v u Q B n j q) t
def El(t:TE):TT:=λd H Q=>t d H λx f=>∃k,x=.bl k/\Q k f
theorem LB{f:CmpOp}{r:R2}(C:b8 X (d_ f) r)(F:PE X a l)(E:PE X b g)(D:pL f b=aj):PT X (.Compare a [f] [b] m) (El (vM r l g)):=by
 intro i s d H Q I h;refine wpAny_isTrue_Compare1 (a9 (F i s d H _ I h) λv n ⟨x,N,K,t,B⟩=>a9 (E i n d N _ K B) λu j ⟨y,M,J,q,A⟩=>a9 (C i j d M x y v u _ J t q A) λc O ⟨z,L,G,p,k,e,w⟩=>?_) D;subst e;cases p;exact lH ⟨L,G,w⟩
def zb(r i:R2)(l g o:TE):TE:=λd H Q=>l d H λx p=>g d p λy n=>r x y n λz f=>∃k,z=.bl k /\
 (if k=ae then o d f λh j=>i y h j Q else Q (.bl aj) f)
theorem N1{n f:CmpOp}{r q:R2}(S:b8 X (d_ n) r)(P:b8 X (d_ f) q)(Z:PE X a l)(Y:PE X b g)(W:PE X c o)(T:lastMarks [n,f] [b,c]=aj:=by with_unfolding_all rfl):PE X (.Compare a [n,f] [b,c] m) (zb r q l g o):=by
 intro j s i H Q I h;refine Compare_chain (a9 (Z j s i H _ I h) λv G ⟨x,H1,I1,L,O⟩=>chain_link (a9 (Y j G i H1 _ I1 O) λu F ⟨y,H2,I2,p,N⟩=>a9 (S j F i H2 x y v u _ I2 L p N) λd E ⟨z,A,w,K,k,e,t⟩=>?_)) T;subst e;cases K;refine lH ?_;cases k with
 |false=>exact ite_ff ⟨.bl aj,A,w,rfl,t⟩
 |true=>exact ite_tt (chain_last (a9 (W j E i A _ w t) λC D ⟨B,H4,I4,J,M⟩=>P j D i H4 y B u C Q I4 p J M))
theorem OB{n f:CmpOp}{r q:R2}(Y:b8 X (d_ n) r)(W:b8 X (d_ f) q)(ha:PE X a l)(hb:PE X b g)(hc:PE X c o)(Z:lastMarks [n,f] [b,c]=aj:=by with_unfolding_all rfl):PT X (.Compare a [n,f] [b,c] m) (El (zb r q l g o)):=by
 intro j s i H Q I h;refine isTrue_chain (a9 (ha j s i H _ I h) λv G ⟨x,H1,I1,M,S⟩=>test_link (a9 (hb j G i H1 _ I1 S) λu F ⟨y,H2,I2,p,P⟩=>a9 (Y j F i H2 x y v u _ I2 M p P) λd E ⟨z,A,w,L,k,e,t⟩=>?_)) Z;subst e;cases L;refine lH ?_;cases k with
 |false=>
  obtain⟨k',e',T⟩:=t;cases e';exact ite_ff ⟨A,w,T⟩
 |true=>
  refine ite_tt (test_last (a9 (hc j E i A _ w t) λC D ⟨B,H4,I4,K,O⟩=>a9 (W j D i H4 y B u C _ I4 p K O) λd' s5 ⟨z2,H5,I5,J,k2,e2,N⟩=>?_));subst e2;cases J;exact lH ⟨H5,I5,N⟩
theorem wd:(bB:Nat)<2^63:=by rw[pM];decide
theorem La:b8 X (i5 .Add) (λx y H Q=>∃i j,x=.str i/\y=.str j/\i.length+j.length<=bB/\Q (.str (i++j)) H):=by intro z s r H x y v u Q I n f h;obtain⟨i,j,rfl,rfl,p,q⟩:=h;obtain⟨t,rfl⟩:=n;obtain⟨d,rfl⟩:=f;exact add_str (λd w=>⟨.str (i++j),H,I.tok _,⟨_,rfl⟩,q⟩) p
theorem vals1{x:V}{d:List ak}(r:cf [x] d):∃u,d=[u]/\RelV x u:=by
 cases r with
 |cons h f=>cases f;exact⟨_,rfl,h⟩
theorem vals2{x y:V}{f:List ak}(r:cf [x,y] f):∃u d,f=[u,d]/\RelV x u/\RelV y d:=by
 cases r with
 |cons n j=>
  cases j with
  |cons i h=>cases h;exact⟨_,_,rfl,n,i⟩
def Df(K:aA)(x:V)(H:Hp)(n:Nat):Prop :=
 match x with
 |.str y=>y.length<=bB/\n=y.length
 |.byt y=>y.size<=bB/\n=y.size
 |.ref p=>(∃d,cI K H p d/\n=d.length)\/∃d,cD K H p d/\n=d.length
 |_=>False
theorem dJ:gn X (.builtin "len") (λd H Q=>∃x n,d=[x]/\Df X.K x H n/\Q (.int n) H):=by
 intro G s C H d D Q I r h;obtain⟨x,n,rfl,e,q⟩:=h;obtain⟨u,rfl,i⟩:=vals1 r;have F:=wd;have E:bB=16777216:=pM;cases x with
 |str y=>obtain⟨t,rfl⟩:=i;obtain⟨B,f⟩:y.length<=bB/\n=y.length:=e;subst f;exact len_str ∅ ⟨.int _,H,I.tok _,⟨_,rfl⟩,q⟩
 |byt y=>obtain⟨t,rfl⟩:=i;obtain⟨B,f⟩:y.size<=bB/\n=y.size:=e;subst f;exact PySem.W.len_bytes ∅ ⟨.int _,H,I.tok _,⟨_,rfl⟩,q⟩
 |ref p=>
  cases i;have f:(∃d,cI X.K H p d/\n=d.length)\/∃d,cD X.K H p d/\n=d.length:=e;rcases f with⟨d,hx,f⟩|⟨d,hx,f⟩
  .subst f;obtain⟨w,j,v,A⟩:=I.list hx;have z:=j.length;exact Calls.call_len_list v.isList (by simp only[ef];lia) ⟨.int d.length,H,I.tok _,⟨_,by simp only[ef];rw[z]⟩,q⟩
  .subst f;obtain⟨w,j,v,A⟩:=I.tuple hx;have z:=j.length;exact len_tuple v (by simp only[ef];lia) ⟨.int d.length,H,I.tok _,⟨_,by simp only[ef];rw[z]⟩,q⟩
 |_=>exact(show False from e).elim
end
structure G4(h:aJ)(x dx C:ag)(mA:Str->Option ak):Prop where
 obj:h.get? x=aa (PySem.W.instObj C dx)
 ns:h.Ns1 dx mA
 ne:dx≠x
theorem OT{h:aJ}{g:ag}{d:Str->Option ak}(n:h.Ns1 g d):∃c,h.get? g=aa c/\∀b,PySem.W.lookIn b c=aa (d b):=by
 obtain⟨o,f,u,l,r,p,_,m⟩:=n;refine⟨o,l,λb=>?_⟩;have e:=m b;unfold nsFind findBy at e;rw[<-Array.find?_toList]at e;unfold PySem.W.lookIn;rw[r];dsimp only;split
 .rename_i y q;rw[q]at e;exact congrArg aa e
 .rename_i q;rw[q]at e;have a:f.toList.any (·.refKey)=aj:=by rw[Hn];intro y j;obtain⟨z,t,i⟩:=p y (Array.mem_toList_iff.mp j);simp[DictEntry.refKey,i]
  have s:¬f.toList.any (·.refKey)=ae:=by rw[a];exact fV
  rw[if_neg s];exact congrArg aa e
theorem G4.look{h:aJ}{x d C:ag}{c:Str->Option ak}(I:G4 h x d C c):∃b,PySem.W.InstAt h x (PySem.W.instObj C d) C (aa b)/\∀a,PySem.W.lookIn a b=aa (c a) :=
 let ⟨b,ho,hl⟩:=OT I.ns
 ⟨b,⟨I.obj,rfl,rfl,ho⟩,hl⟩
theorem nZ.some_of{v:V}{o:Option ak}(r:nZ (aa v) o):∃u,o=aa u/\RelV v u:=by
 cases o with
 |none=>exact(show False from r).elim
 |some u=>exact⟨u,rfl,r⟩
section
variable{P:bv}{w:bc}{H i:Hp}{h g:aJ}{a C b:ag}{fs c:List (Str×V)}
theorem MZ(l:eD P w H h)(e:H a=aa (.ins C b fs)):∃j,G4 h a b C j/\(∀f,nZ (fs.lookup f) (j f))/\PySem.Within j (fs.map (·.1))/\fs.length<=1000/\H b=aa (.own a):=by
 obtain⟨d,z,o,m,j,n,r,q⟩:=(show eh P w H h a (.ins C b fs)from l a _ e)
 exact⟨j,⟨m,n,o⟩,r,q,z,d⟩
end
structure E7(K:aA)(C:ag):Prop where
 pg:PySem.W.plainGet K C kT=ae
 hd:PySem.W.hasDictIn K C=ae
 po:PySem.W.plainOver K C=ae
 sa:xT K (.ref C) "__setattr__"=aa (aa (.builtin "object.__setattr__"))
theorem E7.get{K:aA}{C:ag}(c:E7 K C)(f:Str):PySem.W.plainGet K C f=ae:=c.pg
section
variable{X:Cx}{f:List (ag×Obj)}{d:St}{H:Hp}{s:aq}{A:bG}{E:ak->aq->Prop}{Q:ak->aq->Prop}{c:ak}{b:Bool}
inductive iY(K:aA)(H:Hp):V->ak->Prop where
 |non:iY K H .non (.type "NoneType")
 |bl (x:Bool):iY K H (.bl x) (.type "bool")
 |int (i:Int):iY K H (.int i) (.type "int")
 |str (x:Str):iY K H (.str x) (.type "str")
 |flt (x:UInt64):iY K H (.flt x) (.type "float")
 |lst {a:ag}{xs:List V} (e:H a=aa (.lst xs)):iY K H (.ref a) (.type "list")
 |frz {a:ag}{o:Obj}{xs:List V} (e:H a=aa (.frz o (.lst xs))):iY K H (.ref a) (.type "list")
 |tup {a:ag}{xs:List V} (e:H a=aa (.tup xs)):iY K H (.ref a) (.type "tuple")
 |dK {a:ag}{kvs:List (aP×V)} (e:H a=aa (.dK kvs)):iY K H (.ref a) (.type "dict")
 |dT {a:ag}{kvs:List (List aP×V)} (e:H a=aa (.dT kvs)):iY K H (.ref a) (.type "dict")
 |ins {a C dx:ag}{fs:List (Str×V)} (e:H a=aa (.ins C dx fs)) (cl:E7 K C) (ha:xT K (.ref C) "__class__"=aa (aa (.builtin "object.__class__")))
   (hn:PySem.W.specialIn K (.builtin "object.__class__") "__get__"=aa (aa (.builtin "getset_descriptor.__get__"))) (uW:PySem.W.takesIn K (.builtin "object.__class__")=aa ae)
   (hm:PySem.W.mroIn K C (.type "object")=aa ae):iY K H (.ref a) (.ref C)
theorem LJ{x:V}{u t:ak}(I:Inv X f d H s)(g:RelV x u)(ty:iY X.K H x t)(e:dD X.K t c=aa b)(h:∀r,Q (.bool b) {s with toks:=r}):ax (aH X.prog X.w) A (call (.builtin "isinstance") [u,c]) Q E s:=by
 cases ty with
 |non=>cases (show u=Value.none from g);exact lJ PySem.W.kitx_none I.kIn True.intro e (λz=>nomatch z) h
 |bl y=>cases (show u=Value.bool y from g);exact lJ PySem.W.kitx_bool I.kIn True.intro e (λz=>nomatch z) h
 |int i=>obtain⟨t,q⟩:=(show ∃t,u=Value.int i t from g);cases q;exact lJ PySem.W.kitx_int I.kIn True.intro e (λz=>nomatch z) h
 |str y=>obtain⟨t,q⟩:=(show ∃t,u=Value.str y t from g);cases q;exact lJ PySem.W.kitx_str I.kIn True.intro e (λz=>nomatch z) h
 |flt y=>obtain⟨t,q⟩:=(show ∃t,u=Value.float y t from g);cases q;exact lJ PySem.W.kitx_float I.kIn True.intro e (λz=>nomatch z) h
 |@lst a l ea=>
  cases (show u=Value.ref a from g);obtain⟨_,_,n,_,j⟩:=(show eh X.prog X.w H s.heap a (.lst l)from I.hok a _ ea)
  exact lJ PySem.W.kitx_list I.kIn ⟨_,j,rfl⟩ e (λz=>nomatch z) h
 |@frz a ob l ea=>
  cases (show u=Value.ref a from g);obtain⟨_,_,_,n,_,j⟩:=(show eh X.prog X.w H s.heap a (.frz ob (.lst l))from I.hok a _ ea)
  exact lJ PySem.W.kitx_list I.kIn ⟨_,j,rfl⟩ e (λz=>nomatch z) h
 |@tup a l ea=>
  cases (show u=Value.ref a from g);obtain⟨_,_,_,p,_⟩:=(show eh X.prog X.w H s.heap a (.tup l)from I.hok a _ ea)
  obtain⟨o,j,m,_⟩:=p;exact lJ PySem.W.kitx_tuple I.kIn ⟨o,j,m⟩ e (λz=>nomatch z) h
 |@dK a kvs ea=>
  cases (show u=Value.ref a from g);obtain⟨_,_,B,_,p⟩:=(show eh X.prog X.w H s.heap a (.dK kvs)from I.hok a _ ea)
  obtain⟨o,v,w,j,m,_⟩:=p;exact lJ PySem.W.kitx_dict I.kIn ⟨o,j,m.1⟩ e (λz=>nomatch z) h
 |@dT a kvs ea=>
  cases (show u=Value.ref a from g);obtain⟨_,_,l,_,o,v,w,j,m,_⟩:=(show eh X.prog X.w H s.heap a (.dT kvs)from I.hok a _ ea)
  exact lJ PySem.W.kitx_dict I.kIn ⟨o,j,m.1⟩ e (λz=>nomatch z) h
 |@ins a C dx fs ea cl ha hn uW hm=>
  cases (show u=Value.ref a from g);obtain⟨F,O,_⟩:=MZ I.hok ea;obtain⟨D,J,_⟩:=O.look;exact lJ (PySem.W.kitx_own (cl.get _) cl.hd ha hn uW hm) I.kIn J e (λz=>nomatch z) h
end
structure gF(k:Nat)(A:bG):Prop where
 hd:A.handled=ah
 dp:A.depth+3*k+5<recursionLimit
 un:A.units+16*k+200<cLine
theorem gF.mono{j k:Nat}{A:bG}(r:gF k A)(h:j<=k):gF j A:=⟨r.hd,by have:=r.dp;lia,by have:=r.un;lia⟩
theorem gF.deeper{k:Nat}{A:bG}(r:gF (k+1) A)(a:Env):gF k (A.deeper a) :=⟨r.hd,by have:=r.dp;show A.depth+1+3*k+5<_;lia,by have:=r.un;show A.units+3+16*k+200<_;lia⟩
theorem gF.depth{k:Nat}{A:bG}(r:gF k A):A.depth<recursionLimit:=by have:=r.dp;lia
theorem gF.units{k:Nat}{A:bG}(r:gF k A):A.units+64<cLine:=by have:=r.un;lia
def Ls:TA:=λ_ H Q=>Q [] H
def Lh(d:TE)(c:TA):TA:=λa H Q=>d a H λx g=>c a g λb f=>Q (x::b) f
section
variable{X:Cx}{e:aD}{es:List aD}{c:TE}{t:TA}{a:Pos}
theorem lw:PA X [] Ls:=λ_ _ _ _ H Q I h=>Ho ⟨[],H,I,.nil,h⟩
theorem jH(p:PE X e c)(o:PA X es t)(n:bo (e::es) X.env=(aj,bq e X.env)::bo es X.env:=by rfl):PA X (e::es) (Lh c t):=by intro a d s b H Q I h;rw[n];show ax _ _ (spliced ((aj,bq e X.env)::fk a (bo es X.env))) _ _ s;refine Bs (a9 (p d s b H _ I h) λu g ⟨x,w,r,j,m⟩=>?_);exact a9 (o a d g b w _ r m) λy z ⟨f,v,q,i,l⟩=>⟨x::f,v,q,.cons j i,l⟩
def Nc(t:TA):TE:=λf H Q=>t f H λb d=>b.length<=bB/\∀p,d p=ah->Q (.ref p) (upd d p (.tup b))
def Jl(t:TA):TE:=λf H Q=>t f H λb d=>b.length<=bB/\∀p,d p=ah->Q (.ref p) (upd d p (.lst b))
theorem Kn{x1}(h:PA X es t):PE X (.Tuple es x1 a) (Nc t):=by intro o s i H Q I m;refine wpAny_Tuple_spliced (a9 (h a o s i H _ I m) λl d ⟨j,g,f,r,z,q⟩=>⟨by rw[<-r.length];exact z,?_⟩);have n:g d.heap.objs.size=ah:=f.hok.fresh (bC _);refine⟨.ref d.heap.objs.size,upd g d.heap.objs.size (.tup j),f.laid (t':=d.toks) (λb u e=>bz _ e) (bC _) ?_,rfl,q _ n⟩;exact⟨z,l,r,⟨⟨_,cL _ rfl,rfl,_,rfl⟩,_,cL _ rfl,rfl⟩⟩
theorem Ql(h:PA X es t):PE X (.List es a) (Jl t):=by intro o s i H Q I m;refine wpAny_List_spliced (a9 (h a o s i H _ I m) λl d ⟨j,g,f,r,z,q⟩=>⟨by rw[<-r.length];exact z,?_⟩);have n:g d.heap.objs.size=ah:=f.hok.fresh (bC _);refine⟨.ref d.heap.objs.size,upd g d.heap.objs.size (.lst j),f.laid (t':=d.toks) (λb u e=>bz _ e) (bC _) ?_,rfl,q _ n⟩;exact⟨z,l,0,r,cL _ rfl⟩
end
abbrev Sp:=List V->Hp->VK->XK->Prop
abbrev gR:=List Env->Hp->aq->XK->ak->aq->Prop
structure v8(P:bv)(w:bc)(K:aA)(mg:Str->Option ak)(base:aJ)(A:bG)(outer:List Env)(s:aq)(H:Hp):Prop where
 frames:A.frames=aa outer
 mod:Mod K mg base
 bs:∀b o,base.get? b=aa o->s.heap.get? b=aa o/\H b=ah
 bsz:base.objs.size<=s.heap.objs.size
 funs:s.heap.FunFrames base outer
 frf:∀b∈gs outer,H b=ah
 hok:eD P w H s.heap
 bare:mP s.gens
 tab:vz K H
def CE(a:List Env)(P:bv)(w:bc)(H:Hp)(s:aq)(Q:VK)(u:ak)(b:aq):Prop :=
 ∃v c,b.os=s.os/\mP b.gens/\Un (gs a) [] H c s.heap b.heap/\eD P w c b.heap/\RelV v u/\Q v c
def CR(c:gR)(a:List Env)(P:bv)(w:bc)(H:Hp)(s:aq)(Q:VK)(E:XK)(r:Result)(b:aq):Prop :=
 match r with
 |.ok (.ret u)=>CE a P w H s Q u b
 |.ok _=>False
 |.error e=>c a H s E e b
structure kw(P:bv)(w:bc)(K:aA)(mg:Str->Option ak)(base:aJ)(CX:gR)(k:Nat)(f:ag)(fd:iH)(ps:List Str)(sp:Sp):Prop where
 len:∀vs H Q E,sp vs H Q E->vs.length=ps.length
 run:∀(A:bG) (outer:List Env) (s:aq) (H:Hp) (args:Args) (us:List ak) (vs:List V) (Q:VK) (E:XK),gF k A->v8 P w K mg base A outer s H->BindsTo s fd args (ps.zip us)->cf vs us->sp vs H Q E ->
  pN (aH P w) A (.call (.ref f) args) (CR CX outer P w H s Q E) s
section
variable{X:Cx}{f:List (ag×Obj)}{a:St}{H:Hp}{s c:aq}
theorem Inv.env0(I:Inv X f a H s):v8 X.prog X.w X.K X.mg X.base X.A X.stack s H :=⟨I.ok.frames,I.ok.mod,I.bs,dX I.ok.bsz I.sz,I.stack,I.stkFree,I.hok,I.bare,I.tab⟩
theorem Inv.after{Q:VK}{u:ak}(I:Inv X f a H s)(h:CE X.stack X.prog X.w H s Q u c):EP X f a Q u c:=by obtain⟨v,o,m,i,un,l,r,q⟩:=h;obtain⟨n,g,d,t,j⟩:=c;obtain rfl:j=s.os:=m;exact⟨v,o,I.call (h':=n) (g':=g) (d':=d) (t':=t) (ch:=[]) un l i (λb z=>absurd z (by simp)),r,q⟩
end
def KM(d:Sp)(a:List V)(E:XK)(t:TA):TE:=λb H Q=>t b H λc f=>d (c++a) f Q E
def Binds(K:aA)(d:iH)(b:List Str)(c:List ak):Prop :=
 ∀(s:aq) (a:List ak),K.In s.heap->(a++c).length=b.length->BindsTo s d ⟨a,[]⟩ (b.zip (a++c))
theorem Binds.all{K:aA}{c:iH}{ps:List Str}(h:∀a:List ak,a.length=ps.length->g_ c ⟨a,[]⟩=pure (ps.zip a)):Binds K c ps []:=λs a _ b=>by rw[i6]at b ⊢;exact .of_eq (h a b)
def qM(c:gR)(X:Cx)(E:XK):Prop:=∀(b:List (ag×Obj)) (a:St) (H:Hp) (s:aq) (e:ak) (s':aq),Inv X b a H s->c X.stack H s E e s'->X.xe e s'
section
variable{X:Cx}{l:gR}{k:Nat}{f C:ag}{j:iH}{d:List Str}{i:Sp}{a:List V}{c:List ak}{E:XK}{x m:Str}{p b n:Pos}{e o:aD}{g:List aD}{v:TE}{t:TA}
theorem Ra{A:List (ag×Obj)}{z:St}{H:Hp}{s:aq}{Q:VK}{q:List ak}{y:List V}(F:kw X.prog X.w X.K X.mg X.base l k f j d i)(J:gF k X.A)(M:Binds X.K j d c)(L:cf a c)(G:qM l X E)(I:Inv X A z H s) (r:cf y q) (h:i (y++a) H Q E):ax (aH X.prog X.w) X.A (call (.ref f) q) (EP X A z Q) X.xe s:=by
 have B:cf (y++a) (q++c):=r.append L;have K:(q++c).length=d.length:=by rw[<-B.length];exact F.len _ _ _ _ h
 refine wpAny_call (xU (F.run X.A X.stack s H ⟨q,[]⟩ (q++c) (y++a) Q E J I.env0 (M s q I.kIn K) B h) λr D w=>?_);cases r with
 |error e=>exact G A z H s e D I w
 |ok N=>
  cases N with
  |ret u=>exact I.after w
  |next=>exact lK w
  |brk=>exact lK w
  |cont=>exact lK w
theorem Dq(F:kw X.prog X.w X.K X.mg X.base l k f j d i)(A:gF k X.A)(G:Gl X x)(B:X.mg x=aa (.ref f))(D:uE X.K (.ref f)=ae)(L:Binds X.K j d c)(K:cf a c)(z:qM l X E)(M:PA X (e::g) t) (y:(x==("__debug__":Str))=aj:=by decide) (J:bo (e::g) X.env=(aj,bq e X.env)::bo g X.env:=by rfl) (N:(fk b (bo g X.env)).any (·.1)=aj:=by rfl):PE X (.Call (.Name x p) (e::g) [] b) (KM i a E t):=by intro O s w H Q I h;refine Hq (Bh I G B ?_ y);refine PySem.W.callWith_K (h₀:=X.base) I.ok.mod.kin D (a9 (M b O s w H _ I h) λS T ⟨P,W,u,r,q⟩=>⟨u.kIn,?_⟩) J N;exact Ra F A L K z u r q
end
structure cC(N P:List Str)(sc:eP):Prop where
 kind:sc.kind=.function
 co:sc.isCoroutine=aj
 gen:sc.isGenerator=aj
 nd:N.Nodup
 pre:N.take P.length=P
 par:∀x∈P,sc.names.lookup x=aa .local\/sc.names.lookup x=aa .cell
 nofree:∀y∈sc.names,y.2≠.free
theorem Fc{a:Str->Option gL}{x:Str}:∀{binds:List (Str×ak)}{m:Str->Option ak},(∀v,(x,v)∉binds)->bindL a binds m x=m x
 |[],_,_=>rfl
 | (n,v)::r,m,h=>by
  unfold bindL;rw[Fc λw b=>h w (kb _ b)];split
  .have:x≠n:=by rintro rfl;exact h v mQ
   simp[this]
  .rfl
theorem G9{a:Str->Option gL}{x:Str}:∀{binds:List (Str×ak)}{m:Str->Option ak},(∀v,(x,v)∉binds)->bindC a binds m x=m x
 |[],_,_=>rfl
 | (n,v)::r,m,h=>by
  unfold bindC;rw[G9 λw b=>h w (kb _ b)];split
  .rfl
  .have:x≠n:=by rintro rfl;exact h v mQ
   simp[this]
theorem Dd{a:Str->Option gL}{x:Str}{v:ak}:∀{P:List Str}{b:List ak}{i:Nat}{m:Str->Option ak},P.Nodup->P[i]?=aa x->b[i]?=aa v->a x=aa .local -> bindL a (P.zip b) m x=aa v
 |[],_,_,_,_,h,_,_=>by simp at h
 |_::_,[],_,_,_,_,h,_=>by simp at h
 |p::P,w::b,0,m,nd,h1,h2,hk=>by simp at h1 h2;subst h1;subst h2;show bindL a ((p,w)::P.zip b) m p=_;unfold bindL;rw[Fc λv c=>(jT.mp nd).1 (Bt c).1,if_pos hk];simp
 |p::P,w::b,i+1,m,nd,h1,h2,hk=>by show bindL a ((p,w)::P.zip b) m x=_;unfold bindL;exact Dd (i:=i) (jT.mp nd).2 (by simpa using h1) (by simpa using h2) hk
theorem G0{a:Str->Option gL}{x:Str}{v:ak}:∀{P:List Str}{b:List ak}{i:Nat}{m:Str->Option ak},P.Nodup->P[i]?=aa x->b[i]?=aa v->a x≠aa .local -> bindC a (P.zip b) m x=aa v
 |[],_,_,_,_,h,_,_=>by simp at h
 |_::_,[],_,_,_,_,h,_=>by simp at h
 |p::P,w::b,0,m,nd,h1,h2,hk=>by simp at h1 h2;subst h1;subst h2;show bindC a ((p,w)::P.zip b) m p=_;unfold bindC;rw[G9 λv c=>(jT.mp nd).1 (Bt c).1,if_neg hk];simp
 |p::P,w::b,i+1,m,nd,h1,h2,hk=>by show bindC a ((p,w)::P.zip b) m x=_;unfold bindC;exact G0 (i:=i) (jT.mp nd).2 (by simpa using h1) (by simpa using h2) hk
def start(N:List Str)(a:List V):St:=a.map aa++cr (N.length-a.length) ah
def jG(g:gR)(P:bv)(w:bc)(K:aA)(mg:Str->Option ak)(base:aJ)(N:List Str)(b:Str)(a:eP)(f:ag)(d:ak)(A:bG)(outer:List Env)(s:aq)(H:Hp)(E:XK):Cx where
 prog:=P
 w:=w
 K:=K
 mg:=mg
 base:=base
 A:=A.deeper (kc b a s.heap.objs.size f d)
 N:=N
 s₀:=s
 H₀:=H
 env:=kc b a s.heap.objs.size f d
 outer:=outer
 stack:=kc b a s.heap.objs.size f d::outer
 ex:=[]
 calm:=ae
 fn:=λ_=>ae
 pn:=[]
 xe:=λe s'=>ax (aH P w) (A.deeper (kc b a s.heap.objs.size f d)) (leaving (kc b a s.heap.objs.size f d) e) (λ_ c=>g outer H s E e c) (λh c=>g outer H s E h c) s'
theorem C5{a:eP}{n:Nat}{x:Str}(h:a.names.lookup x=aa .cell):∃c,(gf n a.names []).lookup x=aa c:=by have q:=PySem.W.cellsFrom_some a.names n [] (.inl h);exact Option.isSome_iff_exists.mp q
theorem MI{X:gR}{P:bv}{w:bc}{K:aA}{O:Str->Option ak}{o:aJ}{N B:List Str}{j:Str}{d:eP}{f:ag}{L:ak}{A:bG}{g:List Env}{s Q:aq}{H:Hp}{E:XK}{M:List ak}{t:List V}(S:cC N B d) (Z:A.handled=ah) (m:v8 P w K O o A g s H) (hl:t.length=B.length) (r:cf t M)(x:InCallC s s.heap.objs.size (bindL (kc j d s.heap.objs.size f L).kindOf (B.zip M) λ_=>ah) (gf (s.heap.objs.size+1) d.names []) (bindC (kc j d s.heap.objs.size f L).kindOf (B.zip M) λ_=>ah) Q):Inv (jG X P w K O o N j d f L A g s H E) [] (start N t) H Q:=by
 have eI:B.length<=N.length:=by have:=congrArg n9 S.pre;rw[lL]at this;lia
 obtain⟨J,tk,rfl,W⟩:=x.done;have C:∀b:ag,b∉(jG X P w K O o N j d f L A g s H E).ex:=λb z=>absurd (show b∈([]:List ag)from z) (by simp);refine⟨⟨m.mod,S.kind,rfl,rfl,bC _,λy z c J l=>?_,λy D=>?_,λy c _ h=>?_,λ_=>Z,Around.frames_deeper m.frames,.inr ⟨rfl,rfl⟩,λb z=>absurd z (C b),m.bs,m.bsz,λb _ _=>C b,λb z=>absurd z (C b),m.funs,m.frf,m.tab⟩,rfl,m.bare,Un.kept W,⟨_,x.toInCall.ns,λi y v J l h3=>?_⟩,λy c h=>⟨_,x.cell y c h⟩,m.hok.fresh (bC _),λy c h=>?_,λp G=>absurd (show p∈([]:List (ag×Obj))from G) (by simp),m.hok.kept W,?_⟩
 .exact name_of_addr x.apart (kU J) (kU l)
 .have D:d.names.lookup y=aa .cell\/d.names.lookup y=aa .free:=D;rcases D with D|D
  .exact C5 D
  .exact absurd rfl (S.nofree _ (kU D))
 .exact pJ (x.above y c (kU h))
 .have I:i<t.length:=by
   unfold start at l;by_cases I:i<t.length
   .exact I
   .rw[rm (by simpa using I)]at l;rw[List.getElem?_replicate]at l;split at l <;> cases l
  have ha:t[i]?=aa v:=by
   unfold start at l;rw[i7 (by simpa using I),iI]at l;cases e:t[i]? with
   |none=>rw[e]at l;cases l
   |some a=>rw[e]at l;cases l;rfl
  obtain⟨u,T,Y⟩:=r.get ha;have G:B[i]?=aa y:=by rw[<-S.pre,List.getElem?_take_of_lt ∅];exact J
  have F:B.Nodup:=by rw[<-S.pre];exact S.nd.sublist (List.take_sublist _ _)
  refine⟨u,Y,?_⟩;rcases S.par y (rn G)with k|k
  .exact .inl ⟨k,Dd F G T k⟩
  .obtain⟨c,e⟩:=C5 (n:=s.heap.objs.size+1) k;refine .inr ⟨.inl k,c,e,?_⟩;have q:=x.cell y c e;rw[G0 F G T (by show d.names.lookup y≠_;rw[k];decide)]at q;exact q
 .exact m.hok.fresh (pJ (x.above y c (kU h)))
 .unfold start;show _=N.length;rw[c_,b0,List.length_replicate];lia
theorem IN{M:gR}{P:bv}{w:bc}{K:aA}{L:Str->Option ak}{h:aJ}{k:Nat}{f:ag}{m d:Str}{g:Arguments}{i:List bu}{a:eP}{dV kV F pm z ct oc:ak}{an od:Option ag}{X:Array (Option ak)}{N G:List Str}{O:Sp} (lk:K.lookup f=aa ⟨oc,od,.func (ke m d g i a dV kV F pm an z ct),X⟩) (cO:xV K z d=ae) (S:cC N G a)(len:∀l H Q E,O l H Q E->l.length=G.length)(k9:∀(A:bG) (c:List Env) (s:aq) (H:Hp) (l:List V) (Q:VK) (E:XK),gF k (A.deeper (kc d a s.heap.objs.size f z))->O l H Q E -> ∃t,kK (jG M P w K L h N d a f z A c s H E) i t/\t {nx:=λ_ p=>Q .non p,rt:=Q} (start N l) H):kw P w K L h M (k+1) f (ke m d g i a dV kV F pm an z ct) G O:=by
 refine⟨len,λA c s H args us l Q E Z D hb r lV=>?_⟩;have hl:=len _ _ _ _ lV;have KX:K.In s.heap:=D.mod.kin.keeps λb o e=>(D.bs b o e).1;have Y:s.heap.NoLimit:=D.mod.nolimit.keeps λb o e=>(D.bs b o e).1;have Rk:∀y∈G.zip us,a.names.lookup y.1=aa .local\/(a.names.lookup y.1=aa .cell/\((gf (s.heap.objs.size+1) a.names []).lookup y.1).isSome=ae):=λ⟨n,v⟩ hy=>by
  rcases S.par n (Bt hy).1 with q|q
  .exact .inl q
  .exact .inr ⟨q,PySem.W.cellsFrom_some _ _ _ (.inl q)⟩
 refine codeAny_call_function Z.depth (KX _ _ lk) rfl S.co S.gen rfl (PySem.W.codeRec_of KX cO) (hb _ _ _ _ ?_);refine wpAny_newFunctionEnv_cells S.kind Rk λenv he s1 x=>?_;subst he;refine⟨Y.keeps x.toInCall.keep,codeAny_func ?_⟩;obtain⟨t,ht,hq⟩:=k9 A c s H l Q E (Z.deeper _) lV;have I:Inv (jG M P w K L h N d a f z A c s H E) [] (start N l) H s1:=MI S Z.hd D hl r x;refine gy (ht [] s1 (start N l) H _ I hq) (λfl T B=>?_) λe T B=>B;have C:∀{j:St}{p:Hp}{v:V}{u:ak},Inv (jG M P w K L h N d a f z A c s H E) [] j p T->RelV v u->Q v p->CE c P w H s Q u T :=λ{j p v u} J W q=>⟨v,p,J.os,J.bare,J.base,J.hok,W,q⟩
 cases fl with
 |ret u=>obtain⟨v,j,p,J,W,q⟩:=B;exact C J W q
 |next=>obtain⟨j,p,J,q⟩:=B;exact C (v:=V.non) (u:=Value.none) J rfl q
 |brk=>obtain⟨_,_,_,q⟩:=B;exact lK q
 |cont=>obtain⟨_,_,_,q⟩:=B;exact lK q
section
variable{X:Cx}{x:Str}{p a:Pos}{e:aD}{b:List aD}{t:TA}{c T:String}{r:List V->Hp->VK->Prop}
def F7(r:List V->Hp->VK->Prop)(t:TA):TE:=λd H Q=>t d H λf g=>r f g Q
theorem nX(y:gn X (.builtin c) r)(v:Gl X x)(u:X.mg x=ah)(o:fi x=aa (.builtin c))(z:PA X (e::b) t)(q:x≠"__name__":=by decide)(n:(x==("__debug__":Str))=aj:=by decide)(w:bo (e::b) X.env=(aj,bq e X.env)::bo b X.env:=by rfl) (A:(fk a (bo b X.env)).any (·.1)=aj:=by rfl):PE X (.Call (.Name x p) (e::b) [] a) (F7 r t):=by intro f s d H Q I h;refine Hq (qU I v u o ?_ q n);exact PyProof.Rows.callWith_builtin1 (a9 (z a f s d H _ I h) λi j ⟨g,C,B,l,m⟩=>y f j d C g i Q B l m) w A
theorem AB(y:gn X (.type T) r)(v:Gl X x)(u:X.mg x=ah)(o:fi x=aa (.type T))(z:PA X (e::b) t)(q:x≠"__name__":=by decide)(n:(x==("__debug__":Str))=aj:=by decide)(w:bo (e::b) X.env=(aj,bq e X.env)::bo b X.env:=by rfl) (A:(fk a (bo b X.env)).any (·.1)=aj:=by rfl):PE X (.Call (.Name x p) (e::b) [] a) (F7 r t):=by intro f s d H Q I h;refine Hq (qU I v u o ?_ q n);exact Br (a9 (z a f s d H _ I h) λi j ⟨g,C,B,l,m⟩=>y f j d C g i Q B l m) w A
end
end L2
namespace HT
section
open PySem.SeqAt
open PySem.AutoSeq1 (wpAny_loadPart')
open PySem.MeetsSeq PySem.MeetsSeq2 PySem.MeetsSeq3
end
section
variable{a:bv}{w:bc}{A:bG}{E:ak->aq->Prop}{s:aq}
theorem cat_tup{t b:ag}{d c:List ak}{Q:ak->aq->Prop}(ht:IsTup s.heap t d.toArray)(B:IsTup s.heap b c.toArray)(u:d≠[])(D:c=[]->Q (.ref t) s) (C:c≠[]->Q (.ref s.heap.objs.size) {s with heap:=s.heap.push {cls:=.type "tuple",data:=.seq (d++c).toArray}})(l:d.length+c.length<=bB):ax (aH a w) A (i5 .Add (.ref t) (.ref b)) Q E s:=by
 obtain⟨⟨cls,y,data,o⟩,j,x,n,v⟩:=id ht;obtain⟨⟨z,g,m,f⟩,h,q,r,p⟩:=id B;simp only at x v q p;subst x v q p;have e:d.toArray++c.toArray=(d++c).toArray:=by simp
 by_cases i:c=[]
 .exact concat_meets ⟨_,j,rfl⟩ ⟨_,h,rfl⟩ Hr seq_tuple_add Hs Ht (Hu _ _)
   (tuple_addW1 t b d.toArray c.toArray n r y g o f (by simpa using u) (by simp[i])) ⟨j,h,D i⟩
 .refine concat_meets ⟨_,j,rfl⟩ ⟨_,h,rfl⟩ Hr seq_tuple_add Hs Ht (Hu _ _)
   (tuple_addW2 t b d.toArray c.toArray n r y g o f (by simpa using u) (by simpa using i) (by rw[ef,ef];exact l)) ⟨j,h,?_⟩
  rw[e];exact C i
def sIx(n d:Nat):Option Int->Nat
 |none=>d
 |some v=>if v<0 then(v+(n:Int)).toNat else min v.toNat n
theorem sIx_nat(n d k:Nat):sIx n d (aa (k:Int))=min k n:=by show(if(k:Int)<0 then((k:Int)+(n:Int)).toNat else min (k:Int).toNat n)=min k n;rw[if_neg ∅,iJ]
theorem sIx_le(n d:Nat)(c:d<=n)(o:Option Int):sIx n d o<=n:=by
 cases o with
 |none=>exact c
 |some v=>
  show(if v<0 then(v+(n:Int)).toNat else min v.toNat n)<=n;by_cases b:v<0
  .rw[if_pos b];lia
  .rw[if_neg b];exact Nat.min_le_right _ _
theorem CO(v:Int)(n d:Nat):(if v<0 then max (v+(n:Int)) 0 else min v (n:Int))=((sIx n d (aa v):Nat):Int):=by
 show(if v<0 then max (v+(n:Int)) 0 else min v (n:Int))=(((if v<0 then(v+(n:Int)).toNat else min v.toNat n):Nat):Int)
 by_cases b:v<0
 .simp only[if_pos b];lia
 .simp only[if_neg b];lia
theorem Lo(b c:Option Int)(n:Nat):Hv b c 1 (n:Int)=(((sIx n 0 b:Nat):Int),((sIx n n c:Nat):Int)):=by
 have d:¬((1:Int)<0):=∅
 unfold Hv;simp only[d,if_false];refine Prod.ext ?_ ?_
 .cases b with
  |none=>rfl
  |some v=>exact CO v n 0
 .cases c with
  |none=>rfl
  |some v=>exact CO v n n
theorem Ot(i j:Nat):ro (i:Int) (j:Int) 1=j-i:=by
 unfold ro;have b:(1:Int) > 0:=∅
 simp only[b,if_true,Int.ediv_one];split <;> lia
theorem AZ{v:ak}{o:Option Int}{Q:Option Int->aq->Prop}(p:jU v o)(h:Q o s):ax (aH a w) A (Builtin.Slice.slicePartIndex v) Q E s:=by
 cases p with
 |none=>exact Bu h
 |int i t=>exact slicePart_int h
theorem F6{j:ag}{f d:ak}{b c:Option Int}{n:Nat}{Q:Int×Int×Nat->aq->Prop}(o:s.heap.IsSliceOf j f d .none)(m:jU f b)(l:jU d c)(h:Q (((sIx n 0 b:Nat):Int),1,sIx n n c-sIx n 0 b) s):ax (aH a w) A (Bv (.ref j) (pure (n:Int))) Q E s:=by
 obtain⟨p,i,q,g⟩:=id o;unfold Bv Builtin.Slice.sliceFields;refine au (au (io i g (x:=f) rfl (au (io i g (x:=d) rfl (au (io i g (x:=.none) rfl (aN ?_)))))));refine au (Bu ?_);show ax _ _ (if((1:Int) == 0)=ae then _ else _) _ _ s;rw[if_neg (by decide)];refine au (AZ m (au (AZ l (au (aN ?_)))));show ax _ _ (match Hv b c 1 (n:Int)with | (b,c)=>pure (b,(1:Int),ro b c 1)) _ _ s;rw[Lo b c n];show ax _ _ (pure (((sIx n 0 b:Nat):Int),(1:Int),ro ((sIx n 0 b:Nat):Int) ((sIx n n c:Nat):Int) 1)) _ _ s;rw[Ot];exact aN h
theorem NH(b:Array ak)(i k:Nat):((cg k).filterMap λ(m:Nat)=>b[((i:Int)+(m:Int)*1).toNat]?).toArray=((b.toList.drop i).take k).toArray:=by
 have e:(λ(m:Nat)=>b[((i:Int)+(m:Int)*1).toNat]?)=λm=>b[i+m]?:=by
  funext m;have:((i:Int)+(m:Int)*1).toNat=i+m:=∅
  rw[this]
 rw[e];have:=pick_run b i k;rw[Hw]at this;have c:((λx=>b[x]?) ∘ λx=>i+x)=λm=>b[i+m]?:=rfl;rw[c]at this;rw[this]
theorem getItem_tuple_cut{t g:ag}{b:Array ak}{l j:ak}{c d:Option Int}{Q:ak->aq->Prop}(ht:IsTup s.heap t b)(n:s.heap.IsSliceOf g l j .none)(r:jU l c)(p:jU j d)(y:¬(sIx b.size 0 c=0/\sIx b.size b.size d=b.size))(h:Q (.ref s.heap.objs.size) {s with heap:=s.heap.push {cls:=.type "tuple",data:=.seq ((b.toList.drop (sIx b.size 0 c)).take (sIx b.size b.size d-sIx b.size 0 c)).toArray}})(z:b.size<=bB):ax (aH a w) A (kW (.ref t) (.ref g)) Q E s:=by
 have f:sizeOk (.seq ((b.toList.drop (sIx b.size 0 c)).take (sIx b.size b.size d-sIx b.size 0 c)).toArray):=by show((b.toList.drop (sIx b.size 0 c)).take (sIx b.size b.size d-sIx b.size 0 c)).toArray.size<=bB;rw[ef,lL,kX,ri];lia
 have F:sIx b.size b.size d<=b.size:=sIx_le _ _ (bC _) d;obtain⟨u,x,v,D⟩:=id n;have o:s.TypeIs (.ref g) "slice":=⟨u,x,v⟩
 unfold kW
 try with_reducible refine pP ?_
 first|refine au (aN ?_)|skip
 refine au (Hx ht.typeIs (by decide) ?_);refine au (rq (name:=pQ "__getitem__") ht.typeIs uF (mT uF ht.typeIs Hy ?_ (Hz _ _)));show ax _ _ (HA (.ref t) >>= _) _ _ s;refine au (tupleItemsOf_ ht ?_);refine au (uG o ?_);rw[if_pos (by decide)];refine au (F6 n r p ?_);have i:¬((((sIx b.size 0 c:Nat):Int) == 0&&(1:Int) == 1&&(sIx b.size b.size d-sIx b.size 0 c) == b.size)=ae):=by intro q;rw[gg,gg]at q;have C:((sIx b.size 0 c:Nat):Int)=0:=eq_of_beq q.1.1;have B:sIx b.size b.size d-sIx b.size 0 c=b.size:=eq_of_beq q.2;exact y ⟨∅,∅⟩
 show ax _ _ (if(((sIx b.size 0 c:Nat):Int) == 0&&(1:Int) == 1&&(sIx b.size b.size d-sIx b.size 0 c) == b.size)=ae then _ else _) _ _ s;rw[if_neg i,NH]
 first
  |exact au (m:=pR _) (i8 (aN ⟨_,rfl,aN h⟩) f)
  |exact au (m:=pR _) (i8 (au (aN (aN ⟨_,rfl,aN h⟩))) f)
  |exact au (au (m:=pR _) (i8 (aN (aN ⟨_,rfl,aN h⟩)) f))
  |exact au (au (m:=pR _) (i8 (aN ⟨_,rfl,aN h⟩) f))
end
end HT
namespace L2
abbrev TO:=St->Hp->(Option Int->Hp->Prop)->Prop
def PO(X:Cx)(e:Option aD)(t:TO):Prop :=
 ∀(b:List (ag×Obj)) (s:aq) (a:St) (H:Hp) (Q:Option Int->Hp->Prop),Inv X b a H s->t a H Q ->
  ax (aH X.prog X.w) X.A (evalPart e X.env) (λu d=>∃o c,Inv X b a c d/\jU u o/\Q o c) X.xe s
def Pz:TO:=λ_ H Q=>Q ah H
def KZ(t:TE):TO:=λa H Q=>t a H λx b=>∃i,x=.int i/\Q (aa i) b
section
variable{X:Cx}{e:aD}{f:TE}{c d:Option aD}{g j:TO}{n m:Pos}
theorem L0:PO X ah Pz:=by intro b s a H Q I h;rw[evalPart_none];exact aN ⟨ah,H,I,.none,h⟩
theorem NN(h:PE X e f):PO X (aa e) (KZ f):=by intro p s a H Q I o;rw[evalPart_some];refine a9 (h p s a H _ I o) λu w ⟨x,v,r,b,l⟩=>?_;obtain⟨i,rfl,q⟩:=l;obtain⟨t,rfl⟩:=b;exact⟨aa i,v,r,.int i t,q⟩
def kA(X:Cx)(r:V->Option Int->Option Int->Hp->VK->Prop):Prop :=
 ∀(l:List (ag×Obj)) (s:aq) (a:St) (H:Hp) (x:V) (v h b:ak) (c d:Option Int) (i:ag) (Q:VK),Inv X l a H s->RelV x v->s.heap.IsSliceOf i h b .none->jU h c->jU b d->r x c d H Q ->
  ∃T o,typeLookup (.type T) "__getitem__"=pure (aa (.builtin o))/\s.TypeIs v T/\ax (aH X.prog X.w) X.A (kW v (.ref i)) (EP X l a Q) X.xe s
theorem kA.or{r p:V->Option Int->Option Int->Hp->VK->Prop}(h:kA X r)(z:kA X p):kA X (λx c d H Q=>r x c d H Q\/p x c d H Q):=by
 intro y s a H x v i b c d l Q I o w u t q;rcases q with q|q
 .exact h y s a H x v i b c d l Q I o w u t q
 .exact z y s a H x v i b c d l Q I o w u t q
def OQ(r:V->Option Int->Option Int->Hp->VK->Prop)(f:TE)(g j:TO):TE:=λa H Q=>f a H λx i=>g a i λl h=>j a h λu b=>r x l u b Q
theorem M3{r:V->Option Int->Option Int->Hp->VK->Prop}(J:kA X r)(M:PE X e f)(K:PO X c g)(G:PO X d j):PE X (.Subscript e (.Slice c d ah m) n) (OQ r f g j):=by intro o s i H Q I h;refine Subscript_ (a9 (M o s i H _ I h) λv z ⟨x,Z,W,A,D⟩=>?_);refine wpAny_Slice (a9 (K o z i Z _ W D) λt y ⟨l,Y,S,F,C⟩=>a9 (G o y i Y _ S C) λp a ⟨u,w,P,E,B⟩=>?_);rw[evalPart_none];refine aN ?_;have O:Inv X o i w {a with heap:=a.heap.push {cls:=.type "slice",data:=.fields #[t,p,.none]}}:=P.kept (t':=a.toks) λb ob q=>bz _ q;obtain⟨T,id,N,ht,L⟩:=J o {a with heap:=a.heap.push {cls:=.type "slice",data:=.fields #[t,p,.none]}} i w x v t p l u a.heap.objs.size Q O A (Heap.IsSliceOf.new ..) F E B;show ax (aH X.prog X.w) X.A (Bw e (.Slice c d ah m) v (.ref a.heap.objs.size)) (EP X o i Q) X.xe {a with heap:=a.heap.push {cls:=.type "slice",data:=.fields #[t,p,.none]}};exact tail_any (ops:=[.ref a.heap.objs.size,v]) ht N L (by with_unfolding_all rfl)
def nu(a:List V)(c d:Option Int):List V:=(a.drop (HT.sIx a.length 0 c)).take (HT.sIx a.length a.length d-HT.sIx a.length 0 c)
theorem CN(a:List V)(c d:Option Int):(nu a c d).length<=a.length:=by unfold nu;rw[lL,kX];lia
def FL(K:aA):V->Option Int->Option Int->Hp->VK->Prop:=λx c d H Q=>∃a b,x=.ref a/\cD K H a b /\
 ¬(HT.sIx b.length 0 c=0/\HT.sIx b.length b.length d=b.length)/\∀p,H p=ah->Q (.ref p) (upd H p (.tup (nu b c d)))
theorem LA:kA X (FL X.K):=by
 intro J s C H x v E D c d F Q I u B y w h;obtain⟨a,i,rfl,z,A,q⟩:=h;cases u;obtain⟨l,r,ht,t⟩:=I.tuple z;have p:l.toArray.size=i.length:=by rw[ef];exact r.length.symm
 refine⟨"tuple",_,PyProof.Rows.slot_tuple_getitem.lookup,ht.typeIs,?_⟩;refine HT.getItem_tuple_cut ht B y w (by rw[p];exact A) ?_ (by rw[p];exact t);rw[p];refine⟨.ref s.heap.objs.size,_,I.laid (t':=s.toks) (o:=.tup (nu i c d)) (λb G q=>bz _ q) (bC _) ?_,rfl,q _ (I.hok.fresh (bC _))⟩;exact⟨dX (CN i c d) t,_,(r.drop (HT.sIx i.length 0 c)).take (HT.sIx i.length i.length d-HT.sIx i.length 0 c),Hi.new _ _⟩
def Dt(K:aA):R2:=λx y H Q=>∃a b i h,x=.ref a/\y=.ref b/\cD K H a i/\cD K H b h/\i≠[]/\i.length+h.length<=bB /\
 (h=[]->Q (.ref a) H)/\(h≠[]->∀p,H p=ah->Q (.ref p) (upd H p (.tup (i++h))))
theorem cf.nil_iff{a:List V}{b:List ak}(r:cf a b):b=[]↔a=[]:=by
 cases r with
 |nil=>simp
 |cons _ _=>simp
theorem RB:b8 X (i5 .Add) (Dt X.K):=by
 intro O s M H x y v u Q I C B h;obtain⟨a,b,A,t,rfl,rfl,L,K,J,r,E,D⟩:=h;cases C;cases B;obtain⟨G,l,F,_⟩:=I.tuple L;obtain⟨p,i,m,_⟩:=I.tuple K;refine HT.cat_tup F m (λz=>J (l.nil_iff.mp z)) (λz=>⟨.ref a,H,I,rfl,E (i.nil_iff.mp z)⟩) (λz=>?_) (by rw[<-l.length,<-i.length];exact r);refine⟨.ref s.heap.objs.size,_,I.laid (t':=s.toks) (o:=.tup (A++t)) (λb N q=>bz _ q) (bC _) ?_,rfl,D (λw=>z (i.nil_iff.mpr w)) _ (I.hok.fresh (bC _))⟩;exact⟨by rw[c_];exact r,_,l.append i,Hi.new _ _⟩
end
def o5(n:Nat)(i:Int):Option Nat:=if 0<=i then(if i<n then aa i.toNat else ah)else if -(n:Int)<=i then aa (i+n).toNat else ah
def fS{a:Type}(xs:List a)(i:Int):Option a:=(o5 xs.length i).bind λj=>xs[j]?
theorem K4{n:Nat}{i:Int}{j:Nat}(h:o5 n i=aa j):seqIndex? i n=aa j/\j<n/\-(n:Int)<=i/\i<n:=by
 unfold o5 at h;by_cases b:0<=i
 .rw[if_pos b]at h;by_cases a:i<n
  .rw[if_pos a]at h;have e:i.toNat=j:=fg h;exact⟨by rw[seqIndex_of b a,e],∅,∅,a⟩
  .rw[if_neg a]at h;cases h
 .rw[if_neg b]at h;by_cases a:-(n:Int)<=i
  .rw[if_pos a]at h;have e:(i+n).toNat=j:=fg h;exact⟨by rw[seqIndex_neg ∅ a,e],∅,a,∅⟩
  .rw[if_neg a]at h;cases h
theorem yY{b:Type}{a:List b}{i:Int}{v:b}(h:fS a i=aa v):∃j,seqIndex? i a.length=aa j/\a[j]?=aa v/\j<a.length/\-(a.length:Int)<=i/\i<a.length:=by
 unfold fS at h;cases e:o5 a.length i with
 |none=>rw[e]at h;cases h
 |some j=>rw[e]at h;obtain⟨g,f,d,c⟩:=K4 e;exact⟨j,g,h,f,d,c⟩
theorem qP{a:Type}{xs:List a}{j:Nat}{v:a}(h:xs[j]?=aa v):fS xs (j:Int)=aa v:=by
 have b:j<xs.length:=(eF.mp h).1;have e:o5 xs.length (j:Int)=aa j:=by unfold o5;rw[if_pos ∅,if_pos ∅];simp
 unfold fS;rw[e];exact h
def E8(b:aD):Prop:=∀o i,By b aj o i=operate [o,i] (kW o i)
def l7(X:Cx)(r:R2):Prop :=
 ∀(b a:aD) (d:List (ag×Obj)) (s:aq) (c:St) (H:Hp) (x y:V) (v u:ak) (Q:VK),Inv X d c H s->RelV x v->RelV y u->r x y H Q ->
  By a aj v u=operate [v,u] (kW v u)->ax (aH X.prog X.w) X.A (Bw b a v u) (EP X d c Q) X.xe s
def xP(X:Cx)(f:String)(r:V->List V->Hp->VK->Prop):Prop :=
 ∀(d:List (ag×Obj)) (s:aq) (a:St) (H:Hp) (x:V) (b:List V) (v:ak) (c:List ak) (Q:VK),Inv X d a H s->RelV x v->cf b c->r x b H Q ->
  ax (aH X.prog X.w) X.A (call (.builtin f) (v::c)) (EP X d a Q) X.xe s
section
variable{X:Cx}{a b:aD}{G F:TE}{E:Pos}
theorem l7.or{r j:R2}(h:l7 X r)(n:l7 X j):l7 X (λx y H Q=>r x y H Q\/j x y H Q):=by
 intro c d m s f H x y v u Q I i g q l;rcases q with q|q
 .exact h c d m s f H x y v u Q I i g q l
 .exact n c d m s f H x y v u Q I i g q l
theorem L_{r:R2}(j:l7 X r)(m:PE X a G)(l:PE X b F)(i:E8 b):PE X (.Subscript a b E) (vM r G F):=by intro n s c H Q I h;exact Subscript_ (AV m l I h λv u d x y p o g f q=>j a b n d c p x y v u Q o g f q (i _ _))
def Fs(K:aA):R2:=λx y H Q=>∃p c i v,x=.ref p/\y=.int i/\cI K H p c/\fS c i=aa v/\Q v H
def Cj(K:aA):R2:=λx y H Q=>∃p c i v,x=.ref p/\y=.int i/\cD K H p c/\fS c i=aa v/\Q v H
def Cu:R2:=λx y H Q=>∃z i c,x=.str z/\y=.int i/\z.length<=bB/\fS z.cps.toList i=aa c/\Q (.str ⟨#[c]⟩) H
theorem RF:l7 X (Fs X.K):=by
 intro f g J s A H x y v u Q I M L h B;obtain⟨p,Y,i,z,rfl,rfl,N,P,q⟩:=h;cases M;obtain⟨t,rfl⟩:=L;obtain⟨n,r,m,Z⟩:=I.list N;obtain⟨j,d,W,h3,T,S⟩:=yY P;obtain⟨w,D,l⟩:=r.get W;have O:=r.length;have hn:=wd;have c:EP X J A Q w s:=⟨z,H,I,l,q⟩
 by_cases C:0<=i
 .have o:i.toNat=j:=by
   rw[seqIndex_of C S]at d;exact fg d
  exact item_listR m.isList C ∅ (by rw[o];simpa using D) c B
 .have o:(i+(n.toArray.size:Int)).toNat=j:=by
   rw[seqIndex_neg ∅ T]at d;rw[ef,<-O];exact fg d
  exact subscriptTail_builtinR (x:=w) m.isList.typeIs slot_list_getitem.lookup
   (wpAny_getItem_list_neg (Q:=λr K=>r=w/\EP X J A Q r K) m.isList ∅ (by rw[ef] <;> lia) ∅ (by rw[o];simpa using D) ⟨rfl,c⟩) B
theorem RN:l7 X (Cj X.K):=by
 intro c d n s l H x y v u Q I B A h D;obtain⟨p,P,i,z,rfl,rfl,J,L,q⟩:=h;cases B;obtain⟨t,rfl⟩:=A;obtain⟨C,r,m,S⟩:=I.tuple J;obtain⟨j,N,M,Z,Y,W⟩:=yY L;obtain⟨w,O,f⟩:=r.get M;have K:=r.length;have T:=wd;have g:EP X n l Q w s:=⟨z,H,I,f,q⟩
 exact subscriptTail_builtinR (x:=w) m.typeIs slot_tuple_getitem.lookup
  (getItem_tuple (j:=j) (Q:=λr o=>r=w/\EP X n l Q r o) m ∅ ∅ (by rw[ef,<-K];exact N) (by simpa using O) ⟨rfl,g⟩) D
theorem MV:l7 X Cu:=by
 intro d f N s D H x y v u Q I m l h n;obtain⟨z,i,c,rfl,rfl,K,p,q⟩:=h;obtain⟨t,rfl⟩:=m;obtain⟨J,rfl⟩:=l;obtain⟨j,g,A,M,w,r⟩:=yY p;have o:z.cps.toList.length=z.length:=by simp[Str.length]
 rw[o]at g w r;have L:=wd;exact tail_any (typeIs_str s z t) slot_str_getitem.lookup (getItem_str (c:=c) (by have C:decide (i < -(2^63:Int))=aj:=decide_eq_false ∅;have B:decide (i ≥ 2^63)=aj:=decide_eq_false ∅;rw[C,B,Bool.or_false]) (by rw[g];simpa using A) ⟨.str ⟨#[c]⟩,H,I.tok _,⟨_,rfl⟩,q⟩) n
def Gg(K:aA):R2:=λx y H Q=>Fs K x y H Q\/Cj K x y H Q\/Cu x y H Q
theorem b9:l7 X (Gg X.K):=RF.or (RN.or MV)
theorem NX(c d:Option Int)(n:Nat):(rA c d ah n).1=((HT.sIx n 0 c:Nat):Int)/\(rA c d ah n).2.1=((HT.sIx n n d:Nat):Int)/\(rA c d ah n).2.2=1:=by
 refine⟨?_,?_,rfl⟩
 .cases c with
  |none=>simp[rA,HT.sIx]
  |some i=>
   simp only[rA,HT.sIx,HB,show(1:Int) > 0 by decide,if_true];by_cases h:i<0
   .simp only[h,if_true] <;> lia
   .simp only[h,if_false] <;> lia
 .cases d with
  |none=>simp[rA,HT.sIx]
  |some i=>
   simp only[rA,HT.sIx,HB,show(1:Int) > 0 by decide,if_true];by_cases h:i<0
   .simp only[h,if_true] <;> lia
   .simp only[h,if_false] <;> lia
theorem JJ(c:List ak)(d f:Option Int):slicePick c.toArray d f ah=((c.drop (HT.sIx c.length 0 d)).take (HT.sIx c.length c.length f-HT.sIx c.length 0 d)).toArray:=by obtain⟨i,h,g⟩:=NX d f c.toArray.size;unfold slicePick;rw[i,h,g];simp only[sliceRange_one,pick_run,ef] <;> rfl
def Eb(K:aA):V->Option Int->Option Int->Hp->VK->Prop:=λx d f H Q=>∃a c,x=.ref a/\cI K H a c/\∀p,H p=ah->Q (.ref p) (upd H p (.lst (nu c d f)))
theorem Rx:kA X (Eb X.K):=by
 intro B s u H x v y w d f z Q I g p j i h;obtain⟨a,c,rfl,n,q⟩:=h;cases g;obtain⟨l,r,ht,m⟩:=I.list n;have t:=r.length;refine⟨"list",_,slot_list_getitem.lookup,ht.isList.typeIs,?_⟩;refine wpAny_getItem_list_slice ht.isList p j i .none (by simp) ?_ (by rw[ef] <;> lia);rw[JJ,<-t];refine⟨.ref s.heap.objs.size,_,I.laid (t':=s.toks) (o:=.lst (nu c d f)) (λb A q=>bz _ q) (bC _) ?_,rfl,q _ (I.hok.fresh (bC _))⟩;exact⟨dX (CN c d f) m,_,0,(r.drop (HT.sIx c.length 0 d)).take (HT.sIx c.length c.length f-HT.sIx c.length 0 d),cL _ rfl⟩
def iA:V->Bool
 |.non=>ae
 |.bl _=>ae
 |.int _=>ae
 |.str _=>ae
 |_=>aj
def f8:V->V->Bool
 |.non,.non=>ae
 |.bl a,.bl b=>a == b
 |.bl a,.int b=>(if a then 1 else 0) == b
 |.int a,.bl b=>a == (if b then 1 else 0)
 |.int a,.int b=>a == b
 |.str a,.str b=>a == b
 |_,_=>aj
theorem Ec{A:bG}{s:aq}{y x:V}{u v:ak}(f:RelV y u)(c:RelV x v)(h:iA y=ae)(g:iA x=ae):xW A s u v (f8 y x):=by
 cases y with
 |non=>
  cases f;cases x with
  |non=>cases c;exact SeqAt.EqAt.same _
  |bl b=>cases c;exact SeqAt.EqAt.none_bool b
  |int b=>obtain⟨t,rfl⟩:=c;exact SeqAt.EqAt.none_int b t
  |str b=>obtain⟨t,rfl⟩:=c;exact SeqAt.EqAt.none_str b t
  |_=>exact absurd (show aj=ae from g) fV
 |bl a=>
  cases f;cases x with
  |non=>cases c;exact SeqAt.EqAt.bool_none a
  |bl b=>cases c;exact SeqAt.EqAt.bool_bool a b
  |int b=>obtain⟨t,rfl⟩:=c;exact SeqAt.EqAt.bool_int a b t
  |str b=>obtain⟨t,rfl⟩:=c;exact SeqAt.EqAt.bool_str a b t
  |_=>exact absurd (show aj=ae from g) fV
 |int a=>
  obtain⟨d,rfl⟩:=f;cases x with
  |non=>cases c;exact SeqAt.EqAt.int_none a d
  |bl b=>cases c;exact SeqAt.EqAt.int_bool a d b
  |int b=>obtain⟨t,rfl⟩:=c;exact SeqAt.EqAt.int_int a d b t
  |str b=>obtain⟨t,rfl⟩:=c;exact SeqAt.EqAt.int_str a d b t
  |_=>exact absurd (show aj=ae from g) fV
 |str a=>
  obtain⟨d,rfl⟩:=f;cases x with
  |non=>cases c;exact SeqAt.EqAt.str_none a d
  |bl b=>cases c;exact SeqAt.EqAt.str_bool a d b
  |int b=>obtain⟨t,rfl⟩:=c;exact SeqAt.EqAt.str_int a d b t
  |str b=>obtain⟨t,rfl⟩:=c;exact SeqAt.EqAt.str_str a d b t
  |_=>exact absurd (show aj=ae from g) fV
 |_=>exact absurd (show aj=ae from h) fV
def ij(x:V)(u:ak):Bool:=match u with
 |.none=>f8 .non x
 |.bool b=>f8 (.bl b) x
 |.int i _=>f8 (.int i) x
 |.str z _=>f8 (.str z) x
 |_=>aj
theorem zf{x y:V}{u:ak}(r:RelV y u)(f:iA y=ae):ij x u=f8 y x:=by
 cases y with
 |non=>cases r;rfl
 |bl b=>cases r;rfl
 |int i=>obtain⟨t,rfl⟩:=r;rfl
 |str z=>obtain⟨t,rfl⟩:=r;rfl
 |_=>exact absurd (show aj=ae from f) fV
theorem tK{x:V}:∀{c:List V}{d:List ak},cf c d->c.all iA=ae->d.any (ij x)=c.any λy=>f8 y x
 |_,_,.nil,_=>rfl
 |y::c,u::d,.cons r t,f=>by rw[kY,gg]at f;rw[kZ,kZ,zf r f.1,tK t f.2]
theorem qp{A:bG}{s:aq}{x:V}{v:ak}(h:RelV x v)(i:iA x=ae):∀{d:List V}{g:List ak},cf d g->d.all iA=ae->∀u∈g,xW A s u v (ij x u)
 |_,_,.nil,_=>λu c=>by cases c
 |y::d,u::g,.cons r t,f=>λj c=>by
  rw[kY,gg]at f;rcases bA.mp c with rfl|c
  .rw[zf r f.1];exact Ec r h f.1 i
  .exact qp h i t f.2 j c
def jF(x:V)(c:List V):Bool:=c.any λy=>f8 y x
def tI(K:aA)(d:Bool):R2:=λx y H Q=>∃p c,y=.ref p/\(cI K H p c\/cD K H p c)/\iA x=ae/\c.all iA=ae/\Q (.bl (if d then !jF x c else jF x c)) H
theorem PH:b8 X (d_ .In) (tI X.K aj):=by
 intro t s n H x y v u Q I i l h;obtain⟨p,o,rfl,d,j,fs,q⟩:=h;cases l;rcases d with d|d
 .obtain⟨c,r,f,m⟩:=I.list d;refine SeqAt.in_listAt (ij x) f.isList (λw g=>qp i j r fs w (by simpa using g)) ⟨.bl _,H,I,rfl,?_⟩;rw[show c.toArray.any (ij x)=c.any (ij x) by simp,tK r fs];exact q
 .obtain⟨c,r,f,m⟩:=I.tuple d;refine SeqAt.in_tupleAt (ij x) f (λw g=>qp i j r fs w (by simpa using g)) ⟨.bl _,H,I,rfl,?_⟩;rw[show c.toArray.any (ij x)=c.any (ij x) by simp,tK r fs];exact q
theorem Ja:b8 X (d_ .NotIn) (tI X.K ae):=by
 intro t s n H x y v u Q I i l h;obtain⟨p,o,rfl,d,j,fs,q⟩:=h;cases l;rcases d with d|d
 .obtain⟨c,r,f,m⟩:=I.list d;refine SeqAt.notIn_listAt (ij x) f.isList (λw g=>qp i j r fs w (by simpa using g)) ⟨.bl _,H,I,rfl,?_⟩;rw[show c.toArray.any (ij x)=c.any (ij x) by simp,tK r fs];exact q
 .obtain⟨c,r,f,m⟩:=I.tuple d;refine SeqAt.notIn_tupleAt (ij x) f (λw g=>qp i j r fs w (by simpa using g)) ⟨.bl _,H,I,rfl,?_⟩;rw[show c.toArray.any (ij x)=c.any (ij x) by simp,tK r fs];exact q
theorem RO:b8 X (d_ .NotIn) (λx y H Q=>∃i j,x=.str i/\y=.str j/\Q (.bl (!(!(xS j i 0 j.length 1).isEmpty))) H):=by intro l s f H x y v u Q I d c h;obtain⟨i,j,rfl,rfl,q⟩:=h;obtain⟨t,rfl⟩:=d;obtain⟨g,rfl⟩:=c;exact notIn_str ⟨.bl _,H,I,rfl,q⟩
theorem xG:gn X (.type "list") (λA H Q=>∃p f,A=[.ref p]/\(cI X.K H p f\/cD X.K H p f)/\∀l,H l=ah->Q (.ref l) (upd H l (.lst f))):=by
 intro K s C H A L Q I r h;obtain⟨p,f,rfl,t,q⟩:=h;obtain⟨u,rfl,D⟩:=vals1 r;cases D;have v:∀(c:List ak),cf f c->f.length<=bB->∀(d:aJ) (i:Nat),(∀b B,s.heap.get? b=aa B->d.get? b=aa B) ->
   d.get? s.heap.objs.size=aa {cls:=.type "list",dict:=ah,data:=.seq c.toArray i,slots:=#[]}->EP X K C Q (.ref s.heap.objs.size) {s with heap:=d}:=λc g m d i j e=>
  ⟨.ref s.heap.objs.size,_,I.laid (t':=s.toks) j (bC _) (show eh X.prog X.w _ d _ (.lst f)from⟨m,c,i,g,e⟩),rfl,q _ (I.hok.fresh (bC _))⟩
 rcases t with t|t
 .obtain⟨c,g,w,m⟩:=I.list t;have J:=g.length;obtain⟨o,x,z,n,y⟩:=w.isList;exact call_list_seq p (.inl rfl) x z y (λd i j e=>v c g m d i j e) (by simp only[ef] <;> lia)
 .obtain⟨c,g,w,m⟩:=I.tuple t;have J:=g.length;obtain⟨o,x,z,n,y⟩:=w;exact call_list_seq p (.inr rfl) x z y (λd i j e=>v c g m d i j e) (by simp only[ef] <;> lia)
theorem xk:gn X (.type "tuple") (λm H Q=>∃p d,m=[.ref p]/\((cI X.K H p d/\∀l,H l=ah->Q (.ref l) (upd H l (.tup d)))\/(cD X.K H p d/\Q (.ref p) H))):=by
 intro t s j H m z Q I r h;obtain⟨p,d,rfl,h⟩:=h;obtain⟨u,rfl,w⟩:=vals1 r;cases w;rcases h with⟨hq,q⟩|⟨hq,q⟩
 .obtain⟨c,g,i,n⟩:=I.list hq;have A:=g.length;refine call_tuple_list i.isList (λf x=>?_) (by simp only[ef] <;> lia);have v:Inv X t j H {s with heap:=f}:=I.kept (t':=s.toks) x;have y:Inv X t j (upd H f.objs.size (.tup d)) {s with heap:=f.push {cls:=.type "tuple",data:=.seq c.toArray}} :=v.laid (t':=s.toks) (λb o e=>bz _ e) (bC _) (show eh X.prog X.w _ _ _ (.tup d)from⟨n,c,g,Hi.new _ _⟩);exact⟨.ref f.objs.size,_,y,rfl,q _ (v.hok.fresh (bC _))⟩
 .obtain⟨c,g,i,n⟩:=I.tuple hq;exact call_tuple_same i ⟨.ref p,H,I,rfl,q⟩
def Bc(K:aA)(T:String)(x:V)(H:Hp):Prop:=match x with
 |.str _=>T = "str"
 |.int _=>T = "int"
 |.ref p=>(T = "list"/\∃d,cI K H p d)\/(T = "tuple"/\∃o,K.lookup p=aa o/\o.cls=.type "tuple"/\o.dict=ah) \/
   (T = "dict"/\((∃c,H p=aa (.dK c))\/∃c,H p=aa (.dT c)))\/(T = "set"/\∃S n,H p=aa (.set S n))
 |_=>False
theorem Dy{q:List (ag×Obj)}{l:St}{H:Hp}{s:aq}{T:String}{x:V}{v:ak}(I:Inv X q l H s)(r:RelV x v)(ty:Bc X.K T x H):s.TypeIs v T/\∀a,v=.ref a->∃j,s.heap.get? a=aa j/\j.dict=ah:=by
 cases x with
 |str z=>
  obtain⟨t,rfl⟩:=r;cases (show T = "str" from ty);exact⟨typeIs_str s z t,λ_ e=>nomatch e⟩
 |int i=>
  obtain⟨t,rfl⟩:=r;cases (show T = "int" from ty);exact⟨typeIs_int s i t,λ_ e=>nomatch e⟩
 |ref p=>
  cases r;rcases ty with⟨rfl,xs,hq⟩|⟨rfl,o,hk,hc,f⟩|⟨rfl,hk⟩|⟨rfl,S,n,hk⟩
  .obtain⟨m,_,h,_⟩:=I.list hq;refine⟨h.isList.typeIs,λa e=>?_⟩;cases e;obtain⟨o,n,e,c,f,_⟩:=h;exact⟨o,e,f⟩
  .refine⟨⟨o,I.kIn p o hk,hc⟩,λa e=>?_⟩;cases e;exact⟨o,I.kIn _ o hk,f⟩
  .have z:∃o,s.heap.get? p=aa o/\o.ExactDict:=by
    rcases hk with⟨kvs,hk⟩|⟨kvs,hk⟩
    .obtain⟨_,_,_,_,o,_,_,e,d,_⟩:=I.hok p _ hk;exact⟨o,e,d⟩
    .obtain⟨_,_,_,_,o,_,_,e,d,_⟩:=I.hok p _ hk;exact⟨o,e,d⟩
   obtain⟨o,e,d⟩:=z;refine⟨⟨o,e,d.1⟩,λa g=>?_⟩;cases g;exact⟨o,e,d.2.1⟩
  .obtain⟨o,_,_,_,e,d,_⟩:=I.hok p _ hk;refine⟨⟨o,e,d.1⟩,λa g=>?_⟩;cases g;exact⟨o,e,d.2.1⟩
 |_=>exact lK ty
def OX(K:aA)(T:String)(r:V->List V->Hp->VK->Prop)(B:TE):TE:=λd H Q=>B d H λx c=>Bc K T x c/\r x [] c Q
def KQ(K:aA)(T:String)(r:V->List V->Hp->VK->Prop)(B:TE)(t:TA):TE:=λc H Q=>B c H λx d=>Bc K T x d/\t c d λf g=>r x f g Q
variable{o e:aD}{D:List aD}{B:TE}{t:TA}{g:Str}{m d:Pos}{T C:String}{r:V->List V->Hp->VK->Prop}
theorem KS(q:PlainAttrs T)(c:Slot T g C)(u:typeOf (.builtin C)=pure (.type "method_descriptor"))(A:xP X C r)(z:PE X o B)(w:n_ o g X.env (bq o X.env)=bq o X.env:=by rfl) (y:(m.endLine == d.line)=ae:=by rfl):PE X (.Call (.Attribute o g m) [] [] d) (OX X.K T r B):=by intro j s f H Q I h;refine wpAny_Call_method0_late w y (a9 (z j s f H _ I h) λv n ⟨x,L,l,i,ty,p⟩=>?_);obtain⟨K,J⟩:=Dy l i ty;exact⟨T,C,q,c,u,K,J,Bz rfl (PySem.evalArgs_none (A j n f L x [] v [] Q l i .nil p))⟩
theorem Ps(K:PlainAttrs T)(c:Slot T g C)(L:typeOf (.builtin C)=pure (.type "method_descriptor"))(S:xP X C r)(P:PE X o B)(W:PA X (e::D) t)(M:n_ o g X.env (bq o X.env)=bq o X.env:=by rfl)(p:((fk d (bo (e::D) X.env)).all (λx=>!x.1)&&(backToKw d (BA [] X.env)).all (λx=>x.1.isSome)&&decide ((e::D).length+([]:List pS).length+(if([]:List pS).isEmpty then 0 else 1)<30))=ae:=by rfl)(N:(m.endLine == d.line)=ae:=by rfl) (O:bo (e::D) X.env=(aj,bq e X.env)::bo D X.env:=by rfl) (B5:(fk d (bo D X.env)).any (·.1)=aj:=by rfl):PE X (.Call (.Attribute o g m) (e::D) [] d) (KQ X.K T r B t):=by intro i s f H Q I h;refine wpAny_Call_method_late M p N rfl (a9 (P i s f H _ I h) λv y ⟨x,H1,n,j,ty,J⟩=>?_);obtain⟨Z,Y⟩:=Dy n j ty;refine⟨T,C,K,c,L,Z,Y,?_⟩;have l:=W d i y f H1 _ n J;rw[O]at l ⊢;refine Bz (by show(aj||(fk d (bo D X.env)).any (·.1))=aj;rw[B5] <;> rfl) (BB ?_);exact a9 l λu w ⟨q,H2,I2,z,A⟩=>S i w f H2 x q v u Q I2 j z A
end
def He(X:Cx)(f:String)(r:V->List V->Hp->VK->Prop):Prop :=
 ∀(d:List (ag×Obj)) (s:aq) (a:St) (H:Hp) (x:V) (b:List V) (v:ak) (c:List ak) (Q:VK),Inv X d a H s->RelV x v->cf b c->r x b H Q ->
  ax (aH X.prog X.w) X.A (call (.builtin f) (v::c)) (EP X d a Q) X.xe s
theorem cf.one:∀{x:V}{a:List ak},cf [x] a->∃u,a=[u]/\RelV x u
 |_,_,.cons r .nil=>⟨_,rfl,r⟩
theorem cf.zero:∀{a:List ak},cf [] a->a=[]
 |_,.nil=>rfl
theorem cf.reverse{xs:List V}{a:List ak}(h:cf xs a):cf xs.reverse a.reverse:=by
 induction h with
 |nil=>exact .nil
 |cons r t b=>rw[BC,BC];exact cf.append b (.cons r .nil)
section
variable{X:Cx}{d:List (ag×Obj)}{a:St}{H:Hp}{s:aq}{l b:ag}{g c h:List V}
theorem Inv.lset{i its':List ak}{n:Nat}{f:Array ak->Array ak}{j:Nat}(I:Inv X d a H s)(v:H l=aa (.lst g))(e:s.heap.get? l=aa {cls:=.type "list",data:=.seq i.toArray n}) (r:f i.toArray=its'.toArray) (o:cf c its') (m:c.length<=bB):Inv X d a (upd H l (.lst c)) {s with heap:=s.heap.update l (uH f),toks:=j}:=by have q:=PySem.IsL.update e f;rw[r]at q;refine I.write (x:=l) (e:=l) (by rw[v];exact trivial) (.inl rfl) (λw u t p=>(rD s.heap (uH f) (fj t)).trans p) ⟨_,q⟩ ?_;exact⟨m,its',_,o,q⟩
theorem Inv.lnew{its:List ak}{t':Nat}(I:Inv X d a H s)(i:cf c its)(f:c.length<=bB):Inv X d a (upd H s.heap.objs.size (.lst c)) {s with heap:=s.heap.push {cls:=.type "list",data:=.seq its.toArray},toks:=t'} :=I.laid (λ_ _ q=>bz _ q) (bC _) ⟨f,its,0,i,cL _ rfl⟩
theorem Inv.fresh(I:Inv X d a H s):H s.heap.objs.size=ah:=I.hok.fresh (bC _)
theorem Inv.lstM(I:Inv X d a H s)(i:H l=aa (.lst g)):g.length<=bB/\∃(f:List ak) (n:Nat),cf g f/\g.length=f.length/\s.heap.get? l=aa {cls:=.type "list",data:=.seq f.toArray n}:=by obtain⟨z,f,n,r,e⟩:=I.hok l _ i;exact⟨z,f,n,r,r.length,e⟩
end
section
variable{X:Cx}
def NB:V->List V->Hp->VK->Prop:=λx b H Q=>∃l a y,x=.ref l/\b=[y]/\H l=aa (.lst a)/\a.length<bB/\Q .non (upd H l (.lst (a++[y])))
theorem E3:He X "list.append" NB:=by
 intro p s f H x i v j Q I b c h;obtain⟨l,g,y,rfl,rfl,a,m,q⟩:=h;cases b;obtain⟨u,rfl,d⟩:=c.one;obtain⟨z,its,n,r,o,e⟩:=I.lstM a;refine call_meets F.slot_list_append ⟨_,e,rfl⟩ F.entry_list_append (F.args_list_append_2 _ _) (PySem.list_append l its.toArray n u (by rw[ef];lia)) ⟨e,?_⟩;refine⟨.non,_,I.lset (its':=its++[u]) a e (by simp) (r.append (.cons d .nil)) ?_,rfl,q⟩;rw[c_,og];lia
theorem M6{b:Type}(a:List b)(k:Nat):(cr k a).flatten.length=k*a.length:=by
 induction k with
 |zero=>simp
 |succ k c=>rw[BD,List.flatten_cons,c_,c,Nat.succ_mul,Nat.add_comm]
end
section
variable{a:Type}[DecidableEq a]
def jk(b:List (a×V))(k:a):Option V:=(b.find? λc=>decide (c.1=k)).map (·.2)
def g8(b:List (a×V))(k:a)(v:V):List (a×V) :=if(b.any λc=>decide (c.1=k))=ae then b.map (λc=>if c.1=k then(c.1,v)else c)else b++[(k,v)]
theorem wV{p:a×V}{r:List (a×V)}{k:a}(e:p.1=k):jk (p::r) k=aa p.2:=by simp[jk,kf,e]
theorem wo{p:a×V}{r:List (a×V)}{k:a}(e:¬p.1=k):jk (p::r) k=jk r k:=by simp[jk,kf,e]
theorem Dj(k:a):∀b:List (a×V),(b.any λc=>decide (c.1=k))=(jk b k).isSome
 |[]=>rfl
 |p::r=>by
  rw[kZ];by_cases e:p.1=k
  .simp only[wV e,decide_eq_true e,Bool.true_or,Option.isSome_some]
  .rw[wo e,decide_eq_false e,Bool.false_or];exact Dj k r
theorem A_(b:List (a×V))(k:a)(v:V):(g8 b k v).length<=b.length+1:=by
 unfold g8;split
 .rw[b0];lia
 .rw[c_,eY,pT];lia
theorem nZ.isSome_eq{o:Option V}{u:Option ak}(r:nZ o u):o.isSome=u.isSome:=by
 cases o with
 |none=>cases u with
  |none=>rfl
  |some _=>exact(show False from r).elim
 |some _=>cases u with
  |none=>exact(show False from r).elim
  |some _=>rfl
theorem nZ.getD{o:Option V}{u:Option ak}{d:V}{b:ak}(r:nZ o u)(rd:RelV d b):RelV (o.getD d) (u.getD b):=by
 cases o with
 |none=>cases u with
  |none=>exact rd
  |some _=>exact(show False from r).elim
 |some _=>cases u with
  |none=>exact(show False from r).elim
  |some _=>exact r
theorem KV.val{c:List (a×V)}{f:List (a×ak)}(r:KV c f)(k:a):nZ (jk c k) (rE f k):=by
 unfold KV at r
 induction r with
 |nil=>exact True.intro
 |@cons p q ps qs h t ih=>
  obtain⟨g,i⟩:=h;by_cases e:p.1=k
  .have d:q.1=k:=g.symm.trans e;have b:rE (q::qs) k=aa q.2:=by simp[rE,kf,d]
   rw[wV e,b];exact i
  .have d:¬q.1=k:=λz=>e (g.trans z);have b:rE (q::qs) k=rE qs k:=by simp[rE,kf,d]
   rw[wo e,b];exact ih
theorem KV.any{b:List (a×V)}{d:List (a×ak)}(r:KV b d)(k:a):(b.any λc=>decide (c.1=k))=d.any λc=>decide (c.1=k):=by
 unfold KV at r
 induction r with
 |nil=>rfl
 |cons h t f=>rw[kZ,kZ,f,h.1]
theorem KV.repl{c:List (a×V)}{f:List (a×ak)}(r:KV c f)(k:a){y:V}{u:ak}(g:RelV y u):KV (c.map λb=>if b.1=k then(b.1,y)else b) (f.map λb=>if b.1=k then(b.1,u)else b):=by
 unfold KV at r ⊢
 induction r with
 |nil=>exact .nil
 |@cons p q ps qs h t ih=>
  rw[ci,ci];refine .cons ?_ ih;obtain⟨d,i⟩:=h;by_cases e:p.1=k
  .rw[if_pos e,if_pos (d.symm.trans e)];exact⟨d,g⟩
  .rw[if_neg e,if_neg (λz=>e (d.trans z))];exact⟨d,i⟩
theorem KV.put{b:List (a×V)}{c:List (a×ak)}(r:KV b c)(k:a){y:V}{u:ak}(d:RelV y u):KV (g8 b k y) (stored c k u):=by
 unfold g8 stored;rw[r.any k];by_cases e:(c.any λf=>decide (f.1=k))=ae
 .rw[if_pos e,if_pos e];exact r.repl k d
 .rw[if_neg e,if_neg e];exact Paired.snoc r ⟨rfl,d⟩
theorem KV.length{kvs:List (a×V)}{b:List (a×ak)}(r:KV kvs b):kvs.length=b.length:=Paired.length r
end
theorem rg{P:bv}{w:bc}{k:aP}{u:ak}(r:RelV (kV k) u):(gG P w).is k u=ae:=by
 cases k with
 |inl i=>obtain⟨t,e⟩:=(show ∃t,u=Value.int i t from r);subst e;exact IT P w i t
 |inr x=>obtain⟨t,e⟩:=(show ∃t,u=Value.str x t from r);subst e;exact K8 P w x t
theorem C9{P:bv}{w:bc}:∀{ks:List aP}{a:List ak},cf (ks.map kV) a->ItemsAre (gG P w) ks a
 |[],_,r=>by rw[rF]at r;cases r;exact .nil
 |k::ks,_,r=>by
  rw[ci]at r;cases r with
  |cons h t=>exact .cons (rg h) (C9 t)
abbrev KT(H:Hp):List (List aP×V)->List (List aP×ag×ak)->Prop:=j_ λp q=>p.1=q.1/\H q.2.1=aa (.tup (p.1.map kV))/\RelV p.2 q.2.2
theorem KT.val{H:Hp}{a:List (List aP×V)}{xs:List (List aP×ag×ak)}(r:KT H a xs)(k:List aP):nZ (jk a k) ((atKey xs k).map (·.2)):=by
 induction r with
 |nil=>exact True.intro
 |@cons p q ps qs h t ih=>
  obtain⟨d,_,f⟩:=h;by_cases e:p.1=k
  .have c:q.1=k:=d.symm.trans e;have b:atKey (q::qs) k=aa q.2:=by simp[atKey,kf,c]
   rw[wV e,b];exact f
  .have c:¬q.1=k:=λz=>e (d.trans z);have b:atKey (q::qs) k=atKey qs k:=by simp[atKey,kf,c]
   rw[wo e,b];exact ih
theorem KT.repl{H:Hp}{a:List (List aP×V)}{d:List (List aP×ag×ak)}(r:KT H a d)(k:List aP){y:V}{u:ak}(g:RelV y u):KT H (a.map λc=>if c.1=k then(c.1,y)else c) (d.map (putAt k u)):=by
 induction r with
 |nil=>exact .nil
 |@cons p q ps qs h t ih=>
  rw[ci,ci];refine .cons ?_ ih;obtain⟨b,f,i⟩:=h;unfold putAt;by_cases e:p.1=k
  .rw[if_pos e,if_pos (b.symm.trans e)];exact⟨b,f,g⟩
  .rw[if_neg e,if_neg (λz=>e (b.trans z))];exact⟨b,f,i⟩
theorem KT.put{H:Hp}{a:List (List aP×V)}{c:List (List aP×ag×ak)}(r:KT H a c)(k:List aP){b:ag}{y:V}{u:ak}(g:H b=aa (.tup (k.map kV)))(d:RelV y u):KT H (g8 a k y) (storedH c k b u):=by
 have e:(a.any λf=>decide (f.1=k))=(atKey c k).isSome:=by rw[Dj,(r.val k).isSome_eq,HC]
 unfold g8 storedH;rw[e];by_cases q:(atKey c k).isSome=ae
 .rw[if_pos q,if_pos q];exact r.repl k d
 .rw[if_neg q,if_neg q];exact Paired.snoc r ⟨rfl,g,d⟩
theorem KT.keeps{H f:Hp}{a:List (List aP×V)}{d:List (List aP×ag×ak)}(r:KT H a d)(ht:∀b c,H b=aa (.tup c)->f b=aa (.tup c)):KT f a d :=Paired.mapP r λ_ _ z=>⟨z.1,ht _ _ z.2.1,z.2.2⟩
section
variable{P:bv}{w:bc}{H:Hp}{h:aJ}{a:ag}
theorem FS{u:HO}(ok:eD P w H h)(e:Rd H a u):eh P w H h a u:=e.ok ok
theorem pF{b:List (aP×V)}(ok:eD P w H h)(e:Rd H a (.dK b)):b.length<=bB/\(a == lG)=aj/\∃c,KV b c/\h.DictOf (gG P w) a c :=show eh P w H h a (.dK b)from FS ok e
theorem tZ{kvs:List (aP×V)}(ok:eD P w H h)(e:H a=aa (.dK kvs)):kvs.length<=bB/\(a == lG)=aj/\∃b,KV kvs b/\h.DictOf (gG P w) a b:=pF ok (.inl e)
theorem t9{ks:List aP}(ok:eD P w H h)(e:H a=aa (.tup (ks.map kV))):(uB (gG P w)).is h ks a:=by
 obtain⟨_,b,r,⟨o,f,d,n,c⟩,_⟩:=(show eh P w H h a (.tup (ks.map kV))from ok a _ e)
 exact⟨o,b.toArray,n,f,d,c,by simpa using C9 r⟩
theorem qX{b:List (List aP×V)}(ok:eD P w H h)(e:Rd H a (.dT b)):b.length<=bB/\(a == lG)=aj /\ ∃d,KT H b d/\h.DictOfH (uB (gG P w)) a d:=by
 obtain⟨z,y,d,r,o,s,u,n,j,i,g,f⟩:=(show eh P w H h a (.dT b)from FS ok e)
 refine⟨z,y,d,r,o,s,u,n,j,i,g,λx c=>?_,f⟩;have all:∀{l:List (List aP×V)}{m:List (List aP×ag×ak)},KT H l m->∀x∈m,(uB (gG P w)).is h x.1 x.2.1:=by
  intro l m q
  induction q with
  |nil=>intro x c;exact nomatch c
  |@cons p q ps qs hq t ih=>
   intro x c;rcases bA.mp c with e|c
   .subst e;exact t9 ok (by rw[<-hq.1];exact hq.2.1)
   .exact ih x c
 exact all r x c
theorem Jr{b:List (List aP×V)}(ok:eD P w H h)(e:H a=aa (.dT b)):b.length<=bB/\(a == lG)=aj /\ ∃c,KT H b c/\h.DictOfH (uB (gG P w)) a c:=qX ok (.inl e)
end
def mn(H:Hp)(a:ag)(y:V)(r:Option V):Prop :=(∃c k,Rd H a (.dK c)/\y=kV k/\r=jk c k)\/∃c k b,Rd H a (.dT c)/\y=.ref b/\H b=aa (.tup (k.map kV))/\r=jk c k
def Bn(H:Hp)(a:ag)(y v:V)(d:Hp):Prop :=
 (∃c k,H a=aa (.dK c)/\y=kV k/\c.length<bB/\d=upd H a (.dK (g8 c k v))) \/
 ∃c k b,H a=aa (.dT c)/\y=.ref b/\H b=aa (.tup (k.map kV))/\c.length<bB/\d=upd H a (.dT (g8 c k v))
theorem mn.k{H:Hp}{a:ag}{kvs:List (aP×V)}{k:aP}(e:H a=aa (.dK kvs)):mn H a (kV k) (jk kvs k):=.inl ⟨kvs,k,.inl e,rfl,rfl⟩
theorem Bn.k{H:Hp}{a:ag}{kvs:List (aP×V)}{k:aP}{v:V}(e:H a=aa (.dK kvs))(b:kvs.length<bB):Bn H a (kV k) v (upd H a (.dK (g8 kvs k v))):=.inl ⟨kvs,k,e,rfl,b,rfl⟩
section
variable{X:Cx}{f:List (ag×Obj)}{d:St}{H:Hp}{s:aq}{a:ag}{y v:V}{u r:ak}{o:Option V}{A:bG}{E:ak->aq->Prop}
theorem Inv.big(I:Inv X f d H s):lG<s.heap.objs.size:=by have h:dz<s.heap.objs.size:=(I.mod.glob.keeps I.bk).lt;exact BE (by decide) h
theorem ML{Q:ak->aq->Prop}(C:A.units+1<cLine)(I:Inv X f d H s)(g:mn H a y (aa v))(t:RelV y u)(h:∀j q,Inv X f d H q->RelV v j->Q j q):ax (aH X.prog X.w) A (kW (.ref a) u) Q E s:=by
 rcases g with⟨kvs,k,e,ey,l⟩|⟨kvs,k,b,e,ey,eb,l⟩
 .subst ey;obtain⟨z,F,x,i,n⟩:=pF I.hok e;obtain⟨j,m,c⟩:=nZ.some_of (v:=v) (o:=rE x k) (by rw[l];exact i.val k);exact wpAny_getItem_of (rg t) n.mapOf m (h j _ (I.tok _) c)
 .subst ey;cases (show u=Value.ref b from t);obtain⟨z,F,w,i,n⟩:=qX I.hok e;obtain⟨j,m,c⟩:=nZ.some_of (v:=v) (o:=(atKey w k).map (·.2)) (by rw[l];exact i.val k);obtain⟨p,D,B⟩:=xX.mp m;refine wpAny_getItem_heap (BF C) (t9 I.hok eb) n D ?_;rw[B];exact h j _ (I.tok _) c
theorem QU{Q:ak->aq->Prop}(p:A.units+1<cLine)(I:Inv X f d H s)(g:mn H a y o)(n:RelV y u)(h:∀m,Inv X f d H m->Q (.bool o.isSome) m):ax (aH X.prog X.w) A (d_ .In u (.ref a)) Q E s:=by
 rcases g with⟨kvs,k,e,ey,l⟩|⟨kvs,k,b,e,ey,eb,l⟩
 .subst ey;obtain⟨z,i,w,c,j⟩:=pF I.hok e;refine wpAny_in_of (rg n) i j.mapOf ?_;rw[<-(c.val k).isSome_eq,<-l];exact h _ (I.tok _)
 .subst ey;cases (show u=Value.ref b from n);obtain⟨z,i,t,c,j⟩:=qX I.hok e;refine wpAny_in_heap (BF p) (t9 I.hok eb) i j ?_;have q:=(c.val k).isSome_eq;rw[HC]at q;rw[<-q,<-l];exact h _ (I.tok _)
theorem yT{h':aJ}{t':Nat}{c:HO}(I:Inv X f d H s)(g:tj (H a))(h:kQ a s.heap h')(i:∃q,h'.get? a=aa q)(new:eh X.prog X.w (upd H a c) h' a c):Inv X f d (upd H a c) {s with heap:=h',toks:=t'} :=I.write (x:=a) (e:=a) g (.inl rfl) (λb q j z=>(h.2 b j).trans z) i new
theorem CA{P:bv}{w:bc}{j:Hp}{h':aJ}{b:List (aP×V)}{c:List (aP×ak)}(z:b.length<=bB)(h:(a == lG)=aj)(g:KV b c)(i:h'.DictOf (gG P w) a c):eh P w j h' a (.dK b):=⟨z,h,c,g,i⟩
theorem Lg{J:Hp}{Q:Unit->aq->Prop}(M:A.units+1<cLine)(I:Inv X f d H s)(g:Bn H a y v J)(C:RelV y u)(D:RelV v r)(h:∀B,Inv X f d J B->Q () B):ax (aH X.prog X.w) A (setItem (.ref a) u r) Q E s:=by
 rcases g with⟨kvs,k,e,ey,l,eH⟩|⟨kvs,k,b,e,ey,eb,l,eH⟩
 .subst ey eH;obtain⟨z,w,L,i,x⟩:=tZ I.hok e;have n:L.length<=bB:=by rw[<-i.length];exact z
  have t:(g8 kvs k v).length<=bB:=by have:=A_ kvs k v;lia
  refine wpAny_setItem_pairs (hsz:=n) (rg C) x λF j p=>h _ ?_;have N:∃q,F.get? a=aa q:=let ⟨q,_,_,m,_⟩:=j;⟨q,m⟩
  exact yT I (by rw[e];exact True.intro) p N (CA t w (i.put k D) j)
 .subst ey eH;cases (show u=Value.ref b from C);obtain⟨z,w,K,i,x⟩:=Jr I.hok e;have n:K.length<=bB:=by rw[<-Paired.length i];exact z
  have t:(g8 kvs k v).length<=bB:=by have:=A_ kvs k v;lia
  refine wpAny_setItem_heap (hsz:=n) (BF M) (t9 I.hok eb) x λF j p=>h _ ?_;obtain⟨q,W,Y,m,T,S,P,_,O⟩:=j;refine yT I (by rw[e];exact True.intro) p ⟨q,m⟩ ⟨t,w,_,(i.put k eb D).keeps λc Z G=>?_,q,W,Y,m,T,S,P,O⟩;rw[cc (Ji G e (λz=>nomatch z))];exact G
end
section
variable{X:Cx}{d:List (ag×Obj)}{c:St}{H:Hp}{s:aq}{a:ag}{b:List (aP×V)}{k:aP}{u:ak}{A:bG}{E:ak->aq->Prop}
theorem PR{Q:ak->aq->Prop}(I:Inv X d c H s)(e:Rd H a (.dK b))(h:∀t g,Inv X d c H g->Q (.int b.length t) g):ax (aH X.prog X.w) A (call (.builtin "len") [.ref a]) Q E s:=by obtain⟨z,i,l,f,j⟩:=pF I.hok e;refine call_len_dict i j (by rw[<-f.length];rw[pM]at z;lia) ?_;rw[<-f.length];exact h _ _ (I.tok _)
end
def zV(i:aD):Prop:=∀a b,By i aj a b=operate [a,b] (kW a b)
theorem Qz{a:bv}{w:bc}{A:bG}{E:ak->aq->Prop}{s:aq}{m:Env}{c b:aD}{q:Pos}{T u:String}{Q:ak->aq->Prop}(y:typeLookup (.type T) "__getitem__"=pure (aa (.builtin u))) (v:zV b)(h:ax (aH a w) A (bq c m) (λo j=>ax (aH a w) A (bq b m) (λi d=>d.TypeIs o T/\ax (aH a w) A (kW o i) Q E d) E j) E s):ax (aH a w) A (bq (.Subscript c b q) m) Q E s:=by
 refine Subscript_ (gy h (λo j p=>gy p (λi d f=>?_) λ_ _ x=>x) λ_ _ x=>x);obtain⟨t,f⟩:=f;unfold Bw;refine au ?_;rw[getitemInPython_of_ne t.not_modules];refine au (wpAny_specialOf t y ?_);have l:ax (aH a w) A (By b aj o i) (λr g=>ax (aH a w) A (letTemporaryGo c o r >>= λ_=>pure r) Q E g) E d:=by rw[v o i];exact wpAny_operating (gy f (λr g n=>au (wpAny_letTemporaryGo (aN n))) λ_ _ x=>x)
 first
  |exact aN (au l)
  |exact au (aN (au l))
  |exact au l
theorem Mz{X:Cx}{f:List (ag×Obj)}{d:St}{H:Hp}{s:aq}{a:ag}{y:V}{o:Option V}(I:Inv X f d H s)(g:mn H a y o):s.TypeIs (.ref a) "dict":=by
 rcases g with⟨kvs,k,e,_,_⟩|⟨kvs,k,b,e,_,_,_⟩
 .obtain⟨_,_,i,_,c⟩:=pF I.hok e;exact c.typeIs
 .obtain⟨_,_,h,_,c⟩:=qX I.hok e;exact c.typeIs
def KR(d ty:TE):TE:=λb H Q=>d b H λx f=>ty b f λy c=>∃a v,x=.ref a/\mn c a y (aa v)/\Q v c
def Qu(ty d:TE):TE:=λb H Q=>ty b H λy f=>d b f λx c=>∃a o,x=.ref a/\mn c a y o/\Q (.bl o.isSome) c
def KI(f ty d:TE):TS:=λD b H=>d b H λv i=>f b i λx h=>ty b h λy g=>∃a c,x=.ref a/\Bn g a y v c/\D.nx b c
section
variable{X:Cx}{o i e b:aD}{d c m:Pos}{j f l:TE}
theorem IE(C:X.A.units+1<cLine)(E:PE X o j)(F:PE X i f)(D:zV i):PE X (.Subscript o i d) (KR j f):=by intro q s p H Q I h;refine Qz PySem.F.slot_dict_getitem.lookup D (a9 (E q s p H _ I h) λu t ⟨x,M,K,z,B⟩=>a9 (F q t p M _ K B) λS P ⟨y,L,r,w,a,v,G,g,A⟩=>?_);subst G;obtain rfl:u=Value.ref a:=z;exact⟨Mz r g,ML C r g w λN O J n=>⟨v,L,J,n,A⟩⟩
theorem MX(A:X.A.units+1<cLine)(C:PE X i f)(B:PE X o j):PC X .In i o (Qu f j):=by intro p s n H Q I h;refine a9 (C p s n H _ I h) λN q ⟨y,K,G,r,w⟩=>a9 (B p q n K _ G w) λu M ⟨x,J,F,t,a,z,D,g,v⟩=>?_;subst D;obtain rfl:u=Value.ref a:=t;exact QU A F g r λL E=>⟨.bl z.isSome,J,E,rfl,v⟩
theorem J4(G:X.A.units+1<cLine)(K:PE X o j)(L:PE X i f)(F:PE X b l)(J:kR b (aa (.Subscript o i c)) d.line X.env=pure aj):PS X (.Assign [.Subscript o i c] b d) (KI j f l):=by intro p s n H D I h;refine wpAny_Assign_Subscript (a9 (F p s n H _ I h) λr t ⟨v,W,Q,A,E⟩=>a9 (K p t n W _ Q E) λu q ⟨x,T,P,z,C⟩=>a9 (L p q n T _ P C) λiv Z ⟨y,H3,O,w,a,S,M,g,B⟩=>?_) J;subst M;obtain rfl:u=Value.ref a:=z;exact Lg G O g w A λY N=>⟨n,S,N,B⟩
end
theorem DL{P:bv}{w:bc}{H:Hp}(h:aJ)(a:lG<h.objs.size):eh P w H (h.push {cls:=.type "dict",data:=.dict #[]}) h.objs.size (.dK []) :=⟨kg _,beq_eq_false_iff_ne.mpr (fj (dW a)),[],.nil,Heap.DictOf.new h⟩
def Og:TE:=λ_ H Q=>∀p,H p=ah->Q (.ref p) (upd H p (.dK []))
section
variable{X:Cx}{b:Pos}
theorem K9:PE X (.Dict [] [] b) Og:=λd s c H Q I h=>wpAny_Dict_empty ⟨.ref s.heap.objs.size,_,I.laid (a:=s.heap.objs.size) (o:=.dK []) (t':=s.toks) (λ_ _ q=>bz _ q) (bC _) (DL s.heap I.big),rfl,h _ (I.hok.fresh (bC _))⟩
end
def zM:List (TE×TE)->St->Hp->(List (V×V)->Hp->Prop)->Prop
 |[],_,H,Q=>Q [] H
 | (c,b)::r,a,H,Q=>c a H λx h=>b a h λy g=>zM r a g λd f=>Q ((x,y)::d) f
abbrev VV:List (V×V)->List (ak×ak)->Prop:=j_ λp q=>RelV p.1 q.1/\RelV p.2 q.2
def pt(X:Cx)(d:Pos)(keys:List (Option aD))(a:List aD)(c:List (TE×TE)):Prop :=
 ∀(g:List (ag×Obj)) (s:aq) (b:St) (H:Hp) (Q:List (V×V)->Hp->Prop),Inv X g b H s->zM c b H Q ->
  ax (aH X.prog X.w) X.A (evalPairs (pairTrees keys a X.env d)) (λi j=>∃f h,Inv X g b h j/\VV f i/\Q f h) X.xe s
theorem P7{X:Cx}{a:Pos}:pt X a [] [] []:=λc s b H Q I h=>pairTrees_nil_walk ⟨[],H,I,.nil,h⟩
theorem Nq{X:Cx}{b:Pos}{k v:aD}{ks:List (Option aD)}{g:List aD}{j i:TE}{a:List (TE×TE)}(A:PE X k j)(w:PE X v i)(z:pt X b ks g a):pt X b (aa k::ks) (v::g) ((j,i)::a):=λf s c H Q I h=>pairTrees_cons_walk (a9 (A f s c H _ I h) λu m ⟨x,G,D,o,r⟩=>a9 (w f m c G _ D r) λK l ⟨y,F,C,n,q⟩=>a9 (z f l c F _ C q) λJ L ⟨t,E,B,d,p⟩=>⟨(x,y)::t,E,B,.cons ⟨o,n⟩ d,p⟩)
def rf(a more:List (aP×V)):List (aP×V):=more.foldl (λc b=>g8 c b.1 b.2) a
theorem KV.merge:∀{more:List (aP×V)}{c:List (aP×ak)}{a:List (aP×V)}{b:List (aP×ak)},KV more c->KV a b->KV (rf a more) (merged b c):=by
 intro more c a b r;unfold KV at r
 induction r generalizing a b with
 |nil=>intro q;exact q
 |@cons p q ps qs h t ih=>
  intro d;have e:KV (g8 a p.1 p.2) (stored b q.1 q.2):=by have:=d.put p.1 h.2;rw[<-h.1];exact this
  exact ih e
theorem FR:∀(more a:List (aP×V)),(rf a more).length<=a.length+more.length
 |[],a=>by show a.length<=a.length+0;lia
 |p::r,a=>by have c:=FR r (g8 a p.1 p.2);have b:=A_ a p.1 p.2;show(rf (g8 a p.1 p.2) r).length<=_;rw[eY];lia
theorem CK{P:bv}{w:bc}:∀{d:List (aP×V)}{g:List (ak×ak)},VV (d.map λi=>(kV i.1,i.2)) g->∃f,Carries (gG P w) g f/\KV d f
 |[],_,r=>by rw[rF]at r;cases r;exact⟨[],True.intro,.nil⟩
 |p::d,_,r=>by
  rw[ci]at r;cases r with
  |@cons a b as bs h t=>obtain⟨f,c,q⟩:=CK (P:=P) (w:=w) t;obtain⟨b1,b2⟩:=b;exact⟨(p.1,b2)::f,⟨rg h.1,rfl,c⟩,.cons ⟨rfl,h.2⟩ q⟩
def QN(b:List (TE×TE)):TE:=λf H Q=>∀p,H p=ah->zM b f (upd H p (.dK [])) λg d=>d p=aa (.dK [])/\∃a:List (aP×V),g=a.map (λc=>(kV c.1,c.2))/\a.length<=15/\Q (.ref p) (upd d p (.dK (rf [] a)))
theorem JR{X:Cx}{f:Pos}{keys:List (Option aD)}{b:List aD}{d:List (TE×TE)}(h:pt X f keys b d)(G:keys.all (·.isSome)=ae)(B:keys.length=b.length)(F:keys≠[])(l:keys.length<=15):PE X (.Dict keys b f) (QN d):=by
 intro L s n H Q I q;have A:=I.hok.fresh (bC s.heap.objs.size);have M:=I.laid (a:=s.heap.objs.size) (o:=.dK []) (h':=s.heap.push {cls:=.type "dict",data:=.dict #[]}) (t':=s.toks) (λ_ _ q=>bz _ q) (bC _) (DL s.heap I.big);refine wpAny_Dict_walk (knd:=gG X.prog X.w) G B F l (a9 (h L _ n _ _ M (q _ A)) λN O ⟨S,W,m,j,e,g,J,T,v⟩=>?_);subst J;obtain⟨r,c,t⟩:=CK (P:=X.prog) (w:=X.w) j;obtain⟨z,D,p,u,K⟩:=tZ m.hok e;cases u;refine⟨r,c,K,λh' i y=>⟨.ref s.heap.objs.size,_,?_,rfl,v⟩⟩;have x:(rf [] g).length<=bB:=by have E:=FR g [];rw[pT]at E;rw[pM];lia
 have C:∃q,h'.get? s.heap.objs.size=aa q:=let ⟨q,_,_,hq,_⟩:=i;⟨q,hq⟩
 exact yT m (by rw[e];exact True.intro) y C (CA x D (t.merge .nil) i)
structure M2(X:Cx)(o:aD)(m:Str)(apos:Pos)(e f:aD)(cpos:Pos):Prop where
 base:n_ o m X.env (bq o X.env)=bq o X.env
 few:((fk cpos (bo [e,f] X.env)).all (λx=>!x.1)&&(backToKw cpos (BA [] X.env)).all (λx=>x.1.isSome)&&decide (([e,f]:List aD).length+([]:List pS).length+(if([]:List pS).isEmpty then 0 else 1)<30))=ae
 line:(apos.endLine == cpos.line)=ae
 trees:fk cpos (bo [e,f] X.env)=[(aj,bq e X.env),(aj,bq f X.env)]
def C7(H:Hp)(a:ag):Prop:=(∃b,Rd H a (.dK b))\/∃b,Rd H a (.dT b)
theorem NP{X:Cx}{l:List (ag×Obj)}{j:St}{H:Hp}{s:aq}{a:ag}(I:Inv X l j H s)(d:C7 H a):s.TypeIs (.ref a) "dict"/\(∀b,Value.ref a=.ref b->∃c,s.heap.get? b=aa c/\c.dict=ah)/\(a == lG)=aj:=by
 rcases d with⟨kvs,e⟩|⟨kvs,e⟩
 .obtain⟨_,g,n,_,f⟩:=pF I.hok e;refine⟨f.typeIs,λb q=>?_,g⟩;cases q;obtain⟨c,_,_,i,h,_⟩:=f;exact⟨c,i,h.2.1⟩
 .obtain⟨_,g,m,_,f⟩:=qX I.hok e;refine⟨f.typeIs,λb q=>?_,g⟩;cases q;obtain⟨c,_,_,i,h,_⟩:=f;exact⟨c,i,h.2.1⟩
section
variable{X:Cx}{f:List (ag×Obj)}{c:St}{H:Hp}{s:aq}{a:ag}{y d:V}{u r:ak}{o:Option V}{A:bG}{E:ak->aq->Prop}
theorem Ky{Q:ak->aq->Prop}(v:A.units+1<cLine)(I:Inv X f c H s)(g:mn H a y o)(q:RelV y u)(rd:RelV d r)(h:∀n p,Inv X f c H p->RelV (o.getD d) n->Q n p):ax (aH X.prog X.w) A (call (.builtin "dict.get") [.ref a,u,r]) Q E s:=by
 rcases g with⟨kvs,k,e,ey,l⟩|⟨kvs,k,b,e,ey,eb,l⟩
 .subst ey;obtain⟨z,m,w,i,j⟩:=pF I.hok e;refine call_meetsIn HD j.typeIs PySem.F.entry_dict_get (PySem.F.args_dict_get_3 _ _ _) (meets_dict_get_default (gG X.prog X.w) a (rg q) m r) ⟨_,j.mapOf,h _ _ (I.tok _) ?_⟩;rw[l];exact(i.val k).getD rd
 .subst ey;cases (show u=Value.ref b from q);obtain⟨z,m,t,i,j⟩:=qX I.hok e;refine call_meetsIn HD j.typeIs PySem.F.entry_dict_get (PySem.F.args_dict_get_3 _ _ _) (meetsH_dict_get_default (uB (gG X.prog X.w)) a b m r) ⟨BF v,k,t,t9 I.hok eb,j,h _ _ (I.tok _) ?_⟩;rw[l];exact(i.val k).getD rd
end
def OY(f ty tx:TE):TE:=λb H Q=>f b H λx d=>∃a,x=.ref a/\C7 d a/\ty b d λy g=>tx b g λz c=>∃o,mn c a y o/\Q (o.getD z) c
section
variable{X:Cx}{o e f:aD}{c b:Pos}{j i tx:TE}
theorem DC(G:X.A.units+1<cLine)(J:PE X o j)(L:PE X e i)(K:PE X f tx)(m:M2 X o "get" c e f b):PE X (.Call (.Attribute o "get" c) [e,f] [] b) (OY j i tx):=by intro p s l H Q I h;refine wpAny_Call_method m.base m.few m.line PySem.F.plainAttrs_dict HD PySem.F.type_dict_get (a9 (J p s l H _ I h) λu w ⟨x,W,q,C,a,M,d,F⟩=>?_);subst M;obtain rfl:u=Value.ref a:=C;obtain⟨t,r,_⟩:=NP q d;refine⟨t,r,?_⟩;rw[m.trees];refine Bz rfl (BB (Bs (a9 (L p w l W _ q F) λiv v ⟨y,T,P,B,E⟩=>Bs (a9 (K p v l T _ P E) λfv s3 ⟨z,S,O,A,ov,g,D⟩=>Ho ?_))));exact Ky G O g B A λY Z N n=>⟨_,S,N,n,D⟩
end
end L2
namespace Att
open PySem PySem.W PySem.Calls PyProof.Rows
theorem PU{P:Params}{h:aJ}:∀(c:List Int) (d:List ak),WellAll P h d (c.map WData.int)->IntsAre d c:=by
 intro c
 induction c with
 |nil=>
  intro d w;rw[rF]at w;cases w;exact .nil
 |cons n c f=>
  intro d w;rw[ci]at w;cases w with
  |cons a b=>
   cases a;exact .cons _ _ (f _ b)
theorem QR{l:OpenLaw}{n:Nat}(w:l.most=aa n){P:Params}{h:aJ}{args:List WData}{c:List ak}(o:l.row.toRowW.claim.pre args=ae) (i:WellAll P h c args):∃a m b,c=[Value.ref a]/\args=[WData.list (b.map WData.int)]/\h.get? a=aa {cls:=.type "list",data:=.seq m.toArray}/\IntsAre m b/\b.length<=n:=by
 have j:WShape.hasAll [] args [.list .int]=ae:=(pre_splitW o).1;have p:l.pre.holds [] {args:=args}=ae:=(pre_splitW o).2;obtain⟨d,r,rfl,z,y⟩:=hasAllW_cons j;obtain rfl:=hasAllW_nil y;obtain⟨C,rfl,x⟩:=hasW_list z;obtain⟨b,rfl⟩:=items_int x;have B:b.length<=n:=by
  unfold OpenLaw.pre at p;have g:(WTm.not (.lt (.lit (.int (n:Int))) (.len (.arg 0)))).holds [] {args:=[.list (b.map .int)]}=ae:=by have g:=(holds_andW p).1;rw[w]at g;exact g
  have f:=condW_of g (w_not (w_lt w_lit (w_len_list (w_arg rfl))));rw[b0]at f;refine Nat.le_of_not_lt λq=>?_;have u:(n:Int)<((b.length:Nat):Int):=∅
  first
   | (rw[decide_eq_true u]at f;exact absurd f (by decide))
   | (simp at f;lia)
 cases i with
 |cons t s=>
  cases s;cases t with
  |list v A=>exact⟨_,_,b,rfl,rfl,v,PU b _ A,B⟩
theorem NF(l:OpenLaw)(args:List WData):l.row.toRowW.claim.post args (.bool ae) args=ae :=
 postW_of (r:=l.row.toRowW) (X:=(ae == ae))
  (show WShape.has [] (.bool ae) .bool=ae by first|rfl|decide|simp[WShape.has,WShape.arms,WShape.armsAll])
  (show(WTm.eq .res (.lit (.bool ae))).value [] {args:=args,res:=aa (.bool ae),after:=args}=aa (.bool (ae == ae))from w_eq_bool (w_res rfl) w_lit) rfl
theorem attach_call{l:OpenLaw}{n:Nat}{q:bv}{g:List Str}{XP:(Str->Option ak)->aJ->Prop}{B:bc->aJ->Prop}{d:DefRec}(J:l.most=aa n) (E:d.params.defaults=[])(call:∀(w:bc) (c b:aq) (s v:Str->Option ak) (j:ag) (o:Obj) (u t h:ak) (a:ag) (i:List ak) (p:List Int),Ground q g [] XP w c s v b.heap->B w b.heap -> b.heap.get? j=aa o->o.data=.func (docDef d.name d.params d.body d.scope u t h)->b.heap.CodeRec t d.name->s d.name=aa (.ref j) -> b.heap.get? a=aa {cls:=.type "list",data:=.seq i.toArray}->IntsAre i p->p.length<=n->b.gens=#[] -> pN (aH l.prog w) rG (.call (.ref j) ⟨[.ref a],[]⟩) (λr m=>r=.ok (.ret (.bool ae))/\OldK b.heap m.heap/\m.os=b.os/\mP m.gens) b):WalkO q g XP B l.row.toRowW d [] (λf i=>PySem.call f i):=by intro w c b s v G Y j o u t h dV kV I N S hD C M A y Z D z F x L;obtain rfl:dV=.none:=Dflts.none hD E;obtain rfl:kV=.none:=Dflts.noKw hD;obtain⟨a,i,p,rfl,rfl,W,X,T⟩:=QR J D x;refine enter_call (xU (call w c b s v j o u t h a i p G Y I (fd_plain N) S C W X T M) λr m H=>?_);obtain⟨rfl,Q,P,O⟩:=H;exact⟨.inl ⟨.bool ae,.bool ae,[],rfl,λ_=>rfl,.bool ae,NF l _,λ_=>⟨List.Pairwise.nil,λ_ K=>(nomatch K)⟩⟩,Q,P,O⟩
end Att
namespace L2
theorem Cn:∀{a:List ak}{b:List Int},IntsAre a b->cf (b.map V.int) a
 |_,_,.nil=>.nil
 |_,_,.cons n t h=>.cons ⟨t,rfl⟩ (Cn h)
def AD(H:Hp):Prop:=∀b,H b=ah\/(∃o a,H b=aa (.frz o (.lst a)))\/∃q,H b=aa (.tbl q)
def jB(K:aA):Hp:=λb=>match pI K "least_ending" with
 |some (_,P)=>if b=P then aa (.tbl "least_ending.<locals>.<lambda>")else ah
 |none=>ah
theorem o9{K:aA}{b:ag}{u:HO}(h:jB K b=aa u):u=.tbl "least_ending.<locals>.<lambda>"/\∃c,pI K "least_ending"=aa (c,b):=by
 unfold jB at h;split at h
 .rename_i c P e;split at h
  .rename_i a;subst a;cases h;exact⟨rfl,c,e⟩
  .cases h
 .cases h
theorem C_{K:aA}{c P:ag}(h:pI K "least_ending"=aa (c,P)):jB K P=aa (.tbl "least_ending.<locals>.<lambda>"):=by unfold jB;rw[h];exact if_pos rfl
def CF(K:aA)(h:aJ):Prop:=∀c P,pI K "least_ending"=aa (c,P)->PySem.W.codeHdIn K c P=ae/\K.lookup P=ah/\h.get? P=aa {cls:=.none,data:=.fields #[]}
theorem Nt{P:bv}{w:bc}{K:aA}{J mb:Str->Option ak}{CX:gR}{k:Nat}{fa a:ag}{fd:iH}{x:Str}{sp:Sp}{f:aq}{E:List ak}{L:List Int}(KX:K.In f.heap) (rZ:f.heap.Ns dz J) (j:f.heap.Ns pH mb) (hbb:∀x:Str,x≠"__name__"->mb x=fi x) (N:f.heap.NoLimit) (hbm:∃D A,J "__builtins__"=aa (.ref D)/\D≠pH/\f.heap.get? D=aa A/\A.cls=.type "module"/\A.dict=aa pH/\A.data=.plain) (B:CF K f.heap) (hg:f.gens=#[])(t:f.heap.get? a=aa {cls:=.type "list",data:=.seq E.toArray}) (hi:IntsAre E L) (hl:L.length<=bB) (hr:gF k rG)(F:∀p:aJ,K.In p->p.Ns dz J->kw P w K J p CX k fa fd [x] sp) (Rm:∀(s:aq) (u:ak),BindsTo s fd ⟨[u],[]⟩ [(x,u)])(lV:∀H:Hp,AD H->cI K H a (L.map V.int)->sp [.ref a] H (λv _=>v=.bl ae) λ_ _ _=>False)(hCX:∀H e l,CX [] H f (λ_ _ _=>False) e l->False):pN (aH P w) rG (.call (.ref fa) ⟨[.ref a],[]⟩) (λr l=>r=.ok (.ret (.bool ae))/\OldK f.heap l.heap/\l.os=f.os/\mP l.gens) f:=by
 have rv:=Cn hi;have M:=hi.length;have C:∀H:Hp,AD H->cI K H a (L.map V.int)->eD P w H f.heap->(∀b,H b≠ah->b=a\/∃c,pI K "least_ending"=aa (c,b))->(H a≠ah->K.lookup a=ah)->vz K H ->
   pN (aH P w) rG (.call (.ref fa) ⟨[.ref a],[]⟩) (λr l=>r=.ok (.ret (.bool ae))/\OldK f.heap l.heap/\l.os=f.os/\mP l.gens) f:=by
  intro H hO hS G X hK hTH;have g:∀{b:ag}{o:Obj},f.heap.get? b=aa o->H b=ah->(my f.heap H).get? b=aa o:=λe n=>MD e n;have noA:∀{b:ag}{o:Obj}{Q:Array DictEntry}{S:Nat},f.heap.get? b=aa o->o.data=.dict Q S->H b=ah:=λ{b o Q S} e d=>by
   cases q:H b with
   |none=>rfl
   |some u=>
    rcases X b (by rw[q];simp)with i|⟨c,i⟩
    .subst i;rw[t]at e;cases e;have d':Data.seq E.toArray _=Data.dict Q S:=d;cases d'
    .rw[(B c b i).2.2]at e;cases e;cases d
  have y:∀{b:ag}{m:Str->Option ak},f.heap.Ns b m->(my f.heap H).Ns b m:=λ{b m} ⟨o,Q,S,e,d,r⟩=>⟨o,Q,S,g e (noA e d),d,r⟩
  have O:K.In (my f.heap H):=λb o e=>g (KX b o e) (by
   cases q:H b with
   |none=>rfl
   |some u=>
    rcases X b (by rw[q];simp)with i|⟨c,i⟩
    .subst i;rw[hK (by rw[q];simp)]at e;cases e
    .rw[(B c b i).2.1]at e;cases e)
  have hM:Mod K J (my f.heap H):=⟨O,y rZ,⟨mb,y j,hbb⟩,(let ⟨mc,h1,h2⟩:=N;⟨mc,y h1,h2⟩),by
   obtain⟨D,A,b1,b2,W,b4,b5,b6⟩:=hbm;refine⟨D,A,b1,b2,g W ?_,b4,b5,b6⟩;cases q:H D with
   |none=>rfl
   |some u=>
    rcases X D (by rw[q];simp)with i|⟨c,i⟩
    .subst i;rw[t]at W;cases W;simp at b4
    .rw[(B c D i).2.2]at W;cases W;simp at b4⟩
  have e0:v8 P w K J (my f.heap H) rG [] f H:=⟨rfl,hM,λb o e=>Rb e,oh (Ix _ _),trivial,λb j=>absurd (show b∈([]:List ag)from j) (by simp),G,.of_eq hg,hTH⟩
  refine xU ((F _ O (y rZ)).run rG [] f H ⟨[.ref a],[]⟩ [.ref a] [.ref a] _ _ hr e0 (Rm f (.ref a)) (.cons rfl .nil) (lV H hO hS)) λr l h=>?_;cases r with
  |error e=>exact(hCX H e l h).elim
  |ok fl=>
   cases fl with
   |next=>exact lK h
   |brk=>exact lK h
   |cont=>exact lK h
   |ret u=>
    obtain⟨v,H',os,T,un,Il,r',q⟩:=h;have q':v=.bl ae:=q;subst q';obtain rfl:u=Value.bool ae:=r';refine⟨rfl,⟨λb o e=>?_,λb o e=>un.there b o e (by simp)⟩,os,T⟩;cases q:H b with
    |none=>exact .inl (un.keep b o e q (by intro z;exact absurd (show b∈([]:List ag)from z) (by simp)) (by simp))
    |some u=>
     rcases hO b with z|⟨A,xs,z⟩|⟨qn,z⟩
     .rw[q]at z;cases z
     .have z2:=un.frzs b A _ z;obtain⟨I,_⟩:=G b _ z;obtain⟨e2,_⟩:=Il b _ z2;rw[e]at I;cases I;exact .inl e2
     .rcases X b (by rw[q];simp)with i|⟨c,i⟩
      .subst i;obtain⟨ps,I,_⟩:=G b _ z;rw[t]at I;cases I
      .obtain⟨k1,k2,k3⟩:=B c b i;rw[k3]at e;cases e;obtain⟨oc,Y,_,_,_,_,_,_,_,f1,f2,f3,f4,_⟩:=PySem.W.codeHd_of_K KX k1;obtain⟨ps,I,_⟩:=Il b _ (un.tbls b _ z);exact .inr (.inl ⟨⟨c,oc,Y,f1,f2,f3,f4⟩,rfl,#[],ps,rfl,by rw[I];simp⟩)
 cases hk:K.lookup a with
 |some o=>
  have e:=KX a o hk;rw[t]at e;cases e;have tH:∀b u,jB K b=aa u->eh P w (jB K) f.heap b u:=λb u z=>by
   obtain⟨rfl,c,e⟩:=o9 z;exact⟨#[],(B c b e).2.2,trivial,λZ cv h=>by cases h⟩
  refine C (jB K) (λb=>?_) (.inr ⟨_,E.toArray,_,hk,rfl,rfl,rfl,by rw[ef,M];exact hl,by simpa using rv⟩) tH (λb z=>?_) (λz=>?_) λx hx c P e=>?_
  .cases q:jB K b with
   |none=>exact .inl rfl
   |some u=>exact .inr (.inr ⟨_,congrArg aa (o9 q).1⟩)
  .cases q:jB K b with
   |none=>exact absurd q z
   |some u=>exact .inr (o9 q).2
  .cases q:jB K a with
   |none=>exact absurd q z
   |some u=>
    obtain⟨_,c,i⟩:=o9 q;rw[(B c a i).2.2]at t;cases t
  .obtain rfl:x = "least_ending":=by simpa[A4]using hx
   exact C_ e
 |none=>
  have ta:∀c P,pI K "least_ending"=aa (c,P)->P≠a:=λc P e z=>by subst z;rw[(B c P e).2.2]at t;cases t
  refine C (λb=>if b=a then aa (.frz {cls:=.type "list",data:=.seq E.toArray} (.lst (L.map V.int)))else jB K b) (λb=>?_) (.inl (.inr ⟨{cls:=.type "list",data:=.seq E.toArray},if_pos rfl⟩)) (λb u z=>?_) (λb z=>?_) (λ_=>hk) λx hx c P e=>?_
  .by_cases j:b=a
   .exact .inr (.inl ⟨_,_,if_pos j⟩)
   .cases q:jB K b with
    |none=>exact .inl ((if_neg j).trans q)
    |some u=>exact .inr (.inr ⟨_,(if_neg j).trans (q.trans (congrArg aa (o9 q).1))⟩)
  .by_cases j:b=a
   .have z':=(if_pos j).symm.trans z;cases z';subst j;exact⟨t,by rw[b0];exact hl,E,_,rv,t⟩
   .obtain⟨rfl,c,e⟩:=o9 ((if_neg j).symm.trans z);exact⟨#[],(B c b e).2.2,trivial,λZ cv h=>by cases h⟩
  .by_cases j:b=a
   .exact .inl j
   .cases q:jB K b with
    |none=>exact absurd ((if_neg j).trans q) z
    |some u=>exact .inr (o9 q).2
  .obtain rfl:x = "least_ending":=by simpa[A4]using hx
   exact(if_neg (ta c P e)).trans (C_ e)
theorem RY{l:BG}{n k:Nat}{q:bv}{c:List Str}{XP:(Str->Option ak)->aJ->Prop}{D:bc->aJ->Prop}{d:DefRec}{K:Params->aA}{CX:bc->gR}{sp:bc->Sp}{x:Str}(N:l.most=aa n) (r:n<=bB) (J:d.params.defaults=[]) (M:gF k rG)(B:∀(w:bc) (h:aJ),D w h->(K w.params).In h/\CF (K w.params) h)(F:∀(w:bc) (g:Str->Option ak) (m:ag) (h:aJ),(K w.params).In h->h.Ns dz g->g d.name=aa (.ref m) -> ∃y:iH,(∀(s:aq) (u:ak),BindsTo s y ⟨[u],[]⟩ [(x,u)]) /\ ∀b:aJ,(K w.params).In b->b.Ns dz g->kw l.prog w (K w.params) g b (CX w) k m y [x] (sp w))(L:∀(w:bc) (H:Hp) (a:ag) (j:List Int),j.length<=n->AD H->cI (K w.params) H a (j.map V.int)->sp w [.ref a] H (λv _=>v=.bl ae) λ_ _ _=>False)(t:∀(w:bc) (H:Hp) (s:aq) (e:ak) (p:aq),CX w [] H s (λ_ _ _=>False) e p->False):PySem.W.WalkO q c XP D l.row.toRowW d [] (λf z=>PySem.call f z):=by refine Att.attach_call N J λw A i g mb m o pm cd W a z j G Y ho hd cO I X Z C O=>?_;have E:=(B w _ Y).1;obtain⟨y,P,T⟩:=F w g m _ E G.T.g I;exact Nt E G.T.g G.T.b G.T.builtins G.T.nolimit G.T.bmain (B w _ Y).2 O X Z (dX C r) M T P (λH S Q=>L w H a j C S Q) λH e p=>t w H i e p
def kB(s:bu):Arguments:=match s with
 |.FunctionDef _ a _ _ _ _ _ _ _ _=>a
 |_=>{posonlyargs:=[],args:=[],vararg:=ah,kwonlyargs:=[],kw_defaults:=[],kwarg:=ah,defaults:=[]}
def iE(s:bu):List bu:=match s with
 |.FunctionDef _ _ b _ _ _ _ _ _ _=>b
 |_=>[]
def a8(s:bu):eP:=match s with
 |.FunctionDef _ _ _ _ _ _ a _ _ _=>a
 |_=>{kind:=.function,names:=[],isGenerator:=aj,isCoroutine:=aj}
abbrev E0:XK:=λ_ _ _=>False
structure oX(K:aA)(x qual:Str)(st:bu)(f:ag)(fd:iH):Prop where
 ex:∃(oc:ak) (od:Option ag) (kV doc pm:ak) (an:Option ag) (bn ct:ak) (osl:Array (Option ak)),
  fd=ke x qual (kB st) (iE st) (a8 st) .none kV doc pm an bn ct/\K.lookup f=aa ⟨oc,od,.func fd,osl⟩/\xV K bn qual=ae
 kp:uE K (.ref f)=ae
section
variable{P:bv}{w:bc}{K:aA}{b:Str->Option ak}{a:aJ}
theorem oX.binds{x c:Str}{g:bu}{f:ag}{p:iH}{j:List Str}(F:oX K x c g f p)(h:∀(kV d l:ak) (o:Option ag) (n m:ak) (i:List ak),i.length=j.length->g_ (ke x c (kB g) (iE g) (a8 g) .none kV d l o n m) ⟨i,[]⟩=pure (j.zip i)):Binds K p j []:=by obtain⟨oc,r,kV,d,l,o,n,m,q,rfl,s,t⟩:=F.ex;exact .all (h kV d l o n m)
theorem FY{x d:Str}{g:bu}{f:ag}{oc:ak}{p o:Option ag}{i:Array (Option ak)}{kV h m j n:ak}(l:K.lookup f=aa ⟨oc,p,.func (ke x d (kB g) (iE g) (a8 g) .none kV h m o j n),i⟩)(c:xV K j d=ae) (k:uE K (.ref f)=ae):oX K x d g f (ke x d (kB g) (iE g) (a8 g) .none kV h m o j n):=⟨⟨oc,p,kV,h,m,o,j,n,i,rfl,l,c⟩,k⟩
end
theorem Av{n:Nat}(h:n<=1000):n<bB:=BH h (by decide)
section
variable{X:Cx}
theorem pv(i:Nat){x:Str}{a:Pos}(d:X.N[i]?=aa x:=by rfl)(b:gT X.env.scope x:=by eq_refl)(c:(x==("__debug__":Str))=aj:=by decide)(f:(x==("__classdict__":Str))=aj:=by decide):PE X (.Name x a) (GA i):=iQ d b c f
theorem K5:gn X (.builtin "len") (λc H Q=>∃a b,c=[V.ref a]/\H a=aa (.dK b)/\Q (.int b.length) H):=by
 intro m s i H c j Q I r h;obtain⟨a,b,rfl,f,q⟩:=h;obtain⟨u,rfl,d⟩:=vals1 r;cases d;exact PR I (.inl f) λt l g=>⟨.int b.length,H,g,⟨t,rfl⟩,q⟩
end
theorem mq{A B:Prop}(h:B):if aj=ae then A else B:=by rw[if_neg fV];exact h
theorem mC{A B:Prop}(h:A):if ae=ae then A else B:=by rw[if_pos rfl];exact h
def Same(H a:Hp):Prop:=∀b o,H b=aa o->a b=aa o
theorem Same.refl(H:Hp):Same H H:=λ_ _ h=>h
theorem Same.trans{H f d:Hp}(a:Same H f)(b:Same f d):Same H d:=λc o h=>b c o (a c o h)
theorem Same.free{H a:Hp}(e:Same H a){l:ag}(h:a l=Option.none):H l=Option.none:=by
 cases q:H l with
 |none=>rfl
 |some o=>
  rw[e l o q]at h;cases h
end L2
set_option maxHeartbeats 4000000
namespace L2
def ie(a:Env):List (Str×gL)->List (Str×ag)->List (Str×ag)
 |[],b=>b
 | (n,k)::r,b=>if k == .free then ie a r ((n,(a.cells.lookup n).getD 0)::b)else ie a r b
theorem P8{d:Env}{y:Str}{c:ag}(b:List (Str×gL))(f:List (Str×ag))(l:∀x∈b,x.2=.free->∃c,d.cells.lookup x.1=aa c)(h:(ie d b f).lookup y=aa c):f.lookup y=aa c\/d.cells.lookup y=aa c:=by
 induction b generalizing f with
 |nil=>exact .inl h
 |cons a r i=>
  obtain⟨n,k⟩:=a;unfold ie at h;have j:∀x∈r,x.2=.free->∃c,d.cells.lookup x.1=aa c:=λx m=>l x (kb _ m);split at h
  .rename_i o;obtain⟨s,g⟩:=l (n,k) (mQ ..) (by simpa using o);rcases i _ j h with q|q
   .rw[kh]at q;split at q
    .rename_i p;have e:y=n:=by simpa using p
     subst e;rw[g]at q;exact .inr (by rw[g];exact q)
    .exact .inl q
   .exact .inr q
  .exact i _ j h
theorem FO{a:Type}{n:Str}{v:a}{l:List (Str×a)}:((n,v)::l).lookup n=aa v:=by rw[kh];simp
theorem EX{a:Type}{n y:Str}{v:a}{l:List (Str×a)}(h:∃c,l.lookup y=aa c):∃c,((n,v)::l).lookup y=aa c:=by
 rw[kh];split
 .exact⟨_,rfl⟩
 .exact h
theorem Aj{d:Env}{y:Str}:∀(a:List (Str×gL)) (b:List (Str×ag)),(∃c,b.lookup y=aa c)->∃c,(ie d a b).lookup y=aa c
 |[],b,h=>h
 | (n,k)::r,b,h=>by
  unfold ie;split
  .exact Aj r _ (EX h)
  .exact Aj r _ h
theorem yB{g:Env}{y:Str}:∀(a:List (Str×gL)) (i:List (Str×ag)),(∃x∈a,x.1=y/\x.2=.free)->∃c,(ie g a i).lookup y=aa c
 |[],i,⟨_,h,_⟩=>by simp at h
 | (n,k)::r,i,⟨x,b,f,d⟩=>by
  unfold ie;rcases bA.mp b with e|b
  .subst e;simp only at f d;subst f d;simp only[beq_self_eq_true,if_true];exact Aj r _ ⟨_,FO⟩
  .split
   .exact yB r _ ⟨x,b,f,d⟩
   .exact yB r _ ⟨x,b,f,d⟩
theorem AA{b:Env}:∀(a:List (Str×gL)) (f:List (Str×ag)),(∀x∈a,x.2=.free->∃c,b.cells.lookup x.1=aa c) -> (forIn (m:=Sem) a f λx r=>match x with | (d,kind)=>if(kind == NameKind.free)=ae then do let c <-cellOf b d;pure (ForInStep.yield ((d,c)::r))else pure (ForInStep.yield r))=pure (ie b a f)
 |[],f,_=>rfl
 | (n,k)::r,f,h=>by
  have i:∀x∈r,x.2=.free->∃c,b.cells.lookup x.1=aa c:=λx l=>h x (kb _ l);rw[List.forIn_cons];unfold ie;by_cases g:(k == NameKind.free)=ae
  .obtain⟨c,j⟩:=h (n,k) (mQ ..) (by simpa using g);simp only[g,if_true];have e:cellOf b n=pure c:=by unfold cellOf;rw[j]
   rw[e];simp only[pure_bind];rw[AA r _ i,j];rfl
  .simp only[g,if_false,pure_bind];exact AA r _ i
theorem Qs{a:eP}{b:Env}(h:∀x∈a.names,x.2=.free->∃c,b.cells.lookup x.1=aa c):closureFor a b=pure (ie b a.names []):=by unfold closureFor;have q:=AA a.names [] h;simp only[bind_pure_comp]at q ⊢;rw[q];rfl
theorem xx{n c:Nat}(b:n+1<=c)(a:c<n):False:=∅
theorem yR:∀(c:List (Str×gL)) (n:Nat) (a b:List (Str×ag)),gf n c (a++b)=gf n c a++b
 |[],_,_,_=>rfl
 | (x,k)::r,n,a,b=>by
  unfold gf;split
  .exact yR r (n+1) ((x,n)::a) b
  .exact yR r n a b
theorem vL{y:Str}{c:ag}:∀(b:List (Str×gL)) (n:Nat) (a:List (Str×ag)),(y,c)∈gf n b a->(y,c)∈a\/(y,.cell)∈b
 |[],_,_,h=>.inl h
 | (x,k)::r,n,a,h=>by
  unfold gf at h;split at h
  .rename_i d;rcases vL r _ _ h with z|z
   .rcases bA.mp z with z|z
    .cases z;have e:k=.cell:=by simpa using d
     subst e;exact .inr (mQ ..)
    .exact .inl z
   .exact .inr (kb _ z)
  .rcases vL r _ _ h with z|z
   .exact .inl z
   .exact .inr (kb _ z)
theorem A2{y:Str}:∀(b:List (Str×gL)) (n:Nat) (a:List (Str×ag)),(∃c,a.lookup y=aa c)->∃c,(gf n b a).lookup y=aa c
 |[],_,_,h=>h
 | (x,k)::r,n,a,h=>by
  unfold gf;split
  .exact A2 r _ _ (EX h)
  .exact A2 r _ _ h
theorem xQ{y:Str}:∀(b:List (Str×gL)) (n:Nat) (a:List (Str×ag)),(y,.cell)∈b->∃c,(gf n b a).lookup y=aa c
 | (x,k)::r,n,a,h=>by
  unfold gf;rcases bA.mp h with e|h
  .cases e;exact A2 r _ _ ⟨_,FO⟩
  .split
   .exact xQ r _ _ h
   .exact xQ r _ _ h
def ln(X:Cx)(a:eP)(C:ag):List (Str×ag):=gf (C+1) a.names (ie X.env a.names [])
theorem z_(X:Cx)(a:eP)(C:ag):ln X a C=gf (C+1) a.names []++ie X.env a.names []:=yR a.names (C+1) [] _
theorem M_{M:Model}{A:bG}{E:ak->aq->Prop}{s:aq}{a:eP}{b:ag}{i:List (Str×ag)}{c:Str}{d:Env}{Q:Env->aq->Prop}(j:Q (newEnv a s.heap.objs.size b (gf (s.heap.objs.size+1) a.names i) c ah .none (aa d) pH) {s with heap:=pushCells (s.heap.push {cls:=.type "dict",data:=.dict #[]}) a.names}):ax M A (newFunctionEnv a b i [] c ah .none (aa d)) Q E s:=by
 simp only[newFunctionEnv,Option.isSome_some,if_true];refine au (wpAny_alloc ?_);refine au (wpAny_layCells _ (λh kind g=>by cases f:kind == NameKind.cell <;> simp[f]) _ _ _ _ ?_);rw[show({s with heap:=s.heap.push {cls:=.type "dict",data:=.dict #[]}}:aq).heap.objs.size=s.heap.objs.size+1 from lN ..];refine au ?_;rw[List.forIn_nil];exact aN (aN j)
theorem DB{s:aq}{a:List (Str×gL)}{y:Str}{c:ag}(h:(y,c)∈gf (s.heap.objs.size+1) a []):(pushCells (s.heap.push {cls:=.type "dict",data:=.dict #[]}) a).IsCell c ah/\s.heap.objs.size+1<=c/\∀z,(z,c)∈gf (s.heap.objs.size+1) a []->y=z:=by have ok:=cellsFrom_ok a (s.heap.push {cls:=.type "dict",data:=.dict #[]}) (s.heap.objs.size+1) [] ⟨λ_ _ d=>(nomatch d),List.Pairwise.nil⟩ (by rw[lN];exact bC _);rw[lN]at ok;exact⟨(ok.empty y c h).1,(ok.empty y c h).2,λz b=>name_of_addr ok.apart h b⟩
def bK(X:Cx)(a:eP)(b:List Str)(C:ag)(s₀:aq)(H₀:Hp)(ex:List ag)(pn:List (ag×Obj)):Cx where
 prog:=X.prog
 w:=X.w
 K:=X.K
 mg:=X.mg
 base:=X.base
 A:=X.A
 N:=b
 s₀:=s₀
 H₀:=H₀
 env:=compEnvC a (ln X a C) C X.env
 outer:=X.stack
 stack:=X.stack
 ex:=ex
 fn:=λy=>a.names.lookup y == aa .cell
 calm:=X.calm
 pn:=X.pn++pn
 xe:=λ_ _=>False
def fU(b:St)(a:List Nat):St:=a.map λi=>(b[i]?).join
structure h8(X:Cx)(scope:eP)(x:Str)(N':List Str)(cap:List Nat):Prop where
 kind:scope.kind=.function
 cells:∀y∈scope.names,y.2=.cell->scope.names.lookup y.1=aa .cell
 names:∀y∈scope.names,y.2=.local->scope.names.lookup y.1=aa .local
 loc:scope.names.lookup x=aa .local\/scope.names.lookup x=aa .cell
 free:∀y∈scope.names,y.2=.free->X.env.kindOf y.1=aa .cell\/X.env.kindOf y.1=aa .free
 nd:N'.Nodup
 hd:N'.head?=aa x
 len:N'.length=cap.length+1
 caps:∀i j y,N'[i+1]?=aa y->cap[i]?=aa j->(X.N[j]?=aa y/\scope.names.lookup y=aa .free)\/(X.N.length<=j/\scope.names.lookup y=aa .local)
theorem NM{a:List (Str×gL)}{y:Str}{k:gL}(h:a.lookup y=aa k):∃x∈a,x.1=y/\x.2=k:=⟨(y,k),kU h,rfl,rfl⟩
theorem zK{a:Env}{x:Str}:∀{b:List (Str×gL)}{k:gL}, (b.map λ(n,k)=>if(k == NameKind.free&&a.scope.kind == .function&&a.kindOf n == aa .cell)then(n,NameKind.cell)else(n,k)).lookup x=aa k -> ∃f,b.lookup x=aa f/\(k=f\/(f=.free/\k=.cell))
 |[],_,h=>by simp at h
 | (n,c)::r,k,h=>by
  change BI x ((if(c == NameKind.free&&a.scope.kind == .function&&a.kindOf n == aa .cell)=ae then(n,NameKind.cell)else(n,c))::_)=_ at h;rw[kh];by_cases d:(c == NameKind.free&&a.scope.kind == .function&&a.kindOf n == aa .cell)=ae
  .rw[if_pos d,kh]at h;split at h
   .rename_i g;cases h;have:c=.free:=by simp at d;exact d.1.1
    exact⟨c,rfl,.inr ⟨this,rfl⟩⟩
   .exact zK h
  .rw[if_neg d,kh]at h;split at h
   .rename_i g;cases h;exact⟨c,rfl,.inl rfl⟩
   .exact zK h
theorem A5{a:Env}{x:Str}:∀{b:List (Str×gL)},b.lookup x=aa .free -> let q:=(b.map λ(n,k)=>if(k == NameKind.free&&a.scope.kind == .function&&a.kindOf n == aa .cell)then(n,NameKind.cell)else(n,k)).lookup x
  q=aa .cell\/q=aa .free
 |[],h=>by simp at h
 | (n,c)::r,h=>by
  show BI x ((if(c == NameKind.free&&a.scope.kind == .function&&a.kindOf n == aa .cell)=ae then(n,NameKind.cell)else(n,c))::_)=_\/BI x ((if(c == NameKind.free&&a.scope.kind == .function&&a.kindOf n == aa .cell)=ae then(n,NameKind.cell)else(n,c))::_)=_;rw[kh]at h;by_cases f:(c == NameKind.free&&a.scope.kind == .function&&a.kindOf n == aa .cell)=ae
  .rw[if_pos f,kh];cases d:x == n with
   |true=>exact .inl rfl
   |false=>rw[d]at h;exact A5 h
  .rw[if_neg f,kh];cases d:x == n with
   |true=>rw[d]at h;cases h;exact .inr rfl
   |false=>rw[d]at h;exact A5 h
theorem wp{a:Env}{x:Str}:∀{b:List (Str×gL)},b.lookup x=aa .cell -> (b.map λ(n,k)=>if(k == NameKind.free&&a.scope.kind == .function&&a.kindOf n == aa .cell)then(n,NameKind.cell)else(n,k)).lookup x=aa .cell
 |[],h=>by simp at h
 | (n,d)::r,h=>by
  show BI x ((if(d == NameKind.free&&a.scope.kind == .function&&a.kindOf n == aa .cell)=ae then(n,NameKind.cell)else(n,d))::_)=_;rw[kh]at h;by_cases f:(d == NameKind.free&&a.scope.kind == .function&&a.kindOf n == aa .cell)=ae
  .rw[if_pos f,kh];cases c:x == n with
   |true=>rfl
   |false=>rw[c]at h;exact wp h
  .rw[if_neg f,kh];cases c:x == n with
   |true=>rw[c]at h;cases h;rfl
   |false=>rw[c]at h;exact wp h
section
variable{X:Cx}{w:List (ag×Obj)}{t:St}{H:Hp}{s:aq}{f:eP}{x:Str}{A:List Str}{g:List Nat}
theorem Inv.freeHas(I:Inv X w t H s)(B:h8 X f x A g):∀y∈f.names,y.2=.free->∃c,X.env.cells.lookup y.1=aa c:=λy a e=>I.ok.has y.1 (B.free y a e)
theorem Inv.clIn(I:Inv X w t H s)(B:h8 X f x A g){y:Str}{c:ag}(h:(ie X.env f.names []).lookup y=aa c):X.env.cells.lookup y=aa c:=by
 rcases P8 f.names [] (I.freeHas B) h with q|q
 .simp at q
 .exact q
theorem Inv.cbIn(I:Inv X w t H s)(B:h8 X f x A g){C:ag}{y:Str}{c:ag}(h:(ln X f C).lookup y=aa c):((y,c)∈gf (C+1) f.names []/\f.names.lookup y=aa .cell)\/((ie X.env f.names []).lookup y=aa c/\X.env.cells.lookup y=aa c):=by
 rw[z_,HE]at h;cases e:(gf (C+1) f.names []).lookup y with
 |none=>rw[e]at h;exact .inr ⟨h,I.clIn B h⟩
 |some a=>
  rw[e]at h;cases h;have m:=kU e;rcases vL _ _ _ m with z|z
  .cases z
  .exact .inl ⟨m,B.cells _ z rfl⟩
theorem Inv.cbOld(I:Inv X w t H s)(B:h8 X f x A g){C:ag}{y:Str}{c:ag}(h:(ie X.env f.names []).lookup y=aa c)(a:f.names.lookup y=aa .free):(ln X f C).lookup y=aa c:=by
 rw[z_,HE];cases e:(gf (C+1) f.names []).lookup y with
 |none=>exact h
 |some b=>
  rcases vL _ _ _ (kU e)with z|z
  .cases z
  .have:=B.cells _ z rfl;rw[a]at this;cases this
theorem Inv.block{fp:List ag}{D:aJ}{m:Str->Option ak}{t':Nat}(hh:D=pushCells (s.heap.push {cls:=.type "dict",data:=.dict #[]}) f.names)(I:Inv X w t H s)(B:h8 X f x A g)(W:∀b∈fp,kP X w H b)(Z:∀b∈fp,∃o,s.heap.get? b=aa o)(rZ:D.Ns s.heap.objs.size m)(E:∀b o,s.heap.get? b=aa o->D.get? b=aa o):Inv (bK X f A s.heap.objs.size s H fp w) [] (ah::fU t g) H {s with heap:=D,toks:=t'}:=by
 have M:∀x c,X.env.cells.lookup x=aa c->c<s.heap.objs.size:=λx c e=>(I.cell x c e).elim λv q=>q.lt;have C:∀{y:Str}{c:ag},(y,c)∈gf (s.heap.objs.size+1) f.names []->D.IsCell c ah/\s.heap.objs.size+1<=c/\∀z,(z,c)∈gf (s.heap.objs.size+1) f.names []->y=z:=λh=>by rw[hh];exact DB h
 have lk:∀y k,(compEnvC f (ln X f s.heap.objs.size) s.heap.objs.size X.env).kindOf y=aa k->∃N,f.names.lookup y=aa N/\(k=N\/(N=.free/\k=.cell)):=λy k h=>zK h;have G:∀y,f.names.lookup y=aa .free->∃c,(ie X.env f.names []).lookup y=aa c:=λy h=>yB f.names [] (NM h);have nfs:∀b∈gs X.stack,b≠s.heap.objs.size:=λb F e=>by
  rcases bA.mp (I.stkSub b F)with z|z
  .exact absurd I.lt (by rw[<-z,e];exact fh _)
  .exact I.nofs (oh e.symm) z
 refine⟨⟨I.ok.mod,B.kind,I.ok.glob,I.ok.blt,bC _,λy z c h1 h2=>?_,λy P=>?_,λy c h qc=>?_,I.ok.hd,I.ok.frames,.inl rfl,λb F=>?_,λb o e=>I.bs b o e,dX I.ok.bsz I.sz,λb o e F=>?_,λb F hf=>?_,I.stack,(λb F=>I.stkFree b F),I.tab⟩,rfl,I.bare,Un.kept E,⟨m,rZ,λi y v e1 Q e3=>?_⟩,λy c h=>?_,I.hok.fresh (bC _),λy c h=>?_,λp hp=>?_,I.hok.kept E,?_⟩
 .-- inj
  rcases I.cbIn B h1 with⟨a1,a2⟩|⟨a1,a2⟩ <;> rcases I.cbIn B h2 with⟨b1,b2⟩|⟨b1,b2⟩
  .exact(C a1).2.2 z b1
  .exact(xx (C a1).2.1 (M _ _ b2)).elim
  .exact(xx (C b1).2.1 (M _ _ a2)).elim
  .exact I.ok.inj y z c a2 b2
 .-- has
  show ∃c,(ln X f s.heap.objs.size).lookup y=aa c;have lY:f.names.lookup y=aa .free->∃c,(ln X f s.heap.objs.size).lookup y=aa c:=λq=>(G y q).imp λc hc=>I.cbOld B hc q;rcases P with P|P
  .obtain⟨N,q,z|⟨z,_⟩⟩:=lk y _ P
   .subst z;exact xQ _ _ _ (kU q)
   .subst z;exact lY q
  .obtain⟨N,q,z|⟨_,z⟩⟩:=lk y _ P
   .subst z;exact lY q
   .cases z
 .-- cab
  have hk:f.names.lookup y=aa .cell:=by simpa using(show(f.names.lookup y == aa .cell)=ae from h)
  show s.heap.objs.size<=c;rcases I.cbIn B qc with⟨a1,a2⟩|⟨a1,a2⟩
  .have:=(C a1).2.1;lia
  .obtain⟨c',O⟩:=xQ (n:=s.heap.objs.size+1) (a:=[]) _ (kU hk);have e:(ln X f s.heap.objs.size).lookup y=aa c':=by rw[z_,HE,O];rfl
   have Q:(ln X f s.heap.objs.size).lookup y=aa c:=qc;rw[e]at Q;cases Q;have:=(C (kU O)).2.1;lia
 .-- exf
  obtain⟨f0,f1,f2,f3,f4,f5⟩:=W b F;obtain⟨o,K⟩:=Z b F;refine⟨λe=>absurd (bN K) (by rw[e];exact fh _),λy c h=>?_⟩;rcases I.cbIn B h with⟨a1,a2⟩|⟨a1,a2⟩
  .rintro rfl;exact xx (C a1).2.1 (bN K)
  .exact f4 y c a2
 .-- noex
  obtain⟨f0,f1,f2,f3,f4,f5⟩:=W b F;rcases f3 with z|z
  .exact I.ok.noex b o e z
  .exact absurd (iG (bN e) (dX I.ok.bsz z)) (fh _)
 .-- exfs
  obtain⟨f0,f1,f2,f3,f4,f5⟩:=W b F;rcases bA.mp (I.stkSub b hf)with z|z
  .exact f1 z
  .exact f2 z
 .-- loc
  cases i with
  |zero=>simp at Q
  |succ i=>
   have J:(fU t g)[i]?=aa (aa v):=by simpa using Q
   unfold fU at J;rw[iI]at J;cases Y:g[i]? with
   |none=>rw[Y]at J;cases J
   |some j=>
    rw[Y]at J;have S:(t[j]?).join=aa v:=fg J;have e5:t[j]?=aa (aa v):=by
     cases hq:t[j]? with
     |none=>rw[hq]at S;cases S
     |some o=>rw[hq]at S;exact congrArg aa S
    obtain⟨b1,b2⟩:=(B.caps i j y e1 Y).elim id λz=>by have:=(eF.mp e5).1;rw[I.len]at this;exact absurd this (Nat.not_lt.mpr z.1)
    obtain⟨mm,hn,hl⟩:=I.loc;have uT:=B.free _ (kU b2) rfl;have T:gT X.env.scope y:=by
     rcases uT with z|z
     .exact .inr (.inl z)
     .exact .inr (.inr z)
    obtain⟨u,r,l⟩:=hl j y v b1 e5 T;refine⟨u,r,.inr ⟨A5 b2,?_⟩⟩;rcases l with⟨l,_⟩|⟨_,c,hc,yn⟩
    .rcases uT with z|z
     .rw[l]at z;cases z
     .rw[l]at z;cases z
    .obtain⟨c',O⟩:=G y b2;have e6:=I.clIn B O;rw[hc]at e6;cases e6;obtain⟨L,K,hd⟩:=yn;exact⟨c,I.cbOld B O b2,L,E c L K,hd⟩
 .rcases I.cbIn B h with⟨a1,a2⟩|⟨a1,a2⟩
  .exact⟨ah,(C a1).1⟩
  .obtain⟨v,L,K,hd⟩:=I.cell y c a2;exact⟨v,L,E c L K,hd⟩
 .rcases I.cbIn B h with⟨a1,a2⟩|⟨a1,a2⟩
  .exact I.hok.fresh (dX (uI _) (C a1).2.1)
  .exact I.freeC y c a2
 .have j1:p∈X.pn++w:=by simpa[bK]using hp
  obtain⟨e,n,ne,nf,d⟩:=I.pin p j1;refine⟨E _ _ e,n,dW (bN e),λhf=>?_,d⟩;rcases bA.mp (I.stkSub p.1 hf)with z|z
  .exact ne z
  .exact nf z
 .show(ah::fU t g).length=A.length;rw[B.len];simp[fU]
end
def pb(X:Cx)(b:List aD)(t:TT):Prop :=
 ∀(d:List (ag×Obj)) (s:aq) (a:St) (H:Hp) (Q:Bool->Hp->Prop),Inv X d a H s->t a H Q ->
  ax (aH X.prog X.w) X.A (forIn b ae λc r=>if r=ae then do let ok <-mR c X.env (bq c X.env);pure (ForInStep.yield ok)else pure (ForInStep.yield r)) (TP X d a Q) X.xe s
theorem Lb{P:bv}{w:bc}{A:bG}{R:Result->aq->Prop}{s:aq}{m q i:aD}{l:List aD}{g:eP}{p:Pos}{t B:ak}{d:Env}(J:Nat->aq->Prop)(n:∀k o,J k o->ax (aH P w) A (n5 t) (λr z=>match r with
   |none=>R (.ok .next) z
   |some v=>ax (aH P w) A (Bq q t v) (λ_ F=>ax (aH P w) A (assign q d v) (λ_ E=>ax (aH P w) A (forIn l ae λc r=>if r=ae then do let ok <-mR c d (bq c d);pure (ForInStep.yield ok)else pure (ForInStep.yield r)) (λb u=>if b=ae then ax (aH P w) A (bq m d) (λy D=>ax (aH P w) A (call (.builtin "list.append") [B,y]) (λ_ C=>∃j,j<k/\J j C) (λ_ _=>False) D) (λ_ _=>False) u else ∃j,j<k/\J j u) (λ_ _=>False) E) (λ_ _=>False) F) (λ_ _=>False) z) (λ_ _=>False) o) (k:Nat) (h:J k s) :
  pN (aH P w) A (.compLoop (.ListComp m [⟨q,i,l,0⟩] g p) 0 t B d) R s:=by
 refine codeAny_loop rfl J (λj o I=>?_) k h;show ax _ A (Sem.onRaise (compTurn (.ListComp m [⟨q,i,l,0⟩] g p) 0 t B d) (λx=>do noteFrame x d;theTreesLotGoes x)) _ _ o;refine wpAny_noted ?_;rw[compTurn_list];have no:∀(O:ak->aq->Prop) (a:ak) (b:aq),False->O a b:=λ_ _ _ f=>f.elim;refine au (wpAny_standAt (au (gy (n j o I) (λr z H=>?_) (no _))));cases r with
 |none=>exact aN H
 |some v=>
  refine au (gy H (λ_ F N=>au (gy N (λ_ E M=>au (gy M (λb u G=>?_) (no _))) (no _))) (no _));cases b with
  |true=>exact au (au (gy G (λy D L=>au (gy L (λ_ C K=>aN (aN ⟨rfl,K⟩)) (no _))) (no _)))
  |false=>exact aN ⟨rfl,G⟩
def KJ:TT:=λ_ H Q=>Q ae H
theorem LP{X:Cx}:pb X [] KJ:=λ_ _ _ H _ I h=>wpAny_tests_nil ⟨H,I,h⟩
theorem Q7{X:Cx}{c:aD}{t:TT}(h:PT X c t):pb X [c] t:=λd s a H Q I b=>wpAny_tests_one (h d s a H Q I b)
def ux(q:TI)(h:V->Hp->St->Prop)(k:Nat)(r:TT)(s:TE)(d:List Nat):TE:=λg H Q=>q g H λJ p=>∀l,p l=ah->∃W:Nat->Nat->List V->Hp->Prop,(∃m,W 0 m [] (upd p l (.lst [])))/\∀i m a H,W i m a H ->
 (J.stop i H/\Q (.ref l) H)\/(J.go i H/\∀v j,J.yld i H v j->∃f,f.length=k+1/\h v j f/\r (f++(fU g d).drop k) j λb o=>if b=ae then s (f++(fU g d).drop k) o λy n=>n l=aa (.lst a)/\a.length<bB/\∃c,c<m/\W (i+1) c (a++[y]) (upd n l (.lst (a++[y]))) else ∃c,c<m/\W (i+1) c a o)
def Hc:V->Hp->St->Prop:=λv _ a=>a=[aa v]
abbrev Bi(b:TI)(c:TT)(d:TE)(a:List Nat):TE:=ux b Hc 0 c d a
section
variable{X:Cx}{m:List (ag×Obj)}{t:St}{H:Hp}{s:aq}{g:eP}{x:Str}{j:List Str}{l:List Nat}
theorem Inv.unblock{r:List ag}{p:Hp}{w:St}{s':aq}{h:aJ}(I:Inv X m t H s)(C:∀b∈r,kP X m H b)(a:Inv (bK X g j s.heap.objs.size s H r m) [] w p s') (E:kQ s.heap.objs.size s'.heap h):Inv X m t p {s' with heap:=h}:=by
 have k:∀b o,b≠s.heap.objs.size->s'.heap.get? b=aa o->h.get? b=aa o:=λb o f e=>(E.2 b f).trans e;have y:∀b o,s.heap.get? b=aa o->b≠s.heap.objs.size:=λb o e=>dW (bN e);have un:Un (gs X.stack) r H p s.heap h:=by
  refine⟨λb o e n f d=>k b o (y b o e) (a.base.keep b o e n f d),λb o e n f d=>?_,λb o e n d=>a.base.free b o e n d,λb o e d=>?_,a.base.tups,a.base.frzs,a.base.tbls⟩
  .obtain⟨D,q⟩:=a.base.slot b o e n f d;exact⟨D,k b _ (y b o e) q⟩
  .obtain⟨B,q⟩:=a.base.there b o e d;exact⟨B,k b B (y b o e) q⟩
 have A:eD X.prog X.w p h:=λb u e=>by
  have i:p s.heap.objs.size=ah:=a.free;refine(a.hok b u e).stay (λc v F q=>k c v ?_ q) (λ_ q=>q) λ_ _ q=>q;rintro rfl;rcases F with z|z
  .rw[<-z,i]at e;cases e
  .rw[i]at z;cases z
 refine I.call' (s':={s' with heap:=h}) (ch:=r) a.os un A a.bare λb f=>?_;obtain⟨K,J,f2,f3,f4,G⟩:=C b f;exact⟨f3,J,f4,G⟩
theorem AG{elt F tg:aD}{pos pos':Pos}{ifs:List aD}{wi:TI}{tgf:V->Hp->St->Prop}{k:Nat}{ts:TT}{te:TE}{use:Option (ak->Sem Unit)}{Q:ak->aq->Prop}{Qp:VK}(B:h8 X g x j l)(hk:k<=l.length)(hc:X.calm=ae)(hi:PI X tg F wi)(gi:∀C E G ex pn,PG (bK X g j C E G ex pn) tg λv N H Q=>∃S,S.length=k+1/\N.length=j.length/\tgf v H S/\Q (S++N.drop (k+1)) H)(ht:∀C E G ex pn,pb (bK X g j C E G ex pn) ifs ts) (he:∀C E G ex pn,PE (bK X g j C E G ex pn) elt te) (hs:∀x,lI F X.env x=pure x) (I:Inv X m t H s) (h:ux wi tgf k ts te l t H Qp)(fin:∀{w s6:aq}{O H5:Hp}{K σ5 a f},Inv X m t O w->(∀b∈K,kP X m O b)->Inv (bK X g j w.heap.objs.size w O K m) [] σ5 H5 s6->Qp (.ref a) H5->compPost (aH X.prog X.w) X.A X.xe use Q (.ref a) w.heap.objs.size (.ok f) s6):ax (aH X.prog X.w) X.A (comprehension (.ListComp elt [⟨tg,F,ifs,0⟩] g pos) g X.env pos' (newList []) aj (bq F X.env) use) Q X.xe s:=by
 refine wpAny_comprehension_free (use:=use) rfl hs (Qs (I.freeHas B)) B.kind B.names (a9 (hi m s t H _ I h) λv s1 h1=>a9 h1 λitv D h2=>?_);obtain⟨it,K,tn,J,H2,e,I2,T,jt,f2,h2⟩:=h2;subst e;refine i8 ?_;have I3:Inv X m t (upd H2 D.heap.objs.size (.lst [])) {D with heap:=D.heap.push {cls:=.type "list",data:=.seq ([]:List ak).toArray},toks:=D.toks}:=I2.lnew (its:=[]) (t':=D.toks) .nil (kg _);obtain⟨W,⟨m0,w0⟩,turn⟩:=h2 D.heap.objs.size I2.fresh;generalize hs3:({D with heap:=D.heap.push {cls:=.type "list",data:=.seq ([]:List ak).toArray},toks:=D.toks}:aq)=w at I3;have hs3':({D with heap:=D.heap.push {cls:=.type "list",data:=.seq ([]:List ak).toArray}}:aq)=w:=hs3;generalize hH3:upd H2 D.heap.objs.size (.lst [])=O at I3 w0;have nl:∀b∈K,b≠D.heap.objs.size:=λb A e=>by obtain⟨o,ho,_⟩:=T.obj _ _ jt b A;exact absurd (bN ho) (by rw[e];exact fh _)
 have k3:∀b o,D.heap.get? b=aa o->w.heap.get? b=aa o:=λb o e=>by rw[<-hs3];exact bz _ e
 have f3:∀b∈K,kP X m O b:=λb A=>⟨by rw[<-hH3,cc (nl b A)];exact(f2 b A).1,(f2 b A).2⟩
 have qa:tn 0 w.heap:=T.keep _ _ _ jt λb _ o e=>k3 b o e;have fo3:∀b∈K,∃o,w.heap.get? b=aa o:=λb A=>(T.obj _ _ qa b A).imp λo q=>q.1;refine M_ ?_;generalize hh:pushCells (w.heap.push {cls:=.type "dict",data:=.dict #[]}) g.names=h₁;have old:∀b o,w.heap.get? b=aa o->h₁.get? b=aa o:=λb o e=>hh ▸ pushCells_keeps _ _ b o (bz _ e);have rZ:h₁.Ns w.heap.objs.size (λ_=>ah):=hh ▸ (Heap.Ns.new w.heap (.type "dict")).keeps (pushCells_keeps _ _);have I4:=Inv.block (t':=w.toks) hh.symm I3 B f3 fo3 rZ old;have r9:tn 0 h₁:=T.keep _ _ _ qa λb _ o e=>old b o e;have L:∀{H':Hp},(∀b∈K,H' b=ah)->∀b∈K,kP (bK X g j w.heap.objs.size w O K m) [] H' b:=λhn b A=>by
  obtain⟨f0,f1,f2',f3',f4,f5⟩:=f3 b A;refine⟨hn b A,λe=>?_,λhf=>?_,.inl A,λy c h=>?_,λp hp=>f5 p (by simpa[bK]using hp)⟩
  .obtain⟨o,ho⟩:=fo3 b A;exact absurd (bN ho) (by rw[show b=w.heap.objs.size from e];exact fh _)
  .rcases bA.mp (I3.stkSub b hf)with z|z
   .exact f1 z
   .exact f2' z
  .rcases I3.cbIn B h with⟨a1,a2⟩|⟨a1,a2⟩
   .rintro rfl;obtain⟨o,ho⟩:=fo3 _ A;exact xx (DB a1).2.1 (bN ho)
   .exact f4 y c a2
 have Y:pN (aH X.prog X.w) X.A (.compLoop (.ListComp elt [⟨tg,F,ifs,0⟩] g pos) 0 (.ref it) (.ref D.heap.objs.size) (compEnvC g (ln X g w.heap.objs.size) w.heap.objs.size X.env))
   (compPost (aH X.prog X.w) X.A X.xe use Q (.ref D.heap.objs.size) w.heap.objs.size) {w with heap:=h₁,toks:=w.toks}:=by
  refine Lb (λn s'=>∃i P N H',(∃pre:St,pre.length=k+1/\N=pre++(fU t l).drop k)/\Inv (bK X g j w.heap.objs.size w O K m) [] N H' s'/\tn i s'.heap/\(∀b∈K,H' b=ah)/\W i n P H') ?_ m0
   ⟨0,[],_,O,⟨(ah::fU t l).take (k+1),by simp[fU];lia,by rw[<-List.drop_succ_cons (a:=ah)];exact(xY _ _).symm⟩,I4,r9,λb A=>(f3 b A).1,w0⟩
  rintro n s5 ⟨i,P,σ5,H5,⟨pre,uU,rfl⟩,I5,lU,fr5,w5⟩;rcases turn i n P H5 w5 with⟨stop,q⟩|⟨go,step⟩
  .refine gy (T.done (bK X g j w.heap.objs.size w O K m) rfl rfl rfl hc i [] s5 _ H5 (λ_ _=>False) I5 (L fr5) lU stop) (λr s6 ⟨hr,I6⟩=>?_) (λ_ _ f=>f.elim);subst hr;exact fin I3 f3 I6 q
  .refine gy (T.item (bK X g j w.heap.objs.size w O K m) rfl rfl rfl hc i [] s5 _ H5 (λ_ _=>False) I5 (L fr5) lU go) (λr s6 ⟨u,hr,h6⟩=>?_) (λ_ _ f=>f.elim);subst hr;refine gy h6 (λ_ s7 ⟨v,H7,I7,r7,y7,Z,fr7⟩=>?_) (λ_ _ f=>f.elim);have I7':=I7.pinned (L fr7) (T.obj _ _ Z);have back:∀{M:St}{H8:Hp}{s8:aq},Inv (bK X g j w.heap.objs.size w O K m) ([]++ub K s7.heap) M H8 s8->tn (i+1) s8.heap/\(∀b∈K,H8 b=ah):=λ{M H8 s8} I8=>⟨T.keep _ _ _ Z λb A o e=>(I8.pin (b,o) (i4 _ (i4 _ (wX A e)))).1,λb A=>by obtain⟨o,e,d⟩:=T.obj _ _ Z b A;exact(I8.pin (b,o) (i4 _ (i4 _ (wX A e)))).2.1⟩
   obtain⟨S,gk,htg,step⟩:=step v H7 y7;refine a9 (gi _ _ _ _ _ _ s7 _ H7 v u (λM H8=>M=S++(fU t l).drop k/\H8=H7) I7' r7 ⟨S,gk,I7'.len,htg,by rw[BJ ∅,List.drop_eq_nil_of_le ∅];rfl,rfl⟩) λ_ s8 ⟨M,H8,I8,e8,e8'⟩=>?_;subst e8 e8';refine a9 (ht _ _ _ _ _ _ s8 _ _ _ I8 step) λb s9 ⟨H9,I9,q9⟩=>?_;cases b with
   |false=>
    obtain⟨m',hm,w9⟩:=(show ∃m',m'<n/\W (i+1) m' P H9 from q9)
    exact⟨m',hm,i+1,P,_,H9,⟨S,gk,rfl⟩,I9.unpinned,(back I9).1,(back I9).2,w9⟩
   |true=>refine a9 (he _ _ _ _ _ _ s9 _ H9 _ I9 q9) λu10 s10 ⟨y,H10,I10,r10,hl10,hz10,m',hm,w10⟩=>?_;refine a9 (E3 _ s10 _ H10 (.ref D.heap.objs.size) [y] _ [u10] (λz H11=>H11=upd H10 D.heap.objs.size (.lst (P++[y]))) I10 rfl (.cons r10 .nil) ⟨_,P,y,rfl,rfl,hl10,hz10,rfl⟩) λ_ s11 ⟨_,H11,I11,_,e11⟩=>?_;subst e11;exact⟨m',hm,i+1,P++[y],_,_,⟨S,gk,rfl⟩,I11.unpinned,(back I11).1,(back I11).2,w10⟩
 exact codeAny_compStart_list Y (T.self _ 0 _ _ _ r9 Y)
theorem CC{p:Pos}(B:h8 X g x j l):∀C b c i f,PG (bK X g j C b c i f) (.Name x p) λv d H Q=>∃n,n.length=0+1/\d.length=j.length/\Hc v H n/\Q (n++d.drop (0+1)) H:=by
 intro C b c i f m s d H v u Q I r h;obtain⟨n,_,y,w,q⟩:=h;cases (show n=[aa v] from w);have A:Loc (bK X g j C b c i f).env.scope x:=B.loc.elim (λh=>.inl (uJ h)) (λh=>.inr (wp h));have z:(bK X g j C b c i f).fn x=ae\/(bK X g j C b c i f).env.scope.names.lookup x=aa .local:=B.loc.elim (λh=>.inr (uJ h)) (λh=>.inl (by show(g.names.lookup x == aa .cell)=ae;rw[h];rfl));have o:(bK X g j C b c i f).N[0]?=aa x:=by show j[0]?=aa x;rw[<-List.head?_eq_getElem?];exact B.hd
 refine rh B.nd o A z m s d H v u Q I r ?_;show Q (d.set 0 (aa v)) H;cases d with
 |nil=>rw[pT,B.len]at y;lia
 |cons a r=>exact q
theorem MF{f b:aD}{p pos:Pos}{d:List aD}{wi:TI}{ts:TT}{te:TE}(B:h8 X g x j l)(A:X.calm=ae)(y:PI X (.Name x p) b wi)(ht:∀C a c o i,pb (bK X g j C a c o i) d ts) (z:∀C a c o i,PE (bK X g j C a c o i) f te) (w:∀x,lI b X.env x=pure x:=by intro _;rfl):PE X (.ListComp f [⟨.Name x p,b,d,0⟩] g pos) (Bi wi ts te l):=by intro m s t H Q I h;rw[eval_ListComp];exact AG (use:=ah) B (kg _) A y (CC B) ht z w I h λD f3 r q=>by obtain⟨v,n,_⟩:=r.loc;exact⟨v,n,λE u=>⟨.ref _,_,D.unblock f3 r u,rfl,q⟩⟩
end
def Walk(J:It)(a:List V)(R:Hp->Prop):Prop :=
 ∀H,R H->∀i,(∀x,a[i]?=aa x->J.go i H/\∀y b,J.yld i H y b->b=H/\y=x)/\(i=a.length->J.stop i H)
theorem ND{K:aA}{a:ag}{b:List V}:Walk (yZ K a) b (λH=>cI K H a b):=λH h i=>⟨λx c=>⟨⟨b,x,h,c⟩,λy f z=>⟨z.1,by have:=z.2 b h;rw[c]at this;exact(fg this).symm⟩⟩,λd=>⟨b,h,oh d.symm⟩⟩
theorem Jj{K:aA}{a:ag}{b:List V}:Walk (Am K a) b (λH=>cD K H a b):=λH h i=>⟨λx c=>⟨⟨b,x,h,c⟩,λy f z=>⟨z.1,by have:=z.2 b h;rw[c]at this;exact(fg this).symm⟩⟩,λd=>⟨b,h,oh d.symm⟩⟩
def qD(a:Int)(n:Nat):List V:=(cg n).map λi=>V.int (a+(i:Nat))
theorem zg(a:Int)(n:Nat):(qD a n).length=n:=by simp[qD]
theorem LS{b:Int}{n:Nat}:Walk (wD b n) (qD b n) (λ_=>True):=λH _ i=>by
 refine⟨λx a=>?_,λc=>by rw[zg]at c;exact oh c.symm⟩;have d:i<n:=by have:=(eF.mp a).1;rw[zg]at this;exact this
 refine⟨d,λy g z=>⟨z.1,?_⟩⟩;unfold qD at a;rw[iI,List.getElem?_range d]at a;have f:V.int (b+(i:Nat))=x:=fg a;rw[z.2,<-f]
def sg(c:Nat):V:=.str ⟨#[c]⟩
def um(z:Str):It:=⟨λi _=>i<z.cps.size,λi H x a=>a=H/\∃c,z.cps[i]?=aa c/\x=sg c,λi _=>i=z.cps.size⟩
theorem Oe{z:Str}:Walk (um z) (z.cps.toList.map sg) (λ_=>True):=λH _ i=>by
 refine⟨λx a=>?_,λd=>by show i=z.cps.size;simpa using d⟩;rw[iI]at a;cases e:z.cps.toList[i]? with
 |none=>rw[e]at a;cases a
 |some c=>
  rw[e]at a;have f:i<z.cps.size:=by have:=(eF.mp e).1;simpa using this
  refine⟨f,λy h w=>⟨w.1,?_⟩⟩;obtain⟨g,b,rfl⟩:=w.2;have:z.cps[i]?=aa c:=by simpa using e
  rw[this]at b;cases b;exact(fg a)
section
variable{X:Cx}{a:aD}
theorem Pi{P:bv}{w:bc}{K:aA}{z:Str}{d:ag}{f:Nat->aJ->Prop} (S:∀i h,f i h->∃o n r,h.get? d=aa o/\o.cls=.type n/\o.data=.fields r /\ ["enumerate","zip","dict_itemiterator","dict_reverseitemiterator","odict_iterator","itertools.zip_longest","itertools.pairwise"].contains n=aj)(Rn:∀(A:bG) (i:Nat) (s:aq) (Q:ak->aq->Prop) (E:ak->aq->Prop),f i s.heap->Q (.ref d) s->ax (aH P w) A (n6 (.ref d)) Q E s)(C:∀A:bG,A.handled=ah->Walks P w A d [d] [d] z.cps.size (SignAt z) f):oZ P w K a (um z) [d] d f where
 mem:=by simp
 obj:=λi h g b j=>by
  have e:b=d:=by simpa using j
  subst e;obtain⟨o,n,r,J,_,G,_⟩:=S i h g;exact⟨o,J,λv q=>by rw[G]at q;cases q⟩
 keep:=λi h m g k=>by exact(C ({}:bG) rfl).frame i h m g k
 item:=by intro X D t F B i W s O H E I p g y;subst D t F;obtain⟨N,M,f2,f3,f4,L⟩:=p d (by simp);refine(C X.A (I.ok.hd B)).item i s _ _ y g λv m l Y T k=>?_;have I1:Inv X W O H {s with heap:=m,toks:=l}:=I.turned (t':=l) (λb o j e=>k b o (by simpa using j) e) N M f3 f4 L;obtain⟨o,n,r,J,h2,G,Z⟩:=S _ _ T;obtain⟨c,u,e1,rfl⟩:=Y;exact⟨_,rfl,vC (s:={s with heap:=m,toks:=l}) J h2 G Z ⟨sg c,H,I1,⟨u,rfl⟩,⟨rfl,c,e1,rfl⟩,T,λb j=>(p b j).1⟩⟩
 done:=by intro X D t F B i W s O H E I p g y;subst D t F;obtain⟨N,M,f2,f3,f4,L⟩:=p d (by simp);have x:i=z.cps.size:=y;subst x;exact(C X.A (I.ok.hd B)).done s _ _ g λm l k=>⟨rfl,I.turned (t':=l) (λb o j e=>k b o (by simpa using j) e) N M f3 f4 L⟩
 self:=Rn
theorem OP{J:It}{c:List V}{R:Hp->Prop}{g:TG}{n:TS}{D:kC}{b:St}{H:Hp}(B:Walk J c R)(d:Nat->St->Hp->Prop)(C:d 0 b H)(w:∀i b H,i<=c.length->d i b H->R H)(v:∀i x b H,c[i]?=aa x->d i b H->g x b H λh l=>n {D with nx:=d (i+1),ct:=d (i+1),bk:=D.nx} h l) (A:∀b H,d c.length b H->D.nx b H):∃W:Nat->Nat->St->Hp->Prop,(∃m,W 0 m b H)/\∀i m b H,W i m b H -> (J.stop i H/\D.nx b H)\/(J.go i H/\∃N:St->Hp->Prop,(∀j f,N j f->∃o,o<m/\W (i+1) o j f)/\∀x f,J.yld i H x f->g x b f λh l=>n {D with nx:=N,ct:=N,bk:=D.nx} h l):=by
 refine⟨λi m b H=>m=c.length-i/\i<=c.length/\d i b H,⟨c.length,by simp,kg _,C⟩,?_⟩;rintro i m b H ⟨rfl,z,p⟩;have q:=B H (w i b H z p) i;by_cases s:i<c.length
 .have r:c[i]?=aa c[i]:=by simp[s]
  obtain⟨E,t⟩:=q.1 c[i] r;refine .inr ⟨E,d (i+1),λj f u=>⟨c.length-(i+1),∅,rfl,s,u⟩,λx f y=>?_⟩;obtain⟨rfl,rfl⟩:=t x f y;exact v i _ b _ r p
 .have e:i=c.length:=∅
  subst e;exact .inl ⟨q.2 rfl,A b H p⟩
theorem QC{b:Type}(l:List b)(f:b->Bool)(d:Nat->Bool)(c:∀i x,l[i]?=aa x->d i=f x):(cg l.length).all d=l.all f:=by
 induction l generalizing d with
 |nil=>rfl
 |cons x r g=>rw[eY,xZ,kY,oj,kY,c 0 x rfl];congr 1;exact g _ λi y h=>c (i+1) y (by simpa using h)
theorem G5{bs:List Bool}{b:List ak}(r:cf (bs.map V.bl) b){i:Nat}{v:ak}(h:b.toArray[i]?=aa v):v=.bool (bs.getD i aj):=by
 have d:=r.length;rw[b0]at d;have g:i<b.length:=by have:=(BK.mp h).1;simpa using this
 have e:(bs.map V.bl)[i]?=aa (.bl (bs.getD i aj)):=by rw[iI,fO ∅];simp[List.getD,fO (show i<bs.length by lia)]
 obtain⟨u,c,f⟩:=r.get e;have:b[i]?=aa v:=by simpa using h
 rw[this]at c;cases c;exact f
theorem sx{A:bG}(h:A.handled=ah):A.in1.handled=ah:=h
theorem ug(j:X.calm=ae):gn X (.builtin "all") (λl H Q=>∃(p:ag) (bs:List Bool),l=[.ref p]/\cI X.K H p (bs.map V.bl)/\Q (.bl (bs.all id)) H):=by
 intro M s t H l O Q I r h;obtain⟨p,bs,rfl,E,q⟩:=h;obtain⟨u,rfl,y⟩:=vals1 r;cases y;obtain⟨d,m,f,S⟩:=I.list E;have n:=m.length;rw[b0]at n;refine call_all_walk (BL f.isList ?_);have L:p≠s.heap.objs.size:=by obtain⟨o,g,_⟩:=f.isList;exact dW (bN g)
 refine⟨s.heap.objs.size,_,_,_,_,_,λi=>bs.getD i aj,rfl,Walks.list (sx (I.ok.hd j)) s.heap.objs.size p L d.toArray,⟨⟨_,cL _ rfl,rfl,rfl⟩,?_⟩,λi v P W Y D K=>?_,λT w k=>?_⟩
 .obtain⟨o,g,j,G⟩:=f.isList;exact⟨o,bz _ g,j,G⟩
 .rw[G5 m D];exact lH K
 .have e:(cg d.toArray.size).all (λi=>bs.getD i aj)=bs.all id:=by
   rw[ef,<-n];exact QC bs id _ λi x C=>by simp[List.getD,C]
  rw[e];have N:Inv X M t H {s with heap:=s.heap.push {cls:=.type "list_iterator",data:=.fields #[.ref p,.int 0 0]},toks:=s.toks}:=I.kept (t':=s.toks) λb o e=>bz _ e;exact⟨.bl _,H,Inv.turned (t':=w) N (it:=s.heap.objs.size) (λb o J e=>k b o (by simpa using J) e) I.fresh (iZ I.lt) (.inr I.sz) (λx c e z=>by obtain⟨v,A⟩:=I.cell x c e;exact absurd A.lt (by rw[z];exact fh _)) (λB F z=>absurd (bN (I.pin B F).1) (by rw[z];exact fh _)),rfl,q⟩
end
section
variable{X:Cx}
def lq(z:Str)(a b:Option Int):Str:=⟨((z.cps.toList.drop (HT.sIx z.length 0 a)).take (HT.sIx z.length z.length b-HT.sIx z.length 0 a)).toArray⟩
theorem OM(a b:Nat):sliceRange (a:Int) (b:Int) 1=(cg (b-a)).map λk=>a+k:=by
 unfold sliceRange;have e:(if(1:Int) > 0 then(if(a:Int)<(b:Int)then((b:Int)-a+1-1) / 1 else 0)else(if(a:Int) > b then((a:Int)-b-1-1) / (-1)else 0)).toNat=b-a:=by
  rw[if_pos (by decide)];split
  .rw[Int.ediv_one];lia
  .have:b-a=0:=∅
   rw[this];rfl
 show(cg (if(1:Int) > 0 then(if(a:Int)<(b:Int)then((b:Int)-a+1-1) / 1 else 0)else(if(a:Int) > b then((a:Int)-b-1-1) / (-1)else 0)).toNat).map _=_;rw[e];refine ki λk _=>?_;lia
theorem JY(a b:Option Int)(n:Nat):Builtin.Str.strSliceIndices a b 1 n=(cg (HT.sIx n n b-HT.sIx n 0 a)).map λk=>HT.sIx n 0 a+k:=by
 rw[<-OM];have p:(1:Int) > 0:=by decide
 cases a <;> cases b <;> (unfold Builtin.Str.strSliceIndices HT.sIx;simp only[p,if_true];congr 1 <;> (try split) <;> lia)
theorem DH{b:Type}(l:List b)(a k:Nat):((cg k).map λj=>a+j).filterMap (λi=>l[i]?)=(l.drop a).take k:=by
 induction k with
 |zero=>simp
 |succ k c=>
  rw[x5,uK,List.filterMap_append,c,List.take_succ];congr 1;simp[pK];cases l[a+k]? <;> rfl
theorem Ll(z:Str)(t:Tok)(l u:Option (Int×Tok)):∃m,sliceMade z t l u ah=m/\(m=.val (.str z t)/\lq z (l.map (·.1)) (u.map (·.1))=z\/m=.str (lq z (l.map (·.1)) (u.map (·.1)))):=by
 refine⟨_,rfl,?_⟩;unfold sliceMade slicePicked;have e:=JY (l.map (·.1)) (u.map (·.1)) z.length;simp only[Option.map_none,HB];rw[e];have pk:=DH z.cps.toList (HT.sIx z.length 0 (l.map (·.1))) (HT.sIx z.length z.length (u.map (·.1))-HT.sIx z.length 0 (l.map (·.1)));have b:(((cg (HT.sIx z.length z.length (u.map (·.1))-HT.sIx z.length 0 (l.map (·.1)))).map λk=>HT.sIx z.length 0 (l.map (·.1))+k).filterMap (z.cps[·]?)).toArray=(lq z (l.map (·.1)) (u.map (·.1))).cps:=by unfold lq;rw[<-pk];simp
 split
 .rename_i h;left;refine⟨rfl,?_⟩;simp only[beq_self_eq_true,BM,b0,om,beq_iff_eq]at h;have f:HT.sIx z.length z.length (u.map (·.1))<=z.length:=HT.sIx_le _ _ (bC _) _;have d:z.cps.toList.length=z.length:=by simp[Str.length]
  have a:HT.sIx z.length 0 (l.map (·.1))=0\/z.length=0:=∅
  unfold lq;rw[h];rcases a with a|a
  .rw[a,x6,k6 ∅]
  .have:z.cps.toList=[]:=x8 ∅;rw[this];cases z;rename_i c;simp at this;subst this;simp
 .right;rw[show(⟨(((cg (HT.sIx z.length z.length (u.map (·.1))-HT.sIx z.length 0 (l.map (·.1)))).map λk=>HT.sIx z.length 0 (l.map (·.1))+k).filterMap (z.cps[·]?)).toArray⟩:Str)=lq z (l.map (·.1)) (u.map (·.1))from by rw[b]]
def EG:V->Option Int->Option Int->Hp->VK->Prop:=λx a b H Q=>∃z,x=.str z/\z.length<=bB/\Q (.str (lq z a b)) H
theorem Qh(z:Str)(a b:Option Int):(lq z a b).length<=z.length:=by unfold lq Str.length;simp;lia
theorem part_of{v:ak}{o:Option Int}(p:jU v o):∃q:Option (Int×Tok),v=partValue q/\q.map (·.1)=o:=by
 cases p with
 |none=>exact⟨ah,rfl,rfl⟩
 |int i t=>exact⟨aa (i,t),rfl,rfl⟩
theorem Rt:kA X EG:=by
 intro y s n H x v p o r w a Q I b g d c h;obtain⟨z,rfl,f,q⟩:=h;obtain⟨t,rfl⟩:=b;obtain⟨l,rfl,rfl⟩:=part_of d;obtain⟨u,rfl,rfl⟩:=part_of c;refine⟨"str",_,F.slot_str_getitem.lookup,typeIs_str s z t,?_⟩;obtain⟨m,j,i⟩:=Ll z t l u;refine getItem_meets (typeIs_str s z t) (by decide) F.slot_str_getitem F.entry_str_getitem (F.args_str_getitem_2 _ _) (meets_str_getitem_slice z t a l u ah (by decide)) ⟨g,?_⟩;rw[j];rcases i with⟨rfl,e⟩|rfl
 .exact⟨.str z,H,I,⟨t,rfl⟩,by rw[e]at q;exact q⟩
 .exact⟨dX (Qh z _ _) f,⟨.str _,H,I.tok _,⟨_,rfl⟩,q⟩⟩
def ir(K:aA)(H:Hp)(d:Nat)(x y:V)(k:Bool):Prop :=
 ∀(X:Cx),X.K=K->∀(b:List (ag×Obj)) (a:St) (s:aq) (u v:ak) (A:bG),Inv X b a H s->RelV x u->RelV y v->A.units+d<cLine->xW A s u v k
theorem J1{K:aA}{H:Hp}{d:Nat}{x y:V}(f:iA x=ae)(c:iA y=ae):ir K H d x y (f8 x y):=λ_ _ _ _ _ _ _ _ _ b a _=>Ec b a f c
def gu(e:Nat->Bool)(n m:Nat):Bool:=(cg (min n m)).all e&&n == m
theorem Ha{A:bG}:A.in1.units=A.units+1:=rfl
theorem zO{H:Hp}{d:Nat}{a b:ag}{f c:List V}{e:Nat->Bool}{E:List (ag×Obj)}{p:St}{s:aq}{A:bG}(I:Inv X E p H s)(O:cI X.K H a f)(N:cI X.K H b c)(M:∀(j:Nat) x y,f[j]?=aa x->c[j]?=aa y->ir X.K H d x y (e j)) (Q:A.units+(d+1)<cLine):SeqAt.RcAt A s (.ref a) (.ref b) (gu e f.length c.length)/\SeqAt.RcNeAt A s (.ref a) (.ref b) (!gu e f.length c.length):=by
 obtain⟨h,r,o,_⟩:=I.list O;obtain⟨l,q,g,_⟩:=I.list N;have L:=r.length;have S:=q.length;have z:∀j (C:j<h.toArray.size) (B:j<l.toArray.size),xW A.in1 s h.toArray[j] l.toArray[j] (e j):=λj C B=>by
  have G:j<h.length:=by simpa using C
  have F:j<l.length:=by simpa using B
  have m:f[j]?=aa f[j]:=fO ∅;have D:c[j]?=aa c[j]:=fO ∅;obtain⟨u,w,K⟩:=r.get m;obtain⟨v,t,J⟩:=q.get D;have P:h[j]=u:=by rw[fO G]at w;exact fg w
  have f2:l[j]=v:=by rw[fO F]at t;exact fg t
  have:=M j f[j] c[j] m D X rfl E p s u v A.in1 I K J (by rw[Ha];lia);simpa[P,f2]using this
 by_cases i:f.length=c.length
 .have n:h.toArray.size=l.toArray.size:=by simp;lia
  have m:gu e f.length c.length=(cg h.toArray.size).all e:=by unfold gu;rw[i,Nat.min_self,beq_self_eq_true,Bool.and_true,ef,<-L,i]
  rw[m];exact⟨.lists o.isList g.isList n ∅ z,.lists o.isList g.isList n ∅ z⟩
 .have m:gu e f.length c.length=aj:=by
   unfold gu;rw[beq_false_of_ne i,Bool.and_false]
  have n:(h.toArray.size != l.toArray.size)=ae:=by simp;lia
  rw[m];exact⟨.lists_lengths o.isList g.isList n ∅,.lists_lengths o.isList g.isList n ∅⟩
theorem A6{H:Hp}{d:Nat}{a b:ag}{f c:List V}{e:Nat->Bool}{C:List (ag×Obj)}{m:St}{s:aq}{A:bG}(I:Inv X C m H s)(M:cD X.K H a f)(L:cD X.K H b c)(K:∀(j:Nat) x y,f[j]?=aa x->c[j]?=aa y->ir X.K H d x y (e j)) (P:A.units+(d+1)<cLine):SeqAt.RcAt A s (.ref a) (.ref b) (gu e f.length c.length)/\SeqAt.RcNeAt A s (.ref a) (.ref b) (!gu e f.length c.length):=by
 obtain⟨h,o,r,_⟩:=I.tuple M;obtain⟨g,n,i,_⟩:=I.tuple L;have J:=o.length;have N:=n.length;have t:∀j (z:j<h.toArray.size) (w:j<g.toArray.size),xW A.in1 s h.toArray[j] g.toArray[j] (e j):=λj z w=>by
  have E:j<h.length:=by simpa using z
  have D:j<g.length:=by simpa using w
  have l:f[j]?=aa f[j]:=fO ∅;have B:c[j]?=aa c[j]:=fO ∅;obtain⟨u,q,G⟩:=o.get l;obtain⟨v,p,F⟩:=n.get B;have O:h[j]=u:=by rw[fO E]at q;exact fg q
  have f2:g[j]=v:=by rw[fO D]at p;exact fg p
  have:=K j f[j] c[j] l B X rfl C m s u v A.in1 I G F (by rw[Ha];lia);simpa[O,f2]using this
 have l:gu e f.length c.length=((cg (min h.toArray.size g.toArray.size)).all e&&h.toArray.size == g.toArray.size):=by unfold gu;rw[ef,ef,<-J,<-N]
 rw[l];exact⟨.tuples r i ∅ t,.tuples r i ∅ t⟩
theorem IK{K:aA}{H:Hp}{d:Nat}{a b:ag}{f c:List V}{e:Nat->Bool}(n:cI K H a f)(m:cI K H b c)(p:a≠b)(l:∀(j:Nat) x y,f[j]?=aa x->c[j]?=aa y->ir K H d x y (e j)):ir K H (d+1) (.ref a) (.ref b) (gu e f.length c.length):=λX o r q s u v A I h g i=>by
 subst o;cases h;cases g;exact .of_refs p (zO I n m l i).1
theorem KU{K:aA}{H:Hp}{d:Nat}{a b:ag}{f c:List V}{e:Nat->Bool}(n:cD K H a f)(m:cD K H b c)(p:a≠b)(l:∀(j:Nat) x y,f[j]?=aa x->c[j]?=aa y->ir K H d x y (e j)):ir K H (d+1) (.ref a) (.ref b) (gu e f.length c.length):=λX o r q s u v A I h g i=>by
 subst o;cases h;cases g;exact .of_refs p (A6 I n m l i).1
theorem CI{K:aA}{H:Hp}{d:Nat}{a:ag}:ir K H d (.ref a) (.ref a) ae:=λX h i f s u v A I c b g=>by
 cases c;cases b;exact .same _
def sV(K:aA)(g:Bool):R2:=λx y H Q=>∃a b f c d e,x=.ref a/\y=.ref b/\((cI K H a f/\cI K H b c)\/(cD K H a f/\cD K H b c))/\d<=8 /\
 (∀(j:Nat) x y,f[j]?=aa x->c[j]?=aa y->ir K H d x y (e j))/\Q (.bl (if g then !gu e f.length c.length else gu e f.length c.length)) H
theorem Jb(n:X.A.units+64<cLine):b8 X (d_ .Eq) (sV X.K aj):=by
 intro p s j H x y v u Q I g f h;obtain⟨a,b,m,l,d,e,rfl,rfl,i,o,c,q⟩:=h;cases g;cases f;rcases i with⟨h1,h2⟩|⟨h1,h2⟩
 .exact(zO I h1 h2 c ∅).1 _ _ _ _ ⟨.bl _,H,I,rfl,q⟩
 .exact(A6 I h1 h2 c ∅).1 _ _ _ _ ⟨.bl _,H,I,rfl,q⟩
theorem Oy(n:X.A.units+64<cLine):b8 X (d_ .NotEq) (sV X.K ae):=by
 intro p s j H x y v u Q I g f h;obtain⟨a,b,m,l,d,e,rfl,rfl,i,o,c,q⟩:=h;cases g;cases f;rcases i with⟨h1,h2⟩|⟨h1,h2⟩
 .exact(zO I h1 h2 c ∅).2 _ _ _ _ ⟨.bl _,H,I,rfl,q⟩
 .exact(A6 I h1 h2 c ∅).2 _ _ _ _ ⟨.bl _,H,I,rfl,q⟩
theorem Gk{y:V}:∀{a:List V}{b:List ak},cf a b->a.all iA=ae->b.countP (ij y)=a.countP λz=>f8 z y
 |_,_,.nil,_=>rfl
 |z::a,u::b,.cons r t,f=>by rw[kY,gg]at f;rw[List.countP_cons,List.countP_cons,zf r f.1,Gk t f.2]
def Lp(K:aA):V->List V->Hp->VK->Prop:=λx b H Q=>∃(p:ag) (a:List V) (y:V),x=.ref p/\b=[y]/\cD K H p a/\iA y=ae/\a.all iA=ae/\Q (.int ((a.countP λz=>f8 z y:Nat):Int)) H
theorem IA:He X "tuple.count" (Lp X.K):=by
 intro J s B H x D v E Q I i j h;obtain⟨p,C,y,rfl,rfl,o,t,d,q⟩:=h;cases i;obtain⟨u,rfl,l⟩:=j.one;obtain⟨a,r,⟨⟨A,z,f,g⟩,e,c,n,b⟩,G⟩:=I.tuple o;simp only at c b;subst c b;refine call_meets F.slot_tuple_count ⟨_,e,rfl⟩ F.entry_tuple_count (F.args_tuple_count_2 _ _) (SeqAt.tuple_countAt p a.toArray n z g u (ij y)) ⟨e,λw m=>qp l t r d w (by simpa using m),?_⟩;exact⟨.int _,H,I.tok _,⟨_,by rw[List.toList_toArray,Gk r d]⟩,q⟩
end
abbrev Tx:=List Nat
def tS(l:Tx):Str:=⟨l.toArray⟩
def tV(l:Tx):V:=.str (tS l)
def eN(ls:List Tx):List V:=ls.map tV
theorem pj(l:Tx):(tS l).cps.toList=l:=by simp[tS]
theorem lu(l:Tx):(tS l).length=l.length:=by simp[tS,Str.length]
theorem EH(z:Str):tS z.cps.toList=z:=by cases z;simp[tS]
theorem oY{a b:Tx}(h:tS a=tS b):a=b:=by rw[<-pj a,h,pj]
theorem LK{a b:Tx}(h:tV a=tV b):a=b:=oY (V.str.inj h)
theorem AC(a:List Tx):(eN a).length=a.length:=b0 _
def dy(a b:Tx):Bool:=decide (a<=b)
def bS(ls:List Tx):List Tx:=ls.mergeSort dy
theorem D5(a b c:Tx)(f:dy a b=ae)(d:dy b c=ae):dy a c=ae:=by simp only[dy,decide_eq_true_eq]at *;exact List.le_trans f d
theorem Li(a b:Tx):(dy a b||dy b a)=ae:=by simp only[dy,x9,decide_eq_true_eq];exact List.le_total a b
theorem OE{a b:Tx}(d:dy a b=ae)(c:dy b a=ae):a=b:=by simp only[dy,decide_eq_true_eq]at *;exact List.le_antisymm d c
theorem fZ(ls:List Tx):(bS ls).Perm ls:=List.mergeSort_perm _ _
theorem AE(c:List Tx):(bS c).Pairwise (λa b=>dy a b=ae):=List.pairwise_mergeSort D5 Li _
theorem Au(ls:List Tx):(bS ls).length=ls.length:=(fZ ls).length_eq
theorem xa{c d:List Tx}(g:d.Perm c)(f:d.Pairwise (λa b=>dy a b=ae)):d=bS c :=List.Perm.eq_of_pairwise (le:=λa b=>dy a b=ae) (λ_ _ _ _ i h=>OE i h) f (AE c) (g.trans (fZ c).symm)
theorem xc{c:List Tx}(d:c.Pairwise (λa b=>dy a b=ae)):bS c=c:=(xa (BN c) d).symm
theorem vK{a b:List Tx}(c:a.Perm b):bS a=bS b:=xa ((fZ a).trans c) (AE a)
theorem D4:∀(p:Str) (l:List Str),risingS p l=ae->(p::l).Pairwise (λa b=>dy a.cps.toList b.cps.toList=ae)
 |p,[],_=>List.pairwise_singleton _ _
 |p,x::r,h=>by
  have d:(!ltCps x.cps.toList p.cps.toList&&risingS x r)=ae:=h;rw[gg,ltCps_eq]at d;have q:=D4 x r d.2;have f:dy p.cps.toList x.cps.toList=ae:=by simp only[dy,decide_eq_true_eq];intro g;simp[g]at d
  refine x_.mpr ⟨λy c=>?_,q⟩;rcases bA.mp c with rfl|c
  .exact f
  .exact D5 _ _ _ f (List.rel_of_pairwise_cons q c)
theorem QE{c:List Str}(h:sortedS c=ae):(c.map λz=>z.cps.toList).Pairwise (λa b=>dy a b=ae):=by
 rw[HF];cases c with
 |nil=>exact List.Pairwise.nil
 |cons x r=>exact D4 x r h
theorem yC:∀{ls:List Tx}{a:List ak},cf (eN ls) a->gM a (ls.map tS)
 |[],_,.nil=>.nil
 |l::ls,_::_,.cons ⟨t,e⟩ r=>by subst e;exact .cons _ t (yC (ls:=ls) r)
theorem Fg:∀{b:List Str}{a:List ak},gM a b->cf (eN (b.map λz=>z.cps.toList)) a
 |_,_,.nil=>.nil
 |_,_,.cons y t h=>.cons ⟨t,by rw[EH]⟩ (Fg h)
section
variable{P:bv}{w:bc}{A:bG}{E:ak->aq->Prop}{s:aq}
theorem zx{v:ak}{Q:ak->aq->Prop}(u:ax (aH P w) A.in1 (collect v) (λd s1=>∃ss:List Str,gM d ss/\d.length<64/\∀(i:aJ) (out:Array ak) (f:List Str) (e:Nat),(∀b o,s1.heap.get? b=aa o->i.get? b=aa o) -> i.get? s1.heap.objs.size=aa (seqObj "list" out e)->gM out.toList f->f.Perm ss->sortedS f=ae->Q (.ref s1.heap.objs.size) {s1 with heap:=i}) E s):ax (aH P w) A (call (.builtin "sorted") [v]) Q E s:=by refine Calls.call_function_entry kind_sorted plain_sorted entry_sorted (args_sorted1 _) ?_;unfold Builtin.«sorted»;refine au (m:=checkCount "sorted" 1 1 _) (aN ?_);refine au (a9 u λd s1 ⟨ss,h,p,j⟩=>?_);refine au (wpAny_newList ?_);have g:(s1.heap.push (seqObj "list" d.toArray 0)).get? s1.heap.objs.size=aa (seqObj "list" d.toArray 0):=cL _ rfl;refine au (pP (mT slot_list_sort ⟨_,g,rfl⟩ entry_list_sort (list_sort_treeK strKind_oneLt g h.keysOf (λa b c e=>keyKind_strs (by rw[<-e];exact h)) p λx r q=>⟨_,rfl,?_⟩) (args_list_sort _)));obtain⟨f,B,z,y⟩:=sorted_out_str h r q;obtain⟨e,t⟩:=sortedHeap_at (out:=(arrOf x).map (·.2)) g;refine aN ⟨_,rfl,j _ _ f e (λb o l=>?_) t B z y⟩;have n:b<s1.heap.objs.size:=bN l;rw[sortedHeap_old (dW n) (by rw[kj];exact mU n)];exact bz _ l
end
section
variable{X:Cx}
theorem Inv.sorted{g:List (ag×Obj)}{f:St}{H:Hp}{s1:aq}{a:List Tx}{ss c:List Str}{d:aJ}{out:Array ak}{e:Nat}(I:Inv X g f H s1)(j:ss=a.map tS)(r:a.length<64)(k:∀b o,s1.heap.get? b=aa o->d.get? b=aa o) (i:d.get? s1.heap.objs.size=aa (seqObj "list" out e)) (q:gM out.toList c) (p:c.Perm ss) (n:sortedS c=ae):Inv X g f (upd H s1.heap.objs.size (.lst (eN (bS a)))) {s1 with heap:=d}:=by
 have m:c.map (λz=>z.cps.toList)=bS a:=by
  refine xa ?_ (QE n);have:=p.map λz=>z.cps.toList;rw[j,dZ]at this;have l:(a.map ((λz:Str=>z.cps.toList) ∘ tS))=a:=by simp[ya,pj]
  rw[l]at this;exact this
 have h:cf (eN (bS a)) out.toList:=by rw[<-m];exact Fg q
 refine I.laid (t':=s1.toks) k (bC _) ⟨?_,out.toList,e,h,?_⟩
 .rw[AC,Au];exact pJ (Av ∅)
 .rw[Array.toArray_toList];exact i
theorem yU:gn X (.builtin "sorted") (λt H Q=>∃(p:ag) (d:List Tx),t=[.ref p]/\(cI X.K H p (eN d)\/cD X.K H p (eN d))/\d.length<64/\∀l,H l=ah->Q (.ref l) (upd H l (.lst (eN (bS d))))):=by
 intro E s w H t K Q I r h;obtain⟨p,d,rfl,f,A,q⟩:=h;obtain⟨u,rfl,x⟩:=vals1 r;cases x;have b:∀(T:String) (o:Obj) (a:List ak) (n:Nat),(T = "list"\/T = "tuple")->s.heap.get? p=aa o->o.cls=.type T->o.data=.seq a.toArray n->cf (eN d) a ->
   ax (aH X.prog X.w) X.A (call (.builtin "sorted") [Value.ref p]) (EP X E w Q) X.xe s:=λT o a n D j i g c=>by
  have C:=c.length;rw[AC]at C;have m:=Av (n:=a.length) ∅;refine zx (wpAny_collect_seq p D j i g (λL z=>?_) (by rw[ef];lia));have v:=I.kept (t':=s.toks) z;refine⟨_,yC c,by rw[List.toList_toArray];lia,λM out N e k j J G F=>?_⟩;exact⟨.ref _,_,Inv.sorted v rfl A k j J G F,rfl,q _ v.fresh⟩
 rcases f with f|f
 .obtain⟨a,c,y,B⟩:=I.list f;obtain⟨o,e,i,n,g⟩:=y.isList;exact b "list" o a n (.inl rfl) e i g c
 .obtain⟨a,c,⟨o,e,i,n,g⟩,B⟩:=I.tuple f;exact b "tuple" o a n (.inr rfl) e i g c
theorem Mm(z:Tx)(n:Nat):Txt.mul (tS z) (n:Int)=tS (cr n z).flatten:=by
 unfold Txt.mul;cases n with
 |zero=>simp[tS,kT]
 |succ n=>
  rw[if_neg ∅];split
  .rename_i h;simp only[x9,beq_iff_eq]at h;rcases h with h|h
   .have:n=0:=∅
    subst this;simp
   .rw[lu]at h;have:z=[]:=x8 h;subst this;simp
  .unfold tS;congr 1;have b:∀(k:Nat) (a:Array Nat),(cr k z.toArray).foldl (·++·) a=a++(cr k z).flatten.toArray:=by
    intro k
    induction k with
    |zero=>intro a;simp
    |succ k c=>intro a;rw[BD,oq,c,BD,List.flatten_cons];simp[Array.append_assoc]
   have e:=b (n+1) #[];simp only[iJ];simpa using e
theorem NZ:b8 X (i5 .Mult) (λx y H Q=>∃(z:Tx) (n:Nat),x=tV z/\y=.int n/\n<=100/\z.length<=100/\Q (tV (cr n z).flatten) H):=by
 intro w s j H x y v u Q I c b h;obtain⟨z,n,rfl,rfl,f,d,q⟩:=h;obtain⟨t,rfl⟩:=c;obtain⟨m,rfl⟩:=b;refine SB.mul ?_ λl k=>?_
 .have o:z.length*n<=10000:=dX (Nat.mul_le_mul d f) (by decide);refine⟨by rw[Bool.or_eq_false_iff];constructor <;> (apply decide_eq_false;lia),λi _=>?_,λi _=>?_⟩
  .rw[lu];intro g;have r:(2^63-1:Int) / n ≥ (2^63-1) / 100:=by
    have a:(0:Int)<n:=∅
    apply (Int.le_ediv_iff_mul_le a).mpr;have:((2^63-1:Int) / 100)*n<=((2^63-1) / 100)*100:=Int.mul_le_mul_of_nonneg_left ∅ (by decide);refine Int.le_trans this (by decide)
   have p:((2^63-1:Int) / 100) > 1000:=by decide
   lia
  .rw[lu,iJ];unfold Builtin.Str.tooLong;apply decide_eq_false;have:10000<bB:=by rw[pM];decide
   lia
 .rw[Mm];exact⟨tV _,H,I.tok _,⟨_,rfl⟩,q⟩
end
theorem Ms(t:jV)(j:Nat):(t.put j).1.led=t.led/\(t.put j).1.plain=t.plain:=⟨rfl,rfl⟩
theorem IP(t:jV)(n:Nat):(t.orStandIn n).led=t.led/\((t.orStandIn n).plain=t.plain\/(t.orStandIn n).plain=aj):=by
 unfold SetTable.orStandIn;split
 .exact⟨rfl,.inl rfl⟩
 .exact⟨rfl,.inr rfl⟩
theorem JV(t:jV)(c:Array (Int×ak))(h:Int)(x:ak):(layNew t c h x).2.1.led=t.led/\((layNew t c h x).2.1.plain=t.plain\/(layNew t c h x).2.1.plain=aj):=by
 unfold layNew;split
 .rename_i a b _;have f:=Ms t a;have d:=IP (t.put a).1 (SetTable.insertAt c (t.put a).2 (h,x)).size;exact⟨d.1.trans f.1,by rw[<-f.2];exact d.2⟩
 .exact⟨rfl,.inr rfl⟩
theorem NL(t:jV)(c:Array (Int×ak))(a:Nat)(d:t.plain=aj):(rH t c a).2.1.led=t.led/\(rH t c a).2.1.plain=aj:=by
 unfold rH;split
 .rename_i t' b e;have q:t'.led=t.led/\t'.plain=t.plain:=by
   unfold SetTable.relaid SetTable.laid at e;cases q:SetTable.layClean (SetTable.sizeAbove a-1) (c.map (·.1))with
   |none=>rw[q]at e;cases e
   |some f=>rw[q]at e;cases e;exact⟨rfl,rfl⟩
  dsimp only;split
  .exact⟨q.1,q.2.trans d⟩
  .exact⟨rfl,rfl⟩
 .exact⟨rfl,rfl⟩
def eW(w:bc):Bool:=w.params.followText "set-order"
structure jO(P:bv)(w:bc)(h:aJ)(a:ag)(ks:List Str):Prop where
 ex:∃(es:Array (Int×ak)) (ep:Nat) (t:jV) (ss:List Str),h.get? a=aa {cls:=.type "set",dict:=ah,data:=.set es ep t}/\gM (es.toList.map (·.2)) ss/\ss.Perm ks/\ElemsOf (jW P w) es.toList /\
  es.size<4090/\t.fits es.size=ae/\t.led=(!eW w)/\(ks≠[]->t.plain=aj)
theorem jO.at{P:bv}{w:bc}{h h':aJ}{a:ag}{ks:List Str}(S:jO P w h a ks)(k:∀o,h.get? a=aa o->h'.get? a=aa o):jO P w h' a ks:=by obtain⟨es,ep,t,ss,e,r⟩:=S.ex;exact⟨es,ep,t,ss,k _ e,r⟩
theorem FF:∀{a:List ak}{b:List Str},gM a b->∀x,x∈b↔∃t,Value.str x t∈a
 |_,_,.nil,x=>by simp
 |_,_,.cons y t h,x=>by
  rw[bA,FF h x];constructor
  .rintro(rfl|⟨t',q⟩)
   .exact⟨t,mQ ..⟩
   .exact⟨t',kb _ q⟩
  .rintro⟨t',q⟩;rcases bA.mp q with q|q
   .cases q;exact .inl rfl
   .exact .inr ⟨t',q⟩
theorem zk:∀{a b:List ak},a.Perm b->∀{c:List Str},gM b c->∃d,gM a d/\d.Perm c:=by intro a b p c h;refine⟨a.map strOf,strsAre_map a λv f=>h.all v (p.mem_iff.mp f),?_⟩;have:=p.map strOf;rwa[h.strs]at this
section
variable{P:bv}{w:bc}{A:bG}{E:ak->aq->Prop}{s:aq}
def jI(ks:List Str)(x:Str):List Str:=if x∈ks then ks else ks++[x]
theorem jO.put{h:aJ}{a:ag}{c es':Array (Int×ak)}{b:Nat}{t t':jV}(e:h.get? a=aa {cls:=.type "set",dict:=ah,data:=.set c b t}):(h.update a (Obj.putSet es' t')).get? a=aa {cls:=.type "set",dict:=ah,data:=.set es' (b+1) t'}:=by have:=pU (Obj.putSet es' t') e (by rw[putSet_of es' t' rfl];rfl);rw[putSet_of es' t' rfl]at this;exact this
theorem J3{a:ag}{ks:List Str}{x:Str}{g:Tok}{Q:Bool->aq->Prop}(S:jO P w s.heap a ks)(hn:ks.length<4000)(h:∀l b,kQ a s.heap l->jO P w l a (jI ks x)->Q b {s with heap:=l}):ax (aH P w) A (setAddHashed a (.str x g) ((jW P w).hash x)) Q E s:=by
 obtain⟨m,ep,t,ss,W,X,hp,C,hsz,hf,p9,eI⟩:=S.ex;have v:∀y t',(jW P w).is x (.str y t')=decide (y=x):=λy t'=>by
  show uA x (.str y t')=_;rw[mS];simp[uA]
  try exact eq_comm
 have rX:(jW P w).is x (.str x g)=ae:=by rw[v];simp
 have hb:m.size<scanBound:=BE hsz (by decide);unfold setAddHashed setAddHashedIn;refine pP (au (rJ W rfl hf ?_));dsimp only;rw[byScan_of (knd:=jW P w) (x:=.str x g) rfl hb C];simp only[if_true];unfold setAddByScan;refine au (au (uL (au (wpAny_setScan_of rX W rfl hf C ?_))));have p:x∈ks↔∃e∈m.toList,(jW P w).is x e.2=ae:=by
  rw[<-hp.mem_iff,FF X x];constructor
  .rintro⟨t',q⟩;obtain⟨e,H,ee⟩:=cp.mp q;exact⟨e,H,by rw[ee,v];simp⟩
  .rintro⟨e,H,q⟩;obtain⟨y,t',ey⟩:=X.all e.2 (cp.mpr ⟨e,H,rfl⟩);rw[ey,v]at q;have:y=x:=of_decide_eq_true q;subst this;exact⟨t',cp.mpr ⟨e,H,ey⟩⟩
 have klen:ks.length=m.size:=by
  have Z:=hp.length_eq;have Y:ss.length=m.size:=by rw[<-X.strs];simp
  lia
 cases hr:List.findIdx? (λe=>(jW P w).is x e.2) m.toList with
 |some j=>dsimp only;obtain⟨hj,hpj,_⟩:=List.findIdx?_eq_some_iff_getElem.mp hr;have T:x∈ks:=p.mpr ⟨_,HG hj,hpj⟩;refine aN (aN ?_);exact h s.heap _ (Heap.SameBut.refl a s.heap) (by unfold jI;rw[if_pos T];exact S)
 |none=>
  dsimp only;have T:¬x∈ks:=λhm=>by obtain⟨e,H,q⟩:=p.mp hm;have:=List.findIdx?_eq_none_iff.mp hr e H;rw[q]at this;exact Bool.noConfusion this
  have K:∀(b:Bool) {i:aq}{Q':Unit->aq->Prop},Q' () i->ax (aH P w) A (match b with|ae=>rule "set.scan.the-table-gave-way" |aj=>pure ()) Q' E i :=
   λb i Q' hq=>by cases b <;> first|exact aN hq|exact uL hq
  have F:=layNew_perm t m ((jW P w).hash x) (.str x g);have M:=layNew_fits t m ((jW P w).hash x) (.str x g);have z:=JV t m ((jW P w).hash x) (.str x g);generalize hL:layNew t m ((jW P w).hash x) (.str x g)=L at F M z ⊢;obtain⟨c,t1,f,gave⟩:=L;dsimp only at F M z ⊢;rw[Array.toList_push]at F;have u:ElemsOf (jW P w) c.toList:=(C.push rX rfl).perm F;have hsz1:c.size=m.size+1:=by have:=F.length_eq;simpa using this
  have hS1:∃G,gM (c.toList.map (·.2)) G/\G.Perm (jI ks x):=by
   have p1:=F.map (λe:Int×ak=>e.2);rw[uK]at p1;have q1:gM (m.toList.map (·.2)++[Value.str x g]) (ss++[x]):=by
    have gen:∀{vs:List ak}{zs:List Str},gM vs zs->gM (vs++[Value.str x g]) (zs++[x]):=by
     intro vs zs hh
     induction hh with
     |nil=>exact .cons x g .nil
     |cons y t _ ih=>exact .cons y t ih
    exact gen X
   obtain⟨G,O,N⟩:=zk p1 q1;refine⟨G,O,N.trans ?_⟩;unfold jI;rw[if_neg T];exact hp.append_right _
  obtain⟨G,O,N⟩:=hS1;have cy:jI ks x≠[]:=by unfold jI;rw[if_neg T];simp
  have o:∀d:jV,d.fits c.size=ae->d.led=(!eW w)->d.plain=aj->ax (aH P w) A (do
    storeSet a c d
    if(!f&&d.tooFull)=ae then do
      (match (rH d c (rK c.size)).2.2 with|ae=>rule "set.scan.the-table-gave-way" |aj=>pure ())
      storeSet a (rH d c (rK c.size)).1 (rH d c (rK c.size)).2.1
      pure (aa ae)
     else pure (aa ae)) (λr s'=>∃l,r=aa ae/\s'={s with heap:=l}/\kQ a s.heap l/\jO P w l a (jI ks x)) E s:=by
   intro d hf2 fX j0;refine au (wpAny_storeSet_of W rfl ?_ (fits_of_scanBound (BE (show c.size<4090 by lia) (by decide))));have o1:=jO.put (es':=c) (t':=d) W;have jc:=rL s.heap a (Obj.putSet c d);split
   .have I:=relayAll_perm d c (rK c.size);have B:=relayAll_fits d c (rK c.size);have n:=NL d c (rK c.size) j0;generalize hRl:rH d c (rK c.size)=Rl at I B n ⊢;obtain⟨D,t3,gave2⟩:=Rl;dsimp only at I B n ⊢;have hsz2:D.size=c.size:=by have:=I.length_eq;simpa using this
    refine au (K _ ?_);refine au (wpAny_storeSet_of o1 rfl ?_ (fits_of_scanBound (BE (show D.size<4090 by lia) (by decide))));obtain⟨ss2,u1,u2⟩:=zk (I.map (λe:Int×ak=>e.2)) O;refine aN ⟨_,rfl,rfl,jc.trans (rL _ a _),⟨D,_,t3,ss2,jO.put o1,u1,u2.trans N,u.perm I,∅,B,n.1.trans fX,λ_=>n.2⟩⟩
   .exact aN ⟨_,rfl,rfl,jc,⟨c,_,d,G,o1,O,N,u,∅,hf2,fX,λ_=>j0⟩⟩
  have Ih:t1.led=(!eW w):=z.1.trans p9;refine au (K _ ?_);split
  .refine au ?_;rw[hashByValue_scannable 8 (x:=.str x g) rfl];refine aN ?_;have hk:plainKind (.str x g)=aj:=rfl;rw[hk];simp only[fW,if_false];refine a9 (o {t1 with plain:=aj} (SetTable.fits_plain_off M) Ih rfl) λr s' ⟨l,Z,Y,e3,e4⟩=>?_;subst Z Y;exact aN (h l _ e3 e4)
  .rename_i J;refine au (aN ?_);simp only[if_true];refine a9 (o t1 M Ih (by simpa using J)) λr s' ⟨l,Z,Y,e3,e4⟩=>?_;subst Z Y;exact aN (h l _ e3 e4)
end
def met(val:Nat->Str)(i:Nat):List Str:=((cg i).map val).foldl jI []
theorem FE(val:Nat->Str)(i:Nat):met val (i+1)=jI (met val i) (val i):=by unfold met;rw[x5,uK,List.foldl_append];rfl
theorem Ei(val:Nat->Str){i:Nat}:∀{j:Nat},i<=j->(met val i).length<=(met val j).length
 |0,h=>by rw[show i=0 by lia];exact bC _
 |j+1,h=>by
  by_cases e:i=j+1
  .subst e;exact bC _
  .refine dX (Ei val (j:=j) ∅) ?_;rw[FE];unfold jI;split
   .exact bC _
   .simp
section
variable{P:bv}{w:bc}{A:bG}{R:Result->aq->Prop}{I:ag}{c a:List ag}{G:Array GenState->Array GenState->Prop}{n:Nat}{d:Nat->ak->Prop}{St:Nat->aq->Prop}
theorem DP(W:WalksS P w A.in1 I c a G n d St)(S:ag)(D:S∉c){J:Nat->aJ->Prop}(H:∀i h j,J i h->(∀b o,b∉a->h.get? b=aa o->j.get? b=aa o)->J i j)(L:∀(i:Nat) (v:ak) (s:aq) (E:ak->aq->Prop) (Q:Bool->aq->Prop),i<n->d i v->J i s.heap->(∀j t b,s.toks<=t->kQ S s.heap j->J (i+1) j->Q b {s with heap:=j,toks:=t})->ax (aH P w) A.in1 (setAdd S v) Q E s):∀(k i:Nat) (s:aq),n-i=k->i<=n->St i s->J i s.heap -> (∀f,Moved (S::a) G s f->J n f.heap->R (.ok (.ret .none)) f)->pN (aH P w) A (.builtin "set.update.loop" ⟨[.ref S,.ref I],[]⟩) R s:=by
 have T:S∉a:=λh=>D (W.sub _ h);have F:∀b∈a,b∈S::a:=λb g=>kb _ g;intro k
 induction k with
 |zero=>
  intro i s N O z x y;obtain rfl:i=n:=∅
  refine uN Re ?_;rw[yb HH _];show ax _ A.in1 (n5 (.ref I) >>= _) _ _ s;refine au (W.done s _ _ z λf q=>?_);show ax _ A.in1 (ret Value.none) _ _ f;exact aN (y f (q.mono F) (H _ _ _ x λb o g e=>q.heap b o g e))
 |succ k M=>
  intro i s N O z x y;have B:i<n:=∅
  refine uN Re ?_;rw[yb HH _];show ax _ A.in1 (n5 (.ref I) >>= _) _ _ s;refine au (W.item i s _ _ B z λv f X l q=>?_);show ax _ A.in1 (holding [v] (setAdd S v) >>= _) _ _ f;refine au (pP (L i v f _ _ B X (H _ _ _ x λb o g e=>q.heap b o g e) λj t b C m K=>?_));refine aN ⟨BO HH _,M (i+1) _ ∅ B (W.frame _ f _ _ l C λb g o e=>?_) K λu p r=>?_⟩
  .rw[m.2 b (λh:b=S=>D (by rw[<-h];exact g))];exact e
  .refine y u (Moved.trans W.gtrans ((q.mono F).then_heap C λb o g e=>?_) p) r;rw[m.2 b (λh:b=S=>g (by rw[h];exact mQ))];exact e
end
section
variable{P:bv}{w:bc}{A:bG}{E:ak->aq->Prop}{s:aq}
theorem LZ(a:ak){Q:ak->aq->Prop} (h:jO P w (s.heap.push {cls:=.type "set",dict:=ah,data:=.set #[] 0 (.fresh 0 0 (!eW w))}) s.heap.objs.size [] -> Q (.ref s.heap.objs.size) {s with heap:=s.heap.push {cls:=.type "set",dict:=ah,data:=.set #[] 0 (.fresh 0 0 (!eW w))}}):pN (aH P w) A (.call (.builtin "set.__new__") ⟨[.type "set",a],[]⟩) (wants Q E) s:=by
 refine codeAny_of_tree ?_;show ax _ A.in1 (do checkBuiltinCall "set.__new__" ⟨[.type "set",a],[]⟩;again (.builtin "set.__new__" ⟨[.type "set",a],[]⟩)) _ _ s;refine au (wpAny_of_eq (PySem.F.newCall_set_1 a) (aN ⟨BO F.plain_set_new _,uN F.entry_set_new ?_⟩));rw[yb F.plain_set_new _];unfold Builtin.«set.__new__» Builtin.Frozenset.newClass;have i:=sub_set_self;obtain⟨j,g,d,c,f⟩:=s;dsimp only
 wp_walk
 refine rM (aN ?_);dsimp only;simp only[newObj];refine au (wpAny_alloc (aN ?_));refine aN (h ⟨#[],0,_,[],cL _ rfl,.nil,BN _,λe b=>by simp at b,by decide,rfl,rfl,λh=>absurd rfl h⟩)
end
end L2
set_option maxHeartbeats 8000000
namespace L2
theorem IM:entryFor table "set.__iter__"=aa Builtin.«frozenset.__iter__»:=entryFor_alias (id':="frozenset.__iter__") (by kernel_rfl) rfl (by decide +kernel) (by kernel_rfl)
theorem Dv:Slot "set_iterator" "__next__" "set_iterator.__next__" :=
 .of (owner:="set_iterator") (n:="__next__") (by rw[typeLookup_type,builtinLookup_eq_fast];kernel_rfl) (by decide +kernel) (by decide +kernel) (by decide +kernel) (by first|exact .inl (by decide +kernel)|exact .inr (by decide +kernel)) (by rw[isSubtype_type];kernel_rfl)
theorem Md:entryFor table "set_iterator.__next__"=aa Builtin.«set_iterator.__next__»:=entryFor_of_fast (by kernel_rfl)
theorem Nm(a:ak):argsOk "set_iterator.__next__" ⟨[a],[]⟩:=by unfold argsOk;kernel_rfl
theorem Cg:Slot "set_iterator" "__iter__" "set_iterator.__iter__" :=
 .of (owner:="set_iterator") (n:="__iter__") (by rw[typeLookup_type,builtinLookup_eq_fast];kernel_rfl) (by decide +kernel) (by decide +kernel) (by decide +kernel) (by first|exact .inl (by decide +kernel)|exact .inr (by decide +kernel)) (by rw[isSubtype_type];kernel_rfl)
theorem Nk:entryFor table "set_iterator.__iter__"=aa Builtin.«dict_keyiterator.__iter__»:=entryFor_alias (id':="dict_keyiterator.__iter__") (by kernel_rfl) rfl (by decide +kernel) (by kernel_rfl)
theorem Iu(a:ak):argsOk "set_iterator.__iter__" ⟨[a],[]⟩:=by unfold argsOk;kernel_rfl
def iO(first:ak)(i:Nat)(a:ag)(n b:Nat):Obj:={cls:=.type "set_iterator",data:=.fields #[first,.int i 0,.ref a,.int n 0,.int b 0]}
section
variable{P:bv}{w:bc}{A:bG}{E:ak->aq->Prop}{s:aq}
theorem vo{I a:ag}{first:ak}{i n d:Nat}{Q:ak->aq->Prop}(h:s.heap.get? I=aa (iO first i a n d))(c:Q (.ref I) s):ax (aH P w) A (n6 (.ref I)) Q E s:=by
 have b:s.TypeIs (.ref I) "set_iterator":=⟨_,h,rfl⟩
 refine wpAny_pyIter_slot b Cg (mT Cg b Nk ?_ (Iu _));show ax _ _ (ret (.ref I)) _ _ s;exact aN ⟨_,rfl,"set_iterator",_,b,Dv.lookup,c⟩
theorem o6{I a:ag}{first:ak}{i:Nat}{f:Array (Int×ak)}{g:Nat}{t:jV}{Q:Option ak->aq->Prop}(n:s.heap.get? a=aa {cls:=.type "set",dict:=ah,data:=.set f g t})(m:t.fits f.size=ae)(l:s.heap.get? I=aa (iO first i a f.size g))(h:ax (aH P w) A.in1 (if let .int slot _:=first then do
    match <-mV a slot.toNat (i:Int).toNat (g:Int).toNat with
    |some (x,next)=>do
     mW (.ref I) 0 (dY next)
     mW (.ref I) 1 (dY ((i:Int)+1))
     ret x
    |none=>do mW (.ref I) 2 .none;raiseNew (<-newExc (.type "StopIteration") [])
   else do
    let aa places <-seqItems? first|unsupported "internal:set_iterator"
    match places[(i:Int).toNat]? with
    |some (.int d _)=>do
     let x <-setNextDrawn a d.toNat (g:Int).toNat
     mW (.ref I) 1 (dY ((i:Int)+1))
     ret x
    |some _=>unsupported "internal:set_iterator"
    |none=>do mW (.ref I) 0 (dY 0);mW (.ref I) 2 .none;raiseNew (<-newExc (.type "StopIteration") []))
   (λc b=>∃r,c=.done (.ret r)/\Q (aa r) b) (λe b=>ax (aH P w) A (do if <-isInstance e (.type "StopIteration")then pure ah else throw e) Q E b) s) :
  ax (aH P w) A (n5 (.ref I)) Q E s:=by
 have j:s.TypeIs (.ref I) "set_iterator":=⟨_,l,rfl⟩
 unfold n5;refine au (wpAny_attempt (rq (name:=pQ "__next__") j Dv (mT Dv j Md ?_ (Nm _))));unfold Builtin.«set_iterator.__next__» slotArgs;refine au (aN ?_);refine au (wpAny_fieldsOf l rfl ?_);show ax _ _ (setEntries a >>= _) _ _ s;refine au (wpAny_setEntries_of n rfl m ?_);have u:(((f.size:Nat):Int) != ((f.size:Nat):Int))=aj:=by simp
 rw[u];simp only[fW,if_false];refine gy ?_ (λc b q=>?_) (λe b q=>q) (Q:=λc b=>∃r,c=.done (.ret r)/\Q (aa r) b) (E:=λe b=>ax (aH P w) A (do if <-isInstance e (.type "StopIteration")then pure ah else throw e) Q E b)
 .exact h
 .obtain⟨r,p,o⟩:=q;exact⟨r,p,aN o⟩
end
theorem AX{a:Type}:∀{l:List a}{i:Nat} (h:i<l.length),(l[i]::l.eraseIdx i).Perm l
 |[],i,h=>by simp at h
 |x::r,0,h=>by simp
 |x::r,i+1,h=>by have q:=AX (l:=r) (i:=i) (by simpa using h);simp only[List.getElem_cons_succ,List.eraseIdx_cons_succ];exact(List.Perm.swap x _ _).trans (List.Perm.cons x q)
theorem D6{d:Type}(next:Nat->Nat):∀(b k:Nat) (a:List d) (out:Array d),b=a.length->(pickOrder.go next b k a out).toList.Perm (out.toList++a)
 |0,k,a,out,h=>by have:a=[]:=x8 h.symm;subst this;simp[pickOrder.go]
 |b+1,k,a,out,h=>by
  have c:next k % a.length<a.length:=Nat.mod_lt _ ∅
  unfold pickOrder.go;rw[fO c];dsimp only;have f:=D6 next b (k+1) (a.eraseIdx (next k % a.length)) (out.push a[next k % a.length]) (by rw[List.length_eraseIdx,if_pos c];lia)
  refine f.trans ?_;rw[Array.toList_push,iK];exact HI _ (AX c)
theorem DM{b:Type}(next:Nat->Nat)(a:Array b):(uO next a).toList.Perm a.toList:=by
 have:=D6 next a.size 0 a.toList #[] (by simp)
 simpa[uO]using this
section
variable{P:bv}{w:bc}{A:bG}{E:ak->aq->Prop}{s:aq}
theorem Os{a:Source}{n:Nat}{Q:Nat->aq->Prop}(b:n≠0)(h:∀k d,k<n->Q k {s with drawn:=d}):ax (aH P w) A (choose a n) Q E s:=λc p hΓ=>by unfold choose;rw[Sem.wp_choose];refine⟨b,?_⟩;exact h _ _ (Nat.mod_lt _ (Nat.pos_of_ne_zero b))
theorem DZ{f:Type}:∀(n:Nat) (a:List f) (s:aq) (Q:List f->aq->Prop),n=a.length->(∀b d,b.Perm a->Q b {s with drawn:=d})->ax (aH P w) A (drawOrder n a) Q E s
 |0,[],s,Q,_,h=>by unfold drawOrder;exact aN (h [] s.drawn (BN _))
 |0,x::a,s,Q,hn,h=>by simp at hn
 |n+1,[],s,Q,hn,h=>by simp at hn
 |n+1,x::a,s,Q,hn,h=>by unfold drawOrder;refine au (Os (by simp) λk d c=>?_);rw[fO c];dsimp only;refine au (DZ n ((x::a).eraseIdx k) _ _ (by rw[List.length_eraseIdx,if_pos c];lia) λb i g=>?_);refine aN (h _ i ?_);exact(List.Perm.cons _ g).trans (AX c)
theorem vE{Q:Option ak->aq->Prop}{R:Fin->aq->Prop}(f:A.handled=ah)(g:∀c,(∀b o,s.heap.get? b=aa o->c.get? b=aa o)->Q ah {s with heap:=c}):ax (aH P w) A.in1 (do raiseNew (<-newExc (.type "StopIteration") [])) R (λe d=>ax (aH P w) A (do if <-isInstance e (.type "StopIteration")then pure ah else throw e) Q E d) s:=by
 refine au ?_;simp only[newExc,newTuple];refine au (i8 ?_ (by size_fits));refine au (m:=BP _ _) (wpAny_of_eq (a:=Value.none) (by first|rfl | (simp only[BP];rfl)) ?_);refine i8 ?_ (by size_fits);simp only[raiseNew];refine au (wpAny_handled ?_);rw[show A.in1.handled=ah from f];refine au (aN (wpAny_throw ?_));refine au (HJ (T:="StopIteration") (b:=ae) ⟨_,cL _ rfl,rfl⟩ isSubtype_stop ?_);exact aN (g _ λb o e=>bz _ (bz _ e))
theorem An{I a:ag}{first d:ak}{i n f:Nat}{Q:Unit->aq->Prop}(c:s.heap.get? I=aa (iO first i a n f))(h:∀b,kQ I s.heap b->b.get? I=aa (iO d i a n f)->Q () {s with heap:=b}):ax (aH P w) A (mW (.ref I) 0 d) Q E s:=by refine pV c rfl (by simp[iO]) (h _ (rL ..) ?_);rw[pU _ c (by rfl)];rfl
theorem zm{I a:ag}{first:ak}{i n d:Nat}{Q:Unit->aq->Prop}(c:s.heap.get? I=aa (iO first i a n d))(h:∀b,kQ I s.heap b->b.get? I=aa (iO first (i+1) a n d)->Q () {s with heap:=b}):ax (aH P w) A (mW (.ref I) 1 (dY ((i:Int)+1))) Q E s:=by refine pV c rfl (by simp[iO]) (h _ (rL ..) ?_);rw[pU _ c (by rfl)];rfl
theorem we{I a:ag}{first:ak}{i n d:Nat}{Q:Unit->aq->Prop}(c:s.heap.get? I=aa (iO first i a n d))(h:∀b,kQ I s.heap b->(∃o,b.get? I=aa o)->Q () {s with heap:=b}):ax (aH P w) A (mW (.ref I) 2 .none) Q E s:=by refine pV c rfl (by simp[iO]) (h _ (rL ..) ⟨_,pU _ c (by rfl)⟩)
abbrev pf(a:Array (Int×ak))(b:Nat)(t:jV):Obj:={cls:=.type "set",dict:=ah,data:=.set a b t}
theorem N6{I a:ag}{d:Array (Int×ak)}{g:Nat}{t:jV}(x:a≠I)(n:t.fits d.size=ae)(f:eW w=ae)(C:A.handled=ah):Walks P w A I [I,a] [I] d.size (λi v=>((uO (w.params.setOrder a g) d).toList.map (·.2))[i]?=aa v) (λi h=>h.get? I=aa (iO (dY 0) i a d.size g)/\h.get? a=aa (pf d g t)):=by
 have hsz:(uO (w.params.setOrder a g) d).size=d.size:=by have:=(DM (w.params.setOrder a g) d).length_eq;simpa using this
 have j:∀(s:aq) (i:Nat) (Q:Option (ak×Nat)->aq->Prop) (E:ak->aq->Prop),s.heap.get? a=aa (pf d g t) ->
   Q (((uO (w.params.setOrder a g) d)[i]?).map λe=>(e.2,0)) s->ax (aH P w) A.in1 (mV a (0:Int).toNat (i:Int).toNat (g:Int).toNat) Q E s:=λs i Q E u B=>by
  unfold mV;refine au (rJ u rfl n ?_);unfold yc;refine au (au (rM (aN ?_)));show ax _ _ (if eW w=ae then _ else _) _ _ s;rw[if_pos f];simp only[iJ,bne_self_eq_false,fW,if_false];unfold setWalk;refine au (au (rJ u rfl n ?_));unfold yc;refine au (au (rM (aN ?_)));show ax _ _ (if eW w=ae then _ else _) _ _ s;rw[if_pos f];refine au (rM (aN (aN ?_)));exact B
 refine⟨λb f=>by simp at f;simp[f],λi h H c k=>⟨k I (by simp) _ c.1,k a (by simp) _ c.2⟩,λi s Q E G c l=>?_,λs Q E c l=>?_,λi s Q E c l=>vo c.1 l⟩
 .refine o6 c.2 n c.1 ?_;refine au (j s i _ _ c.2 ?_);have y:i<(uO (w.params.setOrder a g) d).size:=∅
  rw[BQ y];dsimp only[rN];refine au (An c.1 λq m F=>?_);refine au (zm (s:={s with heap:=q}) F λp r D=>?_);refine aN ⟨_,rfl,l _ p s.toks ?_ ⟨D,?_⟩ λb o f e=>?_⟩
  .rw[iI];simp[BQ y]
  .exact(r.2 a x).trans ((m.2 a x).trans c.2)
  .exact(r.2 b (by simpa using f)).trans ((m.2 b (by simpa using f)).trans e)
 .refine o6 c.2 n c.1 ?_;refine au (j s d.size _ _ c.2 ?_);rw[Array.getElem?_eq_none ∅];dsimp only[Option.map_none];refine au (we c.1 λq m _=>?_);exact vE (s:={s with heap:=q}) C λp z=>l p s.toks λb o f e=>z b o ((m.2 b (by simpa using f)).trans e)
theorem Q6{I a T:ag}{f:Array (Int×ak)}{J:Nat}{t:jV}{c:List Nat}(cy:a≠I)(Y:T≠I)(C:t.fits f.size=ae)(G:c.Perm (cg f.size))(X:A.handled=ah):Walks P w A I [I,a,T] [I] f.size (λi v=>(c.filterMap λj=>(f[j]?).map (·.2))[i]?=aa v) (λi h=>h.get? I=aa (iO (.ref T) i a f.size J)/\h.get? a=aa (pf f J t)/\h.get? T=aa {cls:=.type "tuple",data:=.seq (c.map λ(k:Nat)=>dY k).toArray}):=by
 have L:c.length=f.size:=by simpa using G.length_eq
 have p:∀j∈c,j<f.size:=λj B=>by simpa using G.mem_iff.mp B
 have fm:∀(l:List Nat),(∀j∈l,j<f.size)->∀(i j:Nat),l[i]?=aa j->∃e:Int×ak,f[j]?=aa e/\(l.filterMap λj=>(f[j]?).map (·.2))[i]?=aa e.2:=by
  intro l
  induction l with
  |nil=>intro _ i j h;simp at h
  |cons x r O=>
   intro H i j h;have S:x<f.size:=H x (mQ ..);have F:f[x]?=aa f[x]:=BQ S;cases i with
   |zero=>simp at h;subst h;exact⟨_,F,by rw[pK,F];rfl⟩
   |succ i=>obtain⟨e,z,y⟩:=O (λj B=>H j (kb _ B)) i j (by simpa using h);exact⟨e,z,by rw[pK,F];simpa using y⟩
 have g:∀(s:aq) (Q:Option (Array ak)->aq->Prop) (E:ak->aq->Prop),s.heap.get? T=aa {cls:=.type "tuple",data:=.seq (c.map λ(k:Nat)=>dY k).toArray}->Q (aa (c.map λ(k:Nat)=>dY k).toArray) s->ax (aH P w) A.in1 (seqItems? (.ref T)) Q E s:=λs Q E ht W=>by exact rO ht rfl W
 refine⟨λb m=>by simp at m;simp[m],λi h h' d k=>⟨k I (by simp) _ d.1,k a (by simp) _ d.2.1,k T (by simp) _ d.2.2⟩,λi s Q E hi d q=>?_,λs Q E d q=>?_,λi s Q E d q=>vo d.1 q⟩
 .refine o6 d.2.1 C d.1 ?_;refine au (g s _ _ d.2.2 ?_);have K:i<c.length:=∅
  have u:((c.map λ(k:Nat)=>dY k).toArray)[(i:Int).toNat]?=aa (dY (c[i]:Nat)):=by simp[K]
  dsimp only;rw[u];obtain⟨e,z,y⟩:=fm c p i c[i] (fO K);show ax _ _ (setNextDrawn a _ _ >>= _) _ _ s;refine au ?_;unfold setNextDrawn;refine au (rJ d.2.1 rfl C ?_);simp only[iJ,bne_self_eq_false,fW,if_false];rw[z];refine aN ?_;refine au (zm d.1 λD n e2=>?_);refine aN ⟨_,rfl,q _ D s.toks y ⟨e2,(n.2 a cy).trans d.2.1,(n.2 T Y).trans d.2.2⟩ λb o m e=>(n.2 b (by simpa using m)).trans e⟩
 .refine o6 d.2.1 C d.1 ?_;refine au (g s _ _ d.2.2 ?_);have u:((c.map λ(k:Nat)=>dY k).toArray)[(f.size:Int).toNat]?=ah:=by simp[L]
  dsimp only;rw[u];refine au (An d.1 λh1 N u=>?_);refine au (we (s:={s with heap:=h1}) u λD n _=>?_);exact vE (s:={s with heap:=D}) X λZ M=>q Z s.toks λb o m e=>M b o ((n.2 b (by simpa using m)).trans ((N.2 b (by simpa using m)).trans e))
theorem JG(j k:Nat):Rf #[j] k=if j<k then 1 else 0:=by
 unfold Rf;simp only[ef,eY,pT];unfold HK;simp;split
 .rename_i h;unfold HK;simp
 .unfold HK;simp
theorem JX{I a:ag}{g:Array (Int×ak)}{n:Nat}{t:jV}(J:a≠I)(u:t.fits g.size=ae)(f:eW w=aj)(M:t.led=ae)(m:g.size=1)(S:A.handled=ah):Walks P w A I [I,a] [I] 1 (λi v=>(g.toList.map (·.2))[i]?=aa v) (λi h=>h.get? I=aa (iO (dY (if i=0 then 0 else((t.place.getD 0 0:Nat):Int)+1)) i a g.size n)/\h.get? a=aa (pf g n t)):=by
 have N:t.place.size=1:=by simp only[SetTable.fits,gg,beq_iff_eq]at u;lia
 obtain⟨j,F⟩:=Array.size_eq_one_iff.mp N;have H:((t.place.getD 0 0:Nat):Int)=(j:Int):=by rw[F];rfl
 obtain⟨e,G⟩:=Array.size_eq_one_iff.mp m;have l:∀(s:aq) (d:Nat) (i:Nat) (Q:Option (ak×Nat)->aq->Prop) (E:ak->aq->Prop),s.heap.get? a=aa (pf g n t) ->
   Q (if j<d then ah else aa (e.2,j+1)) s->ax (aH P w) A.in1 (mV a d i n) Q E s:=λs d i Q E T r=>by
  unfold mV;refine au (rJ T rfl u ?_);unfold yc;refine au (au (rM (aN ?_)));show ax _ _ (if eW w=ae then _ else _) _ _ s;rw[if_neg (by rw[f];decide)];refine yd (λy=>absurd (show(!t.plain&&decide (g.size > 1))=ae from y) (by rw[m];simp)) (λ_=>?_);refine au ?_;refine gy (Q:=λ_ C=>C=s) (E:=E) ?_ (λ_ C L=>?_) (λ_ _ x=>x)
  .refine yd (λy=>absurd (show(!t.led&&!g.isEmpty)=ae from y) (by rw[M];simp)) (λ_=>aN rfl)
  .subst L;rw[F,JG,G];by_cases K:j<d
   .rw[if_pos K]at r ⊢;exact aN r
   .rw[if_neg K]at r ⊢;exact aN r
 refine⟨λb f=>by simp at f;simp[f],λi h Y c k=>⟨k I (by simp) _ c.1,k a (by simp) _ c.2⟩,λi s Q E X c p=>?_,λs Q E c p=>?_,λi s Q E c p=>vo c.1 p⟩
 .obtain rfl:i=0:=∅
  refine o6 c.2 u c.1 ?_;show ax _ _ (mV a (0:Int).toNat ((0:Nat):Int).toNat (n:Int).toNat >>= _) _ _ s;simp only[iJ,Int.toNat_zero];refine au (l s 0 0 _ _ c.2 ?_);rw[if_neg (BR j)];dsimp only;refine au (An c.1 λm q B=>?_);refine au (zm (s:={s with heap:=m}) B λz D W=>?_);refine aN ⟨_,rfl,p _ z s.toks ?_ ⟨?_,?_⟩ λb o f e=>?_⟩
  .rw[G];rfl
  .rw[W,if_neg (by decide),H];rfl
  .exact(D.2 a J).trans ((q.2 a J).trans c.2)
  .exact(D.2 b (by simpa using f)).trans ((q.2 b (by simpa using f)).trans e)
 .refine o6 c.2 u c.1 ?_;rw[if_neg (by decide),H];show ax _ _ (mV a ((j:Int)+1).toNat ((1:Nat):Int).toNat (n:Int).toNat >>= _) _ _ s;have B:((j:Int)+1).toNat=j+1:=∅
  rw[B,iJ,iJ];refine au (l s (j+1) 1 _ _ c.2 ?_);rw[if_pos (k7 j)];dsimp only;refine au (we c.1 λm q _=>?_);exact vE (s:={s with heap:=m}) S λz O=>p z s.toks λb o f e=>O b o ((q.2 b (by simpa using f)).trans e)
theorem Fj:∀{a:List ak}{b:List Str} (i:Nat) (v:ak),gM a b->a[i]?=aa v->∃t,v=.str (b.getD i kT) t
 |_,_,i,v,.nil,h=>by simp at h
 |_,_,0,v,.cons y t _,h=>by simp at h;exact⟨t,by rw[<-h];rfl⟩
 |_,_,i+1,v,.cons y t hr,h=>by simp only[List.getElem?_cons_succ]at h;obtain⟨c,e⟩:=Fj i v hr h;exact⟨c,by rw[e];rfl⟩
theorem OO{h:aJ}{o:Obj}{l:ag}{a:Array ak}(x:h.IsTuple l a):(h.push o).IsTuple l a:=let ⟨ob,e,r⟩:=x;⟨ob,bz _ e,r⟩
set_option maxRecDepth 100000 in
theorem Q2{l:ag}{a:Array ak}{Q:ak->aq->Prop}(hh:A.handled=ah)(z:s.heap.IsList l a\/s.heap.IsTuple l a){J:Nat->aJ->Prop}(hJ:∀i h d,J i h->(∀b o,b<=s.heap.objs.size->h.get? b=aa o->d.get? b=aa o)->J i d) (T:J 0 (s.heap.push {cls:=.type "set",dict:=ah,data:=.set #[] 0 (.fresh 0 0 (!eW w))}))(m_:∀(i:Nat) (v:ak) (f:aq) (E:ak->aq->Prop) (Q:Bool->aq->Prop),i<a.size->a[i]?=aa v->J i f.heap->(∀d j b,f.toks<=j->kQ s.heap.objs.size f.heap d->J (i+1) d->Q b {f with heap:=d,toks:=j})->ax (aH P w) A.in1.in1.in1 (setAdd s.heap.objs.size v) Q E f)(h:∀(d:aJ) (j:Nat),J a.size d->(∀b o,b<s.heap.objs.size->s.heap.get? b=aa o->d.get? b=aa o)->Q (.ref s.heap.objs.size) {s with heap:=d,toks:=j}):ax (aH P w) A (call (.type "set") [.ref l]) Q E s:=by
 obtain⟨c,tl,hmro⟩:=F.called_set.mro;have L:=F.called_set.made;have kn:=F.called_set.sub;refine wpAny_call (codeAny_of_tree ?_);show ax _ _ (callAny (.type "set") _) _ _ _;refine aN ⟨Code.quiet_builtin _ (by decide +kernel),uN F.entry_type_call ?_⟩;rw[Around.under_plain (weight_type_call_type "set" [.ref l] []) rfl];have h1:=F.called_set.notType;have h2:=F.called_set.canCreate;have hct:=PySem.F.typeCall_set_1 (.ref l)
 repeat any_goals (first|assumption|wp_step)
 refine xU (LZ (P:=P) (w:=w) (.ref l) (E:=E) (Q:=λn f=>n=.ref s.heap.objs.size/\f={s with heap:=s.heap.push {cls:=.type "set",dict:=ah,data:=.set #[] 0 (.fresh 0 0 (!eW w))}}/\True) λS0=>⟨rfl,rfl,trivial⟩) λr f K=>?_;cases r with
 |error e=>exact K
 |ok fl=>
  cases fl with
  |ret n=>
   obtain⟨rfl,rfl,S0⟩:=K;have hS:=cL (h:=s.heap) (o:=({cls:=.type "set",dict:=ah,data:=.set #[] 0 (.fresh 0 0 (!eW w))}:Obj));have O:(s.heap.push {cls:=.type "set",dict:=ah,data:=.set #[] 0 (.fresh 0 0 (!eW w))}).get? s.heap.objs.size=aa {cls:=.type "set",dict:=ah,data:=.set #[] 0 (.fresh 0 0 (!eW w))}:=cL _ rfl;have hT:Shared.TypeIs {s with heap:=s.heap.push {cls:=.type "set",dict:=ah,data:=.set #[] 0 (.fresh 0 0 (!eW w))}} (.ref s.heap.objs.size) "set":=⟨_,O,rfl⟩
   have hli:=F.called_set.init.lookup;have hbi:=F.called_set.init.bind (.ref s.heap.objs.size)
   repeat any_goals (first|assumption|wp_step)
   refine xU (codeAny_call_builtin (R:=wants (λr Y=>r=.none/\∃d j,Y={s with heap:=d,toks:=j}/\J a.size d /\ (∀b o,b<s.heap.objs.size->s.heap.get? b=aa o->d.get? b=aa o)) E) F.called_set.init.plain F.entry_set_init (check_set_init_1 hT ?_)) λr2 Y m=>?_
   .rcases z with z|z
    all_goals
     obtain⟨⟨ocls,G,H,u⟩,oE,Z,x,oF⟩:=z;simp only at Z oF;subst Z;subst oF;have t:=bz ({cls:=.type "set",dict:=ah,data:=.set #[] 0 (.fresh 0 0 (!eW w))}:Obj) oE;have hsls:=PySem.F.sub_list_set;have hslf:=PySem.F.sub_list_frozenset;have cy:(Value.type "list" == Value.type "dict")=aj:=by decide
     have hsl2:=PySem.F.sub_tuple_set;have hsl3:=PySem.F.sub_tuple_frozenset;have hn2:(Value.type "tuple" == Value.type "dict")=aj:=by decide
     unfold Builtin.«set.__init__» noKeywords Builtin.Frozenset.updateFrom;generalize S:n6=PI
     wp_walk
     subst S
     first|refine BL ⟨_,t,rfl,x,rfl⟩ (au (wpAny_runValue ?_))|refine rP ⟨_,t,rfl,x,rfl⟩ (au (wpAny_runValue ?_))
     have p:l<s.heap.objs.size:=bN oE;have q:A.in1.in1.in1.handled=ah:=by simp[hh]
     have g:(s.heap.push {cls:=.type "set",dict:=ah,data:=.set #[] 0 (.fresh 0 0 (!eW w))}).objs.size=s.heap.objs.size+1:=lN ..;have Im:l≠(s.heap.push {cls:=.type "set",dict:=ah,data:=.set #[] 0 (.fresh 0 0 (!eW w))}).objs.size:=by rw[g];exact dW (mU p)
     have X:s.heap.objs.size∉[(s.heap.push {cls:=.type "set",dict:=ah,data:=.set #[] 0 (.fresh 0 0 (!eW w))}).objs.size,l]:=by rw[g];simp only[bA,jr,eZ,or_false,not_or];exact⟨dW (k7 _),iZ p⟩
     first|refine DP (J:=J) (Walks.list q _ l Im a).toS s.heap.objs.size X ?_ ?_ (a.size-0) 0 _ ∅ (kg _) ⟨⟨_,cL _ rfl,rfl,rfl⟩,Heap.IsList.push ⟨_,t,rfl,x,rfl⟩ _⟩ ?_ ?_|refine DP (J:=J) (Walks.tuple q _ l Im a).toS s.heap.objs.size X ?_ ?_ (a.size-0) 0 _ ∅ (kg _) ⟨⟨_,cL _ rfl,rfl,rfl⟩,OO ⟨_,t,rfl,x,rfl⟩⟩ ?_ ?_
     .exact λi h d N k=>hJ i h d N λb o B e=>k b o (by rw[g];simp only[jr];exact dW (Nat.lt_succ_of_le B)) e
     .exact λi v f E Q hi hv N hq=>m_ i v f E Q hi hv N hq
     .exact hJ 0 _ _ T λb o _ e=>bz _ e
     intro s' y I;obtain⟨d,g',d',C,D⟩:=s';obtain rfl:g'=s.gens:=y.gens;obtain rfl:d'=s.drawn:=y.drawn;obtain rfl:D=s.os:=y.os;show ax _ _ _ _ _ _;refine aN ?_;show ax _ _ (ret Value.none) _ _ _;refine aN ⟨rfl,d,C,rfl,I,λb o B e=>y.heap b o ?_ (bz _ (bz _ e))⟩;rw[g];simp only[bA,jr,eZ,or_false,not_or];exact⟨dW B,dW (mU B)⟩
   .cases r2 with
    |error e=>exact m
    |ok W=>
     cases W with
     |ret r=>
      obtain⟨rfl,d,j,rfl,I,M⟩:=m
      repeat any_goals (first|assumption|wp_step)
      exact h _ _ I M
     |_=>exact m.elim
  |_=>exact K.elim
theorem MT{l:ag}{a:Array ak}{c:List Str}{Q:ak->aq->Prop}(y:A.handled=ah)(u:s.heap.IsList l a\/s.heap.IsTuple l a)(x:gM a.toList c)(B:(met (λi=>c.getD i kT) a.size).length<4000)(h:∀(d:aJ) (n:Nat),jO P w d s.heap.objs.size (met (λi=>c.getD i kT) a.size)->(∀b o,b<s.heap.objs.size->s.heap.get? b=aa o->d.get? b=aa o)->Q (.ref s.heap.objs.size) {s with heap:=d,toks:=n}):ax (aH P w) A (call (.type "set") [.ref l]) Q E s:=by
 refine Q2 y u (J:=λi h=>jO P w h s.heap.objs.size (met (λi=>c.getD i kT) i)) (λi h d S k=>S.at λo e=>k _ o (bC _) e)
  ⟨#[],0,_,[],cL _ rfl,.nil,BN _,λe z=>by simp at z,by decide,rfl,rfl,λh=>absurd rfl h⟩ (λi v j E Q g r S q=>?_) h
 obtain⟨t,rfl⟩:=Fj i v x (by rw[Array.getElem?_toList];exact r);unfold setAdd;refine pP ?_;have p:(jW P w).is (c.getD i kT) (.str (c.getD i kT) t)=ae:=by show uA _ (.str _ t)=ae;simp[uA]
 refine au ((jW P w).pyHash (k:=c.getD i kT) p ?_);refine J3 (s:={j with toks:=j.toks+1}) S (BH (Ei _ (pJ g)) B) λd b f m=>?_;rw[<-FE (λi=>c.getD i kT)]at m;exact q d _ b (uI _) f m
end
theorem Gz{n:Nat}(h:n<=4096):n<bB:=BH h (by decide)
theorem OU:typeLookup (.type "set") "__len__"=pure (aa (.builtin "set.__len__")):=F.slot_set_len.lookup
section
variable{P:bv}{w:bc}{A:bG}{E:ak->aq->Prop}{s:aq}
def ti(w:bc)(h:aJ)(a:ag)(b:Array (Int×ak)):Prop:=∃(c:Nat) (t:jV),h.get? a=aa {cls:=.type "set",dict:=ah,data:=.set b c t}/\b.size<4090/\t.fits b.size=ae/\t.led=(!eW w)/\(b.size≠0->t.plain=aj)
theorem ti.at{w:bc}{h h':aJ}{a:ag}{es:Array (Int×ak)}(S:ti w h a es)(k:∀o,h.get? a=aa o->h'.get? a=aa o):ti w h' a es:=by obtain⟨ep,t,e,r⟩:=S;exact⟨ep,t,k _ e,r⟩
theorem jO.e{h:aJ}{a:ag}{ks:List Str}(S:jO P w h a ks):∃es ss,ti w h a es/\gM (es.toList.map (·.2)) ss/\ss.Perm ks:=by
 obtain⟨es,ep,t,ss,f,c,b,i,hsz,g,d,l⟩:=S.ex;refine⟨es,ss,⟨ep,t,f,hsz,g,d,λj=>l λz=>j ?_⟩,c,b⟩;have m:=b.length_eq;have n:ss.length=es.size:=by rw[<-c.strs];simp
 rw[z,pT]at m;lia
structure Fe(P:bv)(w:bc)(s s':aq)(a I:ag)(es:Array (Int×ak))(fp:List ag)(n:Nat)(Pv:Nat->ak->Prop)(St:Nat->aJ->Prop):Prop where
 wk:∀A:bG,A.handled=ah->Walks P w A I fp [I] n Pv St
 st:St 0 s'.heap
 old:∀b o,s.heap.get? b=aa o->s'.heap.get? b=aa o
 new:s.heap.objs.size<=I
 lt:∀b∈fp,b<s'.heap.objs.size
 rest:s'={s with heap:=s'.heap,drawn:=s'.drawn}
 ord:∀bf:Array ak,ItemsOf Pv bf n->bf.toList.Perm (es.toList.map (·.2))
 len:n<4090
 fps:∀b∈fp,b=a\/s.heap.objs.size<=b
theorem wI{l:List ak}{a:Array ak}{n:Nat}(c:l.length=n)(h:ItemsOf (λi v=>l[i]?=aa v) a n):a.toList=l:=by
 refine BS λi=>?_;by_cases b:i<n
 .have:i<a.size:=by rw[h.1];exact b
  have q:=h.2 i a[i] (BQ this);rw[q];simp[this]
 .rw[rQ (by rw[ri,h.1];lia),rQ ∅]
theorem Kl{I a:ag}{d:Array (Int×ak)}{j:Nat}{t:jV}(L:a≠I)(r:t.fits d.size=ae)(g:eW w=aj)(n:d.size=0)(F:A.handled=ah):Walks P w A I [I,a] [I] 0 (λi v=>(d.toList.map (·.2))[i]?=aa v) (λi h=>h.get? I=aa (iO (dY 0) 0 a d.size j)/\h.get? a=aa (pf d j t)):=by
 have u:d=#[]:=Array.eq_empty_of_size_eq_zero n;have l:∀(s:aq) (f:Nat) (i:Nat) (Q:Option (ak×Nat)->aq->Prop) (E:ak->aq->Prop),s.heap.get? a=aa (pf d j t) ->
   Q ah s->ax (aH P w) A.in1 (mV a f i j) Q E s:=λs f i Q E G C=>by
  unfold mV;refine au (rJ G rfl r ?_);unfold yc;refine au (au (rM (aN ?_)));show ax _ _ (if eW w=ae then _ else _) _ _ s;rw[if_neg (by rw[g];decide)];refine yd (λp=>absurd (show(!t.plain&&decide (d.size > 1))=ae from p) (by rw[n];simp)) (λ_=>?_);refine au ?_;refine gy (Q:=λ_ q=>q=s) (E:=E) ?_ (λ_ q y=>?_) (λ_ _ x=>x)
  .refine yd (λp=>absurd (show(!t.led&&!d.isEmpty)=ae from p) (by rw[u];simp)) (λ_=>aN rfl)
  .subst y;rw[u];have J:∀k:Nat,(#[]:Array (Int×ak))[k]?=ah:=λk=>by simp
   dsimp only;rw[J];exact aN C
 refine⟨λb g=>by simp at g;simp[g],λi h K c k=>⟨k I (by simp) _ c.1,k a (by simp) _ c.2⟩,λi s Q E D c m=>absurd D (BR i),λs Q E c m=>?_,λi s Q E c m=>vo c.1 m⟩;refine o6 c.2 r c.1 ?_;show ax _ _ (mV a (0:Int).toNat ((0:Nat):Int).toNat (j:Int).toNat >>= _) _ _ s;simp only[iJ,Int.toNat_zero];refine au (l s 0 0 _ _ c.2 ?_);dsimp only;refine au (we c.1 λn B _=>?_);exact vE (s:={s with heap:=n}) F λH z=>m H s.toks λb o g e=>z b o ((B.2 b (by simpa using g)).trans e)
theorem Mt{a:ag}{g:Array (Int×ak)}{Q:ak->aq->Prop}(S:ti w s.heap a g)(h:∀x I C n D St,Fe P w s x a I g C n D St->Q (.ref I) x):ax (aH P w) A (n6 (.ref a)) Q E s:=by
 obtain⟨M,t,l,hsz,p,p9,eI⟩:=S;have Y:s.TypeIs (.ref a) "set":=⟨_,l,rfl⟩
 have j7:=bN l;refine wpAny_pyIter_slot Y F.slot_set_iter (mT F.slot_set_iter Y IM ?_ (F.args_set_iter_1 _));unfold Builtin.«frozenset.__iter__» Builtin.Frozenset.slot0 slotArgs Builtin.Frozenset.addrOf Builtin.Frozenset.sizeOf;refine au (aN ?_);refine au (au (wpAny_setEntries_of l rfl p (aN ?_)));unfold setDrawn;refine au (au (rJ l rfl p ?_));unfold yc;refine au (au (rM (aN ?_)));refine aN ?_;have i:∀(first:ak) (u:aq) (C:List ag) (n:Nat) (D:Nat->ak->Prop) (St:Nat->aJ->Prop),u.heap.get? a=aa {cls:=.type "set",dict:=ah,data:=.set g M t} ->
   Fe P w s {u with heap:=u.heap.push (iO first 0 a g.size M)} a u.heap.objs.size g C n D St ->
   ax (aH P w) A.in1 (do
    let e <-setEpoch a
    let f <-newFields "set_iterator" [first,dY 0,Value.ref a,dY (g.size:Nat),dY (e:Nat)]
    ret f) (λi x=>∃v,i=Fin.done (Flow.ret v)/\∃Z r,x.TypeIs v Z/\typeLookup (Value.type Z) (pQ "__next__")=pure (aa r)/\Q v x) E u:=λfirst u C n D St ha W=>by
  refine au (wpAny_setEpoch_of ha rfl p ?_);refine au (i8 ?_);exact aN ⟨_,rfl,"set_iterator",_,⟨_,cL _ rfl,rfl⟩,Dv.lookup,h _ _ C n D St W⟩
 refine yd (λK=>?_) (λK=>?_)
 .have H:(!eW w&&(!t.plain&&decide (g.size > 1)))=ae:=K;refine au (DZ g.size (cg g.size) s _ (by simp) λG d J=>?_);refine au (wpAny_newTuple ?_ (hsz:=by rw[b0,J.length_eq,om];exact pJ (Gz ∅)));refine i _ _ _ _ _ _ (bz _ l) ⟨λO q=>Q6 (T:=s.heap.objs.size) (dW (by rw[kj];exact mU j7)) (dW (by rw[kj];exact k7 _)) p J q,⟨cL _ rfl,?_,?_⟩,?_,?_,?_,rfl,?_,hsz,?_⟩
  .exact bz _ (bz _ l)
  .exact bz _ (cL _ rfl)
  .exact λb o e=>bz _ (bz _ e)
  .rw[kj];exact uI _
  .intro b c;simp only[bA,eZ,or_false]at c;rw[kj,kj];rcases c with rfl|rfl|rfl
   .rw[kj];exact k7 _
   .exact mU (mU j7)
   .exact mU (k7 _)
  .intro N m;have e0:(G.filterMap λj=>(g[j]?).map (·.2))=(G.filterMap λj=>g[j]?).map (·.2):=by rw[List.map_filterMap]
   have y:(G.filterMap λj=>g[j]?).Perm g.toList:=by have:=J.filterMap λj=>g[j]?;rwa[filterMap_getElem?_range]at this
   rw[e0]at m;rw[wI (by rw[b0,y.length_eq];simp) m];exact y.map _
  .intro b c;simp only[bA,eZ,or_false]at c;rcases c with rfl|rfl|rfl
   .rw[kj];exact .inr (uI _)
   .exact .inl rfl
   .exact .inr (bC _)
 .have H:¬(!eW w&&(!t.plain&&decide (g.size > 1)))=ae:=K;refine au (aN ?_);cases c:eW w with
  |true=>
   refine i _ _ _ _ _ _ l ⟨λO q=>N6 (dW j7) p c q,⟨cL _ rfl,bz _ l⟩,λb o e=>bz _ e,bC _,?_,rfl,?_,hsz,λb c=>?_⟩
   .intro b c;simp only[bA,eZ,or_false]at c;rw[kj];rcases c with rfl|rfl
    .exact k7 _
    .exact mU j7
   .intro N m;have y:=DM (w.params.setOrder a M) g;rw[wI (by rw[b0,y.length_eq];simp) m];exact y.map _
   .simp only[bA,eZ,or_false]at c;exact c.elim (λz=>.inr (oh z.symm)) .inl
  |false=>
   have L:g.size=1\/g.size=0:=by
    by_cases X:g.size=0
    .exact .inr X
    .rw[c,eI X]at H;simp at H;lia
   rcases L with B|B
   .refine i _ _ _ _ _ _ l ⟨λO q=>JX (dW j7) p c (by rw[p9,c];rfl) B q,⟨cL _ rfl,bz _ l⟩,λb o e=>bz _ e,bC _,?_,rfl,?_,by decide,λb c=>?_⟩
    .intro b c;simp only[bA,eZ,or_false]at c;rw[kj];rcases c with rfl|rfl
     .exact k7 _
     .exact mU j7
    .intro N m;rw[wI (by simp[B]) m]
    .simp only[bA,eZ,or_false]at c;exact c.elim (λz=>.inr (oh z.symm)) .inl
   .refine i _ _ _ _ _ _ l ⟨λO q=>Kl (dW j7) p c B q,⟨cL _ rfl,bz _ l⟩,λb o e=>bz _ e,bC _,?_,rfl,?_,by decide,λb c=>?_⟩
    .intro b c;simp only[bA,eZ,or_false]at c;rw[kj];rcases c with rfl|rfl
     .exact k7 _
     .exact mU j7
    .intro N m;rw[wI (by simp[B]) m]
    .simp only[bA,eZ,or_false]at c;exact c.elim (λz=>.inr (oh z.symm)) .inl
theorem Jk{a:ag}{m:Array (Int×ak)}{Q:List ak->aq->Prop}(J:A.handled=ah)(S:ti w s.heap a m)(h:∀(d:aq) (C:List ak),C.Perm (m.toList.map (·.2))->(∀b o,s.heap.get? b=aa o->d.heap.get? b=aa o)->d.gens=s.gens->d.os=s.os->Q C d):ax (aH P w) A (collect (.ref a)) Q E s:=by
 obtain⟨K,t,H,O,_⟩:=id S;have j7:=bN H;unfold collect;refine au (wpAny_runValue (uN F.entry_proto_collect ?_));rw[yb F.plain_proto_collect _];show ax _ A.in1 (newList [] >>= λl=>again (.builtin "list.__iadd__" ⟨[l,.ref a],[]⟩)) _ _ s;refine au (i8 ?_);refine aN ⟨BO F.plain_list_iadd _,uN F.entry_list_iadd ?_⟩;rw[yb F.plain_list_iadd _];show ax _ A.in1 (Builtin.List.listExtendWith (.ref s.heap.objs.size) (.ref a) (.ref s.heap.objs.size)) _ _ _;unfold Builtin.List.listExtendWith;have j:∀u:aq,u.heap.get? a=aa {cls:=.type "set",dict:=ah,data:=.set m K t}->u.TypeIs (.ref a) "set":=λu e=>⟨_,e,rfl⟩
 have D:(s.heap.push {cls:=.type "list",data:=.seq ([]:List ak).toArray}).get? a=aa {cls:=.type "set",dict:=ah,data:=.set m K t}:=bz _ H;refine au (uG (j _ D) ?_);have Y:Builtin.List.listSameRef (.ref s.heap.objs.size) (.ref a)=aj:=by have:¬(s.heap.objs.size=a):=iZ j7;simp[Builtin.List.listSameRef,this]
 rw[if_neg (by rw[Y];decide)];refine au (Mt (S.at λo e=>bz _ e) λr I Z n Pv St W=>?_);have v:=W.old a _ D;refine au (pP ?_);unfold Builtin.List.listLengthHint;refine au (wpAny_specialOf (j _ v) OU ?_)
 wp_delta
 refine au (HJ (T:="set") (b:=ae) (j _ v) (by rw[isSubtype_type];kernel_rfl) ?_);show ax _ A.in1 (typeOf (Value.ref a) >>= _) _ _ _;refine au (uG (T:="set") (j _ v) ?_);refine aN ?_;rw[if_pos (by decide)];refine au (uL ?_);have X:(s.heap.push {cls:=.type "list",data:=.seq ([]:List ak).toArray}).get? s.heap.objs.size=aa {cls:=.type "list",data:=.seq ([]:List ak).toArray}:=cL _ rfl;have i:=W.old _ _ X;unfold Builtin.List.listTouch;refine au (au (listUpdate_at i rfl ?_ (by decide) (by show 1<=bB+1;decide)));have g:=get?_update_seq i (λa:Array ak=>a.push Value.none);refine listUpdate_at g rfl ?_ (by show 1<=bB;decide) (by show 0<=bB+1;decide);have B:=get?_update_seq g (λa:Array ak=>a.pop);have L:s.heap.objs.size∉Z:=λz=>by
  rcases W.fps _ z with q|q
  .exact absurd j7 (by rw[<-q];exact fh _)
  .rw[kj]at q;exact absurd (k7 _) (Nat.not_lt.mpr q)
 have G:∀b o,b≠s.heap.objs.size->r.heap.get? b=aa o->(((r.heap.update s.heap.objs.size (uH λa=>a.push Value.none)).update s.heap.objs.size (uH λa=>a.pop))).get? b=aa o:=λb o f e=>by rw[Heap.get?_update_ne _ _ _ _ f,Heap.get?_update_ne _ _ _ _ f];exact e
 have M:St 0 (((r.heap.update s.heap.objs.size (uH λa=>a.push Value.none)).update s.heap.objs.size (uH λa=>a.pop))):=(W.wk A.in1 J).frame 0 _ _ W.st λb f o e=>G b o (λz=>L (z ▸ f)) e;refine aN ⟨BO F.plain_extend_loop _,codeAny_extend_loopS (W.wk A.in1 J).toS (pJ (Gz (by have:=W.len;lia))) _ L _ n 0 _ _ _ rfl (kg _) M B (ItemsOf.nil _) λd c c' x y N=>?_⟩;show ax _ A (load s.heap.objs.size >>= _) _ _ d;refine au (wpAny_load y ?_);refine aN (h d c.toList (W.ord c N) (λb o e=>?_) ?_ ?_)
 .have p:=bN e;refine x.heap b o (λf=>?_) (G b o (dW p) (W.old b o (bz _ e)));rcases bA.mp f with z|z
  .exact absurd p (by rw[z];exact fh _)
  .rw[jr.mp z]at p;have:=W.new;rw[kj]at this;exact absurd p (Nat.not_lt.mpr (Nat.le_of_succ_le this))
 .rw[x.gens,W.rest]
 .rw[x.os,W.rest]
theorem MR{a:ag}{ks:List Str}{Q:List ak->aq->Prop}(q:A.handled=ah)(S:jO P w s.heap a ks)(h:∀(c:aq) (d:List ak) (f:List Str),gM d f->f.Perm ks->d.length<4090->(∀b o,s.heap.get? b=aa o->c.heap.get? b=aa o)->c.gens=s.gens->c.os=s.os->Q d c):ax (aH P w) A (collect (.ref a)) Q E s:=by
 obtain⟨t,f,S,r,p⟩:=S.e;have n:t.size<4090:=by obtain⟨_,_,_,z,_⟩:=S;exact z
 refine Jk q S λc d pv m l j=>?_;obtain⟨u,i,g⟩:=zk pv r;exact h c d u i (g.trans p) (by have:=pv.length_eq;simp at this;lia) m l j
theorem Mi{a:ag}{ks:List Str}{Q:List ak->aq->Prop}(f:A.handled=ah)(S:jO P w s.heap a ks)(g:ks≠[])(h:∀(c:aq) (d:List ak) (ss:List Str),gM d ss->ss.Perm ks->d.length<4090->(∀b o,s.heap.get? b=aa o->c.heap.get? b=aa o)->c.gens=s.gens->c.os=s.os->Q d c):ax (aH P w) A (collect (.ref a)) Q E s:=MR f S h
end
def fu(ls:List Tx):List Tx:=ls.foldl (λks x=>if x∈ks then ks else ks++[x]) []
theorem CT(b:List Tx):met (λi=>(b.map tS).getD i kT) b.length=(fu b).map tS:=by
 have d:∀(l:List Tx) (a:List Tx),(l.map tS).foldl jI (a.map tS)=(l.foldl (λks x=>if x∈ks then ks else ks++[x]) a).map tS:=by
  intro l
  induction l with
  |nil=>intro a;rfl
  |cons x r g=>
   intro a;rw[ci,oq,oq];have:jI (a.map tS) (tS x)=(if x∈a then a else a++[x]).map tS:=by
    unfold jI;have f:tS x∈a.map tS↔x∈a:=by rw[cp];exact⟨λ⟨y,j,e⟩=>by rw[<-oY e];exact j,λh=>⟨x,h,rfl⟩⟩
    by_cases h:x∈a
    .rw[if_pos h,if_pos (f.mpr h)]
    .rw[if_neg h,if_neg (λz=>h (f.mp z)),uK];rfl
   rw[this,g]
 have e:(cg b.length).map (λi=>(b.map tS).getD i kT)=b.map tS:=by
  refine BS λi=>?_;rw[iI];by_cases c:i<b.length
  .rw[List.getElem?_range c];simp[c]
  .rw[rQ (by simpa using c),rQ (by simpa using c)];rfl
 unfold met;rw[e];exact d b []
theorem E1(l c:List Tx):(c.Nodup->(l.foldl (λks x=>if x∈ks then ks else ks++[x]) c).Nodup)/\∀x,x∈l.foldl (λks x=>if x∈ks then ks else ks++[x]) c↔x∈c\/x∈l:=by
 induction l generalizing c with
 |nil=>exact⟨λh=>h,λx=>by simp⟩
 |cons y r g=>
  rw[oq];obtain⟨m,j⟩:=g (if y∈c then c else c++[y]);refine⟨λh=>m ?_,λx=>?_⟩
  .split
   .exact h
   .rename_i d;rw[HL];exact⟨h,by simp,λa i b f=>by simp at f;subst f;exact λe=>d (e ▸ i)⟩
  .rw[j x,bA];split
   .rename_i d;constructor
    .rintro(h|h)
     .exact .inl h
     .exact .inr (.inr h)
    .rintro(h|rfl|h)
     .exact .inl h
     .exact .inl d
     .exact .inr h
   .rw[g9,jr,or_assoc]
theorem GR(l:List Tx):(fu l).Nodup:=(E1 l []).1 List.nodup_nil
theorem qF(l:List Tx)(x:Tx):x∈fu l↔x∈l:=by rw[fu,(E1 l []).2 x];simp
theorem FI(l:List Tx):(fu l).length<=l.length:=by
 have b:∀(l a:List Tx),(l.foldl (λks x=>if x∈ks then ks else ks++[x]) a).length<=a.length+l.length:=by
  intro l
  induction l with
  |nil=>intro a;simp
  |cons x r c=>intro a;rw[oq];refine dX (c _) ?_;split <;> simp <;> lia
 simpa[fu]using b l []
section
variable{X:Cx}
def oR(X:Cx)(a:ag)(b:List Tx):HO:=.ext λh=>jO X.prog X.w h a (b.map tS)
theorem LF(A:X.calm=ae):gn X (.type "set") (λg H Q=>∃(p:ag) (c:List Tx),g=[.ref p]/\cI X.K H p (eN c)/\(fu c).length<4000/\∀a,H a=ah->Q (.ref a) (upd H a (oR X a (fu c)))):=by
 intro M s C H g D Q I r h;obtain⟨p,c,rfl,y,f,q⟩:=h;obtain⟨u,rfl,m⟩:=vals1 r;cases m;obtain⟨d,i,x,F⟩:=I.list y;have z:=i.length;rw[AC]at z;refine MT (P:=X.prog) (w:=X.w) (I.ok.hd A) (.inl x.isList) (by simpa using yC i) (by rw[ef,show d.length=c.length by lia,CT,b0];exact f) λB l S k=>?_;have j:jO X.prog X.w B s.heap.objs.size ((fu c).map tS):=by
  have e:d.toArray.size=c.length:=by rw[ef];lia
  rw[e,CT]at S;exact S
 refine⟨.ref s.heap.objs.size,_,I.laid (t':=l) (o:=oR X s.heap.objs.size (fu c)) (λb o e=>k b o (bN e) e) (bC _) ?_,rfl,q _ I.fresh⟩;obtain⟨K,L,t,E,e,_⟩:=j.ex;exact⟨j,⟨_,e⟩,λJ G v n=>v.at n⟩
theorem Jq(y:X.calm=ae):gn X (.builtin "sorted") (λc H Q=>∃(p:ag) (a:List Tx),c=[.ref p]/\H p=aa (oR X p a)/\a≠[]/\a.length<64/\∀l,H l=ah->Q (.ref l) (upd H l (.lst (eN (bS a))))):=by
 intro F s j H c J Q I r h;obtain⟨p,a,rfl,w,D,v,q⟩:=h;obtain⟨u,rfl,n⟩:=vals1 r;cases n;obtain⟨S,_,_⟩:=(show eh X.prog X.w H s.heap p (oR X p a)from I.hok p _ w)
 refine zx (Mi (sx (I.ok.hd y)) S (by cases a with|nil=>exact absurd rfl D|cons=>simp) λm G ss g f N k B A=>?_);obtain⟨d,g',d',t',o⟩:=m;obtain rfl:g'=s.gens:=B;obtain rfl:o=s.os:=A;have i:Inv X F j H {s with heap:=d,drawn:=d',toks:=t'}:=by have:=Inv.call (ch:=[]) I (g':=s.gens) (d':=d') (t':=t') (Un.kept (fs:=gs X.stack) (ex:=[]) k) (I.hok.kept k) I.bare (λb z=>absurd z (by simp));exact this
 refine⟨ss,g,by have L:=g.length;have C:=f.length_eq;rw[b0]at C;lia,λK out M e t x b1 b2 E=>?_⟩;exact⟨.ref _,_,Inv.sorted (s1:={s with heap:=d,drawn:=d',toks:=t'}) (ss:=a.map tS) i rfl v t x b1 (b2.trans f) E,rfl,q _ i.fresh⟩
end
structure cM(K:aA)(mg:Str->Option ak)(x:Str)(st:bu):Prop where
 ex:∃f fd,mg x=aa (.ref f)/\oX K x x st f fd
theorem FA{H:Hp}{p:ag}{o:HO}(h:H p=ah):Same H (upd H p o):=λb u q=>by rw[cc (qx q h)];exact q
theorem wT{a:Type}{xs:List a}{k:Int}(b:0<=k)(h:k.toNat<xs.length):fS xs k=aa xs[k.toNat]:=by
 have e:((k.toNat:Nat):Int)=k:=∅
 have q:=qP (xs:=xs) (j:=k.toNat) (v:=xs[k.toNat]) (by simp[h]);rwa[e]at q
def Dz(N:List Str)(d a:eP)(x:Str)(c:List Str)(b:List Nat):Bool :=
 decide (a.kind=.function)&&a.names.all (λy=>(decide (y.2≠.cell)||decide (a.names.lookup y.1=aa .cell))&&(decide (y.2≠.local)||decide (a.names.lookup y.1=aa .local))&&(decide (y.2≠.free)||decide (d.names.lookup y.1=aa .cell)||decide (d.names.lookup y.1=aa .free)))
 && (decide (a.names.lookup x=aa .local)||decide (a.names.lookup x=aa .cell))&&decide c.Nodup&&decide (c.head?=aa x)&&decide (c.length=b.length+1)&&(b.zip c.tail).all λp=>(decide (N[p.1]?=aa p.2)&&decide (a.names.lookup p.2=aa .free))||(decide (N.length<=p.1)&&decide (a.names.lookup p.2=aa .local))
theorem h8.of{X:Cx}{a:eP}{x:Str}{N':List Str}{cap:List Nat}(N:List Str)(f:eP)(l:X.N=N)(c:X.env.scope=f)(h:Dz N f a x N' cap=ae):h8 X a x N' cap:=by
 subst l c;simp only[Dz,gg,decide_eq_true_eq,mX,x9]at h;obtain⟨⟨⟨⟨⟨⟨r,d⟩,q⟩,p⟩,o⟩,n⟩,m⟩:=h;refine⟨r,λy b e=>(d y b).1.1.elim (λz=>absurd e z) λz=>z,λy b e=>?_,q,λy b e=>?_,p,o,n,λi j y t s=>?_⟩
 .rcases(d y b).1.2 with z|z
  .exact absurd e z
  .exact z
 .rcases(d y b).2 with(z|z)|z
  .exact absurd e z
  .exact .inl z
  .exact .inr z
 .have g:(j,y)∈cap.zip N'.tail:=by
   refine List.mem_iff_getElem?.mpr ⟨i,?_⟩;rw[List.getElem?_zip_eq_some];refine⟨s,?_⟩;rw[<-List.drop_one,HM,Nat.add_comm];exact t
  exact m _ g
theorem QG(a b:Tx):f8 (tV a) (tV b)=decide (a=b):=by show(tS a == tS b)=_;rw[mS];simp only[beq_iff_eq,decide_eq_true_eq];exact⟨oY,λh=>by rw[h]⟩
theorem Km(a:List Tx)(x:Tx):((eN a).countP λz=>f8 z (tV x))=a.count x:=by unfold eN List.count;rw[List.countP_map];refine List.countP_congr λy _=>?_;simp only[Function.comp_apply,QG,decide_eq_true_eq,beq_iff_eq]
end L2
namespace Pu
open L2
abbrev St:=L2.St
inductive PV where
 |non|bl (b:Bool)|int (i:Int)|str (x:Tx)|tup (xs:List PV)|lst (xs:List PV)|raw (v:V)|exc (c:ak)
def LL(a:ag)(c:ak):HO:=.ext λh=>∃o b,h.get? a=aa o/\o.cls=c/\o.data=.fields b/\o.dict=ah
def bR:Nat:=1000000
theorem nG:bR<=bB:=by rw[pM];decide
def e_:HO->Prop
 |.lst _=>True
 |.dK _=>True
 |.dT _=>True
 |.dN _=>True
 |.ins _ _ _=>True
 |.own _=>True
 |_=>False
mutual
def bd(K:aA)(H:Hp)(F:ag->Prop):PV->V->Prop
 |.non,v=>v=.non
 |.bl b,v=>v=.bl b
 |.int i,v=>v=.int i
 |.str x,v=>v=tV x/\x.length<=bR
 |.tup f,v=>∃a d,v=.ref a/\H a=aa (.tup d)/\Reps K H F f d
 |.lst f,v=>∃a d,v=.ref a/\Rd H a (.lst d)/\F a/\Reps K H F f d
 |.raw u,v=>v=u
 |.exc c,v=>∃a,v=.ref a/\H a=aa (LL a c)
def Reps(K:aA)(H:Hp)(F:ag->Prop):List PV->List V->Prop
 |[],a=>a=[]
 |x::b,a=>∃v r,a=v::r/\bd K H F x v/\Reps K H F b r
end
section
variable{K:aA}{H H':Hp}{F b:ag->Prop}
mutual
theorem bd.mono(i:∀a,F a->b a)(g:∀a c,F a->Rd H a (.lst c)->Rd H' a (.lst c))(f:∀a o,H a=aa o->¬e_ o->H' a=aa o):∀(x:PV) (v:V),bd K H F x v->bd K H' b x v
 |.non,_,h=>h
 |.bl _,_,h=>h
 |.int _,_,h=>h
 |.str _,_,h=>h
 |.raw _,_,h=>h
 |.exc _,_,⟨a,e,h⟩=>⟨a,e,f a _ h id⟩
 |.tup c,_,⟨a,d,e,l,j⟩=>⟨a,d,e,f a _ l id,Reps.mono i g f c d j⟩
 |.lst c,_,⟨a,d,e,l,m,j⟩=>⟨a,d,e,g a d m l,i a m,Reps.mono i g f c d j⟩
theorem Reps.mono(i:∀a,F a->b a)(g:∀a c,F a->Rd H a (.lst c)->Rd H' a (.lst c))(f:∀a o,H a=aa o->¬e_ o->H' a=aa o):∀(c:List PV) (d:List V),Reps K H F c d->Reps K H' b c d
 |[],_,h=>h
 |x::c,_,⟨v,r,e,l,j⟩=>⟨v,r,e,bd.mono i g f x v l,Reps.mono i g f c r j⟩
end
theorem Reps.len:∀{a:List PV}{b:List V},Reps K H F a b->b.length=a.length
 |[],_,h=>by rw[show _=[] from h];rfl
 |_::_,_,⟨_,_,e,_,c⟩=>by rw[e,eY,eY,Reps.len c]
theorem Reps.get:∀{c:List PV}{d:List V}{i:Nat}{x:PV},Reps K H F c d->c[i]?=aa x->∃v,d[i]?=aa v/\bd K H F x v
 |[],_,_,_,_,e=>by simp at e
 |x::c,_,0,y,⟨v,r,e,h1,_⟩,q=>by simp at q;subst q;subst e;exact⟨v,rfl,h1⟩
 |x::c,_,i+1,y,⟨v,r,e,_,h2⟩,q=>by obtain⟨w,a,b⟩:=Reps.get (i:=i) (x:=y) h2 (by simpa using q);subst e;exact⟨w,by simpa using a,b⟩
theorem Reps.back:∀{c:List PV}{d:List V}{i:Nat}{v:V},Reps K H F c d->d[i]?=aa v->∃x,c[i]?=aa x/\bd K H F x v
 |[],_,_,_,h,e=>by rw[show _=[] from h]at e;simp at e
 |x::c,_,0,y,⟨v,r,e,h1,_⟩,q=>by subst e;simp at q;subst q;exact⟨x,rfl,h1⟩
 |x::c,_,i+1,y,⟨v,r,e,_,h2⟩,q=>by subst e;obtain⟨w,a,b⟩:=Reps.back (i:=i) (v:=y) h2 (by simpa using q);exact⟨w,by simpa using a,b⟩
theorem Reps.app:∀{a b:List PV}{d c:List V},Reps K H F a d->Reps K H F b c->Reps K H F (a++b) (d++c)
 |[],_,_,_,h,g=>by rw[show _=[] from h];exact g
 |x::a,_,_,_,⟨v,r,e,i,f⟩,g=>by subst e;exact⟨v,_,rfl,i,Reps.app f g⟩
theorem Reps.one{x:PV}{v:V}(h:bd K H F x v):Reps K H F [x] [v]:=⟨v,[],rfl,h,rfl⟩
theorem Reps.drop:∀(n:Nat) {xs:List PV}{a:List V},Reps K H F xs a->Reps K H F (xs.drop n) (a.drop n)
 |0,_,_,h=>h
 |_+1,[],_,h=>by rw[show _=[] from h];rfl
 |n+1,_::_,_,⟨_,_,e,_,h2⟩=>by subst e;exact Reps.drop n h2
theorem Reps.take:∀(n:Nat) {xs:List PV}{a:List V},Reps K H F xs a->Reps K H F (xs.take n) (a.take n)
 |0,_,_,_=>by rw[List.take_zero,List.take_zero];rfl
 |_+1,[],_,h=>by rw[show _=[] from h];rfl
 |n+1,_::_,_,⟨v,_,e,h1,h2⟩=>by subst e;exact⟨v,_,rfl,h1,Reps.take n h2⟩
end
structure bO(O O' F F':ag->Prop)(H H':Hp):Prop where
 fro:∀a,F a->F' a
 keep:∀b o,H b=aa o->¬O b->H' b=aa o
 there:∀b o,H b=aa o->∃o',H' b=aa o'
 fnew:∀a,F' a->F a\/H a=ah\/O a
 onew:∀a,O' a->O a\/H a=ah
theorem bO.refl(O F:ag->Prop)(H:Hp):bO O O F F H H:=⟨λ_ h=>h,λ_ _ h _=>h,λ_ o h=>⟨o,h⟩,λ_ h=>.inl h,λ_ h=>.inl h⟩
theorem bO.trans{O i f F m l:ag->Prop}{H d j:Hp}(g:bO O i F m H d)(k:bO i f m l d j):bO O f F l H j where
 fro:=λa h=>k.fro a (g.fro a h)
 keep:=λb o h n=>k.keep b o (g.keep b o h n) λz=>(g.onew b z).elim n λq=>by rw[q]at h;cases h
 there:=λb o h=>let ⟨o',c⟩:=g.there b o h;k.there b o' c
 fnew:=λa h=>by
  have back:d a=ah->H a=ah\/O a:=λz=>by
   cases q:H a with
   |none=>exact .inl rfl
   |some o=>obtain⟨o',c⟩:=g.there a o q;rw[z]at c;cases c
  rcases k.fnew a h with z|z|z
  .exact g.fnew a z
  .exact .inr (back z)
  .exact .inr ((g.onew a z).symm)
 onew:=λa h=>by
  rcases k.onew a h with z|z
  .exact g.onew a z
  .cases q:H a with
   |none=>exact .inr rfl
   |some o=>obtain⟨o',c⟩:=g.there a o q;rw[z]at c;cases c
def mv(O F:ag->Prop)(H:Hp):Prop:=∀b,O b->¬F b/\∃o,H b=aa o/\e_ o
section
variable{K:aA}{O c F b:ag->Prop}{H H':Hp}
theorem bO.imm(g:bO O c F b H H')(f:mv O F H){a:ag}{o:HO}(h:H a=aa o)(n:¬e_ o):H' a=aa o :=
 g.keep _ _ h λz=>by
  obtain⟨_,j,d,i⟩:=f a z;rw[h]at d;cases d;exact n i
theorem bO.lst(g:bO O c F b H H')(f:mv O F H){a:ag}{xs:List V}(d:F a)(h:Rd H a (.lst xs)):Rd H' a (.lst xs):=by
 have no:¬O a:=λz=>(f a z).1 d;rcases h with h|⟨o,h⟩
 .exact .inl (g.keep _ _ h no)
 .exact .inr ⟨o,g.keep _ _ h no⟩
theorem bd.grow(g:bO O c F b H H')(f:mv O F H){x:PV}{v:V}(h:bd K H F x v):bd K H' b x v:=bd.mono g.fro (λ_ _ a q=>g.lst f a q) (λ_ _ q n=>g.imm f q n) x v h
theorem Reps.grow(g:bO O c F b H H')(f:mv O F H){x:List PV}{v:List V}(h:Reps K H F x v):Reps K H' b x v:=Reps.mono g.fro (λ_ _ a q=>g.lst f a q) (λ_ _ q n=>g.imm f q n) x v h
end
theorem _root_.L2.Same.rd{H b:Hp}{a:ag}{u:HO}(e:Same H b)(h:Rd H a u):Rd b a u:=h.elim (λz=>.inl (e _ _ z)) λ⟨o,z⟩=>.inr ⟨o,e _ _ z⟩
structure Al(F F':ag->Prop)(H H':Hp):Prop where
 fro:∀a,F a->F' a
 same:Same H H'
 fnew:∀a,F' a->F a\/(H a=ah/\∃o,H' a=aa o)
theorem Al.refl(F:ag->Prop)(H:Hp):Al F F H H:=⟨λ_ h=>h,Same.refl H,λ_ h=>.inl h⟩
theorem Al.grow{F d O:ag->Prop}{H c:Hp}(a:Al F d H c):bO O O F d H c :=⟨a.fro,λb o h _=>a.same b o h,λb o h=>⟨o,a.same b o h⟩,λb h=>(a.fnew b h).imp id λz=>.inl z.1,λ_ h=>.inl h⟩
theorem Al.rep{K:aA}{F c:ag->Prop}{H b:Hp}(a:Al F c H b){x:PV}{v:V}(h:bd K H F x v):bd K b c x v:=bd.mono a.fro (λ_ _ _ q=>a.same.rd q) (λ_ _ q _=>a.same _ _ q) x v h
theorem Al.reps{K:aA}{F c:ag->Prop}{H b:Hp}(a:Al F c H b){x:List PV}{v:List V}(h:Reps K H F x v):Reps K b c x v:=Reps.mono a.fro (λ_ _ _ q=>a.same.rd q) (λ_ _ q _=>a.same _ _ q) x v h
theorem Al.trans{F i g:ag->Prop}{H f d:Hp}(a:Al F i H f)(b:Al i g f d):Al F g H d :=
 ⟨λc h=>b.fro c (a.fro c h),a.same.trans b.same,λc h=>by
  rcases b.fnew c h with z|⟨z,w⟩
  .rcases a.fnew c z with y|⟨y,o,q⟩
   .exact .inl y
   .exact .inr ⟨y,o,b.same _ _ q⟩
  .exact .inr ⟨a.same.free z,w⟩⟩
theorem Al.new{F:ag->Prop}{H:Hp}{l:ag}{o:HO}(h:H l=ah):Al F (λa=>F a\/a=l) H (upd H l o) :=⟨λ_ h=>.inl h,FA h,λa z=>z.imp id λe=>by subst e;exact⟨h,o,upd_same⟩⟩
theorem Al.new0{F:ag->Prop}{H:Hp}{l:ag}{o:HO}(h:H l=ah):Al F F H (upd H l o):=⟨λ_ h=>h,FA h,λa z=>.inl z⟩
inductive PO where
 |lst (xs:List PV)|dK (kvs:List (aP×PV))|lls (jv:List (List PV))|ins (C:ag) (fs:List (Str×PV))|dT (kvs:List (List aP×PV))|dN (kvs:List ((Tx×List Tx)×PV))|inl (C:ag) (fs:List (Str×PV)) (y:Str) (xs:List PV)
def iT:PO->Bool
 |.lls _=>aj
 |.inl ..=>aj
 |_=>ae
inductive Slot where
 |none|val (v:PV)|own (o:PO)
abbrev ac:=List Slot
def gK(K:aA)(H:Hp)(F:ag->Prop)(a:List (aP×PV))(b:List (aP×V)):Prop:=j_ (λ(p:aP×PV) (q:aP×V)=>p.1=q.1/\bd K H F p.2 q.2) a b
def tt(K:aA)(H:Hp)(F:ag->Prop)(fs:List (Str×PV))(a:List (Str×V)):Prop:=j_ (λ(p:Str×PV) (q:Str×V)=>p.1=q.1/\bd K H F p.2 q.2) fs a
def xq(K:aA)(H:Hp)(F:ag->Prop)(a:List (List aP×PV))(b:List (List aP×V)):Prop:=j_ (λ(p:List aP×PV) (q:List aP×V)=>p.1=q.1/\bd K H F p.2 q.2) a b
def nS(k:Tx×List Tx):Str×List Str:=(tS k.1,k.2.map tS)
def wN(K:aA)(H:Hp)(F:ag->Prop)(a:List ((Tx×List Tx)×PV))(b:List ((Str×List Str)×V)):Prop:=j_ (λ(p:(Tx×List Tx)×PV) (q:(Str×List Str)×V)=>nS p.1=q.1/\bd K H F p.2 q.2) a b
def xE(K:aA)(H:Hp)(F:ag->Prop)(d:List (List PV))(f:List ag):Prop:=j_ (λ(c:List PV) (b:ag)=>∃a,H b=aa (.lst a)/\Reps K H F c a) d f
def fo(K:aA)(H:Hp)(F:ag->Prop)(l:PO)(a:ag)(S:ag->Prop):Prop :=
 match l with
 |.lst i=>(∃g,H a=aa (.lst g)/\Reps K H F i g)/\∀b,S b↔b=a
 |.dK f=>(∃d,H a=aa (.dK d)/\gK K H F f d)/\∀b,S b↔b=a
 |.lls m=>∃h,H a=aa (.lst (h.map .ref))/\xE K H F m h/\h.Nodup/\a∉h/\∀b,S b↔b=a\/b∈h
 |.ins C fs=>(∃j d,H a=aa (.ins C j d)/\tt K H F fs d)/\∀b,S b↔b=a
 |.dT f=>(∃d,H a=aa (.dT d)/\xq K H F f d)/\∀b,S b↔b=a
 |.dN f=>(∃d,H a=aa (.dN d)/\wN K H F f d)/\∀b,S b↔b=a
 |.inl C fs y i=>∃j d b g,H a=aa (.ins C j (d++[(y,.ref b)]))/\tt K H F fs d/\fs.lookup y=ah/\H b=aa (.lst g)/\Reps K H F i g/\a≠b/\∀c,S c↔c=a\/c=b
structure a_(K:aA)(F:ag->Prop)(S:Nat->ag->Prop)(ε:ac)(σ:St)(H:Hp):Prop where
 len:ε.length=σ.length
 ex:∀a,F a->∃o,H a=aa o
 val:∀(i:Nat) (pv:PV),ε[i]?=aa (.val pv)->∃v,σ[i]?=aa (aa v)/\bd K H F pv v
 own:∀(i:Nat) (po:PO),ε[i]?=aa (.own po)->∃a,σ[i]?=aa (aa (.ref a))/\fo K H F po a (S i)
 foot:∀(i:Nat) (b:ag),S i b->(∃po,ε[i]?=aa (.own po))/\¬F b/\∃o,H b=aa o/\e_ o
 dist:∀(i j:Nat) (b:ag),S i b->S j b->i=j
def U(S:Nat->ag->Prop)(b:ag):Prop:=∃i,S i b
section
variable{K:aA}{F d:ag->Prop}{S:Nat->ag->Prop}{g:ac}{f:St}{H H':Hp}
theorem a_.fit(r:a_ K F S g f H):mv (U S) F H:=λb ⟨i,h⟩=>(r.foot i b h).2
theorem gK.mono{a:List (aP×PV)}{b:List (aP×V)}(i:∀x v,bd K H F x v->bd K H' d x v)(h:gK K H F a b):gK K H' d a b:=by
 unfold gK at h ⊢
 induction h with
 |nil=>exact .nil
 |cons r _ c=>exact .cons ⟨r.1,i _ _ r.2⟩ c
theorem tt.mono{fs:List (Str×PV)}{a:List (Str×V)}(c:∀x v,bd K H F x v->bd K H' d x v)(h:tt K H F fs a):tt K H' d fs a:=by
 unfold tt at h ⊢
 induction h with
 |nil=>exact .nil
 |cons r _ b=>exact .cons ⟨r.1,c _ _ r.2⟩ b
theorem xq.mono{a:List (List aP×PV)}{b:List (List aP×V)}(i:∀x v,bd K H F x v->bd K H' d x v)(h:xq K H F a b):xq K H' d a b:=by
 unfold xq at h ⊢
 induction h with
 |nil=>exact .nil
 |cons r _ c=>exact .cons ⟨r.1,i _ _ r.2⟩ c
theorem wN.mono{a:List ((Tx×List Tx)×PV)}{b:List ((Str×List Str)×V)}(i:∀x v,bd K H F x v->bd K H' d x v)(h:wN K H F a b):wN K H' d a b:=by
 unfold wN at h ⊢
 induction h with
 |nil=>exact .nil
 |cons r _ c=>exact .cons ⟨r.1,i _ _ r.2⟩ c
theorem xE.mono{c:List (List PV)}{a:List ag}(l:∀x v,Reps K H F x v->Reps K H' d x v)(i:∀b o,b∈a->H b=aa o->H' b=aa o)(h:xE K H F c a):xE K H' d c a:=by
 unfold xE at h ⊢
 induction h with
 |nil=>exact .nil
 |cons r _ m=>obtain⟨j,q,p⟩:=r;exact .cons ⟨j,i _ _ (by simp) q,l _ _ p⟩ (m λb o n=>i b o (by simp[n]))
theorem fo.mono{r:PO}{a:ag}{t:ag->Prop}(l:∀x v,bd K H F x v->bd K H' d x v)(p:∀x v,Reps K H F x v->Reps K H' d x v)(i:∀b o,t b->H b=aa o->H' b=aa o)(h:fo K H F r a t):fo K H' d r a t:=by
 cases r with
 |lst u=>obtain⟨⟨m,e,q⟩,w⟩:=h;exact⟨⟨m,i a _ ((w a).mpr rfl) e,p _ _ q⟩,w⟩
 |dK j=>obtain⟨⟨c,e,q⟩,w⟩:=h;exact⟨⟨c,i a _ ((w a).mpr rfl) e,q.mono l⟩,w⟩
 |lls J=>obtain⟨I,e,q,D,B,w⟩:=h;exact⟨I,i a _ ((w a).mpr (.inl rfl)) e,q.mono p λb o E=>i b o ((w b).mpr (.inr E)),D,B,w⟩
 |ins C fs=>obtain⟨⟨s,c,e,q⟩,w⟩:=h;exact⟨⟨s,c,i a _ ((w a).mpr rfl) e,q.mono l⟩,w⟩
 |dT j=>obtain⟨⟨c,e,q⟩,w⟩:=h;exact⟨⟨c,i a _ ((w a).mpr rfl) e,q.mono l⟩,w⟩
 |dN j=>obtain⟨⟨c,e,q⟩,w⟩:=h;exact⟨⟨c,i a _ ((w a).mpr rfl) e,q.mono l⟩,w⟩
 |inl C fs y u=>obtain⟨s,c,b,m,e,q,n,G,z,A,w⟩:=h;exact⟨s,c,b,m,i a _ ((w a).mpr (.inl rfl)) e,q.mono l,n,i b _ ((w b).mpr (.inr rfl)) G,p _ _ z,A,w⟩
theorem a_.al(r:a_ K F S g f H)(a:Al F d H H'):a_ K d S g f H' where
 len:=r.len
 ex:=λb h=>(a.fnew b h).elim (λz=>let ⟨o,q⟩:=r.ex b z;⟨o,a.same _ _ q⟩) λz=>z.2
 val:=λi pv e=>let ⟨v,l,j⟩:=r.val i pv e;⟨v,l,a.rep j⟩
 own:=λi n e=>let ⟨b,l,j⟩:=r.own i n e;⟨b,l,j.mono (λ_ _ q=>a.rep q) (λ_ _ q=>a.reps q) λc o _ q=>a.same _ _ q⟩
 foot:=λi b h=>by
  obtain⟨l,j,o,m,p⟩:=r.foot i b h;refine⟨l,λz=>?_,o,a.same _ _ m,p⟩;rcases a.fnew b z with y|⟨y,_⟩
  .exact j y
  .rw[m]at y;cases y
 dist:=r.dist
end
inductive R(α:Type) where
 |ok (a:α) (ε:ac)|er (c:ak) (ε:ac)|no
def R.bind{d b:Type}(r:R d)(k:d->ac->R b):R b:=match r with
 |.ok a ε=>k a ε
 |.er c ε=>.er c ε
 |.no=>.no
def aO{b:Type}(o:Option b)(ε:ac):R b:=match o with
 |some a=>.ok a ε
 |none=>.no
@[simp] theorem R.bind_ok{b c:Type}(a:b)(ε:ac)(k:b->ac->R c):(R.ok a ε).bind k=k a ε:=rfl
@[simp] theorem R.bind_er{b d:Type}(c:ak)(a:ac)(k:b->ac->R d):(R.er c a:R b).bind k=.er c a:=rfl
@[simp] theorem R.bind_no{a b:Type}(k:a->ac->R b):(R.no:R a).bind k=.no:=rfl
@[simp] theorem c9{b:Type}(a:b)(ε:ac):aO (aa a) ε=.ok a ε:=rfl
@[simp] theorem RK{b:Type}(a:ac):aO (ah:Option b) a=.no:=rfl
def Ok(K:aA)(E:XK)(h:St)(F:ag->Prop)(S:Nat->ag->Prop)(H:Hp){i:Type}(r:R i)(C:i->ac->(ag->Prop)->(Nat->ag->Prop)->Hp->Prop):Prop:=match r with
 |.ok a b=>∀g f d,a_ K g f b h d->bO (U S) (U f) F g H d->C a b g f d
 |.er c b=>∀x g f d,a_ K g f b h d->bO (U S) (U f) F g H d->E c x d
 |.no=>False
section
variable{K:aA}{E:XK}{b:St}{F:ag->Prop}{S:Nat->ag->Prop}{H:Hp}{d i:Type}{C C':d->ac->(ag->Prop)->(Nat->ag->Prop)->Hp->Prop}{D:i->ac->(ag->Prop)->(Nat->ag->Prop)->Hp->Prop}
theorem Ok.imp{r:R d}(h:Ok K E b F S H r C)(f:∀a j n l m,a_ K n l j b m->bO (U S) (U l) F n H m->C a j n l m->C' a j n l m):Ok K E b F S H r C':=by
 cases r with
 |ok a j=>exact λn l m r g=>f a j n l m r g (h n l m r g)
 |er c j=>exact h
 |no=>exact h
theorem Ok.from{r:R i}{q:ag->Prop}{o:Nat->ag->Prop}{p:Hp}(h:Ok K E b F S H r D)(g:bO (U S) (U o) F q H p):Ok K E b q o p r D:=by
 cases r with
 |ok a f=>exact λn l m j g'=>h n l m j (g.trans g')
 |er c f=>exact λx n l m j g'=>h x n l m j (g.trans g')
 |no=>exact h
theorem Ok.bind{r:R d}{k:d->ac->R i}(h:Ok K E b F S H (r.bind k) D):Ok K E b F S H r (λa ε1 m j l=>Ok K E b m j l (k a ε1) D):=by
 cases r with
 |ok a f=>exact λp n o r g=>Ok.from h g
 |er c f=>exact h
 |no=>exact h
end
structure Bx(p:Prop):Prop where
 run:p
def gC(X:Cx)(e:aD):TE:=λa H Q=>Bx (∀b s,Inv X b a H s->ax (aH X.prog X.w) X.A (bq e X.env) (EP X b a Q) X.xe s)
def yN(X:Cx)(e:aD):TT:=λa H Q=>Bx (∀b s,Inv X b a H s->ax (aH X.prog X.w) X.A (mR e X.env (bq e X.env)) (TP X b a Q) X.xe s)
def wpS(X:Cx)(c:bu):TS:=λD b H=>Bx (∀a s,Inv X a b H s->ax (aH X.prog X.w) X.A (exec c X.env) (SP X a D) X.xe s)
def qG(X:Cx)(c:List bu):TS:=λD b H=>Bx (∀a s,Inv X a b H s->ax (aH X.prog X.w) X.A (execs c X.env) (SP X a D) X.xe s)
section
variable{X:Cx}{e:aD}{b:bu}{a:List bu}
theorem b_:PE X e (gC X e):=λc s _ _ _ I h=>h.run c s I
theorem nK:PT X e (yN X e):=λc s _ _ _ I h=>h.run c s I
theorem DD:PS X b (wpS X b):=λc s _ _ _ I h=>h.run c s I
theorem qQ:kK X a (qG X a):=λc s _ _ _ I h=>h.run c s I
theorem cE{t:TE}(h:PE X e t){c:St}{H:Hp}{Q:VK}(q:t c H Q):gC X e c H Q:=⟨λd s I=>h d s c H Q I q⟩
theorem ul{t:TT}(h:PT X e t){c:St}{H:Hp}{Q:Bool->Hp->Prop}(q:t c H Q):yN X e c H Q:=⟨λd s I=>h d s c H Q I q⟩
theorem ix{t:TS}(h:PS X b t){c:St}{H:Hp}{D:kC}(q:t D c H):wpS X b D c H:=⟨λd s I=>h d s c H D I q⟩
theorem Ay{t:TS}(h:kK X a t){c:St}{H:Hp}{D:kC}(q:t D c H):qG X a D c H:=⟨λd s I=>h d s c H D I q⟩
end
def DE(X:Cx)(E:XK)(e:aD)(d:ac->R PV):Prop :=
 ∀F S b a H Q,a_ X.K F S b a H->Ok X.K E a F S H (d b) (λpv _ f _ c=>∀v,bd X.K c f pv v->Q v c)->gC X e a H Q
def DN(X:Cx)(E:XK)(e:aD)(d:ac->R PO):Prop :=
 ∀F S g c H Q,a_ X.K F S g c H->Ok X.K E c F S H (d g) (λj _ i l f=>∀a h,fo X.K f i j a h->(∀b,h b->H b=ah/\¬i b/\¬U l b/\∃o,f b=aa o/\e_ o)->Q (.ref a) f)->gC X e c H Q
def DT(X:Cx)(E:XK)(e:aD)(d:ac->R Bool):Prop :=
 ∀F S c a H Q,a_ X.K F S c a H->Ok X.K E a F S H (d c) (λb _ _ _ f=>Q b f)->yN X e a H Q
end Pu
namespace Pu
open L2
section
variable{X:Cx}{E:XK}{a b c:aD}{m db A:ac->R PV}{pos:Pos}
def dC(pv:PV):ac->R PV:=λε=>.ok pv ε
theorem aC{i j pos}:DE X E (.Constant (.int i) j pos) (dC (.int i)):=λF S f d H Q r h=>cE QA (h F S H r (bO.refl ..) _ rfl)
theorem f_{i j pos}:DE X E (.Constant (.bool i) j pos) (dC (.bl i)):=λF S f d H Q r h=>cE NU (h F S H r (bO.refl ..) _ rfl)
theorem vx{j pos}:DE X E (.Constant .none j pos) (dC .non):=λF S f d H Q r h=>cE N8 (h F S H r (bO.refl ..) _ rfl)
theorem ff(l:Tx){x:Str}{j pos}(d:x=tS l:=by decide +kernel)(f:l.length<=bR:=by decide):DE X E (.Constant (.str x) j pos) (dC (.str l)):=λF S i g H Q r h=>cE MQ (h F S H r (bO.refl ..) _ (by rw[d];exact⟨rfl,f⟩))
def dV(i:Nat):ac->R PV:=λε=>match ε[i]? with
 |some (.val pv)=>.ok pv ε
 |_=>.no
theorem am(i:Nat){x:Str}{pos:Pos}(g:X.N[i]?=aa x:=by rfl)(d:gT X.env.scope x:=by eq_refl)(f:(x==("__debug__":Str))=aj:=by decide)(n:(x==("__classdict__":Str))=aj:=by decide):DE X E (.Name x pos) (dV i):=λF S q o H Q r h=>by
 unfold dV at h;split at h
 .rename_i p e;obtain⟨v,l,j⟩:=r.val i p e;exact cE (iQ g d f n) ⟨v,l,h F S H r (bO.refl ..) v j⟩
 .exact h.elim
theorem Gm{x:Str}{i:Int}{pos:Pos}(h:∃t,X.mg x=aa (.int i t))(d:Gl X x:=by rfl)(f:(x==("__debug__":Str))=aj:=by decide):DE X E (.Name x pos) (dC (.int i)):=λF S j g H Q r q=>by obtain⟨t,e⟩:=h;exact cE (Fq (v:=.int i) d e ⟨t,rfl⟩ f) (q F S H r (bO.refl ..) _ rfl)
theorem GC{x:Str}{l:Tx}{pos:Pos}(h:∃t,X.mg x=aa (.str (tS l) t))(f:Gl X x:=by rfl)(d:l.length<=bR:=by decide)(g:(x==("__debug__":Str))=aj:=by decide):DE X E (.Name x pos) (dC (.str l)):=λF S j i H Q r q=>by obtain⟨t,e⟩:=h;exact cE (Fq (v:=tV l) f e ⟨t,rfl⟩ g) (q F S H r (bO.refl ..) _ ⟨rfl,d⟩)
def a_.frz{K:aA}{F:ag->Prop}{S:Nat->ag->Prop}{p:ac}{t:St}{H:Hp}{i:Nat}{s:List PV}(r:a_ K F S p t H)(e:p[i]?=aa (.own (.lst s))):∃a y J,a_ K y J (p.set i (.val (.lst s))) t H/\bO (U S) (U J) F y H H/\t[i]?=aa (aa (.ref a))/\bd K H y (.lst s) (.ref a):=by
 obtain⟨a,I,⟨L,D,M⟩,G⟩:=r.own i _ e;have C:i<p.length:=(eF.mp e).1;have g:∀b,F b->F b\/b=a:=λb h=>.inl h;have mono:∀x v,bd K H F x v->bd K H (λb=>F b\/b=a) x v:=bd.mono g (λ_ _ _ q=>q) (λ_ _ q _=>q);have d:∀x v,Reps K H F x v->Reps K H (λb=>F b\/b=a) x v:=Reps.mono g (λ_ _ _ q=>q) (λ_ _ q _=>q);have B:bd K H (λb=>F b\/b=a) (.lst s) (.ref a):=⟨a,L,rfl,.inl D,.inr rfl,d _ _ M⟩
 refine⟨a,λb=>F b\/b=a,λj b=>S j b/\j≠i,⟨by rw[kl];exact r.len,λb h=>?_,λj pv q=>?_,λj w q=>?_,λj b h=>?_,λj k b O N=>r.dist j k b O.1 N.1⟩,?_,I,B⟩
 .rcases h with h|rfl
  .exact r.ex b h
  .exact⟨_,D⟩
 .by_cases f:i=j
  .subst f;rw[ge C]at q;cases q;exact⟨_,I,B⟩
  .rw[eT f]at q;obtain⟨v,n,l⟩:=r.val j pv q;exact⟨v,n,mono _ _ l⟩
 .by_cases f:i=j
  .subst f;rw[ge C]at q;cases q
  .rw[eT f]at q;obtain⟨v,n,l⟩:=r.own j w q;refine⟨v,n,?_⟩;have u:=l.mono (H':=H) mono d λ_ _ _ z=>z;have P:(λb=>S j b/\j≠i)=S j:=by funext b;simp[fj f]
   rw[P];exact u
 .obtain⟨⟨w,n⟩,l,u⟩:=r.foot j b h.1;refine⟨⟨w,by rw[eT (fj h.2)];exact n⟩,λz=>?_,u⟩;rcases z with z|rfl
  .exact l z
  .exact h.2 (r.dist j i b h.1 ((G b).mpr rfl))
 .refine⟨λ_ h=>.inl h,λb o h _=>h,λb o h=>⟨o,h⟩,λb h=>?_,λb ⟨j,h⟩=>.inl ⟨j,h.1⟩⟩;rcases h with h|rfl
  .exact .inl h
  .exact .inr (.inr ⟨i,(G b).mpr rfl⟩)
def dM(i:Nat):ac->R PV:=λε=>match ε[i]? with
 |some (.own (.lst d))=>.ok (.lst d) (ε.set i (.val (.lst d)))
 |_=>.no
theorem G2(i:Nat){x:Str}{pos:Pos}(l:X.N[i]?=aa x:=by rfl)(f:gT X.env.scope x:=by eq_refl)(j:(x==("__debug__":Str))=aj:=by decide)(q:(x==("__classdict__":Str))=aj:=by decide):DE X E (.Name x pos) (dM i):=λF S v u H Q r h=>by
 unfold dM at h;split at h
 .rename_i p e;obtain⟨a,t,s,d,g,o,n⟩:=r.frz e;exact cE (iQ l f j q) ⟨_,o,h t s H d g _ n⟩
 .exact h.elim
def P2(K:aA)(r:R2)(f:PV->PV->Option PV):Prop:=∀(F:ag->Prop) (H:Hp) (x y:PV) (v u:V) (Q:VK) (pv:PV),bd K H F x v->bd K H F y u->f x y=aa pv->(∀w g d,Al F g H d->bd K d g pv w->Q w d)->r v u H Q
def d2(f:PV->PV->Option PV)(m db:ac->R PV):ac->R PV:=λε=>(m ε).bind λx ε1=>(db ε1).bind λy d=>aO (f x y) d
theorem xt{r:R2}{f:PV->PV->Option PV}(G:P2 X.K r f)(J:DE X E a m)(I:DE X E b db){F:ag->Prop}{S:Nat->ag->Prop}{l:ac}{d:St}{H:Hp}{Q:VK}(C:a_ X.K F S l d H)(h:Ok X.K E d F S H (d2 f m db l) (λpv _ q _ i=>∀v,bd X.K i q pv v->Q v i)):gC X a d H λx p=>gC X b d p λy o=>r x y o Q:=by
 refine J F S l d H _ C ((Ok.bind h).imp λx j P N p s T K v z=>?_);refine I P N j d p _ s ((Ok.bind K).imp λy t O M o D L g u B=>?_);cases e:f x y with
 |none=>rw[e]at g;exact g.elim
 |some pv=>rw[e]at g;exact G O o x y v u Q pv (z.grow L s.fit) B e λw q i al n=>g q M i (D.al al) al.grow w n
theorem bQ{d:Operator}{r:R2}{f:PV->PV->Option PV}(j:b8 X (i5 d) r)(i:P2 X.K r f)(n:DE X E a m)(l:DE X E b db):DE X E (.BinOp a d b pos) (d2 f m db):=λF S p o H Q g h=>cE (Iw j b_ b_) (xt i n l g h)
theorem gx{d:CmpOp}{r:R2}{f:PV->PV->Option PV}(j:b8 X (d_ d) r)(i:P2 X.K r f)(o:DE X E a m)(n:DE X E b db)(l:pL d b=aj):DE X E (.Compare a [d] [b] pos) (d2 f m db):=λF S q p H Q g h=>cE (O6 j b_ b_ l) (xt i o n g h)
def nk:PV->Option Bool
 |.bl b=>aa b
 |_=>ah
def dB(d:ac->R PV):ac->R Bool:=λε=>(d ε).bind λx ε1=>aO (nk x) ε1
theorem GE{K:aA}{H:Hp}{F:ag->Prop}{x:PV}{v:V}{k:Bool}(h:bd K H F x v)(e:nk x=aa k):v=.bl k:=by
 cases x <;> simp[nk]at e;subst e;exact h
theorem sG{F:ag->Prop}{S:Nat->ag->Prop}{j:ac}{i:St}{H:Hp}{Q:Bool->Hp->Prop}{d:ac->R PV}(h:Ok X.K E i F S H (dB d j) (λk _ _ _ g=>Q k g)):Ok X.K E i F S H (d j) (λpv _ s _ g=>∀v,bd X.K g s pv v->∃k,v=.bl k/\Q k g):=by
 refine(Ok.bind h).imp λx l r p q o t f v n=>?_;cases e:nk x with
 |none=>rw[e]at f;exact f.elim
 |some k=>rw[e]at f;exact⟨k,GE n e,f r p q o (bO.refl ..)⟩
theorem cG{d:CmpOp}{r:R2}{f:PV->PV->Option PV}(j:b8 X (d_ d) r)(i:P2 X.K r f)(o:DE X E a m)(n:DE X E b db)(l:pL d b=aj):DT X E (.Compare a [d] [b] pos) (dB (d2 f m db)):=λF S s q H Q g h=>ul (LB j b_ b_ l) (xt (Q:=λx p=>∃k,x=.bl k/\Q k p) i o n g (sG h))
theorem fN{e:aD}{d:ac->R PV}(n:DE X E e d)(l:∀f,mR e X.env f=(do let v <-f;standAt e.pos;holding [v] (truthy v)):=by intro _;rfl):DT X E e (dB d):=λF S i g H Q j h=>ul (O_ b_ l) (n F S i g H _ j (sG h))
def gD(f g:PV->PV->Option PV)(m db A:ac->R PV):ac->R PV:=λε=>(m ε).bind λx i=>(db i).bind λy d=>(aO ((f x y).bind nk) d).bind λk d=>
 match k with
 |true=>(A d).bind λz h=>aO (g y z) h
 |false=>.ok (.bl aj) d
theorem Gu{r N:R2}{f g:PV->PV->Option PV}(hp:P2 X.K r f)(j1:P2 X.K N g)(ha:DE X E a m)(hb:DE X E b db)(hc:DE X E c A){F:ag->Prop}{S:Nat->ag->Prop}{t:ac}{j:St}{H:Hp}{Q:VK}(rl:a_ X.K F S t j H)(h:Ok X.K E j F S H (gD f g m db A t) (λpv _ l _ i=>∀v,bd X.K i l pv v->Q v i)):zb r N (gC X a) (gC X b) (gC X c) j H Q:=by
 refine ha F S t j H _ rl ((Ok.bind h).imp λx s F1 S1 H1 M g1 h1 v Z=>?_);refine hb F1 S1 s j H1 _ M ((Ok.bind h1).imp λy n P K O r2 g2 d u L=>?_);cases e:f x y with
 |none=>rw[e]at d;exact d.elim
 |some pv=>
  rw[e]at d;refine hp P O x y v u _ pv (Z.grow g2 M.fit) L e λw l i al C=>?_;cases J:nk pv with
  |none=>rw[lO,J]at d;exact d.elim
  |some k=>
   rw[lO,J]at d;refine⟨k,GE C J,?_⟩;have G:=r2.al al;cases k with
   |false=>exact mq (Ok.from d al.grow l K i G (bO.refl ..) _ rfl)
   |true=>
    have h3:Ok X.K E j P K O ((A n).bind λz q=>aO (g y z) q) (λpv _ l _ i=>∀v,bd X.K i l pv v->Q v i):=d;refine mC (hc l K n j i _ G ((Ok.bind (Ok.from h3 al.grow)).imp λz T F4 S4 H4 r4 g4 p Y D=>?_));cases I:g y z with
    |none=>rw[I]at p;exact p.elim
    |some pz=>rw[I]at p;exact j1 F4 H4 y z u Y Q pz ((al.rep L).grow g4 G.fit) D I λW F5 H5 o B=>p F5 S4 H5 (r4.al o) o.grow W B
theorem QD{i d:CmpOp}{r j:R2}{f g:PV->PV->Option PV}(q:b8 X (d_ i) r)(n:b8 X (d_ d) j)(p:P2 X.K r f)(o:P2 X.K j g)(v:DE X E a m)(u:DE X E b db)(t:DE X E c A)(s:lastMarks [i,d] [b,c]=aj:=by with_unfolding_all rfl):DE X E (.Compare a [i,d] [b,c] pos) (gD f g m db A):=λF S x w H Q l h=>cE (N1 q n b_ b_ b_ s) (Gu p o v u t l h)
theorem sQ{i d:CmpOp}{r j:R2}{f g:PV->PV->Option PV}(q:b8 X (d_ i) r)(n:b8 X (d_ d) j)(p:P2 X.K r f)(o:P2 X.K j g)(v:DE X E a m)(u:DE X E b db)(t:DE X E c A)(s:lastMarks [i,d] [b,c]=aj:=by with_unfolding_all rfl):DT X E (.Compare a [i,d] [b,c] pos) (dB (gD f g m db A)):=λF S z y H Q l h=>ul (OB q n b_ b_ b_ s) (Gu (Q:=λx w=>∃k,x=.bl k/\Q k w) p o v u t l (sG h))
variable{n B:ac->R Bool}{rest:List aD}
def DW(X:Cx)(E:XK)(e:aD)(d:ac->R Bool):Prop:=∀F S g f H Q,a_ X.K F S g f H->Ok X.K E f F S H (d g) (λb _ _ _ i=>Q b i)->∀(h:Sem ak) af s,Inv X af f H s->ax (aH X.prog X.w) X.A (mR e X.env h) (TP X af f Q) X.xe s
def K0(X:Cx)(e:aD):TT:=λd H Q=>∀(f:Sem ak) af s,Inv X af d H s->ax (aH X.prog X.w) X.A (mR e X.env f) (TP X af d Q) X.xe s
theorem Gv{e:aD}:PW X e (K0 X e):=λd f s _ _ _ I h=>h d f s I
theorem DW.dt{e:aD}{d:ac->R Bool}(h:DW X E e d):DT X E e d:=λF S ε f H Q g q=>⟨λi s I=>h F S ε f H Q g q _ i s I⟩
def gU(n B:ac->R Bool):ac->R Bool:=λε=>(n ε).bind λk d=>match k with
 |true=>B d
 |false=>.ok aj d
def cq(n B:ac->R Bool):ac->R Bool:=λε=>(n ε).bind λk d=>match k with
 |true=>.ok ae d
 |false=>B d
def bZ(n:ac->R Bool):ac->R Bool:=λε=>(n ε).bind λk d=>.ok (!k) d
theorem vy(h:DT X E a n):DW X E (.BoolOp .And [a] pos) n:=λF S f d H Q g q i j s I=>NS nK i j s d H Q I (h F S f d H Q g q)
theorem jh(h:DT X E a n):DW X E (.BoolOp .Or [a] pos) n:=λF S f d H Q g q i j s I=>Mu nK i j s d H Q I (h F S f d H Q g q)
theorem tm(t:DT X E a n)(r:DW X E (.BoolOp .And (b::rest) pos) B):DW X E (.BoolOp .And (a::b::rest) pos) (gU n B):=λF S o d H Q p q u v s I=>by
 refine Mg nK Gv u v s d H Q I (t F S o d H _ p ((Ok.bind q).imp λk f l i j g w h=>?_));cases k with
 |true=>exact mC (r l i f d j Q g h)
 |false=>exact mq (h l i j g (bO.refl ..))
theorem gB(t:DT X E a n)(r:DW X E (.BoolOp .Or (b::rest) pos) B):DW X E (.BoolOp .Or (a::b::rest) pos) (cq n B):=λF S o d H Q p q u v s I=>by
 refine N0 nK Gv u v s d H Q I (t F S o d H _ p ((Ok.bind q).imp λk f l i j g w h=>?_));cases k with
 |true=>exact mC (h l i j g (bO.refl ..))
 |false=>exact mq (r l i f d j Q g h)
theorem fG(j:DT X E a n):DT X E (.UnaryOp .Not a pos) (bZ n):=λF S g d H Q h q=>ul (Kz nK) (j F S g d H _ h ((Ok.bind q).imp λk f r o p i s l=>l r o p i (bO.refl ..)))
def eU(m db:ac->R PV):ac->R PV:=λε=>(dB m ε).bind λk d=>match k with
 |true=>db d
 |false=>.ok (.bl aj) d
def jJ(m db:ac->R PV):ac->R PV:=λε=>(dB m ε).bind λk ε1=>match k with
 |true=>.ok (.bl ae) ε1
 |false=>db ε1
def jo(m:ac->R PV):ac->R PV:=λε=>(dB m ε).bind λk ε1=>.ok (.bl (!k)) ε1
theorem AO{d:ac->R PV}{q:Type}{D:q->ac->(ag->Prop)->(Nat->ag->Prop)->Hp->Prop}{k:Bool->ac->R q}{F:ag->Prop}{S:Nat->ag->Prop}{p:ac}{o:St}{H:Hp}{P:Bool->Hp->Prop}(h:Ok X.K E o F S H ((dB d p).bind k) D) (f:∀c g l j i,a_ X.K l j g o i->bO (U S) (U j) F l H i->Ok X.K E o l j i (k c g) D->P c i):Ok X.K E o F S H (d p) (λpv _ x _ r=>∀v,bd X.K r x pv v->∃c,v=.bl c/\P c r):=by have t:=(Ok.bind h).imp (C':=λc g l j i=>P c i) λc g l j i s w u=>f c g l j i s w u;exact sG t
theorem jz{op}{d:ac->R PV}(h:DE X E a d):DE X E (.BoolOp op [a] pos) d:=λF S g f H Q i q=>cE (Lq b_) (h F S g f H Q i q)
theorem jM(s:DE X E a m)(r:DE X E (.BoolOp .And (b::rest) pos) db):DE X E (.BoolOp .And (a::b::rest) pos) (eU m db):=λF S o f H Q p q=>by
 refine cE (IL b_ b_) (s F S o f H _ p (AO q λk d l i j g t h=>?_));cases k with
 |true=>exact mC (r l i d f j Q g h)
 |false=>exact mq (h l i j g (bO.refl ..) _ rfl)
theorem EQ(s:DE X E a m)(r:DE X E (.BoolOp .Or (b::rest) pos) db):DE X E (.BoolOp .Or (a::b::rest) pos) (jJ m db):=λF S o f H Q p q=>by
 refine cE (N_ b_ b_) (s F S o f H _ p (AO q λk d l i j g t h=>?_));cases k with
 |true=>exact mC (h l i j g (bO.refl ..) _ rfl)
 |false=>exact mq (r l i d f j Q g h)
theorem w6(j:DE X E a m):DE X E (.UnaryOp .Not a pos) (jo m):=λF S g d H Q h q=>cE (Pw b_) (j F S g d H _ h (AO q λk f r o p i s l=>l r o p i (bO.refl ..) _ rfl))
def aV{d:Type}(t:ac->R Bool)(m db:ac->R d):ac->R d:=λε=>(t ε).bind λk ε1=>match k with
 |true=>m ε1
 |false=>db ε1
def P1(K:aA)(r:V->Hp->VK->Prop)(f:PV->Option PV):Prop:=∀(F:ag->Prop) (H:Hp) (x:PV) (v:V) (Q:VK) (pv:PV),bd K H F x v->f x=aa pv->(∀w g d,Al F g H d->bd K d g pv w->Q w d)->r v H Q
def d1(f:PV->Option PV)(m:ac->R PV):ac->R PV:=λε=>(m ε).bind λx ε1=>aO (f x) ε1
theorem Od{r:V->Hp->VK->Prop}{f:PV->Option PV}(y:P1 X.K r f)(z:DE X E a m){F:ag->Prop}{S:Nat->ag->Prop}{j:ac}{d:St}{H:Hp}{Q:VK}(t:a_ X.K F S j d H)(h:Ok X.K E d F S H (d1 f m j) (λpv _ p _ i=>∀v,bd X.K i p pv v->Q v i)):gC X a d H λx o=>r x o Q:=by
 refine z F S j d H _ t ((Ok.bind h).imp λx q D C o u G g v s=>?_);cases e:f x with
 |none=>rw[e]at g;exact g.elim
 |some pv=>rw[e]at g;exact y D o x v Q pv s e λw p i al l=>g p C i (u.al al) al.grow w l
theorem iV{d:UnaryOp}{r:V->Hp->VK->Prop}{f:PV->Option PV}(j:xK X (unaryOp d) r)(i:P1 X.K r f)(l:DE X E a m):DE X E (.UnaryOp d a pos) (d1 f m):=λF S p o H Q g h=>cE (Pk j b_) (Od i l g h)
end
def oM(X:Cx)(d:List aD):TA:=λb H Q=>Bx (∀a c s,Inv X c b H s->ax (aH X.prog X.w) X.A (spliced (fk a (bo d X.env))) (AP X c b Q) X.xe s)
def DA(X:Cx)(E:XK)(h:List aD)(d:ac->R (List PV)):Prop :=
 ∀F S c a H Q,a_ X.K F S c a H->Ok X.K E a F S H (d c) (λb _ i _ g=>∀f,Reps X.K g i b f->Q f g)->oM X h a H Q
section
variable{X:Cx}{E:XK}{a b c e:aD}{es:List aD}{B db D d:ac->R PV}{j:ac->R (List PV)}{pos:Pos}
theorem ik{es:List aD}:PA X es (oM X es):=λpos f s _ _ _ I h=>h.run pos f s I
theorem oV{t:TA}(h:PA X es t){f:St}{H:Hp}{Q:List V->Hp->Prop}(q:t f H Q):oM X es f H Q:=⟨λpos g s I=>h pos g s f H Q I q⟩
def ar:ac->R (List PV):=λε=>.ok [] ε
def ao(d:ac->R PV)(j:ac->R (List PV)):ac->R (List PV):=λε=>(d ε).bind λx ε1=>(j ε1).bind λxs f=>.ok (x::xs) f
theorem aM:DA X E [] ar:=λF S i g H Q f h=>oV lw (h F S H f (bO.refl ..) _ rfl)
theorem MP(u:DE X E e d)(t:DA X E es j)(s:bo (e::es) X.env=(aj,bq e X.env)::bo es X.env:=by rfl):DA X E (e::es) (ao d j):=λF S m g H Q p h=>by refine oV (jH b_ ik s) (u F S m g H _ p ((Ok.bind h).imp λx f K C I i M y v o=>?_));refine t K C f g I _ i ((Ok.bind y).imp λL l J A G q z w n r=>?_);exact w J A G q (bO.refl ..) _ ⟨v,n,rfl,o.grow z i.fit,r⟩
theorem a_.more{K:aA}{F N:ag->Prop}{S:Nat->ag->Prop}{ε:ac}{m:St}{H:Hp}(r:a_ K F S ε m H)(n:∀b,N b->¬U S b/\∃o,H b=aa o):a_ K (λb=>F b\/N b) S ε m H:=by
 have mono:∀x v,bd K H F x v->bd K H (λb=>F b\/N b) x v:=bd.mono (λ_ h=>.inl h) (λ_ _ _ q=>q) (λ_ _ q _=>q);have f:∀x v,Reps K H F x v->Reps K H (λb=>F b\/N b) x v:=Reps.mono (λ_ h=>.inl h) (λ_ _ _ q=>q) (λ_ _ q _=>q);refine⟨r.len,λb h=>h.elim (r.ex b) λz=>(n b z).2,λi pv e=>?_,λi p e=>?_,λi b h=>?_,r.dist⟩
 .obtain⟨v,l,g⟩:=r.val i pv e;exact⟨v,l,mono _ _ g⟩
 .obtain⟨v,l,g⟩:=r.own i p e;exact⟨v,l,g.mono mono f λ_ _ _ z=>z⟩
 .obtain⟨l,g,s⟩:=r.foot i b h;exact⟨l,λz=>z.elim g λw=>(n b w).1 ⟨i,h⟩,s⟩
def vV:PO->Option PV
 |.lst xs=>aa (.lst xs)
 |_=>ah
def dF(d:ac->R PO):ac->R PV:=λε=>(d ε).bind λf ε1=>aO (vV f) ε1
theorem DN.de{d:ac->R PO}(h:DN X E e d):DE X E e (dF d):=λF S ε r H Q u q=>by
 unfold dF at q;refine h F S ε r H Q u ?_;cases i:d ε with
 |no=>rw[i]at q;exact q.elim
 |er c s=>rw[i]at q;exact q
 |ok x ε1=>
  rw[i]at q;intro M l m v g a p A n;cases x with
  |dK f=>exact q.elim
  |lls N=>exact q.elim
  |ins C fs=>exact q.elim
  |dT f=>exact q.elim
  |dN f=>exact q.elim
  |inl C fs y xs=>exact q.elim
  |lst xs=>
   have K:∀b,p b->¬U l b/\∃o,m b=aa o:=λb z=>let ⟨_,_,x3,o,x4,_⟩:=n b z;⟨x3,o,x4⟩
   obtain⟨⟨t,I,G⟩,J⟩:=A;have L:bO (U S) (U l) F (λb=>M b\/p b) H m:=⟨λb z=>.inl (g.fro b z),g.keep,g.there,λb z=>z.elim (g.fnew b) λw=>.inr (.inl (n b w).1),g.onew⟩
   exact q _ l m (v.more K) L _ ⟨a,t,rfl,.inl I,.inr ((J a).mpr rfl),Reps.mono (λ_ z=>.inl z) (λ_ _ _ z=>z) (λ_ _ z _=>z) _ _ G⟩
def cx(xs:List PV):Option PV:=if xs.length<=1000 then aa (.tup xs)else ah
def cH(xs:List PV):Option PO:=if xs.length<=1000 then aa (.lst xs)else ah
def dL{g:Type}(f:List PV->Option g)(j:ac->R (List PV)):ac->R g:=λε=>(j ε).bind λxs ε1=>aO (f xs) ε1
def PL(K:aA)(r:List V->Hp->VK->Prop)(f:List PV->Option PV):Prop:=∀(F:ag->Prop) (H:Hp) (h:List PV) (i:List V) (Q:VK) (pv:PV),Reps K H F h i->f h=aa pv->(∀w l g,Al F l H g->bd K g l pv w->Q w g)->r i H Q
def mo(K:aA)(r:List V->Hp->VK->Prop)(f:List PV->Option PO):Prop:=∀(F:ag->Prop) (H:Hp) (i:List PV) (l:List V) (Q:VK) (m:PO),(∀a,F a->∃o,H a=aa o)->Reps K H F i l->f i=aa m ->
 (∀a h g n,Al F h H g->fo K g h m a n->(∀b,n b->H b=ah/\¬h b/\∃o,g b=aa o/\e_ o)->Q (.ref a) g)->r l H Q
theorem Ak{r:List V->Hp->VK->Prop}{f:List PV->Option PV}(z:PL X.K r f)(A:DA X E es j){F:ag->Prop}{S:Nat->ag->Prop}{n:ac}{g:St}{H:Hp}{Q:VK}(u:a_ X.K F S n g H)(h:Ok X.K E g F S H (dL f j n) (λpv _ q _ m=>∀v,bd X.K m q pv v->Q v m)):oM X es g H λi p=>r i p Q:=by
 refine A F S n g H _ u ((Ok.bind h).imp λi s G C p x I l t y=>?_);cases e:f i with
 |none=>rw[e]at l;exact l.elim
 |some pv=>rw[e]at l;exact z G p i t Q pv y e λw q m al o=>l q C m (x.al al) al.grow w o
theorem nv{O i F l:ag->Prop}{H f:Hp}(g:bO O i F l H f){b:ag}(h:f b=ah):H b=ah:=by
 cases q:H b with
 |none=>rfl
 |some o=>obtain⟨o',e⟩:=g.there b o q;rw[h]at e;cases e
theorem wy{r:List V->Hp->VK->Prop}{f:List PV->Option PO}(N:mo X.K r f)(O:DA X E es j){F:ag->Prop}{S:Nat->ag->Prop}{s:ac}{l:St}{H:Hp}{Q:VK}(K:a_ X.K F S s l H)(h:Ok X.K E l F S H (dL f j s) (λu _ q Y g=>∀a p,fo X.K g q u a p->(∀b,p b->H b=ah/\¬q b/\¬U Y b/\∃o,g b=aa o/\e_ o)->Q (.ref a) g)):oM X es l H λm v=>r m v Q:=by
 refine O F S s l H _ K ((Ok.bind h).imp λm A Z W v t P n J M=>?_);cases e:f m with
 |none=>rw[e]at n;exact n.elim
 |some u=>
  rw[e]at n;refine N Z v m J Q u t.ex M e λa q g p al L T=>n q W g (t.al al) al.grow a p L λb z=>?_;obtain⟨x,I,o,G,C⟩:=T b z;refine⟨nv P x,I,λ⟨i,w⟩=>?_,o,G,C⟩;obtain⟨_,_,o',y,_⟩:=t.foot i b w;rw[x]at y;cases y
theorem zB{n:Nat}(h:n<=1000):n<=bB:=pJ (Av h)
theorem LQ{K:aA}:PL K (λf H Q=>f.length<=bB/\∀p,H p=ah->Q (.ref p) (upd H p (.tup f))) cx:=λF H f i Q pv g e q=>by
 unfold cx at e;split at e
 .cases e;refine⟨by rw[g.len];exact zB (by assumption),λp h=>q _ F _ (Al.new0 h) ⟨p,i,rfl,upd_same,(Al.new0 h).reps g⟩⟩
 .cases e
theorem v9{K:aA}{F:ag->Prop}{H:Hp}{l:ag}{g:List PV}{f:List V}(i:H l=ah)(h:Reps K H F g f):fo K (upd H l (.lst f)) F (.lst g) l (λb=>b=l):=⟨⟨f,upd_same,(Al.new0 i).reps h⟩,λb=>pW⟩
theorem wx{F:ag->Prop}{H:Hp}{l:ag}{o:HO}(g:H l=ah)(i:∀a,F a->∃o,H a=aa o)(h:e_ o):∀b,b=l->H b=ah/\¬F b/\∃f,(upd H l o) b=aa f/\e_ f:=λb z=>by
 subst z;exact⟨g,(λw=>by obtain⟨o,q⟩:=i b w;rw[g]at q;cases q),o,upd_same,h⟩
theorem P0{K:aA}:mo K (λf H Q=>f.length<=bB/\∀p,H p=ah->Q (.ref p) (upd H p (.lst f))) cH:=λF H f l Q m i h e q=>by
 unfold cH at e;split at e
 .cases e;exact⟨by rw[h.len];exact zB (by assumption),λp g=>q p F _ _ (Al.new0 g) (v9 g h) (wx g i trivial)⟩
 .cases e
theorem hZ{x1}(h:DA X E es j):DE X E (.Tuple es x1 pos) (dL cx j):=λF S i g H Q f q=>cE (Kn ik) (Ak LQ h f q)
theorem qu(h:DA X E es j):DN X E (.List es pos) (dL cH j):=λF S i g H Q f q=>cE (Ql ik) (wy P0 h f q)
theorem jL(h:DA X E es j):DE X E (.List es pos) (dF (dL cH j)):=(qu h).de
variable{x:Str}{p:Pos}{m T:String}{r:List V->Hp->VK->Prop}{f:List PV->Option PV}{A:List PV->Option PO}
theorem bP(u:gn X (.builtin m) r)(l:PL X.K r f)(o:X.mg x=ah)(i:fi x=aa (.builtin m))(v:DA X E (e::es) j)(s:Gl X x:=by rfl)(n:x≠"__name__":=by decide)(h:(x==("__debug__":Str))=aj:=by decide)(t:bo (e::es) X.env=(aj,bq e X.env)::bo es X.env:=by rfl) (w:(fk pos (bo es X.env)).any (·.1)=aj:=by rfl):DE X E (.Call (.Name x p) (e::es) [] pos) (dL f j):=λF S z y H Q g q=>cE (nX u s o i ik n h t w) (Ak l v g q)
theorem C4(u:gn X (.builtin m) r)(l:mo X.K r A)(o:X.mg x=ah)(i:fi x=aa (.builtin m))(v:DA X E (e::es) j)(s:Gl X x:=by rfl)(n:x≠"__name__":=by decide)(h:(x==("__debug__":Str))=aj:=by decide)(t:bo (e::es) X.env=(aj,bq e X.env)::bo es X.env:=by rfl) (w:(fk pos (bo es X.env)).any (·.1)=aj:=by rfl):DN X E (.Call (.Name x p) (e::es) [] pos) (dL A j):=λF S z y H Q g q=>cE (nX u s o i ik n h t w) (wy l v g q)
theorem xH(u:gn X (.type T) r)(l:PL X.K r f)(o:X.mg x=ah)(i:fi x=aa (.type T))(v:DA X E (e::es) j)(s:Gl X x:=by rfl)(n:x≠"__name__":=by decide)(h:(x==("__debug__":Str))=aj:=by decide)(t:bo (e::es) X.env=(aj,bq e X.env)::bo es X.env:=by rfl) (w:(fk pos (bo es X.env)).any (·.1)=aj:=by rfl):DE X E (.Call (.Name x p) (e::es) [] pos) (dL f j):=λF S z y H Q g q=>cE (AB u s o i ik n h t w) (Ak l v g q)
theorem wl(u:gn X (.type T) r)(l:mo X.K r A)(o:X.mg x=ah)(i:fi x=aa (.type T))(v:DA X E (e::es) j)(s:Gl X x:=by rfl)(n:x≠"__name__":=by decide)(h:(x==("__debug__":Str))=aj:=by decide)(t:bo (e::es) X.env=(aj,bq e X.env)::bo es X.env:=by rfl) (w:(fk pos (bo es X.env)).any (·.1)=aj:=by rfl):DN X E (.Call (.Name x p) (e::es) [] pos) (dL A j):=λF S z y H Q g q=>cE (AB u s o i ik n h t w) (wy l v g q)
theorem b7{r:R2}{f:PV->PV->Option PV}(l:l7 X r)(n:P2 X.K r f)(q:DE X E a B)(o:DE X E b db)(i:E8 b:=by exact λ_ _=>rfl):DE X E (.Subscript a b pos) (d2 f B db):=λF S t s H Q g h=>cE (L_ l b_ b_ i) (xt n q o g h)
def Ah(X:Cx)(e:Option aD):TO:=λg H Q=>Bx (∀h s,Inv X h g H s->ax (aH X.prog X.w) X.A (evalPart e X.env) (λu l=>∃o i,Inv X h g i l/\jU u o/\Q o i) X.xe s)
theorem yM{o:Option aD}:L2.PO X o (Ah X o):=λg s _ _ _ I h=>h.run g s I
theorem GT{o:Option aD}{t:TO}(h:L2.PO X o t){g:St}{H:Hp}{Q:Option Int->Hp->Prop}(q:t g H Q):Ah X o g H Q:=⟨λi s I=>h i s g H Q I q⟩
def DO(X:Cx)(E:XK)(e:Option aD)(d:ac->R (Option Int)):Prop:=∀F S h g H Q,a_ X.K F S h g H->Ok X.K E g F S H (d h) (λo _ _ _ i=>Q o i)->Ah X e g H Q
def bj:ac->R (Option Int):=λε=>.ok ah ε
def iC:PV->Option Int
 |.int i=>aa i
 |_=>ah
def aY(d:ac->R PV):ac->R (Option Int):=λε=>(d ε).bind λx ε1=>aO ((iC x).map aa) ε1
theorem dQ:DO X E ah bj:=λF S l i H Q g h=>GT L0 (h F S H g (bO.refl ..))
theorem cT(u:DE X E e d):DO X E (aa e) (aY d):=λF S o l H Q s h=>by
 refine GT (NN b_) (u F S o l H _ s ((Ok.bind h).imp λx n z w y t C g v q=>?_));cases x <;> first|exact(show False from g).elim|skip
 rename_i i;exact⟨i,q,g z w y t (bO.refl ..)⟩
def be{i:Type}(f:PV->Option Int->Option Int->Option i)(d:ac->R PV)(o n:ac->R (Option Int)):ac->R i:=λε=>(d ε).bind λx ε1=>(o ε1).bind λl h=>(n h).bind λu g=>aO (f x l u) g
def zU(K:aA)(r:V->Option Int->Option Int->Hp->VK->Prop)(f:PV->Option Int->Option Int->Option PV):Prop:=∀(F:ag->Prop) (H:Hp) (x:PV) (h i:Option Int) (v:V) (Q:VK) (pv:PV),bd K H F x v->f x h i=aa pv->(∀w l g,Al F l H g->bd K g l pv w->Q w g)->r v h i H Q
theorem dA{r:V->Option Int->Option Int->Hp->VK->Prop}{f:PV->Option Int->Option Int->Option PV}{z C:Option aD}{I G:ac->R (Option Int)}{O:Pos}(W:kA X r)(Y:zU X.K r f)(he:DE X E e d)(Z:DO X E z I)(P:DO X E C G):DE X E (.Subscript e (.Slice z C ah O) pos) (be f d I G):=λF S K i H Q M h=>by
 refine cE (M3 W b_ yM yM) (he F S K i H _ M ((Ok.bind h).imp λx o F1 S1 H1 y g1 h1 v L=>?_));refine Z F1 S1 o i H1 _ y ((Ok.bind h1).imp λl n F2 S2 H2 t g2 h2=>?_);refine P F2 S2 n i H2 _ t ((Ok.bind h2).imp λu J F3 S3 H3 N g3 g=>?_);cases s:f x l u with
 |none=>rw[s]at g;exact g.elim
 |some pv=>rw[s]at g;exact Y F3 H3 x l u v Q pv ((L.grow g2 y.fit).grow g3 t.fit) s λw F' H' al q=>g F' S3 H' (N.al al) al.grow w q
end
inductive aK where
 |next|ret (s:Slot)|brk|cont
def t6(K:aA)(H:Hp)(F:ag->Prop)(s:Slot)(v:V)(c:ag->Prop):Prop:=match s with
 |.val pv=>bd K H F pv v/\∀b,¬c b
 |.own d=>∃a,v=.ref a/\fo K H F d a c
 |.none=>False
def jA(b:List Nat)(c a:St):Prop:=∀i∈b,a[i]?=c[i]?
theorem jA.refl(a:List Nat)(b:St):jA a b b:=λ_ _=>rfl
theorem jA.trans{c:List Nat}{g f d:St}(a:jA c g f)(b:jA c f d):jA c g d:=λi h=>(b i h).trans (a i h)
theorem jA.set{a:List Nat}{b:St}{i:Nat}{x:Option V}(h:i∉a):jA a b (b.set i x):=λj c=>by rw[eT (by rintro rfl;exact h c)]
def xu(f:ag->Prop)(c:Nat->ag->Prop)(d:Hp)(a:ag->Prop):Prop:=∀b,a b->¬f b/\¬U c b/\∃o,d b=aa o/\e_ o
def iD(K:aA)(E:XK)(i:List Nat)(j:St)(F:ag->Prop)(S:Nat->ag->Prop)(H:Hp)(r:R aK)(D:kC):Prop:=match r with
 |.ok .next f=>∀g h a d,a_ K g h f a d->bO (U S) (U h) F g H d->jA i j a->D.nx a d
 |.ok .brk f=>∀g h a d,a_ K g h f a d->bO (U S) (U h) F g H d->jA i j a->D.bk a d
 |.ok .cont f=>∀g h a d,a_ K g h f a d->bO (U S) (U h) F g H d->jA i j a->D.ct a d
 |.ok (.ret s) f=>∀v g h a d l,a_ K g h f a d->bO (U S) (λb=>U h b\/l b) F g H d->jA i j a->t6 K d g s v l->xu g h d l->D.rt v d
 |.er c f=>∀x g h a d,a_ K g h f a d->bO (U S) (U h) F g H d->jA i j a->E c x d
 |.no=>False
def DS(X:Cx)(E:XK)(b:List Nat)(f:bu)(d:ac->R aK):Prop:=∀F S c a H D,a_ X.K F S c a H->iD X.K E b a F S H (d c) D->wpS X f D a H
def iL(X:Cx)(E:XK)(b:List Nat)(f:List bu)(d:ac->R aK):Prop:=∀F S c a H D,a_ X.K F S c a H->iD X.K E b a F S H (d c) D->qG X f D a H
section
variable{K:aA}{E:XK}{b:List Nat}{d i:St}{F m:ag->Prop}{S j:Nat->ag->Prop}{H l:Hp}{D:kC}
theorem iD.from{r:R aK}(h:iD K E b d F S H r D)(g:bO (U S) (U j) F m H l)(p:jA b d i):iD K E b i m j l r D:=by
 cases r with
 |no=>exact h
 |er c u=>exact λx t o a q n g' p'=>h x t o a q n (g.trans g') (p.trans p')
 |ok f u=>
  cases f with
  |next=>exact λt o a q n g' p'=>h t o a q n (g.trans g') (p.trans p')
  |brk=>exact λt o a q n g' p'=>h t o a q n (g.trans g') (p.trans p')
  |cont=>exact λt o a q n g' p'=>h t o a q n (g.trans g') (p.trans p')
  |ret s=>exact λv t o a q w n g' p'=>h v t o a q w n (g.trans g') (p.trans p')
theorem iD.bindE{o:Type}{r:R o}{k:o->ac->R aK}(h:iD K E b d F S H (r.bind k) D):Ok K E d F S H r (λa f m j l=>iD K E b d m j l (k a f) D):=by
 cases r with
 |no=>exact h
 |er c g=>exact λx t q s p n=>h x t q d s p n (jA.refl _ _)
 |ok a g=>exact λt q s p n=>h.from n (jA.refl _ _)
end
section
variable{X:Cx}{E:XK}{pin:List Nat}{l:bu}{rest:List bu}{d d1 d2:ac->R aK}{e:aD}{de:ac->R PV}{pos:Pos}
def bh:ac->R aK:=λε=>.ok .next ε
theorem cZ:iL X E pin [] bh:=λF S c a H D b h=>Ay J_ (h F S a H b (bO.refl ..) (jA.refl _ _))
def aw(d1 d2:ac->R aK):ac->R aK:=λε=>match d1 ε with
 |.ok .next ε1=>d2 ε1
 |r=>r
theorem aQ(t:DS X E pin l d1)(q:iL X E pin rest d2):iL X E pin (l::rest) (aw d1 d2):=λF S i m H D n h=>by
 refine Ay (IU DD qQ) (t F S i m H {D with nx:=qG X rest D} n ?_);unfold aw at h;split at h
 .rename_i g v;rw[v];exact λy w b x o u p=>q y w g b x D o (h.from u p)
 .rename_i r j;generalize d1 i=r1 at h j;cases r1 with
  |no=>exact h
  |er c a=>exact h
  |ok f a=>
   cases f with
   |next=>exact absurd rfl (j a)
   |brk=>exact h
   |cont=>exact h
   |ret s=>exact h
theorem bb(f:DS X E pin l d1):iL X E pin [l] d1:=λF S b a H D c h=>Ay (J2 DD) (f F S b a H D c h)
def A7(f:aK):ac->R aK:=λa=>.ok f a
def Qa(d:ac->R PV):ac->R aK:=λb=>(d b).bind λ_ a=>.ok .next a
def aW(d:ac->R PV):ac->R aK:=λε=>(d ε).bind λx ε1=>.ok (.ret (.val x)) ε1
theorem bO.cup{O c F i:ag->Prop}{H f:Hp}(g:bO O c F i H f):bO O (λb=>c b\/False) F i H f:=⟨g.fro,g.keep,g.there,g.fnew,λa h=>h.elim (g.onew a) lK⟩
theorem cm(j:DE X E e de):DS X E pin (.Return (aa e) pos) (aW de):=λF S c a H D g h=>ix (vX b_) (j F S c a H _ g (h.bindE.imp λx b p n o i q m v f=>m v p n a o (λ_=>False) i (bO.refl ..).cup (jA.refl _ _) ⟨f,λ_ z=>z⟩ λ_ z=>z.elim))
theorem Qn:DS X E pin (.Return ah pos) (A7 (.ret (.val .non))):=λF S c a H D b h=>ix QP (h _ F S a H (λ_=>False) b (bO.refl ..).cup (jA.refl _ _) ⟨rfl,λ_ z=>z⟩ λ_ z=>z.elim)
def oK(d:ac->R PO):ac->R aK:=λε=>(d ε).bind λx ε1=>.ok (.ret (.own x)) ε1
theorem Em{dn:ac->R PO}(t:DN X E e dn):DS X E pin (.Return (aa e) pos) (oK dn):=λF S j g H D p h=>by
 refine ix (vX b_) (t F S j g H _ p ?_);unfold oK at h;cases i:dn j with
 |no=>rw[i]at h;exact h.elim
 |er c o=>rw[i]at h;exact λx I A C r u=>h x I A g C r u (jA.refl _ _)
 |ok J n=>rw[i]at h;intro G y B q f a v s m;exact h _ G y g B v q ⟨f.fro,f.keep,f.there,f.fnew,λb z=>z.elim (f.onew b) λw=>.inr (m b w).1⟩ (jA.refl _ _) ⟨a,rfl,s⟩ λb z=>let ⟨_,x2,x3,x4⟩:=m b z;⟨x2,x3,x4⟩
def j8(i:Nat):ac->R aK:=λa=>match a[i]? with
 |some (.own b)=>.ok (.ret (.own b)) (a.set i .none)
 |_=>.no
theorem a_.drop{K:aA}{F:ag->Prop}{S:Nat->ag->Prop}{c:ac}{o:St}{H:Hp}(r:a_ K F S c o H)(i:Nat):a_ K F (λj b=>S j b/\j≠i) (c.set i .none) o H:=by
 have no:∀{j s},(c.set i .none)[j]?=aa s->s≠.none->j≠i/\c[j]?=aa s:=λ{j s} e t=>by
  by_cases f:i=j
  .subst f;by_cases u:i<c.length
   .rw[ge u]at e;exact absurd (fg e).symm t
   .rw[rQ (by rw[kl];lia)]at e;cases e
  .rw[eT f]at e;exact⟨fj f,e⟩
 refine⟨by rw[kl];exact r.len,r.ex,λj pv e=>r.val j pv (no e (by intro z;cases z)).2,λj g e=>?_,λj b h=>?_,λj k b n m=>r.dist j k b n.1 m.1⟩
 .obtain⟨f,e⟩:=no e (by intro z;cases z);obtain⟨a,n,m⟩:=r.own j g e;have v:(λb=>S j b/\j≠i)=S j:=by funext b;simp[f]
  exact⟨a,n,by rw[v];exact m⟩
 .obtain⟨⟨g,q⟩,p⟩:=r.foot j b h.1;exact⟨⟨g,by rw[eT (fj h.2)];exact q⟩,p⟩
theorem wL(i:Nat){x:Str}{p:Pos}(s:X.N[i]?=aa x:=by rfl)(n:gT X.env.scope x:=by eq_refl)(r:(x==("__debug__":Str))=aj:=by decide)(u:(x==("__classdict__":Str))=aj:=by decide):DS X E pin (.Return (aa (.Name x p)) pos) (j8 i):=λF S v f H D c h=>by
 unfold j8 at h;split at h
 .rename_i g e;obtain⟨a,t,m⟩:=c.own i g e;refine ix (vX (iQ s n r u)) ⟨_,t,h _ F (λj b=>S j b/\j≠i) f H (S i) (c.drop i) ⟨λ_ z=>z,λ_ _ z _=>z,λ_ o z=>⟨o,z⟩,λ_ z=>.inl z,λb z=>?_⟩ (jA.refl _ _) ⟨a,rfl,m⟩ λb z=>?_⟩
  .rcases z with⟨j,z,_⟩|z
   .exact .inl ⟨j,z⟩
   .exact .inl ⟨i,z⟩
  .exact⟨(c.foot i b z).2.1,λ⟨j,w,q⟩=>q (c.dist j i b w z),(c.foot i b z).2.2⟩
 .exact h.elim
theorem a_.set{K:aA}{F:ag->Prop}{S:Nat->ag->Prop}{ε:ac}{g:St}{H:Hp}{i:Nat}{pv:PV}{v:V}(r:a_ K F S ε g H)(h:bd K H F pv v):a_ K F (λj b=>S j b/\j≠i) (ε.set i (.val pv)) (g.set i (aa v)) H:=by
 have q:=r.drop i;have len:(ε.set i (.val pv)).length=(g.set i (aa v)).length:=by rw[kl,kl];exact r.len
 refine⟨len,r.ex,λj p e=>?_,λj m e=>?_,λj b h=>?_,q.dist⟩
 .by_cases c:i=j
  .subst c;have f:i<ε.length:=by have:=(eF.mp e).1;rw[kl]at this;exact this
   rw[ge f]at e;cases e;exact⟨v,ge (by rw[<-r.len];exact f),h⟩
  .rw[eT c]at e;obtain⟨w,o,n⟩:=r.val j p e;exact⟨w,by rw[eT c];exact o,n⟩
 .have c:i≠j:=by
   rintro rfl;have f:i<ε.length:=by have:=(eF.mp e).1;rw[kl]at this;exact this
   rw[ge f]at e;cases e
  rw[eT c]at e;obtain⟨a,o,n⟩:=r.own j m e;have u:(λb=>S j b/\j≠i)=S j:=by funext b;simp[fj c]
  exact⟨a,by rw[eT c];exact o,by rw[u];exact n⟩
 .obtain⟨⟨m,s⟩,t⟩:=q.foot j b h;refine⟨⟨m,?_⟩,t⟩;rw[eT (fj h.2)]at s ⊢;exact s
theorem bO.less{S:Nat->ag->Prop}{F:ag->Prop}{H:Hp}(i:Nat):bO (U S) (U λj b=>S j b/\j≠i) F F H H:=⟨λ_ z=>z,λ_ _ z _=>z,λ_ o z=>⟨o,z⟩,λ_ z=>.inl z,λb ⟨j,z⟩=>.inl ⟨j,z.1⟩⟩
theorem a_.setOwn{K:aA}{F:ag->Prop}{S:Nat->ag->Prop}{q:ac}{v:St}{H:Hp}{i:Nat}{s:PO}{a:ag}{n:ag->Prop}(r:a_ K F S q v H)(o:i<q.length)(h:fo K H F s a n)(t:xu F S H n):a_ K F (λj b=>(S j b/\j≠i)\/(j=i/\n b)) (q.set i (.own s)) (v.set i (aa (.ref a))) H:=by
 have A:=r.drop i;refine⟨by rw[kl,kl];exact r.len,r.ex,λj p e=>?_,λj g e=>?_,λj b h=>?_,λj k b f c=>?_⟩
 .have m:i≠j:=by rintro rfl;rw[ge o]at e;cases e
  rw[eT m]at e;obtain⟨w,f,c⟩:=r.val j p e;exact⟨w,by rw[eT m];exact f,c⟩
 .by_cases m:i=j
  .subst m;rw[ge o]at e;cases e;have u:(λb=>(S i b/\i≠i)\/(i=i/\n b))=n:=by funext b;simp
   exact⟨a,ge (by rw[<-r.len];exact o),by rw[u];exact h⟩
  .rw[eT m]at e;obtain⟨C,f,c⟩:=r.own j g e;have u:(λb=>(S j b/\j≠i)\/(j=i/\n b))=S j:=by funext b;simp[fj m]
   exact⟨C,by rw[eT m];exact f,by rw[u];exact c⟩
 .rcases h with h|⟨rfl,h⟩
  .obtain⟨⟨g,x⟩,B⟩:=A.foot j b h;refine⟨⟨g,?_⟩,B⟩;rw[eT (fj h.2)]at x ⊢;exact x
  .obtain⟨z,D,y⟩:=t b h;exact⟨⟨s,ge o⟩,z,y⟩
 .rcases f with f|⟨rfl,f⟩ <;> rcases c with c|⟨rfl,c⟩
  .exact r.dist j k b f.1 c.1
  .exact absurd ⟨j,f.1⟩ (t b c).2.1
  .exact absurd ⟨k,c.1⟩ (t b f).2.1
  .rfl
def aT(i:Nat)(d:ac->R PV):ac->R aK:=λε=>(d ε).bind λx ε1=>.ok .next (ε1.set i (.val x))
theorem cQ(i:Nat){x:Str}{p:Pos}(t:X.N.Nodup)(s:DE X E e de)(o:i∉pin:=by decide)(q:X.N[i]?=aa x:=by rfl)(m:Loc X.env.scope x:=by first|exact Or.inl rfl|exact Or.inr rfl)(n:kR e (aa (.Name x p)) pos.line X.env=pure aj:=by rfl)(r:X.fn x=ae\/X.env.scope.names.lookup x=aa .local:=by first|exact .inl rfl|exact .inr rfl):DS X E pin (.Assign [.Name x p] e pos) (aT i de):=λF S c a H D g h=>ix (GI t q m b_ n r) (s F S c a H _ g (h.bindE.imp λx b y A w j z u v f=>u y _ _ w (j.set f) (bO.less i) (jA.set o)))
def dS(i:Nat)(d:ac->R PO):ac->R aK:=λε=>(d ε).bind λx ε1=>if i<ε1.length then .ok .next (ε1.set i (.own x))else .no
theorem kI(i:Nat){x:Str}{p:Pos}{dn:ac->R PO}(J:X.N.Nodup)(I:DN X E e dn)(B:i∉pin:=by decide)(C:X.N[i]?=aa x:=by rfl)(y:Loc X.env.scope x:=by first|exact Or.inl rfl|exact Or.inr rfl)(A:kR e (aa (.Name x p)) pos.line X.env=pure aj:=by rfl)(G:X.fn x=ae\/X.env.scope.names.lookup x=aa .local:=by first|exact .inl rfl|exact .inr rfl):DS X E pin (.Assign [.Name x p] e pos) (dS i dn):=λF S q o H D t h=>by
 refine ix (GI J C y b_ A G) (I F S q o H _ t ?_);unfold dS at h;cases n:dn q with
 |no=>rw[n]at h;exact h.elim
 |er c s=>rw[n]at h;exact λx P L N v K=>h x P L o N v K (jA.refl _ _)
 |ok Q g=>
  rw[n]at h;simp only[R.bind_ok]at h;intro O W M u f a T w r;by_cases m:i<g.length
  .rw[if_pos m]at h;refine h O _ _ M (u.setOwn m w λb z=>(r b z).2) ⟨f.fro,f.keep,f.there,f.fnew,λb ⟨j,z⟩=>?_⟩ (jA.set B);rcases z with z|⟨_,z⟩
   .exact f.onew b ⟨j,z.1⟩
   .exact .inr (r b z).1
  .rw[if_neg m]at h;exact h.elim
theorem c0{c:aD}{a b:List bu}{t:ac->R Bool}(r:DT X E c t)(u:iL X E pin a d1)(s:iL X E pin b d2):DS X E pin (.If c a b pos) (aV t d1 d2):=λF S p g H D q h=>by
 refine ix (Qv nK qQ qQ) (r F S p g H _ q (h.bindE.imp λk f o m n i v j=>?_));cases k with
 |true=>exact mC (u o m f g n D i j)
 |false=>exact mq (s o m f g n D i j)
def zD:ac->R aK:=λ_=>.no
theorem GH{a:List bu}:iL X E pin a zD:=λ_ _ _ _ _ _ _ h=>h.elim
def dr(r:R aK):R aK:=match r with
 |.er _ _=>.no
 |r=>r
theorem j5(h:DS X.nox E0 pin l d):DS X E pin l (λa=>dr (d a)):=λF S a b H D i q=>Bx.mk λm s I=>by
 have q:iD X.K E pin b F S H (dr (d a)) D:=q;have j:iD X.K E0 pin b F S H (d a) D:=by
  cases e:d a with
  |no=>rw[e]at q;exact q
  |er c g=>rw[e]at q;exact q.elim
  |ok f g=>rw[e]at q;cases f <;> exact q
 exact gy ((h F S a b H D i j).run m s (I.wish _)) (λ_ _ z=>z.unwish) λ_ _ z=>z.elim
def lF(X:Cx)(f a:aD):TI:=λb H h=>Bx (∀c s,Inv X c b H s->ax (aH X.prog X.w) X.A (bq a X.env) (λv g=>ax (aH X.prog X.w) X.A (n6 v) (vI X c b f h) X.xe g) X.xe s)
theorem uy{b a:aD}:PI X b a (lF X b a):=λc s _ _ _ I h=>h.run c s I
theorem Lk{f a:aD}{t:TI}(h:PI X f a t){b:St}{H:Hp}{c:It->Hp->Prop}(q:t b H c):lF X f a b H c:=⟨λg s I=>h g s b H c I q⟩
def DI(X:Cx)(E:XK)(q a:aD)(d:ac->R (List PV)):Prop:=∀F S m c H n,a_ X.K F S m c H ->
 Ok X.K E c F S H (d m) (λg _ p r i=>∀J f o,Reps X.K i p g f->f.length<=bB->Walk J f o->(∀h j b,bO (U r) (U h) p j i b->o b)->n J i)->lF X q a c H n
def fM(i:Nat)(db:ac->R aK):List PV->ac->R aK
 |[],ε=>.ok .next ε
 |x::b,ε=>match db (ε.set i (.val x))with
  |.ok .next a=>fM i db b a
  |.ok .cont a=>fM i db b a
  |.ok .brk a=>.ok .next a
  |r=>r
def cj(i:Nat)(di:ac->R (List PV))(db:ac->R aK):ac->R aK:=λε=>(di ε).bind λxs ε1=>fM i db xs ε1
theorem iR(i:Nat){x:Str}{p:Pos}{o:aD}{r:List bu}{di:ac->R (List PV)}{G:ac->R aK}(P:Bp (aH X.prog X.w) X.A X.env X.xe)(hc:X.calm=ae)(hN:X.N.Nodup)(hi:DI X E (.Name x p) o di)(hb:iL X E pin r G)(hp:i∉pin:=by decide) (B:X.N[i]?=aa x:=by rfl) (Q:Loc X.env.scope x:=by first|exact Or.inl rfl|exact Or.inr rfl) (hs:∀x,lI o X.env x=pure x:=by intro _;rfl)(hf:X.fn x=ae\/X.env.scope.names.lookup x=aa .local:=by first|exact .inl rfl|exact .inr rfl):DS X E pin (.For (.Name x p) o r [] pos) (cj i di G):=λF S ε σ H D rl h=>by
 refine ix (M7 P hc uy (rh hN B Q hf) qQ hs) (hi F S ε σ H _ rl (h.bindE.imp λy K F1 S1 H1 r1 g1 h1 J vs RR Z hz hw z=>?_));refine OP hw (λk a n=>∃t u m,a_ X.K t u m a n/\bO (U S1) (U u) F1 t H1 n/\iD X.K E pin a t u n (fM i G (y.drop k) m) D) ⟨F1,S1,K,r1,bO.refl ..,h1⟩ (λk a n _ ⟨t,u,m,_,g,_⟩=>z u t n g) ?_ ?_
 .rintro k v a n hv ⟨t,u,m,N,C,q⟩;obtain⟨x,B,rx⟩:=Z.back hv;have hk:k<y.length:=(eF.mp B).1;have ed:y.drop k=x::y.drop (k+1):=by rw[HN hk];congr 1;exact(eF.mp B).2
  rw[ed]at q;have L:=rx.grow C r1.fit;have r2:=N.set (i:=i) L;have T:bO (U u) (U λj b=>u j b/\j≠i) t t n n:=bO.less i;show qG X r _ (a.set i (aa v)) n;refine hb t _ _ _ n _ r2 ?_;unfold fM at q;have q:=q.from T (jA.set (x:=aa v) hp);cases e:G (m.set i (.val x))with
  |no=>rw[e]at q;exact q
  |er c w=>rw[e]at q;exact q
  |ok f w=>
   rw[e]at q;cases f with
   |next=>exact λY W I H3 M A O=>⟨Y,W,w,M,(C.trans T).trans A,q.from A O⟩
   |cont=>exact λY W I H3 M A O=>⟨Y,W,w,M,(C.trans T).trans A,q.from A O⟩
   |brk=>exact q
   |ret s=>exact q
 .rintro a n ⟨t,u,m,N,C,q⟩;have Q:vs.length=y.length:=Z.len;rw[Q,HP]at q;exact q t u a n N (bO.refl ..) (jA.refl _ _)
def iF(t:ac->R Bool)(b:ac->R aK):Nat->ac->R aK
 |0,_=>.no
 |n+1,ε=>(t ε).bind λk ε1=>match k with
  |false=>.ok .next ε1
  |true=>match b ε1 with
   |.ok .next a=>iF t b n a
   |.ok .cont a=>iF t b n a
   |.ok .brk a=>.ok .next a
   |r=>r
theorem MK{c:aD}{n:List bu}{t:ac->R Bool}{j:ac->R aK}(P:ac->Nat)(G:Bp (aH X.prog X.w) X.A X.env X.xe)(W:DT X E c t)(Y:iL X E pin n j):DS X E pin (.While c n [] pos) (λv=>iF t j (P v) v):=λF S v σ H D Q h=>by
 refine ix (P4 G nK qQ) ⟨λm b u=>∃y x a,a_ X.K y x a b u/\iD X.K E pin b y x u (iF t j m a) D,⟨P v,F,S,v,Q,h⟩,?_⟩;rintro m i H1 ⟨F1,Z,A,T,q⟩;cases m with
 |zero=>exact q.elim
 |succ m=>
  refine W F1 Z A i H1 _ T (q.bindE.imp λk p N K L O g2 g=>?_);cases k with
  |false=>exact mq (g N K i L O (bO.refl ..) (jA.refl _ _))
  |true=>
   refine mC ⟨λb u=>∃y x a,a_ X.K y x a b u/\iD X.K E pin b y x u (iF t j m a) D,λb u w=>⟨m,k7 m,w⟩,Y N K p i L _ O ?_⟩;have g:iD X.K E pin i N K L (match j p with
    |.ok .next a=>iF t j m a
    |.ok .cont a=>iF t j m a
    |.ok .brk a=>.ok .next a
    |r=>r) D:=g
   cases e:j p with
   |no=>rw[e]at g;exact g
   |er c o=>rw[e]at g;exact g
   |ok f o=>
    rw[e]at g;cases f with
    |next=>exact λM J z H3 B I C=>⟨M,J,o,B,g.from I C⟩
    |cont=>exact λM J z H3 B I C=>⟨M,J,o,B,g.from I C⟩
    |brk=>exact g
    |ret s=>exact g
end
def xl(K:aA)(E:XK)(i:List V)(F:ag->Prop)(S:Nat->ag->Prop)(H:Hp)(r:R Slot)(Q:VK):Prop:=match r with
 |.ok s h=>∀v d f a g,a_ K d f h (i.map aa) a->bO (U S) (λb=>U f b\/g b) F d H a->t6 K a d s v g->xu d f a g->(∀b,g b->H b=ah)->Q v a
 |.er c h=>∀x d f a,a_ K d f h (i.map aa) a->bO (U S) (U f) F d H a->E c x a
 |.no=>False
def cn(K:aA)(g:ac->R Slot):Sp:=λa H Q E=>∃F S b,a_ K F S b (a.map aa) H/\xl K E a F S H (g b) Q
structure cN(CX:gR)(P:bv)(w:bc)(K:aA)(mg:Str->Option ak)(base:aJ)(x:Str)(k:Nat)(ps:List Str)(sp:Sp):Prop where
 ex:∃f fd,mg x=aa (.ref f)/\kw P w K mg base CX k f fd ps sp/\Binds K fd ps []/\uE K (.ref f)=ae
def back:ac->ac->Option ac
 |[],_=>aa []
 |.own _::a,.own c::b=>(back a b).map (.own c::·)
 |.own _::_,_=>ah
 |s::a,_::b=>(back a b).map (s::·)
 |_::_,[]=>ah
theorem ww:∀{a c b:ac},back a c=aa b->b.length=a.length/\∀(i:Nat) (s:Slot),b[i]?=aa s->(∃g f,a[i]?=aa (.own g)/\c[i]?=aa (.own f)/\s=.own f)\/(a[i]?=aa s/\∀g,s≠.own g)
 |[],_,b,h=>by cases h;exact⟨rfl,λi s e=>by simp at e⟩
 |.own g::a,.own f::c,b,h=>by
  unfold back at h;cases e:back a c with
  |none=>rw[e]at h;cases h
  |some r=>
   rw[e]at h;cases h;obtain⟨l,q⟩:=ww e;refine⟨by simp[l],λi s d=>?_⟩;cases i with
   |zero=>simp at d;subst d;exact .inl ⟨g,f,rfl,rfl,rfl⟩
   |succ i=>simpa using q i s (by simpa using d)
 |.own g::a,.none::c,b,h=>by cases h
 |.own g::a,.val _::c,b,h=>by cases h
 |.own g::a,[],b,h=>by cases h
 |.none::a,[],b,h=>by cases h
 |.val _::a,[],b,h=>by cases h
 |.none::a,x::c,b,h=>by
  have h:(back a c).map (Slot.none::·)=aa b:=by unfold back at h;cases x <;> exact h
  cases e:back a c with
  |none=>rw[e]at h;cases h
  |some r=>
   rw[e]at h;cases h;obtain⟨l,q⟩:=ww e;refine⟨by simp[l],λi s d=>?_⟩;cases i with
   |zero=>simp at d;subst d;exact .inr ⟨rfl,λ_ z=>by cases z⟩
   |succ i=>simpa using q i s (by simpa using d)
 |.val pv::a,x::c,b,h=>by
  have h:(back a c).map (Slot.val pv::·)=aa b:=by unfold back at h;cases x <;> exact h
  cases e:back a c with
  |none=>rw[e]at h;cases h
  |some r=>
   rw[e]at h;cases h;obtain⟨l,q⟩:=ww e;refine⟨by simp[l],λi s d=>?_⟩;cases i with
   |zero=>simp at d;subst d;exact .inr ⟨rfl,λ_ z=>by cases z⟩
   |succ i=>simpa using q i s (by simpa using d)
def bJ(n:Nat)(d:ac->R aK):ac->R Slot:=λf=>match d (f++cr n .none)with
 |.ok (.ret r) a=>(aO (back f a) []).bind λb _=>.ok r b
 |.ok .next a=>(aO (back f a) []).bind λb _=>.ok (.val .non) b
 |.er c a=>(aO (back f a) []).bind λb _=>.er c b
 |_=>.no
section
variable{K:aA}{F u:ag->Prop}{S o:Nat->ag->Prop}{c l m:ac}{f:St}{H t:Hp}{d:List V}
theorem a_.start(r:a_ K F S c (d.map aa) H)(n:Nat):a_ K F S (c++cr n .none) (d.map aa++cr n ah) H:=by
 have x:c.length=(d.map aa).length:=r.len;have no:∀{j:Nat}{s:Slot},(c++cr n Slot.none)[j]?=aa s->s≠.none->c[j]?=aa s:=λ{j s} e w=>by
  by_cases y:j<c.length
  .rw[i7 y]at e;exact e
  .rw[rm ∅,List.getElem?_replicate]at e;split at e
   .exact absurd (fg e).symm w
   .cases e
 have up:∀{j:Nat}{v:Option V},(d.map aa)[j]?=aa v->(d.map aa++cr n ah)[j]?=aa v:=λ{j v} e=>by rw[i7 (eF.mp e).1];exact e
 refine⟨by simp[x],r.ex,λj pv e=>?_,λj a e=>?_,λj b h=>?_,r.dist⟩
 .obtain⟨v,i,g⟩:=r.val j pv (no e (by intro z;cases z));exact⟨v,up i,g⟩
 .obtain⟨v,i,g⟩:=r.own j a (no e (by intro z;cases z));exact⟨v,up i,g⟩
 .obtain⟨⟨a,q⟩,p⟩:=r.foot j b h;exact⟨⟨a,by rw[i7 (eF.mp q).1];exact q⟩,p⟩
theorem DJ{i:PO}{a:ag}{n:ag->Prop}(h:fo K H F i a n)(j:iT i=ae):∀b,n b↔b=a:=by
 cases i with
 |lst p=>exact h.2
 |dK g=>exact h.2
 |lls q=>cases j
 |ins C fs=>exact h.2
 |dT g=>exact h.2
 |dN g=>exact h.2
 |inl C fs y p=>cases j
theorem L3{g:PO}{a:ag}{i:ag->Prop}(h:fo K H F g a i):i a:=by
 cases g with
 |lst j=>exact(h.2 a).mpr rfl
 |dK b=>exact(h.2 a).mpr rfl
 |lls n=>obtain⟨p,_,_,_,_,w⟩:=h;exact(w a).mpr (.inl rfl)
 |ins C fs=>exact(h.2 a).mpr rfl
 |dT b=>exact(h.2 a).mpr rfl
 |dN b=>exact(h.2 a).mpr rfl
 |inl C fs y j=>obtain⟨_,_,_,_,_,_,_,_,_,_,w⟩:=h;exact(w a).mpr (.inl rfl)
theorem a_.back{X:ag->Prop}{C:List Nat}{n:Nat}(B:a_ K F S c (d.map aa) H)(r:a_ K u o l f t)(g:bO (U S) X F u H t)(p:jA C (d.map aa++cr n ah) f)(P:∀(i:Nat) (s:PO),c[i]?=aa (.own s)->i∈C)(Q:back c l=aa m):∃A,a_ K u A m (d.map aa) t/\(∀b,U A b->U o b)/\((∀(i:Nat) (s:PO),c[i]?=aa (.own s)->iT s=ae)->∀b,U S b->U A b):=by
 obtain⟨L,E⟩:=ww Q;have inj:∀(i:Nat) (s:PO),c[i]?=aa (.own s)->∃a,(d.map aa)[i]?=aa (aa (.ref a))/\f[i]?=aa (aa (.ref a))/\fo K H F s a (S i):=λi s e=>by obtain⟨a,x,y⟩:=B.own i s e;refine⟨a,x,?_,y⟩;rw[p i (P i s e),i7 (eF.mp x).1];exact x
 have bk:∀(i:Nat) (s:PO),c[i]?=aa (.own s)->∃w,m[i]?=aa (.own w)/\l[i]?=aa (.own w):=λi s e=>by
  have M:i<m.length:=by rw[L];exact(eF.mp e).1
  rcases E i m[i] (by simp[M])with⟨p1,p2,q1,q2,q3⟩|⟨q1,q2⟩
  .exact⟨p2,by rw[fO M,q3],q2⟩
  .rw[e]at q1;exact absurd (fg q1).symm (q2 s)
 refine⟨λi b=>o i b/\∃s,c[i]?=aa (.own s),⟨by rw[L];exact B.len,r.ex,λi pv e=>?_,λi s e=>?_,λi b h=>?_,λi j b x y=>r.dist i j b x.1 y.1⟩,λb ⟨i,h⟩=>⟨i,h.1⟩,λO b ⟨i,h⟩=>?_⟩
 .rcases E i _ e with⟨_,_,_,_,z⟩|⟨q1,_⟩
  .cases z
  .obtain⟨v,x,y⟩:=B.val i pv q1;exact⟨v,x,y.grow g B.fit⟩
 .rcases E i _ e with⟨p1,p2,q1,q2,q3⟩|⟨_,q2⟩
  .cases q3;obtain⟨a,x,y,N⟩:=inj i p1 q1;obtain⟨W,D,G⟩:=r.own i s q2;rw[y]at D;cases D;refine⟨a,x,?_⟩;have T:(λb=>o i b/\∃s,c[i]?=aa (.own s))=o i:=by funext b;exact propext ⟨λz=>z.1,λz=>⟨z,p1,q1⟩⟩
   rw[T];exact G
  .exact absurd rfl (q2 s)
 .obtain⟨s,q⟩:=h.2;obtain⟨w,J,I⟩:=bk i s q;exact⟨⟨w,J⟩,(r.foot i b h.1).2⟩
 .obtain⟨⟨s,q⟩,_⟩:=B.foot i b h;obtain⟨a,x,y,N⟩:=inj i s q;obtain⟨w,J,I⟩:=bk i s q;obtain⟨W,D,G⟩:=r.own i w I;rw[y]at D;cases D;have e:b=a:=(DJ N (O i s q) b).mp h;exact⟨i,e ▸ L3 G,s,q⟩
end
theorem xb{K:aA}{E:XK}{a:List V}{F:ag->Prop}{S:Nat->ag->Prop}{H:Hp}{r:R Slot}{Q:VK}(h:xl K E a F S H r Q):r≠.no:=λz=>by rw[z]at h;exact h
theorem JH{K:aA}{g:ac->R Slot}{m:Nat}(f:∀a,g a≠.no->a.length=m):∀b H Q E,cn K g b H Q E->b.length=m:=λb H Q E ⟨F,S,a,c,ok⟩=>by have:=f a (xb ok);have d:=c.len;rw[b0]at d;lia
theorem QK{X:Cx}{E:XK}{t:List bu}{N P:List Str}{s:List V}{H:Hp}{Q:VK}{n:Nat}{g:ac->R Slot}{d:ac->R aK}{y:List Nat}(hn:N.length=P.length+n)(bH:∀a,g a≠.no->a.length=P.length) (lS:∀a,g a≠.no->∀(i:Nat) po,a[i]?=aa (.own po)->i∈y) (Y:∀a p m,g a=.ok p m->(∃pv,p=.val pv)\/∀(i:Nat) po,a[i]?=aa (.own po)->iT po=ae) (hg:∀a,g a≠.no->bJ n d a=g a)(hb:iL X E y t d) (Z:cn X.K g s H Q E):qG X t {nx:=λ_ l=>Q .non l,rt:=Q} (L2.start N s) H:=by
 obtain⟨F,S,a,K,ok⟩:=Z;have hl:=bH a (xb ok);have h2:=K.len;rw[b0]at h2;have es:L2.start N s=s.map aa++cr n ah:=by unfold L2.start;rw[show N.length-s.length=n by lia]
 rw[es];refine hb F S _ _ H _ (K.start n) ?_;have W:=lS a (xb ok);have O:=hg a (xb ok);have J:=Y a;rw[<-O]at ok J;unfold bJ at ok J;generalize d (a++cr n .none)=r at ok J ⊢;cases r with
 |no=>exact ok
 |er c h=>
  intro x q B j l C f D;have ok:xl X.K E s F S H ((aO (back a h) []).bind λm _=>.er c m) Q:=ok;cases e:back a h with
  |none=>rw[e]at ok;exact ok.elim
  |some m=>rw[e]at ok;obtain⟨A,u,o,_⟩:=K.back C f D W e;exact ok x q A l u ⟨f.fro,f.keep,f.there,f.fnew,λb z=>f.onew b (o b z)⟩
 |ok fl h=>
  have G:∀(p:Slot),(∀m,back a h=aa m->(∃pv,p=.val pv)\/∀(i:Nat) po,a[i]?=aa (.own po)->iT po=ae)->xl X.K E s F S H ((aO (back a h) []).bind λm _=>.ok p m) Q->∀(v:V) q B j l I,a_ X.K q B h j l->bO (U S) (λb=>U B b\/I b) F q H l->jA y (s.map aa++cr n ah) j->t6 X.K l q p v I->xu q B l I->Q v l:=by
   intro p M ok v q B j l I C f D T L;cases e:back a h with
   |none=>rw[e]at ok;exact ok.elim
   |some m=>
    rw[e]at ok;obtain⟨A,u,o,up⟩:=K.back C f D W e;refine ok v q A l I u ⟨f.fro,f.keep,f.there,f.fnew,λb z=>f.onew b (z.imp (o b) id)⟩ T (λb z=>⟨(L b z).1,λw=>(L b z).2.1 (o b w),(L b z).2.2⟩) λb z=>?_;rcases M m e with⟨pv,rfl⟩|hf
    .exact absurd z (T.2 b)
    rcases f.onew b (.inr z)with w|w
    .exact absurd (o b (up hf b w)) (L b z).2.1
    .exact w
  cases fl with
  |brk=>exact ok.elim
  |cont=>exact ok.elim
  |ret p=>exact G p (λm e=>J p m (by show(aO (back a h) []).bind _=_;rw[e];rfl)) ok
  |next=>exact λq B j l C f D=>G (.val .non) (λ_ _=>.inl ⟨_,rfl⟩) ok .non q B j l (λ_=>False) C ⟨f.fro,f.keep,f.there,f.fnew,λb z=>z.elim (f.onew b) lK⟩ D ⟨rfl,λ_ z=>z⟩ λ_ z=>z.elim
theorem Jw{f:ag}{p:iH}{C:gR}{P:bv}{w:bc}{K:aA}{u:Str->Option ak}{j:aJ}{x b:Str}{h:bu}{N l:List Str}{k n:Nat}{g:ac->R Slot}{d:ac->R aK}{m:List Nat}(Y:oX K x b h f p)(X:cC N l (a8 h))(O:N.length=l.length+n)(hb:∀(kV o t:ak) (B:Option ag) (y v:ak) (q:List ak),q.length=l.length->g_ (ke x b (kB h) (iE h) (a8 h) .none kV o t B y v) ⟨q,[]⟩=pure (l.zip q))(z:∀c,g c≠.no->c.length=l.length) (J:∀c,g c≠.no->∀(i:Nat) po,c[i]?=aa (.own po)->i∈m) (F:∀c r W,g c=.ok r W->(∃pv,r=.val pv)\/∀(i:Nat) po,c[i]?=aa (.own po)->iT po=ae) (S:∀c,g c≠.no->bJ n d c=g c)(L:∀(A:bG) (a:List Env) (s:aq) (H:Hp) (E:XK),gF k (A.deeper (kc b (a8 h) s.heap.objs.size f p.code))->iL (jG C P w K u j N b (a8 h) f p.code A a s H E) E m (iE h) d):kw P w K u j C (k+1) f p l (cn K g):=by obtain⟨oc,od,kV,o,t,B,y,v,D,rfl,G,T⟩:=Y.ex;exact IN G T X (JH z) λA a s H Z Q E M I=>⟨_,qQ,QK O z J F S (L A a s H E M) I⟩
theorem EO{f:ag}{t:iH}{z:gR}{P:bv}{w:bc}{K:aA}{v:Str->Option ak}{l:aJ}{x b:Str}{j:bu}{N m:List Str}{k n:Nat}{g:ac->R Slot}{d:ac->R aK}{p:List Nat}(O:oX K x b j f t)(M:cC N m (a8 j))(D:N.length=m.length+n)(G:∀(kV u B:ak) (L:Option ag) (q I:ak) (r:List ak),r.length=m.length->g_ (ke x b (kB j) (iE j) (a8 j) .none kV u B L q I) ⟨r,[]⟩=pure (m.zip r))(J:∀c,g c≠.no->c.length=m.length) (y:∀c,g c≠.no->∀(i:Nat) o,c[i]?=aa (.own o)->i∈p/\iT o=ae) (F:∀c,g c≠.no->bJ n d c=g c)(C:∀(f:ag) (q:ak) (A:bG) (a:List Env) (s:aq) (H:Hp) (E:XK),gF k (A.deeper (kc b (a8 j) s.heap.objs.size f q))->iL (jG z P w K v l N b (a8 j) f q A a s H E) E p (iE j) d):kw P w K v l z (k+1) f t m (cn K g):=Jw O M D G J (λc h i o e=>(y c h i o e).1) (λc Q S h=>.inr λi o e=>(y c (by rw[h];exact nofun) i o e).2) F λA a s H E=>C f t.code A a s H E
theorem Q4{u:gR}{P:bv}{w:bc}{K:aA}{p:Str->Option ak}{c:aJ}{x:Str}{b:bu}{N j:List Str}{k n:Nat}{g:ac->R Slot}{d:ac->R aK}{l:List Nat}(D:cM K p x b)(M:cC N j (a8 b))(B:N.length=j.length+n)(t:∀(kV q v:ak) (L:Option ag) (m I:ak) (o:List ak),o.length=j.length->g_ (ke x x (kB b) (iE b) (a8 b) .none kV q v L m I) ⟨o,[]⟩=pure (j.zip o))(J:∀a,g a≠.no->a.length=j.length) (y:∀a,g a≠.no->∀(i:Nat) po,a[i]?=aa (.own po)->i∈l/\iT po=ae) (F:∀a,g a≠.no->bJ n d a=g a)(z:∀(f:ag) (m:ak) (A:bG) (h:List Env) (s:aq) (H:Hp) (E:XK),gF k (A.deeper (kc x (a8 b) s.heap.objs.size f m))->iL (jG u P w K p c N x (a8 b) f m A h s H E) E l (iE b) d):cN u P w K p c x (k+1) j (cn K g):=by obtain⟨f,G,C,r⟩:=D.ex;exact⟨f,G,C,EO r M B t J y F z,r.binds t,r.kp⟩
abbrev cJ:=Sum PV Nat
def iM(K:aA)(b:St)(F:ag->Prop)(H:Hp):List cJ->List V->Prop
 |[],a=>a=[]
 |.inl pv::c,a=>∃v r,a=v::r/\bd K H F pv v/\iM K b F H c r
 |.inr i::c,a=>∃v r,a=v::r/\b[i]?=aa (aa v)/\iM K b F H c r
def DG(X:Cx)(E:XK)(g:List aD)(d:ac->R (List cJ)):Prop :=
 ∀F S b a H Q,a_ X.K F S b a H->Ok X.K E a F S H (d b) (λh _ i _ f=>∀c,iM X.K a i f h c->Q c f)->oM X g a H Q
section
variable{X:Cx}{E:XK}{e:aD}{b:List aD}{de:ac->R PV}{c:ac->R (List cJ)}{f:Pos}
def br:ac->R (List cJ):=λε=>.ok [] ε
def gV(d:ac->R PV)(c:ac->R (List cJ)):ac->R (List cJ):=λε=>(d ε).bind λx ε1=>(c ε1).bind λxs a=>.ok (.inl x::xs) a
def gO(i:Nat)(c:ac->R (List cJ)):ac->R (List cJ):=λε=>match ε[i]? with
 |some (.own _)=>(c ε).bind λxs a=>.ok (.inr i::xs) a
 |_=>.no
theorem bw:DG X E [] br:=λF S g d H Q a h=>oV lw (h F S H a (bO.refl ..) _ rfl)
theorem Kc(s:DE X E e de)(r:DG X E b c)(q:bo (e::b) X.env=(aj,bq e X.env)::bo b X.env:=by rfl):DG X E (e::b) (gV de c):=λF S j d H Q n h=>by refine oV (jH b_ ik q) (s F S j d H _ n ((Ok.bind h).imp λx a D z B g I u v m=>?_));refine r D z a d B _ g ((Ok.bind u).imp λG i C y A o w t l p=>?_);exact t C y A o (bO.refl ..) _ ⟨v,l,rfl,m.grow w g.fit,p⟩
theorem eQ(i:Nat){x:Str}{p:Pos}(u:DG X E b c)(w:X.N[i]?=aa x:=by rfl)(s:gT X.env.scope x:=by eq_refl)(v:(x==("__debug__":Str))=aj:=by decide)(z:(x==("__classdict__":Str))=aj:=by decide) (t:bo (.Name x p::b) X.env=(aj,bq (.Name x p) X.env)::bo b X.env:=by rfl):DG X E (.Name x p::b) (gO i c):=λF S m j H Q d h=>by
 unfold gO at h;split at h
 .rename_i q e;obtain⟨a,g,_⟩:=d.own i q e;refine oV (jH (iQ w s v z) ik t) ⟨_,g,u F S m j H _ d ((Ok.bind h).imp λD l C A B o G y n r=>?_)⟩;exact y C A B o (bO.refl ..) _ ⟨_,n,rfl,g,r⟩
 .exact h.elim
end
def cK(ε:ac):List cJ->Option ac
 |[]=>aa []
 |.inl pv::a=>(cK ε a).map (.val pv::·)
 |.inr i::a=>match ε[i]? with
  |some (.own b)=>(cK ε a).map (.own b::·)
  |_=>ah
def cY:ac->List cJ->ac->ac
 |ε,.inl _::b,_::a=>cY ε b a
 |ε,.inr i::b,s::a=>cY (ε.set i s) b a
 |ε,_,_=>ε
def bX:List cJ->List Nat
 |[]=>[]
 |.inl _::as=>bX as
 |.inr i::as=>i::bX as
theorem Ek:∀{as:List cJ}{i:Nat},i∈bX as↔∃k:Nat,as[k]?=aa (.inr i)
 |[],i=>by simp[bX]
 |.inl _::as,i=>by
  unfold bX;rw[Ek];constructor
  .rintro⟨k,h⟩;exact⟨k+1,by simpa using h⟩
  .rintro⟨k,h⟩;cases k with
   |zero=>simp at h
   |succ k=>exact⟨k,by simpa using h⟩
 |.inr j::as,i=>by
  unfold bX;rw[bA,Ek];constructor
  .rintro(rfl|⟨k,h⟩)
   .exact⟨0,rfl⟩
   .exact⟨k+1,by simpa using h⟩
  .rintro⟨k,h⟩;cases k with
   |zero=>simp at h;exact .inl h.symm
   |succ k=>exact .inr ⟨k,by simpa using h⟩
theorem wQ{d:ac}:∀{a:List cJ}{c:ac},cK d a=aa c->c.length=a.length/\∀(k:Nat) (s:Slot),c[k]?=aa s->(∃pv,a[k]?=aa (.inl pv)/\s=.val pv)\/∃i f,a[k]?=aa (.inr i)/\d[i]?=aa (.own f)/\s=.own f
 |[],c,h=>by cases h;exact⟨rfl,λk s e=>by simp at e⟩
 |.inl pv::a,c,h=>by
  unfold cK at h;cases e:cK d a with
  |none=>rw[e]at h;cases h
  |some r=>
   rw[e]at h;cases h;obtain⟨l,q⟩:=wQ e;refine⟨by simp[l],λk s b=>?_⟩;cases k with
   |zero=>simp at b;exact .inl ⟨pv,rfl,b.symm⟩
   |succ k=>simpa using q k s (by simpa using b)
 |.inr i::a,c,h=>by
  unfold cK at h;split at h
  .rename_i f g;cases e:cK d a with
   |none=>rw[e]at h;cases h
   |some r=>
    rw[e]at h;cases h;obtain⟨l,q⟩:=wQ e;refine⟨by simp[l],λk s b=>?_⟩;cases k with
    |zero=>simp at b;exact .inr ⟨i,f,rfl,g,b.symm⟩
    |succ k=>simpa using q k s (by simpa using b)
  .cases h
theorem vT:∀(c:List cJ) (a b:ac),(cY a c b).length=a.length
 |[],a,b=>by cases b <;> rfl
 |.inl _::c,a,[]=>rfl
 |.inr _::c,a,[]=>rfl
 |.inl _::c,a,s::b=>vT c a b
 |.inr i::c,a,s::b=>by show(cY (a.set i s) c b).length=_;rw[vT,kl]
theorem qW:∀(a:List cJ) (b c:ac) (j:Nat),j∉bX a->(cY b a c)[j]?=b[j]?
 |[],b,c,j,_=>by cases c <;> rfl
 |.inl _::a,b,[],j,_=>rfl
 |.inr _::a,b,[],j,_=>rfl
 |.inl _::a,b,s::c,j,h=>qW a b c j h
 |.inr i::a,b,s::c,j,h=>by
  have d:¬(j=i\/j∈bX a):=by simpa[bX]using h
  show(cY (b.set i s) a c)[j]?=_;rw[qW a _ c j λz=>d (.inr z),eT λz=>d (.inl z.symm)]
theorem sv:∀(a:List cJ) (b c:ac) (j k:Nat) (s:Slot),(bX a).Nodup->j<b.length->a[k]?=aa (.inr j)->c[k]?=aa s->(cY b a c)[j]?=aa s
 |[],b,c,j,k,s,_,_,h,_=>by simp at h
 |_::a,b,[],j,k,s,_,_,_,h=>by simp at h
 |.inl _::a,b,t::c,j,0,s,_,_,h,_=>by simp at h
 |.inl _::a,b,t::c,j,k+1,s,nd,hj,h,g=>sv a b c j k s nd hj (by simpa using h) (by simpa using g)
 |.inr i::a,b,t::c,j,0,s,nd,hj,h,g=>by simp at h g;subst h g;have d:i∉bX a:=(jT.mp nd).1;show(cY (b.set i t) a c)[i]?=_;rw[qW a _ c i d,ge hj]
 |.inr i::a,b,t::c,j,k+1,s,nd,hj,h,g=>sv a (b.set i t) c j k s (jT.mp nd).2 (by rw[kl];exact hj) (by simpa using h) (by simpa using g)
theorem iM.len{K:aA}{c:St}{F:ag->Prop}{H:Hp}:∀{a:List cJ}{b:List V},iM K c F H a b->b.length=a.length
 |[],_,h=>by rw[show _=[] from h];rfl
 |.inl _::a,_,⟨v,r,e,_,h⟩=>by rw[e,eY,eY,iM.len h]
 |.inr _::a,_,⟨v,r,e,_,h⟩=>by rw[e,eY,eY,iM.len h]
theorem iM.val{K:aA}{d:St}{F:ag->Prop}{H:Hp}:∀{as:List cJ}{c:List V}{k:Nat}{pv:PV},iM K d F H as c->as[k]?=aa (.inl pv)->∃v,c[k]?=aa v/\bd K H F pv v
 |[],_,k,_,_,e=>by simp at e
 |.inl x::as,_,0,pv,⟨v,r,e,h,_⟩,q=>by simp at q;subst q e;exact⟨v,rfl,h⟩
 |.inr _::as,_,0,pv,_,q=>by simp at q
 |.inl x::as,_,k+1,pv,⟨v,r,e,_,h⟩,q=>by obtain⟨w,a,b⟩:=iM.val (k:=k) h (by simpa using q);subst e;exact⟨w,by simpa using a,b⟩
 |.inr x::as,_,k+1,pv,⟨v,r,e,_,h⟩,q=>by obtain⟨w,a,b⟩:=iM.val (k:=k) h (by simpa using q);subst e;exact⟨w,by simpa using a,b⟩
theorem iM.own{K:aA}{c:St}{F:ag->Prop}{H:Hp}:∀{as:List cJ}{d:List V}{k i:Nat},iM K c F H as d->as[k]?=aa (.inr i)->∃v,d[k]?=aa v/\c[i]?=aa (aa v)
 |[],_,k,_,_,e=>by simp at e
 |.inr x::as,_,0,pv,⟨v,r,e,h,_⟩,q=>by simp at q;subst q e;exact⟨v,rfl,h⟩
 |.inl _::as,_,0,pv,_,q=>by simp at q
 |.inl x::as,_,k+1,pv,⟨v,r,e,_,h⟩,q=>by obtain⟨w,a,b⟩:=iM.own (k:=k) h (by simpa using q);subst e;exact⟨w,by simpa using a,b⟩
 |.inr x::as,_,k+1,pv,⟨v,r,e,_,h⟩,q=>by obtain⟨w,a,b⟩:=iM.own (k:=k) h (by simpa using q);subst e;exact⟨w,by simpa using a,b⟩
section
variable{K:aA}{F y:ag->Prop}{S m:Nat->ag->Prop}{c s f:ac}{t:St}{H u:Hp}{as:List cJ}{d:List V}
def lx(as:List cJ)(S:Nat->ag->Prop)(k:Nat)(b:ag):Prop:=∃i,as[k]?=aa (.inr i)/\S i b
theorem wA(b:ag)(h:U (lx as S) b):U S b:=let ⟨_,i,_,h⟩:=h;⟨i,h⟩
theorem xI:∀{as:List cJ}{i k l:Nat},(bX as).Nodup->as[k]?=aa (.inr i)->as[l]?=aa (.inr i)->k=l
 |[],_,_,_,_,h,_=>by simp at h
 |.inl _::as,i,0,_,_,h,_=>by simp at h
 |.inl _::as,i,_,0,_,_,h=>by simp at h
 |.inl _::as,i,k+1,l+1,nd,h1,h2=>by rw[xI (as:=as) (i:=i) (k:=k) (l:=l) nd (by simpa using h1) (by simpa using h2)]
 |.inr j::as,i,0,0,_,_,_=>rfl
 |.inr j::as,i,0,l+1,nd,h1,h2=>by simp at h1;subst h1;exact absurd (Ek.mpr ⟨l,by simpa using h2⟩) (jT.mp nd).1
 |.inr j::as,i,k+1,0,nd,h1,h2=>by simp at h2;subst h2;exact absurd (Ek.mpr ⟨k,by simpa using h1⟩) (jT.mp nd).1
 |.inr j::as,i,k+1,l+1,nd,h1,h2=>by rw[xI (as:=as) (i:=i) (k:=k) (l:=l) (jT.mp nd).2 (by simpa using h1) (by simpa using h2)]
theorem a_.cal(r:a_ K F S c t H)(B:iM K t F H as d)(I:cK c as=aa s)(G:(bX as).Nodup):a_ K F (lx as S) s (d.map aa) H:=by
 obtain⟨D,A⟩:=wQ I;have up:∀{k:Nat}{v:V},d[k]?=aa v->(d.map aa)[k]?=aa (aa v):=λ{k v} e=>by rw[iI,e];rfl
 refine⟨by rw[D,b0,B.len],r.ex,λk pv e=>?_,λk C e=>?_,λk b h=>?_,λk l b g o=>?_⟩
 .rcases A k _ e with⟨p,q1,n⟩|⟨_,_,_,_,z⟩
  .cases n;obtain⟨v,x,w⟩:=B.val q1;exact⟨v,up x,w⟩
  .cases z
 .rcases A k _ e with⟨_,_,z⟩|⟨i,p,q1,n,q3⟩
  .cases z
  .cases q3;obtain⟨v,x,w⟩:=B.own q1;obtain⟨a,b1,b2⟩:=r.own i C n;rw[w]at b1;cases b1;have J:lx as S k=S i:=by
    funext b;exact propext ⟨λ⟨j,g,o⟩=>by rw[q1]at g;cases g;exact o,λh=>⟨i,q1,h⟩⟩
   exact⟨a,up x,by rw[J];exact b2⟩
 .obtain⟨i,g,o⟩:=h;obtain⟨⟨C,q⟩,n⟩:=r.foot i b o;have E:k<s.length:=by rw[D];exact(eF.mp g).1
  refine⟨?_,n⟩;rcases A k s[k] (by simp[E])with⟨_,z,_⟩|⟨j,p,z1,z2,z3⟩
  .rw[g]at z;cases z
  .exact⟨p,by rw[fO E,z3]⟩
 .obtain⟨i,x,w⟩:=g;obtain⟨j,b1,b2⟩:=o;have:=r.dist i j b w b2;subst this;exact xI G x b1
theorem a_.called{O':ag->Prop}(r:a_ K F S c t H)(ha:iM K t F H as d)(hs:cK c as=aa s)(P:(bX as).Nodup)(N:a_ K y m f (d.map aa) u)(g:bO (U (lx as S)) O' F y H u)(hO:∀b,U m b->O' b)(L:∀(k:Nat) i,as[k]?=aa (.inr i)->∃C,f[k]?=aa (.own C)):∃Y,a_ K y Y (cY c as f) t u/\bO (U S) (U Y) F y H u/\∀b,U Y b->U m b\/U S b:=by
 have up:∀{k:Nat}{v:V},(d.map aa)[k]?=aa (aa v)->d[k]?=aa v:=λ{k v} e=>by
  rw[iI]at e;cases q:d[k]? with
  |none=>rw[q]at e;cases e
  |some x=>rw[q]at e;cases e;rfl
 have fit:mv (U (lx as S)) F H:=λb h=>r.fit b (wA b h);have J:∀i C,c[i]?=aa (.own C)->i<c.length:=λi C e=>(eF.mp e).1;have lt:∀(k:Nat) i,as[k]?=aa (.inr i)->i<c.length:=λk i e=>by
  obtain⟨hl,hg⟩:=wQ hs;have D:k<s.length:=by rw[hl];exact(eF.mp e).1
  rcases hg k s[k] (by simp[D])with⟨_,z,_⟩|⟨j,p,z1,z2,z3⟩
  .rw[e]at z;cases z
  .rw[e]at z1;cases z1;exact J _ _ z2
 refine⟨λj b=>(∃k:Nat,as[k]?=aa (.inr j)/\m k b)\/(j∉bX as/\S j b),⟨by rw[vT];exact r.len,N.ex,λj pv e=>?_,λj C e=>?_,λj b h=>?_,λi j b A B=>?_⟩,⟨g.fro,λb o e n=>g.keep b o e λz=>n (wA b z),g.there,λa z=>(g.fnew a z).imp id λw=>w.imp id (wA a),λb ⟨j,z⟩=>?_⟩,λb ⟨j,z⟩=>?_⟩
 .by_cases G:j∈bX as
  .obtain⟨k,D⟩:=Ek.mp G;obtain⟨C,q⟩:=L k j D;rw[sv as c f j k _ P (lt k j D) D q]at e;cases e
  .rw[qW as c f j G]at e;obtain⟨v,A,B⟩:=r.val j pv e;exact⟨v,A,B.grow g fit⟩
 .by_cases G:j∈bX as
  .obtain⟨k,D⟩:=Ek.mp G;obtain⟨po',q⟩:=L k j D;rw[sv as c f j k _ P (lt k j D) D q]at e;cases e;obtain⟨a,A,B⟩:=N.own k C q;obtain⟨v,Q,X⟩:=ha.own D;rw[up A]at Q;cases Q;have W:(λb=>(∃k:Nat,as[k]?=aa (.inr j)/\m k b)\/(j∉bX as/\S j b))=m k:=by
    funext b;refine propext ⟨λz=>?_,λz=>.inl ⟨k,D,z⟩⟩;rcases z with⟨l,z1,z2⟩|⟨z,_⟩
    .rw[xI P D z1];exact z2
    .exact absurd G z
   exact⟨a,X,by rw[W];exact B⟩
  .rw[qW as c f j G]at e;obtain⟨a,A,B⟩:=r.own j C e;have W:(λb=>(∃k:Nat,as[k]?=aa (.inr j)/\m k b)\/(j∉bX as/\S j b))=S j:=by
    funext b;refine propext ⟨λz=>?_,λz=>.inr ⟨G,z⟩⟩;rcases z with⟨l,z1,z2⟩|⟨_,z⟩
    .exact absurd (Ek.mpr ⟨l,z1⟩) G
    .exact z
   have h3:fo K u y C a (S j):=by refine B.mono (λ_ _ q=>q.grow g fit) (λ_ _ q=>q.grow g fit) λb o z q=>g.keep b o q λ⟨l,i,M,I⟩=>?_;have:=r.dist i j b I z;subst this;exact G (Ek.mpr ⟨l,M⟩)
   exact⟨a,A,by rw[W];exact h3⟩
 .rcases h with⟨k,A,B⟩|⟨A,B⟩
  .obtain⟨⟨C,q⟩,T⟩:=N.foot k b B;exact⟨⟨C,sv as c f j k _ P (lt k j A) A q⟩,T⟩
  .obtain⟨⟨C,q⟩,T,o,O,q4⟩:=r.foot j b B;have no:¬U (lx as S) b:=λ⟨l,i,M,I⟩=>by have:=r.dist i j b I B;subst this;exact A (Ek.mpr ⟨l,M⟩)
   refine⟨⟨C,by rw[qW as c f j A];exact q⟩,λz=>?_,o,g.keep b o O no,q4⟩;rcases g.fnew b z with w|w|w
   .exact T w
   .rw[O]at w;cases w
   .exact no w
 .have E:∀{i j:Nat}{b:ag},(∃k:Nat,as[k]?=aa (.inr i)/\m k b)->(j∉bX as/\S j b)->False:=λ{i j b} ⟨k,M,I⟩ ⟨w3,Z⟩=>by
   obtain⟨_,_,o,O,_⟩:=r.foot j b Z;rcases g.onew b (hO b ⟨k,I⟩)with⟨l,i',z1,z2⟩|z
   .have:=r.dist i' j b z2 Z;subst this;exact w3 (Ek.mpr ⟨l,z1⟩)
   .rw[O]at z;cases z
  rcases A with A|A <;> rcases B with B|B
  .obtain⟨k,Q,X⟩:=A;obtain⟨l,b1,b2⟩:=B;have:=N.dist k l b X b2;subst this;rw[Q]at b1;cases b1;rfl
  .exact(E A B).elim
  .exact(E B A).elim
  .exact r.dist i j b A.2 B.2
 .rcases z with⟨k,_,z⟩|⟨_,z⟩
  .rcases g.onew b (hO b ⟨k,z⟩)with w|w
   .exact .inl (wA b w)
   .exact .inr w
  .exact .inl ⟨j,z⟩
 .rcases z with⟨k,_,z⟩|⟨_,z⟩
  .exact .inl ⟨k,z⟩
  .exact .inr ⟨j,z⟩
end
def DR(X:Cx)(E:XK)(e:aD)(d:ac->R Slot):Prop :=
 ∀F S f a H Q,a_ X.K F S f a H->Ok X.K E a F S H (d f) (λs _ h i c=>∀v g,t6 X.K c h s v g->(∀b,g b->H b=ah/\¬h b/\¬U i b/\∃o,c b=aa o/\e_ o)->Q v c)->gC X e a H Q
def cW:List cJ->ac->Bool
 |[],_=>ae
 |.inl _::as,_::ss=>cW as ss
 |.inr _::as,.own _::ss=>cW as ss
 |_,_=>aj
theorem nJ:∀{as:List cJ}{ss:ac},cW as ss=ae->∀(k:Nat) i,as[k]?=aa (.inr i)->∃a,ss[k]?=aa (.own a)
 |[],_,_,k,i,h=>by simp at h
 |.inl _::as,s::ss,q,0,i,h=>by simp at h
 |.inl _::as,s::ss,q,k+1,i,h=>by simpa using nJ (as:=as) (ss:=ss) (by unfold cW at q;exact q) k i (by simpa using h)
 |.inr _::as,.own a::ss,q,0,i,h=>⟨a,rfl⟩
 |.inr _::as,.own a::ss,q,k+1,i,h=>by simpa using nJ (as:=as) (ss:=ss) (by unfold cW at q;exact q) k i (by simpa using h)
 |.inr _::as,.val _::ss,q,k,i,h=>by cases q
 |.inr _::as,.none::ss,q,k,i,h=>by cases q
 |.inl _::as,[],q,k,i,h=>by cases q
 |.inr _::as,[],q,k,i,h=>by cases q
def df{d:Type}(ε:ac)(b:List cJ)(r:R d):R d:=match r with
 |.ok s a=>if cW b a then .ok s (cY ε b a)else .no
 |.er c a=>if cW b a then .er c (cY ε b a)else .no
 |.no=>.no
def aB(g:ac->R Slot)(c:ac->R (List cJ)):ac->R Slot:=λε=>(c ε).bind λa ε1=>(aO (if(bX a).Nodup then cK ε1 a else ah) ε1).bind λb ε1=>df ε1 a (g b)
section
variable{l:gR}{X:Cx}{E:XK}{pin:List Nat}{e:aD}{es:List aD}{j:ac->R (List cJ)}{pos:Pos}{x:Str}{k:Nat}{ps:List Str}{g:ac->R Slot}{p:Pos}{d:ac->R Slot}
theorem OZ{K:aA}{F0 n:ag->Prop}{S0 A:Nat->ag->Prop}{a:ac}{D:St}{H m:Hp}{c:List cJ}{W:List V}{Q:VK}(t:a_ K n A a D m)(g1:bO (U S0) (U A) F0 n H m)(N:iM K D n m c W)(q:Ok K E D n A m ((aO (if(bX c).Nodup then cK a c else ah) a).bind λB a=>df a c (g B)) λs _ r S h=>∀v C,t6 K h r s v C->(∀b,C b->H b=ah/\¬r b/\¬U S b/\∃o,h b=aa o/\e_ o)->Q v h):cn K g W m Q E:=by
 have q:=Ok.bind q;by_cases u:(bX c).Nodup
 .rw[if_pos u]at q;cases es:cK a c with
  |none=>rw[es]at q;exact q.elim
  |some B=>
   rw[es]at q;have q:=q n A m t (bO.refl ..);dsimp only at q;refine⟨n,lx c A,B,t.cal N es u,?_⟩;cases M:g B with
   |no=>rw[M]at q;exact q.elim
   |er cv O=>
    rw[M]at q;intro y r S h G L;unfold df at q;dsimp only at q;by_cases f:cW c O=ae
    .rw[if_pos f]at q;obtain⟨P,F,J,_⟩:=t.called N es u G L (λ_ z=>z) (nJ f);exact q y r P h F J
    .rw[if_neg f]at q;exact q.elim
   |ok s O=>
    rw[M]at q;intro v r S h C G L rv I Y;unfold df at q;dsimp only at q;by_cases f:cW c O=ae
    .rw[if_pos f]at q;obtain⟨P,F,J,Z⟩:=t.called N es u G L (λ_ z=>.inl z) (nJ f);refine q r P h F J v C rv λb z=>⟨nv g1 (Y b z),(I b z).1,λw=>?_,(I b z).2.2⟩
     rcases Z b w with w|⟨i,w⟩
     .exact(I b z).2.1 w
     .obtain⟨_,_,o,T,_⟩:=t.foot i b w;rw[Y b z]at T;cases T
    .rw[if_neg f]at q;exact q.elim
 .rw[if_neg u]at q;exact q.elim
theorem bx(c:cN l X.prog X.w X.K X.mg X.base x k ps (cn X.K g))(r:gF k X.A)(o:qM l X E)(y:DG X E (e::es) j)(u:Gl X x:=by rfl)(v:(x==("__debug__":Str))=aj:=by decide) (A:bo (e::es) X.env=(aj,bq e X.env)::bo es X.env:=by rfl) (z:(fk pos (bo es X.env)).any (·.1)=aj:=by rfl):DR X E (.Call (.Name x p) (e::es) [] pos) (aB g j):=λF S i a H Q m h=>by obtain⟨f,I,s,D,w,t⟩:=c.ex;refine cE (Dq D r u s t w .nil o ik v A z) (y F S i a H _ m ((Ok.bind h).imp λJ b M K L n B q G C=>?_));rw[i6];exact OZ n B C q
def qY:Slot->Option PV
 |.val pv=>aa pv
 |.own (.lst a)=>aa (.lst a)
 |_=>ah
def aL(d:ac->R Slot):ac->R PV:=λε=>(d ε).bind λs ε1=>aO (qY s) ε1
def wO:Slot->Option PO
 |.own a=>aa a
 |_=>ah
def gH(d:ac->R Slot):ac->R PO:=λε=>(d ε).bind λs a=>aO (wO s) a
theorem DR.dn(h:DR X E e d):DN X E e (gH d):=λF S f i H Q r q=>by
 unfold gH at q;refine h F S f i H Q r ?_;cases b:d f with
 |no=>rw[b]at q;exact q.elim
 |er c n=>rw[b]at q;exact q
 |ok s m=>
  rw[b]at q;cases s with
  |none=>exact q.elim
  |val pv=>exact q.elim
  |own D=>intro C A B t w v z o y;obtain⟨a,rfl,u⟩:=o;exact q C A B t w a z u y
theorem DR.de(h:DR X E e d):DE X E e (aL d):=λF S ε f H Q i q=>by
 unfold aL at q;cases b:d ε with
 |no=>rw[b]at q;exact q.elim
 |er c m=>refine h F S ε f H Q i ?_;rw[b]at q ⊢;exact q
 |ok s ε1=>
  cases s with
  |none=>rw[b]at q;exact q.elim
  |val pv=>refine h F S ε f H Q i ?_;rw[b]at q ⊢;exact λz u w o t v D n B=>q z u w o t v n.1
  |own r=>
   refine h.dn.de F S ε f H Q i ?_;unfold dF gH;rw[b]at q ⊢;cases r with
   |lst xs=>exact q
   |dK a=>exact q
   |lls A=>exact q
   |ins C fs=>exact q
   |dT a=>exact q
   |dN a=>exact q
   |inl C fs y xs=>exact q
def gq(d:ac->R Slot):ac->R aK:=λε=>(d ε).bind λs a=>.ok (.ret s) a
theorem qo(A:DR X E e d):DS X E pin (.Return (aa e) pos) (gq d):=λF S m f H D t h=>by
 refine ix (vX b_) (A F S m f H _ t ?_);unfold gq at h;cases i:d m with
 |no=>rw[i]at h;exact h.elim
 |er c q=>rw[i]at h;exact λx M I K y B=>h x M I f K y B (jA.refl _ _)
 |ok s o=>rw[i]at h;intro L G J u a v C r n;exact h v L G f J C u ⟨a.fro,a.keep,a.there,a.fnew,λb z=>z.elim (a.onew b) λw=>.inr (n b w).1⟩ (jA.refl _ _) r λb z=>(n b z).2
def jQ(d:ac->R Slot):ac->R aK:=λb=>(d b).bind λ_ a=>.ok .next a
theorem qm(n:DR X E e d)(m:kR e ah pos.line X.env=pure aj:=by rfl):DS X E pin (.Expr e pos) (jQ d):=λF S c a H D f h=>ix (E9 b_ m) (n F S c a H _ f (h.bindE.imp λx b s q r i u o v y t w=>o s q a r i (bO.refl ..) (jA.refl _ _)))
end
end Pu
namespace L2
section
variable{X:Cx}{l:List (ag×Obj)}{i:St}{H:Hp}{s:aq}{d:eP}{x:Str}{j:List Str}{g:List Nat}
theorem Ev{A m M:aD}{y:Str}{Z G E:Pos}{F k:Nat}{tgf:V->Hp->St->Prop}{w:List aD}{wi:TI}{ts:TT}{te:TE}(B:h8 X d x j g)(hk:k<=g.length)(hc:X.calm=ae)(hi:PI X M m wi)(gi:∀C r t T N,PG (bK X d j C r t T N) M λv L H Q=>∃vs,vs.length=k+1/\L.length=j.length/\tgf v H vs/\Q (vs++L.drop (k+1)) H)(ht:∀C r t T N,pb (bK X d j C r t T N) w ts) (he:∀C r t T N,PE (bK X d j C r t T N) A te) (hN:X.N.Nodup) (qd:X.N[F]?=aa y) (hxy:Loc X.env.scope y) (qe:kR (.ListComp A [⟨M,m,w,0⟩] d G) (aa (.Name y Z)) E.line X.env=pure ae) (hf:X.fn y=ae\/X.env.scope.names.lookup y=aa .local) (hs:∀x,lI m X.env x=pure x):PS X (.Assign [.Name y Z] (.ListComp A [⟨M,m,w,0⟩] d G) E) (λD i H=>ux wi tgf k ts te g i H λv H'=>D.nx (i.set F (aa v)) H'):=by
 intro l s i H D I h;rw[exec_Assign_Name_used _ _ _ _ qe];refine au (wpAny_standAt (au ?_));show ax _ X.A (do let _ <-comprehension (.ListComp A [⟨M,m,w,0⟩] d G) d X.env _ (newList []) aj (bq m X.env) (aa (assign (.Name y Z) X.env))) _ _ s;refine au (gy (?_:ax _ X.A _ (λ_ s'=>SP X l D .next s') X.xe s) (λ_ s' hq=>aN (aN hq)) λ_ _ e=>e);refine AG (use:=aa (assign (.Name y Z) X.env)) B hk hc hi gi ht he hs I h λ{J s6 H3 H5 fp σ5 a f} W f3 I6 q=>?_;obtain⟨mm,hn6,_⟩:=I6.loc;have J6:Inv X l i _ _:=W.unblock f3 I6 (Heap.SameBut.refl _ _);have O:J.heap.objs.size≠X.env.locals:=λe=>absurd W.lt (by rw[<-e];exact fh _);have P:∀z c,X.env.cells.lookup z=aa c->c≠J.heap.objs.size:=λz c e e2=>by obtain⟨vv,oo,ho,_⟩:=W.cell z c e;exact absurd (bN ho) (by rw[e2];exact fh _)
 refine wpAny_assign_Name (FT (v:=.ref a) J6 hN qd hxy rfl (λs7 I7 ⟨a7,sb7,ha7⟩=>?_) hf);have na7:J.heap.objs.size≠a7:=by
  rcases ha7 with z|z
  .rw[z];exact O
  .exact(P _ _ z).symm
 refine⟨mm,hn6.sameBut sb7 na7,λlf Y=>⟨_,_,?_,q⟩⟩;have S:H5 J.heap.objs.size=ah:=I6.free;refine I7.call' (s':={s7 with heap:=lf}) (ch:=[J.heap.objs.size]) rfl ⟨λb o e n hb K=>?_,λb o e n hb K=>?_,λb o e n K=>n,λb o e K=>?_,λb xs e=>e,λb o u e=>e,λb ps e=>e⟩ ?_ I7.bare λb hb=>?_
 .exact(Y.2 b (by simpa using K)).trans e
 .exact⟨o.slots,(Y.2 b (by simpa using K)).trans (by simpa using e)⟩
 .exact⟨o,(Y.2 b (by simpa using K)).trans e⟩
 .intro b u e;refine(I7.hok b u e).stay (λc v hc q=>(Y.2 c ?_).trans q) (λ_ q=>q) λ_ _ q=>q;rintro rfl;rcases hc with z|z
  .rw[<-z,S]at e;cases e
  .rw[S]at z;cases z
 .have e:b=J.heap.objs.size:=by simpa using hb
  subst e;refine⟨.inr W.sz,O,P,λp hp e2=>?_⟩;obtain⟨e3,_⟩:=W.pin p hp;exact absurd (bN e3) (by rw[e2];exact fh _)
theorem Qw{n a:aD}{y:Str}{p u o f:Pos}{h:Nat}{m:List aD}{wi:TI}{ts:TT}{te:TE}(B:h8 X d x j g)(I:X.calm=ae)(E:PI X (.Name x p) a wi)(ht:∀C b c t q,pb (bK X d j C b c t q) m ts) (G:∀C b c t q,PE (bK X d j C b c t q) n te) (J:X.N.Nodup) (z:X.N[h]?=aa y) (r:Loc X.env.scope y) (w:kR (.ListComp n [⟨.Name x p,a,m,0⟩] d o) (aa (.Name y u)) f.line X.env=pure ae) (F:X.fn y=ae\/X.env.scope.names.lookup y=aa .local) (A:∀x,lI a X.env x=pure x):PS X (.Assign [.Name y u] (.ListComp n [⟨.Name x p,a,m,0⟩] d o) f) (λD i H=>Bi wi ts te g i H λv K=>D.nx (i.set h (aa v)) K):=Ev B (kg _) I E (CC B) ht G J z r w F A
end
end L2
namespace Pu
open L2
def eJ(ε:ac):List Nat->Option (List cJ)
 |[]=>aa []
 |j::cap=>match ε[j]? with
  |some (.val pv)=>(eJ ε cap).map (.inl pv::·)
  |some (.own _)=>(eJ ε cap).map (.inr j::·)
  |_=>ah
def d7{b:Type}(cap:List Nat)(d:ac->R b)(x:PV):ac->R b:=λε=>(aO (eJ ε cap) ε).bind λa _=>(aO (if(bX a).Nodup then cK ε (.inl x::a)else ah) ε).bind λc _=>df ε (.inl x::a) (d c)
def cu{a:Type}(r:R a):R a:=match r with
 |.er _ _=>.no
 |r=>r
def jl(cap:List Nat)(dt:ac->R Bool)(de:ac->R PV):List PV->List PV->ac->R (List PV)
 |[],a,ε=>.ok a ε
 |x::c,a,ε=>(cu (d7 cap dt x ε)).bind λk ε1=>match k with
  |true=>(cu (d7 cap de x ε1)).bind λy b=>jl cap dt de c (a++[y]) b
  |false=>jl cap dt de c a ε1
def bI(cap:List Nat)(di:ac->R (List PV))(dt:ac->R Bool)(de:ac->R PV):ac->R PO:=λε=>(di ε).bind λxs ε1=>(jl cap dt de xs [] ε1).bind λb a=>.ok (.lst b) a
theorem vB{K:aA}{F:ag->Prop}{S:Nat->ag->Prop}{f:ac}{d:St}{H:Hp}(r:a_ K F S f d H):∀{b:List Nat}{i:List cJ},eJ f b=aa i->∃c,iM K d F H i c/\fU d b=c.map aa
 |[],i,h=>by cases h;exact⟨[],rfl,rfl⟩
 |j::b,i,h=>by
  unfold eJ at h;split at h
  .rename_i pv e;cases q:eJ f b with
   |none=>rw[q]at h;cases h
   |some bs=>
    rw[q]at h;cases h;obtain⟨c,m,l⟩:=vB r q;obtain⟨v,g,n⟩:=r.val j pv e;refine⟨v::c,⟨v,c,rfl,n,m⟩,?_⟩;show(d[j]?).join::fU d b=_;rw[g,l];rfl
  .rename_i o e;cases q:eJ f b with
   |none=>rw[q]at h;cases h
   |some bs=>
    rw[q]at h;cases h;obtain⟨c,m,l⟩:=vB r q;obtain⟨a,g,n⟩:=r.own j o e;refine⟨.ref a::c,⟨_,c,rfl,g,m⟩,?_⟩;show(d[j]?).join::fU d b=_;rw[g,l];rfl
  .cases h
theorem CL{K:aA}{E:XK}{F:ag->Prop}{S:Nat->ag->Prop}{s:ac}{f:St}{H:Hp}{G:Type}{b:List Nat}{d:ac->R G}{x:PV}{v:V}{C:G->ac->(ag->Prop)->(Nat->ag->Prop)->Hp->Prop}(r:a_ K F S s f H) (N:bd K H F x v) (h:Ok K E f F S H (cu (d7 b d x s)) C):∃L l,a_ K F L l (aa v::fU f b) H/\Ok K E0 (aa v::fU f b) F L H (d l) (λa _ q _ p=>∃j u,a_ K q u j f p/\bO (U S) (U u) F q H p/\C a j q u p):=by
 unfold d7 at h;cases B:eJ s b with
 |none=>rw[B]at h;exact h.elim
 |some g=>
  rw[B]at h;simp only[c9,R.bind_ok]at h;by_cases y:(bX g).Nodup
  .rw[if_pos y]at h;cases t:cK s (.inl x::g)with
   |none=>rw[t]at h;exact h.elim
   |some l=>
    rw[t]at h;simp only[c9,R.bind_ok]at h;obtain⟨w,T,Q⟩:=vB r B;have o:iM K f F H (.inl x::g) (v::w):=⟨v,w,rfl,N,T⟩
    have n:aa v::fU f b=(v::w).map aa:=by rw[Q];rfl
    have m:(bX (.inl x::g)).Nodup:=y;refine⟨lx (.inl x::g) S,l,by rw[n];exact r.cal o t m,?_⟩;rw[n];cases A:d l with
    |no=>rw[A]at h;exact h.elim
    |er c D=>
     rw[A]at h;unfold df at h;dsimp only at h;by_cases i:cW (.inl x::g) D=ae
     .rw[if_pos i]at h;exact h.elim
     .rw[if_neg i]at h;exact h.elim
    |ok a D=>
     rw[A]at h;intro q u p O P;unfold df at h;dsimp only at h;by_cases i:cW (.inl x::g) D=ae
     .rw[if_pos i]at h;obtain⟨M,I,J,_⟩:=r.called o t m O P (λ_ z=>z) (nJ i);exact⟨_,M,I,J,h q M p I J⟩
     .rw[if_neg i]at h;exact h.elim
  .rw[if_neg y]at h;exact h.elim
def nN(X:Cx)(a:List aD):TT:=λb H Q=>Bx (∀d s,Inv X d b H s->ax (aH X.prog X.w) X.A (forIn a ae λc r=>if r=ae then do let ok <-mR c X.env (bq c X.env);pure (ForInStep.yield ok)else pure (ForInStep.yield r)) (TP X d b Q) X.xe s)
def DF(X:Cx)(E:XK)(c:List aD)(d:ac->R Bool):Prop:=∀F S f a H Q,a_ X.K F S f a H->Ok X.K E a F S H (d f) (λb _ _ _ g=>Q b g)->nN X c a H Q
def bV:ac->R Bool:=λε=>.ok ae ε
theorem hU{X:Cx}{E:XK}:DF X E [] bV:=λF S d a H Q b h=>⟨λc s I=>LP c s a H Q I (h F S H b (bO.refl ..))⟩
theorem kD{X:Cx}{E:XK}{c:aD}{d:ac->R Bool}(h:DT X E c d):DF X E [c] d:=λF S b a H Q f q=>⟨λg s I=>Q7 nK g s a H Q I (h F S b a H Q f q)⟩
theorem Ok.bindB{K:aA}{E:XK}{b:St}{F s:ag->Prop}{S n:Nat->ag->Prop}{H p:Hp}{j i:Type}{D:i->ac->(ag->Prop)->(Nat->ag->Prop)->Hp->Prop}{r:R j}{k:j->ac->R i}(h:Ok K E b F S H (r.bind k) D)(g:bO (U S) (U n) F s H p):Ok K E b s n p r (λa d _ _ _=>Ok K E b F S H (k a d) D):=by
 cases r with
 |no=>exact h
 |er c f=>exact λx t o q l m=>h x t o q l (g.trans m)
 |ok a f=>exact λt o q l m=>h
section
variable{X:Cx}{E:XK}{c:eP}{x:Str}{N':List Str}{cap:List Nat}
theorem bO.stay{O a F d:ag->Prop}{H b:Hp}(g:bO O a F d H b){l:ag}{o:HO}(e:H l=aa o)(n:¬O l)(f:¬F l):b l=aa o/\¬d l/\¬a l :=
 ⟨g.keep l o e n,λz=>(g.fnew l z).elim f λw=>w.elim (λq=>by rw[e]at q;cases q) n,λz=>(g.onew l z).elim n λq=>by rw[e]at q;cases q⟩
theorem a_.lay{K:aA}{F:ag->Prop}{S:Nat->ag->Prop}{i:ac}{h:St}{H:Hp}{l:ag}{o o':HO}(r:a_ K F S i h H)(v:H l=aa o)(no:e_ o)(u:¬F l)(nS:¬U S l):bO (λb=>U S b\/b=l) (U S) F F H (L2.upd H l o')/\mv (λb=>U S b\/b=l) F H/\a_ K F S i h (L2.upd H l o'):=by
 have f:bO (λb=>U S b\/b=l) (U S) F F H (L2.upd H l o'):=⟨λ_ z=>z,λb o e n=>by rw[cc λz=>n (.inr z)];exact e,λb o e=>by
  by_cases m:b=l
  .subst m;exact⟨_,upd_same⟩
  .exact⟨o,by rw[cc m];exact e⟩,λ_ z=>.inl z,λ_ z=>.inl (.inl z)⟩
 have g:mv (λb=>U S b\/b=l) F H:=λb z=>by
  rcases z with z|rfl
  .exact r.fit b z
  .exact⟨u,_,v,no⟩
 refine⟨f,g,r.len,λb z=>let ⟨o,q⟩:=r.ex b z;f.there b o q,λj pv e=>?_,λj t e=>?_,λj b z=>?_,r.dist⟩
 .obtain⟨w,d,a⟩:=r.val j pv e;exact⟨w,d,a.grow f g⟩
 .obtain⟨w,d,a⟩:=r.own j t e;refine⟨w,d,a.mono (λ_ _ q=>q.grow f g) (λ_ _ q=>q.grow f g) λb o z q=>?_⟩;rw[cc (by rintro rfl;exact nS ⟨j,z⟩)];exact q
 .obtain⟨d,a,o,s,p⟩:=r.foot j b z;exact⟨d,a,o,by rw[cc (by rintro rfl;exact nS ⟨j,z⟩)];exact s,p⟩
theorem bO.lay{O d F h:ag->Prop}{H f:Hp}{l:ag}{o':HO}(g:bO O d F h H f)(a:H l=ah):bO O d F h H (L2.upd f l o'):=by
 refine⟨g.fro,λb o e n=>?_,λb o e=>?_,g.fnew,g.onew⟩
 .rw[cc (by rintro rfl;rw[a]at e;cases e)];exact g.keep b o e n
 .obtain⟨i,q⟩:=g.there b o e;exact⟨i,by rw[cc (by rintro rfl;rw[a]at e;cases e)];exact q⟩
theorem Ex{elt A:aD}{px:Pos}{ifs:List aD}{di:ac->R (List PV)}{dt:ac->R Bool}{de:ac->R PV}(hi:DI X E (.Name x px) A di)(ht:∀C d f r p,DF (bK X c N' C d f r p) E0 ifs dt) (he:∀C d f r p,DE (bK X c N' C d f r p) E0 elt de){F:ag->Prop}{S:Nat->ag->Prop}{ε:ac}{j:St}{H:Hp}{Q:VK} (rl:a_ X.K F S ε j H) (h:Ok X.K E j F S H (bI cap di dt de ε) (λpo _ s L g=>∀a Sa,fo X.K g s po a Sa->(∀b,Sa b->H b=ah/\¬s b/\¬U L b/\∃o,g b=aa o/\e_ o)->Q (.ref a) g)):Bi (lF X (.Name x px) A) (λj H Q=>∀C d f r p,nN (bK X c N' C d f r p) ifs j H Q) (λj H Q=>∀C d f r p,gC (bK X c N' C d f r p) elt j H Q) cap j H Q:=by
 refine hi F S ε j H _ rl ((Ok.bind h).imp λw ε1 N S1 H1 r1 g1 h1 J vs RR rs hz hw keep l hl=>?_);have h1:=h1.bind;have hvl:vs.length=w.length:=rs.len;have a0:Al N N H1 (upd H1 l (.lst [])):=Al.new0 hl;have nF1:¬N l:=λz=>by obtain⟨o,q⟩:=r1.ex l z;rw[hl]at q;cases q
 have nS1:¬U S1 l:=λ⟨i,z⟩=>by obtain⟨_,_,o,q,_⟩:=r1.foot i l z;rw[hl]at q;cases q
 have hH:H l=ah:=nv g1 hl;refine⟨λi m D g=>m=w.length-i/\i<=w.length/\∃s L Y P,a_ X.K s L Y j g/\bO (U S1) (U L) N s H1 g/\g l=aa (.lst D)/\¬s l/\¬U L l/\Reps X.K g s P D/\D.length<=i /\ Ok X.K E j N S1 H1 (jl cap dt de (w.drop i) P Y) (λys' t T S2 M=>Ok X.K E j T S2 M (R.ok (PO.lst ys') t) (λpo _ s L g=>∀a Sa,fo X.K g s po a Sa->(∀b,Sa b->H b=ah/\¬s b/\¬U L b/\∃o,g b=aa o/\e_ o)->Q (.ref a) g)),⟨_,rfl,kg _,N,S1,ε1,[],r1.al a0,a0.grow,upd_same,nF1,nS1,rfl,bC _,h1⟩,?_⟩;rintro i m D M ⟨rfl,hi,T,S2,t,P,O,K,el,nF2,nS2,n,hyl,q2⟩;have RH:=keep S2 T M K;by_cases bT:i<w.length
 .obtain⟨v,hv⟩:∃v,vs[i]?=aa v:=⟨_,fO ∅⟩
  obtain⟨go,yl⟩:=(hw M RH i).1 v hv;refine .inr ⟨go,λv' g y=>⟨[aa v'],rfl,rfl,?_⟩⟩;obtain⟨e1,e2⟩:=yl v' g y;subst e1 e2;obtain⟨px',hx,rx⟩:=rs.back hv;have ed:w.drop i=px'::w.drop (i+1):=by rw[HN bT];congr 1;exact(eF.mp hx).2
  rw[ed]at q2;have Z:=rx.grow K r1.fit;have q3:=Ok.bindB q2 K;obtain⟨Sb,ss,rb,okb⟩:=CL O Z q3;intro C d f r p;refine ht C d f r p T Sb ss _ g _ rb (okb.imp λb _ F3 _ H3 _ _ ⟨W,S3,r3,I,q4⟩=>?_);obtain⟨el3,nF3,nS3⟩:=I.stay el nS2 nF2;cases b with
  |false=>exact mq ⟨_,∅,rfl,bT,F3,S3,W,P,r3,K.trans I,el3,nF3,nS3,n.grow I O.fit,∅,q4⟩
  |true=>refine mC ?_;have q5:Ok X.K E j N S1 H1 ((cu (d7 cap de px' W)).bind λy t=>jl cap dt de (w.drop (i+1)) (P++[y]) t) _:=q4;obtain⟨Sc,sc,rc,okc⟩:=CL r3 (Z.grow I O.fit) (Ok.bindB q5 (K.trans I));intro C d f r p;refine he C d f r p F3 Sc sc _ H3 _ rc (okc.imp λy _ F4 _ H4 _ _ ⟨ε4,S4,r4,g4,q6⟩ u ru=>?_);obtain⟨el4,nF4,nS4⟩:=g4.stay el3 nS3 nF3;have G:=(n.grow I O.fit).grow g4 r3.fit;obtain⟨gl,B,r5⟩:=r4.lay (o':=.lst (D++[u])) el4 trivial nF4 nS4;have g5:=((K.trans I).trans g4).lay (o':=.lst (D++[u])) hl;refine⟨el4,?_,_,∅,rfl,bT,F4,S4,ε4,P++[y],r5,g5,upd_same,nF4,nS4,(G.grow gl B).app (.one (ru.grow gl B)),by simp;lia,q6⟩;lia
 .have e:i=w.length:=∅
  subst e;refine .inl ⟨(hw M RH _).2 hvl.symm,?_⟩;rw[HP]at q2;exact q2 T S2 M O K T S2 M O (bO.refl ..) l (λb=>b=l) ⟨⟨D,el,n⟩,λb=>pW⟩ λb z=>by subst z;exact⟨hH,nF2,nS2,_,el,trivial⟩
theorem fY{j d:aD}{m pos:Pos}{i:List aD}{o:ac->R (List PV)}{dt:ac->R Bool}{de:ac->R PV}(B:h8 X c x N' cap)(u:X.calm=ae)(r:DI X E (.Name x m) d o)(ht:∀C a b g f,DF (bK X c N' C a b g f) E0 i dt) (t:∀C a b g f,DE (bK X c N' C a b g f) E0 j de) (q:∀x,lI d X.env x=pure x:=by intro _;rfl):DN X E (.ListComp j [⟨.Name x m,d,i,0⟩] c pos) (bI cap o dt de):=λF S v l H Q p h=>cE (MF (wi:=lF X (.Name x m) d) (ts:=λl H Q=>∀C a b g f,nN (bK X c N' C a b g f) i l H Q) (te:=λl H Q=>∀C a b g f,gC (bK X c N' C a b g f) j l H Q) (pos:=pos) B u uy (λC a b g f n s l H Q I h=>(h C a b g f).run n s I) (λC a b g f n s l H Q I h=>(h C a b g f).run n s I) q) (Ex r ht t p h)
end
theorem KC(x y:Tx):tS x++tS y=tS (x++y):=by
 show(⟨x.toArray++y.toArray⟩:Str)=⟨(x++y).toArray⟩
 simp
def aZ:PV->PV->Option PV
 |.int i,.int j=>aa (.int (i+j))
 |.str x,.str y=>if(x++y).length<=bR then aa (.str (x++y))else ah
 |.tup b,.tup a=>if b≠[]/\a≠[]/\b.length+a.length<=1000 then aa (.tup (b++a))else ah
 |.lst b,.lst a=>if b.length+a.length<=bR then aa (.lst (b++a))else ah
 |_,_=>ah
def gv:PV->PV->Option PV
 |.int i,.int j=>aa (.int (i-j))
 |_,_=>ah
def nV(i:Int):Bool:=decide (-(2^64)<i/\i<2^64)
def gw:PV->PV->Option PV
 |.int i,.int j=>if nV i||nV j then aa (.int (i*j))else ah
 |.str x,.int j=>if 0<=j/\j<=100/\x.length<=100 then aa (.str (cr j.toNat x).flatten)else ah
 |_,_=>ah
def ji:PV->PV->Option PV
 |.int i,.int j=>if 0<j then aa (.int (i % j))else ah
 |_,_=>ah
def dq:PV->Option PV
 |.int i=>aa (.int (-i))
 |_=>ah
def E5:R2:=λx y H Q=>∃l b c a,x=.ref l/\y=.ref b/\Rd H l (.lst c)/\Rd H b (.lst a)/\c.length+a.length<=bB/\∀p,H p=ah->Q (.ref p) (upd H p (.lst (c++a)))
def wa(K:aA):R2:=λx y H Q=>((ku λi j=>V.int (i+j)) x y H Q\/∃i j,x=.str i/\y=.str j/\i.length+j.length<=bB/\Q (.str (i++j)) H)\/(Dt K x y H Q\/E5 x y H Q)
def Fh:R2:=λx y H Q=>rI Ai (λi j=>.int (i*j)) x y H Q\/∃(z:Tx) (n:Nat),x=tV z/\y=.int n/\n<=100/\z.length<=100/\Q (tV (cr n z).flatten) H
section
variable{X:Cx}{K:aA}
theorem nr:P2 K (ku λi j=>.int (i-j)) gv:=λF H x y v u Q pv b a e q=>by
 unfold gv at e;split at e
 .cases e;exact⟨_,_,b,a,q _ F H (Al.refl ..) rfl⟩
 .cases e
theorem xN:P2 K (rI (λ_ j=>0<j) λi j=>.int (i % j)) ji:=λF H x y v u Q pv b a e q=>by
 unfold ji at e;split at e
 .split at e
  .cases e;exact⟨_,_,b,a,by assumption,q _ F H (Al.refl ..) rfl⟩
  .cases e
 .cases e
theorem iX:P1 K (rU λi=>.int (-i)) dq:=λF H x v Q pv a e q=>by
 unfold dq at e;split at e
 .cases e;exact⟨_,a,q _ F H (Al.refl ..) rfl⟩
 .cases e
theorem FW{d:List (ag×Obj)}{c:St}{H:Hp}{s:aq}{l:ag}{b:List V}(I:Inv X d c H s)(h:Rd H l (.lst b)):∃(a:List ak) (n:Nat),cf b a/\s.heap.get? l=aa {cls:=.type "list",data:=.seq a.toArray n}/\b.length<=bB:=by obtain⟨z,a,n,r,e⟩:=h.ok I.hok;exact⟨a,n,r,e,z⟩
theorem Lm:b8 X (i5 .Add) E5:=by
 intro C s p H x y v u Q I i g h;obtain⟨l,b,w,t,rfl,rfl,f,j,A,q⟩:=h;cases i;cases g;obtain⟨c,n,r,e,_⟩:=FW I f;obtain⟨a,z,d,o,_⟩:=FW I j;have f:=r.length;have B:=d.length;refine PySem.P.add_list e o ?_ (by rw[ef,ef];lia);have m:c.toArray++a.toArray=(c++a).toArray:=by simp
 rw[m];exact⟨.ref _,_,I.lnew (t':=s.toks) (r.append d) (by rw[c_];lia),rfl,q _ I.fresh⟩
theorem dR:b8 X (i5 .Add) (wa X.K):=(RJ.or La).or (RB.or Lm)
theorem dP:P2 K (wa K) aZ:=λF H x y v u Q pv l j e q=>by
 unfold aZ at e;split at e
 .cases e;exact .inl (.inl ⟨_,_,l,j,q _ F H (Al.refl ..) rfl⟩)
 .rename_i x y;split at e
  .rename_i c;cases e;refine .inl (.inr ⟨_,_,l.1,j.1,?_,?_⟩)
   .rw[lu,lu];rw[c_]at c;exact dX c nG
   .exact q _ F H (Al.refl ..) ⟨by rw[KC];rfl,c⟩
  .cases e
 .rename_i t s;split at e
  .rename_i c;cases e;obtain⟨a,n,rfl,r,f⟩:=l;obtain⟨b,m,rfl,o,d⟩:=j;have h:=f.len;have g:=d.len;refine .inr (.inl ⟨a,b,n,m,rfl,rfl,cD.of r,cD.of o,λz=>c.1 (by rw[z]at h;exact x8 h.symm),by rw[h,g];exact zB c.2.2,λz=>absurd (by rw[z]at g;exact x8 g.symm) c.2.1,λ_ p i=>?_⟩);exact q _ F _ (Al.new0 i) ⟨p,_,rfl,upd_same,(Al.new0 i).reps (f.app d)⟩
  .cases e
 .rename_i t s;split at e
  .rename_i c;cases e;obtain⟨a,n,rfl,r,A,f⟩:=l;obtain⟨b,m,rfl,o,w,d⟩:=j;have h:=f.len;have g:=d.len;refine .inr (.inr ⟨a,b,n,m,rfl,rfl,r,o,by rw[h,g];exact dX c nG,λp i=>?_⟩);exact q _ _ _ (Al.new i) ⟨p,_,rfl,.inl upd_same,.inr rfl,(Al.new i).reps (f.app d)⟩
  .cases e
 .cases e
theorem qH:b8 X (i5 .Mult) Fh:=Rv.or NZ
theorem qy:P2 K Fh gw:=λF H x y v u Q pv b a e q=>by
 unfold gw at e;split at e
 .rename_i i j;split at e
  .rename_i h;cases e;refine .inl ⟨_,_,b,a,?_,q _ F H (Al.refl ..) rfl⟩;rw[x9]at h;exact h.imp of_decide_eq_true of_decide_eq_true
  .cases e
 .rename_i x j;split at e
  .rename_i h;cases e;refine .inr ⟨x,j.toNat,b.1,?_,∅,h.2.2,q _ F H (Al.refl ..) ⟨rfl,?_⟩⟩
   .rw[show u=V.int j from a];congr 1;lia
   .rw[M6];have c:j.toNat<=100:=∅
    exact dX (Nat.mul_le_mul c h.2.2) (by decide)
  .cases e
 .cases e
def bt(f:Int->Int->Bool):PV->PV->Option PV
 |.int i,.int j=>aa (.bl (f i j))
 |_,_=>ah
theorem eR{f:Int->Int->Bool}:P2 K (ku λi j=>.bl (f i j)) (bt f):=λF H x y v u Q pv b a e q=>by
 unfold bt at e;split at e
 .cases e;exact⟨_,_,b,a,q _ F H (Al.refl ..) rfl⟩
 .cases e
def eK:PV->Option V
 |.non=>aa .non
 |.bl b=>aa (.bl b)
 |.int i=>aa (.int i)
 |.str x=>aa (tV x)
 |_=>ah
theorem j2{H:Hp}{F:ag->Prop}{x:PV}{v w:V}(r:bd K H F x v)(e:eK x=aa w):v=w:=by
 cases x <;> simp[eK]at e <;> subst e
 .exact r
 .exact r
 .exact r
 .exact r.1
theorem vp{x:PV}{w:V}(e:eK x=aa w):iA w=ae:=by
 cases x <;> simp[eK]at e <;> subst e <;> rfl
mutual
def dv:PV->PV->Option Bool
 |.tup c,y=>match y with
  |.tup a=>fe c a
  |_=>ah
 |.lst c,y=>match y with
  |.lst a=>fe c a
  |_=>ah
 |.non,y=>(eK y).map (f8 .non)
 |.bl b,y=>(eK y).map (f8 (.bl b))
 |.int i,y=>(eK y).map (f8 (.int i))
 |.str x,y=>(eK y).map (f8 (tV x))
 |.raw _,_=>ah
 |.exc _,_=>ah
def fe:List PV->List PV->Option Bool
 |[],c=>aa c.isEmpty
 |x::d,c=>match c with
  |[]=>aa aj
  |y::c=>(dv x y).bind λa=>(fe d c).map λb=>a&&b
end
mutual
def dep:PV->Nat
 |.tup xs=>fD xs+1
 |.lst xs=>fD xs+1
 |_=>0
def fD:List PV->Nat
 |[]=>0
 |x::a=>max (dep x) (fD a)
end
theorem Hb{H:Hp}{d a:Nat}{x y:V}{k:Bool}(h:ir K H d x y k)(l:d<=a):ir K H a x y k:=λX g i b s u v A I f c j=>h X g i b s u v A I f c ∅
theorem wG{H:Hp}{F:ag->Prop}{w:V}{y:PV}{u:V}{k:Bool}{d:Nat}(b:iA w=ae)(e:(eK y).map (f8 w)=aa k)(a:bd K H F y u):ir K H d w u k:=by
 cases q:eK y with
 |none=>rw[q]at e;cases e
 |some z=>
  rw[q]at e;cases e;rw[j2 a q];exact J1 b (vp q)
theorem JD{H:Hp}{a:ag}{c b:List V}(h:Rd H a (.lst c))(g:Rd H a (.lst b)):c=b:=by
 rcases h with h|⟨o,h⟩ <;> rcases g with g|⟨d,g⟩ <;> rw[h]at g <;> cases g <;> rfl
theorem QV{a:Bool}{e:Nat->Bool}{n m:Nat}:gu (λj=>if j=0 then a else e (j-1)) (n+1) (m+1)=(a&&gu e n m):=by
 unfold gu;rw[show min (n+1) (m+1)=min n m+1 by lia,xZ,kY,oj,if_pos rfl,Bool.and_assoc];congr 1;congr 1
 .simp
mutual
theorem zy{H:Hp}{F:ag->Prop}:∀(x y:PV) {v:V}{k:Bool},dv x y=aa k->bd K H F x v->bd K H F y v->k=ae
 |.tup h,y,v,k,e,d,c=>by
  unfold dv at e;split at e
  .obtain⟨a,n,rfl,j,f⟩:=d;obtain⟨b,m,l,g,i⟩:=c;cases l;rw[j]at g;cases g;exact Aq h _ e f i
  .cases e
 |.lst h,y,v,k,e,d,c=>by
  unfold dv at e;split at e
  .obtain⟨a,n,rfl,j,_,f⟩:=d;obtain⟨b,m,l,g,_,i⟩:=c;cases l;rw[JD j g]at f;exact Aq h _ e f i
  .cases e
 |.non,y,v,k,e,d,c=>by
  unfold dv at e;cases q:eK y with
  |none=>rw[q]at e;cases e
  |some z=>rw[q]at e;cases e;rw[<-j2 c q,show v=V.non from d];rfl
 |.bl b,y,v,k,e,d,c=>by
  unfold dv at e;cases q:eK y with
  |none=>rw[q]at e;cases e
  |some z=>rw[q]at e;cases e;rw[<-j2 c q,show v=V.bl b from d];exact beq_self_eq_true b
 |.int b,y,v,k,e,d,c=>by
  unfold dv at e;cases q:eK y with
  |none=>rw[q]at e;cases e
  |some z=>rw[q]at e;cases e;rw[<-j2 c q,show v=V.int b from d];exact beq_self_eq_true b
 |.str b,y,v,k,e,d,c=>by
  unfold dv at e;cases q:eK y with
  |none=>rw[q]at e;cases e
  |some z=>rw[q]at e;cases e;rw[<-j2 c q,show v=tV b from d.1];exact beq_self_eq_true (tS b)
 |.raw _,_,_,_,e,_,_=>by unfold dv at e;cases e
 |.exc _,_,_,_,e,_,_=>by unfold dv at e;cases e
theorem Aq{H:Hp}{F:ag->Prop}:∀(d c:List PV) {f:List V}{k:Bool},fe d c=aa k->Reps K H F d f->Reps K H F c f->k=ae
 |[],c,f,k,e,i,g=>by
  unfold fe at e;rw[show f=[] from i]at g;have:=g.len;cases c with
  |nil=>cases e;rfl
  |cons=>simp at this
 |x::d,c,f,k,e,i,g=>by
  unfold fe at e;obtain⟨v,r,rfl,m,l⟩:=i;cases c with
  |nil=>have:=g.len;simp at this
  |cons y c=>
   obtain⟨q,s,p,o,n⟩:=g;cases p;simp only at e;cases h:dv x y with
   |none=>rw[h]at e;cases e
   |some a=>
    cases j:fe d c with
    |none=>rw[h,j]at e;cases e
    |some b=>
     rw[h,j]at e;cases e;rw[zy x y h m o,Aq d c j l n];rfl
end
mutual
theorem Q_{H:Hp}{F:ag->Prop}:∀(x y:PV) {v u:V}{k:Bool},dv x y=aa k->bd K H F x v->bd K H F y u->ir K H (dep x) v u k
 |.tup i,y,v,u,k,e,d,c=>by
  have p:=e;unfold dv at e;split at e
  .rename_i h;obtain⟨a,r,rfl,o,l⟩:=id d;obtain⟨b,q,rfl,n,j⟩:=id c;by_cases g:a=b
   .subst g;rw[zy _ _ p d c];exact CI
   .obtain⟨f,m,rfl⟩:=tX i h e l j;unfold dep;exact KU (cD.of o) (cD.of n) g m
  .cases e
 |.lst i,y,v,u,k,e,d,c=>by
  have p:=e;unfold dv at e;split at e
  .rename_i h;obtain⟨a,r,rfl,o,_,l⟩:=id d;obtain⟨b,q,rfl,n,_,j⟩:=id c;by_cases g:a=b
   .subst g;rw[zy _ _ p d c];exact CI
   .obtain⟨f,m,rfl⟩:=tX i h e l j;unfold dep;exact IK (.inl o) (.inl n) g m
  .cases e
 |.non,y,v,u,k,e,d,c=>by unfold dv at e;rw[show v=V.non from d];exact wG rfl e c
 |.bl b,y,v,u,k,e,d,c=>by unfold dv at e;rw[show v=V.bl b from d];exact wG rfl e c
 |.int b,y,v,u,k,e,d,c=>by unfold dv at e;rw[show v=V.int b from d];exact wG rfl e c
 |.str b,y,v,u,k,e,d,c=>by unfold dv at e;rw[show v=tV b from d.1];exact wG rfl e c
 |.raw _,_,_,_,_,e,_,_=>by unfold dv at e;cases e
 |.exc _,_,_,_,_,e,_,_=>by unfold dv at e;cases e
theorem tX{H:Hp}{F:ag->Prop}:∀(d c:List PV) {g i:List V}{k:Bool},fe d c=aa k->Reps K H F d g->Reps K H F c i -> ∃f:Nat->Bool,(∀(j:Nat) x y,g[j]?=aa x->i[j]?=aa y->ir K H (fD d) x y (f j))/\k=gu f g.length i.length
 |[],c,g,i,k,e,n,l=>by
  unfold fe at e;rw[show g=[] from n];refine⟨λ_=>ae,λj x y h=>by simp at h,?_⟩;have:=l.len;cases e;unfold gu;cases c with
  |nil=>simp at this;simp[this]
  |cons=>rw[this];simp
 |x::d,c,g,i,k,e,n,l=>by
  unfold fe at e;obtain⟨v,r,rfl,A,z⟩:=n;cases c with
  |nil=>
   cases e;rw[show i=[] from l];exact⟨λ_=>ae,λj x y _ h=>by simp at h,by simp[gu]⟩
  |cons y c=>
   obtain⟨u,D,rfl,C,B⟩:=l;simp only at e;cases m:dv x y with
   |none=>rw[m]at e;cases e
   |some a=>
    cases o:fe d c with
    |none=>rw[m,o]at e;cases e
    |some b=>
     rw[m,o]at e;cases e;obtain⟨f,w,rfl⟩:=tX d c o z B;refine⟨λj=>if j=0 then a else f (j-1),λj p q t s=>?_,by rw[eY,eY,QV]⟩;cases j with
     |zero=>simp at t s;subst t s;show ir K H _ _ _ (if(0:Nat)=0 then a else f (0-1));rw[if_pos rfl];exact Hb (Q_ x y m A C) (by unfold fD;exact Nat.le_max_left _ _)
     |succ j=>show ir K H _ _ _ (if j+1=0 then a else f (j+1-1));rw[if_neg ∅];exact Hb (w j p q (by simpa using t) (by simpa using s)) (show fD d<=max (dep x) (fD d)from Nat.le_max_right _ _)
end
def eqT(neg:Bool)(x y:PV):Option PV:=match eK x,eK y with
 |some v,aa u=>if pc v u then aa (.bl (neg^^decide (v=u)))else ah
 |none,ah=>if dep x<=8 then(dv x y).map λk=>.bl (neg^^k)else ah
 |_,_=>ah
def Go(K:aA):R2:=λx y H Q=>Fa x y H Q\/sV K aj x y H Q
def CD(K:aA):R2:=λx y H Q=>D9 x y H Q\/sV K ae x y H Q
theorem fA(a:X.A.units+64<cLine):b8 X (d_ .Eq) (Go X.K):=RE.or (Jb a)
theorem jC(a:X.A.units+64<cLine):b8 X (d_ .NotEq) (CD X.K):=RX.or (Oy a)
theorem Gq{H:Hp}{F:ag->Prop}{x y:PV}{v u:V}{k:Bool}{Q:VK}{neg:Bool}(h:eK x=ah)(e:dv x y=aa k)(A:dep x<=8)(w:bd K H F x v)(t:bd K H F y u)(q:Q (.bl (neg^^k)) H):sV K neg v u H Q:=by
 have d:∀{g:Bool},k=g->Q (.bl (if neg=ae then !g else g)) H:=λ{g} z=>by subst z;cases neg <;> simpa using q
 cases x with
 |tup c=>
  unfold dv at e;split at e
  .rename_i i;obtain⟨a,l,rfl,r,n⟩:=w;obtain⟨b,j,rfl,p,m⟩:=t;obtain⟨f,o,s⟩:=tX c i e n m;unfold dep at A;exact⟨a,b,l,j,fD c,f,rfl,rfl,.inr ⟨cD.of r,cD.of p⟩,∅,o,d s⟩
  .cases e
 |lst c=>
  unfold dv at e;split at e
  .rename_i i;obtain⟨a,l,rfl,r,_,n⟩:=w;obtain⟨b,j,rfl,p,_,m⟩:=t;obtain⟨f,o,s⟩:=tX c i e n m;unfold dep at A;exact⟨a,b,l,j,fD c,f,rfl,rfl,.inl ⟨.inl r,.inl p⟩,∅,o,d s⟩
  .cases e
 |raw _=>unfold dv at e;cases e
 |exc _=>unfold dv at e;cases e
 |non=>cases h
 |bl _=>cases h
 |int _=>cases h
 |str _=>cases h
theorem fq:P2 K (Go K) (eqT aj):=λF H x y v u Q pv g f e q=>by
 unfold eqT at e;split at e
 .rename_i a b d h;split at e
  .rename_i i;cases e;rw[j2 g d,j2 f h];refine .inl ⟨i,?_⟩;have:=q (.bl (decide (a=b))) F H (Al.refl ..) (by simp[bd]);exact this
  .cases e
 .rename_i d h;split at e
  .rename_i j;cases c:dv x y with
   |none=>rw[c]at e;cases e
   |some k=>
    rw[c]at e;cases e;exact .inr (Gq (neg:=aj) d c j g f (q _ F H (Al.refl ..) rfl))
  .cases e
 .cases e
theorem jK:P2 K (CD K) (eqT ae):=λF H x y v u Q pv g f e q=>by
 unfold eqT at e;split at e
 .rename_i a b d h;split at e
  .rename_i i;cases e;rw[j2 g d,j2 f h];refine .inl ⟨i,?_⟩;have:=q (.bl (!decide (a=b))) F H (Al.refl ..) (by simp[bd]);exact this
  .cases e
 .rename_i d h;split at e
  .rename_i j;cases c:dv x y with
   |none=>rw[c]at e;cases e
   |some k=>
    rw[c]at e;cases e;exact .inr (Gq (neg:=ae) d c j g f (q _ F H (Al.refl ..) rfl))
  .cases e
 .cases e
end
end Pu
namespace Pu
open L2
section
variable{X:Cx}{K:aA}
def sw(i j:Tx):Bool:=!(xS (tS j) (tS i) 0 (tS j).length 1).isEmpty
def gI:List PV->Option (List V)
 |[]=>aa []
 |x::a=>(eK x).bind λv=>(gI a).map λr=>v::r
theorem yW{H:Hp}{F:ag->Prop}:∀{a:List PV}{d b:List V},Reps K H F a d->gI a=aa b->d=b/\b.all iA=ae
 |[],_,_,r,e=>by cases e;exact⟨r,rfl⟩
 |x::a,_,b,⟨v,r,rfl,g,f⟩,e=>by
  unfold gI at e;cases q:eK x with
  |none=>rw[q]at e;cases e
  |some w=>
   cases c:gI a with
   |none=>rw[q,c]at e;cases e
   |some j=>
    rw[q,c]at e;cases e;obtain⟨i,h⟩:=yW f c;exact⟨by rw[j2 g q,i],by rw[kY,vp q,h];rfl⟩
def dG(neg:Bool):PV->PV->Option PV
 |.str x,.str y=>aa (.bl (neg^^sw x y))
 |x,.lst a=>(eK x).bind λv=>(gI a).map λb=>.bl (neg^^jF v b)
 |x,.tup a=>(eK x).bind λv=>(gI a).map λb=>.bl (neg^^jF v b)
 |_,_=>ah
def GP(K:aA):R2:=λx y H Q=>(∃i j,x=.str i/\y=.str j/\Q (.bl (!(xS j i 0 j.length 1).isEmpty)) H)\/tI K aj x y H Q
def G1(K:aA):R2:=λx y H Q=>(∃i j,x=.str i/\y=.str j/\Q (.bl (!(!(xS j i 0 j.length 1).isEmpty))) H)\/tI K ae x y H Q
theorem uc:b8 X (d_ .In) (GP X.K):=Rz.or PH
theorem D_:b8 X (d_ .NotIn) (G1 X.K):=RO.or Ja
theorem v4{H:Hp}{F:ag->Prop}{x:PV}{c:List PV}{v:V}{p:ag}{b:List V}{Q:VK}{neg:Bool}{pv:PV}(g:bd K H F x v)(i:cI K H p b\/cD K H p b)(h:Reps K H F c b)(e:((eK x).bind λv=>(gI c).map λf=>PV.bl (neg^^jF v f))=aa pv) (q:∀w,bd K H F pv w->Q w H):tI K neg v (.ref p) H Q:=by
 cases a:eK x with
 |none=>rw[a]at e;cases e
 |some w=>
  cases d:gI c with
  |none=>rw[a,d]at e;cases e
  |some f=>
   rw[a,d]at e;cases e;obtain⟨rfl,j⟩:=yW h d;rw[j2 g a];refine⟨p,b,rfl,i,vp a,j,?_⟩;have:=q _ rfl;cases neg <;> simpa using this
theorem sy:P2 K (GP K) (dG aj):=λF H x y v u Q pv d c e q=>by
 unfold dG at e;split at e
 .cases e;exact .inl ⟨_,_,d.1,c.1,by have:=q _ F H (Al.refl ..) rfl;simpa[sw]using this⟩
 .obtain⟨a,h,rfl,g,_,f⟩:=c;exact .inr (v4 (neg:=aj) d (.inl (.inl g)) f e λw b=>q w F H (Al.refl ..) b)
 .obtain⟨a,h,rfl,g,f⟩:=c;exact .inr (v4 (neg:=aj) d (.inr (cD.of g)) f e λw b=>q w F H (Al.refl ..) b)
 .cases e
theorem GK:P2 K (G1 K) (dG ae):=λF H x y v u Q pv d c e q=>by
 unfold dG at e;split at e
 .cases e;exact .inl ⟨_,_,d.1,c.1,by have:=q _ F H (Al.refl ..) rfl;simpa[sw]using this⟩
 .obtain⟨a,h,rfl,g,_,f⟩:=c;exact .inr (v4 (neg:=ae) d (.inl (.inl g)) f e λw b=>q w F H (Al.refl ..) b)
 .obtain⟨a,h,rfl,g,f⟩:=c;exact .inr (v4 (neg:=ae) d (.inr (cD.of g)) f e λw b=>q w F H (Al.refl ..) b)
 .cases e
def lp(a:Bool):PV->PV->Option PV
 |x,.non=>match x with
  |.non=>aa (.bl (a^^ae))
  |.raw _=>ah
  |_=>aa (.bl (a^^aj))
 |_,_=>ah
theorem IY{H:Hp}{F:ag->Prop}{x:PV}{v:V}(r:bd K H F x v)(h:x≠.non)(c:∀w,x≠.raw w):decide (v=V.non)=aj:=by
 refine decide_eq_false λz=>?_;subst z;cases x with
 |non=>exact h rfl
 |raw w=>exact c w rfl
 |bl _=>cases r
 |int _=>cases r
 |str _=>cases r.1
 |tup _=>obtain⟨a,b,e,_⟩:=r;cases e
 |lst _=>obtain⟨a,b,e,_⟩:=r;cases e
 |exc _=>obtain⟨a,e,_⟩:=r;cases e
theorem Ck{H:Hp}{F:ag->Prop}{x y:PV}{v u:V}{Q:VK}{pv:PV}{a:Bool}(c:bd K H F x v)(f:bd K H F y u)(e:lp a x y=aa pv)(q:∀w d b,Al F d H b->bd K b d pv w->Q w b):u=.non/\Q (.bl (a^^decide (v=V.non))) H:=by
 unfold lp at e;split at e
 .refine⟨f,?_⟩;split at e
  .cases e;rw[show v=V.non from c];exact q _ F H (Al.refl ..) rfl
  .cases e
  .rename_i h g;cases e;rw[IY c (λz=>h z) (λw z=>g w z)];exact q _ F H (Al.refl ..) rfl
 .cases e
theorem PD:P2 K (λx y H Q=>y=.non/\Q (.bl (decide (x=.non))) H) (lp aj):=λF H x y v u Q pv b a e q=>by have:=Ck b a e q;simpa using this
theorem PP:P2 K (λx y H Q=>y=.non/\Q (.bl (!decide (x=.non))) H) (lp ae):=λF H x y v u Q pv b a e q=>by have:=Ck b a e q;simpa using this
def aS:List PV->Option PV
 |[.str x]=>aa (.int x.length)
 |[.lst xs]=>aa (.int xs.length)
 |[.tup xs]=>aa (.int xs.length)
 |_=>ah
theorem iS{H:Hp}{F:ag->Prop}{x:PV}{a:List V}(r:Reps K H F [x] a):∃v,a=[v]/\bd K H F x v:=by obtain⟨v,b,rfl,d,c⟩:=r;rw[show b=[] from c];exact⟨v,rfl,d⟩
theorem dO:PL K (λg H Q=>∃x n,g=[x]/\Df K x H n/\Q (.int n) H) aS:=λF H g i Q pv c e q=>by
 unfold aS at e;split at e
 .cases e;obtain⟨v,rfl,h⟩:=iS c;rw[h.1];exact⟨_,_,rfl,⟨by rw[lu];exact dX h.2 nG,rfl⟩,by rw[lu];exact q _ F H (Al.refl ..) rfl⟩
 .cases e;obtain⟨v,rfl,a,b,rfl,f,_,d⟩:=iS c;exact⟨_,_,rfl,.inl ⟨b,.inl f,rfl⟩,by rw[d.len];exact q _ F H (Al.refl ..) rfl⟩
 .cases e;obtain⟨v,rfl,a,b,rfl,f,d⟩:=iS c;exact⟨_,_,rfl,.inr ⟨b,cD.of f,rfl⟩,by rw[d.len];exact q _ F H (Al.refl ..) rfl⟩
 .cases e
def kF:List PV->Option PO
 |[.lst xs]=>aa (.lst xs)
 |[.tup xs]=>aa (.lst xs)
 |_=>ah
theorem wF:mo K (λh H Q=>∃p c,h=[.ref p]/\(cI K H p c\/cD K H p c)/\∀l,H l=ah->Q (.ref l) (upd H l (.lst c))) kF:=λF H h m Q n j i e q=>by
 unfold kF at e;split at e
 .cases e;obtain⟨v,rfl,a,d,rfl,g,_,f⟩:=iS i;exact⟨a,d,rfl,.inl (.inl g),λl b=>q l F _ _ (Al.new0 b) (v9 b f) (wx b j trivial)⟩
 .cases e;obtain⟨v,rfl,a,d,rfl,g,f⟩:=iS i;exact⟨a,d,rfl,.inr (cD.of g),λl b=>q l F _ _ (Al.new0 b) (v9 b f) (wx b j trivial)⟩
 .cases e
def lz:List PV->Option PV
 |[.lst a]=>aa (.tup a)
 |[.tup a]=>aa (.tup a)
 |_=>ah
theorem xp:PL K (λg H Q=>∃p d,g=[.ref p]/\((cI K H p d/\∀l,H l=ah->Q (.ref l) (upd H l (.tup d)))\/(cD K H p d/\Q (.ref p) H))) lz:=λF H g j Q pv h e q=>by
 unfold lz at e;split at e
 .cases e;obtain⟨v,rfl,a,b,rfl,c,_,f⟩:=iS h;exact⟨a,b,rfl,.inl ⟨.inl c,λl i=>q _ F _ (Al.new0 i) ⟨l,b,rfl,upd_same,(Al.new0 i).reps f⟩⟩⟩
 .cases e;obtain⟨v,rfl,a,b,rfl,c,f⟩:=iS h;exact⟨a,b,rfl,.inr ⟨cD.of c,q _ F H (Al.refl ..) ⟨a,b,rfl,c,f⟩⟩⟩
 .cases e
def jn:List PV->Option (List Tx)
 |[]=>aa []
 |.str x::a=>(jn a).map (x::·)
 |_=>ah
def ai(ls:List Tx):List PV:=ls.map .str
theorem vN(ls:List Tx):jn (ai ls)=aa ls:=by
 induction ls with
 |nil=>rfl
 |cons x ls a=>show(jn (ai ls)).map (x::·)=_;rw[a];rfl
theorem yI:∀{a:List PV}{b:List Tx},jn a=aa b->a=ai b
 |[],b,e=>by cases e;rfl
 |.str x::a,b,e=>by
  unfold jn at e;cases q:jn a with
  |none=>rw[q]at e;cases e
  |some r=>rw[q]at e;cases e;rw[yI q];rfl
 |.non::_,_,e=>by cases e
 |.bl _::_,_,e=>by cases e
 |.int _::_,_,e=>by cases e
 |.tup _::_,_,e=>by cases e
 |.lst _::_,_,e=>by cases e
 |.raw _::_,_,e=>by cases e
 |.exc _::_,_,e=>by cases e
theorem Rw{H:Hp}{F:ag->Prop}:∀{a:List Tx}{b:List V},Reps K H F (ai a) b↔b=eN a/\∀x∈a,x.length<=bR
 |[],b=>by simp[ai,Reps,eN]
 |x::a,b=>by
  show(∃v r,b=v::r/\(v=tV x/\x.length<=bR)/\Reps K H F (ai a) r)↔_;constructor
  .rintro⟨v,r,rfl,⟨rfl,f⟩,h2⟩;obtain⟨rfl,d⟩:=Rw.mp h2;exact⟨rfl,λy c=>by
    rcases bA.mp c with rfl|c
    .exact f
    .exact d y c⟩
  .rintro⟨rfl,h⟩;exact⟨tV x,eN a,rfl,⟨rfl,h x (by simp)⟩,Rw.mpr ⟨rfl,λy c=>h y (by simp[c])⟩⟩
def nP:List PV->Option PO
 |[.lst b]=>(jn b).bind λa=>if a.length<64 then aa (.lst (ai (bS a)))else ah
 |[.tup b]=>(jn b).bind λa=>if a.length<64 then aa (.lst (ai (bS a)))else ah
 |_=>ah
theorem ze:mo K (λm H Q=>∃(p:ag) (b:List Tx),m=[.ref p]/\(cI K H p (eN b)\/cD K H p (eN b))/\b.length<64/\∀l,H l=ah->Q (.ref l) (upd H l (.lst (eN (bS b))))) nP:=λF H m y Q o w n e q=>by
 have f:∀{g:List PV}{c:List V}{a:ag},((jn g).bind λb=>if b.length<64 then aa (PO.lst (ai (bS b)))else ah)=aa o->Reps K H F g c->(cI K H a c\/cD K H a c) ->
   ∃(p:ag) (b:List Tx),[V.ref a]=[.ref p]/\(cI K H p (eN b)\/cD K H p (eN b))/\b.length<64/\∀l,H l=ah->Q (.ref l) (upd H l (.lst (eN (bS b)))):=λ{g c a} e d t=>by
  cases h:jn g with
  |none=>rw[h]at e;cases e
  |some b=>
   rw[h]at e;simp only[lO]at e;split at e
   .rename_i r;cases e;rw[yI h]at d;obtain⟨rfl,u⟩:=Rw.mp d;refine⟨a,b,rfl,t,r,λl i=>q l F _ _ (Al.new0 i) (v9 i (Rw.mpr ⟨rfl,λx s=>u x ((fZ b).mem_iff.mp s)⟩)) (wx i w trivial)⟩
   .cases e
 unfold nP at e;split at e
 .obtain⟨v,rfl,a,c,rfl,j,_,d⟩:=iS n;exact f e d (.inl (.inl j))
 .obtain⟨v,rfl,a,c,rfl,j,d⟩:=iS n;exact f e d (.inr (cD.of j))
 .cases e
def jg:List PV->Option (List Bool)
 |[]=>aa []
 |.bl b::a=>(jg a).map (b::·)
 |_=>ah
theorem zN{H:Hp}{F:ag->Prop}:∀{a:List PV}{c:List V}{bs:List Bool},Reps K H F a c->jg a=aa bs->c=bs.map V.bl
 |[],_,_,r,e=>by cases e;exact r
 |.bl b::a,_,bs,⟨v,r,rfl,f,d⟩,e=>by
  unfold jg at e;cases q:jg a with
  |none=>rw[q]at e;cases e
  |some g=>rw[q]at e;cases e;rw[zN d q,show v=V.bl b from f];rfl
 |.non::_,_,_,_,e=>by cases e
 |.str _::_,_,_,_,e=>by cases e
 |.int _::_,_,_,_,e=>by cases e
 |.tup _::_,_,_,_,e=>by cases e
 |.lst _::_,_,_,_,e=>by cases e
 |.raw _::_,_,_,_,e=>by cases e
 |.exc _::_,_,_,_,e=>by cases e
def lC:List PV->Option PV
 |[.lst a]=>(jg a).map λbs=>.bl (bs.all id)
 |_=>ah
theorem uz:PL K (λc H Q=>∃(p:ag) (bs:List Bool),c=[.ref p]/\cI K H p (bs.map V.bl)/\Q (.bl (bs.all id)) H) lC:=λF H c i Q pv g e q=>by
 unfold lC at e;split at e
 .rename_i f;cases b:jg f with
  |none=>rw[b]at e;cases e
  |some bs=>
   rw[b]at e;cases e;obtain⟨v,rfl,a,j,rfl,d,_,h⟩:=iS g;rw[zN h b]at d;exact⟨a,bs,rfl,.inl d,q _ F H (Al.refl ..) rfl⟩
 .cases e
def q0:PV->Option String
 |.non=>aa "NoneType"
 |.bl _=>aa "bool"
 |.int _=>aa "int"
 |.str _=>aa "str"
 |.tup _=>aa "tuple"
 |.lst _=>aa "list"
 |_=>ah
def cb:List PV->Option PV
 |[x,.raw (.ty T)]=>(q0 x).bind λt=>(dD [] (.type t) (.type T)).map λb=>.bl b
 |_=>ah
theorem gS:gn X (.builtin "isinstance") (λa H Q=>∃x t T b,a=[x,.ty T]/\iY X.K H x (.type t)/\dD X.K (.type t) (.type T)=aa b/\Q (.bl b) H):=by
 intro m s i H a j Q I r h;obtain⟨x,t,T,b,rfl,ty,e,q⟩:=h;cases r with
 |cons g f=>
  cases f with
  |cons d c=>
   cases c;cases d;exact LJ I g ty e λl=>⟨.bl b,H,I.tok _,rfl,q⟩
theorem Mr{H:Hp}{F:ag->Prop}{x:PV}{v:V}{t:String}(r:bd K H F x v)(e:q0 x=aa t):iY K H v (.type t):=by
 cases x with
 |non=>cases e;rw[show v=V.non from r];exact .non
 |bl b=>cases e;rw[show v=V.bl b from r];exact .bl b
 |int b=>cases e;rw[show v=V.int b from r];exact .int b
 |str b=>cases e;rw[show v=tV b from r.1];exact .str _
 |tup d=>cases e;obtain⟨a,f,rfl,c,_⟩:=r;exact .tup c
 |lst d=>
  cases e;obtain⟨a,f,rfl,c,_⟩:=r;rcases c with c|⟨o,c⟩
  .exact .lst c
  .exact .frz c
 |raw _=>cases e
 |exc _=>cases e
theorem gZ:PL K (λd H Q=>∃x t T b,d=[x,.ty T]/\iY K H x (.type t)/\dD K (.type t) (.type T)=aa b/\Q (.bl b) H) cb:=λF H d j Q pv f e q=>by
 unfold cb at e;split at e
 .rename_i x T;cases a:q0 x with
  |none=>rw[a]at e;cases e
  |some t=>
   cases c:dD [] (.type t) (.type T)with
   |none=>rw[a,lO,c]at e;cases e
   |some b=>
    rw[a,lO,c]at e;cases e;obtain⟨v,l,rfl,i,h⟩:=f;obtain⟨u,rfl,g⟩:=iS h;rw[show u=V.ty T from g];exact⟨v,t,T,b,rfl,Mr i a,c,q _ F H (Al.refl ..) rfl⟩
 .cases e
theorem gW{E:XK}{x:Str}{T:String}{f:Pos}(c:X.mg x=ah)(a:fi x=aa (.type T))(d:Gl X x:=by rfl)(b:x≠"__name__":=by decide)(g:(x==("__debug__":Str))=aj:=by decide):DE X E (.Name x f) (dC (.raw (.ty T))):=λF S i h H Q r q=>cE (Mf (v:=.ty T) d c a rfl b g) (q F S H r (bO.refl ..) _ rfl)
def aF:PV->PV->Option PV
 |.lst xs,.int i=>fS xs i
 |.tup xs,.int i=>fS xs i
 |.str x,.int i=>(fS x i).map λc=>.str [c]
 |_,_=>ah
theorem CP{H:Hp}{F:ag->Prop}{a:List PV}{b:List V}{i:Int}{x:PV}(r:Reps K H F a b)(e:fS a i=aa x):∃v,fS b i=aa v/\bd K H F x v:=by
 unfold fS at e ⊢;rw[r.len];cases q:o5 a.length i with
 |none=>rw[q]at e;cases e
 |some j=>rw[q]at e;exact r.get e
theorem ca:P2 K (Gg K) aF:=λF H x y v u Q pv b f e q=>by
 unfold aF at e;split at e
 .rename_i n i;obtain⟨a,d,rfl,j,_,g⟩:=b;obtain⟨w,m,l⟩:=CP g e;exact .inl ⟨a,d,i,w,rfl,f,.inl j,m,q _ F H (Al.refl ..) l⟩
 .rename_i n i;obtain⟨a,d,rfl,j,g⟩:=b;obtain⟨w,m,l⟩:=CP g e;exact .inr (.inl ⟨a,d,i,w,rfl,f,cD.of j,m,q _ F H (Al.refl ..) l⟩)
 .rename_i x i;cases h:fS x i with
  |none=>rw[h]at e;cases e
  |some c=>
   rw[h]at e;cases e;rw[b.1];exact .inr (.inr ⟨_,i,c,rfl,f,by rw[lu];exact dX b.2 nG,by rw[pj];exact h,q _ F H (Al.refl ..) ⟨rfl,by show 1<=bR;decide⟩⟩)
 .cases e
def cV{b:Type}(a:List b)(c d:Option Int):List b:=(a.drop (HT.sIx a.length 0 c)).take (HT.sIx a.length a.length d-HT.sIx a.length 0 c)
theorem E_{b:Type}(a:List b)(c d:Option Int):(cV a c d).length<=a.length:=by unfold cV;rw[lL,kX];lia
def bD:PV->Option Int->Option Int->Option PV
 |.str x,b,c=>aa (.str (cV x b c))
 |.lst a,b,c=>aa (.lst (cV a b c))
 |.tup a,b,c=>if HT.sIx a.length 0 b=0/\HT.sIx a.length a.length c=a.length then ah else aa (.tup (cV a b c))
 |_,_,_=>ah
def wj(K:aA):V->Option Int->Option Int->Hp->VK->Prop:=λx a b H Q=>EG x a b H Q\/(Eb K x a b H Q\/FL K x a b H Q)
theorem eE:kA X (wj X.K):=Rt.or (Rx.or LA)
theorem Da{H:Hp}{F:ag->Prop}{a:List PV}{b:List V}(r:Reps K H F a b)(c d:Option Int):Reps K H F (cV a c d) (nu b c d):=by unfold cV nu;rw[r.len];exact(r.drop _).take _
theorem d8:zU K (wj K) bD:=λF H x h i v Q pv b e q=>by
 unfold bD at e;split at e
 .cases e;rw[b.1];refine .inl ⟨_,rfl,by rw[lu];exact dX b.2 nG,?_⟩;refine q _ F H (Al.refl ..) ⟨?_,dX (E_ ..) b.2⟩;unfold lq cV;rw[lu,pj];rfl
 .cases e;obtain⟨a,f,rfl,g,_,d⟩:=b;exact .inr (.inl ⟨a,f,rfl,.inl g,λp c=>q _ _ _ (Al.new c) ⟨p,_,rfl,.inl upd_same,.inr rfl,(Al.new c).reps (Da d h i)⟩⟩)
 .split at e
  .cases e
  .rename_i j;cases e;obtain⟨a,f,rfl,g,d⟩:=b;exact .inr (.inr ⟨a,f,rfl,cD.of g,by rw[d.len];exact j,λp c=>q _ _ _ (Al.new0 c) ⟨p,_,rfl,upd_same,(Al.new0 c).reps (Da d h i)⟩⟩)
 .cases e
variable{E:XK}{g l a b:aD}{d:ac->R PV}{m:ac->R (List PV)}{p f:Pos}
def iB:PV->Option (List PV)
 |.lst h=>aa h
 |.tup h=>aa h
 |.str x=>aa (x.map λc=>.str [c])
 |_=>ah
def aR(d:ac->R PV):ac->R (List PV):=λε=>(d ε).bind λx ε1=>aO (iB x) ε1
theorem D1{H:Hp}{F:ag->Prop}:∀(x:Tx),Reps K H F (x.map λc=>PV.str [c]) (x.map sg)
 |[]=>rfl
 |c::x=>⟨sg c,x.map sg,rfl,⟨rfl,by show 1<=bR;decide⟩,D1 x⟩
theorem d9(he:DE X E l d):DI X E g l (aR d):=λF S ε Z H Rr rl h=>Bx.mk λaf s I=>by
 have w:=he F S ε Z H (λv r=>∃B D u x,a_ X.K B D u Z r/\bd X.K r B x v/\Ok X.K E Z B D r (aO (iB x) u) (λpvs _ F' S' H'=>∀J L RR,Reps X.K H' F' pvs L->L.length<=bB->Walk J L RR->(∀S'' F'' Y,bO (U S') (U S'') F' F'' H' Y->RR Y)->Rr J H')) rl
  ((Ok.bind h).imp λx u B D r G g1 q v N=>⟨B,D,u,x,G,N,q⟩)
 refine a9 (w.run af s I) λv c ⟨x,r,y,rx,B,D,u,pv,G,N,q⟩=>?_;cases pv with
 |lst xs=>
  obtain⟨a,M,rfl,C,hF,ra⟩:=N;cases rx;obtain⟨O,rr,pp,P⟩:=y.list (.inl C);refine BL pp.isList ?_;refine⟨c.heap.objs.size,[c.heap.objs.size],_,_,r,rfl,y.kept (t':=c.toks) λb o e=>bz _ e,No a _,⟨_,cL _ rfl,rfl,rfl⟩,λb T=>?_,q B D r G (bO.refl ..) (yZ X.K a) M (λH=>cI X.K H a M) ra P ND λS2 F2 H2 g2=>.inl (g2.lst G.fit hF C)⟩;have e:b=c.heap.objs.size:=by simpa using T
  subst e;exact y.fpOk (bC _) (y.hok.fresh (bC _))
 |tup xs=>
  obtain⟨a,M,rfl,C,ra⟩:=N;cases rx;obtain⟨O,rr,pp,P⟩:=y.tuple (cD.of C);refine rP (show c.heap.IsTuple a O.toArray from pp) ?_;refine⟨c.heap.objs.size,[c.heap.objs.size],_,_,r,rfl,y.kept (t':=c.toks) λb o e=>bz _ e,Py a _,⟨_,cL _ rfl,rfl,rfl⟩,λb T=>?_,q B D r G (bO.refl ..) (Am X.K a) M (λH=>cD X.K H a M) ra P Jj λS2 F2 H2 g2=>cD.of (g2.imm G.fit C id)⟩;have e:b=c.heap.objs.size:=by simpa using T
  subst e;exact y.fpOk (bC _) (y.hok.fresh (bC _))
 |str z=>
  obtain⟨rfl,P⟩:=N;obtain⟨t,rfl⟩:=rx;have qq:Rr (um (tS z)) r:=q B D r G (bO.refl ..) (um (tS z)) (z.map sg) (λ_=>True) (D1 z) (by rw[b0];exact dX P nG) (by have:=Oe (z:=tS z);rw[pj]at this;exact this) λ_ _ _ _=>trivial;have W:∀(n:String) (j:Nat->aJ->Prop),(∀i h,j i h->∃o n L,h.get? c.heap.objs.size=aa o/\o.cls=.type n/\o.data=.fields L /\ ["enumerate","zip","dict_itemiterator","dict_reverseitemiterator","odict_iterator","itertools.zip_longest","itertools.pairwise"].contains n=aj) ->
    (∀(A:bG) (i:Nat) (s:aq) (Q:ak->aq->Prop) (E:ak->aq->Prop),j i s.heap->Q (.ref c.heap.objs.size) s->ax (aH X.prog X.w) A (n6 (.ref c.heap.objs.size)) Q E s) ->
    (∀A:bG,A.handled=ah->Walks X.prog X.w A c.heap.objs.size [c.heap.objs.size] [c.heap.objs.size] (tS z).cps.size (SignAt (tS z)) j) ->
    j 0 (c.heap.push {cls:=.type n,data:=.fields #[.str (tS z) t,.int 0 0]}) ->
    vI X af Z g Rr (.ref c.heap.objs.size) {c with heap:=c.heap.push {cls:=.type n,data:=.fields #[.str (tS z) t,.int 0 0]}}:=λn j q h2 h3 h4=>by
   refine⟨c.heap.objs.size,[c.heap.objs.size],j,um (tS z),r,rfl,y.kept (t':=c.toks) λb o e=>bz _ e,Pi q h2 h3,h4,λb T=>?_,qq⟩;have e:b=c.heap.objs.size:=by simpa using T
   subst e;exact y.fpOk (bC _) (y.hok.fresh (bC _))
  cases C:(tS z).cps.all (· < 128)
  .refine wpAny_pyIter_wide C (W "str_iterator" (λi h=>h.IsStrIter c.heap.objs.size "str_iterator" (tS z) t i) (λi h ⟨o,e1,e2,e3⟩=>⟨o,_,_,e1,e2,e3,by decide⟩) (λA i s Q E st h=>wpAny_pyIter_striter_wide st h) (λA' hA=>Walks.strWide hA _ (tS z) t) ⟨_,cL _ rfl,rfl,rfl⟩)
  .refine wpAny_pyIter_ascii C (W "str_ascii_iterator" (λi h=>h.IsStrIter c.heap.objs.size "str_ascii_iterator" (tS z) t i) (λi h ⟨o,e1,e2,e3⟩=>⟨o,_,_,e1,e2,e3,by decide⟩) (λA i s Q E st h=>wpAny_pyIter_striter_ascii st h) (λA' hA=>Walks.strAscii hA _ (tS z) t) ⟨_,cL _ rfl,rfl,rfl⟩)
 |non=>exact(show False from q).elim
 |bl _=>exact(show False from q).elim
 |int _=>exact(show False from q).elim
 |raw _=>exact(show False from q).elim
 |exc _=>exact(show False from q).elim
def dE(c:Int)(n:Nat):List PV:=(cg n).map λi=>PV.int (c+(i:Nat))
theorem JZ{H:Hp}{F:ag->Prop}(c:Int)(n:Nat):Reps K H F (dE c n) (qD c n):=by
 unfold dE qD
 induction (cg n)with
 |nil=>rfl
 |cons x i h=>exact⟨_,_,rfl,rfl,h⟩
def fc:List PV->Option (List PV)
 |[.int j]=>if j<=1000000/\-1000000<=j then aa (dE 0 j.toNat)else ah
 |_=>ah
theorem mi(w:X.mg "range"=ah)(y:DA X E [a] m)(x:Gl X "range":=by rfl)(u:bo [a] X.env=[(aj,bq a X.env)]:=by rfl):DI X E g (.Call (.Name "range" p) [a] [] f) (dL fc m):=λF S o i H J r h=>by
 refine Lk (QS x w ik u) (y F S o i H _ r ((Ok.bind h).imp λC n B z A s I c D t=>?_));unfold fc at c;split at c
 .rename_i j;split at c
  .rename_i G;obtain⟨v,rfl,q⟩:=iS t;refine⟨j,by rw[show v=V.int j from q],∅,∅,c B z A s (bO.refl ..) _ _ _ (JZ 0 j.toNat) (by rw[zg,pM];lia) LS λ_ _ _ _=>trivial⟩
  .exact c.elim
 .exact c.elim
end
section
variable{K:aA}{F:ag->Prop}{S:Nat->ag->Prop}{f:ac}{l:St}{H:Hp}{i:Nat}{p m:List PV}{d:List V}{a:ag}
theorem a_.lstAt(r:a_ K F S f l H)(e:f[i]?=aa (.own (.lst p))):∃a c,l[i]?=aa (aa (.ref a))/\H a=aa (.lst c)/\Reps K H F p c/\S i a/\∀b,S i b->b=a:=by obtain⟨a,o,⟨c,n,j⟩,g⟩:=r.own i _ e;exact⟨a,c,o,n,j,(g a).mpr rfl,λb h=>(g b).mp h⟩
theorem a_.upd(r:a_ K F S f l H)(e:f[i]?=aa (.own (.lst p)))(D:l[i]?=aa (aa (.ref a)))(h:Reps K H F m d):a_ K F S (f.set i (.own (.lst m))) l (upd H a (.lst d))/\bO (U S) (U S) F F H (upd H a (.lst d)):=by
 obtain⟨N,J,E,M,L,x,B⟩:=r.lstAt e;rw[D]at E;cases E;have A:i<f.length:=(eF.mp e).1;have g:bO (U S) (U S) F F H (L2.upd H a (.lst d)):=⟨λ_ z=>z,λb o q n=>by rw[cc (by rintro rfl;exact n ⟨i,x⟩)];exact q,λb o q=>by
  by_cases C:b=a
  .subst C;exact⟨_,upd_same⟩
  .exact⟨o,by rw[cc C];exact q⟩,λ_ z=>.inl z,λ_ z=>.inl z⟩
 refine⟨⟨by rw[kl];exact r.len,λb z=>let ⟨o,q⟩:=r.ex b z;g.there b o q,λj pv q=>?_,λj y q=>?_,λj b z=>?_,r.dist⟩,g⟩
 .have s:i≠j:=by rintro rfl;rw[ge A]at q;cases q
  rw[eT s]at q;obtain⟨v,u,t⟩:=r.val j pv q;exact⟨v,u,t.grow g r.fit⟩
 .by_cases s:i=j
  .subst s;rw[ge A]at q;cases q;exact⟨a,D,⟨d,upd_same,h.grow g r.fit⟩,λb=>⟨B b,λz=>by rw[z];exact x⟩⟩
  .rw[eT s]at q;obtain⟨c,u,t⟩:=r.own j y q;refine⟨c,u,t.mono (λ_ _ z=>z.grow g r.fit) (λ_ _ z=>z.grow g r.fit) λb o z w=>?_⟩;rw[cc (by rintro rfl;exact s (r.dist i j b x z))];exact w
 .obtain⟨⟨y,u⟩,t,o,I,G⟩:=r.foot j b z;by_cases s:i=j
  .subst s;rw[B b z];exact⟨⟨_,ge A⟩,by rw[<-B b z];exact t,_,upd_same,trivial⟩
  .exact⟨⟨y,by rw[eT s];exact u⟩,t,o,by rw[cc (by rintro rfl;exact s (r.dist i j b x z))];exact I,G⟩
end
section
variable{X:Cx}{E:XK}{pin:List Nat}{e b:aD}{de db:ac->R PV}{c:Pos}
def j3(ε:ac)(i:Nat):Option (List PV):=match ε[i]? with
 |some (.own (.lst a))=>aa a
 |_=>ah
theorem t_{a:ac}{i:Nat}{d:List PV}(h:j3 a i=aa d):a[i]?=aa (.own (.lst d)):=by
 unfold j3 at h;split at h
 .cases h;assumption
 .cases h
def iu(i:Nat)(de:ac->R PV):ac->R aK:=λε=>(aO (j3 ε i) ε).bind λ_ ε=>(de ε).bind λy ε1=>(aO (j3 ε1 i) ε1).bind λa ε1=>if a.length<bR then .ok .next (ε1.set i (.own (.lst (a++[y]))))else .no
theorem tU(i:Nat){x:Str}{p f d:Pos}(M:DE X E e de)(P:X.N[i]?=aa x:=by rfl)(J:gT X.env.scope x:=by eq_refl)(N:(x==("__debug__":Str))=aj:=by decide)(cO:(x==("__classdict__":Str))=aj:=by decide) (Y:n_ (.Name x p) "append" X.env (bq (.Name x p) X.env)=bq (.Name x p) X.env:=by rfl)(W:((fk d (bo [e] X.env)).all (λx=>!x.1)&&(backToKw d (BA [] X.env)).all (λx=>x.1.isSome)&&decide ([e].length+([]:List pS).length+(if([]:List pS).isEmpty then 0 else 1)<30))=ae:=by rfl)(T:(f.endLine == d.line)=ae:=by rfl) (z:bo [e] X.env=(aj,bq e X.env)::bo [] X.env:=by rfl) (Q:(fk d (bo [] X.env)).any (·.1)=aj:=by rfl)(K:kR (.Call (.Attribute (.Name x p) "append" f) [e] [] d) ah c.line X.env=pure aj:=by rfl):DS X E pin (.Expr (.Call (.Attribute (.Name x p) "append" f) [e] [] d) c) (iu i de):=λF S s r H D t h=>by
 unfold iu at h;cases o:j3 s i with
 |none=>rw[o]at h;exact h.elim
 |some A=>
  rw[o]at h;simp only[c9,R.bind_ok]at h;obtain⟨a,B,n,O,_,_,_⟩:=t.lstAt (t_ o);refine ix (E9 (Ps PySem.F.plainAttrs_list PySem.F.slot_list_append PySem.F.type_list_append E3 (iQ P J N cO) (jH b_ lw z) Y W T z Q) K) ⟨.ref a,n,.inl ⟨rfl,_,cI.of O⟩,?_⟩;refine M F S s r H _ t (h.bindE.imp λy l F1 S1 H1 w g1 q v G=>?_);cases j:j3 l i with
  |none=>rw[j]at q;exact q.elim
  |some xs=>
   rw[j]at q;simp only[c9,R.bind_ok]at q;obtain⟨a',C,g,m,u,_,_⟩:=w.lstAt (t_ j);rw[n]at g;cases g;split at q
   .rename_i L;obtain⟨I,Z⟩:=w.upd (t_ j) n (u.app (.one G));exact⟨a,C,v,rfl,rfl,m,by rw[u.len];exact iG L nG,q F1 S1 r _ I Z (jA.refl _ _)⟩
   .exact q.elim
end
mutual
def imm:PV->Bool
 |.lst _=>aj
 |.tup a=>mw a
 |_=>ae
def mw:List PV->Bool
 |[]=>ae
 |x::a=>imm x&&mw a
end
mutual
theorem bd.imm{K:aA}{H:Hp}{F i:ag->Prop}:∀(x:PV) {v:V},imm x=ae->bd K H F x v->bd K H i x v
 |.non,_,_,h=>h
 |.bl _,_,_,h=>h
 |.int _,_,_,h=>h
 |.str _,_,_,h=>h
 |.raw _,_,_,h=>h
 |.exc _,_,_,h=>h
 |.lst _,_,e,_=>by simp[Pu.imm]at e
 |.tup b,_,e,⟨a,c,g,f,d⟩=>⟨a,c,g,f,Reps.imm b (by simpa[Pu.imm]using e) d⟩
theorem Reps.imm{K:aA}{H:Hp}{F i:ag->Prop}:∀(a:List PV) {b:List V},mw a=ae->Reps K H F a b->Reps K H i a b
 |[],_,_,h=>h
 |x::a,_,e,⟨v,r,g,f,d⟩=>by
  have c:imm x=ae/\mw a=ae:=by simpa[mw]using e
  exact⟨v,r,g,bd.imm x c.1 f,Reps.imm a c.2 d⟩
end
section
variable{K:aA}{F:ag->Prop}{S:Nat->ag->Prop}{d:ac}{c:St}{H:Hp}{i:Nat}{f:List PV}
theorem a_.look(r:a_ K F S d c H)(e:d[i]?=aa (.own (.lst f))):∃a,c[i]?=aa (aa (.ref a))/\¬F a/\bd K H (λb=>F b\/b=a) (.lst f) (.ref a)/\(∀b,F b\/b=a->∃o,H b=aa o) /\ (∀{h g},Al (λb=>F b\/b=a) h H g->Al F (λb=>h b/\b≠a) H g):=by
 obtain⟨a,m,q,l,p,n,s⟩:=r.lstAt e;have j:¬F a:=(r.foot i a n).2.1;refine⟨a,q,j,⟨a,m,rfl,.inl l,.inr rfl,Reps.mono (λ_ z=>.inl z) (λ_ _ _ z=>z) (λ_ _ z _=>z) _ _ p⟩,λb z=>z.elim (r.ex b) λz=>by rw[z];exact⟨_,l⟩,λ{h g} al=>⟨λb z=>⟨al.fro b (.inl z),by rintro rfl;exact j z⟩,al.same,λb z=>?_⟩⟩;rcases al.fnew b z.1 with(w|w)|w
 .exact .inl w
 .exact absurd w z.2
 .exact .inr w
end
section
variable{X:Cx}{E:XK}{e b:aD}{de db:ac->R PV}{d p:Pos}{x y:Str}{l T:String}{r:List V->Hp->VK->Prop}{f:List PV->Option PV}{g:List PV->Option PO}
def sU(o:Option PV):Option PV:=o.bind λv=>if imm v then aa v else ah
theorem IQ{o:Option PV}{v:PV}(h:sU o=aa v):o=aa v/\imm v=ae:=by
 cases o with
 |none=>cases h
 |some w=>
  have h:(if imm w then aa w else ah)=aa v:=h;split at h
  .cases h;exact⟨rfl,by assumption⟩
  .cases h
def FZ:PO->Bool
 |.lst a=>mw a
 |_=>aj
def mD{c:Type}(f:List PV->Option c)(i:Nat):ac->R c:=λa=>(aO (j3 a i) a).bind λh a=>aO (f [.lst h]) a
theorem QQ{F:ag->Prop}{S:Nat->ag->Prop}{n:ac}{m:St}{H:Hp}{Q:VK}{i:Nat}(B:PL X.K r f)(t:a_ X.K F S n m H)(h:Ok X.K E m F S H (mD (λc=>sU (f c)) i n) (λpv _ z _ j=>∀v,bd X.K j z pv v->Q v j)):∃a,m[i]?=aa (aa (.ref a))/\r [.ref a] H Q:=by
 unfold mD at h;cases s:j3 n i with
 |none=>rw[s]at h;exact h.elim
 |some c=>
  rw[s]at h;simp only[c9,R.bind_ok]at h;obtain⟨a,D,J,A,C,u⟩:=t.look (t_ s);refine⟨a,D,?_⟩;cases q:sU (f [.lst c])with
  |none=>rw[q]at h;exact h.elim
  |some pv=>rw[q]at h;obtain⟨I,G⟩:=IQ q;exact B _ H [.lst c] [.ref a] Q pv (.one A) I λw z j al o=>h _ S j (t.al (u al)) (u al).grow w (bd.imm pv G o)
theorem OI(i:Nat)(A:gn X (.builtin l) r)(t:PL X.K r f)(v:X.mg x=ah)(o:fi x=aa (.builtin l))(B:X.N[i]?=aa y:=by rfl)(C:gT X.env.scope y:=by eq_refl)(z:(y==("__debug__":Str))=aj:=by decide) (I:(y==("__classdict__":Str))=aj:=by decide) (w:Gl X x:=by rfl) (u:x≠"__name__":=by decide) (n:(x==("__debug__":Str))=aj:=by decide) {c:Pos}(h:bo [.Name y c] X.env=(aj,bq (.Name y c) X.env)::bo [] X.env:=by rfl) (G:(fk d (bo [] X.env)).any (·.1)=aj:=by rfl):DE X E (.Call (.Name x p) [.Name y c] [] d) (mD (λj=>sU (f j)) i):=λF S K J H Q m q=>by obtain⟨a,D,s⟩:=QQ t m q;exact cE (nX A w v o (jH (iQ B C z I) lw h) u n h G) ⟨_,D,s⟩
def wY(o:Option PO):Option PO:=o.bind λv=>if FZ v then aa v else ah
theorem Pm{F:ag->Prop}{S:Nat->ag->Prop}{t:ac}{s:St}{H:Hp}{Q:VK}{i:Nat}(hp:mo X.K r g)(A:a_ X.K F S t s H)(h:Ok X.K E s F S H (mD (λm=>wY (g m)) i t) (λB _ J S' q=>∀a u,fo X.K q J B a u->(∀b,u b->H b=ah/\¬J b/\¬U S' b/\∃o,q b=aa o/\e_ o)->Q (.ref a) q)):∃a,s[i]?=aa (aa (.ref a))/\r [.ref a] H Q:=by
 unfold mD at h;cases I:j3 t i with
 |none=>rw[I]at h;exact h.elim
 |some m=>
  rw[I]at h;simp only[c9,R.bind_ok]at h;obtain⟨a,ea,nF,Y,D,M⟩:=A.look (t_ I);refine⟨a,ea,?_⟩;cases G:g [.lst m]with
  |none=>rw[G]at h;exact h.elim
  |some B=>
   rw[G]at h;cases B with
   |dK n=>exact h.elim
   |lls jv=>exact h.elim
   |ins C fs=>exact h.elim
   |dT n=>exact h.elim
   |dN n=>exact h.elim
   |inl C fs y m=>exact h.elim
   |lst v=>
    have h:Ok X.K E s F S H (aO (if mw v then aa (PO.lst v)else ah) t) _:=h;split at h
    .rename_i hi;refine hp _ H [.lst m] [.ref a] Q _ D (.one Y) G λc J q u al Z fr=>h _ S q (A.al (M al)) (M al).grow c u ?_ λb z=>?_
     .obtain⟨⟨W,o1,o2⟩,o3⟩:=Z;exact⟨⟨W,o1,Reps.imm v hi o2⟩,o3⟩
     .obtain⟨K,P,o,O,N⟩:=fr b z;refine⟨K,λw=>P w.1,λ⟨j,w⟩=>?_,o,O,N⟩;obtain⟨_,_,o',L,_⟩:=A.foot j b w;rw[K]at L;cases L
    .exact h.elim
theorem Oh(i:Nat)(A:gn X (.builtin l) r)(t:mo X.K r g)(v:X.mg x=ah)(o:fi x=aa (.builtin l))(B:X.N[i]?=aa y:=by rfl)(C:gT X.env.scope y:=by eq_refl)(z:(y==("__debug__":Str))=aj:=by decide) (I:(y==("__classdict__":Str))=aj:=by decide) (w:Gl X x:=by rfl) (u:x≠"__name__":=by decide) (n:(x==("__debug__":Str))=aj:=by decide) {c:Pos}(h:bo [.Name y c] X.env=(aj,bq (.Name y c) X.env)::bo [] X.env:=by rfl) (G:(fk d (bo [] X.env)).any (·.1)=aj:=by rfl):DN X E (.Call (.Name x p) [.Name y c] [] d) (mD (λj=>wY (g j)) i):=λF S K J H Q m q=>by obtain⟨a,D,s⟩:=Pm t m q;exact cE (nX A w v o (jH (iQ B C z I) lw h) u n h G) ⟨_,D,s⟩
end
end Pu
namespace Pu
open L2
def o8(h:aJ)(e T:ag)(c g:ak):Prop:=∃a b f d,h.get? e=aa a/\a.cls=c/\(a.data=.fields b/\a.dict=ah)/\b[1]?=aa (.ref T)/\T≠e/\h.get? T=aa f/\f.data=.fields d/\d[3]?=aa g
def Made(h:aJ)(e:ag)(c:ak):Prop:=∃a b,h.get? e=aa a/\a.cls=c/\(a.data=.fields b/\a.dict=ah)/\b[1]?=aa .none
structure Kp(fs:List ag)(X:ag->Prop)(h h':aJ):Prop where
 keep:∀b o,h.get? b=aa o->b∉fs->¬X b->h'.get? b=aa o
 slot:∀b o,h.get? b=aa o->b∈fs->¬X b->∃sl,h'.get? b=aa {o with slots:=sl}
 there:∀b o,h.get? b=aa o->∃o',h'.get? b=aa o'
theorem Kp.trans{fs:List ag}{X Y:ag->Prop}{h g f:aJ}(a:Kp fs X h g)(b:Kp fs Y g f):Kp fs (λc=>X c\/Y c) h f where
 keep:=λc o e n x=>b.keep c o (a.keep c o e n λz=>x (.inl z)) n λz=>x (.inr z)
 slot:=λc o e n x=>by obtain⟨l,j⟩:=a.slot c o e n λz=>x (.inl z);obtain⟨d,i⟩:=b.slot c _ j n λz=>x (.inr z);exact⟨d,i⟩
 there:=λc o e=>let ⟨o',e'⟩:=a.there c o e;b.there c o' e'
theorem Kp.imp{fs d:List ag}{X Y:ag->Prop}{h j:aJ}(a:Kp fs X h j)(f:∀b,b∈fs->b∈d)(g:∀b o,h.get? b=aa o->X b->Y b):Kp d Y h j where
 keep:=λc o e n x=>a.keep c o e (λz=>n (f c z)) λz=>x (g c o e z)
 slot:=λc o e n x=>by
  by_cases i:c∈fs
  .exact a.slot c o e i λz=>x (g c o e z)
  .exact⟨o.slots,a.keep c o e i λz=>x (g c o e z)⟩
 there:=a.there
theorem LI(f:Array ak->Array ak)(o:Obj):(pX f o).dict=o.dict:=by
 obtain⟨c,d,dt,a⟩:=o;cases dt <;> rfl
section
variable{M:Model}{A:bG}{E:ak->aq->Prop}{s:aq}
theorem DK{z:aJ}{l:Env}{g:List Env}{L e:ag}{w:Obj}{G:Array ak}{B:ak}{Ri:Bool}{Q:Unit->aq->Prop}(lY:A.frames=aa (l::g)) (P:s.heap.FunFrames z (l::g)) (hf:l.frame=aa L) (S:s.heap.get? e=aa w) (I:w.data=.fields G) (Y:w.dict=ah) (v:1<G.size)(h:∀K T,Kp (gs (l::g)) (λb=>b=e) s.heap K->o8 K e T w.cls .none->s.heap.objs.size<=T->Q () {s with heap:=K}):ax M A (do let a <-frameOf l;let t <-entryPlaceOf L Ri;let b <-EntryCells.newEntry B a .none (dY L) .none t;mW (.ref e) 1 b) (λ_ Z=>ax M A (setFlight (.ref e) ah) Q E Z) E s:=by
 have y:e∉(l::g).filterMap (·.frame):=λhm=>by obtain⟨_,o,F,X⟩:=P.mem hm;rw[S]at F;injection F with F;subst F;exact X G I
 refine au (wpAny_frameOf_fun lY P hf λc d=>?_);refine au (wpAny_entryPlaceOf λt W=>?_);unfold EntryCells.newEntry newFields;refine au (i8 ?_ (W.sizeOk5 _ _ _ _ _));have p:c.get? e=aa w:=(d.2.1 e y).trans S;have n:=bz (h:=c) {cls:=.type "traceback",dict:=ah,data:=.fields ([B,.ref L,.none,dY L,.none]++(if t.isEmpty then cr 6 Value.none else t)).toArray} p;refine pV n I v ?_;have C:c.objs.size≠e:=iZ (bN p);have j:=uP I (·.setIfInBounds 1 (Value.ref c.objs.size));have i:=pU (pX (·.setIfInBounds 1 (Value.ref c.objs.size))) n (BU j);have r:=(rD (c.push {cls:=.type "traceback",dict:=ah,data:=.fields ([B,.ref L,.none,dY L,.none]++(if t.isEmpty then cr 6 Value.none else t)).toArray}) (pX (·.setIfInBounds 1 (Value.ref c.objs.size))) (fj C)).trans (cL c rfl);unfold setFlight;refine au (io i j (x:=.ref c.objs.size) (by simp[v]) ?_);rw[if_pos (show(Value.ref c.objs.size != Value.none)=ae from by simp)];refine pV r rfl (by simp only[ef,c_,eY,pT] <;> lia) (h _ c.objs.size ?_ ?_ ?_)
 .have m:∀b o,b≠e->c.get? b=aa o ->
    (((c.push {cls:=.type "traceback",dict:=ah,data:=.fields ([B,.ref L,.none,dY L,.none]++(if t.isEmpty then cr 6 Value.none else t)).toArray}).update e (pX (·.setIfInBounds 1 (Value.ref c.objs.size)))).update c.objs.size (pX (·.setIfInBounds 3 ((ah:Option ag).elim Value.none λf=>dY f)))).get? b=aa o:=λb o D u=>by
   have J:c.objs.size≠b:=iZ (bN u);rw[rD _ _ J,rD _ _ (fj D)];exact bz _ u
  refine⟨λb o u O H=>m b o H ((d.2.1 b O).trans u),λb o u O H=>?_,λb o u=>?_⟩
  .obtain⟨N,q⟩:=d.2.2 b o u;exact⟨N,m b _ H q⟩
  .by_cases D:b=e
   .subst D;exact⟨_,(rD _ _ C).trans i⟩
   .obtain⟨N,q⟩:=d.2.2 b o u;exact⟨_,m b _ D q⟩
 .refine⟨_,_,_,_,(rD _ _ C).trans i,Obj.cls_mapFields _ _,⟨j,by rw[LI];exact Y⟩,by simp[v],C,pU _ r (BU (uP rfl _)),uP rfl _,by first | (simp;done) | (rcases W with rfl|⟨_,_,_,_,_,_,_,rfl⟩ <;> simp)⟩
 .exact oh d.1.symm
theorem Ol{f:aJ}{d:Env}{a:List Env}{L e:ag}{c:ak}{Q:Unit->aq->Prop}(o:A.frames=aa (d::a))(q:s.heap.FunFrames f (d::a))(i:d.frame=aa L)(p:Made s.heap e c)(h:∀g T,Kp (gs (d::a)) (λb=>b=e) s.heap g->o8 g e T c .none->s.heap.objs.size<=T->Q () {s with heap:=g}):ax M A (leaving d (.ref e)) Q E s:=by obtain⟨u,t,j,r,⟨l,n⟩,m⟩:=p;subst r;unfold leaving noteFrame;simp only[i];refine au (au (io j l m ?_));rw[if_neg (by decide)];exact DK o q i j l n (BK.mp m).1 h
theorem NQ{n:aJ}{i:Env}{d:List Env}{L e T:ag}{c:ak}{Q:Unit->aq->Prop}(H:A.frames=aa (i::d))(K:s.heap.FunFrames n (i::d))(v:i.frame=aa L)(ht:o8 s.heap e T c .none)(h:∀m p,Kp (gs (i::d)) (λb=>b=e\/b=T) s.heap m->o8 m e p c .none->s.heap.objs.size<=p->Q () {s with heap:=m}):ax M A (noteFrame (.ref e) i) (λ_ G=>ax M A (setFlight (.ref e) ah) Q E G) E s:=by
 obtain⟨S,u,W,D,w,P,⟨x,C⟩,B,F,r,j,y⟩:=ht;subst P;unfold noteFrame;simp only[v];refine au (io w x B ?_);rw[if_pos (show(Value.ref T != Value.none)=ae from by simp)];refine au (io r j y ?_);rw[if_neg (show ¬((Value.none == dY L)=ae)from by simp[dY])];refine au (pV r j (BK.mp y).1 ?_);have a:∀b,b≠T->(s.heap.update T (pX (·.setIfInBounds 3 Value.none))).get? b=s.heap.get? b:=λb f=>rD _ _ (fj f);have g:∀b o,s.heap.get? b=aa o->(∀u,o.data≠.fields u)->b≠T:=λb o f t q=>by rw[q,r]at f;injection f with f;subst f;exact t D j
 refine DK H (K.of_keeps λb o f t=>⟨o,(a b (g b o f t)).trans f,rfl⟩) v ((a e (fj F)).trans w) x C (BK.mp B).1 λm p k N J=>?_;have I:Kp (gs (i::d)) (λb=>b=T) s.heap (s.heap.update T (pX (·.setIfInBounds 3 Value.none))):=by
  refine⟨λb o f _ l=>(a b l).trans f,λb o f _ l=>⟨o.slots,(a b l).trans f⟩,λb o f=>?_⟩;by_cases l:b=T
  .subst l;exact⟨_,pU _ r (BU (uP j _))⟩
  .exact⟨o,(a b l).trans f⟩
 refine h m p ((I.trans k).imp (λ_ z=>z) λb o _ z=>z.symm) N ?_;have O:(s.heap.update T (pX (·.setIfInBounds 3 Value.none))).objs.size<=p:=J;rwa[Heap.size_update]at O
theorem PZ{f:aJ}{d:Env}{a:List Env}{L e T:ag}{c:ak}{Q:Unit->aq->Prop}(j:A.frames=aa (d::a))(l:s.heap.FunFrames f (d::a))(m:d.frame=aa L)(ht:o8 s.heap e T c .none)(h:∀g i,Kp (gs (d::a)) (λb=>b=e\/b=T) s.heap g->o8 g e i c .none->s.heap.objs.size<=i->Q () {s with heap:=g}):ax M A (leaving d (.ref e)) Q E s:=by unfold leaving;exact au (NQ j l m ht h)
end
def cz(P:bv)(w:bc):gR:=λb H s E e s'=>∃(a T:ag) (c:ak) (d:Hp),e=.ref a/\s'.os=s.os/\mP s'.gens/\Un (gs b) [] H d s.heap s'.heap/\eD P w d s'.heap/\o8 s'.heap a T c .none /\
 (s.heap.get? a=ah/\s.heap.get? T=ah/\d a=ah/\d T=ah)/\E c ah d
theorem IJ{P:bv}{w:bc}{H:Hp}{h:aJ}{a:ag}{o:HO}(x:eh P w H h a o):∃u,h.get? a=aa u:=by
 cases o with
 |lst c=>obtain⟨_,_,_,_,e⟩:=x;exact⟨_,e⟩
 |tup c=>obtain⟨_,_,_,⟨o,e,_⟩,_⟩:=x;exact⟨_,e⟩
 |dK b=>obtain⟨_,_,_,_,o,_,_,e,_⟩:=x;exact⟨_,e⟩
 |dT b=>obtain⟨_,_,_,_,o,_,_,e,_⟩:=x;exact⟨_,e⟩
 |dN b=>obtain⟨_,_,_,_,o,_,_,e,_⟩:=x;exact⟨_,e⟩
 |set S n=>obtain⟨o,_,_,_,e,_⟩:=x;exact⟨_,e⟩
 |ins C m fs=>obtain⟨_,_,_,e,_⟩:=x;exact⟨_,e⟩
 |own y=>exact x
 |xd fs=>obtain⟨_,⟨_,_,_,e,_⟩,_⟩:=x;exact⟨_,e⟩
 |rng j l=>obtain⟨_,_,_,e⟩:=x;exact⟨_,e⟩
 |frz i u=>obtain⟨e,_⟩:=x;exact⟨_,e⟩
 |tbl g=>obtain⟨_,e,_⟩:=x;exact⟨_,e⟩
 |met f y=>exact⟨_,x⟩
 |ext d=>obtain⟨_,e,_⟩:=x;exact e
theorem K3{P:bv}{w:bc}{H:Hp}{h:aJ}{a:ag}(x:eD P w H h)(e:h.get? a=ah):H a=ah:=by
 cases q:H a with
 |none=>rfl
 |some u=>obtain⟨o,z⟩:=IJ (x a u q);rw[e]at z;cases z
theorem uf{fs:List ag}{H c:Hp}{h b:aJ}{a:ag}(u:Un fs [] H c h b)(e:b.get? a=ah):h.get? a=ah:=by
 cases q:h.get? a with
 |none=>rfl
 |some o=>obtain⟨d,z⟩:=u.there a o q (by simp);rw[e]at z;cases z
theorem Gf{fs a:List ag}{H p:Hp}{h l j:aJ}{X:ag->Prop}(u:Un fs [] H p h l)(k:Kp a X l j)(r:∀b o,h.get? b=aa o->b∈a->b∈fs)(i:∀b o,h.get? b=aa o->¬X b):Un fs [] H p h j where
 keep:=λb o e n f c=>k.keep b o (u.keep b o e n f c) (λz=>f (r b o e z)) (i b o e)
 slot:=λb o e n f c=>by
  obtain⟨q,m⟩:=u.slot b o e n f c;by_cases d:b∈a
  .obtain⟨g,s⟩:=k.slot b _ m d (i b o e);exact⟨g,s⟩
  .exact⟨q,k.keep b _ m d (i b o e)⟩
 free:=u.free
 there:=λb o e c=>let ⟨o',e'⟩:=u.there b o e c;k.there b o' e'
 tups:=u.tups
 frzs:=u.frzs
 tbls:=u.tbls
theorem Ez{P:bv}{w:bc}{fs:List ag}{H:Hp}{h d:aJ}{X:ag->Prop}(x:eD P w H h)(k:Kp fs X h d)(f:∀b∈fs,H b=ah)(g:∀b,X b->H b=ah):eD P w H d:=λb u e=>
 (x b u e).stay (λc v a q=>k.keep c v q (λz=>by
   have:=f c z;rcases a with rfl|a
   .rw[e]at this;cases this
   .rw[a]at this;cases this) λz=>by
   have:=g c z;rcases a with rfl|a
   .rw[e]at this;cases this
   .rw[a]at this;cases this) (λ_ q=>q) λ_ _ q=>q
section
variable{P:bv}{w:bc}{K:aA}{n:Str->Option ak}{l:aJ}{N:List Str}{j:Str}{g:eP}{f:ag}{p:ak}{A:bG}{i:List Env}{d:aq}{m:Hp}{E:XK}
theorem bU:qM (cz P w) (jG (cz P w) P w K n l N j g f p A i d m E) E:=λaf X H s e s' I h=>by
 obtain⟨a,T,c,W,rfl,G,J,un,y,O,⟨Q,S,F,Y⟩,M⟩:=h;have r:=I.call' (s':=s') (ch:=[]) G un y J (λb z=>absurd z (by simp));refine PZ (L:=d.heap.objs.size) I.ok.frames r.stack rfl O λZ D k B x=>?_;have MB:(jG (cz P w) P w K n l N j g f p A i d m E).ex=[]:=rfl;have u:d.heap.get? a=ah:=uf I.base Q;have C:d.heap.get? T=ah:=uf I.base S;have v:d.heap.get? D=ah:=uf r.base (Hm x);have t:∀b o,d.heap.get? b=aa o->b≠a/\b≠T:=λb o e=>⟨(by rintro rfl;rw[u]at e;cases e),(by rintro rfl;rw[C]at e;cases e)⟩
 refine⟨a,D,c,W,rfl,r.os,r.bare,Gf r.base k (λb o e z=>?_) (λb o e z=>z.elim (t b o e).1 (t b o e).2),Ez r.hok k r.stkFree (λb z=>by rcases z with rfl|rfl <;> assumption),B,⟨u,v,F,r.hok.fresh x⟩,M⟩;rcases bA.mp (I.stkSub b z)with q|q
 .exact absurd (bN e) (by rw[q];exact fh _)
 .exact q
end
section
variable{X:Cx}{E:XK}{pin:List Nat}{e:aD}{de:ac->R PV}{x:Str}{C:ag}{i:List ak}{d f B:String}{l g j:Pos}
def Cd(X:Cx)(E:XK):Prop:=∀(n:List (ag×Obj)) (m:St) (H:Hp) (s:aq) (a:ag) (c:ak) (h:aJ),Inv X n m H s->(∀b o,s.heap.get? b=aa o->h.get? b=aa o)->Made h a c->s.heap.get? a=ah->(E c ah H)->X.xe (.ref a) {s with heap:=h}
def Dc(c:ak)(de:ac->R PV):ac->R aK:=λb=>(de b).bind λ_ a=>.er c a
theorem NJ{h c:aJ}{e:ag}{a:ak}{b:List ak}(m:Heap.MadeExcOf h c e a b):Made c e a:=by obtain⟨t,n,_,_⟩:=m.there;exact⟨_,_,n,rfl,⟨rfl,rfl⟩,rfl⟩
theorem NI(hx:Cd X E)(hc:X.calm=ae)(O:OwnCls x C i d X.mg X.base)(P:ExcBaseFacts B d f i)(he:DE X.nox E0 e de)(hg:Gl X x:=by rfl)(hd:(x==("__debug__":Str))=aj:=by decide)(L:bo [e] X.env=[(aj,bq e X.env)]:=by rfl):DS X E pin (.Raise (aa (.Call (.Name x l) [e] [] g)) ah j) (Dc (.ref C) (λt=>cu (de t))):=λF S t n H D Y q=>Bx.mk λM s I=>by
 obtain⟨Q,N,nm,Z,bs,hdct,sn,sub,ab,col,dd,k0,k1,k2,k3,k5,mN,hC,hN,G,T⟩:=O.obj;refine wpAny_Raise_call_subT (C:=C) (nm:=nm) (q:=Z) (N:=N) (bs:=bs) (bm:=Q) (hdct:=hdct) (sn:=sn) (sub:=sub) (ab:=ab) (col:=col) (dd:=dd) (k0:=k0) (k1:=k1) (k2:=k2) (k3:=k3) (k5:=k5)
  P (mN:=mN) (T.hasType P.hasBase) (I.ok.hd hc) (by rw[L];rfl) G (Bh I hg O.bound ⟨rfl,?_⟩ hd)
 have q2:Ok X.K E0 n F S H (de t) (λ_ b r o p=>iD X.K E pin n r o p (.er (.ref C) b) D):=by
  have q:iD X.K E pin n F S H ((cu (de t)).bind λ_ b=>.er (.ref C) b) D:=q;cases J:de t with
  |no=>rw[J]at q;exact q.elim
  |er c y=>rw[J]at q;exact q.elim
  |ok v y=>rw[J]at q;exact λF' S' H' r' g'=>q.from g' (jA.refl _ _)
 rw[L];refine BB (gy (Bs (gy ((he F S t n H (λv p=>∃r o b,a_ X.K r o b n p/\iD X.K E pin n r o p (.er (.ref C) b) D) Y (q2.imp λv b r o p K g1 h v' rv=>⟨r,o,b,K,h⟩)).run M s (I.wish _)) (λu W ⟨v,p,w,K,r,o,b,A,ok⟩=>?_) λ_ _ z=>z.elim)) (λ_ _ z=>z) λ_ _ z=>z);have w:=w.unwish;refine Ho ⟨rfl,(by show 1<=bB;decide),w.bk _ _ hC,hN.keeps w.bk,T.keeps w.bk,λh' a m=>?_⟩;exact hx M n p W a (.ref C) h' w m.keeps (NJ m) m.new (ok ah r o n p A (bO.refl ..) (jA.refl _ _))
end
section
variable{P:bv}{w:bc}{K:aA}{m:Str->Option ak}{j:aJ}{N:List Str}{i:Str}{g:eP}{f:ag}{n:ak}{A:bG}{h:List Env}{d:aq}{l:Hp}{E:XK}
theorem JO:Cd (jG (cz P w) P w K m j N i g f n A h d l E) E:=λJ C H s a c y I F D new G=>by
 have p:Inv _ J C H {s with heap:=y}:=I.kept (t':=s.toks) F;refine Ol (s:={s with heap:=y}) (L:=d.heap.objs.size) I.ok.frames p.stack rfl D λM B k v u=>?_;have r:d.heap.get? a=ah:=uf I.base new;have t:d.heap.get? B=ah:=uf p.base (Hm u);have x:H a=ah:=K3 I.hok new;refine⟨a,B,c,H,rfl,p.os,p.bare,Gf p.base k (λb o e z=>?_) (λb o e z=>by rw[show b=a from z,r]at e;cases e),Ez p.hok k p.stkFree (λb z=>by rw[show b=a from z];exact x),v,⟨r,t,x,p.hok.fresh u⟩,G⟩;rcases bA.mp (I.stkSub b z)with q|q
 .exact absurd (bN e) (by rw[q];exact fh _)
 .exact q
end
def XP(X:Cx)(g:List (ag×Obj))(d:St)(h:ak->Hp->Prop)(e:ak)(f:aq):Prop:=∃a b,Inv X g d b a/\cz X.prog X.w X.stack b a (λc _ i=>h c i) e f
abbrev uq(X:Cx)(a:ag):Cx:={X with A:=X.A.mark (aa (.ref a)),calm:=aj,xe:=λ_ _=>False}
section
variable{X:Cx}{K:aA}
variable{E:XK}{e:aD}{de:ac->R PV}{a:Pos}{y:Str}
def o0(b:List PV)(y:PV):Option PV:=(eK y).bind λv=>(gI b).map λc=>.int (c.countP λz=>f8 z v)
end
theorem JL(c:Nat)(x:Tx):sw [c] x=x.contains c:=by unfold sw;have:=StrLaws.found_one (tS x) c;rw[pj]at this;rw[show(tS [c])=⟨#[c]⟩from rfl,this];simp[List.contains_eq_mem]
section
variable{X:Cx}{E:XK}{n:eP}{x:Str}{N':List Str}{cap:List Nat}
variable{pin:List Nat}
theorem C1{F:ag->Prop}{S:Nat->ag->Prop}{m:ac}{f:St}{H:Hp}{D:kC}{i:Nat}{dn:ac->R PO}(P:i∉pin)(rl:a_ X.K F S m f H)(h:iD X.K E pin f F S H (aT i (dF dn) m) D):Ok X.K E f F S H (dn m) (λr _ q t l=>∀a d,fo X.K l q r a d->(∀b,d b->H b=ah/\¬q b/\¬U t b/\∃o,l b=aa o/\e_ o)->D.nx (f.set i (aa (.ref a))) l):=by
 unfold aT dF at h;cases s:dn m with
 |no=>rw[s]at h;exact h.elim
 |er c I=>rw[s]at h;exact λx q t l M Z=>h x q t f l M Z (jA.refl _ _)
 |ok r G=>
  rw[s]at h;intro B A p L j a d N v;cases r with
  |dK g=>exact h.elim
  |lls jv=>exact h.elim
  |ins C fs=>exact h.elim
  |dT g=>exact h.elim
  |dN g=>exact h.elim
  |inl C fs y u=>exact h.elim
  |lst u=>
   have W:∀b,d b->¬U A b/\∃o,p b=aa o:=λb z=>let ⟨_,_,x3,o,x4,_⟩:=v b z;⟨x3,o,x4⟩
   obtain⟨⟨J,Q,O⟩,T⟩:=N;have Y:bO (U S) (U A) F (λb=>B b\/d b) H p:=⟨λb z=>.inl (j.fro b z),j.keep,j.there,λb z=>z.elim (j.fnew b) λw=>.inr (.inl (v b w).1),j.onew⟩
   have K:bd X.K p (λb=>B b\/d b) (.lst u) (.ref a):=⟨a,J,rfl,.inl Q,.inr ((T a).mpr rfl),Reps.mono (λ_ z=>.inl z) (λ_ _ _ z=>z) (λ_ _ z _=>z) _ _ O⟩
   exact h _ _ _ p ((L.more W).set K) (Y.trans (bO.less i)) (jA.set P)
section
variable{c a:aD}{y:Str}{g j f d:Pos}{l:ac->R (List PV)}{dt:ac->R Bool}{de:ac->R PV}{m:ac->R PO}{b:List aD}
theorem vA(i:Nat)(O:X.N.Nodup)(B:h8 X n x N' cap)(N:X.calm=ae)(K:DI X E (.Name x g) a l)(ht:∀C o p r q,DF (bK X n N' C o p r q) E0 b dt) (M:∀C o p r q,DE (bK X n N' C o p r q) E0 c de)(J:i∉pin:=by decide) (z:X.N[i]?=aa y:=by rfl) (A:Loc X.env.scope y:=by first|exact Or.inl rfl|exact Or.inr rfl) (w:kR (.ListComp c [⟨.Name x g,a,b,0⟩] n f) (aa (.Name y j)) d.line X.env=pure ae:=by rfl)(L:X.fn y=ae\/X.env.scope.names.lookup y=aa .local:=by first|exact .inl rfl|exact .inr rfl) (G:∀x,lI a X.env x=pure x:=by intro _;rfl):DS X E pin (.Assign [.Name y j] (.ListComp c [⟨.Name x g,a,b,0⟩] n f) d) (aT i (dF (bI cap l dt de))):=λF S P t H D v h=>ix (Qw (wi:=lF X (.Name x g) a) (ts:=λt H Q=>∀C o p r q,nN (bK X n N' C o p r q) b t H Q) (te:=λt H Q=>∀C o p r q,gC (bK X n N' C o p r q) c t H Q) B N uy (λC o p r q u s t H Q I h=>(h C o p r q).run u s I) (λC o p r q u s t H Q I h=>(h C o p r q).run u s I) O z A w L G) (Ex K ht M v (C1 J v h))
end
end
def ig(a:List Nat):Nat->ac->Bool
 |_,[]=>ae
 |i,.own c::b=>a.contains i&&iT c&&ig a (i+1) b
 |i,_::b=>ig a (i+1) b
theorem sR{c:List Nat}:∀{b:ac}{k:Nat},ig c k b=ae->∀(i:Nat) a,b[i]?=aa (.own a)->k+i∈c/\iT a=ae
 |[],_,_,i,a,e=>by simp at e
 |.own q::b,k,h,0,a,e=>by simp only[List.getElem?_cons_zero,Option.some.injEq,Slot.own.injEq]at e;subst e;simp only[ig,gg]at h;exact⟨by simpa using h.1.1,h.1.2⟩
 |.own q::b,k,h,i+1,a,e=>by simp only[ig,gg]at h;have:=sR (k:=k+1) h.2 i a (by simpa using e);rwa[HQ,Nat.add_assoc]at this
 |.val q::b,k,h,0,a,e=>by simp at e
 |.none::b,k,h,0,a,e=>by simp at e
 |.val q::b,k,h,i+1,a,e=>by have:=sR (k:=k+1) (by simpa[ig]using h) i a (by simpa using e);rwa[HQ,Nat.add_assoc]at this
 |.none::b,k,h,i+1,a,e=>by have:=sR (k:=k+1) (by simpa[ig]using h) i a (by simpa using e);rwa[HQ,Nat.add_assoc]at this
def bL(len:Nat)(b:List Nat)(g:ac->R Slot):ac->R Slot:=λa=>if a.length=len/\ig b 0 a=ae then g a else .no
theorem cU{q:gR}{P:bv}{w:bc}{K:aA}{o:Str->Option ak}{g:aJ}{x:Str}{c:bu}{N b:List Str}{k n:Nat}{d:ac->R aK}{pin:List Nat}(D:cM K o x c)(F:cC N b (a8 c))(v:N.length=b.length+n)(y:∀(kV p t:ak) (C:Option ag) (l B:ak) (m:List ak),m.length=b.length->g_ (ke x x (kB c) (iE c) (a8 c) .none kV p t C l B) ⟨m,[]⟩=pure (b.zip m))(u:∀(f:ag) (l:ak) (A:bG) (j:List Env) (s:aq) (H:Hp) (E:XK),gF k (A.deeper (kc x (a8 c) s.heap.objs.size f l))->iL (jG q P w K o g N x (a8 c) f l A j s H E) E pin (iE c) d):cN q P w K o g x (k+1) b (cn K (bL b.length pin (bJ n d))):=by
 have no:∀{a},bL b.length pin (bJ n d) a≠.no->a.length=b.length/\ig pin 0 a=ae:=λ{a} h=>by
  unfold bL at h;by_cases z:a.length=b.length/\ig pin 0 a=ae
  .exact z
  .rw[if_neg z]at h;exact absurd rfl h
 exact Q4 D F v y (λa h=>(no h).1) (λa h i r e=>by have:=sR (no h).2 i r e;rwa[lP]at this) (λa h=>by unfold bL;rw[if_pos (no h)]) u
theorem L1{f:ag}{r:iH}{t:gR}{P:bv}{w:bc}{K:aA}{q:Str->Option ak}{j:aJ}{x a:Str}{g:bu}{N c:List Str}{k n:Nat}{d:ac->R aK}{pin:List Nat}(I:oX K x a g f r)(G:cC N c (a8 g))(B:N.length=c.length+n)(C:∀(kV p v:ak) (F:Option ag) (m D:ak) (o:List ak),o.length=c.length->g_ (ke x a (kB g) (iE g) (a8 g) .none kV p v F m D) ⟨o,[]⟩=pure (c.zip o))(y:∀(f:ag) (m:ak) (A:bG) (l:List Env) (s:aq) (H:Hp) (E:XK),gF k (A.deeper (kc a (a8 g) s.heap.objs.size f m))->iL (jG t P w K q j N a (a8 g) f m A l s H E) E pin (iE g) d):kw P w K q j t (k+1) f r c (cn K (bL c.length pin (bJ n d))):=by
 have no:∀{b},bL c.length pin (bJ n d) b≠.no->b.length=c.length/\ig pin 0 b=ae:=λ{b} h=>by
  unfold bL at h;by_cases z:b.length=c.length/\ig pin 0 b=ae
  .exact z
  .rw[if_neg z]at h;exact absurd rfl h
 exact EO I G B C (λb h=>(no h).1) (λb h i u e=>by have:=sR (no h).2 i u e;rwa[lP]at this) (λb h=>by unfold bL;rw[if_pos (no h)]) y
theorem GD{P:List ak->Prop}(h:∀a,P [a])(c:List ak)(d:c.length=1):P c:=by
 cases c with
 |nil=>cases d
 |cons a r=>cases r with
  |nil=>exact h a
  |cons b r=>cases d
theorem GZ{P:List ak->Prop}(h:∀a b,P [a,b])(c:List ak)(d:c.length=2):P c:=by
 cases c with
 |nil=>cases d
 |cons a r=>exact GD (P:=λr=>P (a::r)) (h a) r (ye d)
theorem Ds{P:List ak->Prop}(h:∀a b c,P [a,b,c])(d:List ak)(f:d.length=3):P d:=by
 cases d with
 |nil=>cases f
 |cons a r=>exact GZ (P:=λr=>P (a::r)) (h a) r (ye f)
theorem Qf{P:List ak->Prop}(h:∀a b c d,P [a,b,c,d])(f:List ak)(g:f.length=4):P f:=by
 cases f with
 |nil=>cases g
 |cons a r=>exact Ds (P:=λr=>P (a::r)) (h a) r (ye g)
theorem RG{d:iH}{c:List Str}(h:∀a,g_ d ⟨[a],[]⟩=pure (c.zip [a]))(b:List ak)(f:b.length=1):g_ d ⟨b,[]⟩=pure (c.zip b):=GD (P:=λb=>g_ d ⟨b,[]⟩=pure (c.zip b)) h b f
theorem Rs{f:iH}{d:List Str}(h:∀a b,g_ f ⟨[a,b],[]⟩=pure (d.zip [a,b]))(c:List ak)(g:c.length=2):g_ f ⟨c,[]⟩=pure (d.zip c):=GZ (P:=λc=>g_ f ⟨c,[]⟩=pure (d.zip c)) h c g
theorem RD{g:iH}{f:List Str}(h:∀a b c,g_ g ⟨[a,b,c],[]⟩=pure (f.zip [a,b,c]))(d:List ak)(i:d.length=3):g_ g ⟨d,[]⟩=pure (f.zip d):=Ds (P:=λd=>g_ g ⟨d,[]⟩=pure (f.zip d)) h d i
theorem RV{i:iH}{g:List Str}(h:∀a b c d,g_ i ⟨[a,b,c,d],[]⟩=pure (g.zip [a,b,c,d]))(f:List ak)(j:f.length=4):g_ i ⟨f,[]⟩=pure (g.zip f):=Qf (P:=λf=>g_ i ⟨f,[]⟩=pure (g.zip f)) h f j
theorem im{P:bv}{w:bc}{X:Cx}:qM (cz P w) X E0:=λ_ _ _ _ _ _ _ h=>by obtain⟨a,T,c,b,_,_,_,_,_,_,_,z⟩:=h;exact z.elim
theorem dI:fi "len"=aa (.builtin "len"):=by decide +kernel
theorem uv:fi "all"=aa (.builtin "all"):=by decide +kernel
theorem Ab:fi "any"=aa (.builtin "any"):=by decide +kernel
theorem tR:fi "sorted"=aa (.builtin "sorted"):=by decide +kernel
theorem g6:fi "isinstance"=aa (.builtin "isinstance"):=by decide +kernel
theorem Ft:fi "int"=aa (.type "int"):=by decide +kernel
theorem Ac:fi "bool"=aa (.type "bool"):=by decide +kernel
theorem tz:fi "str"=aa (.type "str"):=by decide +kernel
theorem vY:fi "list"=aa (.type "list"):=by decide +kernel
theorem j6:fi "tuple"=aa (.type "tuple"):=by decide +kernel
theorem Mo:fi "set"=aa (.type "set"):=by decide +kernel
def kH:aD->Bool
 |.Starred _ _=>ae
 |_=>aj
theorem jf{e:aD}{es:List aD}{env:Env}(h:kH e=aj):bo (e::es) env=(aj,bq e env)::bo es env:=by
 cases e <;> first|rfl|cases h
section
variable{X:Cx}{E:XK}{e:aD}{a:List aD}{d:ac->R PV}{b:ac->R (List PV)}{c:ac->R (List cJ)}
theorem ay(g:DE X E e d)(f:DA X E a b)(h:kH e=aj:=by rfl):DA X E (e::a) (ao d b):=MP g f (jf h)
theorem aI(g:DE X E e d)(f:DG X E a c)(h:kH e=aj:=by rfl):DG X E (e::a) (gV d c):=Kc g f (jf h)
end
def wB:List ak:=[.type "ValueError",.type "Exception",.type "BaseException",.type "object"]
theorem P6{K:aA}{h:aJ}{C:ag}{B:List ak}{nw:String}(X:K.In h)(q:rR K C B nw=ae):∃i N v p bs D j a F c E A z y x w g,h.get? C=aa (excClassObj v p C N bs i D j a F c E A z y x w nw)/\h.Ns N g/\g "__init__"=ah/\OwnTail h B i:=by
 unfold rR at q;split at q
 case h_2=>cases q
 case h_1 d0 cdata slots look=>
  split at q
  case h_2=>cases q
  case h_1 C2 tl s0 s1 s2 s3 nn s5 em es=>
   rw[gg,gg,gg,gg,gg]at q;obtain⟨⟨⟨⟨⟨u,t⟩,f⟩,s⟩,b⟩,r⟩:=q;have o:=beq_iff_eq.mp u;have n:=beq_iff_eq.mp t;have d:=beq_iff_eq.mp r;subst o n;cases cdata;dsimp only at em f b d;subst em;have m:=BV _ |>.mp f
   subst m;have l:slots=#[s0,s1,s2,s3,aa (.builtin nn),s5]:=by cases slots;exact congrArg Array.mk es
   subst l;exact⟨tl,_,_,_,_,_,_,_,_,_,d0,s0,s1,s2,s3,s5,_,X _ _ look,Heap.Ns.of_isNs (PySem.W.isNs_of_in X b),PySem.W.nsMap_none_of_in X b d,PySem.W.tail_of_in X s⟩
theorem Kh{K:aA}{h:aJ}{a:Str->Option ak}{x:Str}{C:ag}{B:List ak}{nw:String}(X:K.In h)(e:a x=aa (.ref C))(q:rR K C B nw=ae):OwnCls x C B nw a h:=⟨e,P6 X q⟩
def subB(K:aA)(D C:ag):Bool:=match K.lookup C with
 |some ⟨_,_,.cls a,_⟩=>a.mro.contains (.ref D)
 |_=>aj
def ES(K:aA)(C:ag):Bool :=
 xT K (.ref C) "__getattribute__" == aa (aa (.builtin "BaseException.__getattribute__"))&&xT K (.ref C) "__getattr__" == aa ah&&xT K (.ref C) "__class__" == aa (aa (.builtin "object.__class__")) &&
 PySem.W.specialIn K (.builtin "object.__class__") "__get__" == aa (aa (.builtin "getset_descriptor.__get__"))&&PySem.W.takesIn K (.builtin "object.__class__") == aa ae&&PySem.W.mroIn K C (.type "object") == aa ae&&PySem.W.mroIn K C (.type "BaseException") == aa ae&&(PySem.W.clsIn K C).isSome
def yz(K:aA):Bool:=K.all λp=>match p.2.cls with
 |.type t=>t != "list"
 |_=>ae
theorem Gd{a:ag}{o:Obj}:∀{K:aA},K.lookup a=aa o->(a,o)∈K
 |[],e=>by cases e
 | (b,u)::K,e=>by
  rw[kh]at e;cases q:a == b with
  |true=>rw[q]at e;cases e;rw[beq_iff_eq.mp q];exact mQ ..
  |false=>rw[q]at e;exact kb _ (Gd e)
theorem EB{K:aA}{H:Hp}{F:ag->Prop}:∀a:List Int,Reps K H F (a.map .int) (a.map V.int)
 |[]=>rfl
 |x::a=>⟨.int x,a.map V.int,rfl,rfl,EB a⟩
theorem Pj{K:aA}{H:Hp}{a:ag}{b:List V}(h:yz K=ae)(s:cI K H a b):Rd H a (.lst b):=by
 rcases s with s|⟨o,d,n,c,f,_⟩
 .exact s
 .have:=mX.mp h _ (Gd c);rw[f]at this;simp at this
theorem Qb{K:aA}{g:ac->R Slot}{H:Hp}{a:ag}{c:List Int}{E:XK}(d:Rd H a (.lst (c.map V.int)))(h:g [.val (.lst (c.map .int))]=.ok (.val (.bl ae)) [.val (.lst (c.map .int))]):cn K g [.ref a] H (λv _=>v=.bl ae) E:=by
 refine⟨λb=>b=a,λ_ _=>False,[.val (.lst (c.map .int))],⟨rfl,λb e=>?_,λi pv e=>?_,λi l e=>?_,λi b z=>z.elim,λi j b z=>z.elim⟩,?_⟩
 .subst e;rcases d with d|⟨o,d⟩ <;> exact⟨_,d⟩
 .cases i with
  |zero=>cases e;exact⟨_,rfl,a,_,rfl,d,rfl,EB c⟩
  |succ i=>simp at e
 .cases i with
  |zero=>cases e
  |succ i=>simp at e
 .rw[h];exact λv q n p m _ _ f _ _=>f.1
theorem RP{K:aA}{x:Str}{i:Int}{t:Tok}(e:fE K dz x=aa (aa (.int i t))):∃t,fE K dz x=aa (aa (.int i t)):=⟨t,e⟩
theorem RI{K:aA}{x:Str}{l:Tx}{t:Tok}(e:fE K dz x=aa (aa (.str (tS l) t))):∃t,fE K dz x=aa (aa (.str (tS l) t)):=⟨t,e⟩
def cR(K:aA)(x:Str)(a:bu):Prop:=∃f oc g kV h d j b i c,fE K dz x=aa (aa (.ref f))/\K.lookup f=aa ⟨oc,g,.func (ke x x (kB a) (iE a) (a8 a) .none kV h d j b i),c⟩/\xV K b x=ae/\uE K (.ref f)=ae
theorem Rq{K:aA}{x:Str}{b:bu}{f:ag}{oc kV j h d m:ak}{i n:Option ag}{g:Array (Option ak)}(a:fE K dz x=aa (aa (.ref f)))(l:K.lookup f=aa ⟨oc,i,.func (ke x x (kB b) (iE b) (a8 b) .none kV j h n d m),g⟩)(c:xV K d x=ae) (k:uE K (.ref f)=ae):cR K x b:=⟨f,oc,i,kV,j,h,n,d,m,g,a,l,c,k⟩
theorem cR.at{K:aA}{h:aJ}{g:Str->Option ak}{x:Str}{b:bu}(d:cR K x b)(X:K.In h)(G:h.Ns dz g):cM K g x b:=by obtain⟨f,oc,m,kV,n,j,q,p,o,i,a,l,c,k⟩:=d;exact⟨f,_,pY X G a,FY l c k⟩
def hG(a:List (aP×PV))(k:aP):Option PV:=(a.find? λb=>decide (b.1=k)).map (·.2)
def nt(a:List (aP×PV))(k:aP)(v:PV):List (aP×PV):=if(a.any λb=>decide (b.1=k))=ae then a.map (λb=>if b.1=k then(b.1,v)else b)else a++[(k,v)]
def gY:PV->Option aP
 |.int i=>aa (.inl i)
 |.str x=>aa (.inr (tS x))
 |_=>ah
section
variable{K:aA}{F:ag->Prop}{S:Nat->ag->Prop}{ε:ac}{l:St}{H:Hp}{i:Nat}{d:List (aP×PV)}{f:List (aP×V)}{a:ag}
theorem qT{x:PV}{v:V}{k:aP}(r:bd K H F x v)(e:gY x=aa k):v=kV k:=by
 cases x <;> simp[gY]at e
 .subst e;exact r
 .subst e;exact r.1
theorem gK.len(h:gK K H F d f):f.length=d.length:=by
 unfold gK at h
 induction h with
 |nil=>rfl
 |cons _ _ b=>simp[b]
theorem gK.val(h:gK K H F d f)(k:aP):(∃x v,hG d k=aa x/\jk f k=aa v/\bd K H F x v)\/(hG d k=ah/\jk f k=ah):=by
 unfold gK at h
 induction h with
 |nil=>exact .inr ⟨rfl,rfl⟩
 |@cons p q ps qs r _ ih=>
  by_cases e:p.1=k
  .refine .inl ⟨p.2,q.2,by simp[hG,kf,e],?_,r.2⟩;rw[wV (by rw[<-r.1];exact e)]
  .have b:¬q.1=k:=by rw[<-r.1];exact e
   rw[wo b];have:hG (p::ps) k=hG ps k:=by simp[hG,kf,e]
   rw[this];exact ih
theorem gK.any(h:gK K H F d f)(k:aP):(d.any λb=>decide (b.1=k))=f.any λb=>decide (b.1=k):=by
 unfold gK at h
 induction h with
 |nil=>rfl
 |cons r _ c=>rw[kZ,kZ,c,r.1]
theorem gK.put(h:gK K H F d f)(k:aP){x:PV}{v:V}(r:bd K H F x v):gK K H F (nt d k x) (g8 f k v):=by
 unfold nt g8;rw[h.any k];split
 .rename_i b;clear b;unfold gK at h ⊢
  induction h with
  |nil=>exact .nil
  |@cons p q ps qs r1 _ ih=>
   refine .cons ?_ ih;dsimp only;by_cases e:p.1=k
   .rw[if_pos e,if_pos (by rw[<-r1.1];exact e)];exact⟨r1.1,r⟩
   .rw[if_neg e,if_neg (by rw[<-r1.1];exact e)];exact r1
 .exact Paired.snoc h ⟨rfl,r⟩
theorem a_.dkAt(r:a_ K F S ε l H)(e:ε[i]?=aa (.own (.dK d))):∃a f,l[i]?=aa (aa (.ref a))/\H a=aa (.dK f)/\gK K H F d f/\S i a/\∀b,S i b->b=a:=by obtain⟨a,n,⟨g,m,j⟩,c⟩:=r.own i _ e;exact⟨a,g,n,m,j,(c a).mpr rfl,λb h=>(c b).mp h⟩
theorem a_.updO{p po':PO}{o':HO}(r:a_ K F S ε l H)(e:ε[i]?=aa (.own p))(O:iT p=ae)(E:l[i]?=aa (aa (.ref a)))(N:e_ o')(h:∀y,(∀x v,bd K H F x v->bd K y F x v)->(∀x v,Reps K H F x v->Reps K y F x v)->y a=aa o'->∀I:ag->Prop,(∀b,I b↔b=a)->fo K y F po' a I):a_ K F S (ε.set i (.own po')) l (L2.upd H a o')/\bO (U S) (U S) F F H (L2.upd H a o'):=by
 obtain⟨P,G,M⟩:=r.own i p e;rw[E]at G;cases G;have s:=DJ M O;have B:S i a:=(s a).mpr rfl;have D:∀b,S i b->b=a:=λb z=>(s b).mp z;have A:i<ε.length:=(eF.mp e).1;have g:bO (U S) (U S) F F H (L2.upd H a o'):=⟨λ_ z=>z,λb o q n=>by rw[cc (by rintro rfl;exact n ⟨i,B⟩)];exact q,λb o q=>by
  by_cases C:b=a
  .subst C;exact⟨_,upd_same⟩
  .exact⟨o,by rw[cc C];exact q⟩,λ_ z=>.inl z,λ_ z=>.inl z⟩
 refine⟨⟨by rw[kl];exact r.len,λb z=>let ⟨o,q⟩:=r.ex b z;g.there b o q,λj pv q=>?_,λj p q=>?_,λj b z=>?_,r.dist⟩,g⟩
 .have m:i≠j:=by rintro rfl;rw[ge A]at q;cases q
  rw[eT m]at q;obtain⟨v,u,t⟩:=r.val j pv q;exact⟨v,u,t.grow g r.fit⟩
 .by_cases m:i=j
  .subst m;rw[ge A]at q;cases q;exact⟨a,E,h _ (λ_ _ z=>z.grow g r.fit) (λ_ _ z=>z.grow g r.fit) upd_same _ s⟩
  .rw[eT m]at q;obtain⟨c,u,t⟩:=r.own j p q;refine⟨c,u,t.mono (λ_ _ z=>z.grow g r.fit) (λ_ _ z=>z.grow g r.fit) λb o z w=>?_⟩;rw[cc (by rintro rfl;exact m (r.dist i j b B z))];exact w
 .obtain⟨⟨p,u⟩,t,o,L,J⟩:=r.foot j b z;by_cases m:i=j
  .subst m;rw[D b z];exact⟨⟨_,ge A⟩,by rw[<-D b z];exact t,_,upd_same,N⟩
  .exact⟨⟨p,by rw[eT m];exact u⟩,t,o,by rw[cc (by rintro rfl;exact m (r.dist i j b B z))];exact L,J⟩
end
def dw(b:ac)(i:Nat):Option (List (aP×PV)):=match b[i]? with
 |some (.own (.dK a))=>aa a
 |_=>ah
theorem kL{b:ac}{i:Nat}{a:List (aP×PV)}(h:dw b i=aa a):b[i]?=aa (.own (.dK a)):=by
 unfold dw at h;split at h
 .cases h;assumption
 .cases h
section
variable{X:Cx}{E:XK}{pin:List Nat}{e b c:aD}{de db f:ac->R PV}{d:Pos}
def qE:ac->R PO:=λa=>.ok (.dK []) a
theorem C6:DN X E (.Dict [] [] d) qE:=λF S l i H Q g h=>cE K9 λp a=>by
 have al:Al F F H (upd H p (.dK [])):=Al.new0 a;refine h F S _ (g.al al) al.grow p (λb=>b=p) ⟨⟨[],upd_same,.nil⟩,λb=>pW⟩ λb z=>?_;subst z;refine⟨a,λz=>?_,λ⟨j,z⟩=>?_,_,upd_same,trivial⟩
 .obtain⟨o,q⟩:=g.ex b z;rw[a]at q;cases q
 .obtain⟨_,_,o,q,_⟩:=g.foot j b z;rw[a]at q;cases q
def fz(i:Nat)(db:ac->R PV):ac->R PV:=λε=>(aO (dw ε i) ε).bind λ_ ε=>(db ε).bind λk ε1=>(aO (dw ε1 i) ε1).bind λa ε1=>aO ((gY k).bind λk=>hG a k) ε1
theorem qC(i:Nat){y:Str}{z:Pos}(Z:X.A.units+64<cLine)(K:DE X E b db)(M:X.N[i]?=aa y:=by rfl)(N:gT X.env.scope y:=by eq_refl)(J:(y==("__debug__":Str))=aj:=by decide) (O:(y==("__classdict__":Str))=aj:=by decide) (G:zV b:=by exact λ_ _=>rfl):DE X E (.Subscript (.Name y z) b d) (fz i db):=λF S o w H Q p h=>by
 unfold fz at h;cases n:dw o i with
 |none=>rw[n]at h;exact h.elim
 |some s=>
  rw[n]at h;simp only[c9,R.bind_ok]at h;obtain⟨a,A,t,_⟩:=p.dkAt (kL n);refine cE (IE ∅ (iQ M N J O) b_ G) ⟨.ref a,t,K F S o w H _ p ((Ok.bind h).imp λk j W P T r g1 q u B=>?_)⟩;cases m:dw j i with
  |none=>rw[m]at q;exact q.elim
  |some D=>
   rw[m]at q;simp only[c9,R.bind_ok]at q;obtain⟨a',Y,g,L,I,_⟩:=r.dkAt (kL m);rw[t]at g;cases g;cases l:gY k with
   |none=>rw[l]at q;exact q.elim
   |some C=>
    rw[l,lO]at q;rw[qT B l];rcases I.val C with⟨x,v,h1,h2,h3⟩|⟨h1,h2⟩
    .rw[h1]at q;exact⟨a,v,rfl,by rw[<-h2];exact mn.k L,q W P T r (bO.refl ..) v h3⟩
    .rw[h1]at q;exact q.elim
def il(i:Nat)(db f:ac->R PV):ac->R PV:=λg=>(aO (dw g i) g).bind λ_ g=>(db g).bind λk h=>(f h).bind λz a=>(aO (dw a i) a).bind λj a=>aO ((gY k).map λk=>(hG j k).getD z) a
theorem wZ(i:Nat){y:Str}{j g:Pos}(hu:X.A.units+64<cLine)(hb:DE X E b db)(hc:DE X E c f)(hN:X.N[i]?=aa y:=by rfl)(gk:gT X.env.scope y:=by eq_refl)(hd:(y==("__debug__":Str))=aj:=by decide) (cO:(y==("__classdict__":Str))=aj:=by decide)(l:n_ (.Name y j) "get" X.env (bq (.Name y j) X.env)=bq (.Name y j) X.env:=by rfl) (A:(g.endLine == d.line)=ae:=by rfl) (Z:kH b=aj:=by rfl) (Y:kH c=aj:=by rfl):DE X E (.Call (.Attribute (.Name y j) "get" g) [b,c] [] d) (il i db f):=λF S I G H Q K h=>by
 have J:bo [b,c] X.env=[(aj,bq b X.env),(aj,bq c X.env)]:=by rw[jf Z,jf Y];rfl
 have m:M2 X (.Name y j) "get" g b c d:=⟨l,by rw[J];rfl,A,by rw[J];rfl⟩
 unfold il at h;cases D:dw I i with
 |none=>rw[D]at h;exact h.elim
 |some L=>
  rw[D]at h;simp only[c9,R.bind_ok]at h;obtain⟨a,W,N,t,_⟩:=K.dkAt (kL D);refine cE (DC ∅ (iQ hN gk hd cO) b_ b_ m) ⟨.ref a,N,a,rfl,.inl ⟨_,.inl t⟩,hb F S I G H _ K ((Ok.bind h).imp λk p F1 S1 H1 r1 g1 q u ru=>?_)⟩;refine hc F1 S1 p G H1 _ r1 ((Ok.bind q).imp λz o T O P s g2 q w r=>?_);cases C:dw o i with
  |none=>rw[C]at q;exact q.elim
  |some kvs=>
   rw[C]at q;simp only[c9,R.bind_ok]at q;obtain⟨a',ws,n,M,hk,_⟩:=s.dkAt (kL C);rw[N]at n;cases n;cases B:gY k with
   |none=>rw[B]at q;exact q.elim
   |some ky=>
    rw[B,rN]at q;rw[qT ru B];rcases hk.val ky with⟨x,v,l,h2,A⟩|⟨l,h2⟩
    .rw[l]at q;exact⟨aa v,by rw[<-h2];exact mn.k M,q T O P s (bO.refl ..) v A⟩
    .rw[l]at q;exact⟨ah,by rw[<-h2];exact mn.k M,q T O P s (bO.refl ..) w r⟩
def fQ(i:Nat)(db de:ac->R PV):ac->R aK:=λj=>(de j).bind λy g=>(aO (dw g i) g).bind λ_ g=>(db g).bind λk a=>(aO (dw a i) a).bind λh a=>(aO (gY k) a).bind λk a=>if h.length<bR then .ok .next (a.set i (.own (.dK (nt h k y))))else .no
theorem pE(i:Nat){y:Str}{G j:Pos}(hu:X.A.units+64<cLine)(hb:DE X E b db)(he:DE X E e de)(hN:X.N[i]?=aa y:=by rfl)(gk:gT X.env.scope y:=by eq_refl)(hd:(y==("__debug__":Str))=aj:=by decide) (cO:(y==("__classdict__":Str))=aj:=by decide) (Y:kR e (aa (.Subscript (.Name y G) b j)) d.line X.env=pure aj:=by rfl):DS X E pin (.Assign [.Subscript (.Name y G) b j] e d) (fQ i db de):=λF S L o H D Q h=>by
 refine ix (J4 ∅ (iQ hN gk hd cO) b_ b_ Y) (he F S L o H _ Q (h.bindE.imp λy l F1 S1 H1 r g1 q v O=>?_));cases C:dw l i with
 |none=>rw[C]at q;exact q.elim
 |some J=>
  rw[C]at q;simp only[c9,R.bind_ok]at q;obtain⟨a,M,A,ha0,_⟩:=r.dkAt (kL C);refine⟨.ref a,A,hb F1 S1 l o H1 _ r (q.bindE.imp λk p F2 S2 H2 I g2 g u P=>?_)⟩;cases n:dw p i with
  |none=>rw[n]at g;exact g.elim
  |some t=>
   rw[n]at g;simp only[c9,R.bind_ok]at g;obtain⟨a',N,m,ha,K,_⟩:=I.dkAt (kL n);rw[A]at m;cases m;cases B:gY k with
   |none=>rw[B]at g;exact g.elim
   |some s=>
    rw[B]at g;simp only[c9,R.bind_ok]at g;split at g
    .rename_i Z;rw[qT P B];have w:=K.put s (O.grow g2 r.fit);obtain⟨T,g3⟩:=I.updO (po':=.dK (nt t s y)) (o':=.dK (g8 N s v)) (kL n) rfl A trivial λH' W m2 z Sa x=>⟨⟨_,z,w.mono W⟩,x⟩
     exact⟨a,_,rfl,Bn.k ha (by rw[K.len];exact iG Z nG),g F2 S2 o _ T g3 (jA.refl _ _)⟩
    .exact g.elim
end
section
variable{X:Cx}
def tY(a d:ag):HO:=.ext λh=>h.IsValuesView a d
theorem Np:xP X "dict.values" (λx c H Q=>∃d b,x=.ref d/\c=[]/\H d=aa (.dK b)/\∀a,H a=ah->Q (.ref a) (upd H a (tY a d))):=by
 intro A s t H x c v u Q I i j h;obtain⟨d,b,rfl,rfl,r,q⟩:=h;cases i;cases j.zero;obtain⟨z,p,g,l,f⟩:=tZ I.hok r;refine call_meetsIn PySem.F.slot_dict_values f.typeIs PySem.F.entry_dict_values (PySem.F.args_dict_values_1 _) (meets_dict_values (gG X.prog X.w) d p) ⟨⟨g,f⟩,?_⟩;refine⟨.ref s.heap.objs.size,_,I.laid (a:=s.heap.objs.size) (o:=tY s.heap.objs.size d) (t':=s.toks) (λ_ _ q=>bz _ q) (bC _) ?_,rfl,q _ I.fresh⟩;exact⟨⟨_,cL _ rfl,rfl,rfl⟩,⟨_,cL _ rfl⟩,λy w ⟨o,n,m⟩ k=>⟨o,k o n,m⟩⟩
theorem KV.at{kvs:List (aP×V)}{a:List (aP×ak)}(r:KV kvs a){i:Nat}{k:aP}{u:ak}(h:a[i]?=aa (k,u)):∃v,kvs[i]?=aa (k,v)/\RelV v u:=by
 unfold KV at r
 induction r generalizing i with
 |nil=>simp at h
 |@cons p q ps qs r1 _ ih=>
  cases i with
  |zero=>simp at h;subst h;exact⟨p.2,by simp[show k=p.1 from r1.1.symm],r1.2⟩
  |succ i=>exact ih (by simpa using h)
def j9(a:List (aP×V)):Option Bool:=match a with
 |[]=>aa aj
 | (_,.int i)::r=>(j9 r).map λb=>(decide (i≠0))||b
 |_=>ah
theorem En:∀{a:List (aP×V)}{b:Bool},j9 a=aa b->(∀(i:Nat) k v,a[i]?=aa (k,v)->∃n,v=.int n)/\b=(cg a.length).any λi=>match a[i]? with|aa (_,.int n)=>decide (n≠0)|_=>aj
 |[],b,h=>by simp[j9]at h;subst h;exact⟨by simp,rfl⟩
 | (k,.int n)::r,b,h=>by
  simp only[j9,xX]at h;obtain⟨l,j,g⟩:=h;obtain⟨f,d⟩:=En j;refine⟨λi c v e=>?_,?_⟩
  .cases i with
   |zero=>simp at e;exact⟨n,e.2.symm⟩
   |succ i=>exact f i c v (by simpa using e)
  .rw[eY,xZ,kZ,uQ,<-g,d];rfl
 | (_,.non)::_,_,h=>by simp[j9]at h
 | (_,.bl _)::_,_,h=>by simp[j9]at h
 | (_,.str _)::_,_,h=>by simp[j9]at h
 | (_,.ref _)::_,_,h=>by simp[j9]at h
 | (_,.ty _)::_,_,h=>by simp[j9]at h
theorem Ki(P:X.calm=ae):gn X (.builtin "any") (λA H Q=>∃(p d:ag) (a:List (aP×V)) (b:Bool),A=[.ref p]/\H p=aa (tY p d)/\H d=aa (.dK a)/\j9 a=aa b/\Q (.bl b) H):=by
 intro af s D H A us Q I r h;obtain⟨p,d,a,b,rfl,m,O,T,q⟩:=h;obtain⟨u,rfl,F⟩:=vals1 r;cases F;obtain⟨l,_,_⟩:=(show eh X.prog X.w H s.heap p (tY p d)from I.hok p _ m)
 obtain⟨z,hs,j,g,Z⟩:=tZ I.hok O;obtain⟨B,f⟩:=Z.dictAt;obtain⟨M,L⟩:=En T;refine call_any_walk (wpAny_pyIter_values l f ?_);refine⟨s.heap.objs.size,_,_,_,_,_,λi=>match a[i]? with|aa (_,.int n)=>decide (n≠0)|_=>aj,rfl,Walks.dictValues (sx (I.ok.hd P)) _ d (dW f.lt_size) j B,⟨⟨_,cL _ rfl,rfl,rfl⟩,f.push _⟩,λi v s' Q' E' l y=>?_,λh' E k=>?_⟩
 .obtain⟨K,N⟩:=l;obtain⟨w,C,Y⟩:=KV.at g N;obtain⟨n,rfl⟩:=M i K w C;obtain⟨t,rfl⟩:=Y;dsimp only at y;rw[C]at y;exact PyProof.Rows.truthy_int (by rw[show(n != 0)=decide (n≠0) by by_cases z:n=0 <;> simp[z]];exact y)
 .have I1:Inv X af D H {s with heap:=s.heap.push {cls:=.type "dict_valueiterator",data:=.fields #[.ref d,.int 0 0,.int j.length 0,.int B 0]},toks:=s.toks}:=I.kept (t':=s.toks) λb o e=>bz _ e;have W:(cg j.length).any (λi=>match a[i]? with|aa (_,.int n)=>decide (n≠0)|_=>aj)=b:=by rw[<-g.length];exact L.symm
  rw[W];exact⟨.bl _,H,Inv.turned (t':=E) I1 (it:=s.heap.objs.size) (λb o S e=>k b o (by simpa using S) e) I.fresh (iZ I.lt) (.inr I.sz) (λx c e z=>by obtain⟨v,G⟩:=I.cell x c e;exact absurd G.lt (by rw[z];exact fh _)) (λJ m z=>absurd (bN (I.pin J m).1) (by rw[z];exact fh _)),rfl,q⟩
end
section
variable{X:Cx}{E:XK}{pin:List Nat}{e b c:aD}{de db G:ac->R PV}{t:Pos}
def pi:List (aP×PV)->Option Bool
 |[]=>aa aj
 | (_,.int i)::r=>(pi r).map λb=>(decide (i≠0))||b
 |_=>ah
theorem Op{K:aA}{H:Hp}{F:ag->Prop}{a:List (aP×PV)}{d:List (aP×V)}{k:Bool}(h:gK K H F a d)(e:pi a=aa k):j9 d=aa k:=by
 unfold gK at h
 induction h generalizing k with
 |nil=>exact e
 |@cons p q C qs r _ ih=>
  obtain⟨pk,pv⟩:=p;obtain⟨j,g⟩:=q;cases pv <;> simp only[pi,xX]at e <;> try cases e
  obtain⟨i,f⟩:=r;obtain rfl:g=V.int _:=f;rename_i h;simp only[j9,ih h.1,rN];rw[<-h.2]
def tJ(i:Nat):ac->R PV:=λa=>(aO (dw a i) a).bind λd a=>aO ((pi d).map .bl) a
theorem Nv(i:Nat){y:Str}{g p f d:Pos}(D:X.calm=ae)(z:X.mg "any"=ah)(I:X.N[i]?=aa y:=by rfl)(J:gT X.env.scope y:=by eq_refl)(C:(y==("__debug__":Str))=aj:=by decide) (N:(y==("__classdict__":Str))=aj:=by decide) (B:Gl X "any":=by rfl)(w:n_ (.Name y g) "values" X.env (bq (.Name y g) X.env)=bq (.Name y g) X.env:=by rfl) (x:(f.endLine == d.line)=ae:=by rfl)(u:bo [.Call (.Attribute (.Name y g) "values" f) [] [] d] X.env=(aj,bq (.Call (.Attribute (.Name y g) "values" f) [] [] d) X.env)::bo [] X.env:=by rfl) (L:(fk t (bo [] X.env)).any (·.1)=aj:=by rfl):DE X E (.Call (.Name "any" p) [.Call (.Attribute (.Name y g) "values" f) [] [] d] [] t) (tJ i):=λF S v O H Q s h=>by
 unfold tJ at h;cases o:dw v i with
 |none=>rw[o]at h;exact h.elim
 |some l=>
  rw[o]at h;simp only[c9,R.bind_ok]at h;obtain⟨a,r,K,j,A,P,_⟩:=s.dkAt (kL o);cases n:pi l with
  |none=>rw[n]at h;exact h.elim
  |some k=>
   rw[n,rN]at h;refine cE (nX (Ki D) B z Ab (jH (KS PySem.F.plainAttrs_dict PySem.F.slot_dict_values PySem.F.type_dict_values Np (iQ I J C N) w x) lw u) (by decide) (by decide) u L) ⟨.ref a,K,.inr (.inr (.inl ⟨rfl,.inl ⟨_,j⟩⟩)),a,r,rfl,rfl,j,λq m=>?_⟩;have al:Al F F H (L2.upd H q (tY q a)):=Al.new0 m;have M:a≠q:=by rintro rfl;rw[j]at m;cases m
   exact⟨q,a,r,k,rfl,upd_same,by rw[cc M];exact j,Op A n,h F S _ (s.al al) al.grow _ rfl⟩
def wb(X:Cx)(E:XK)(m:List aD)(d:ac->R (PO×List cJ)):Prop :=
 ∀F S i f H Q,a_ X.K F S i f H->Ok X.K E f F S H (d i) (λp _ h n g=>∀a l j,fo X.K g h p.1 a l->(∀b,l b->H b=ah/\¬h b/\¬U n b/\∃o,g b=aa o/\e_ o)->iM X.K (f++[aa (.ref a)]) h g p.2 j->Q j g)->oM X m f H Q
theorem iM.app{K:aA}{g:St}{F:ag->Prop}{H:Hp}(d:St):∀{l:List cJ}{j:List V},iM K g F H l j->iM K (g++d) F H l j
 |[],_,h=>h
 |.inl _::_,_,⟨v,r,e,a,f⟩=>⟨v,r,e,a,f.app d⟩
 |.inr i::_,_,⟨v,r,e,a,f⟩=>⟨v,r,e,by rw[i7 (eF.mp a).1];exact a,f.app d⟩
theorem fo.stay{K:aA}{O l F i:ag->Prop}{H h:Hp}{j:PO}{a:ag}{d:ag->Prop}(q:fo K H F j a d)(g:bO O l F i H h)(fit:mv O F H)(f:∀b,d b->¬F b/\¬O b/\∃o,H b=aa o/\e_ o):fo K h i j a d/\∀b,d b->¬i b/\¬l b/\∃o,h b=aa o/\e_ o:=by refine⟨q.mono (λ_ _ z=>z.grow g fit) (λ_ _ z=>z.grow g fit) λb o z w=>(g.stay w (f b z).2.1 (f b z).1).1,λb z=>?_⟩;obtain⟨v,u,o,s,r⟩:=f b z;obtain⟨p,n,m⟩:=g.stay s u v;exact⟨n,m,o,p,r⟩
variable{m:List aD}{dn:ac->R PO}{B:ac->R (List cJ)}{A:ac->R (PO×List cJ)}
def gN(dn:ac->R PO)(B:ac->R (List cJ)):ac->R (PO×List cJ):=λf=>(dn f).bind λg d=>(B d).bind λh a=>.ok (g,.inr a.length::h) a
theorem Le(w:DN X E e dn)(v:DG X E m B)(u:kH e=aj:=by rfl):wb X E (e::m) (gN dn B):=λF S q i H Q r h=>by refine oV (jH b_ ik (jf u)) (w F S q i H _ r ((Ok.bind h).imp λP d O K M n T y a I s o=>?_));refine v O K d i M _ n ((Ok.bind y).imp λW p N J L l C x j D=>?_);obtain⟨f,g⟩:=s.stay C n.fit λb z=>(o b z).2;refine x N J L l (bO.refl ..) a I (.ref a::j) f (λb z=>⟨(o b z).1,g b z⟩) ⟨.ref a,j,rfl,?_,D.app _⟩;rw[l.len,rm (bC _),Nat.sub_self];rfl
def qK(d:ac->R PV)(A:ac->R (PO×List cJ)):ac->R (PO×List cJ):=λg=>(d g).bind λx f=>(A f).bind λp a=>.ok (p.1,.inl x::p.2) a
theorem CB(y:DE X E e de)(w:wb X E m A)(u:kH e=aj:=by rfl):wb X E (e::m) (qK de A):=λF S l f H Q q h=>by refine oV (jH b_ ik (jf u)) (y F S l f H _ q ((Ok.bind h).imp λx d W N P g J D v o=>?_));refine w W N d f P _ g ((Ok.bind D).imp λp j T M O r I C a L n s i K=>?_);exact C T M O r (bO.refl ..) a L _ s (λb z=>⟨nv J (i b z).1,(i b z).2⟩) ⟨v,n,rfl,o.grow I g.fit,K⟩
theorem a_.push{K:aA}{F:ag->Prop}{S:Nat->ag->Prop}{d:ac}{y:St}{H:Hp}{w:PO}{a:ag}{i:ag->Prop}(r:a_ K F S d y H)(C:fo K H F w a i)(x:∀b,i b->¬F b/\¬U S b/\∃o,H b=aa o/\e_ o):a_ K F (λj b=>S j b\/(j=d.length/\i b)) (d++[.own w]) (y++[aa (.ref a)]) H:=by
 have lt:∀j b,S j b->j<d.length:=λj b z=>by obtain⟨⟨p,q⟩,_⟩:=r.foot j b z;exact(eF.mp q).1
 refine⟨by simp[r.len],r.ex,λj pv q=>?_,λj p q=>?_,λj b z=>?_,λj k b g f=>?_⟩
 .by_cases h:j<d.length
  .rw[i7 h]at q;obtain⟨v,u,l⟩:=r.val j pv q;exact⟨v,by rw[i7 (by rw[<-r.len];exact h)];exact u,l⟩
  .rw[rm ∅]at q;cases s:j-d.length with
   |zero=>rw[s]at q;simp at q
   |succ n=>rw[s]at q;simp at q
 .by_cases h:j<d.length
  .rw[i7 h]at q;obtain⟨v,u,l⟩:=r.own j p q;refine⟨v,by rw[i7 (by rw[<-r.len];exact h)];exact u,?_⟩;have:(λb=>S j b\/(j=d.length/\i b))=S j:=by funext b;exact propext ⟨λz=>z.elim id λz=>absurd z.1 (dW h),.inl⟩
   rw[this];exact l
  .rw[rm ∅]at q;cases s:j-d.length with
   |zero=>
    rw[s]at q;simp at q;subst q;have J:j=d.length:=∅
    subst J;refine⟨a,by rw[r.len,rm (bC _),Nat.sub_self];rfl,?_⟩;have:(λb=>S d.length b\/(d.length=d.length/\i b))=i:=by funext b;exact propext ⟨λz=>z.elim (λz=>absurd (lt _ _ z) (fh _)) (·.2),λz=>.inr ⟨rfl,z⟩⟩
    rw[this];exact C
   |succ n=>rw[s]at q;simp at q
 .rcases z with z|⟨rfl,z⟩
  .obtain⟨⟨p,q⟩,l⟩:=r.foot j b z;exact⟨⟨p,by rw[i7 (lt j b z)];exact q⟩,l⟩
  .obtain⟨I,L,D⟩:=x b z;exact⟨⟨w,by rw[rm (bC _),Nat.sub_self];rfl⟩,I,D⟩
 .rcases g with g|⟨rfl,g⟩ <;> rcases f with f|⟨rfl,f⟩
  .exact r.dist j k b g f
  .exact absurd ⟨j,g⟩ (x b f).2.1
  .exact absurd ⟨k,f⟩ (x b g).2.1
  .rfl
theorem a_.pop{K:aA}{F:ag->Prop}{S:Nat->ag->Prop}{d:ac}{n:Slot}{h:St}{u:Option V}{H:Hp}(r:a_ K F S (d++[n]) (h++[u]) H):a_ K F (λj b=>S j b/\j<d.length) d h H:=by
 have len:d.length=h.length:=by have:=r.len;simpa using this
 refine⟨len,r.ex,λj pv q=>?_,λj p q=>?_,λj b z=>?_,λj k b l i=>r.dist j k b l.1 i.1⟩
 .have a:=(eF.mp q).1;obtain⟨v,g,f⟩:=r.val j pv (by rw[i7 a];exact q);exact⟨v,by rw[i7 (by rw[<-len];exact a)]at g;exact g,f⟩
 .have a:=(eF.mp q).1;obtain⟨v,g,f⟩:=r.own j p (by rw[i7 a];exact q);refine⟨v,by rw[i7 (by rw[<-len];exact a)]at g;exact g,?_⟩;have:(λb=>S j b/\j<d.length)=S j:=by funext b;simp[a]
  rw[this];exact f
 .obtain⟨⟨p,q⟩,f⟩:=r.foot j b z.1;exact⟨⟨p,by rw[i7 z.2]at q;exact q⟩,f⟩
def Ed{d:Type}:R d->R d
 |.ok s a=>.ok s a.dropLast
 |.er c a=>.er c a.dropLast
 |.no=>.no
def sB(g:ac->R Slot)(A:ac->R (PO×List cJ)):ac->R Slot:=λd=>(A d).bind λp a=>(aO (if(bX p.2).Nodup then cK (a++[.own p.1]) p.2 else ah) a).bind λf a=>Ed (df (a++[.own p.1]) p.2 (g f))
theorem Cr{a:ac}{n:Nat}(h:a.length=n+1):∃l x,a=l++[x]/\l.length=n:=by
 refine⟨a.dropLast,a.getLast (by intro z;rw[z]at h;cases h),(List.dropLast_concat_getLast _).symm,by rw[yf,h];rfl⟩
theorem bO.pushed{K:aA}{F s:ag->Prop}{S i:Nat->ag->Prop}{f H p:Hp}{n:Nat}{h:ag->Prop}(g:bO (U λj b=>S j b\/(j=n/\h b)) (U i) F s H p){r:ag->Prop}{l:Nat->ag->Prop}(a:bO (U l) (U S) r F f H)(d:∀b,h b->f b=ah):bO (U l) (U λj b=>i j b/\j<n) r s f p where
 fro:=λb z=>g.fro b (a.fro b z)
 keep:=λb o q no=>g.keep b o (a.keep b o q no) λ⟨j,z⟩=>by
  rcases z with z|⟨_,z⟩
  .rcases a.onew b ⟨j,z⟩with w|w
   .exact no w
   .rw[w]at q;cases q
  .rw[d b z]at q;cases q
 there:=λb o q=>let ⟨o',q'⟩:=a.there b o q;g.there b o' q'
 fnew:=λb z=>by
  rcases g.fnew b z with w|w|⟨j,w|⟨_,w⟩⟩
  .exact a.fnew b w
  .exact .inr (.inl (nv a w))
  .exact .inr ((a.onew b ⟨j,w⟩).symm)
  .exact .inr (.inl (d b w))
 onew:=λb ⟨j,z,_⟩=>by
  rcases g.onew b ⟨j,z⟩with⟨k,w|⟨_,w⟩⟩|w
  .exact a.onew b ⟨k,w⟩
  .exact .inr (d b w)
  .exact .inr (nv a w)
variable{D:gR}{x:Str}{k:Nat}{C:List Str}{g:ac->R Slot}{p:Pos}
theorem Pd(c:cN D X.prog X.w X.K X.mg X.base x k C (cn X.K g))(hr:gF k X.A)(hx:qM D X E)(ha:wb X E (e::m) A)(hg:Gl X x:=by rfl)(hd:(x==("__debug__":Str))=aj:=by decide) (h1:bo (e::m) X.env=(aj,bq e X.env)::bo m X.env:=by rfl) (h2:(fk t (bo m X.env)).any (·.1)=aj:=by rfl):DR X E (.Call (.Name x p) (e::m) [] t) (sB g A):=λF S ε T H Q rl h=>by
 obtain⟨f,fd,hm,Fn,hb,hk⟩:=c.ex;refine cE (Dq Fn hr hg hm hk hb .nil hx ik hd h1 h2) (ha F S ε T H _ rl ?_);unfold sB at h;cases ed:A ε with
 |no=>rw[ed]at h;exact h.elim
 |er cv d=>rw[ed]at h;exact h
 |ok pa d=>
  obtain⟨O,q⟩:=pa;rw[ed]at h;simp only[R.bind_ok]at h;intro F1 S1 H1 r1 g1 a Sa vs ow Y P;dsimp only at h P ow;have N:=r1.push ow λb z=>(Y b z).2;by_cases J:(bX q).Nodup
  .rw[if_pos J]at h;cases m:cK (d++[.own O]) q with
   |none=>rw[m]at h;exact h.elim
   |some ss=>
    rw[m]at h;simp only[c9,R.bind_ok]at h;rw[i6];refine⟨F1,lx q _,ss,N.cal P m J,?_⟩;have len:∀n,(cY (d++[.own O]) q n).length=d.length+1:=λn=>by rw[vT];simp
    cases eg:g ss with
    |no=>rw[eg]at h;exact h.elim
    |er cv n=>
     rw[eg]at h;intro y F' S' H' W g';unfold df at h;dsimp only at h;by_cases u:cW q n=ae
     .rw[if_pos u]at h;obtain⟨S2,I,g2,_⟩:=N.called P m J W g' (λ_ z=>z) (nJ u);obtain⟨l,sl,M,Z⟩:=Cr (len n);rw[M]at I;have h:Ok X.K E T F S H (R.er cv (cY (d++[.own O]) q n).dropLast:R Slot) _:=h;rw[M,List.dropLast_concat]at h;have L:=bO.pushed (K:=X.K) g2 g1 λb z=>(Y b z).1;rw[<-Z]at L;exact h y F' _ H' I.pop L
     .rw[if_neg u]at h;exact h.elim
    |ok s n=>
     rw[eg]at h;intro v F' S' H' Sr W g' rv r fr;unfold df at h;dsimp only at h;by_cases u:cW q n=ae
     .rw[if_pos u]at h;obtain⟨S2,I,g2,u2⟩:=N.called P m J W g' (λ_ z=>.inl z) (nJ u);obtain⟨l,sl,M,Z⟩:=Cr (len n);rw[M]at I;have h:Ok X.K E T F S H (R.ok s (cY (d++[.own O]) q n).dropLast:R Slot) _:=h;rw[M,List.dropLast_concat]at h;have L:=bO.pushed (K:=X.K) g2 g1 λb z=>(Y b z).1;rw[<-Z]at L;refine h F' _ H' I.pop L v Sr rv λb z=>⟨nv g1 (fr b z),(r b z).1,λ⟨j,w,_⟩=>?_,(r b z).2.2⟩
      rcases u2 b ⟨j,w⟩with w|⟨i,w⟩
      .exact(r b z).2.1 w
      .obtain⟨_,_,o,y1,_⟩:=N.foot i b w;rw[fr b z]at y1;cases y1
     .rw[if_neg u]at h;exact h.elim
  .rw[if_neg J]at h;exact h.elim
end
section
variable{X:Cx}{E:XK}{pin:List Nat}{e b c o:aD}{de db u d:ac->R PV}{n:ac->R (List PV)}{g p q m:Pos}
def nL:List PV->Option PO
 |[.lst a]=>(jn a).bind λls=>if ls≠[]/\(fu ls).length<60 then aa (.lst (ai (bS (fu ls))))else ah
 |_=>ah
def Ox(X:Cx)(r:List V->Hp->VK->Prop):List V->Hp->VK->Prop:=λh H Q=>∃(p:ag) (f:List Tx),h=[.ref p]/\cI X.K H p (eN f)/\(fu f).length<4000/\∀a,H a=ah->r [.ref a] (upd H a (oR X a (fu f))) Q
def K2(X:Cx):List V->Hp->VK->Prop:=λf H Q=>∃(p:ag) (a:List Tx),f=[.ref p]/\H p=aa (oR X p a)/\a≠[]/\a.length<64/\∀l,H l=ah->Q (.ref l) (upd H l (.lst (eN (bS a))))
theorem Lj{l:List Tx}(h:l≠[]):fu l≠[]:=λz=>by
 cases l with
 |nil=>exact h rfl
 |cons x r=>have:x∈fu (x::r):=(qF _ _).mpr (by simp);rw[z]at this;simp at this
theorem JM:mo X.K (Ox X (K2 X)) nL:=λF H J K Q M G t e q=>by
 unfold nL at e;split at e
 .obtain⟨v,rfl,a,L,rfl,D,_,s⟩:=iS t;obtain⟨i,I,r⟩:=Option.bind_eq_some_iff.mp e;rw[yI I]at s;obtain⟨rfl,A⟩:=Rw.mp s;split at r
  .rename_i B;cases r;refine⟨a,i,rfl,.inl D,∅,λb C=>⟨b,fu i,rfl,upd_same,Lj B.1,∅,λl f=>?_⟩⟩;have j:l≠b:=by rintro rfl;rw[upd_same]at f;cases f
   have h:H l=ah:=by rw[cc j]at f;exact f
   have al:Al F F H (upd (upd H b (oR X b (fu i))) l (.lst (eN (bS (fu i))))):=(Al.new0 C).trans (Al.new0 f);refine q l F _ (λc=>c=l) al ⟨⟨_,upd_same,Rw.mpr ⟨rfl,λx y=>A x ((qF _ _).mp ((fZ _).mem_iff.mp y))⟩⟩,λc=>pW⟩ λc z=>?_;subst z;exact⟨h,λz=>Exists.elim (G _ z) (λo w=>by rw[h]at w;cases w),_,upd_same,trivial⟩
  .cases r
 .cases e
theorem Es(i:X.calm=ae)(s:DA X E [e] n)(l:X.mg "sorted"=ah)(a:X.mg "set"=ah)(r:Gl X "sorted":=by rfl)(f:Gl X "set":=by rfl)(h:kH e=aj:=by rfl):DN X E (.Call (.Name "sorted" p) [.Call (.Name "set" q) [e] [] m] [] g) (dL nL n):=λF S w v H Q j t=>cE (nX (Jq i) r l tR (jH (AB (LF i) f a Mo ik (by decide) (by decide) (jf h) rfl) lw (jf rfl)) (by decide) (by decide) (jf rfl) rfl) (wy JM s j t)
def kG(i j:Nat)(d:ac->R PV):ac->R aK:=λε=>(d ε).bind λx ε1=>match x with
 |.tup [a,b]=>.ok .next ((ε1.set i (.val a)).set j (.val b))
 |_=>.no
theorem A9(i j:Nat){x y:Str}{k:Nat}{f r l:Pos}(hc:X.calm=ae)(w:X.N.Nodup)(he:DE X E e de)(hp:i∉pin:=by decide)(Q:j∉pin:=by decide)(hi:X.N[i]?=aa x:=by rfl)(hj:X.N[j]?=aa y:=by rfl)(W:Loc X.env.scope x:=by first|exact Or.inl rfl|exact Or.inr rfl) (T:Loc X.env.scope y:=by first|exact Or.inl rfl|exact Or.inr rfl)(hf:X.fn x=ae\/X.env.scope.names.lookup x=aa .local:=by first|exact .inl rfl|exact .inr rfl) (s:X.fn y=ae\/X.env.scope.names.lookup y=aa .local:=by first|exact .inl rfl|exact .inr rfl)(Z:swapsWithSole [.Tuple [.Name x r,.Name y l] k f] e g.line X.env=pure aj:=by rfl) (Y:swappedStores [.Tuple [.Name x r,.Name y l] k f] e X.env=pure ah:=by rfl):DS X E pin (.Assign [.Tuple [.Name x r,.Name y l] k f] e g) (kG i j de):=λF S C A H D L h=>by
 refine ix (Mj b_ (FP hc (xD (rh w hi W hf) (xD (rh w hj T s) FM))) Z Y rfl) (he F S C A H _ L (h.bindE.imp λz B F1 S1 H1 O g1 t v J=>?_));split at t
 .rename_i a b;obtain⟨p,us,rfl,P,K⟩:=J;obtain⟨I,ra,rfl,N,G,rb,rfl,M,rfl⟩:=K;refine⟨p,_,rfl,cD.of P,rfl,I,_,rfl,G,_,rfl,rfl,?_⟩;exact t F1 _ _ H1 ((O.set N).set M) ((bO.less i).trans (bO.less j)) ((jA.set hp).trans (jA.set Q))
 .exact t.elim
def Lz(K:aA)(r:V->List V->Hp->VK->Prop)(i:TE)(t:TA):TE:=λf H Q=>i f H λx h=>(∃p a,x=.ref p/\h p=aa (.tup a))/\t f h λa j=>r x a j Q
theorem Jd{i:Str}{w:String}{r:V->List V->Hp->VK->Prop}{B:TE}{t:TA}{j f:Pos}{es:List aD}(l:PySem.Slot "tuple" i w)(Y:typeOf (.builtin w)=pure (.type "method_descriptor"))(hm:xP X w r)(ho:PE X o B)(ha:PA X (e::es) t)(mZ:n_ o i X.env (bq o X.env)=bq o X.env:=by rfl)(J:((fk f (bo (e::es) X.env)).all (λx=>!x.1)&&(backToKw f (BA [] X.env)).all (λx=>x.1.isSome)&&decide ((e::es).length+([]:List pS).length+(if([]:List pS).isEmpty then 0 else 1)<30))=ae:=by rfl)(m8:(j.endLine == f.line)=ae:=by rfl) (hs:bo (e::es) X.env=(aj,bq e X.env)::bo es X.env:=by rfl) (B5:(fk f (bo es X.env)).any (·.1)=aj:=by rfl):PE X (.Call (.Attribute o i j) (e::es) [] f) (Lz X.K r B t):=by
 intro A s y H Q I h;refine wpAny_Call_method_late mZ J m8 rfl (a9 (ho A s y H _ I h) λv C h'=>?_);obtain⟨x,G,F,P,⟨p,K,rfl,hp⟩,T⟩:=h';cases P;obtain⟨_,its,_,⟨W,e1,e2,_⟩,Z,e3,e4⟩:=(show eh X.prog X.w G C.heap p (.tup K)from F.hok p _ hp)
 refine⟨"tuple",w,PySem.F.plainAttrs_tuple,l,Y,⟨W,e1,e2⟩,λa z=>?_,?_⟩
 .cases z;exact⟨Z,e3,e4⟩
 have D:=ha f A C y G _ F T;rw[hs]at D ⊢;refine Bz (by show(aj||(fk f (bo es X.env)).any (·.1))=aj;rw[B5] <;> rfl) (BB ?_);exact a9 D λM N h2=>by obtain⟨L,H2,I2,O,S⟩:=h2;exact hm A N y H2 (.ref p) L (.ref p) M Q I2 rfl O S
def qt(f:List PV->PV->Option PV)(d de:ac->R PV):ac->R PV:=λε=>(d ε).bind λx h=>match x with
 |.tup i=>(de h).bind λk a=>aO (f i k) a
 |_=>.no
theorem E2{f a:Pos}(T:DE X E o d)(Y:DE X E e de)(O:n_ o "count" X.env (bq o X.env)=bq o X.env:=by rfl)(P:(f.endLine == a.line)=ae:=by rfl) (Z:kH e=aj:=by rfl):DE X E (.Call (.Attribute o "count" f) [e] [] a) (qt o0 d de):=λF S I A H Q M h=>by
 have t:=jf (es:=[]) (env:=X.env) Z;refine cE (Jd PySem.F.slot_tuple_count PySem.F.type_tuple_count IA b_ (jH b_ lw t) O (by rw[t];rfl) P t rfl) (T F S I A H _ M ((Ok.bind h).imp λx j F1 S1 H1 r g1 y v K=>?_));split at y
 .rename_i J;obtain⟨p,B,rfl,C,L⟩:=K;refine⟨⟨p,B,rfl,C⟩,Y F1 S1 j A H1 _ r ((Ok.bind y).imp λk G F2 S2 H2 N D q w l=>?_)⟩;unfold o0 at q;cases i:eK k with
  |none=>rw[i]at q;exact q.elim
  |some z=>
   cases s:gI J with
   |none=>rw[i,s]at q;exact q.elim
   |some ws=>rw[i,s]at q;obtain⟨rfl,W⟩:=yW (L.grow D r.fit) s;rw[j2 l i];exact⟨p,B,z,rfl,rfl,cD.of (D.imm r.fit C id),vp i,W,q F2 S2 H2 N (bO.refl ..) _ rfl⟩
 .exact y.elim
end
section
variable{X:Cx}
theorem sZ:∀(a:List ak) (ss:List Str),a.length=ss.length->(∀(i:Nat) v x,a[i]?=aa v->ss[i]?=aa x->∃t,v=.str x t)->gM a ss
 |[],[],_,_=>.nil
 |v::a,x::ss,b,h=>by obtain⟨t,rfl⟩:=h 0 v x rfl rfl;exact .cons x t (sZ a ss (ye b) λi v x d c=>h (i+1) v x (by simpa using d) (by simpa using c))
 |[],_::_,b,_=>by cases b
 |_::_,[],b,_=>by cases b
theorem QT(O:X.calm=ae):gn X (.builtin "sorted") (λp H Q=>∃(d:ag) (kvs:List (aP×V)) (a:List Tx),p=[.ref d]/\H d=aa (.dK kvs)/\kvs.map (·.1)=a.map (λx=>Sum.inr (tS x))/\a.length<64/\∀l,H l=ah->Q (.ref l) (upd H l (.lst (eN (bS a))))):=by
 intro af s F H p us Q I r h;obtain⟨d,kvs,a,rfl,N,A,w,q⟩:=h;obtain⟨u,rfl,G⟩:=vals1 r;cases G;obtain⟨z,L,t,b,W⟩:=tZ I.hok N;obtain⟨ep,n⟩:=W.dictAt;have D:t.length=a.length:=by have g:=congrArg n9 A;simp only[b0]at g;rw[<-b.length];exact g
 refine zx (PySem.W.kdu_collect (PySem.W.kdl_dict (knd:=gG X.prog X.w) (kvs:=t) (ep:=ep) L) (sx (I.ok.hd O)) n (by rw[<-b.length];exact z) λB j Y k m=>?_);have f:gM Y.toList (a.map tS):=by
  refine sZ _ _ (by rw[b0,ri,m.1,D]) λi v x g c=>?_;obtain⟨J,y,T,S⟩:=m.2 i v (by rw[<-Array.getElem?_toList];exact g);obtain⟨wv,P,_⟩:=KV.at b T;have o:(kvs.map (·.1))[i]?=aa J:=by rw[iI,P];rfl
  rw[A,iI]at o;rw[iI]at c;cases C:a[i]? with
  |none=>rw[C]at c;cases c
  |some l=>
   rw[C]at o c;cases o;cases c;exact Value.isStrOf_shape S
 have E:Inv X af F H {s with heap:=B,toks:=j}:=I.kept (t':=j) k;refine⟨a.map tS,f,by rw[ri,m.1,D];exact w,λc out aU e K M b1 b2 Z=>?_⟩;exact⟨.ref _,_,Inv.sorted (s1:={s with heap:=B,toks:=j}) (ss:=a.map tS) E rfl w K M b1 b2 Z,rfl,q _ E.fresh⟩
def ph:List (aP×PV)->Option (List Tx)
 |[]=>aa []
 | (.inr k,_)::r=>(ph r).map (k.cps.toList::·)
 |_=>ah
theorem FG:∀{a:List (aP×PV)}{b:List Tx},ph a=aa b->a.map (·.1)=b.map (λx=>Sum.inr (tS x))
 |[],b,h=>by cases h;rfl
 | (.inr k,_)::r,b,h=>by simp only[ph,xX]at h;obtain⟨l,c,rfl⟩:=h;rw[ci,ci,FG c,EH]
 | (.inl _,_)::_,_,h=>by cases h
def qA(b:List (aP×PV)):Option PO:=(ph b).bind λa=>if a.length<64/\(∀x∈a,x.length<=bR)then aa (.lst (ai (bS a)))else ah
def jP(i:Nat):ac->R PO:=λε=>(aO (dw ε i) ε).bind λa ε=>aO (qA a) ε
theorem gK.keys{K:aA}{H:Hp}{F:ag->Prop}{a:List (aP×PV)}{b:List (aP×V)}(h:gK K H F a b):b.map (·.1)=a.map (·.1):=by
 unfold gK at h
 induction h with
 |nil=>rfl
 |cons r _ c=>rw[ci,ci,c,r.1]
theorem Ey{E:XK}(i:Nat){y:Str}{u p g:Pos}(I:X.calm=ae)(B:X.mg "sorted"=ah)(K:X.N[i]?=aa y:=by rfl)(L:gT X.env.scope y:=by eq_refl)(G:(y==("__debug__":Str))=aj:=by decide) (N:(y==("__classdict__":Str))=aj:=by decide) (D:Gl X "sorted":=by rfl):DN X E (.Call (.Name "sorted" p) [.Name y u] [] g) (jP i):=λF S t O H Q d h=>by
 unfold jP at h;cases q:dw t i with
 |none=>rw[q]at h;exact h.elim
 |some m=>
  rw[q]at h;simp only[c9,R.bind_ok]at h;obtain⟨a,v,M,J,C,P,_⟩:=d.dkAt (kL q);unfold qA at h;cases n:ph m with
  |none=>rw[n]at h;exact h.elim
  |some r=>
   rw[n,lO]at h;split at h
   .rename_i s;refine cE (nX (QT I) D B tR (jH (iQ K L G N) lw (jf rfl)) (by decide) (by decide) (jf rfl) rfl) ⟨.ref a,M,a,v,r,rfl,J,by rw[C.keys];exact FG n,s.1,λl f=>?_⟩;have al:Al F F H (L2.upd H l (.lst (eN (bS r)))):=Al.new0 f;refine h F S _ (d.al al) al.grow l (λc=>c=l) ⟨⟨_,upd_same,Rw.mpr ⟨rfl,λx A=>s.2 x ((fZ _).mem_iff.mp A)⟩⟩,λc=>pW⟩ λb z=>?_;subst z;exact⟨f,λz=>Exists.elim (d.ex _ z) (λo w=>by rw[f]at w;cases w),λ⟨j,z⟩=>Exists.elim (d.foot j b z).2.2 (λo w=>by rw[f]at w;cases w.1),_,upd_same,trivial⟩
   .exact h.elim
end
end Pu
namespace L2
def J5(b:KeyKind)(p:Keyed):Prop:=∃a,b.keyOf p.1=aa a
structure SB(kz:SortKind)(st:SortSt):Prop where
 kind:kindOf st=kz
 failed:failedOf st=ah
section
variable{c:KeyKind}{d:SortKind}
theorem P5(a:Array Keyed)(i j:Nat):(a.extract i j).toList=(a.toList.drop i).take (j-i):=by simp[Array.toList_extract,List.extract_eq_take_drop]
variable{a b out:Array Keyed}{g f:Nat}
end
section
variable{c:KeyKind}{g:SortKind}
theorem MB(a:Array Keyed)(n:Nat):(a.extract 0 n).toList=a.toList.take n:=by rw[P5];simp
variable{a b out:Array Keyed}{f d:Nat}
end
section
variable{b:KeyKind}{c:SortKind}
def AllK(b:KeyKind)(a:Array Keyed):Prop:=∀i (d:i<a.size),J5 b a[i]
end
theorem Dx{a b:Type}{f g:a->Option b}:∀{l:List a},(∀k∈l,f k=g k)->l.filterMap f=l.filterMap g
 |[],_=>rfl
 |x::l,h=>by rw[pK,pK,h x (by simp),Dx λk c=>h k (by simp[c])]
theorem R6{b:Type}(l:List b):((cg l.length).map λk=>l.length-1-k).filterMap (λi=>l[i]?)=l.reverse:=by
 have h:∀k,k<l.length->l[l.length-1-k]?=l.reverse[k]?:=λk a=>by rw[List.getElem?_reverse a]
 have e:((cg l.length).map λk=>l.length-1-k).filterMap (λi=>l[i]?)=(cg l.length).filterMap λk=>l.reverse[k]?:=by rw[Hw];exact Dx λk a=>h k (ka.mp a)
 rw[e];have:=DH l.reverse 0 l.length;simp only[lP,List.map_id',x6]at this;rw[this,k6 (by simp)]
end L2
namespace Pu
open L2
section
variable{X:Cx}{E:XK}{e g:aD}{c:TE}{b:TO}{a f:Pos}{d:ac->R PV}
theorem _root_.Pu.Reps.rev{K:aA}{H:Hp}{F:ag->Prop}:∀{i:List PV}{j:List V},Reps K H F i j->Reps K H F i.reverse j.reverse
 |[],_,h=>by rw[show _=[] from h];rfl
 |x::i,_,⟨v,r,e,m,l⟩=>by subst e;rw[BC,BC];exact l.rev.app (Reps.one m)
end
end Pu
namespace Mx
def F5:Nat->Nat->Nat
 |0,x=>x
 |n+1,x=>F5 n (5*x+1)
end Mx
namespace Pu
open L2
section
variable{X:Cx}{E:XK}{pin:List Nat}{e b c:aD}{de db f:ac->R PV}{d:Pos}
def mE(i:Nat):ac->R PV:=λa=>(aO (dw a i) a).bind λg a=>.ok (.int (g.length:Nat)) a
theorem Gi(i:Nat){y:Str}{p g:Pos}(q:X.mg "len"=ah)(w:X.N[i]?=aa y:=by rfl)(x:gT X.env.scope y:=by eq_refl)(u:(y==("__debug__":Str))=aj:=by decide) (B:(y==("__classdict__":Str))=aj:=by decide) (t:Gl X "len":=by rfl)(l:bo [.Name y g] X.env=(aj,bq (.Name y g) X.env)::bo [] X.env:=by rfl) (A:(fk d (bo [] X.env)).any (·.1)=aj:=by rfl):DE X E (.Call (.Name "len" p) [.Name y g] [] d) (mE i):=λF S m C H Q r h=>by
 unfold mE at h;cases j:dw m i with
 |none=>rw[j]at h;exact h.elim
 |some o=>rw[j]at h;obtain⟨a,n,z,v,s,_⟩:=r.dkAt (kL j);refine cE (nX K5 t q rfl (jH (iQ w x u B) lw l) (by decide) (by decide) l A) ⟨_,z,a,n,rfl,v,?_⟩;rw[s.len];exact h F S H r (bO.refl ..) _ rfl
def iN(neg:Bool)(i:Nat)(db:ac->R PV):ac->R PV:=λε=>(db ε).bind λk ε1=>(aO (dw ε1 i) ε1).bind λa ε1=>aO ((gY k).map λk=>.bl (neg^^(hG a k).isSome)) ε1
theorem II{i:Nat}(j:Bool){F:ag->Prop}{S:Nat->ag->Prop}{n:ac}{g:St}{H:Hp}{Q:VK}(J:DE X E b db)(D:a_ X.K F S n g H)(h:Ok X.K E g F S H (iN j i db n) (λpv _ M _ z=>∀v,bd X.K z M pv v->Q v z)):gC X b g H λy l=>∃x,g[i]?=aa (aa x)/\∃a o,x=.ref a/\mn l a y o/\Q (.bl (j^^o.isSome)) l:=by
 unfold iN at h;refine J F S n g H _ D ((Ok.bind h).imp λk m A w l p N q u C=>?_);cases s:dw m i with
 |none=>rw[s]at q;exact q.elim
 |some G=>
  rw[s]at q;simp only[c9,R.bind_ok]at q;obtain⟨a,B,L,K,I,_⟩:=p.dkAt (kL s);cases r:gY k with
  |none=>rw[r]at q;exact q.elim
  |some t=>
   rw[r,rN]at q;rw[qT C r];refine⟨.ref a,L,a,jk B t,rfl,mn.k K,?_⟩;rcases I.val t with⟨x,v,h1,h2,h3⟩|⟨h1,h2⟩
   .rw[h1]at q;rw[h2];exact q A w l p (bO.refl ..) _ rfl
   .rw[h1]at q;rw[h2];exact q A w l p (bO.refl ..) _ rfl
theorem zR(i:Nat){y:Str}{a:Pos}(t:X.A.units+64<cLine)(m:DE X E b db)(n:X.N[i]?=aa y:=by rfl)(o:gT X.env.scope y:=by eq_refl)(l:(y==("__debug__":Str))=aj:=by decide) (p:(y==("__classdict__":Str))=aj:=by decide) (j:pL .In (.Name y a)=aj:=by rfl):DT X E (.Compare b [.In] [.Name y a] d) (dB (iN aj i db)):=λF S s r H Q g h=>by refine ul (PB (MX ∅ b_ (iQ n o l p)) j) ?_;have:=II (Q:=λv q=>∃k,v=.bl k/\Q k q) aj m g (sG h);simp only[gP]at this;exact this
def sH(db f:ac->R PV):ac->R PO:=λh=>(db h).bind λk g=>(f g).bind λy a=>(aO (gY k) a).bind λi a=>.ok (.dK [(i,y)]) a
theorem Lr(Y:DE X E b db)(W:DE X E c f):DN X E (.Dict [aa b] [c] d) (sH db f):=λF S M G H Q t h=>by
 refine cE (JR (Nq b_ b_ P7) rfl rfl (by simp) (by simp)) λp l=>?_;have al:Al F F H (upd H p (.dK [])):=Al.new0 l;have T:¬F p:=λz=>by obtain⟨o,q⟩:=t.ex p z;rw[l]at q;cases q
 have nS:¬U S p:=λ⟨i,z⟩=>by obtain⟨_,_,o,q,_⟩:=t.foot i p z;rw[l]at q;cases q
 have A:bO (U S) (U S) F F H (upd H p (.dK [])):=al.grow;refine Y F S M G _ _ (t.al al) ((Ok.bindB h A).imp λk n F1 S1 H1 I C Z u N=>?_);obtain⟨e1,x,v⟩:=C.stay (upd_same:upd H p (.dK []) p=aa (.dK [])) nS T;refine W F1 S1 n G H1 _ I ((Ok.bindB Z (A.trans C)).imp λy L K S2 H2 P B m w r=>?_);obtain⟨J,g,a⟩:=B.stay e1 v x;cases D:gY k with
 |none=>rw[D]at m;exact m.elim
 |some j=>
  rw[D]at m;simp only[c9,R.bind_ok]at m;have s:bd X.K H2 K k u:=N.grow B I.fit;refine⟨J,[(j,w)],?_,by simp,?_⟩
  .rw[ci,rF,<-qT s D]
  .rw[show rf [] [(j,w)]=[(j,w)] from rfl];obtain⟨gl,fit,O⟩:=P.lay (o':=.dK [(j,w)]) J trivial g a;have g3:=((A.trans C).trans B).lay (o':=.dK [(j,w)]) l;refine m K S2 _ O g3 p (λb=>b=p) ⟨⟨_,upd_same,.cons ⟨rfl,r.grow gl fit⟩ .nil⟩,λb=>pW⟩ λb z=>?_;subst z;exact⟨l,g,a,_,upd_same,trivial⟩
end
end Pu
namespace L2
section
variable{X:Cx}
theorem Qe(bs:List Bool):(cg bs.length).any (λi=>bs.getD i aj)=bs.any id:=by
 induction bs with
 |nil=>rfl
 |cons b bs a=>rw[eY,xZ,kZ,uQ,kZ,<-a];rfl
theorem Cq(g:X.calm=ae):gn X (.builtin "any") (λj H Q=>∃(p:ag) (bs:List Bool),j=[.ref p]/\cI X.K H p (bs.map V.bl)/\Q (.bl (bs.any id)) H):=by
 intro K s n H j M Q I r h;obtain⟨p,bs,rfl,C,q⟩:=h;obtain⟨u,rfl,w⟩:=vals1 r;cases w;obtain⟨a,l,d,O⟩:=I.list C;have m:=l.length;rw[b0]at m;refine call_any_walk (BL d.isList ?_);have J:p≠s.heap.objs.size:=by obtain⟨o,f,_⟩:=d.isList;exact dW (bN f)
 refine⟨s.heap.objs.size,_,_,_,_,_,λi=>bs.getD i aj,rfl,Walks.list (sx (I.ok.hd g)) s.heap.objs.size p J a.toArray,⟨⟨_,cL _ rfl,rfl,rfl⟩,?_⟩,λi v N S T B G=>?_,λP t k=>?_⟩
 .obtain⟨o,f,g,E⟩:=d.isList;exact⟨o,bz _ f,g,E⟩
 .rw[G5 l B];exact lH G
 .have e:(cg a.toArray.size).any (λi=>bs.getD i aj)=bs.any id:=by
   rw[ef,<-m];exact Qe bs
  rw[e];have L:Inv X K n H {s with heap:=s.heap.push {cls:=.type "list_iterator",data:=.fields #[.ref p,.int 0 0]},toks:=s.toks}:=I.kept (t':=s.toks) λb o e=>bz _ e;exact⟨.bl _,H,Inv.turned (t':=t) L (it:=s.heap.objs.size) (λb o F e=>k b o (by simpa using F) e) I.fresh (iZ I.lt) (.inr I.sz) (λx c e z=>by obtain⟨v,y⟩:=I.cell x c e;exact absurd y.lt (by rw[z];exact fh _)) (λA D z=>absurd (bN (I.pin A D).1) (by rw[z];exact fh _)),rfl,q⟩
end
end L2
namespace Pu
open L2
def mJ:List PV->Option PV
 |[.lst xs]=>(jg xs).map λbs=>.bl (bs.any id)
 |_=>ah
theorem Fx{K:aA}:PL K (λc H Q=>∃(p:ag) (bs:List Bool),c=[.ref p]/\cI K H p (bs.map V.bl)/\Q (.bl (bs.any id)) H) mJ:=λF H c i Q pv g e q=>by
 unfold mJ at e;split at e
 .rename_i f;cases b:jg f with
  |none=>rw[b]at e;cases e
  |some bs=>
   rw[b]at e;cases e;obtain⟨v,rfl,a,j,rfl,d,_,h⟩:=iS g;rw[zN h b]at d;exact⟨a,bs,rfl,.inl d,q _ F H (Al.refl ..) rfl⟩
 .cases e
end Pu
namespace L2
open Mx
theorem least{p:Nat->Prop}:∀(n:Nat),p n->∃m,m<=n/\p m/\∀k,k<m->¬p k
 |0,h=>⟨0,bC _,h,λk d=>absurd d (BR _)⟩
 |n+1,h=>by
  by_cases z:∃m,m<=n/\p m/\∀k,k<m->¬p k
  .obtain⟨m,a,b,c⟩:=z;exact⟨m,∅,b,c⟩
  .refine⟨n+1,bC _,h,λk d f=>z ?_⟩;obtain⟨m,a,b,c⟩:=least k f;exact⟨m,∅,b,c⟩
section
variable{P:bv}{w:bc}{A:bG}{E:ak->aq->Prop}{s:aq}
structure Keyd(P:bv)(w:bc)(K:Type)[DecidableEq K] where
 is:aJ->K->ak->Prop
 hash:K->Int
 room:bG->Prop
 keep:∀{h h':aJ}{k:K}{v:ak},is h k v->(∀b o,h.get? b=aa o->o.cls=.type "tuple"->h'.get? b=aa o)->is h' k v
 ref:∀{h:aJ}{k:K}{v:ak},is h k v->∃a o,v=.ref a/\h.get? a=aa o
 eqBool:∀{A:bG}{E:ak->aq->Prop}{s:aq}{x y:K}{u v:ak}{Q:Bool->aq->Prop},room A->is s.heap x u->is s.heap y v->Q (decide (x=y)) s->ax (aH P w) A (PySem.eqBool u v) Q E s
 quiet:∀{A:bG}{E:ak->aq->Prop}{s:aq}{k:K}{v:ak}{Q:Bool->aq->Prop},is s.heap k v->Q ae s->ax (aH P w) A (eqIsQuiet 8 v) Q E s
 cls:∀{A:bG}{E:ak->aq->Prop}{s:aq}{k:K}{v:ak}{Q:Bool->aq->Prop},is s.heap k v->Q aj s->ax (aH P w) A (ofAClassStatement 8 v) Q E s
 hbv:∀{A:bG}{E:ak->aq->Prop}{s:aq}{k:K}{v:ak}{Q:Bool->aq->Prop},is s.heap k v->Q aj s->ax (aH P w) A (hashByValue 8 v) Q E s
variable{K:Type}[DecidableEq K]{c:Keyd P w K}
end
section
open PySem.SeqAt
open PySem.AutoSeq1 (wpAny_loadPart')
open PySem.MeetsSeq PySem.MeetsSeq2 PySem.MeetsSeq3
end
section
variable{X:Cx}{l:List aD}{k:Nat}{j:Pos}
def wW:V->Hp->St->Prop:=λv H a=>∃p x y,v=.ref p/\H p=aa (.tup [x,y])/\a=[aa x,aa y]
variable{f:eP}{x y:Str}{g:List Str}{i:List Nat}
theorem Ci{M L:Pos}(B:h8 X f x g i)(O:X.calm=ae)(D:g[1]?=aa y)(J:f.names.lookup y=aa .local):∀C m o A z,PG (bK X f g C m o A z) (.Tuple [.Name x M,.Name y L] k j) λv w H Q=>∃E,E.length=1+1/\w.length=g.length/\wW v H E/\Q (E++w.drop (1+1)) H:=by
 intro C m o A z S s w H v u Q I r h;obtain⟨E,_,P,⟨p,a,b,rfl,N,rfl⟩,q⟩:=h;have W:Loc (bK X f g C m o A z).env.scope x:=B.loc.elim (λh=>.inl (uJ h)) (λh=>.inr (wp h));have T:(bK X f g C m o A z).fn x=ae\/(bK X f g C m o A z).env.scope.names.lookup x=aa .local:=B.loc.elim (λh=>.inr (uJ h)) (λh=>.inl (by show(f.names.lookup x == aa .cell)=ae;rw[h];rfl));have F:(bK X f g C m o A z).N[0]?=aa x:=by show g[0]?=aa x;rw[<-List.head?_eq_getElem?];exact B.hd
 have K:Q (((w.set 0 (aa a)).set 1 (aa b))) H:=by
  match w,P,q with
  |c::d::t,_,q=>exact q
  |[c],G,_=>rw[rQ (by rw[<-G];simp)]at D;cases D
  |[],G,_=>rw[rQ (by rw[<-G];simp)]at D;cases D
 refine FP (X:=bK X f g C m o A z) (n:=2) O (xD (rh (X:=bK X f g C m o A z) B.nd F W T) (xD (rh (X:=bK X f g C m o A z) B.nd (show(bK X f g C m o A z).N[1]?=aa y from D) (.inl (uJ J)) (.inr (uJ J))) FM)) rfl rfl S s w H _ u Q I r ⟨p,[a,b],rfl,cD.of N,rfl,a,[b],rfl,b,[],rfl,rfl,K⟩
end
section
variable{X:Cx}{a:eP}{x y:Str}{c:List Str}{b:List Nat}
theorem JQ{l f:aD}{t r p pos:Pos}{k j:Nat}{i:List aD}{wi:TI}{ts:TT}{te:TE}(B:h8 X a x c (j::b))(u:X.calm=ae)(A:c[1]?=aa y)(E:a.names.lookup y=aa .local)(F:PI X (.Tuple [.Name x t,.Name y r] k p) f wi)(ht:∀C d g o m,pb (bK X a c C d g o m) i ts) (G:∀C d g o m,PE (bK X a c C d g o m) l te) (D:∀x,lI f X.env x=pure x:=by intro _;rfl):PE X (.ListComp l [⟨.Tuple [.Name x t,.Name y r] k p,f,i,0⟩] a pos) (ux wi wW 1 ts te (j::b)):=by intro M s K H Q I h;rw[eval_ListComp];exact AG (use:=ah) B (by simp) u F (Ci B u A E) ht G D I h λJ f3 v q=>by obtain⟨z,n,_⟩:=v.loc;exact⟨z,n,λL w=>⟨.ref _,_,J.unblock f3 v w,rfl,q⟩⟩
end
end L2
namespace Pu
open L2
def jm{f:Type}(b:List Nat)(d:ac->R f)(x y:PV):ac->R f:=λa=>(aO (eJ a b) a).bind λc _=>(aO (if(bX c).Nodup then cK a (.inl x::.inl y::c)else ah) a).bind λg _=>df a (.inl x::.inl y::c) (d g)
def nz(a:List Nat)(dt:ac->R Bool)(de:ac->R PV):List (PV×PV)->List PV->ac->R (List PV)
 |[],c,f=>.ok c f
 |x::g,c,f=>(cu (jm a dt x.1 x.2 f)).bind λk b=>match k with
  |true=>(cu (jm a de x.1 x.2 b)).bind λy d=>nz a dt de g (c++[y]) d
  |false=>nz a dt de g c b
def iz(cap:List Nat)(di:ac->R (List (PV×PV)))(dt:ac->R Bool)(de:ac->R PV):ac->R PO:=λε=>(di ε).bind λc ε1=>(nz cap dt de c [] ε1).bind λb a=>.ok (.lst b) a
theorem Dg{K:aA}{E:XK}{F:ag->Prop}{S:Nat->ag->Prop}{s:ac}{f:St}{H:Hp}{J:Type}{b:List Nat}{d:ac->R J}{x y:PV}{v w:V}{C:J->ac->(ag->Prop)->(Nat->ag->Prop)->Hp->Prop}(r:a_ K F S s f H) (Q:bd K H F x v) (P:bd K H F y w) (h:Ok K E f F S H (cu (jm b d x y s)) C):∃N l,a_ K F N l (aa v::aa w::fU f b) H/\Ok K E0 (aa v::aa w::fU f b) F N H (d l) (λa _ q _ p=>∃j A,a_ K q A j f p/\bO (U S) (U A) F q H p/\C a j q A p):=by
 unfold jm at h;cases G:eJ s b with
 |none=>rw[G]at h;exact h.elim
 |some g=>
  rw[G]at h;simp only[c9,R.bind_ok]at h;by_cases B:(bX g).Nodup
  .rw[if_pos B]at h;cases u:cK s (.inl x::.inl y::g)with
   |none=>rw[u]at h;exact h.elim
   |some l=>
    rw[u]at h;simp only[c9,R.bind_ok]at h;obtain⟨t,Y,X⟩:=vB r G;have o:iM K f F H (.inl x::.inl y::g) (v::w::t):=⟨v,w::t,rfl,Q,w,t,rfl,P,Y⟩
    have n:aa v::aa w::fU f b=(v::w::t).map aa:=by rw[X];rfl
    have m:(bX (.inl x::.inl y::g)).Nodup:=B;refine⟨lx (.inl x::.inl y::g) S,l,by rw[n];exact r.cal o u m,?_⟩;rw[n];cases D:d l with
    |no=>rw[D]at h;exact h.elim
    |er c I=>
     rw[D]at h;unfold df at h;dsimp only at h;by_cases i:cW (.inl x::.inl y::g) I=ae
     .rw[if_pos i]at h;exact h.elim
     .rw[if_neg i]at h;exact h.elim
    |ok a I=>
     rw[D]at h;intro q A p T W;unfold df at h;dsimp only at h;by_cases i:cW (.inl x::.inl y::g) I=ae
     .rw[if_pos i]at h;obtain⟨O,L,M,_⟩:=r.called o u m T W (λ_ z=>z) (nJ i);exact⟨_,O,L,M,h q O p L M⟩
     .rw[if_neg i]at h;exact h.elim
  .rw[if_neg B]at h;exact h.elim
def AW(J:It)(b:List (V×V))(R:Hp->Prop):Prop :=
 ∀H,R H->∀i,(∀x,b[i]?=aa x->J.go i H/\∀v a,J.yld i H v a->∃p,v=.ref p/\a p=aa (.tup [x.1,x.2])/\(a=H\/(H p=ah/\a=upd H p (.tup [x.1,x.2]))))/\(i=b.length->J.stop i H)
def pt(K:aA)(H:Hp)(F:ag->Prop)(b:List (PV×PV))(a:List (V×V)):Prop:=Reps K H F (b.map (·.1)) (a.map (·.1))/\Reps K H F (b.map (·.2)) (a.map (·.2))
def tQ(X:Cx)(E:XK)(o a:aD)(d:ac->R (List (PV×PV))):Prop:=∀F S j c H l,a_ X.K F S j c H ->
 Ok X.K E c F S H (d j) (λp _ n q h=>∀J f m,pt X.K h n p f->f.length<=bB->AW J f m->(∀g i b,bO (U q) (U g) n i h b->m b)->l J h)->lF X o a c H l
section
variable{X:Cx}{E:XK}{c:eP}{x y:Str}{N':List Str}{cap:List Nat}
theorem CY{Z K:aD}{tg:aD}{Y:List aD}{j:Nat}{di:ac->R (List (PV×PV))}{dt:ac->R Bool}{de:ac->R PV}(hi:tQ X E tg K di)(ht:∀C d f g n,DF (bK X c N' C d f g n) E0 Y dt) (he:∀C d f g n,DE (bK X c N' C d f g n) E0 Z de){F:ag->Prop}{S:Nat->ag->Prop}{ε:ac}{r:St}{H:Hp}{Q:VK} (rl:a_ X.K F S ε r H) (h:Ok X.K E r F S H (iz cap di dt de ε) (λpo _ A S' s=>∀a Sa,fo X.K s A po a Sa->(∀b,Sa b->H b=ah/\¬A b/\¬U S' b/\∃o,s b=aa o/\e_ o)->Q (.ref a) s)):ux (lF X tg K) wW 1 (λr H Q=>∀C d f g n,nN (bK X c N' C d f g n) Y r H Q) (λr H Q=>∀C d f g n,gC (bK X c N' C d f g n) Z r H Q) (j::cap) r H Q:=by
 refine hi F S ε r H _ rl ((Ok.bind h).imp λt ε1 O S1 H1 r1 g1 h1 J vs RR rs hz hw keep l hl=>?_);have h1:=h1.bind;have hvl:vs.length=t.length:=by have:=rs.1.len;simpa using this
 have a0:Al O O H1 (upd H1 l (.lst [])):=Al.new0 hl;have nF1:¬O l:=λz=>by obtain⟨o,q⟩:=r1.ex l z;rw[hl]at q;cases q
 have nS1:¬U S1 l:=λ⟨i,z⟩=>by obtain⟨_,_,o,q,_⟩:=r1.foot i l z;rw[hl]at q;cases q
 have hH:H l=ah:=nv g1 hl;refine⟨λi m G s=>m=t.length-i/\i<=t.length/\∃A S' ε' bf,a_ X.K A S' ε' r s/\bO (U S1) (U S') O A H1 s/\s l=aa (.lst G)/\¬A l/\¬U S' l/\Reps X.K s A bf G/\G.length<=i /\ Ok X.K E r O S1 H1 (nz cap dt de (t.drop i) bf ε') (λys' B D S2 N=>Ok X.K E r D S2 N (R.ok (PO.lst ys') B) (λpo _ A S' s=>∀a Sa,fo X.K s A po a Sa->(∀b,Sa b->H b=ah/\¬A b/\¬U S' b/\∃o,s b=aa o/\e_ o)->Q (.ref a) s)),⟨_,rfl,kg _,O,S1,ε1,[],r1.al a0,a0.grow,upd_same,nF1,nS1,rfl,bC _,h1⟩,?_⟩;rintro i m G H0 ⟨rfl,hi,D,S2,B,bf,r0,g0,el0,nF2,nS2,w,hyl,q2⟩;have RH:=keep S2 D H0 g0;by_cases bT:i<t.length
 .obtain⟨v,hv⟩:∃v,vs[i]?=aa v:=⟨_,fO ∅⟩
  obtain⟨go,yl⟩:=(hw H0 RH i).1 v hv;refine .inr ⟨go,λv' N yy=>?_⟩;obtain⟨p,e1,e2,e3⟩:=yl v' N yy;subst e1;refine⟨[aa v.1,aa v.2],rfl,⟨p,_,_,rfl,e2,rfl⟩,?_⟩;have al:Al D D H0 N:=by
   rcases e3 with rfl|⟨e3,rfl⟩
   .exact Al.refl ..
   .exact Al.new0 e3
  have r2:=r0.al al;have g2:bO (U S1) (U S2) O D H1 N:=g0.trans al.grow;have el:N l=aa (.lst G):=al.same _ _ el0;have I:=al.reps w;show ∀C d f g n,nN (bK X c N' C d f g n) Y (aa v.1::aa v.2::fU r cap) N _;obtain⟨W,hx,rx⟩:=rs.1.back (show(vs.map (·.1))[i]?=aa v.1 by rw[iI,hv];rfl);obtain⟨T,hy,ry⟩:=rs.2.back (show(vs.map (·.2))[i]?=aa v.2 by rw[iI,hv];rfl);have g:t[i].1=W:=by rw[iI,fO bT]at hx;exact fg hx
  have ey:t[i].2=T:=by rw[iI,fO bT]at hy;exact fg hy
  have ed:t.drop i=(W,T)::t.drop (i+1):=by rw[HN bT];congr 1;exact Prod.ext g ey
  rw[ed]at q2;have rx2:=rx.grow g2 r1.fit;have ry2:=ry.grow g2 r1.fit;have q3:=Ok.bindB q2 g2;obtain⟨Sb,ss,rb,okb⟩:=Dg r2 rx2 ry2 q3;intro C d f g n;refine ht C d f g n D Sb ss _ N _ rb (okb.imp λb _ F3 _ H3 _ _ ⟨ε3,S3,r3,L,q4⟩=>?_);obtain⟨el3,nF3,nS3⟩:=L.stay el nS2 nF2;cases b with
  |false=>exact mq ⟨_,∅,rfl,bT,F3,S3,ε3,bf,r3,g2.trans L,el3,nF3,nS3,I.grow L r2.fit,∅,q4⟩
  |true=>refine mC ?_;have q5:Ok X.K E r O S1 H1 ((cu (jm cap de W T ε3)).bind λy B=>nz cap dt de (t.drop (i+1)) (bf++[y]) B) _:=q4;obtain⟨Sc,sc,rc,okc⟩:=Dg r3 (rx2.grow L r2.fit) (ry2.grow L r2.fit) (Ok.bindB q5 (g2.trans L));show ∀C d f g n,gC (bK X c N' C d f g n) Z (aa v.1::aa v.2::fU r cap) H3 _;intro C d f g n;refine he C d f g n F3 Sc sc _ H3 _ rc (okc.imp λy _ F4 _ H4 _ _ ⟨ε4,S4,r4,g4,q6⟩ u ru=>?_);obtain⟨el4,nF4,nS4⟩:=g4.stay el3 nS3 nF3;have P:=(I.grow L r2.fit).grow g4 r3.fit;obtain⟨gl,M,r5⟩:=r4.lay (o':=.lst (G++[u])) el4 trivial nF4 nS4;have g5:=((g2.trans L).trans g4).lay (o':=.lst (G++[u])) hl;refine⟨el4,?_,_,∅,rfl,bT,F4,S4,ε4,bf++[y],r5,g5,upd_same,nF4,nS4,(P.grow gl M).app (.one (ru.grow gl M)),by simp;lia,q6⟩;lia
 .have e:i=t.length:=∅
  subst e;refine .inl ⟨(hw H0 RH _).2 hvl.symm,?_⟩;rw[HP]at q2;exact q2 D S2 H0 r0 g0 D S2 H0 r0 (bO.refl ..) l (λb=>b=l) ⟨⟨G,el0,w⟩,λb=>pW⟩ λb z=>by subst z;exact⟨hH,nF2,nS2,_,el0,trivial⟩
theorem Fp{l d:aD}{p o n pos:Pos}{k j:Nat}{i:List aD}{r:ac->R (List (PV×PV))}{dt:ac->R Bool}{de:ac->R PV}(B:h8 X c x N' (j::cap))(D:X.calm=ae)(z:tQ X E (.Tuple [.Name x p,.Name y o] k n) d r)(ht:∀C a b g f,DF (bK X c N' C a b g f) E0 i dt) (A:∀C a b g f,DE (bK X c N' C a b g f) E0 l de) (u:N'[1]?=aa y:=by rfl) (w:c.names.lookup y=aa .local:=by rfl) (v:∀x,lI d X.env x=pure x:=by intro _;rfl):DN X E (.ListComp l [⟨.Tuple [.Name x p,.Name y o] k n,d,i,0⟩] c pos) (iz cap r dt de):=λF S G m H Q t h=>cE (JQ (wi:=lF X (.Tuple [.Name x p,.Name y o] k n) d) (ts:=λm H Q=>∀C a b g f,nN (bK X c N' C a b g f) i m H Q) (te:=λm H Q=>∀C a b g f,gC (bK X c N' C a b g f) l m H Q) (pos:=pos) B D u w uy (λC a b g f q s m H Q I h=>(h C a b g f).run q s I) (λC a b g f q s m H Q I h=>(h C a b g f).run q s I) v) (CY z ht A t h)
def gX{b a:Type}(f:Nat->a):Nat->List b->List (a×b)
 |_,[]=>[]
 |n,x::d=>(f n,x)::gX f (n+1) d
theorem zr{d b:Type}(f:Nat->b):∀(n:Nat) (a:List d),(gX f n a).map (·.2)=a
 |_,[]=>rfl
 |n,x::a=>by show x::_=_;rw[zr f (n+1) a]
theorem GQ{d b:Type}(f:Nat->b):∀(n:Nat) (a:List d) (i:Nat),(gX f n a)[i]?=(a[i]?).map λx=>(f (n+i),x)
 |_,[],i=>rfl
 |n,x::a,0=>rfl
 |n,x::a,i+1=>by show(gX f (n+1) a)[i]?=(a[i]?).map _;rw[GQ f (n+1) a i,show n+1+i=n+(i+1) by lia]
theorem zA{d b:Type}(f:Nat->b):∀(n:Nat) (a:List d),(gX f n a).length=a.length
 |_,[]=>rfl
 |n,x::a=>by show(gX f (n+1) a).length+1=_;rw[zA f (n+1) a];rfl
def lE(a:List PV):List (PV×PV):=gX (λi=>PV.int (i:Nat)) 0 a
theorem Fb{K:aA}{H:Hp}{F:ag->Prop}:∀(n:Nat) {b:List PV}{a:List V},Reps K H F b a->Reps K H F ((gX (λi=>PV.int (i:Nat)) n b).map (·.1)) ((gX (λi=>V.int i) n a).map (·.1))
 |_,[],a,h=>by cases h;rfl
 |n,x::b,a,⟨v,r,e,f,d⟩=>by subst e;exact⟨_,_,rfl,rfl,Fb (n+1) d⟩
end
section
variable{X:Cx}{E:XK}{pin:List Nat}{a:eP}{x z:Str}{N':List Str}{cap:List Nat}{d b:aD}{y:Str}{n m l o g f:Pos}{k j:Nat}{p:ac->R (List (PV×PV))}{dt:ac->R Bool}{de:ac->R PV}{c:List aD}
theorem Qi(i:Nat)(Z:X.N.Nodup)(B:h8 X a x N' (j::cap))(G:X.calm=ae)(T:tQ X E (.Tuple [.Name x n,.Name z m] k l) b p)(ht:∀C q r u t,DF (bK X a N' C q r u t) E0 c dt) (Y:∀C q r u t,DE (bK X a N' C q r u t) E0 d de) (L:N'[1]?=aa z:=by rfl) (P:a.names.lookup z=aa .local:=by rfl)(O:i∉pin:=by decide) (K:X.N[i]?=aa y:=by rfl) (M:Loc X.env.scope y:=by first|exact Or.inl rfl|exact Or.inr rfl) (J:kR (.ListComp d [⟨.Tuple [.Name x n,.Name z m] k l,b,c,0⟩] a g) (aa (.Name y o)) f.line X.env=pure ae:=by rfl)(W:X.fn y=ae\/X.env.scope.names.lookup y=aa .local:=by first|exact .inl rfl|exact .inr rfl) (N:∀x,lI b X.env x=pure x:=by intro _;rfl):DS X E pin (.Assign [.Name y o] (.ListComp d [⟨.Tuple [.Name x n,.Name z m] k l,b,c,0⟩] a g) f) (aT i (dF (iz cap p dt de))):=λF S ε v H D A h=>
 ix (Ev (k:=1) (tgf:=wW) (wi:=lF X (.Tuple [.Name x n,.Name z m] k l) b) (ts:=λv H Q=>∀C q r u t,nN (bK X a N' C q r u t) c v H Q) (te:=λv H Q=>∀C q r u t,gC (bK X a N' C q r u t) d v H Q) B (by simp) G uy (Ci B G L P)
  (λC q r u t w s v H Q I h=>(h C q r u t).run w s I) (λC q r u t w s v H Q I h=>(h C q r u t).run w s I) Z K M J W N) (CY T ht Y A (C1 O A h))
end
end Pu
namespace PySem
open PySem.AutoSeq1 (wpAny_loadPart')
section
variable{b:bv}{w:bc}{A:bG}{E:ak->aq->Prop}{s:aq}
theorem y_{c t:ag}{i:Nat}{items}{x:ak}{Q:ak->aq->Prop}(a:s.heap.IsTupleIter c t i)(ht:s.heap.IsTuple t items)(l:items[i]?=aa x)(n:∀g,g.IsTupleIter c t (i+1)->kQ c s.heap g->Q x {s with heap:=g}):ax (aH b w) A (uR (.ref c)) Q E s:=by obtain⟨o,f,m,d⟩:=id a;obtain⟨p,j,_,q,h⟩:=ht;unfold uR;refine au (rq (name:=pQ "__next__") a.typeIs BW (mT BW a.typeIs F.entry_tuple_iterator_next ?_ (F.args_tuple_iterator_next_1 _)));show ax _ _ (field (.ref c) 0 >>= _) _ _ s;refine au (io f d (x:=.ref t) rfl ?_);show ax _ _ (if(Value.ref t == Value.none)=ae then _ else _) _ _ s;rw[if_neg (show ¬((Value.ref t == Value.none)=ae)from fV)];show ax _ _ (field (.ref c) 1 >>= _) _ _ s;refine au (io f d (x:=.int i 0) rfl ?_);show ax _ _ (seqItems? (.ref t) >>= _) _ _ s;refine au (rO j h ?_);simp only[iJ,l];refine au (pV f d (by simp) (aN ⟨x,rfl,aN (n _ ?_ (rL ..))⟩));exact⟨_,pU _ f (BU (uP d _)),(Obj.cls_mapFields ..).trans m,by rw[uP d];simp[dY]⟩
theorem zn{d t:ag}{i:Nat}{items}{Q:ak->aq->Prop}(j:A.handled=ah)(c:s.heap.IsTupleIter d t i)(ht:s.heap.IsTuple t items)(p:items[i]?=ah)(q:∀h e,Heap.ExtBut d s.heap h->(∃o,h.get? e=aa o/\o.cls=.type "StopIteration")->E (.ref e) {s with heap:=h}):ax (aH b w) A (uR (.ref d)) Q E s:=by
 obtain⟨o,f,v,g⟩:=id c;obtain⟨r,n,_,u,l⟩:=ht;unfold uR;refine au (rq (name:=pQ "__next__") c.typeIs BW (mT BW c.typeIs F.entry_tuple_iterator_next ?_ (F.args_tuple_iterator_next_1 _)));show ax _ _ (field (.ref d) 0 >>= _) _ _ s;refine au (io f g (x:=.ref t) rfl ?_);show ax _ _ (if(Value.ref t == Value.none)=ae then _ else _) _ _ s;rw[if_neg (show ¬((Value.ref t == Value.none)=ae)from fV)];show ax _ _ (field (.ref d) 1 >>= _) _ _ s;refine au (io f g (x:=.int i 0) rfl ?_);show ax _ _ (seqItems? (.ref t) >>= _) _ _ s;refine au (rO n l ?_);simp only[iJ,p];refine au (uL (au (pV f g (by simp) ?_)));show ax _ _ (newExc (.type "StopIteration") [] >>= _) _ _ _;refine au ?_;simp only[newExc,newTuple];refine au (i8 ?_ (by size_fits));refine au (m:=BP _ _) (wpAny_of_eq (a:=Value.none) (by first|rfl | (simp only[BP];rfl)) ?_);refine i8 ?_ (by size_fits);simp only[raiseNew];refine au (wpAny_handled ?_)
 first|rw[show A.in1.handled=ah from j]|rw[j]
 refine au (aN (wpAny_throw ?_));exact q _ _ (((rL ..).extBut.push _).push _) ⟨_,cL _ rfl,rfl⟩
end
theorem Mh(l:ag)(a:Array ak)(n:Nat)(i:Option ag)(o:Array (Option ak)):Meets (Builtin.«enumerate.__new__» ⟨[.type "enumerate",.ref l],[]⟩) (λ_ R s=>s.heap.get? l=aa {cls:=.type "tuple",dict:=i,data:=.seq a n,slots:=o} /\ R (.ok (.ret (.ref (s.heap.push {cls:=.type "tuple_iterator",data:=.fields #[.ref l,.int 0 0]}).objs.size))) {s with heap:=(s.heap.push {cls:=.type "tuple_iterator",data:=.fields #[.ref l,.int 0 0]}).push {cls:=.type "enumerate",data:=.fields #[.none,.bool aj,.ref s.heap.objs.size,dY 0,.none,.none]}}) :=
 .of_wp λj w A R s h=>by
  obtain⟨q,g,d,m,p⟩:=s;obtain⟨b,h⟩:=h;have t:=sub_enumerate;have f:Heap.IsTuple (Shared.heap ⟨q,g,d,m,p⟩) l a:=⟨_,b,rfl,n,rfl⟩
  wp_walk using pO b
  refine wpAny_stack_any λr=>aN ?_;split
  .rename_i c _ _ _ _ _;cases (c == Value.type "enumerate")
   .wp_walk using pO b,rP f
    exact⟨_,rfl,h⟩
   .wp_walk using pO b,rP f
    exact⟨_,rfl,h⟩
  .wp_walk using pO b,rP f
   exact⟨_,rfl,h⟩
theorem Draws.tuple{c:bv}{w:bc}{A:bG}(n:A.handled=ah)(d l:ag)(u:l≠d)(a:Array ak):Draws c w A d [d,l] a.size (λi v=>a[i]?=aa v) (λi h=>h.IsTupleIter d l i/\h.IsTuple l a) where
 live:=λ_ _ b=>let ⟨o,ho,_⟩:=b.1;⟨o,ho⟩
 frame:=λ_ _ _ b j=>⟨let ⟨o,ho,r⟩:=b.1;⟨o,j d (by simp) o ho,r⟩,let ⟨o,ho,r⟩:=b.2;⟨o,j l (by simp) o ho,r⟩⟩
 item:=λi s Q E m b p=>by refine y_ b.1 b.2 (x:=a[i]) (by simp[m]) λt f g=>?_;exact p _ t s.toks (by simp[m]) ⟨f,b.2.extBut g.extBut u⟩ g
 done:=λs Q E b q=>zn n b.1 b.2 (by simp) q
section
variable{a:bv}{w:bc}{A:bG}{E:ak->aq->Prop}{s:aq}
theorem LC{l:ag}{d:Array ak}{Q:ak->aq->Prop}(u:s.heap.IsTuple l d)(h:∀f,IsEnum f (s.heap.objs.size+1) s.heap.objs.size 0 .none->f.IsTupleIter s.heap.objs.size l 0->f.objs.size=s.heap.objs.size+2 -> (∀b o,s.heap.get? b=aa o->f.get? b=aa o)->Q (.ref (s.heap.objs.size+1)) {s with heap:=f}):ax (aH a w) A (call (.type "enumerate") [.ref l]) Q E s:=by
 obtain⟨⟨c,p,dt,r⟩,t,m,n,j⟩:=u;replace m:c=.type "tuple":=m;replace j:dt=.seq d n:=j;subst m j;refine callType_new F.called_enumerate (by decide) (F.typeCall_enumerate_1 _) (F.newCall_enumerate_1 _) (λg=>F.args_object_init_2 g _) F.entry_enumerate_new
  (Mh l d n p r) ⟨t,?_⟩
 have i:(s.heap.push {cls:=.type "tuple_iterator",data:=.fields #[.ref l,.int 0 0]}).objs.size=s.heap.objs.size+1:=lN ..;show _/\_;rw[i];have q:IsEnum ((s.heap.push {cls:=.type "tuple_iterator",data:=.fields #[.ref l,.int 0 0]}).push {cls:=.type "enumerate",data:=.fields #[.none,.bool aj,.ref s.heap.objs.size,dY 0,.none,.none]}) (s.heap.objs.size+1) s.heap.objs.size 0 .none:=by
  have:=cL (s.heap.push {cls:=.type "tuple_iterator",data:=.fields #[.ref l,.int 0 0]})
   (o:={cls:=.type "enumerate",data:=.fields #[.none,.bool aj,.ref s.heap.objs.size,dY 0,.none,.none]}) rfl
  rw[i]at this;exact this
 refine⟨⟨_,q,rfl⟩,h _ q ⟨_,bz _ (cL _ rfl),rfl,rfl⟩ (by rw[lN,i]) λb o x=>bz _ (bz _ x)⟩
end
end PySem
namespace L2
def wH(K:aA)(a:ag):It :=⟨λi H=>∃b x,cD K H a b/\b[i]?=aa x,λi H v d=>∃p x,H p=ah/\v=.ref p/\d=upd H p (.tup [.int i,x])/\∀c,cD K H a c->c[i]?=aa x,λi H=>∃b,cD K H a b/\b.length=i⟩
theorem L4{P:bv}{w:bc}{K:aA}{es:List aD}{k:Nat}{pos:Pos}(a e g:ag)(cy:e≠g):oZ P w K (.Tuple es k pos) (wH K a) [e,g] e (λi h=>(∃j,IsEnum h e g (i:Nat) j)/\h.IsTupleIter g a i) where
 mem:=by simp
 obj:=λi h ⟨⟨j,A⟩,f⟩ b m=>by
  simp only[bA,eZ,or_false]at m;rcases m with rfl|rfl
  .exact⟨_,A,λv z=>by cases z⟩
  .obtain⟨o,e,c,d⟩:=f;exact⟨o,e,λv z=>by rw[d]at z;cases z⟩
 keep:=λi h h' ⟨⟨j,A⟩,f⟩ k=>⟨⟨j,k e (by simp) _ A⟩,let ⟨o,ho,r⟩:=f;⟨o,k g (by simp) o ho,r⟩⟩
 item:=by
  intro X Q hw hK C i af s σ H E I Z f hg;subst Q hw hK;obtain⟨⟨j,A⟩,f⟩:=f;obtain⟨xs,x,Y,hx⟩:=hg;obtain⟨l,rv,p,hz⟩:=I.tuple Y;obtain⟨u,hu,ru⟩:=rv.get hx;obtain⟨f0,f1,f2,f3,f4,f5⟩:=Z e (by simp);obtain⟨g0,g1,g2,g3,g4,g5⟩:=Z g (by simp);have F:a≠g:=λz=>by
   obtain⟨o1,t,G,_⟩:=p;obtain⟨o2,e2,c2,_⟩:=f;rw[z,e2]at t;cases t;rw[c2]at G;exact absurd G (by decide)
  have hea:e≠a:=λz=>by
   obtain⟨o1,t,G,_⟩:=p;rw[<-z,A]at t;cases t;exact absurd (show Value.type "enumerate"=Value.type "tuple" from G) (by decide)
  have bT:i<l.toArray.size:=by have:=(eF.mp hu).1;simpa using this
  refine wpAny_pyNext_enum_itemD (Draws.tuple (by show X.A.in1.handled=ah;exact I.ok.hd C) g a F l.toArray) A ⟨f,p⟩ bT cy (by simp[cy,hea]) λJ h' T Q he' hB ht hsz kp=>⟨_,rfl,?_⟩
  have eu:J=u:=by
   have B:l[i]?=aa J:=by simpa using Q
   rw[hu]at B;exact(fg B).symm
  subst eu;replace hB:=hB.1;refine wpAny_letOwnedTupleGo_enum (s:={s with heap:=h',toks:=T+1}) he' λh2 O W=>?_;have M:s.heap.objs.size≠e:=iZ (bN A);have L:h2.get? s.heap.objs.size=aa {cls:=.type "tuple",data:=.seq #[.int i T,J]}:=(W.2 _ M).trans ht;have y:∀b o,b≠e->b≠g->s.heap.get? b=aa o->h2.get? b=aa o:=λb o B h3 q=>(W.2 b B).trans (kp b o B h3 q);have fr:=I.fresh;have N:∀b u,H b=aa u->b≠s.heap.objs.size:=λb u q z=>by rw[z,fr]at q;cases q
  have D:∀b o,s.heap.get? b=aa o->∃o',h2.get? b=aa o':=λb o q=>by
   by_cases B:b=e
   .subst B;exact⟨_,O⟩
   .by_cases h3:b=g
    .subst h3;obtain⟨oi,t,_⟩:=hB;exact⟨oi,(W.2 b B).trans t⟩
    .exact⟨o,y b o B h3 q⟩
  have I2:Inv X af σ (upd H s.heap.objs.size (.tup [.int i,x])) {s with heap:=h2,toks:=T+1}:=by
   refine I.call' (ch:=[e,g]) rfl ⟨λb o q n _ S=>y b o (λz=>S (by simp[z])) (λz=>S (by simp[z])) q,λb o q n _ S=>⟨o.slots,y b o (λz=>S (by simp[z])) (λz=>S (by simp[z])) q⟩,λb o q n _=>by rw[cc (dW (bN q))];exact n,λb o q _=>D b o q,λb ys q=>by rw[cc (N b _ q)];exact q,λb o u q=>by rw[cc (N b _ q)];exact q,λb ps q=>by rw[cc (N b _ q)];exact q⟩ (λb v q=>?_) I.bare λb m=>?_
   .by_cases m:b=s.heap.objs.size
    .subst m;rw[upd_same]at q;cases q;exact⟨by show 2<=bB;decide,[.int i T,J],.cons ⟨_,rfl⟩ (.cons ru .nil),⟨_,L,rfl,_,rfl⟩,_,L,rfl⟩
    .rw[cc m]at q;have ne1:∀c,H c≠ah->c≠e/\c≠g:=λc C=>⟨λz=>C (by rw[z];exact f0),λz=>C (by rw[z];exact g0)⟩
     refine(I.hok b v q).stay (λc o C r=>?_) (λc r=>by rw[cc (N c _ r)];exact r) λc ys r=>by rw[cc (N c _ r)];exact r
     have:=ne1 c (by rcases C with z|z <;> (first | (rw[<-z,q];simp) | (rw[z,q];simp) | (rw[z];simp)));exact y c o this.1 this.2 r
   .simp only[bA,eZ,or_false]at m;rcases m with rfl|rfl
    .exact⟨f3,f1,f4,f5⟩
    .exact⟨g3,g1,g4,g5⟩
  refine⟨.ref s.heap.objs.size,_,I2,rfl,⟨s.heap.objs.size,x,fr,rfl,rfl,λys hy=>by rw[I.tuple_inj hy Y];exact hx⟩,⟨⟨J,(show((i+1:Nat):Int)=(i:Int)+1 by lia) ▸ O⟩,let ⟨o,ho,r⟩:=hB;⟨o,(W.2 g cy.symm).trans ho,r⟩⟩,λb m=>?_⟩;simp only[bA,eZ,or_false]at m;rcases m with rfl|rfl
  .rw[cc (fj M)];exact f0
  .obtain⟨oi,t,_⟩:=f;rw[cc (dW (bN t))];exact g0
 done:=by
  intro X Q hw hK C i af s σ H E I Z f hg;subst Q hw hK;obtain⟨⟨j,A⟩,f⟩:=f;obtain⟨xs,Y,hx⟩:=hg;obtain⟨l,rv,p,hz⟩:=I.tuple Y;obtain⟨g0,g1,g2,g3,g4,g5⟩:=Z g (by simp);have hl:=rv.length;have F:a≠g:=λz=>by
   obtain⟨o1,t,G,_⟩:=p;obtain⟨o2,e2,c2,_⟩:=f;rw[z,e2]at t;cases t;rw[c2]at G;exact absurd G (by decide)
  have hi:i=l.toArray.size:=by simp;lia
  rw[hi]at f;exact wpAny_pyNext_enum_endD (Draws.tuple (by show X.A.in1.handled=ah;exact I.ok.hd C) g a F l.toArray) A ⟨f,p⟩ λh' eb=>⟨rfl,I.turned (t':=s.toks) (λb o m e=>eb b o m e) g0 g1 g3 g4 g5⟩
 self:=λ_ _ _ _ _ f h=>wpAny_pyIter_enum f.1.choose_spec h
section
variable{X:Cx}{d:List aD}{k:Nat}{c:Pos}
def QL(K:aA)(i:TA):TI:=λg H R=>i g H λh f=>∃a b,h=[.ref a]/\cD K f a b/\(b.length<=bB->R (wH K a) f)
theorem Kq{e:aD}{m:TA}{p i:Pos}(J:Gl X "enumerate")(G:X.mg "enumerate"=ah)(K:PA X [e] m)(E:bo [e] X.env=[(aj,bq e X.env)]:=by rfl):PI X (.Tuple d k c) (.Call (.Name "enumerate" p) [e] [] i) (QL X.K m):=by
 intro t s l H R I h;refine Call_ (qU I J G (show fi "enumerate"=aa (.type "enumerate") by decide +kernel) (Br (a9 (K i t s l H _ I h) λO f ⟨N,v,g,y,z⟩=>?_) E rfl));obtain⟨a,M,e,F,q⟩:=z;subst e;obtain⟨u,rfl,x⟩:=vals1 y;cases x;obtain⟨j,P,A,C⟩:=g.tuple F;refine LC (show f.heap.IsTuple a j.toArray from A) λr n w D B=>?_;refine wpAny_pyIter_enum (s:={f with heap:=r}) n ?_;have L:Inv X t l v {f with heap:=r}:=g.kept (t':=f.toks) B;refine⟨f.heap.objs.size+1,[f.heap.objs.size+1,f.heap.objs.size],_,_,v,rfl,L,L4 a _ _ (Nat.succ_ne_self _),⟨⟨_,n⟩,w⟩,λb o=>?_,q C⟩;simp only[bA,eZ,or_false]at o;rcases o with rfl|rfl
 .exact g.fpOk (uI _) (g.hok.fresh (uI _))
 .exact g.fpOk (bC _) (g.hok.fresh (bC _))
end
end L2
namespace Pu
open L2
section
variable{X:Cx}{E:XK}
theorem Nl{K:aA}{a:ag}{b:List V}:AW (wH K a) (gX (λi=>V.int i) 0 b) (λH=>cD K H a b):=λH h i=>
 ⟨λx d=>by
  rw[GQ,xX]at d;obtain⟨z,c,rfl⟩:=d;refine⟨⟨b,z,h,c⟩,λv n ⟨p,w,m,l,j,g⟩=>?_⟩;have:=g b h;rw[c]at this;cases this;subst l j;rw[lP];exact⟨p,rfl,upd_same,.inr ⟨m,rfl⟩⟩,λf=>⟨b,h,by rw[f,zA]⟩⟩
def mx(b:ac->R (List PV)):ac->R (List (PV×PV)):=λε=>(b ε).bind λx ε1=>match x with
 |[.tup a]=>.ok (lE a) ε1
 |_=>.no
theorem FH{C:List aD}{k:Nat}{r p d:Pos}{a:aD}{m:ac->R (List PV)}(z:X.mg "enumerate"=ah)(b:DA X E [a] m)(A:Gl X "enumerate":=by rfl)(y:bo [a] X.env=[(aj,bq a X.env)]:=by rfl):tQ X E (.Tuple C k r) (.Call (.Name "enumerate" p) [a] [] d) (mx m):=λF S o g H J u h=>Bx.mk λD s I=>by
 refine Kq A z ik y D s g H J I (b F S o g H _ u ((Ok.bind h).imp λq n L G K l N f M w=>?_));split at f
 .rename_i q;obtain⟨v,rfl,t⟩:=iS w;obtain⟨a,c,rfl,b,j⟩:=t;refine⟨a,c,rfl,cD.of b,λx=>f L G K l (bO.refl ..) (wH X.K a) (gX (λi=>V.int i) 0 c) (λH=>cD X.K H a c) ⟨Fb 0 j,by rw[zr];unfold lE;rw[zr];exact j⟩ (by rw[zA];exact x) Nl λO Q P B=>cD.of (B.imm l.fit b id)⟩
 .exact f.elim
end
abbrev RA:=List aP
end Pu
namespace L2
theorem NC{P:bv}{w:bc}{A:bG}{E:ak->aq->Prop}{s:aq}{t b:ag}{f:List ak}{Q:ak->aq->Prop}(ht:IsTup s.heap t #[])(v:IsTup s.heap b f.toArray)(h:Q (.ref b) s):ax (aH P w) A (i5 .Add (.ref t) (.ref b)) Q E s:=by
 obtain⟨⟨y,x,p,r⟩,l,o,n,m⟩:=id ht;obtain⟨⟨q,c,d,a⟩,j,i,u,g⟩:=id v;simp only at o m i g;subst o m i g;exact concat_meets ⟨_,l,rfl⟩ ⟨_,j,rfl⟩ Hr seq_tuple_add Hs Ht (Hu _ _)
  (tuple_addW0 t b #[] f.toArray n u x c r a rfl) ⟨l,j,h⟩
def AH(K:aA):R2:=λx y H Q=>∃a b c,x=.ref a/\y=.ref b/\cD K H a []/\cD K H b c/\Q (.ref b) H
theorem RU{X:Cx}:b8 X (i5 .Add) (AH X.K):=by
 intro t s o H x y v u Q I f d h;obtain⟨a,b,p,rfl,rfl,n,m,q⟩:=h;cases f;cases d;obtain⟨l,g,j,_⟩:=I.tuple n;obtain⟨c,r,i,_⟩:=I.tuple m;cases g;exact NC j i ⟨.ref b,H,I,rfl,q⟩
end L2
namespace Pu
open L2
theorem oQ{X:Cx}:b8 X (i5 .Add) (λx y H Q=>AH X.K x y H Q\/wa X.K x y H Q):=RU.or dR
def fR:PV->PV->Option PV
 |.tup [],.tup ys=>aa (.tup ys)
 |.tup (x::xs),.tup []=>if xs.length<1000 then aa (.tup (x::xs))else ah
 |x,y=>aZ x y
theorem oO{K:aA}:P2 K (λx y H Q=>AH K x y H Q\/wa K x y H Q) fR:=λF H x y v u Q pv d c e q=>by
 unfold fR at e;split at e
 .cases e;obtain⟨a,i,rfl,g,j⟩:=d;obtain⟨b,h,rfl,f,l⟩:=id c;rw[show i=[] from j]at g;exact .inl ⟨a,b,h,rfl,rfl,cD.of g,cD.of f,q _ F H (Al.refl ..) c⟩
 .split at e
  .rename_i n;cases e;obtain⟨a,i,rfl,g,j⟩:=id d;obtain⟨b,h,rfl,f,l⟩:=id c;rw[show h=[] from l]at f;have m:=j.len;refine .inr (.inr (.inl ⟨a,b,i,[],rfl,rfl,cD.of g,cD.of f,?_,?_,λ_=>q _ F H (Al.refl ..) d,λz=>absurd rfl z⟩))
   .rintro rfl;simp at m
   .rw[m,pM];simp;lia
  .cases e
 .exact .inr (dP F H _ _ v u Q pv d c e q)
end Pu
namespace HT
theorem getItem_tuple_whole{c:bv}{w:bc}{A:bG}{E:ak->aq->Prop}{s:aq}{t g:ag}{a:Array ak}{j i:ak}{b f:Option Int}{Q:ak->aq->Prop}(ht:IsTup s.heap t a)(l:s.heap.IsSliceOf g j i .none)(o:jU j b)(n:jU i f)(v:sIx a.size 0 b=0) (u:sIx a.size a.size f=a.size) (h:Q (.ref t) s):ax (aH c w) A (kW (.ref t) (.ref g)) Q E s:=by
 obtain⟨p,r,q,x⟩:=id l;have m:s.TypeIs (.ref g) "slice":=⟨p,r,q⟩
 unfold kW
 try with_reducible refine pP ?_
 first|refine au (aN ?_)|skip
 refine au (Hx ht.typeIs (by decide) ?_);refine au (rq (name:=pQ "__getitem__") ht.typeIs uF (mT uF ht.typeIs Hy ?_ (Hz _ _)));show ax _ _ (HA (.ref t) >>= _) _ _ s;refine au (tupleItemsOf_ ht ?_);refine au (uG m ?_);rw[if_pos (by decide)];refine au (F6 l o n ?_);have d:(((sIx a.size 0 b:Nat):Int) == 0&&(1:Int) == 1&&(sIx a.size a.size f-sIx a.size 0 b) == a.size)=ae:=by rw[v,u];simp
 show ax _ _ (if(((sIx a.size 0 b:Nat):Int) == 0&&(1:Int) == 1&&(sIx a.size a.size f-sIx a.size 0 b) == a.size)=ae then _ else _) _ _ s;rw[if_pos d];unfold Builtin.Tuple.tupleIsExact;refine au (au (uG ht.typeIs (aN ?_)));rw[if_pos (by decide)];exact au (uL (aN ⟨_,rfl,aN h⟩))
end HT
namespace L2
def AQ(K:aA):V->Option Int->Option Int->Hp->VK->Prop:=λx c d H Q=>∃a b,x=.ref a/\cD K H a b/\HT.sIx b.length 0 c=0/\HT.sIx b.length b.length d=b.length/\Q (.ref a) H
theorem Ru{X:Cx}:kA X (AQ X.K):=by
 intro A s o H x v t p w z u Q I f l i g h;obtain⟨a,d,rfl,j,n,m,q⟩:=h;cases f;obtain⟨b,r,ht,y⟩:=I.tuple j;have c:b.toArray.size=d.length:=by rw[ef];exact r.length.symm
 refine⟨"tuple",_,PyProof.Rows.slot_tuple_getitem.lookup,ht.typeIs,?_⟩;exact HT.getItem_tuple_whole ht l i g (by rw[c];exact n) (by rw[c];exact m) ⟨.ref a,H,I,rfl,q⟩
end L2
namespace Pu
open L2
def gc:PV->Option Int->Option Int->Option PV
 |.tup xs,a,b=>if HT.sIx xs.length 0 a=0/\HT.sIx xs.length xs.length b=xs.length then aa (.tup xs)else aa (.tup (cV xs a b))
 |x,a,b=>bD x a b
theorem tN{X:Cx}:kA X (λx a b H Q=>AQ X.K x a b H Q\/wj X.K x a b H Q):=Ru.or eE
theorem sC{K:aA}:zU K (λx b c H Q=>AQ K x b c H Q\/wj K x b c H Q) gc:=λF H x b c v Q pv d e q=>by
 cases x with
 |tup j=>
  unfold gc at e;dsimp only at e;split at e
  .rename_i f;cases e;obtain⟨a,h,rfl,i,g⟩:=id d;exact .inl ⟨a,h,rfl,cD.of i,by rw[g.len];exact f.1,by rw[g.len];exact f.2,q _ F H (Al.refl ..) d⟩
  .rename_i f;exact .inr (d8 F H _ b c v Q pv d ((if_neg f).trans e) q)
 |_=>exact .inr (d8 F H _ b c v Q pv d e q)
end Pu
local macro_rules | `(⇑$x) => `(.val (.int $x))
local macro_rules | `(↥$x) => `(.val (.str $x))
namespace Sh
open L2 Pu
set_option genInjectivity false in
structure Ad where
 SlitError:ag
 NoText:ag
 NoWidth:ag
 NoView:ag
 NoWindow:ag
 Never:ag
 Full:ag
 Nothing:ag
 Unlike:ag
 NoPlace:ag
 NoLetters:ag
 BadText:ag
 Seeker:ag
 Slit:ag
def yao(a:Ad):ac->R aK:=aW (dL lC (ao (dF (bI [1] (aR (dV 0)) (bV) (d2 (dG aj) (dV 0) (dV 1)))) (ar)))
def xy(a:Ad):ac->R Slot:=bL 2 [] (bJ 0 (yao a))
def yau(a:Ad):ac->R aK:=aW (eU (dL cb (ao (dV 0) (ao (dC (.raw (.ty "int"))) (ar)))) (jo (dL cb (ao (dV 0) (ao (dC (.raw (.ty "bool"))) (ar))))))
def mh(a:Ad):ac->R Slot:=bL 1 [] (bJ 0 (yau a))
def yav(a:Ad):ac->R aK:=aW (eU (aL (aB (mh a) (gV (dV 0) (br)))) (gD (bt λi j=>decide (i<=j)) (bt λi j=>decide (i<=j)) (dC (.int 1)) (dV 0) (dC (.int 4))))
def q8(a:Ad):ac->R Slot:=bL 1 [] (bJ 0 (yav a))
def yaw(a:Ad):ac->R aK:=aW (eU (dL cb (ao (dV 0) (ao (dC (.raw (.ty "str"))) (ar)))) (eU (d2 (eqT aj) (dL aS (ao (dV 0) (ar))) (dV 1)) (aL (aB (xy a) (gV (dV 0) (gV (dV 2) (br)))))))
def qR(a:Ad):ac->R Slot:=bL 3 [] (bJ 0 (yaw a))
def yag(a:Ad):ac->R aK:=aw (aV (cq (bZ (dB (dL cb (ao (dV 0) (ao (dC (.raw (.ty "tuple"))) (ar)))))) (bZ (dB (gD (bt λi j=>decide (i<=j)) (bt λi j=>decide (i<=j)) (dC (.int 1)) (dL aS (ao (dV 0) (ar))) (dC (.int 9)))))) (aW (dC (.bl aj))) (bh))
 (aw (aV (bZ (dB (dL lC (ao (dF (bI [1,2] (aR (dV 0)) (bV) (aL (aB (qR a) (gV (dV 0) (gV (dV 1) (gV (dV 2) (br)))))))) (ar))))) (aW (dC (.bl aj))) (bh))
 (aW (d2 (eqT aj) (dF (dL kF (ao (dV 0) (ar)))) (dF (dL nP (ao (dV 0) (ar)))))))
def nM(a:Ad):ac->R Slot:=bL 3 [] (bJ 0 (yag a))
def yat(a:Ad):ac->R aK:=aw (aV (cq (bZ (dB (dL cb (ao (dV 0) (ao (dC (.raw (.ty "tuple"))) (ar)))))) (dB (d2 (eqT ae) (dL aS (ao (dV 0) (ar))) (dC (.int 2))))) (aW (dC (.bl aj))) (bh))
 (aW (eU (aL (aB (q8 a) (gV (d2 aF (dV 0) (dC (.int 0))) (br)))) (aL (aB (nM a) (gV (d2 aF (dV 0) (dC (.int 1))) (gV (d2 aF (dV 0) (dC (.int 0))) (gV (dV 1) (br))))))))
def qL(a:Ad):ac->R Slot:=bL 2 [] (bJ 0 (yat a))
def yas(a:Ad):ac->R aK:=gq (aB (qL a) (gV (dV 0) (gV (dC (.str [97,98,99])) (br))))
def wK(a:Ad):ac->R Slot:=bL 1 [] (bJ 0 (yas a))
def yak(a:Ad):ac->R aK:=aV (bZ (dB (aL (aB (wK a) (gV (dV 0) (br)))))) (Dc (.ref a.NoView) (λb=>cu ((dC (.str [97,32,118,105,101,119,32,105,115,32,97,32,116,117,112,108,101,32,111,102,32,97,32,119,105,100,116,104,32,97,110,100,32,97,32,114,105,115,105,110,103,32,116,117,112,108,101,32,111,102,32,49,32,116,111,32,57,32,119,105,110,100,111,119,115])) b))) (bh)
def lr(a:Ad):ac->R Slot:=bL 1 [] (bJ 0 (yak a))
def yal(a:Ad):ac->R aK:=aw (dS 1 (qE))
 (aw (λb=>dr (cj 2 (aR (dV 0)) (fQ 1 (dV 2) (d2 aZ (il 1 (dV 2) (dC (.int 0))) (dC (.int 1)))) b))
 (j8 1))
def ut(a:Ad):ac->R Slot:=bL 1 [] (bJ 2 (yal a))
def yac(a:Ad)(c:ac->R Slot):ac->R aK:=aw (aV (bZ (dB (tJ 2))) (aw (iu 3 (dV 0)) (A7 (.ret (.val .non)))) (bh))
 (aw (aT 4 (be bD (dV 0) (aY (d2 aZ (d2 gv (dL aS (ao (dV 0) (ar))) (dV 1)) (dC (.int 1)))) (bj)))
 (λb=>dr (cj 5 (aR (dC (.str [97,98,99]))) (aw (aT 6 (d2 aZ (dV 4) (dV 5)))
 (aV (dB (d2 (bt λi j=>decide (j<i)) (il 2 (dV 6) (dC (.int 0))) (dC (.int 0)))) (aw (fQ 2 (dV 6) (d2 gv (fz 2 (dV 6)) (dC (.int 1))))
 (aw (jQ (aB (c) (gV (d2 aZ (dV 0) (dV 5)) (gV (dV 1) (gO 2 (gO 3 (br)))))))
 (fQ 2 (dV 6) (d2 aZ (fz 2 (dV 6)) (dC (.int 1)))))) (bh))) b)))
def nW(a:Ad):Nat->ac->R Slot
 |0=>bL 4 [2,3] (bJ 3 zD)
 |k+1=>bL 4 [2,3] (bJ 3 (yac a (nW a k)))
def yaL(a:Ad):ac->R aK:=aw (jQ (aB (lr a) (gV (dV 0) (br))))
 (aw (aT 1 (d2 aF (dV 0) (dC (.int 0))))
 (aw (dS 2 (dL cH (ar)))
 (aw (λb=>dr (cj 3 (aR (dF (dL nL (ao (dF (bI [] (aR (d2 aF (dV 0) (dC (.int 1)))) (bV) (be bD (dV 0) (bj) (aY (d1 dq (dC (.int 1))))))) (ar))))) (jQ (sB (nW a 12) (qK (dV 3) (qK (dV 1) (gN (gH (aB (ut a) (gV (d2 aF (dV 0) (dC (.int 1))) (br)))) (gO 2 (br))))))) b))
 (j8 2))))
def xi(a:Ad):ac->R Slot:=bL 1 [] (bJ 3 (yaL a))
def yaq(a:Ad):ac->R aK:=aW (dL aS (ao (aL (aB (xi a) (gV (dV 0) (br)))) (ar)))
def tE(a:Ad):ac->R Slot:=bL 1 [] (bJ 0 (yaq a))
def yam(a:Ad):ac->R aK:=aw (dS 1 (qE))
 (aw (λb=>dr (cj 2 (aR (dV 0)) (aw (fQ 1 (be bD (dV 2) (bj) (aY (d1 dq (dC (.int 1))))) (d2 aZ (il 1 (be bD (dV 2) (bj) (aY (d1 dq (dC (.int 1))))) (dC (.int 0))) (dC (.int 1))))
 (fQ 1 (be bD (dV 2) (aY (dC (.int 1))) (bj)) (d2 gv (il 1 (be bD (dV 2) (aY (dC (.int 1))) (bj)) (dC (.int 0))) (dC (.int 1))))) b))
 (j8 1))
def li(a:Ad):ac->R Slot:=bL 1 [] (bJ 2 (yam a))
def yaK(a:Ad):ac->R aK:=aw (dS 1 (sH (be bD (d2 aF (dV 0) (dC (.int 0))) (bj) (aY (d1 dq (dC (.int 1))))) (dC (.bl ae))))
 (aw (aT 2 (dC (.int 0)))
 (aw (λb=>dr (iF (dB (d2 (bt λi j=>decide (i<j)) (dV 2) (mE 1))) (aw (aT 2 (mE 1))
 (cj 3 (aR (dV 0)) (aV (cq (dB (iN aj 1 (be bD (dV 3) (bj) (aY (d1 dq (dC (.int 1))))))) (dB (iN aj 1 (be bD (dV 3) (aY (dC (.int 1))) (bj))))) (aw (fQ 1 (be bD (dV 3) (bj) (aY (d1 dq (dC (.int 1))))) (dC (.bl ae)))
 (fQ 1 (be bD (dV 3) (aY (dC (.int 1))) (bj)) (dC (.bl ae)))) (bh)))) 1000 b))
 (j8 1)))
def nQ(a:Ad):ac->R Slot:=bL 1 [] (bJ 3 (yaK a))
def yaz(a:Ad):ac->R aK:=aw (aV (dB (d2 (bt λi j=>decide (i<j)) (dV 1) (dL aS (ao (dV 0) (ar))))) (aW (d2 aF (dV 0) (dV 1))) (bh))
 (aw (aV (dB (d2 (eqT aj) (dV 0) (dF (dL cH (ar))))) (aW (dC (.int 0))) (bh))
 (aW (d2 aZ (d2 gw (d2 aF (dV 0) (d2 ji (dV 1) (dL aS (ao (dV 0) (ar))))) (dC (.int 31))) (dV 1))))
def qI(a:Ad):ac->R Slot:=bL 2 [] (bJ 0 (yaz a))
def yan(a:Ad):ac->R aK:=aw (dS 1 (gH (aB (li a) (gV (dV 0) (br)))))
 (aw (aT 2 (dF (bI [1] (aR (dF (jP 1))) (dB (d2 (bt λi j=>decide (j<i)) (fz 1 (dV 0)) (dC (.int 0)))) (dV 0))))
 (aw (aV (dB (d2 (bt λi j=>decide (j<i)) (dL aS (ao (dV 2) (ar))) (dC (.int 1)))) (aW (dL cx (ao (dC (.str [116,119,111])) (ao (d2 aF (dV 2) (dC (.int 0))) (ao (d2 aF (dV 2) (dC (.int 1))) (ar)))))) (bh))
 (aw (aV (gU (dB (d2 (eqT aj) (dL aS (ao (dV 2) (ar))) (dC (.int 1)))) (dB (d2 (bt λi j=>decide (j<i)) (fz 1 (d2 aF (dV 2) (dC (.int 0)))) (dC (.int 1))))) (aW (dL cx (ao (dC (.str [109,111,114,101])) (ao (d2 aF (dV 2) (dC (.int 0))) (ar))))) (bh))
 (aw (dS 3 (gH (aB (nQ a) (gV (dV 0) (br)))))
 (aw (aT 4 (dF (iz [3] (mx (ao (dV 0) (ar))) (dB (iN aj 2 (be bD (dV 1) (bj) (aY (d1 dq (dC (.int 1))))))) (dV 0))))
 (aw (aV (dB (d2 (bt λi j=>decide (i<j)) (dL aS (ao (dV 4) (ar))) (dL aS (ao (dV 0) (ar))))) (aW (dL cx (ao (dC (.str [97,112,97,114,116])) (ao (dL lz (ao (dV 4) (ar))) (ar))))) (bh))
 (aW (dC .non))))))))
def sS(a:Ad):ac->R Slot:=bL 1 [] (bJ 4 (yan a))
def yai(a:Ad):ac->R aK:=aw (jQ (aB (lr a) (gV (dV 0) (br))))
 (gq (aB (sS a) (gV (d2 aF (dV 0) (dC (.int 1))) (br))))
def sJ(a:Ad):ac->R Slot:=bL 1 [] (bJ 0 (yai a))
end Sh
namespace PySem
open PySem.AutoSeq1 (wpAny_loadPart')
theorem Heap.IsTupleIter.out{h b:aJ}{z a t:ag}{i:Nat}(c:h.IsTupleIter a t i)(e:Heap.ExtBut z h b)(n:a≠z):b.IsTupleIter a t i:=let ⟨o,ho,r⟩:=c;⟨o,e a o n ho,r⟩
theorem Heap.IsTupleIter.by{h h':aJ}{it t:ag}{i:Nat}(a:h.IsTupleIter it t i)(e:∀o,h.get? it=aa o->h'.get? it=aa o):h'.IsTupleIter it t i:=let ⟨o,ho,r⟩:=a;⟨o,e o ho,r⟩
section
variable{g:bv}{w:bc}{A:bG}{E:ak->aq->Prop}{s:aq}{z J O f d i h:ag}{k:Nat}{l j:Array ak}{x y a b:ak}
theorem Pt{Q:Fin->aq->Prop}(I:IsZip s.heap z J O .none)(hJ:gz s.heap J (.ref f) (.ref d))(D:ZipApart z J O f d i h)(hO:gz s.heap O a b)(h1:s.heap.IsTupleIter f i k)(h2:s.heap.IsTupleIter d h k)(lZ:s.heap.IsTuple i l)(fX:s.heap.IsTuple h j)(hh:A.handled=ah)(hQ:∀x y,l[k]?=aa x->j[k]?=aa y->∀n,IsZip n z J O (dY s.heap.objs.size)->gz n O x y->n.IsTupleIter f i (k+1)->n.IsTupleIter d h (k+1)->gz n s.heap.objs.size x y->n.objs.size=s.heap.objs.size+1 -> (∀c o,c≠z->c≠O->c≠f->c≠d->s.heap.get? c=aa o->n.get? c=aa o)->Q (.done (.ret (.ref s.heap.objs.size))) {s with heap:=n})(hE:l[k]?=ah\/j[k]?=ah->∀n e,(∀c o,c≠z->c≠O->c≠f->c≠d->s.heap.get? c=aa o->n.get? c=aa o)->(∃o,n.get? e=aa o/\o.cls=.type "StopIteration")->E (.ref e) {s with heap:=n}):ax (aH g w) A (Builtin.«zip.__next__» ⟨[.ref z],[]⟩) Q E s:=by
 show ax _ _ (field (.ref z) 2 >>= _) _ _ _;refine au (io I rfl (x:=.bool aj) rfl ?_);show ax _ _ (field (.ref z) 3 >>= _) _ _ _;refine au (io I rfl (x:=.ref J) rfl ?_);refine au (rO hJ rfl ?_);show ax _ _ (Rg (.ref z) >>= _) _ _ _;refine au ?_;unfold Rg;refine au (io I rfl (x:=.none) rfl (aN ?_));simp only[if_true];refine au (uL ?_);refine au (io I rfl (x:=.ref O) rfl ?_);refine au (yg I (by simp) λp1 F t=>?_);replace F:IsZip p1 z J O .ellipsis:=F;refine au ?_;simp only[List.zipIdx_cons,List.zipIdx_nil,List.forIn_cons,List.forIn_nil];refine au (au (wpAny_onRaise ?_));show ax _ _ (uR (.ref f) >>= _) _ _ _;cases N:l[k]? with
 |none=>
  refine au (zn hh (h1.out t.extBut D.i1z) (lZ.extBut t.extBut D.l1z) N λZ e r ⟨oe,C,G⟩=>?_);have z2:IsZip Z z J O .ellipsis:=r _ _ D.i1z.symm F;have ez:e≠z:=λx=>by subst x;rw[z2]at C;cases C;simp at G
  exact yg z2 (by simp) λY _ p=>hE (.inl N) Y e (λc o u _ L _ q=>p.extBut _ _ u (r _ _ L (t.extBut _ _ u q))) ⟨oe,p.extBut _ _ ez C,G⟩
 |some x=>
  refine au (y_ (h1.out t.extBut D.i1z) (lZ.extBut t.extBut D.l1z) N λZ t2 r=>aN ?_);have O2:gz Z O a b:=r.extBut _ _ D.TOi1 (t.extBut _ _ D.TOz hO);refine au (rO O2 rfl ?_);refine au (wpAny_updateSeq_pair O2 λY O3 p=>?_);replace O3:gz Y O x b:=O3;refine au (wpAny_letGo (aN ?_));refine au (au (wpAny_onRaise ?_));show ax _ _ (uR (.ref d) >>= _) _ _ _;have u2:=((h2.out t.extBut D.i2z).out r.extBut D.i12.symm).out p.extBut D.TOi2.symm;have v2:=((fX.extBut t.extBut D.l2z).extBut r.extBut D.l2i1).extBut p.extBut D.l2TO;cases M:j[k]? with
  |none=>
   refine au (zn hh u2 v2 M λX e B ⟨oe,C,G⟩=>?_);have z4:IsZip X z J O .ellipsis:=B _ _ D.i2z.symm (p.extBut _ _ D.TOz.symm (r.extBut _ _ D.i1z.symm F));have ez:e≠z:=λx=>by subst x;rw[z4]at C;cases C;simp at G
   exact yg z4 (by simp) λm _ v=>hE (.inr M) m e (λc o u P L c4 q=>v.extBut _ _ u (B _ _ c4 (p.extBut _ _ P (r.extBut _ _ L (t.extBut _ _ u q))))) ⟨oe,v.extBut _ _ ez C,G⟩
  |some y=>
   refine au (y_ u2 v2 M λX t4 B=>aN ?_);have O4:gz X O x b:=B.extBut _ _ D.TOi2 O3;refine au (rO O4 rfl ?_);refine au (wpAny_updateSeq_pair O4 λm S v=>?_);replace S:gz m O x y:=S;refine au (wpAny_letGo (aN (aN ?_)));refine au (rO S rfl ?_);refine au (wpAny_newTuple ?_);have K:m.objs.size=s.heap.objs.size:=by rw[v.1,B.1,p.1,r.1,t.1]
   have z5:IsZip m z J O .ellipsis:=v.extBut _ _ D.TOz.symm (B.extBut _ _ D.i2z.symm (p.extBut _ _ D.TOz.symm (r.extBut _ _ D.i1z.symm F)));have zl:z<m.objs.size:=bN z5;show ax _ _ (Rh (.ref z) (.ref m.objs.size) >>= _) _ _ _;refine au ?_;unfold Rh;have z6:IsZip (m.push {cls:=.type "tuple",data:=.seq #[x,y]}) z J O .ellipsis:=bz _ z5;refine au (yg z6 (by simp) λp7 z7 W=>?_);replace z7:IsZip p7 z J O (dY m.objs.size):=z7;refine yg z7 (by simp) λH z8 T=>?_;replace z8:IsZip H z J O (dY m.objs.size):=z8;have up:∀c o,c≠z->m.get? c=aa o->H.get? c=aa o:=λc o u e=>T.extBut _ _ u (W.extBut _ _ u (bz _ e));have T8:gz H m.objs.size x y:=T.extBut _ _ (iZ zl) (W.extBut _ _ (iZ zl) (cL _ rfl));have n8:H.objs.size=m.objs.size+1:=by rw[T.1,W.1,lN]
   rw[K]at z8 T8 n8;refine aN ?_;show Q (.done (.ret (.ref m.objs.size))) _;rw[K];exact hQ x y N M H z8 (up _ _ D.TOz S) ((((t2.out p.extBut D.TOi1.symm).out B.extBut D.i12).out v.extBut D.TOi1.symm).by λo e=>up _ o D.i1z e) ((t4.out v.extBut D.TOi2.symm).by λo e=>up _ o D.i2z e) T8 n8
    λc o u P L c4 e=>up c o u (v.extBut _ _ P (B.extBut _ _ c4 (p.extBut _ _ P (r.extBut _ _ L (t.extBut _ _ u e)))))
theorem Ff{Q:Option ak->aq->Prop}(v:A.handled=ah)(D:ZipApart z J O f d i h)(n:IsZip s.heap z J O .none)(H:gz s.heap J (.ref f) (.ref d))(G:gz s.heap O a b)(L:s.heap.IsTupleIter f i k) (K:s.heap.IsTupleIter d h k) (q:s.heap.IsTuple i l) (M:s.heap.IsTuple h j)(C:∀x y,l[k]?=aa x->j[k]?=aa y->∀m,IsZip m z J O (dY s.heap.objs.size)->gz m O x y->m.IsTupleIter f i (k+1)->m.IsTupleIter d h (k+1)->gz m s.heap.objs.size x y->m.objs.size=s.heap.objs.size+1 -> (∀c o,c≠z->c≠O->c≠f->c≠d->s.heap.get? c=aa o->m.get? c=aa o)->Q (aa (.ref s.heap.objs.size)) {s with heap:=m})(I:l[k]?=ah\/j[k]?=ah->∀m,(∀c o,c≠z->c≠O->c≠f->c≠d->s.heap.get? c=aa o->m.get? c=aa o)->Q ah {s with heap:=m}):ax (aH g w) A (n5 (.ref z)) Q E s:=by
 have p:s.TypeIs (.ref z) "zip":=⟨_,n,rfl⟩
 unfold n5;refine au (wpAny_attempt (rq (name:=pQ "__next__") p F.slot_zip_next (mT F.slot_zip_next p F.entry_zip_next (Pt n H D G L K q M v (λx y P N m a1 a2 Z Y X W S=>⟨_,rfl,aN (C x y P N m a1 a2 Z Y X W S)⟩) λu m e r ⟨o,t,B⟩=>?_) (F.args_zip_next_1 _))));exact au (HJ (T:="StopIteration") (b:=ae) ⟨o,t,B⟩ isSubtype_stop (aN (I u _ r)))
end
abbrev wq(h:aJ)(a:ag):aJ:=h.push {cls:=.type "tuple_iterator",data:=.fields #[.ref a,.int 0 0]}
abbrev xz(h:aJ)(b a:ag):aJ:=(wq h b).push {cls:=.type "tuple_iterator",data:=.fields #[.ref a,.int 0 0]}
abbrev wC(h:aJ)(a b:ag):aJ:=(xz h a b).push {cls:=.type "tuple",data:=.seq #[.ref h.objs.size,.ref (wq h a).objs.size]}
abbrev wR(h:aJ)(b a:ag):aJ:=(wC h b a).push {cls:=.type "tuple",data:=.seq #[.none,.none]}
abbrev qr(h:aJ)(b a:ag):aJ:=(wR h b a).push {cls:=.type "zip",data:=.fields #[.none,.bool aj,.bool aj,.ref (xz h b a).objs.size,.ref (wC h b a).objs.size]}
theorem Lc(a b:ag)(j i:Array ak):Meets (Builtin.«zip.__new__» ⟨[.type "zip",.ref a,.ref b],[]⟩) (λ_ R s=>s.heap.IsTuple a j/\s.heap.IsTuple b i /\ R (.ok (.ret (.ref (wR s.heap a b).objs.size))) {s with heap:=qr s.heap a b}) :=
 .of_wp λm w A R s h=>by
  obtain⟨p,g,d,l,n⟩:=s;obtain⟨q,t,h⟩:=h;have u:=sub_zip;have f:Heap.IsTuple (Shared.heap ⟨p,g,d,l,n⟩) a j:=q;have c:Heap.IsTuple (Shared.heap ⟨p.push {cls:=.type "tuple_iterator",data:=.fields #[.ref a,.int 0 0]},g,d,l,n⟩) b i:=let ⟨o,e,r⟩:=t;⟨o,bz _ e,r⟩
  wp_walk using rP f,rP c
  exact⟨_,rfl,h⟩
section
variable{a:bv}{w:bc}{A:bG}{E:ak->aq->Prop}{s:aq}
theorem L5{b d:ag}{q p:Array ak}{Q:ak->aq->Prop}(v:s.heap.IsTuple b q)(z:s.heap.IsTuple d p)(h:∀f,IsZip f (s.heap.objs.size+4) (s.heap.objs.size+2) (s.heap.objs.size+3) .none->gz f (s.heap.objs.size+2) (.ref s.heap.objs.size) (.ref (s.heap.objs.size+1)) -> gz f (s.heap.objs.size+3) .none .none->f.IsTupleIter s.heap.objs.size b 0->f.IsTupleIter (s.heap.objs.size+1) d 0 -> (∀c o,s.heap.get? c=aa o->f.get? c=aa o)->Q (.ref (s.heap.objs.size+4)) {s with heap:=f}):ax (aH a w) A (call (.type "zip") [.ref b,.ref d]) Q E s:=by
 refine callType_new F.called_zip (by decide) (F.typeCall_zip_2 _ _) (F.newCall_zip_2 _ _) (λl=>F.args_object_init_3 l _ _) F.entry_zip_new
  (Lc b d q p) ⟨v,z,?_⟩
 have j:(wq s.heap b).objs.size=s.heap.objs.size+1:=lN ..;have i:(xz s.heap b d).objs.size=s.heap.objs.size+2:=by rw[lN,j]
 have g:(wC s.heap b d).objs.size=s.heap.objs.size+3:=by rw[lN,i]
 have n:(wR s.heap b d).objs.size=s.heap.objs.size+4:=by rw[lN,g]
 have m:(qr s.heap b d).get? (wR s.heap b d).objs.size=aa _:=cL _ rfl;have r:(qr s.heap b d).get? (wC s.heap b d).objs.size=aa _:=bz _ (cL _ rfl);have t:(qr s.heap b d).get? (xz s.heap b d).objs.size=aa _:=bz _ (bz _ (cL _ rfl));have u:(qr s.heap b d).get? (wq s.heap b).objs.size=aa _:=bz _ (bz _ (bz _ (cL _ rfl)));have y:(qr s.heap b d).get? s.heap.objs.size=aa _:=bz _ (bz _ (bz _ (bz _ (cL _ rfl))));show _/\_;rw[i,g,n]at m;rw[j,i]at t;rw[g]at r;rw[j]at u;rw[n];exact⟨⟨_,m,rfl⟩,h _ m t r ⟨_,y,rfl,rfl⟩ ⟨_,u,rfl,rfl⟩ λc o x=>bz _ (bz _ (bz _ (bz _ (bz _ x))))⟩
end
end PySem
namespace L2
def wc(a b:ag):It :=⟨λi H=>∃d c x y,H a=aa (.tup d)/\H b=aa (.tup c)/\d[i]?=aa x/\c[i]?=aa y,λi H v f=>∃p x y,H p=ah/\v=.ref p/\f=upd H p (.tup [x,y])/\(∀d,H a=aa (.tup d)->d[i]?=aa x)/\∀c,H b=aa (.tup c)->c[i]?=aa y,λi H=>∃d c,H a=aa (.tup d)/\H b=aa (.tup c)/\(d.length<=i\/c.length<=i)⟩
theorem FX{h:aJ}{z J O t s r q:ag}{a b:ak}{k:Nat}{C B:Array ak}(i:IsZip h z J O .none)(v:gz h J (.ref t) (.ref s))(u:gz h O a b)(L:h.IsTupleIter t r k)(K:h.IsTupleIter s q k)(E:h.IsTuple r C)(D:h.IsTuple q B)(I:J≠O)(H:t≠s)(G:r≠O)(F:q≠O):ZipApart z J O t s r q:=by
 have f:∀{c d:ag}{y x:Obj},h.get? c=aa y->h.get? d=aa x->y.cls≠x.cls->c≠d:=λM A n z=>n (by subst z;rw[M]at A;cases A;rfl);obtain⟨S,o,l,_⟩:=L;obtain⟨Q,m,j,_⟩:=K;obtain⟨P,b1,d1,_⟩:=E;obtain⟨N,b2,d2,_⟩:=D;have p:Value.type "tuple"≠Value.type "zip":=by decide
 have w:Value.type "tuple_iterator"≠Value.type "zip":=by decide
 have g:Value.type "tuple"≠Value.type "tuple_iterator":=by decide
 exact⟨f v i p,f u i p,f o i (by rw[l];exact w),f m i (by rw[j];exact w),I,f v o (by rw[l];exact g),f v m (by rw[j];exact g),f u o (by rw[l];exact g),f u m (by rw[j];exact g),H,
  f b1 i (by rw[d1];exact p),G,f b1 o (by rw[d1,l];exact g),f b1 m (by rw[d1,j];exact g),f b2 i (by rw[d2];exact p),F,f b2 o (by rw[d2,l];exact g),f b2 m (by rw[d2,j];exact g)⟩
def Kg(z J O d c g f:ag)(i:Nat)(h:aJ):Prop:=IsZip h z J O .none/\gz h J (.ref d) (.ref c)/\(∃a b,gz h O a b)/\h.IsTupleIter d g i/\h.IsTupleIter c f i
theorem Ou{P:bv}{w:bc}{K:aA}{es:List aD}{k:Nat}{pos:Pos}(a b z J O F C:ag)(n1:J≠O)(n2:F≠C):oZ P w K (.Tuple es k pos) (wc a b) [z,J,O,F,C] z (Kg z J O F C a b) where
 mem:=by simp
 obj:=λi h ⟨G,p,⟨_,_,L⟩,A,B⟩ c m=>by
  simp only[bA,eZ,or_false]at m;rcases m with rfl|rfl|rfl|rfl|rfl
  .exact⟨_,G,λv z=>by cases z⟩
  .exact⟨_,p,λv z=>by cases z⟩
  .exact⟨_,L,λv z=>by cases z⟩
  .obtain⟨o,e,c,d⟩:=A;exact⟨o,e,λv z=>by rw[d]at z;cases z⟩
  .obtain⟨o,e,c,d⟩:=B;exact⟨o,e,λv z=>by rw[d]at z;cases z⟩
 keep:=λi h h' ⟨G,p,⟨x,y,L⟩,A,B⟩ k=>⟨k z (by simp) _ G,k J (by simp) _ p,⟨x,y,k O (by simp) _ L⟩,A.by λo e=>k F (by simp) o e,B.by λo e=>k C (by simp) o e⟩
 item:=by
  intro X hP hw hK Y i af s σ H E I N st hg;subst hP hw hK;obtain⟨G,p,⟨oa,ob,L⟩,A,B⟩:=st;obtain⟨xs,ys,x,y,Z,l6,j,hy⟩:=hg;obtain⟨g,W,p1,_⟩:=I.tuple (cD.of Z);obtain⟨f,T,p2,_⟩:=I.tuple (cD.of l6);obtain⟨u1,hu1,ru1⟩:=W.get j;obtain⟨u2,hu2,ru2⟩:=T.get hy;have nO:∀c v,H c=aa v->c≠O:=λc v e q=>by rw[q,(N O (by simp)).1]at e;cases e
  have D:=FX G p L A B p1 p2 n1 n2 (nO _ _ Z) (nO _ _ l6);refine Ff (by show X.A.in1.handled=ah;exact I.ok.hd Y) D G p L A B p1 p2 (λS Q e1 e2 h' hz' hO' t1 t2 hT hsz kp=>⟨_,rfl,?_⟩) λl=>by
   rcases l with l|l
   .rw[show g.toArray[i]?=aa u1 by simpa using hu1]at l;cases l
   .rw[show f.toArray[i]?=aa u2 by simpa using hu2]at l;cases l
  have ev1:S=u1:=by
   have q:g[i]?=aa S:=by simpa using e1
   rw[hu1]at q;exact(fg q).symm
  have ev2:Q=u2:=by
   have q:f[i]?=aa Q:=by simpa using e2
   rw[hu2]at q;exact(fg q).symm
  subst ev1 ev2;refine wpAny_letOwnedTupleGo_zip (s:={s with heap:=h'}) hz' λh2 hz2 sb=>?_;have hpz:s.heap.objs.size≠z:=iZ (bN G);have hT2:gz h2 s.heap.objs.size S Q:=(sb.2 _ hpz).trans hT;have kp2:∀c o,c≠z->c≠O->c≠F->c≠C->s.heap.get? c=aa o->h2.get? c=aa o:=λc o c1 c2 c3 c4 q=>(sb.2 c c1).trans (kp c o c1 c2 c3 c4 q);have fr:=I.fresh;have l:∀b u,H b=aa u->b≠s.heap.objs.size:=λb u q z=>by rw[z,fr]at q;cases q
  have T1:=t1.by λo q=>(sb.2 F D.i1z).trans q;have T2:=t2.by λo q=>(sb.2 C D.i2z).trans q;have O2:gz h2 O S Q:=(sb.2 O D.TOz).trans hO';have M:∀b o,b∉[z,J,O,F,C]->s.heap.get? b=aa o->h2.get? b=aa o:=λb o j q=>kp2 b o (λz=>j (by simp[z])) (λz=>j (by simp[z])) (λz=>j (by simp[z])) (λz=>j (by simp[z])) q;have I2:Inv X af σ (upd H s.heap.objs.size (.tup [x,y])) {s with heap:=h2}:=by
   refine I.call' (ch:=[z,J,O,F,C]) rfl ⟨λb o q n _ t=>M b o t q,λb o q n _ t=>⟨o.slots,M b o t q⟩,λb o q n _=>by rw[cc (dW (bN q))];exact n,λb o q t=>⟨o,M b o t q⟩,λb ys q=>by rw[cc (l b _ q)];exact q,λb o u q=>by rw[cc (l b _ q)];exact q,λb ps q=>by rw[cc (l b _ q)];exact q⟩ (λb v q=>?_) I.bare λb m=>?_
   .by_cases m:b=s.heap.objs.size
    .subst m;rw[upd_same]at q;cases q;exact⟨by show 2<=bB;decide,[S,Q],.cons ru1 (.cons ru2 .nil),⟨_,hT2,rfl,_,rfl⟩,_,hT2,rfl⟩
    .rw[cc m]at q;refine(I.hok b v q).stay (λc o Y r=>?_) (λc r=>by rw[cc (l c _ r)];exact r) λc ys r=>by rw[cc (l c _ r)];exact r
     have nn:H c≠ah:=by rcases Y with z|z <;> (first | (rw[<-z,q];simp) | (rw[z,q];simp) | (rw[z];simp))
     exact M c o (λhm=>nn (N c hm).1) r
   .obtain⟨f0,f1,f2,f3,f4,f5⟩:=N b m;exact⟨f3,f1,f4,f5⟩
  refine⟨.ref s.heap.objs.size,_,I2,rfl,⟨s.heap.objs.size,x,y,fr,rfl,rfl,λzs e=>by rw[Z]at e;cases e;exact j,λzs e=>by rw[l6]at e;cases e;exact hy⟩,⟨hz2,kp2 _ _ D.TIz D.TITO D.TIi1 D.TIi2 p,⟨_,_,O2⟩,T1,T2⟩,λb m=>?_⟩;have cy:b≠s.heap.objs.size:=λq=>by
   simp only[bA,eZ,or_false]at m;rcases m with c|c|c|c|c
   .exact hpz (q ▸ c)
   .exact iZ (bN p) (q ▸ c)
   .exact iZ (bN L) (q ▸ c)
   .obtain⟨_,e,_⟩:=A;exact iZ (bN e) (q ▸ c)
   .obtain⟨_,e,_⟩:=B;exact iZ (bN e) (q ▸ c)
  rw[cc cy];exact(N b m).1
 done:=by
  intro X hP hw hK Y i af s σ H E I N st hg;subst hP hw hK;obtain⟨G,p,⟨oa,ob,L⟩,A,B⟩:=st;obtain⟨xs,ys,Z,l6,j⟩:=hg;obtain⟨g,W,p1,_⟩:=I.tuple (cD.of Z);obtain⟨f,T,p2,_⟩:=I.tuple (cD.of l6);have nO:∀c v,H c=aa v->c≠O:=λc v e q=>by rw[q,(N O (by simp)).1]at e;cases e
  have D:=FX G p L A B p1 p2 n1 n2 (nO _ _ Z) (nO _ _ l6);have l1:=W.length;have l2:=T.length;refine Ff (by show X.A.in1.handled=ah;exact I.ok.hd Y) D G p L A B p1 p2 (λS Q e1 e2=>?_) λ_ h' kp=>⟨rfl,?_⟩
  .have g1:=(eF.mp (show g[i]?=aa S by simpa using e1)).1;have g2:=(eF.mp (show f[i]?=aa Q by simpa using e2)).1;exact absurd j ∅
  .have M:∀b o,b∉[z,J,O,F,C]->s.heap.get? b=aa o->h'.get? b=aa o:=λb o j q=>kp b o (λz=>j (by simp[z])) (λz=>j (by simp[z])) (λz=>j (by simp[z])) (λz=>j (by simp[z])) q;refine I.call' (ch:=[z,J,O,F,C]) rfl ⟨λb o q n _ t=>M b o t q,λb o q n _ t=>⟨o.slots,M b o t q⟩,λ_ _ _ n _=>n,λb o q t=>⟨o,M b o t q⟩,λ_ _ q=>q,λ_ _ _ q=>q,λ_ _ q=>q⟩ (λb v q=>?_) I.bare λb m=>?_
   .refine(I.hok b v q).stay (λc o Y r=>?_) (λ_ r=>r) λ_ _ r=>r;have nn:H c≠ah:=by rcases Y with z|z <;> (first | (rw[<-z,q];simp) | (rw[z,q];simp) | (rw[z];simp))
    exact M c o (λhm=>nn (N c hm).1) r
   .obtain⟨f0,f1,f2,f3,f4,f5⟩:=N b m;exact⟨f3,f1,f4,f5⟩
 self:=λ_ _ _ _ _ st h=>wpAny_pyIter_zip st.1 h
section
variable{X:Cx}{d:List aD}{k:Nat}{c:Pos}
def I0(l:TA):TI:=λh H R=>l h H λj f=>∃a b g i,j=[.ref a,.ref b]/\f a=aa (.tup g)/\f b=aa (.tup i)/\(g.length<=bB->R (wc a b) f)
theorem Qr{e g:aD}{o:TA}{p i:Pos}(P:Gl X "zip")(O:X.mg "zip"=ah)(Q:PA X [e,g] o)(N:bo [e,g] X.env=[(aj,bq e X.env),(aj,bq g X.env)]:=by rfl)(r:bo [g] X.env=[(aj,bq g X.env)]:=by rfl):PI X (.Tuple d k c) (.Call (.Name "zip" p) [e,g] [] i) (I0 o):=by
 intro y s n H R I h;refine Call_ (qU I P O (show fi "zip"=aa (.type "zip") by decide +kernel) (Br (a9 (Q i y s n H _ I h) λus f ⟨vs,z,l,G,J⟩=>?_) (by rw[N,r]) (by rw[r];rfl)));obtain⟨a,b,xs,ys,e,Y,W,q⟩:=J;subst e;obtain⟨u,u',rfl,F,m⟩:=vals2 G;cases F;cases m;obtain⟨v,E,L,A⟩:=l.tuple (cD.of Y);obtain⟨t,D,K,_⟩:=l.tuple (cD.of W);refine L5 L K λx w T S C B M=>?_;refine wpAny_pyIter_zip (s:={f with heap:=x}) w ?_;have Z:Inv X y n z {f with heap:=x}:=l.kept (t':=f.toks) M;have lt:∀b∈[f.heap.objs.size+4,f.heap.objs.size+2,f.heap.objs.size+3,f.heap.objs.size,f.heap.objs.size+1],f.heap.objs.size<=b:=by intro b j;simp only[bA,eZ,or_false]at j;rcases j with rfl|rfl|rfl|rfl|rfl <;> lia
 exact⟨f.heap.objs.size+4,[f.heap.objs.size+4,f.heap.objs.size+2,f.heap.objs.size+3,f.heap.objs.size,f.heap.objs.size+1],_,_,z,rfl,Z,Ou a b _ _ _ _ _ (dW (k7 (f.heap.objs.size+2))) (dW (k7 f.heap.objs.size)),⟨w,T,⟨_,_,S⟩,C,B⟩,λb j=>l.fpOk (lt b j) (l.hok.fresh (lt b j)),q A⟩
end
end L2
namespace Pu
open L2
section
variable{X:Cx}{E:XK}
theorem KY{a b:ag}{d c:List V}:AW (wc a b) (d.zip c) (λH=>H a=aa (.tup d)/\H b=aa (.tup c)):=λH h i=>
 ⟨λx m=>by
  obtain⟨l,j⟩:=List.getElem?_zip_eq_some.mp m;refine⟨⟨d,c,_,_,h.1,h.2,l,j⟩,λv y ⟨p,w,u,t,s,r,q,o⟩=>?_⟩;have g:=q d h.1;have f:=o c h.2;rw[l]at g;rw[j]at f;cases g;cases f;subst s r;exact⟨p,rfl,upd_same,.inr ⟨t,rfl⟩⟩,λn=>⟨d,c,h.1,h.2,by rw[List.length_zip]at n;lia⟩⟩
theorem Ew{K:aA}{H:Hp}{F:ag->Prop}:∀{b a:List PV}{d c:List V},Reps K H F b d->Reps K H F a c->pt K H F (b.zip a) (d.zip c)
 |[],_,_,_,h,_=>by rw[show _=[] from h];exact⟨rfl,rfl⟩
 |_::_,[],_,_,⟨_,_,e,_,_⟩,h=>by rw[show _=[] from h,e];exact⟨rfl,rfl⟩
 |x::b,y::a,_,_,⟨v,r,e,n,m⟩,⟨f,p,o,i,g⟩=>by subst e o;obtain⟨l,j⟩:=Ew m g;exact⟨⟨v,_,rfl,n,l⟩,⟨f,_,rfl,i,j⟩⟩
def qw(d:ac->R (List PV)):ac->R (List (PV×PV)):=λε=>(d ε).bind λx a=>match x with
 |[.tup c,.tup b]=>.ok (c.zip b) a
 |_=>.no
theorem Po{J:List aD}{k:Nat}{u p i:Pos}{a b:aD}{o:ac->R (List PV)}(D:X.mg "zip"=ah)(c:DA X E [a,b] o)(G:Gl X "zip":=by rfl)(C:bo [a,b] X.env=[(aj,bq a X.env),(aj,bq b X.env)]:=by rfl)(w:bo [b] X.env=[(aj,bq b X.env)]:=by rfl):tQ X E (.Tuple J k u) (.Call (.Name "zip" p) [a,b] [] i) (qw o):=λF S r l H N x h=>Bx.mk λL s I=>by
 refine Qr G D ik C w L s l H N I (c F S r l H _ x ((Ok.bind h).imp λt q P M O g Y j T A=>?_));split at j
 .rename_i t Q;obtain⟨v,_,rfl,⟨a,f,rfl,c,z⟩,W,_,e,⟨b,d,rfl,m,y⟩,K⟩:=A;cases K;subst e;refine⟨a,b,f,d,rfl,c,m,λB=>j P M O g (bO.refl ..) (wc a b) (f.zip d) (λH=>H a=aa (.tup f)/\H b=aa (.tup d)) (Ew z y) (dX (by rw[List.length_zip];exact Nat.min_le_left ..) B) KY λZ F2 H2 n=>⟨n.imm g.fit c id,n.imm g.fit m id⟩⟩
 .exact j.elim
end
section
variable{X:Cx}{E:XK}{o b c:aD}{f g:Pos}{j i:ac->R PV}
def wf(d:ac->R PO)(j i:ac->R PV):ac->R PV:=λn=>(d n).bind λp l=>match p with
 |.dK m=>(j l).bind λk h=>(i h).bind λz a=>aO ((gY k).map λk=>(hG m k).getD z) a
 |_=>.no
theorem Kt{d:ac->R PO}(hu:X.A.units+64<cLine)(ho:DN X E o d)(hb:DE X E b j)(hc:DE X E c i)(n:n_ o "get" X.env (bq o X.env)=bq o X.env:=by rfl) (G:(f.endLine == g.line)=ae:=by rfl) (s1:kH b=aj:=by rfl) (s2:kH c=aj:=by rfl):DE X E (.Call (.Attribute o "get" f) [b,c] [] g) (wf d j i):=λF S Z t H Q rl h=>by
 have N:bo [b,c] X.env=[(aj,bq b X.env),(aj,bq c X.env)]:=by rw[jf s1,jf s2];rfl
 have m:M2 X o "get" f b c g:=⟨n,by rw[N];rfl,G,by rw[N];rfl⟩
 refine cE (DC ∅ b_ b_ b_ m) (ho F S Z t H _ rl ((Ok.bind h).imp λpo A F1 S1 H1 T g1 q a Sa ow fr=>?_));split at q
 .rename_i D;obtain⟨⟨M,p,hk⟩,hS⟩:=ow;obtain⟨f1,f2,f3,_⟩:=fr a ((hS a).mpr rfl);refine⟨a,rfl,.inl ⟨_,.inl p⟩,hb F1 S1 A t H1 _ T ((Ok.bind q).imp λk y F2 S2 H2 C J q u O=>?_)⟩;refine hc F2 S2 y t H2 _ C ((Ok.bind q).imp λz Y L W s P I q w B=>?_);have l:s a=aa (.dK M):=I.keep _ _ (J.keep _ _ p f3) λz=>(J.onew a z).elim f3 λe=>by rw[e]at p;cases p
  cases K:gY k with
  |none=>rw[K]at q;exact q.elim
  |some ky=>
   rw[K,rN]at q;have ru3:=O.grow I C.fit;rw[qT O K];have vh:gK X.K s L D M:=hk.mono λx v r=>(r.grow J T.fit).grow I C.fit;rcases vh.val ky with⟨x,v,n,h2,G⟩|⟨n,h2⟩
   .rw[n]at q;exact⟨aa v,by rw[<-h2];exact mn.k l,q L W s P (bO.refl ..) v G⟩
   .rw[n]at q;exact⟨ah,by rw[<-h2];exact mn.k l,q L W s P (bO.refl ..) w B⟩
 .exact q.elim
end
end Pu
namespace HT
section
variable{a:bv}{w:bc}{A:bG}{E:ak->aq->Prop}{s:aq}
theorem JI(n:Nat):ro ((n:Int)-1) (-1) (-1)=n:=by unfold ro;simp;lia
theorem NG{f:ag}{b:ak}{n:Nat}{Q:Int×Int×Nat->aq->Prop}(i:s.heap.IsSliceOf f .none .none b)(g:jU b (aa (-1)))(h:Q ((n:Int)-1,-1,n) s):ax (aH a w) A (Bv (.ref f) (pure (n:Int))) Q E s:=by obtain⟨j,d,l,c⟩:=id i;unfold Bv Builtin.Slice.sliceFields;refine au (au (io d c (x:=.none) rfl (au (io d c (x:=.none) rfl (au (io d c (x:=b) rfl (aN ?_)))))));refine au (AZ g ?_);show ax _ _ (if((-1:Int) == 0)=ae then _ else _) _ _ s;rw[if_neg (by decide)];refine au (Bu (au (Bu (au (aN ?_)))));show ax _ _ (pure ((n:Int)-1,(-1:Int),ro ((n:Int)-1) (-1) (-1))) _ _ s;rw[JI];exact aN h
theorem Nw(b:Array ak)(n:Nat)(d:n=b.size):((cg n).filterMap λ(m:Nat)=>b[((n:Int)-1+(m:Int) * -1).toNat]?).toArray=b.toList.reverse.toArray:=by
 subst d;rw[<-L2.R6 b.toList,Hw,ri];congr 1;refine L2.Dx λk c=>?_;have c:=ka.mp c;have:((b.size:Int)-1+(k:Int) * -1).toNat=b.size-1-k:=∅
 rw[this];simp
theorem getItem_tuple_rev{t d:ag}{b:Array ak}{g:ak}{Q:ak->aq->Prop}(ht:IsTup s.heap t b)(i:s.heap.IsSliceOf d .none .none g)(l:jU g (aa (-1)))(h:Q (.ref s.heap.objs.size) {s with heap:=s.heap.push {cls:=.type "tuple",data:=.seq b.toList.reverse.toArray}})(f:b.size<=bB):ax (aH a w) A (kW (.ref t) (.ref d)) Q E s:=by
 have c:sizeOk (.seq b.toList.reverse.toArray):=by show b.toList.reverse.toArray.size<=bB;simpa using f
 obtain⟨n,p,o,q⟩:=id i;have j:s.TypeIs (.ref d) "slice":=⟨n,p,o⟩
 unfold kW
 try with_reducible refine pP ?_
 first|refine au (aN ?_)|skip
 refine au (Hx ht.typeIs (by decide) ?_);refine au (rq (name:=pQ "__getitem__") ht.typeIs uF (mT uF ht.typeIs Hy ?_ (Hz _ _)));show ax _ _ (HA (.ref t) >>= _) _ _ s;refine au (tupleItemsOf_ ht ?_);refine au (uG j ?_);rw[if_pos (by decide)];refine au (NG i l ?_);show ax _ _ (if(((b.size:Int)-1) == 0&&(-1:Int) == 1&&b.size == b.size)=ae then _ else _) _ _ s;rw[if_neg (by simp),Nw b b.size rfl]
 first
  |exact au (m:=pR _) (i8 (aN ⟨_,rfl,aN h⟩) c)
  |exact au (m:=pR _) (i8 (au (aN (aN ⟨_,rfl,aN h⟩))) c)
  |exact au (au (m:=pR _) (i8 (aN (aN ⟨_,rfl,aN h⟩)) c))
  |exact au (au (m:=pR _) (i8 (aN ⟨_,rfl,aN h⟩) c))
end
end HT
namespace Pu
open L2
section
variable{X:Cx}{E:XK}{e f:aD}{i:TE}{g:TO}{c j:Pos}{d:ac->R PV}
def Js(K:aA)(i:TE)(g:TO):TE:=λh H Q=>i h H λx n=>g h n λm b=>∃a l,x=.ref a/\m=aa (-1)/\cD K b a l/\∀p,b p=ah->Q (.ref p) (upd b p (.tup l.reverse))
theorem PN(L:PE X e i)(J:L2.PO X (aa f) g):PE X (.Subscript e (.Slice ah ah (aa f) j) c) (Js X.K i g):=by
 intro p s m H Q I h;refine Subscript_ (a9 (L p s m H _ I h) λv y ⟨x,S,O,z,B⟩=>?_);refine wpAny_Slice ?_;rw[evalPart_none];refine aN (aN ?_);refine a9 (J p y m S _ O B) λn l ⟨T,P,N,C,a,w,t,M,K,A⟩=>?_;subst t M;cases z;have u:Inv X p m P {l with heap:=l.heap.push {cls:=.type "slice",data:=.fields #[.none,.none,n]}}:=N.kept (t':=l.toks) λb D q=>bz _ q;have F:Heap.IsSliceOf (l.heap.push {cls:=.type "slice",data:=.fields #[.none,.none,n]}) l.heap.objs.size .none .none n:=Heap.IsSliceOf.new ..;obtain⟨G,r,ht,t⟩:=u.tuple K;have W:=r.length;show ax (aH X.prog X.w) X.A (Bw e (.Slice ah ah (aa f) j) (.ref a) (.ref l.heap.objs.size)) (EP X p m Q) X.xe {l with heap:=l.heap.push {cls:=.type "slice",data:=.fields #[.none,.none,n]}};refine tail_any (ops:=[.ref a,.ref l.heap.objs.size]) ht.typeIs PyProof.Rows.slot_tuple_getitem.lookup ?_ (by with_unfolding_all rfl);refine HT.getItem_tuple_rev ht F C ?_ (by rw[ef];lia);refine⟨.ref _,_,u.laid (t':=l.toks) (o:=.tup w.reverse) (λb D q=>bz _ q) (bC _) ?_,rfl,A _ (u.hok.fresh (bC _))⟩;exact⟨by rw[List.length_reverse];exact t,_,r.reverse,Hi.new _ _⟩
def xJ(d:ac->R PV)(dk:ac->R (Option Int)):ac->R PV:=λh=>(d h).bind λx b=>(dk b).bind λk a=>match x,k with
 |.tup xs,aa (-1)=>.ok (.tup xs.reverse) a
 |_,_=>.no
theorem KG{dk:ac->R (Option Int)}(B:DE X E e d)(A:DO X E (aa f) dk):DE X E (.Subscript e (.Slice ah ah (aa f) j) c) (xJ d dk):=λF S s o H Q w h=>by
 refine cE (PN b_ yM) (B F S s o H _ w ((Ok.bind h).imp λx b M J K q N D v u=>?_));refine A M J b o K _ q ((Ok.bind D).imp λk r L I O z G n=>?_);have l:=u.grow G q.fit;split at n
 .obtain⟨a,t,rfl,C,y⟩:=l;refine⟨a,t,rfl,rfl,cD.of C,λp m=>?_⟩;exact n L I _ (z.al (Al.new0 m)) (Al.new0 m).grow _ ⟨p,_,rfl,upd_same,(Al.new0 m).reps y.rev⟩
 .exact n.elim
end
end Pu
local macro_rules | `(tactic| simp! [$xs,*]) => `(tactic| simp [Pu.aw, Pu.aV, Pu.dB, Pu.d2, Pu.d1, Pu.dV, Pu.dC, Pu.dL, Pu.dF, Pu.ao, Pu.ar, Pu.aW, Pu.gq, Pu.aT, Pu.dS, Pu.aB, Pu.gV, Pu.gO, Pu.br, Pu.df, Pu.cW, Pu.bX, Pu.cK, Pu.cY, Pu.R.bind, Pu.aO, Pu.bL, Pu.ig, Pu.bJ, Pu.back, Pu.iT, Pu.nk, Pu.iC, Pu.vV, Pu.qY, Pu.wO, Pu.aL, Pu.gH, Pu.cH, Pu.cx, Pu.bh, Pu.A7, Pu.jQ, Pu.Qa, Pu.bZ, Pu.jo, Pu.gU, Pu.cq, Pu.eU, Pu.jJ, Pu.gD, Pu.bt, Pu.j3, Pu.iu, Pu.mD, Pu.sU, Pu.imm, Pu.wY, Pu.mw, cr, n9, $xs,*])
local macro_rules | `(tactic| and_intros) => `(tactic| (refine' Pu.Rq ?a ?l ?c ?k; (case a => k_is); (case l => k_is); (case c => k_is); (case k => k_is)))
namespace K04
open L2 Pu Sh
def c8(i:Nat):bu:=PySem.Challenge.pw_slitview_k04_whole_bars.main.body.getD i (.Pass ⟨0,0,0,0⟩)
abbrev yX:bu:=c8 33
abbrev yD:bu:=c8 34
abbrev zP:bu:=c8 35
abbrev A3:bu:=c8 36
abbrev zC:bu:=c8 37
abbrev yG:bu:=c8 38
abbrev zd:bu:=c8 39
abbrev tf:bu:=c8 42
abbrev zi:bu:=c8 8
abbrev Bl:bu:=c8 9
abbrev v3:bu:=c8 7
abbrev AF:bu:=c8 10
abbrev v5:bu:=c8 11
abbrev Ax:bu:=c8 12
abbrev Aa:bu:=c8 13
abbrev Bm:bu:=c8 14
abbrev yL:bu:=c8 17
abbrev vt:bu:=c8 18
abbrev xO:bu:=c8 41
abbrev vD:bu:=c8 40
abbrev y8:bu:=c8 19
abbrev tF:bu:=c8 20
abbrev Bj:bu:=c8 21
abbrev mF:bu:=c8 43
abbrev zG:bu:=c8 22
abbrev zv:bu:=c8 23
abbrev uw:bu:=c8 24
abbrev uj:bu:=c8 16
abbrev qV:bu:=c8 25
abbrev zh:bu:=c8 26
abbrev Bk:bu:=c8 44
abbrev zu:bu:=c8 29
abbrev za:bu:=c8 28
abbrev xF:bu:=c8 30
abbrev zJ:bu:=c8 31
abbrev l8:bu:=c8 45
def t7(a:Ad):List ag:=[a.NoView]
structure cX(K:aA)(mg:Str->Option ak)(base:aJ)(a:Ad):Prop where
 yaz:cM K mg "_law_cell_at" yX
 yaC:cM K mg "_law_mixed" yD
 yaA:cM K mg "_law_draw" zP
 yaE:cM K mg "_law_pick" A3
 yaH:cM K mg "_law_text" zC
 yaF:cM K mg "_law_seen" yG
 yaI:cM K mg "_law_view" zd
 yaD:cM K mg "_law_more" tf
 yau:cM K mg "is_whole_number" zi
 yav:cM K mg "is_width" Bl
 yao:cM K mg "has_only" v3
 yaw:cM K mg "is_window" AF
 yag:cM K mg "are_windows" v5
 yat:cM K mg "is_view_with" Ax
 yas:cM K mg "is_view" Aa
 yak:cM K mg "check_view" Bm
 yam:cM K mg "excesses" yL
 yah:cM K mg "balance" vt
 yaJ:cM K mg "_law_within" xO
 yay:cM K mg "_law_all" vD
 yaK:cM K mg "reached_pieces" y8
 yan:cM K mg "find_bar" tF
 yai:cM K mg "bar" Bj
 yaB:cM K mg "_law_is_bar" mF
 yaj:cM K mg "begins_more" zG
 yaf:cM K mg "are_unlike_starts" zv
 yae:cM K mg "are_some_places" uw
 yap:cM K mg "heads_and_tails" uj
 yad:cM K mg "are_places_apart" qV
 yar:cM K mg "is_bar" zh
 yaG:cM K mg "_law_spoilt" Bk
 yac:cM K mg "add_endings" zu
 yal:cM K mg "counted" za
 yaL:cM K mg "texts" xF
 yaq:cM K mg "how_many" zJ
 yax:cM K mg "law" l8
 yaM:mg "all"=ah
 yaN:mg "any"=ah
 yaO:mg "bool"=ah
 yaP:mg "enumerate"=ah
 yaQ:mg "int"=ah
 yaR:mg "isinstance"=ah
 yaS:mg "len"=ah
 yaT:mg "list"=ah
 yaU:mg "range"=ah
 yaV:mg "set"=ah
 yaW:mg "sorted"=ah
 yaX:mg "str"=ah
 yaY:mg "tuple"=ah
 yaZ:mg "zip"=ah
 ya1:∃t,mg "LETTERS"=aa (.str (tS [97,98,99]) t)
 ya2:∃t,mg "MOST_WINDOWS"=aa (.int 9 t)
 ya3:∃t,mg "WIDEST"=aa (.int 4 t)
 yab:mg "SlitError"=aa (.ref a.SlitError)
 yaa:mg "NoView"=aa (.ref a.NoView)
 ya0:OwnCls "NoView" a.NoView [.type "ValueError",.type "Exception",.type "BaseException",.type "object"] "ValueError.__new__" mg base
section
variable{P:bv}{w:bc}{K:aA}{c:Str->Option ak}{b:aJ}{a:Ad}
theorem OK:cC ["_law_script","_law_k"] ["_law_script","_law_k"] (a8 yX):=by ac_nf
theorem OS(G:cX K c b a):cN (cz P w) P w K c b "_law_cell_at" 1 ["_law_script","_law_k"] (cn K (qI a)) :=
 cU (k:=0) (pin:=[]) G.yaz OK rfl (λ_ _ _ _ _ _ g i=>Pu.Rs (λ_ _=>rfl) g i) (λf j A d s H E h=>by exact
  (aQ (c0 (cG nU eR (am 1) (bP dJ dO G.yaS dI (ay (am 0) aM)) rfl) (bb (cm (b7 b9 ca (am 0) (am 1)))) cZ)
  (aQ (c0 (cG (fA h.units) fq (am 0) (jL aM) rfl) (bb (cm aC)) cZ)
  (bb (cm (bQ dR dP (bQ qH qy (b7 b9 ca (am 0) (bQ vJ xN (am 1) (bP dJ dO G.yaS dI (ay (am 0) aM)))) aC) (am 1)))))))
def yaC(a:Ad):ac->R aK:=aw (aT 3 (d2 ji (d2 gw (d2 aZ (d2 aZ (aL (aB (qI a) (gV (dV 0) (gV (dV 1) (br))))) (d2 gw (dC (.int 7919)) (dV 1))) (dC (.int 1))) (dC (.int 48271))) (dC (.int 2147483647))))
 (aW (d2 ji (d2 ji (d2 aZ (d2 aZ (d2 gw (dV 3) (dV 3)) (d2 gw (dC (.int 7)) (dV 3))) (dV 1)) (dC (.int 2147483629))) (dV 2)))
def xw(a:Ad):ac->R Slot:=bL 3 [] (bJ 1 (yaC a))
theorem NO:cC ["_law_script","_law_k","_law_many","_law_drawn"] ["_law_script","_law_k","_law_many"] (a8 yD):=by ac_nf
theorem Iv(G:cX K c b a):cN (cz P w) P w K c b "_law_mixed" 2 ["_law_script","_law_k","_law_many"] (cn K (xw a)) :=
 cU (k:=1) (pin:=[]) G.yaC NO rfl (λ_ _ _ _ _ _ g i=>Pu.RD (λ_ _ _=>rfl) g i) (λf j A d s H E h=>by exact
  (aQ (cQ 3 NO.nd (bQ vJ xN (bQ qH qy (bQ dR dP (bQ dR dP ((bx (OS G) (h.mono (by decide)) bU (aI (am 0) (aI (am 1) bw)))).de (bQ qH qy aC (am 1))) aC) aC) aC))
  (bb (cm (bQ vJ xN (bQ vJ xN (bQ dR dP (bQ dR dP (bQ qH qy (am 3) (am 3)) (bQ qH qy aC (am 3))) (am 1)) aC) (am 2))))))
def yaA(a:Ad):ac->R aK:=aw (iu 1 (dC (.int 0)))
 (gq (aB (xw a) (gV (dV 0) (gV (mD (λd=>sU (aS d)) 1) (gV (dV 2) (br))))))
def eO(a:Ad):ac->R Slot:=bL 3 [1] (bJ 0 (yaA a))
theorem Qq:cC ["_law_script","_law_town","_law_many"] ["_law_script","_law_town","_law_many"] (a8 zP):=by ac_nf
theorem kt(G:cX K c b a):cN (cz P w) P w K c b "_law_draw" 3 ["_law_script","_law_town","_law_many"] (cn K (eO a)) :=
 cU (k:=2) (pin:=[1]) G.yaA Qq rfl (λ_ _ _ _ _ _ g i=>Pu.RD (λ_ _ _=>rfl) g i) (λf j A d s H E h=>by exact
  (aQ (tU 1 aC)
  (bb (qo (bx (Iv G) (h.mono (by decide)) bU (aI (am 0) (aI (OI 1 dJ dO G.yaS dI) (aI (am 2) bw))))))))
def yaE(a:Ad):ac->R aK:=aW (d2 aF (dV 2) (aL (aB (eO a) (gV (dV 0) (gO 1 (gV (dL aS (ao (dV 2) (ar))) (br)))))))
def gE(a:Ad):ac->R Slot:=bL 3 [1] (bJ 0 (yaE a))
theorem NR:cC ["_law_script","_law_town","_law_some"] ["_law_script","_law_town","_law_some"] (a8 A3):=by ac_nf
theorem mM(G:cX K c b a):cN (cz P w) P w K c b "_law_pick" 4 ["_law_script","_law_town","_law_some"] (cn K (gE a)) :=
 cU (k:=3) (pin:=[1]) G.yaE NR rfl (λ_ _ _ _ _ _ g i=>Pu.RD (λ_ _ _=>rfl) g i) (λf j A d s H E h=>by exact
  (bb (cm (b7 b9 ca (am 2) ((bx (kt G) (h.mono (by decide)) bU (aI (am 0) (eQ 1 (aI (bP dJ dO G.yaS dI (ay (am 2) aM)) bw))))).de))))
def yaH(a:Ad):ac->R aK:=aw (aT 4 (aL (aB (gE a) (gV (dV 0) (gO 1 (gV (dF (dL cH (ao (dC (.int 1)) (ao (dC (.int 2)) (ao (dC (.int 2)) (ao (dC (.int 3)) (ao (dC (.int 3)) (ao (dC (.int 3)) (ar))))))))) (br)))))))
 (aw (aT 5 (dC (.str [])))
 (aw (λd=>dr (cj 6 (dL fc (ao (d2 aZ (dV 2) (aL (aB (eO a) (gV (dV 0) (gO 1 (gV (d2 aZ (d2 gv (dV 3) (dV 2)) (dC (.int 1))) (br))))))) (ar))) (aT 5 (d2 aZ (dV 5) (d2 aF (dC (.str [97,98,99])) (aL (aB (eO a) (gV (dV 0) (gO 1 (gV (dV 4) (br))))))))) d))
 (aW (dV 5))))
def vS(a:Ad):ac->R Slot:=bL 4 [1] (bJ 3 (yaH a))
theorem QW:cC ["_law_script","_law_town","_law_low","_law_most","_law_few","_law_made","_law_k"] ["_law_script","_law_town","_law_low","_law_most"] (a8 zC):=by ac_nf
theorem JW(G:cX K c b a):cN (cz P w) P w K c b "_law_text" 5 ["_law_script","_law_town","_law_low","_law_most"] (cn K (vS a)) :=
 cU (k:=4) (pin:=[1]) G.yaH QW rfl (λ_ _ _ _ _ _ h i=>Pu.RV (λ_ _ _ _=>rfl) h i) (λf j A d s H E g=>by exact
  (aQ (cQ 4 QW.nd ((bx (mM G) (g.mono (by decide)) bU (aI (am 0) (eQ 1 (aI (jL (ay aC (ay aC (ay aC (ay aC (ay aC (ay aC aM))))))) bw))))).de)
  (aQ (cQ 5 QW.nd (ff []))
  (aQ (j5 (iR 6 i9 rfl QW.nd (mi G.yaU (ay (bQ dR dP (am 2) ((bx (kt G) (g.mono (by decide)) im (aI (am 0) (eQ 1 (aI (bQ dR dP (bQ nq nr (am 3) (am 2)) aC) bw))))).de) aM)) (bb (cQ 5 QW.nd (bQ dR dP (am 5) (b7 b9 ca (ff [97,98,99]) ((bx (kt G) (g.mono (by decide)) im (aI (am 0) (eQ 1 (aI (am 4) bw))))).de))))))
  (bb (cm (am 5)))))))
def yaF(a:Ad):ac->R aK:=aw (dS 2 (dL cH (ar)))
 (aw (λd=>dr (cj 3 (dL fc (ao (dL aS (ao (dV 0) (ar))) (ar))) (aV (dB (d2 (bt λi j=>decide (i<=j)) (d2 aZ (dV 3) (dV 1)) (dL aS (ao (dV 0) (ar))))) (iu 2 (be bD (dV 0) (aY (dV 3)) (aY (d2 aZ (dV 3) (dV 1))))) (bh)) d))
 (aW (dL lz (ao (dF (mD (λf=>wY (nP f)) 2)) (ar)))))
def nB(a:Ad):ac->R Slot:=bL 2 [] (bJ 2 (yaF a))
theorem PJ:cC ["_law_text_here","_law_width","_law_made","_law_at"] ["_law_text_here","_law_width"] (a8 yG):=by ac_nf
theorem yQ(G:cX K c b a):cN (cz P w) P w K c b "_law_seen" 1 ["_law_text_here","_law_width"] (cn K (nB a)) :=
 cU (k:=0) (pin:=[]) G.yaF PJ rfl (λ_ _ _ _ _ _ g h=>Pu.Rs (λ_ _=>rfl) g h) (λf j A d s H E i=>by exact
  (aQ (kI 2 PJ.nd (qu aM))
  (aQ (j5 (iR 3 i9 rfl PJ.nd (mi G.yaU (ay (bP dJ dO G.yaS dI (ay (am 0) aM)) aM)) (bb (c0 (cG lh eR (bQ dR dP (am 3) (am 1)) (bP dJ dO G.yaS dI (ay (am 0) aM)) rfl) (bb (tU 2 (dA eE d8 (am 0) (cT (am 3)) (cT (bQ dR dP (am 3) (am 1)))))) cZ))))
  (bb (cm (xH xk xp G.yaY j6 (ay (Oh 2 yU ze G.yaW tR).de aM)))))))
def yaI(a:Ad):ac->R aK:=aw (aT 3 (d2 aZ (dC (.int 1)) (aL (aB (eO a) (gV (dV 0) (gO 1 (gV (dC (.int 4)) (br))))))))
 (aw (aT 4 (aL (aB (vS a) (gV (dV 0) (gO 1 (gV (dV 3) (gV (d2 gv (d2 aZ (dV 3) (dV 2)) (dC (.int 1))) (br))))))))
 (aw (aT 5 (dF (dL kF (ao (aL (aB (nB a) (gV (dV 4) (gV (dV 3) (br))))) (ar)))))
 (aw (λd=>dr (cj 6 (dL fc (ao (aL (aB (gE a) (gV (dV 0) (gO 1 (gV (dF (dL cH (ao (dC (.int 0)) (ao (dC (.int 0)) (ao (dC (.int 0)) (ao (dC (.int 1)) (ao (dC (.int 2)) (ar)))))))) (br)))))) (ar))) (aw (aT 7 (aL (aB (eO a) (gV (dV 0) (gO 1 (gV (d2 aZ (dL aS (ao (dV 5) (ar))) (dC (.int 1))) (br)))))))
 (aw (aT 8 (dC (.str [])))
 (aw (cj 9 (dL fc (ao (dV 3) (ar))) (aT 8 (d2 aZ (dV 8) (d2 aF (dC (.str [97,98,99])) (aL (aB (eO a) (gV (dV 0) (gO 1 (gV (dC (.int 3)) (br))))))))))
 (aT 5 (d2 aZ (d2 aZ (be bD (dV 5) (bj) (aY (dV 7))) (aL (aB (gE a) (gV (dV 0) (gO 1 (gV (dF (dL cH (ao (dF (dL cH (ao (dV 8) (ar)))) (ao (dF (dL cH (ar))) (ao (d2 aZ (dF (dL cH (ao (dV 8) (ar)))) (be bD (dV 5) (aY (dV 7)) (aY (d2 aZ (dV 7) (dC (.int 1)))))) (ar)))))) (br))))))) (be bD (dV 5) (aY (d2 aZ (dV 7) (dC (.int 1)))) (bj))))))) d))
 (aw (aT 5 (be bD (dV 5) (bj) (aY (dV 2))))
 (aw (aV (dB (d2 (eqT aj) (dV 5) (dF (dL cH (ar))))) (aT 5 (dF (dL cH (ao (d2 gw (dC (.str [99])) (dV 3)) (ar))))) (bh))
 (aW (dL cx (ao (dV 3) (ao (dL lz (ao (dF (dL nP (ao (dV 5) (ar)))) (ar))) (ar))))))))))
def ql(a:Ad):ac->R Slot:=bL 3 [1] (bJ 7 (yaI a))
theorem P_:cC ["_law_script","_law_town","_law_most","_law_width","_law_text_here","_law_windows","_law_k","_law_at","_law_new","_law_turn"] ["_law_script","_law_town","_law_most"] (a8 zd):=by ac_nf
theorem Pf(G:cX K c b a):cN (cz P w) P w K c b "_law_view" 6 ["_law_script","_law_town","_law_most"] (cn K (ql a)) :=
 cU (k:=5) (pin:=[1]) G.yaI P_ rfl (λ_ _ _ _ _ _ h i=>Pu.RD (λ_ _ _=>rfl) h i) (λf j A g s H E d=>by exact
  (aQ (cQ 3 P_.nd (bQ dR dP aC ((bx (kt G) (d.mono (by decide)) bU (aI (am 0) (eQ 1 (aI aC bw))))).de))
  (aQ (cQ 4 P_.nd ((bx (JW G) (d.mono (by decide)) bU (aI (am 0) (eQ 1 (aI (am 3) (aI (bQ nq nr (bQ dR dP (am 3) (am 2)) aC) bw)))))).de)
  (aQ (cQ 5 P_.nd (wl xG wF G.yaT vY (ay ((bx (yQ G) (d.mono (by decide)) bU (aI (am 4) (aI (am 3) bw)))).de aM)).de)
  (aQ (j5 (iR 6 i9 rfl P_.nd (mi G.yaU (ay ((bx (mM G) (d.mono (by decide)) im (aI (am 0) (eQ 1 (aI (jL (ay aC (ay aC (ay aC (ay aC (ay aC aM)))))) bw))))).de aM)) (aQ (cQ 7 P_.nd ((bx (kt G) (d.mono (by decide)) im (aI (am 0) (eQ 1 (aI (bQ dR dP (bP dJ dO G.yaS dI (ay (am 5) aM)) aC) bw))))).de)
  (aQ (cQ 8 P_.nd (ff []))
  (aQ (iR 9 i9 rfl P_.nd (mi G.yaU (ay (am 3) aM)) (bb (cQ 8 P_.nd (bQ dR dP (am 8) (b7 b9 ca (ff [97,98,99]) ((bx (kt G) (d.mono (by decide)) im (aI (am 0) (eQ 1 (aI aC bw))))).de)))))
  (bb (cQ 5 P_.nd (bQ dR dP (bQ dR dP (dA eE d8 (am 5) dQ (cT (am 7))) ((bx (mM G) (d.mono (by decide)) im (aI (am 0) (eQ 1 (aI (jL (ay (jL (ay (am 8) aM)) (ay (jL aM) (ay (bQ dR dP (jL (ay (am 8) aM)) (dA eE d8 (am 5) (cT (am 7)) (cT (bQ dR dP (am 7) aC)))) aM)))) bw))))).de) (dA eE d8 (am 5) (cT (bQ dR dP (am 7) aC)) dQ)))))))))
  (aQ (cQ 5 P_.nd (dA eE d8 (am 5) dQ (cT (am 2))))
  (aQ (c0 (cG (fA d.units) fq (am 5) (jL aM) rfl) (bb (cQ 5 P_.nd (jL (ay (bQ qH qy (ff [99]) (am 3)) aM)))) cZ)
  (bb (cm (hZ (ay (am 3) (ay (xH xk xp G.yaY j6 (ay (C4 yU ze G.yaW tR (ay (am 5) aM)).de aM)) aM))))))))))))
def yaD(a:Ad):ac->R aK:=aW (d2 gv (dL aS (ao (dF (bI [1] (aR (dV 0)) (dB (d2 (eqT aj) (be bD (dV 0) (bj) (aY (d1 dq (dC (.int 1))))) (dV 1))) (dC (.int 1)))) (ar))) (dL aS (ao (dF (bI [1] (aR (dV 0)) (dB (d2 (eqT aj) (be bD (dV 0) (aY (dC (.int 1))) (bj)) (dV 1))) (dC (.int 1)))) (ar))))
def jD(a:Ad):ac->R Slot:=bL 2 [] (bJ 0 (yaD a))
theorem MC:cC ["_law_windows","_law_piece"] ["_law_windows","_law_piece"] (a8 tf):=by ac_nf
theorem xM(G:cX K c b a):cN (cz P w) P w K c b "_law_more" 1 ["_law_windows","_law_piece"] (cn K (jD a)) :=
 cU (k:=0) (pin:=[]) G.yaD MC rfl (λ_ _ _ _ _ _ m n=>Pu.Rs (λ_ _=>rfl) m n) (λf o A i s H E l=>by exact
  (bb (cm (bQ nq nr (bP dJ dO G.yaS dI (ay (fY (cap:=[1]) (N':=["_law_one","_law_piece"]) (h8.of ["_law_windows","_law_piece"] (a8 tf) rfl rfl (by decide +kernel)) rfl (d9 (am 0)) (λC d g j h=>by exact kD (cG (fA l.units) fq (dA eE d8 (am 0) dQ (cT (iV iP iX aC))) (am 1) rfl)) (λC d g j h=>by exact aC)).de aM)) (bP dJ dO G.yaS dI (ay (fY (cap:=[1]) (N':=["_law_one","_law_piece"]) (h8.of ["_law_windows","_law_piece"] (a8 tf) rfl rfl (by decide +kernel)) rfl (d9 (am 0)) (λC d g j h=>by exact kD (cG (fA l.units) fq (dA eE d8 (am 0) (cT aC) dQ) (am 1) rfl)) (λC d g j h=>by exact aC)).de aM))))))
theorem LV:cC ["thing"] ["thing"] (a8 zi):=by ac_nf
theorem CZ(G:cX K c b a):cN (cz P w) P w K c b "is_whole_number" 1 ["thing"] (cn K (mh a)) :=
 cU (k:=0) (pin:=[]) G.yau LV rfl (λ_ _ _ _ _ _ g h=>Pu.RG (λ_=>rfl) g h) (λf j A d s H E i=>by exact
  (bb (cm (jM (bP gS gZ G.yaR g6 (ay (am 0) (ay (gW G.yaQ Ft) aM))) (jz (w6 (bP gS gZ G.yaR g6 (ay (am 0) (ay (gW G.yaO Ac) aM)))))))))
theorem P9:cC ["thing"] ["thing"] (a8 Bl):=by ac_nf
theorem LN(G:cX K c b a):cN (cz P w) P w K c b "is_width" 2 ["thing"] (cn K (q8 a)) :=
 cU (k:=1) (pin:=[]) G.yav P9 rfl (λ_ _ _ _ _ _ g i=>Pu.RG (λ_=>rfl) g i) (λf j A d s H E h=>by exact
  (bb (cm (jM ((bx (CZ G) (h.mono (by decide)) bU (aI (am 0) bw))).de (jz (QD lh lh eR eR aC (am 0) (Gm G.ya3)))))))
theorem J9:cC ["text","signs"] ["text","signs"] (a8 v3):=by ac_nf
theorem NW(G:cX K c b a):cN (cz P w) P w K c b "has_only" 1 ["text","signs"] (cn K (xy a)) :=
 cU (k:=0) (pin:=[]) G.yao J9 rfl (λ_ _ _ _ _ _ i l=>Pu.Rs (λ_ _=>rfl) i l) (λf o A h s H E n=>by exact
  (bb (cm (bP (ug rfl) uz G.yaM uv (ay (fY (cap:=[1]) (N':=["sign","signs"]) (h8.of ["text","signs"] (a8 v3) rfl rfl (by decide +kernel)) rfl (d9 (am 0)) (λC d g m j=>by exact hU) (λC d g m j=>by exact(gx uc sy (am 0) (am 1) rfl))).de aM)))))
theorem Ke:cC ["thing","width","signs"] ["thing","width","signs"] (a8 AF):=by ac_nf
theorem Ly(G:cX K c b a):cN (cz P w) P w K c b "is_window" 2 ["thing","width","signs"] (cn K (qR a)) :=
 cU (k:=1) (pin:=[]) G.yaw Ke rfl (λ_ _ _ _ _ _ h i=>Pu.RD (λ_ _ _=>rfl) h i) (λf j A d s H E g=>by exact
  (bb (cm (jM (bP gS gZ G.yaR g6 (ay (am 0) (ay (gW G.yaX tz) aM))) (jM (gx (fA g.units) fq (bP dJ dO G.yaS dI (ay (am 0) aM)) (am 1) rfl) (jz ((bx (NW G) (g.mono (by decide)) bU (aI (am 0) (aI (am 2) bw)))).de))))))
theorem Pb:cC ["thing","width","signs"] ["thing","width","signs"] (a8 v5):=by ac_nf
theorem Mq(G:cX K c b a):cN (cz P w) P w K c b "are_windows" 3 ["thing","width","signs"] (cn K (nM a)) :=
 cU (k:=2) (pin:=[]) G.yag Pb rfl (λ_ _ _ _ _ _ j m=>Pu.RD (λ_ _ _=>rfl) j m) (λf o A h s H E i=>by exact
  (aQ (c0 ((gB (fG (fN (bP gS gZ G.yaR g6 (ay (am 0) (ay (gW G.yaY j6) aM))))) (jh (fG (sQ lh lh eR eR aC (bP dJ dO G.yaS dI (ay (am 0) aM)) (Gm G.ya2)))))).dt (bb (cm f_)) cZ)
  (aQ (c0 (fG (fN (bP (ug rfl) uz G.yaM uv (ay (fY (cap:=[1,2]) (N':=["window","width","signs"]) (h8.of ["thing","width","signs"] (a8 v5) rfl rfl (by decide +kernel)) rfl (d9 (am 0)) (λC d g n l=>by exact hU) (λC d g n l=>by exact((bx (Ly G) (i.mono (by decide)) im (aI (am 0) (aI (am 1) (aI (am 2) bw))))).de)).de aM)))) (bb (cm f_)) cZ)
  (bb (cm (gx (fA i.units) fq (wl xG wF G.yaT vY (ay (am 0) aM)).de (C4 yU ze G.yaW tR (ay (am 0) aM)).de rfl))))))
theorem IH:cC ["thing","signs"] ["thing","signs"] (a8 Ax):=by ac_nf
theorem Kf(G:cX K c b a):cN (cz P w) P w K c b "is_view_with" 4 ["thing","signs"] (cn K (qL a)) :=
 cU (k:=3) (pin:=[]) G.yat IH rfl (λ_ _ _ _ _ _ h i=>Pu.Rs (λ_ _=>rfl) h i) (λf j A d s H E g=>by exact
  (aQ (c0 ((gB (fG (fN (bP gS gZ G.yaR g6 (ay (am 0) (ay (gW G.yaY j6) aM))))) (jh (cG (jC g.units) jK (bP dJ dO G.yaS dI (ay (am 0) aM)) aC rfl)))).dt (bb (cm f_)) cZ)
  (bb (cm (jM ((bx (LN G) (g.mono (by decide)) bU (aI (b7 b9 ca (am 0) aC) bw))).de (jz ((bx (Mq G) (g.mono (by decide)) bU (aI (b7 b9 ca (am 0) aC) (aI (b7 b9 ca (am 0) aC) (aI (am 1) bw))))).de))))))
theorem JF:cC ["thing"] ["thing"] (a8 Aa):=by ac_nf
theorem O9(G:cX K c b a):cN (cz P w) P w K c b "is_view" 5 ["thing"] (cn K (wK a)) :=
 cU (k:=4) (pin:=[]) G.yas JF rfl (λ_ _ _ _ _ _ g i=>Pu.RG (λ_=>rfl) g i) (λf j A d s H E h=>by exact
  (bb (qo (bx (Kf G) (h.mono (by decide)) bU (aI (am 0) (aI (GC G.ya1) bw))))))
theorem QZ:cC ["thing"] ["thing"] (a8 Bm):=by ac_nf
theorem xm(G:cX K c b a):cN (cz P w) P w K c b "check_view" 6 ["thing"] (cn K (lr a)) :=
 cU (k:=5) (pin:=[]) G.yak QZ rfl (λ_ _ _ _ _ _ g i=>Pu.RG (λ_=>rfl) g i) (λf j A d s H E h=>by exact
  (bb (c0 (fG (fN ((bx (O9 G) (h.mono (by decide)) bU (aI (am 0) bw))).de)) (bb (NI JO rfl G.ya0 PySem.F.excBase_ValueError (ff [97,32,118,105,101,119,32,105,115,32,97,32,116,117,112,108,101,32,111,102,32,97,32,119,105,100,116,104,32,97,110,100,32,97,32,114,105,115,105,110,103,32,116,117,112,108,101,32,111,102,32,49,32,116,111,32,57,32,119,105,110,100,111,119,115]))) cZ)))
theorem L8:cC ["windows","excess","window"] ["windows"] (a8 yL):=by ac_nf
theorem As(G:cX K c b a):cN (cz P w) P w K c b "excesses" 1 ["windows"] (cn K (li a)) :=
 cU (k:=0) (pin:=[]) G.yam L8 rfl (λ_ _ _ _ _ _ h i=>Pu.RG (λ_=>rfl) h i) (λf j A g s H E d=>by exact
  (aQ (kI 1 L8.nd (C6))
  (aQ (j5 (iR 2 i9 rfl L8.nd (d9 (am 0)) (aQ (pE 1 d.units (dA eE d8 (am 2) dQ (cT (iV iP iX aC))) (bQ dR dP (wZ 1 d.units (dA eE d8 (am 2) dQ (cT (iV iP iX aC))) aC) aC))
  (bb (pE 1 d.units (dA eE d8 (am 2) (cT aC) dQ) (bQ nq nr (wZ 1 d.units (dA eE d8 (am 2) (cT aC) dQ) aC) aC))))))
  (bb (wL 1)))))
def yah(a:Ad):ac->R aK:=aw (jQ (aB (lr a) (gV (dV 0) (br))))
 (aw (dS 1 (gH (aB (li a) (gV (d2 aF (dV 0) (dC (.int 1))) (br)))))
 (oK (bI [1] (aR (dF (jP 1))) (dB (d2 (eqT ae) (fz 1 (dV 0)) (dC (.int 0)))) (dL cx (ao (dV 0) (ao (fz 1 (dV 0)) (ar)))))))
def su(a:Ad):ac->R Slot:=bL 1 [] (bJ 1 (yah a))
theorem Q0:cC ["view","excess"] ["view"] (a8 vt):=by ac_nf
theorem Nn(G:cX K c b a):cN (cz P w) P w K c b "balance" 7 ["view"] (cn K (su a)) :=
 cU (k:=6) (pin:=[]) G.yah Q0 rfl (λ_ _ _ _ _ _ j m=>Pu.RG (λ_=>rfl) j m) (λf o A i s H E g=>by exact
  (aQ (qm (bx (xm G) (g.mono (by decide)) bU (aI (am 0) bw)))
  (aQ (kI 1 Q0.nd (((bx (As G) (g.mono (by decide)) bU (aI (b7 b9 ca (am 0) aC) bw))).dn))
  (bb (Em (fY (cap:=[1]) (N':=["piece","excess"]) (h8.of ["view","excess"] (a8 vt) rfl rfl (by decide +kernel)) rfl (d9 (Ey 1 rfl G.yaW).de) (λC d h n l=>by exact kD (cG (jC g.units) jK (qC 1 g.units (am 0)) aC rfl)) (λC d h n l=>by exact(hZ (ay (am 0) (ay (qC 1 g.units (am 0)) aM))))))))))
def yaJ(a:Ad):ac->R aK:=aw (aT 3 (aL (aB (nB a) (gV (dV 0) (gV (dV 1) (br))))))
 (aW (dL lC (ao (dF (bI [3,2] (aR (dV 3)) (bV) (d2 (bt λi j=>decide (i<=j)) (qt o0 (dV 1) (dV 0)) (qt o0 (dV 2) (dV 0))))) (ar))))
def mO(a:Ad):ac->R Slot:=bL 3 [] (bJ 1 (yaJ a))
theorem Pa:cC ["_law_text_here","_law_width","_law_windows","_law_made"] ["_law_text_here","_law_width","_law_windows"] (a8 xO):=by ac_nf
theorem Nj(G:cX K c b a):cN (cz P w) P w K c b "_law_within" 2 ["_law_text_here","_law_width","_law_windows"] (cn K (mO a)) :=
 cU (k:=1) (pin:=[]) G.yaJ Pa rfl (λ_ _ _ _ _ _ i m=>Pu.RD (λ_ _ _=>rfl) i m) (λf o A h s H E l=>by exact
  (aQ (cQ 3 Pa.nd ((bx (yQ G) (l.mono (by decide)) bU (aI (am 0) (aI (am 1) bw)))).de)
  (bb (cm (bP (ug rfl) uz G.yaM uv (ay (fY (cap:=[3,2]) (N':=["_law_window","_law_made","_law_windows"]) (h8.of ["_law_text_here","_law_width","_law_windows","_law_made"] (a8 xO) rfl rfl (by decide +kernel)) rfl (d9 (am 3)) (λC d g n j=>by exact hU) (λC d g n j=>by exact(gx lh eR (E2 (am 1) (am 0)) (E2 (am 2) (am 0)) rfl))).de aM))))))
def yay(a:Ad):ac->R aK:=aw (kG 1 2 (dV 0))
 (aw (aT 3 (d2 gv (d2 aZ (dL aS (ao (dV 2) (ar))) (dV 1)) (dC (.int 1))))
 (aw (aT 4 (dF (dL cH (ao (dC (.str [])) (ar)))))
 (aw (λε=>dr (cj 5 (dL fc (ao (dV 3) (ar))) (aw (dS 6 (dL cH (ar)))
 (aw (cj 7 (aR (dV 4)) (cj 8 (aR (dC (.str [97,98,99]))) (aV (dB (aL (aB (mO a) (gV (d2 aZ (dV 7) (dV 8)) (gV (dV 1) (gV (dV 2) (br))))))) (iu 6 (d2 aZ (dV 7) (dV 8))) (bh))))
 (aT 4 (dM 6)))) ε))
 (oK (bI [1,2] (aR (dV 4)) (dB (d2 (eqT aj) (aL (aB (nB a) (gV (dV 0) (gV (dV 1) (br))))) (dV 2))) (dV 0))))))
def s_(a:Ad):ac->R Slot:=bL 1 [] (bJ 8 (yay a))
theorem KW:cC ["_law_asked","_law_width","_law_windows","_law_long","_law_rows","_law_k","_law_longer","_law_line","_law_letter"] ["_law_asked"] (a8 vD):=by ac_nf
theorem Kr(G:cX K c b a):cN (cz P w) P w K c b "_law_all" 3 ["_law_asked"] (cn K (s_ a)) :=
 cU (k:=2) (pin:=[]) G.yay KW rfl (λ_ _ _ _ _ _ j m=>Pu.RG (λ_=>rfl) j m) (λf o A h s H E i=>by exact
  (aQ (A9 1 2 rfl KW.nd (am 0))
  (aQ (cQ 3 KW.nd (bQ nq nr (bQ dR dP (bP dJ dO G.yaS dI (ay (am 2) aM)) (am 1)) aC))
  (aQ (cQ 4 KW.nd (jL (ay (ff []) aM)))
  (aQ (j5 (iR 5 i9 rfl KW.nd (mi G.yaU (ay (am 3) aM)) (aQ (kI 6 KW.nd (qu aM))
  (aQ (iR 7 i9 rfl KW.nd (d9 (am 4)) (bb (iR 8 i9 rfl KW.nd (d9 (ff [97,98,99])) (bb (c0 (fN ((bx (Nj G) (i.mono (by decide)) im (aI (bQ dR dP (am 7) (am 8)) (aI (am 1) (aI (am 2) bw))))).de) (bb (tU 6 (bQ dR dP (am 7) (am 8)))) cZ)))))
  (bb (cQ 4 KW.nd (G2 6)))))))
  (bb (Em (fY (cap:=[1,2]) (N':=["_law_line","_law_width","_law_windows"]) (h8.of ["_law_asked","_law_width","_law_windows","_law_long","_law_rows","_law_k","_law_longer","_law_line","_law_letter"] (a8 vD) rfl rfl (by decide +kernel)) rfl (d9 (am 4)) (λC d g n l=>by exact kD (cG (fA i.units) fq ((bx (yQ G) (i.mono (by decide)) im (aI (am 0) (aI (am 1) bw)))).de (am 2) rfl)) (λC d g n l=>by exact(am 0))))))))))
theorem Qo:cC ["windows","reached","known","window"] ["windows"] (a8 y8):=by ac_nf
theorem Pe(G:cX K c b a):cN (cz P w) P w K c b "reached_pieces" 1 ["windows"] (cn K (nQ a)) :=
 cU (k:=0) (pin:=[]) G.yaK Qo rfl (λ_ _ _ _ _ _ h i=>Pu.RG (λ_=>rfl) h i) (λf j A g s H E d=>by exact
  (aQ (kI 1 Qo.nd (Lr (dA eE d8 (b7 b9 ca (am 0) aC) dQ (cT (iV iP iX aC))) f_))
  (aQ (cQ 2 Qo.nd aC)
  (aQ (j5 (MK (λ_=>1000) i9 (cG nU eR (am 2) (Gi 1 G.yaS) rfl) (aQ (cQ 2 Qo.nd (Gi 1 G.yaS))
  (bb (iR 3 i9 rfl Qo.nd (d9 (am 0)) (bb (c0 ((gB (zR 1 d.units (dA eE d8 (am 3) dQ (cT (iV iP iX aC)))) (jh (zR 1 d.units (dA eE d8 (am 3) (cT aC) dQ))))).dt (aQ (pE 1 d.units (dA eE d8 (am 3) dQ (cT (iV iP iX aC))) f_)
  (bb (pE 1 d.units (dA eE d8 (am 3) (cT aC) dQ) f_))) cZ)))))))
  (bb (wL 1))))))
theorem ON:cC ["windows","excess","starts","reached","places"] ["windows"] (a8 tF):=by ac_nf
theorem Oq(G:cX K c b a):cN (cz P w) P w K c b "find_bar" 2 ["windows"] (cn K (sS a)) :=
 cU (k:=1) (pin:=[]) G.yan ON rfl (λ_ _ _ _ _ _ n o=>Pu.RG (λ_=>rfl) n o) (λf p A l s H E h=>by exact
  (aQ (kI 1 ON.nd (((bx (As G) (h.mono (by decide)) bU (aI (am 0) bw))).dn))
  (aQ (vA 2 ON.nd (cap:=[1]) (N':=["piece","excess"]) (h8.of ["windows","excess","starts","reached","places"] (a8 tF) rfl rfl (by decide +kernel)) rfl (d9 (Ey 1 rfl G.yaW).de) (λC d g m i=>by exact kD (cG nA eR (qC 1 h.units (am 0)) aC rfl)) (λC d g m i=>by exact(am 0)))
  (aQ (c0 (cG nA eR (bP dJ dO G.yaS dI (ay (am 2) aM)) aC rfl) (bb (cm (hZ (ay (ff [116,119,111]) (ay (b7 b9 ca (am 2) aC) (ay (b7 b9 ca (am 2) aC) aM)))))) cZ)
  (aQ (c0 ((tm (cG (fA h.units) fq (bP dJ dO G.yaS dI (ay (am 2) aM)) aC rfl) (vy (cG nA eR (qC 1 h.units (b7 b9 ca (am 2) aC)) aC rfl)))).dt (bb (cm (hZ (ay (ff [109,111,114,101]) (ay (b7 b9 ca (am 2) aC) aM))))) cZ)
  (aQ (kI 3 ON.nd (((bx (Pe G) (h.mono (by decide)) bU (aI (am 0) bw))).dn))
  (aQ (Qi 4 ON.nd (cap:=[3]) (j:=5) (N':=["place","window","reached"]) (h8.of ["windows","excess","starts","reached","places"] (a8 tF) rfl rfl (by decide +kernel)) rfl (FH G.yaP (ay (am 0) aM)) (λC d g m i=>by exact kD (zR 2 h.units (dA eE d8 (am 1) dQ (cT (iV iP iX aC))))) (λC d g m i=>by exact(am 0)))
  (aQ (c0 (cG nU eR (bP dJ dO G.yaS dI (ay (am 4) aM)) (bP dJ dO G.yaS dI (ay (am 0) aM)) rfl) (bb (cm (hZ (ay (ff [97,112,97,114,116]) (ay (xH xk xp G.yaY j6 (ay (am 4) aM)) aM))))) cZ)
  (bb (cm vx))))))))))
theorem NV:cC ["view"] ["view"] (a8 Bj):=by ac_nf
theorem Ow(G:cX K c b a):cN (cz P w) P w K c b "bar" 7 ["view"] (cn K (sJ a)) :=
 cU (k:=6) (pin:=[]) G.yai NV rfl (λ_ _ _ _ _ _ h i=>Pu.RG (λ_=>rfl) h i) (λf j A d s H E g=>by exact
  (aQ (qm (bx (xm G) (g.mono (by decide)) bU (aI (am 0) bw)))
  (bb (qo (bx (Oq G) (g.mono (by decide)) bU (aI (b7 b9 ca (am 0) aC) bw))))))
def yaB(a:Ad):ac->R aK:=aw (kG 2 3 (dV 0))
 (aw (aV (cq (bZ (dB (dL cb (ao (dV 1) (ao (dC (.raw (.ty "tuple"))) (ar)))))) (cq (dB (d2 (eqT aj) (dV 1) (dL cx (ar)))) (bZ (dB (dL cb (ao (d2 aF (dV 1) (dC (.int 0))) (ao (dC (.raw (.ty "str"))) (ar)))))))) (aW (dC (.bl aj))) (bh))
 (aw (aV (dB (d2 (eqT aj) (d2 aF (dV 1) (dC (.int 0))) (dC (.str [97,112,97,114,116])))) (aw (aV (cq (dB (d2 (eqT ae) (dL aS (ao (dV 1) (ar))) (dC (.int 2)))) (cq (bZ (dB (dL cb (ao (d2 aF (dV 1) (dC (.int 1))) (ao (dC (.raw (.ty "tuple"))) (ar)))))) (bZ (dB (gD (bt λi j=>decide (i<j)) (bt λi j=>decide (i<j)) (dC (.int 0)) (dL aS (ao (d2 aF (dV 1) (dC (.int 1))) (ar))) (dL aS (ao (dV 3) (ar)))))))) (aW (dC (.bl aj))) (bh))
 (aw (λd=>dr (cj 4 (aR (d2 aF (dV 1) (dC (.int 1)))) (aV (cq (bZ (dB (dL cb (ao (dV 4) (ao (dC (.raw (.ty "int"))) (ar)))))) (cq (dB (dL cb (ao (dV 4) (ao (dC (.raw (.ty "bool"))) (ar))))) (bZ (dB (gD (bt λi j=>decide (i<=j)) (bt λi j=>decide (i<j)) (dC (.int 0)) (dV 4) (dL aS (ao (dV 3) (ar)))))))) (aW (dC (.bl aj))) (bh)) d))
 (aw (aT 5 (dF (bI [3] (aR (d2 aF (dV 1) (dC (.int 1)))) (bV) (d2 aF (dV 1) (dV 0)))))
 (aw (aT 6 (dF (bI [3,1] (dL fc (ao (dL aS (ao (dV 3) (ar))) (ar))) (dB (d2 (dG ae) (dV 0) (d2 aF (dV 2) (dC (.int 1))))) (d2 aF (dV 1) (dV 0)))))
 (aw (aT 7 (d2 aZ (dF (bI [] (aR (dV 6)) (bV) (be bD (dV 0) (bj) (aY (d1 dq (dC (.int 1))))))) (dF (bI [] (aR (dV 6)) (bV) (be bD (dV 0) (aY (dC (.int 1))) (bj))))))
 (aw (aV (bZ (dB (dL lC (ao (dF (iz [] (qw (ao (d2 aF (dV 1) (dC (.int 1))) (ao (be bD (d2 aF (dV 1) (dC (.int 1))) (aY (dC (.int 1))) (bj)) (ar)))) (bV) (d2 (bt λi j=>decide (i<j)) (dV 0) (dV 1)))) (ar))))) (aW (dC (.bl aj))) (bh))
 (aW (jo (dL mJ (ao (dF (bI [7] (aR (dV 5)) (bV) (jJ (d2 (dG aj) (be bD (dV 0) (bj) (aY (d1 dq (dC (.int 1))))) (dV 1)) (d2 (dG aj) (be bD (dV 0) (aY (dC (.int 1))) (bj)) (dV 1))))) (ar))))))))))) (bh))
 (aw (λd=>dr (cj 8 (aR (be bD (dV 1) (aY (dC (.int 1))) (bj))) (aV (cq (bZ (dB (dL cb (ao (dV 8) (ao (dC (.raw (.ty "str"))) (ar)))))) (dB (d2 (eqT ae) (dL aS (ao (dV 8) (ar))) (d2 gv (dV 2) (dC (.int 1)))))) (aW (dC (.bl aj))) (bh)) d))
 (aw (aV (dB (d2 (eqT aj) (d2 aF (dV 1) (dC (.int 0))) (dC (.str [109,111,114,101])))) (aW (eU (d2 (eqT aj) (dL aS (ao (dV 1) (ar))) (dC (.int 2))) (d2 (bt λi j=>decide (j<i)) (aL (aB (jD a) (gV (dV 3) (gV (d2 aF (dV 1) (dC (.int 1))) (br))))) (dC (.int 1))))) (bh))
 (aw (aV (cq (dB (d2 (eqT ae) (d2 aF (dV 1) (dC (.int 0))) (dC (.str [116,119,111])))) (cq (dB (d2 (eqT ae) (dL aS (ao (dV 1) (ar))) (dC (.int 3)))) (dB (d2 (eqT aj) (d2 aF (dV 1) (dC (.int 1))) (d2 aF (dV 1) (dC (.int 2))))))) (aW (dC (.bl aj))) (bh))
 (aW (eU (d2 (bt λi j=>decide (j<i)) (aL (aB (jD a) (gV (dV 3) (gV (d2 aF (dV 1) (dC (.int 1))) (br))))) (dC (.int 0))) (d2 (bt λi j=>decide (j<i)) (aL (aB (jD a) (gV (dV 3) (gV (d2 aF (dV 1) (dC (.int 2))) (br))))) (dC (.int 0))))))))))
def nD(a:Ad):ac->R Slot:=bL 2 [] (bJ 7 (yaB a))
theorem IV:cC ["_law_some","_law_thing","_law_width","_law_windows","_law_place","_law_mine","_law_theirs","_law_known","_law_piece"] ["_law_some","_law_thing"] (a8 mF):=by ac_nf
theorem Hd(G:cX K c b a):cN (cz P w) P w K c b "_law_is_bar" 2 ["_law_some","_law_thing"] (cn K (nD a)) :=
 cU (k:=1) (pin:=[]) G.yaB IV rfl (λ_ _ _ _ _ _ n o=>Pu.Rs (λ_ _=>rfl) n o) (λf p A m s H E h=>by exact
  (aQ (A9 2 3 rfl IV.nd (am 0))
  (aQ (c0 ((gB (fG (fN (bP gS gZ G.yaR g6 (ay (am 1) (ay (gW G.yaY j6) aM))))) (gB (cG (fA h.units) fq (am 1) (hZ aM) rfl) (jh (fG (fN (bP gS gZ G.yaR g6 (ay (b7 b9 ca (am 1) aC) (ay (gW G.yaX tz) aM))))))))).dt (bb (cm f_)) cZ)
  (aQ (c0 (cG (fA h.units) fq (b7 b9 ca (am 1) aC) (ff [97,112,97,114,116]) rfl) (aQ (c0 ((gB (cG (jC h.units) jK (bP dJ dO G.yaS dI (ay (am 1) aM)) aC rfl) (gB (fG (fN (bP gS gZ G.yaR g6 (ay (b7 b9 ca (am 1) aC) (ay (gW G.yaY j6) aM))))) (jh (fG (sQ nU nU eR eR aC (bP dJ dO G.yaS dI (ay (b7 b9 ca (am 1) aC) aM)) (bP dJ dO G.yaS dI (ay (am 3) aM)))))))).dt (bb (cm f_)) cZ)
  (aQ (j5 (iR 4 i9 rfl IV.nd (d9 (b7 b9 ca (am 1) aC)) (bb (c0 ((gB (fG (fN (bP gS gZ G.yaR g6 (ay (am 4) (ay (gW G.yaQ Ft) aM))))) (gB (fN (bP gS gZ G.yaR g6 (ay (am 4) (ay (gW G.yaO Ac) aM)))) (jh (fG (sQ lh nU eR eR aC (am 4) (bP dJ dO G.yaS dI (ay (am 3) aM)))))))).dt (bb (cm f_)) cZ))))
  (aQ (vA 5 IV.nd (cap:=[3]) (N':=["_law_place","_law_windows"]) (h8.of ["_law_some","_law_thing","_law_width","_law_windows","_law_place","_law_mine","_law_theirs","_law_known","_law_piece"] (a8 mF) rfl rfl (by decide +kernel)) rfl (d9 (b7 b9 ca (am 1) aC)) (λC d g l i=>by exact hU) (λC d g l i=>by exact(b7 b9 ca (am 1) (am 0))))
  (aQ (vA 6 IV.nd (cap:=[3,1]) (N':=["_law_place","_law_windows","_law_thing"]) (h8.of ["_law_some","_law_thing","_law_width","_law_windows","_law_place","_law_mine","_law_theirs","_law_known","_law_piece"] (a8 mF) rfl rfl (by decide +kernel)) rfl (mi G.yaU (ay (bP dJ dO G.yaS dI (ay (am 3) aM)) aM)) (λC d g l i=>by exact kD (cG D_ GK (am 0) (b7 b9 ca (am 2) aC) rfl)) (λC d g l i=>by exact(b7 b9 ca (am 1) (am 0))))
  (aQ (cQ 7 IV.nd (bQ dR dP (fY (cap:=[]) (N':=["_law_one"]) (h8.of ["_law_some","_law_thing","_law_width","_law_windows","_law_place","_law_mine","_law_theirs","_law_known","_law_piece"] (a8 mF) rfl rfl (by decide +kernel)) rfl (d9 (am 6)) (λC d g l i=>by exact hU) (λC d g l i=>by exact(dA eE d8 (am 0) dQ (cT (iV iP iX aC))))).de (fY (cap:=[]) (N':=["_law_one"]) (h8.of ["_law_some","_law_thing","_law_width","_law_windows","_law_place","_law_mine","_law_theirs","_law_known","_law_piece"] (a8 mF) rfl rfl (by decide +kernel)) rfl (d9 (am 6)) (λC d g l i=>by exact hU) (λC d g l i=>by exact(dA eE d8 (am 0) (cT aC) dQ))).de))
  (aQ (c0 (fG (fN (bP (ug rfl) uz G.yaM uv (ay (Fp (cap:=[]) (j:=9) (N':=["_law_one","_law_other"]) (h8.of ["_law_some","_law_thing","_law_width","_law_windows","_law_place","_law_mine","_law_theirs","_law_known","_law_piece"] (a8 mF) rfl rfl (by decide +kernel)) rfl (Po G.yaZ (ay (b7 b9 ca (am 1) aC) (ay (dA eE d8 (b7 b9 ca (am 1) aC) (cT aC) dQ) aM))) (λC d g l i=>by exact hU) (λC d g l i=>by exact(gx nU eR (am 0) (am 1) rfl))).de aM)))) (bb (cm f_)) cZ)
  (bb (cm (w6 (bP (Cq rfl) Fx G.yaN Ab (ay (fY (cap:=[7]) (N':=["_law_one","_law_known"]) (h8.of ["_law_some","_law_thing","_law_width","_law_windows","_law_place","_law_mine","_law_theirs","_law_known","_law_piece"] (a8 mF) rfl rfl (by decide +kernel)) rfl (d9 (am 5)) (λC d g l i=>by exact hU) (λC d g l i=>by exact(EQ (gx uc sy (dA eE d8 (am 0) dQ (cT (iV iP iX aC))) (am 1) rfl) (jz (gx uc sy (dA eE d8 (am 0) (cT aC) dQ) (am 1) rfl))))).de aM))))))))))) cZ)
  (aQ (j5 (iR 8 i9 rfl IV.nd (d9 (dA eE d8 (am 1) (cT aC) dQ)) (bb (c0 ((gB (fG (fN (bP gS gZ G.yaR g6 (ay (am 8) (ay (gW G.yaX tz) aM))))) (jh (cG (jC h.units) jK (bP dJ dO G.yaS dI (ay (am 8) aM)) (bQ nq nr (am 2) aC) rfl)))).dt (bb (cm f_)) cZ))))
  (aQ (c0 (cG (fA h.units) fq (b7 b9 ca (am 1) aC) (ff [109,111,114,101]) rfl) (bb (cm (jM (gx (fA h.units) fq (bP dJ dO G.yaS dI (ay (am 1) aM)) aC rfl) (jz (gx nA eR ((bx (xM G) (h.mono (by decide)) bU (aI (am 3) (aI (b7 b9 ca (am 1) aC) bw)))).de aC rfl))))) cZ)
  (aQ (c0 ((gB (cG (jC h.units) jK (b7 b9 ca (am 1) aC) (ff [116,119,111]) rfl) (gB (cG (jC h.units) jK (bP dJ dO G.yaS dI (ay (am 1) aM)) aC rfl) (jh (cG (fA h.units) fq (b7 b9 ca (am 1) aC) (b7 b9 ca (am 1) aC) rfl))))).dt (bb (cm f_)) cZ)
  (bb (cm (jM (gx nA eR ((bx (xM G) (h.mono (by decide)) bU (aI (am 3) (aI (b7 b9 ca (am 1) aC) bw)))).de aC rfl) (jz (gx nA eR ((bx (xM G) (h.mono (by decide)) bU (aI (am 3) (aI (b7 b9 ca (am 1) aC) bw)))).de aC rfl))))))))))))
def yaj(a:Ad):ac->R aK:=aW (eU (dL cb (ao (dV 0) (ao (dC (.raw (.ty "str"))) (ar)))) (d2 (bt λi j=>decide (j<=i)) (wf (gH (aB (li a) (gV (dV 1) (br)))) (dV 0) (dC (.int 0))) (dV 2)))
def mz(a:Ad):ac->R Slot:=bL 3 [] (bJ 0 (yaj a))
theorem NA:cC ["piece","windows","least"] ["piece","windows","least"] (a8 zG):=by ac_nf
theorem yV(G:cX K c b a):cN (cz P w) P w K c b "begins_more" 2 ["piece","windows","least"] (cn K (mz a)) :=
 cU (k:=1) (pin:=[]) G.yaj NA rfl (λ_ _ _ _ _ _ h i=>Pu.RD (λ_ _ _=>rfl) h i) (λf j A d s H E g=>by exact
  (bb (cm (jM (bP gS gZ G.yaR g6 (ay (am 0) (ay (gW G.yaX tz) aM))) (jz (gx Ng eR (Kt g.units (((bx (As G) (g.mono (by decide)) bU (aI (am 1) bw))).dn) (am 0) aC) (am 2) rfl))))))
def yaf(a:Ad):ac->R aK:=aW (eU (aL (aB (mz a) (gV (dV 0) (gV (dV 2) (gV (dC (.int 1)) (br)))))) (eU (aL (aB (mz a) (gV (dV 1) (gV (dV 2) (gV (dC (.int 1)) (br)))))) (d2 (eqT ae) (dV 0) (dV 1))))
def t8(a:Ad):ac->R Slot:=bL 3 [] (bJ 0 (yaf a))
theorem OH:cC ["one","other","windows"] ["one","other","windows"] (a8 zv):=by ac_nf
theorem Ob(G:cX K c b a):cN (cz P w) P w K c b "are_unlike_starts" 3 ["one","other","windows"] (cn K (t8 a)) :=
 cU (k:=2) (pin:=[]) G.yaf OH rfl (λ_ _ _ _ _ _ h i=>Pu.RD (λ_ _ _=>rfl) h i) (λf j A d s H E g=>by exact
  (bb (cm (jM ((bx (yV G) (g.mono (by decide)) bU (aI (am 0) (aI (am 2) (aI aC bw))))).de (jM ((bx (yV G) (g.mono (by decide)) bU (aI (am 1) (aI (am 2) (aI aC bw))))).de (jz (gx (jC g.units) jK (am 0) (am 1) rfl)))))))
def yae(a:Ad):ac->R aK:=aw (aV (cq (bZ (dB (dL cb (ao (dV 0) (ao (dC (.raw (.ty "tuple"))) (ar)))))) (bZ (dB (gD (bt λi j=>decide (i<=j)) (bt λi j=>decide (i<j)) (dC (.int 1)) (dL aS (ao (dV 0) (ar))) (dV 1))))) (aW (dC (.bl aj))) (bh))
 (aw (aV (bZ (dB (dL lC (ao (dF (bI [] (aR (dV 0)) (bV) (aL (aB (mh a) (gV (dV 0) (br)))))) (ar))))) (aW (dC (.bl aj))) (bh))
 (aW (d2 (eqT aj) (dF (dL kF (ao (dV 0) (ar)))) (dF (bI [0] (dL fc (ao (dV 1) (ar))) (dB (d2 (dG aj) (dV 0) (dV 1))) (dV 0))))))
def q_(a:Ad):ac->R Slot:=bL 2 [] (bJ 0 (yae a))
theorem Lf:cC ["thing","count"] ["thing","count"] (a8 uw):=by ac_nf
theorem NY(G:cX K c b a):cN (cz P w) P w K c b "are_some_places" 2 ["thing","count"] (cn K (q_ a)) :=
 cU (k:=1) (pin:=[]) G.yae Lf rfl (λ_ _ _ _ _ _ m n=>Pu.Rs (λ_ _=>rfl) m n) (λf o A i s H E l=>by exact
  (aQ (c0 ((gB (fG (fN (bP gS gZ G.yaR g6 (ay (am 0) (ay (gW G.yaY j6) aM))))) (jh (fG (sQ lh nU eR eR aC (bP dJ dO G.yaS dI (ay (am 0) aM)) (am 1)))))).dt (bb (cm f_)) cZ)
  (aQ (c0 (fG (fN (bP (ug rfl) uz G.yaM uv (ay (fY (cap:=[]) (N':=["place"]) (h8.of ["thing","count"] (a8 uw) rfl rfl (by decide +kernel)) rfl (d9 (am 0)) (λC d g j h=>by exact hU) (λC d g j h=>by exact((bx (CZ G) (l.mono (by decide)) im (aI (am 0) bw))).de)).de aM)))) (bb (cm f_)) cZ)
  (bb (cm (gx (fA l.units) fq (wl xG wF G.yaT vY (ay (am 0) aM)).de (fY (cap:=[0]) (N':=["place","thing"]) (h8.of ["thing","count"] (a8 uw) rfl rfl (by decide +kernel)) rfl (mi G.yaU (ay (am 1) aM)) (λC d g j h=>by exact kD (cG uc sy (am 0) (am 1) rfl)) (λC d g j h=>by exact(am 0))).de rfl))))))
def yap(a:Ad):ac->R aK:=aW (d2 aZ (dF (bI [] (aR (dV 0)) (bV) (be bD (dV 0) (bj) (aY (d1 dq (dC (.int 1))))))) (dF (bI [] (aR (dV 0)) (bV) (be bD (dV 0) (aY (dC (.int 1))) (bj)))))
def ny(a:Ad):ac->R Slot:=bL 1 [] (bJ 0 (yap a))
theorem OA:cC ["windows"] ["windows"] (a8 uj):=by ac_nf
theorem GU(G:cX K c b a):cN (cz P w) P w K c b "heads_and_tails" 1 ["windows"] (cn K (ny a)) :=
 cU (k:=0) (pin:=[]) G.yap OA rfl (λ_ _ _ _ _ _ l m=>Pu.RG (λ_=>rfl) l m) (λf o A i s H E n=>by exact
  (bb (cm (bQ dR dP (fY (cap:=[]) (N':=["window"]) (h8.of ["windows"] (a8 uj) rfl rfl (by decide +kernel)) rfl (d9 (am 0)) (λC d g j h=>by exact hU) (λC d g j h=>by exact(dA eE d8 (am 0) dQ (cT (iV iP iX aC))))).de (fY (cap:=[]) (N':=["window"]) (h8.of ["windows"] (a8 uj) rfl rfl (by decide +kernel)) rfl (d9 (am 0)) (λC d g j h=>by exact hU) (λC d g j h=>by exact(dA eE d8 (am 0) (cT aC) dQ))).de))))
def yad(a:Ad):ac->R aK:=aw (aV (bZ (dB (aL (aB (q_ a) (gV (dV 0) (gV (dL aS (ao (dV 1) (ar))) (br))))))) (aW (dC (.bl aj))) (bh))
 (aw (aT 2 (aL (aB (ny a) (gV (dF (bI [1] (aR (dV 0)) (bV) (d2 aF (dV 1) (dV 0)))) (br)))))
 (aw (aT 3 (aL (aB (ny a) (gV (dF (iz [0] (mx (ao (dV 1) (ar))) (dB (d2 (dG ae) (dV 0) (dV 2))) (dV 1))) (br)))))
 (aW (jo (dL mJ (ao (dF (bI [3] (aR (dV 2)) (bV) (d2 (dG aj) (dV 0) (dV 1)))) (ar)))))))
def sK(a:Ad):ac->R Slot:=bL 2 [] (bJ 2 (yad a))
theorem Pn:cC ["thing","windows","inside","outside"] ["thing","windows"] (a8 qV):=by ac_nf
theorem Oi(G:cX K c b a):cN (cz P w) P w K c b "are_places_apart" 3 ["thing","windows"] (cn K (sK a)) :=
 cU (k:=2) (pin:=[]) G.yad Pn rfl (λ_ _ _ _ _ _ n o=>Pu.Rs (λ_ _=>rfl) n o) (λf p A l s H E m=>by exact
  (aQ (c0 (fG (fN ((bx (NY G) (m.mono (by decide)) bU (aI (am 0) (aI (bP dJ dO G.yaS dI (ay (am 1) aM)) bw)))).de)) (bb (cm f_)) cZ)
  (aQ (cQ 2 Pn.nd ((bx (GU G) (m.mono (by decide)) bU (aI (fY (cap:=[1]) (N':=["place","windows"]) (h8.of ["thing","windows","inside","outside"] (a8 qV) rfl rfl (by decide +kernel)) rfl (d9 (am 0)) (λC d g i h=>by exact hU) (λC d g i h=>by exact(b7 b9 ca (am 1) (am 0)))).de bw))).de)
  (aQ (cQ 3 Pn.nd ((bx (GU G) (m.mono (by decide)) bU (aI (Fp (cap:=[0]) (j:=4) (N':=["place","window","thing"]) (h8.of ["thing","windows","inside","outside"] (a8 qV) rfl rfl (by decide +kernel)) rfl (FH G.yaP (ay (am 1) aM)) (λC d g i h=>by exact kD (cG D_ GK (am 0) (am 2) rfl)) (λC d g i h=>by exact(am 1))).de bw))).de)
  (bb (cm (w6 (bP (Cq rfl) Fx G.yaN Ab (ay (fY (cap:=[3]) (N':=["piece","outside"]) (h8.of ["thing","windows","inside","outside"] (a8 qV) rfl rfl (by decide +kernel)) rfl (d9 (am 2)) (λC d g i h=>by exact hU) (λC d g i h=>by exact(gx uc sy (am 0) (am 1) rfl))).de aM)))))))))
def yar(a:Ad):ac->R aK:=aw (jQ (aB (lr a) (gV (dV 0) (br))))
 (aw (aT 2 (d2 aF (dV 0) (dC (.int 1))))
 (aw (aV (cq (bZ (dB (dL cb (ao (dV 1) (ao (dC (.raw (.ty "tuple"))) (ar)))))) (cq (bZ (dB (gD (bt λi j=>decide (i<=j)) (bt λi j=>decide (i<=j)) (dC (.int 2)) (dL aS (ao (dV 1) (ar))) (dC (.int 3))))) (bZ (dB (dL cb (ao (d2 aF (dV 1) (dC (.int 0))) (ao (dC (.raw (.ty "str"))) (ar)))))))) (aW (dC (.bl aj))) (bh))
 (aw (aV (dB (d2 (eqT aj) (dL aS (ao (dV 1) (ar))) (dC (.int 3)))) (aW (eU (d2 (eqT aj) (d2 aF (dV 1) (dC (.int 0))) (dC (.str [116,119,111]))) (aL (aB (t8 a) (gV (d2 aF (dV 1) (dC (.int 1))) (gV (d2 aF (dV 1) (dC (.int 2))) (gV (dV 2) (br)))))))) (bh))
 (aw (aV (dB (d2 (eqT aj) (d2 aF (dV 1) (dC (.int 0))) (dC (.str [109,111,114,101])))) (gq (aB (mz a) (gV (d2 aF (dV 1) (dC (.int 1))) (gV (dV 2) (gV (dC (.int 2)) (br)))))) (bh))
 (aW (eU (d2 (eqT aj) (d2 aF (dV 1) (dC (.int 0))) (dC (.str [97,112,97,114,116]))) (aL (aB (sK a) (gV (d2 aF (dV 1) (dC (.int 1))) (gV (dV 2) (br)))))))))))
def mj(a:Ad):ac->R Slot:=bL 2 [] (bJ 1 (yar a))
theorem Q8:cC ["view","thing","windows"] ["view","thing"] (a8 zh):=by ac_nf
theorem EM(G:cX K c b a):cN (cz P w) P w K c b "is_bar" 7 ["view","thing"] (cn K (mj a)) :=
 cU (k:=6) (pin:=[]) G.yar Q8 rfl (λ_ _ _ _ _ _ h i=>Pu.Rs (λ_ _=>rfl) h i) (λf j A g s H E d=>by exact
  (aQ (qm (bx (xm G) (d.mono (by decide)) bU (aI (am 0) bw)))
  (aQ (cQ 2 Q8.nd (b7 b9 ca (am 0) aC))
  (aQ (c0 ((gB (fG (fN (bP gS gZ G.yaR g6 (ay (am 1) (ay (gW G.yaY j6) aM))))) (gB (fG (sQ lh lh eR eR aC (bP dJ dO G.yaS dI (ay (am 1) aM)) aC)) (jh (fG (fN (bP gS gZ G.yaR g6 (ay (b7 b9 ca (am 1) aC) (ay (gW G.yaX tz) aM))))))))).dt (bb (cm f_)) cZ)
  (aQ (c0 (cG (fA d.units) fq (bP dJ dO G.yaS dI (ay (am 1) aM)) aC rfl) (bb (cm (jM (gx (fA d.units) fq (b7 b9 ca (am 1) aC) (ff [116,119,111]) rfl) (jz ((bx (Ob G) (d.mono (by decide)) bU (aI (b7 b9 ca (am 1) aC) (aI (b7 b9 ca (am 1) aC) (aI (am 2) bw))))).de)))) cZ)
  (aQ (c0 (cG (fA d.units) fq (b7 b9 ca (am 1) aC) (ff [109,111,114,101]) rfl) (bb (qo (bx (yV G) (d.mono (by decide)) bU (aI (b7 b9 ca (am 1) aC) (aI (am 2) (aI aC bw)))))) cZ)
  (bb (cm (jM (gx (fA d.units) fq (b7 b9 ca (am 1) aC) (ff [97,112,97,114,116]) rfl) (jz ((bx (Oi G) (d.mono (by decide)) bU (aI (b7 b9 ca (am 1) aC) (aI (am 2) bw)))).de))))))))))
def yaG(a:Ad)(d:ac->R Slot):ac->R aK:=aw (aT 4 (aL (aB (eO a) (gV (dV 0) (gO 1 (gV (dC (.int 8)) (br)))))))
 (aw (aV (gU (dB (dL cb (ao (dV 2) (ao (dC (.raw (.ty "tuple"))) (ar))))) (gU (dB (d2 (eqT ae) (dV 2) (dL cx (ar)))) (dB (d2 (bt λi j=>decide (j<i)) (dV 4) (dC (.int 1)))))) (aw (aT 5 (aL (aB (eO a) (gV (dV 0) (gO 1 (gV (dL aS (ao (dV 2) (ar))) (br)))))))
 (aW (d2 fR (d2 fR (be gc (dV 2) (bj) (aY (dV 5))) (dL cx (ao (aL (aB (d) (gV (dV 0) (gO 1 (gV (d2 aF (dV 2) (dV 5)) (gV (dV 3) (br))))))) (ar)))) (be gc (dV 2) (aY (d2 fR (dV 5) (dC (.int 1)))) (bj))))) (bh))
 (aw (aV (gU (dB (dL cb (ao (dV 2) (ao (dC (.raw (.ty "tuple"))) (ar))))) (dB (d2 (eqT aj) (dV 4) (dC (.int 1))))) (gq (aB (gE a) (gV (dV 0) (gO 1 (gV (dF (dL cH (ao (dF (dL kF (ao (dV 2) (ar)))) (ao (d2 fR (dV 2) (dV 2)) (ao (be gc (dV 2) (aY (dC (.int 1))) (bj)) (ao (xJ (dV 2) (aY (d1 dq (dC (.int 1))))) (ao (d2 fR (dV 2) (be gc (dV 2) (aY (d1 dq (dC (.int 1)))) (bj))) (ar)))))))) (br)))))) (bh))
 (aw (aT 6 (d2 fR (d2 fR (dV 3) (dV 3)) (dF (dL cH (ao (dC (.str [109,111,114,101])) (ao (dC (.str [116,119,111])) (ao (dC (.str [97,112,97,114,116])) (ao (dC (.str [])) (ao (dC (.str [97])) (ao (dC .non) (ao (dC (.bl ae)) (ao (dC (.int 0)) (ao (dC (.int 1)) (ao (dC (.int 2)) (ao (dC (.int 3)) (ao (d1 dq (dC (.int 1))) (ao (dL cx (ar)) (ao (dL cx (ao (dC (.int 0)) (ar))) (ao (dL cx (ao (dC (.int 0)) (ao (dC (.int 1)) (ar)))) (ao (dL cx (ao (dC (.int 1)) (ar))) (ar)))))))))))))))))))))
 (gq (aB (gE a) (gV (dV 0) (gO 1 (gV (dV 6) (br)))))))))
def mK(a:Ad):Nat->ac->R Slot
 |0=>bL 4 [1] (bJ 3 zD)
 |k+1=>bL 4 [1] (bJ 3 (yaG a (mK a k)))
theorem Gh:cC ["_law_script","_law_town","_law_thing","_law_pieces","_law_kind","_law_at","_law_some"] ["_law_script","_law_town","_law_thing","_law_pieces"] (a8 Bk):=by ac_nf
theorem OJ(G:cX K c b a)(m:Nat):cN (cz P w) P w K c b "_law_spoilt" (5+m) ["_law_script","_law_town","_law_thing","_law_pieces"] (cn K (mK a m)):=by
 induction m with
 |zero=>exact cU (k:=4) (pin:=[1]) G.yaG Gh rfl (λ_ _ _ _ _ _ h i=>Pu.RV (λ_ _ _ _=>rfl) h i) (λf l A g s H E d=>GH)
 |succ m j=>exact cU (k:=5+m) (pin:=[1]) G.yaG Gh rfl (λ_ _ _ _ _ _ h i=>Pu.RV (λ_ _ _ _=>rfl) h i) (λf l A g s H E d=>by exact
  (aQ (cQ 4 Gh.nd ((bx (kt G) (d.mono ∅) bU (aI (am 0) (eQ 1 (aI aC bw))))).de)
  (aQ (c0 ((tm (fN (bP gS gZ G.yaR g6 (ay (am 2) (ay (gW G.yaY j6) aM)))) (tm (cG (jC d.units) jK (am 2) (hZ aM) rfl) (vy (cG nA eR (am 4) aC rfl))))).dt (aQ (cQ 5 Gh.nd ((bx (kt G) (d.mono ∅) bU (aI (am 0) (eQ 1 (aI (bP dJ dO G.yaS dI (ay (am 2) aM)) bw))))).de)
  (bb (cm (bQ oQ oO (bQ oQ oO (dA tN sC (am 2) dQ (cT (am 5))) (hZ (ay ((bx j (d.mono ∅) bU (aI (am 0) (eQ 1 (aI (b7 b9 ca (am 2) (am 5)) (aI (am 3) bw)))))).de aM))) (dA tN sC (am 2) (cT (bQ oQ oO (am 5) aC)) dQ))))) cZ)
  (aQ (c0 ((tm (fN (bP gS gZ G.yaR g6 (ay (am 2) (ay (gW G.yaY j6) aM)))) (vy (cG (fA d.units) fq (am 4) aC rfl)))).dt (bb (qo (bx (mM G) (d.mono ∅) bU (aI (am 0) (eQ 1 (aI (jL (ay (wl xG wF G.yaT vY (ay (am 2) aM)).de (ay (bQ oQ oO (am 2) (am 2)) (ay (dA tN sC (am 2) (cT aC) dQ) (ay (KG (am 2) (cT (iV iP iX aC))) (ay (bQ oQ oO (am 2) (dA tN sC (am 2) (cT (iV iP iX aC)) dQ)) aM)))))) bw)))))) cZ)
  (aQ (cQ 6 Gh.nd (bQ oQ oO (bQ oQ oO (am 3) (am 3)) (jL (ay (ff [109,111,114,101]) (ay (ff [116,119,111]) (ay (ff [97,112,97,114,116]) (ay (ff []) (ay (ff [97]) (ay vx (ay f_ (ay aC (ay aC (ay aC (ay aC (ay (iV iP iX aC) (ay (hZ aM) (ay (hZ (ay aC aM)) (ay (hZ (ay aC (ay aC aM))) (ay (hZ (ay aC aM)) aM)))))))))))))))))))
  (bb (qo (bx (mM G) (d.mono ∅) bU (aI (am 0) (eQ 1 (aI (am 6) bw)))))))))))
theorem CQ:cC ["text","width","left","found","head","letter","window"] ["text","width","left","found"] (a8 zu):=by ac_nf
theorem MJ(G:cX K c b a)(m:Nat):cN (cz P w) P w K c b "add_endings" (1+m) ["text","width","left","found"] (cn K (nW a m)):=by
 induction m with
 |zero=>exact cU (k:=0) (pin:=[2,3]) G.yac CQ rfl (λ_ _ _ _ _ _ h i=>Pu.RV (λ_ _ _ _=>rfl) h i) (λf l A d s H E g=>GH)
 |succ m j=>exact cU (k:=1+m) (pin:=[2,3]) G.yac CQ rfl (λ_ _ _ _ _ _ h i=>Pu.RV (λ_ _ _ _=>rfl) h i) (λf l A d s H E g=>by exact
  (aQ (c0 (fG (fN (Nv 2 rfl G.yaN))) (aQ (tU 3 (am 0))
  (bb Qn)) cZ)
  (aQ (cQ 4 CQ.nd (dA eE d8 (am 0) (cT (bQ dR dP (bQ nq nr (bP dJ dO G.yaS dI (ay (am 0) aM)) (am 1)) aC)) dQ))
  (bb (j5 (iR 5 i9 rfl CQ.nd (d9 (GC G.ya1)) (aQ (cQ 6 CQ.nd (bQ dR dP (am 4) (am 5)))
  (bb (c0 (cG nA eR (wZ 2 g.units (am 6) aC) aC rfl) (aQ (pE 2 g.units (am 6) (bQ nq nr (qC 2 g.units (am 6)) aC))
  (aQ (qm (bx j (g.mono ∅) im (aI (bQ dR dP (am 0) (am 5)) (aI (am 1) (eQ 2 (eQ 3 bw))))))
  (bb (pE 2 g.units (am 6) (bQ dR dP (qC 2 g.units (am 6)) aC))))) cZ)))))))))
theorem Jp:cC ["windows","counts","window"] ["windows"] (a8 za):=by ac_nf
theorem KP(G:cX K c b a):cN (cz P w) P w K c b "counted" 1 ["windows"] (cn K (ut a)) :=
 cU (k:=0) (pin:=[]) G.yal Jp rfl (λ_ _ _ _ _ _ h i=>Pu.RG (λ_=>rfl) h i) (λf j A d s H E g=>by exact
  (aQ (kI 1 Jp.nd (C6))
  (aQ (j5 (iR 2 i9 rfl Jp.nd (d9 (am 0)) (bb (pE 1 g.units (am 2) (bQ dR dP (wZ 1 g.units (am 2) aC) aC)))))
  (bb (wL 1)))))
theorem Q1:cC ["view","width","found","head"] ["view"] (a8 xF):=by ac_nf
theorem Ju(G:cX K c b a):cN (cz P w) P w K c b "texts" 14 ["view"] (cn K (xi a)) :=
 cU (k:=13) (pin:=[]) G.yaL Q1 rfl (λ_ _ _ _ _ _ j m=>Pu.RG (λ_=>rfl) j m) (λf o A h s H E i=>by exact
  (aQ (qm (bx (xm G) (i.mono (by decide)) bU (aI (am 0) bw)))
  (aQ (cQ 1 Q1.nd (b7 b9 ca (am 0) aC))
  (aQ (kI 2 Q1.nd (qu aM))
  (aQ (j5 (iR 3 i9 rfl Q1.nd (d9 (Es rfl (ay (fY (cap:=[]) (N':=["window"]) (h8.of ["view","width","found","head"] (a8 xF) rfl rfl (by decide +kernel)) rfl (d9 (b7 b9 ca (am 0) aC)) (λC d g n l=>by exact hU) (λC d g n l=>by exact(dA eE d8 (am 0) dQ (cT (iV iP iX aC))))).de aM) G.yaW G.yaV).de) (bb (qm (Pd (MJ G 12) (i.mono (by decide)) im (CB (am 3) (CB (am 1) (Le (((bx (KP G) (i.mono (by decide)) im (aI (b7 b9 ca (am 0) aC) bw))).dn) (eQ 2 bw)))))))))
  (bb (wL 2)))))))
theorem Of:cC ["view"] ["view"] (a8 zJ):=by ac_nf
theorem Ku(G:cX K c b a):cN (cz P w) P w K c b "how_many" 15 ["view"] (cn K (tE a)) :=
 cU (k:=14) (pin:=[]) G.yaq Of rfl (λ_ _ _ _ _ _ g i=>Pu.RG (λ_=>rfl) g i) (λf j A d s H E h=>by exact
  (bb (cm (bP dJ dO G.yaS dI (ay ((bx (Ju G) (h.mono (by decide)) bU (aI (am 0) bw))).de aM)))))
def yax(a:Ad):ac->R aK:=aw (dS 1 (dL cH (ar)))
 (aw (aT 2 (aL (aB (ql a) (gV (dV 0) (gO 1 (gV (dC (.int 8)) (br)))))))
 (aw (aV (dB (d2 (eqT aj) (d2 aF (dV 2) (dC (.int 0))) (dC (.int 1)))) (aT 2 (dL cx (ao (dC (.int 1)) (ao (be gc (d2 aF (dV 2) (dC (.int 1))) (bj) (aY (dC (.int 7)))) (ar))))) (bh))
 (aw (kG 3 4 (dV 2))
 (aw (aT 5 (dF (dL nL (ao (d2 aZ (dF (bI [] (aR (dV 4)) (bV) (be bD (dV 0) (bj) (aY (d1 dq (dC (.int 1))))))) (dF (bI [] (aR (dV 4)) (bV) (be bD (dV 0) (aY (dC (.int 1))) (bj))))) (ar)))))
 (aw (aT 6 (dF (bI [4] (aR (dV 5)) (bV) (dL cx (ao (dV 0) (ao (aL (aB (jD a) (gV (dV 1) (gV (dV 0) (br))))) (ar)))))))
 (aw (aV (dB (d2 (eqT ae) (aL (aB (su a) (gV (dV 2) (br)))) (dF (bI [] (aR (dV 6)) (dB (d2 (eqT ae) (d2 aF (dV 0) (dC (.int 1))) (dC (.int 0)))) (dV 0))))) (aW (dC (.bl aj))) (bh))
 (aw (aT 7 (d2 (eqT aj) (aL (aB (s_ a) (gV (dV 2) (br)))) (dF (dL cH (ar)))))
 (aw (aT 8 (aL (aB (sJ a) (gV (dV 2) (br)))))
 (aw (aV (cq (dB (d2 (eqT ae) (d2 (lp ae) (dV 8) (dC .non)) (dV 7))) (gU (dB (dV 7)) (cq (bZ (dB (aL (aB (nD a) (gV (dV 2) (gV (dV 8) (br))))))) (dB (d2 (eqT ae) (aL (aB (mj a) (gV (dV 2) (gV (dV 8) (br))))) (dC (.bl ae))))))) (aW (dC (.bl aj))) (bh))
 (aw (aT 9 (dL lz (ao (dF (bI [0,1] (dL fc (ao (dL aS (ao (dV 4) (ar))) (ar))) (dB (d2 (eqT aj) (aL (aB (eO a) (gV (dV 1) (gO 2 (gV (dC (.int 2)) (br)))))) (dC (.int 0)))) (dV 0))) (ar))))
 (aw (dS 10 (dL cH (ao (dL cx (ao (dC (.str [109,111,114,101])) (ao (aL (aB (gE a) (gV (dV 0) (gO 1 (gV (dV 5) (br)))))) (ar)))) (ao (dL cx (ao (dC (.str [97,112,97,114,116])) (ao (dV 9) (ar)))) (ar)))))
 (aw (iu 10 (dL cx (ao (dC (.str [116,119,111])) (ao (aL (aB (gE a) (gV (dV 0) (gO 1 (gV (dV 5) (br)))))) (ao (aL (aB (gE a) (gV (dV 0) (gO 1 (gV (dV 5) (br)))))) (ar))))))
 (aw (aV (cq (dB (d2 (lp aj) (dV 8) (dC .non))) (dB (d2 (eqT aj) (aL (aB (eO a) (gV (dV 0) (gO 1 (gV (dC (.int 3)) (br)))))) (dC (.int 0))))) (aT 8 (aL (aB (gE a) (gV (dV 0) (gO 1 (gV (dM 10) (br))))))) (bh))
 (aw (λε=>dr (cj 11 (dL fc (ao (aL (aB (eO a) (gV (dV 0) (gO 1 (gV (dC (.int 3)) (br)))))) (ar))) (aT 8 (aL (aB (mK a 6) (gV (dV 0) (gO 1 (gV (dV 8) (gV (dV 5) (br)))))))) ε))
 (aw (aT 12 (aL (aB (mj a) (gV (dV 2) (gV (dV 8) (br))))))
 (aw (aV (cq (dB (d2 (eqT ae) (dV 12) (aL (aB (nD a) (gV (dV 2) (gV (dV 8) (br))))))) (bZ (dB (dL cb (ao (dV 12) (ao (dC (.raw (.ty "bool"))) (ar))))))) (aW (dC (.bl aj))) (bh))
 (aW (jJ (jo (dV 12)) (eU (dV 7) (d2 (eqT aj) (aL (aB (tE a) (gV (dV 2) (br)))) (dC (.int 0))))))))))))))))))))))
def sP(a:Ad):ac->R Slot:=bL 1 [] (bJ 12 (yax a))
theorem Nu:cC ["_law_script","_law_town","_law_some","_law_width","_law_windows","_law_pieces","_law_rows","_law_none","_law_thing","_law_places","_law_drawn","_law_k","_law_found"] ["_law_script"] (a8 l8):=by ac_nf
theorem Nf(G:cX K c b a){f:ag}{m:iH}(p:oX K "law" "law" l8 f m):kw P w K c b (cz P w) 16 f m ["_law_script"] (cn K (sP a)) :=
 L1 (k:=15) (pin:=[]) p Nu rfl (λ_ _ _ _ _ _ n o=>Pu.RG (λ_=>rfl) n o) (λf q A l s H E h=>by exact
  (aQ (kI 1 Nu.nd (qu aM))
  (aQ (cQ 2 Nu.nd ((bx (Pf G) (h.mono (by decide)) bU (aI (am 0) (eQ 1 (aI aC bw))))).de)
  (aQ (c0 (cG (fA h.units) fq (b7 b9 ca (am 2) aC) aC rfl) (bb (cQ 2 Nu.nd (hZ (ay aC (ay (dA tN sC (b7 b9 ca (am 2) aC) dQ (cT aC)) aM))))) cZ)
  (aQ (A9 3 4 rfl Nu.nd (am 2))
  (aQ (cQ 5 Nu.nd (Es rfl (ay (bQ dR dP (fY (cap:=[]) (N':=["_law_one"]) (h8.of ["_law_script","_law_town","_law_some","_law_width","_law_windows","_law_pieces","_law_rows","_law_none","_law_thing","_law_places","_law_drawn","_law_k","_law_found"] (a8 l8) rfl rfl (by decide +kernel)) rfl (d9 (am 4)) (λC d g j i=>by exact hU) (λC d g j i=>by exact(dA eE d8 (am 0) dQ (cT (iV iP iX aC))))).de (fY (cap:=[]) (N':=["_law_one"]) (h8.of ["_law_script","_law_town","_law_some","_law_width","_law_windows","_law_pieces","_law_rows","_law_none","_law_thing","_law_places","_law_drawn","_law_k","_law_found"] (a8 l8) rfl rfl (by decide +kernel)) rfl (d9 (am 4)) (λC d g j i=>by exact hU) (λC d g j i=>by exact(dA eE d8 (am 0) (cT aC) dQ))).de) aM) G.yaW G.yaV).de)
  (aQ (vA 6 Nu.nd (cap:=[4]) (N':=["_law_piece","_law_windows"]) (h8.of ["_law_script","_law_town","_law_some","_law_width","_law_windows","_law_pieces","_law_rows","_law_none","_law_thing","_law_places","_law_drawn","_law_k","_law_found"] (a8 l8) rfl rfl (by decide +kernel)) rfl (d9 (am 5)) (λC d g j i=>by exact hU) (λC d g j i=>by exact(hZ (ay (am 0) (ay ((bx (xM G) (h.mono (by decide)) im (aI (am 1) (aI (am 0) bw)))).de aM)))))
  (aQ (c0 (cG (jC h.units) jK ((bx (Nn G) (h.mono (by decide)) bU (aI (am 2) bw))).de (fY (cap:=[]) (N':=["_law_line"]) (h8.of ["_law_script","_law_town","_law_some","_law_width","_law_windows","_law_pieces","_law_rows","_law_none","_law_thing","_law_places","_law_drawn","_law_k","_law_found"] (a8 l8) rfl rfl (by decide +kernel)) rfl (d9 (am 6)) (λC d g j i=>by exact kD (cG (jC h.units) jK (b7 b9 ca (am 0) aC) aC rfl)) (λC d g j i=>by exact(am 0))).de rfl) (bb (cm f_)) cZ)
  (aQ (cQ 7 Nu.nd (gx (fA h.units) fq ((bx (Kr G) (h.mono (by decide)) bU (aI (am 2) bw))).de (jL aM) rfl))
  (aQ (cQ 8 Nu.nd ((bx (Ow G) (h.mono (by decide)) bU (aI (am 2) bw))).de)
  (aQ (c0 ((gB (cG (jC h.units) jK (gx LG PP (am 8) vx rfl) (am 7) rfl) (jh ((tm (fN (am 7)) (vy ((gB (fG (fN ((bx (Hd G) (h.mono (by decide)) bU (aI (am 2) (aI (am 8) bw)))).de)) (jh (cG (jC h.units) jK ((bx (EM G) (h.mono (by decide)) bU (aI (am 2) (aI (am 8) bw)))).de f_ rfl)))).dt))).dt))).dt (bb (cm f_)) cZ)
  (aQ (cQ 9 Nu.nd (xH xk xp G.yaY j6 (ay (fY (cap:=[0,1]) (N':=["_law_place","_law_script","_law_town"]) (h8.of ["_law_script","_law_town","_law_some","_law_width","_law_windows","_law_pieces","_law_rows","_law_none","_law_thing","_law_places","_law_drawn","_law_k","_law_found"] (a8 l8) rfl rfl (by decide +kernel)) rfl (mi G.yaU (ay (bP dJ dO G.yaS dI (ay (am 4) aM)) aM)) (λC d g j i=>by exact kD (cG (fA h.units) fq ((bx (kt G) (h.mono (by decide)) im (aI (am 1) (eQ 2 (aI aC bw))))).de aC rfl)) (λC d g j i=>by exact(am 0))).de aM)))
  (aQ (kI 10 Nu.nd (qu (ay (hZ (ay (ff [109,111,114,101]) (ay ((bx (mM G) (h.mono (by decide)) bU (aI (am 0) (eQ 1 (aI (am 5) bw))))).de aM))) (ay (hZ (ay (ff [97,112,97,114,116]) (ay (am 9) aM))) aM))))
  (aQ (tU 10 (hZ (ay (ff [116,119,111]) (ay ((bx (mM G) (h.mono (by decide)) bU (aI (am 0) (eQ 1 (aI (am 5) bw))))).de (ay ((bx (mM G) (h.mono (by decide)) bU (aI (am 0) (eQ 1 (aI (am 5) bw))))).de aM)))))
  (aQ (c0 ((gB (cG IB PD (am 8) vx rfl) (jh (cG (fA h.units) fq ((bx (kt G) (h.mono (by decide)) bU (aI (am 0) (eQ 1 (aI aC bw))))).de aC rfl)))).dt (bb (cQ 8 Nu.nd ((bx (mM G) (h.mono (by decide)) bU (aI (am 0) (eQ 1 (aI (G2 10) bw))))).de)) cZ)
  (aQ (j5 (iR 11 i9 rfl Nu.nd (mi G.yaU (ay ((bx (kt G) (h.mono (by decide)) im (aI (am 0) (eQ 1 (aI aC bw))))).de aM)) (bb (cQ 8 Nu.nd ((bx (OJ G 6) (h.mono (by decide)) im (aI (am 0) (eQ 1 (aI (am 8) (aI (am 5) bw)))))).de))))
  (aQ (cQ 12 Nu.nd ((bx (EM G) (h.mono (by decide)) bU (aI (am 2) (aI (am 8) bw)))).de)
  (aQ (c0 ((gB (cG (jC h.units) jK (am 12) ((bx (Hd G) (h.mono (by decide)) bU (aI (am 2) (aI (am 8) bw)))).de rfl) (jh (fG (fN (bP gS gZ G.yaR g6 (ay (am 12) (ay (gW G.yaO Ac) aM)))))))).dt (bb (cm f_)) cZ)
  (bb (cm (EQ (w6 (am 12)) (jz (jM (am 7) (jz (gx (fA h.units) fq ((bx (Ku G) (h.mono (by decide)) bU (aI (am 2) bw))).de aC rfl)))))))))))))))))))))))))
end
end K04
namespace Mx
open L2 Pu
def cA:Tx:=[97,98,99]
def eC:Nat->List Tx
 |0=>[[]]
 |k+1=>cA.flatMap λc=>(eC k).map (c::·)
theorem mB:∀(k:Nat) (x:Tx),x∈eC k↔x.length=k/\∀c∈x,c∈cA
 |0,x=>by
  simp only[eC,jr];constructor
  .rintro rfl;simp
  .rintro⟨h,_⟩;exact ot.mp h
 |k+1,x=>by
  simp only[eC,List.mem_flatMap,cp];constructor
  .rintro⟨c,i,y,g,rfl⟩;obtain⟨f,b⟩:=(mB k y).mp g;refine⟨by simp[f],λd a=>?_⟩;rcases bA.mp a with rfl|a
   .exact i
   .exact b d a
  .rintro⟨f,b⟩;cases x with
   |nil=>cases f
   |cons c y=>exact⟨c,b c (by simp),y,(mB k y).mpr ⟨ye f,λd a=>b d (by simp[a])⟩,rfl⟩
theorem A0:∀k:Nat,(eC k).length=3^k
 |0=>rfl
 |k+1=>by simp only[eC,cA,rT,HR,c_,b0,A0 k,pT,Nat.pow_succ];lia
theorem EI(i j:Nat):eC (i+j)=(eC i).flatMap λh=>(eC j).map (h++·):=by
 induction i with
 |zero=>simp[eC]
 |succ i a=>rw[show i+1+j=(i+j)+1 by lia];simp only[eC,a,List.flatMap_assoc,List.map_flatMap,List.flatMap_map,dZ,ya,yh]
theorem Jx(k:Nat):eC (k+1)=(eC k).flatMap λh=>cA.map λc=>h++[c]:=by rw[EI k 1];congr 1
theorem AI:∀k:Nat,(eC k).Pairwise (λa b=>a<b)
 |0=>by simp[eC]
 |k+1=>by
  simp only[eC];rw[List.pairwise_flatMap];refine⟨λc _=>?_,?_⟩
  .rw[HF];exact(AI k).imp λh=>List.cons_lt_cons_iff.mpr (.inr ⟨rfl,h⟩)
  .have:cA.Pairwise (λa b=>a<b):=by decide
   refine this.imp λh=>?_;intro x f y d;obtain⟨i,_,rfl⟩:=cp.mp f;obtain⟨g,_,rfl⟩:=cp.mp d;exact List.cons_lt_cons_iff.mpr (.inl h)
theorem IG{a b:Tx}(h:a<b):dy a b=ae:=by simp only[dy,decide_eq_true_eq];exact List.le_of_lt h
theorem Jm(k:Nat):(eC k).Pairwise (λa b=>dy a b=ae):=(AI k).imp IG
theorem MY(k:Nat):(eC k).Nodup:=(AI k).imp λh z=>by subst z;exact List.lt_irrefl _ h
def bp(z:Tx)(w:Nat):List Tx:=((cg z.length).filter λi=>decide (i+w<=z.length)).map λi=>(z.drop i).take w
theorem E4(w L:Nat):∀m:Nat,(cg m).filter (λi=>decide (i+w<=L))=cg (min m (L+1-w))
 |0=>by simp
 |m+1=>by
  rw[x5,List.filter_append,E4 w L m];by_cases h:m+w<=L
  .rw[show min m (L+1-w)=m by lia,show min (m+1) (L+1-w)=m+1 by lia,x5];simp[h]
  .rw[show min (m+1) (L+1-w)=min m (L+1-w) by lia];simp[h]
theorem nR(z:Tx)(w:Nat)(a:1<=w):bp z w=(cg (z.length+1-w)).map λi=>(z.drop i).take w:=by unfold bp;rw[E4,show min z.length (z.length+1-w)=z.length+1-w by lia]
def nw(w:Nat)(t:Tx):Tx->List Tx
 |[]=>[]
 |c::s=>(t.drop (t.length+1-w)++[c])::nw w (t++[c]) s
theorem Gx(w:Nat)(b:1<=w):∀(s t:Tx),w<=t.length+1->nw w t s=(cg s.length).map λi=>((t++s).drop (t.length+1-w+i)).take w
 |[],t,_=>by simp[nw]
 |c::s,t,h=>by
  rw[nw,Gx w b s (t++[c]) (by simp;lia),eY,xZ,ci,dZ];congr 1
  .show _=((t++c::s).drop (t.length+1-w)).take w;rw[BJ ∅,List.take_append];have a:(t.drop (t.length+1-w)).length=w-1:=by rw[kX];lia
   rw[a,k6 (by rw[a];lia),show w-(w-1)=1 by lia];rfl
  .refine ki λi _=>?_;simp only[pZ];rw[c_,og,show t.length+1+1-w+i=t.length+1-w+Nat.succ i by lia];simp
theorem y9{w:Nat}(a:1<=w){h s:Tx}(b:h.length=w-1):bp (h++s) w=nw w h s:=by rw[nR _ _ a,Gx w a s h ∅,c_,show h.length+s.length+1-w=s.length by lia];refine ki λi _=>?_;rw[show h.length+1-w+i=i by lia]
theorem Ga{w:Nat}(a:1<=w)(t:Tx)(c:Nat):bp (t++[c]) w=bp t w++(if w<=t.length+1 then [((t++[c]).drop (t.length+1-w)).take w] else []):=by
 rw[nR _ _ a,nR _ _ a,c_,og];by_cases h:w<=t.length+1
 .rw[if_pos h,show t.length+1+1-w=(t.length+1-w)+1 by lia,x5,uK];congr 1;refine ki λi b=>?_;have b:i<t.length+1-w:=by simpa using b
  rw[BJ ∅,HS (by rw[kX];lia)]
 .rw[if_neg h,show t.length+1+1-w=0 by lia,show t.length+1-w=0 by lia];simp
theorem Dw{z:Tx}{w:Nat}{x:Tx}(a:x∈bp z w):x.length=w/\∀c∈x,c∈z:=by simp only[bp,cp,jq,ka,decide_eq_true_eq]at a;obtain⟨i,⟨_,h⟩,rfl⟩:=a;exact⟨by rw[lL,kX];lia,λc b=>yj (ou b)⟩
def ii(w:Nat):Nat->Tx->List Tx->List Tx
 |0,t,_=>[t]
 |r+1,t,q=>cA.flatMap λc=>if t.drop (t.length+1-w)++[c]∈q then ii w r (t++[c]) (q.erase (t.drop (t.length+1-w)++[c]))else []
theorem Cs(w:Nat):∀(r:Nat) (t:Tx) (q:List Tx),q.length=r->ii w r t q=((eC r).filter λs=>(nw w t s).isPerm q).map (t++·)
 |0,t,q,hq=>by have:q=[]:=ot.mp hq;subst this;simp[ii,eC,nw,List.isPerm]
 |r+1,t,q,hq=>by
  simp only[ii,eC,HU,List.map_flatMap];congr 1;funext c;rw[p6,dZ];by_cases h:t.drop (t.length+1-w)++[c]∈q
  .rw[if_pos h,Cs w r (t++[c]) _ (by rw[BX h,hq];rfl)];have e:((λs=>(nw w t s).isPerm q) ∘ λx=>c::x)=λs=>(nw w (t++[c]) s).isPerm (q.erase (t.drop (t.length+1-w)++[c])):=by funext s;show(q.contains (t.drop (t.length+1-w)++[c])&&(nw w (t++[c]) s).isPerm (q.erase (t.drop (t.length+1-w)++[c])))=_;rw[List.contains_iff_mem.mpr h,BM]
   rw[e];refine ki λs _=>?_;simp
  .rw[if_neg h];have e:((λs=>(nw w t s).isPerm q) ∘ λx=>c::x)=λ_=>aj:=by
    funext s;show(q.contains (t.drop (t.length+1-w)++[c])&&(nw w (t++[c]) s).isPerm (q.erase (t.drop (t.length+1-w)++[c])))=_;have:q.contains (t.drop (t.length+1-w)++[c])=aj:=by rw[yk];intro z;exact h (List.contains_iff_mem.mp z)
    rw[this,Bool.false_and]
   rw[e];simp
def et(w:Nat)(ls:List Tx):List Tx:=(bS (fu (ls.map k8))).flatMap λh=>ii w ls.length h ls
theorem EZ{a b:Type}{l:List a}{f:a->List b}(p:a->Bool)(h:∀x∈l,p x=aj->f x=[]):l.flatMap f=(l.filter p).flatMap f:=by
 induction l with
 |nil=>rfl
 |cons x l c=>
  rw[rT,c λy d=>h y (by simp[d]),rV];cases e:p x with
  |true=>simp
  |false=>rw[h x (by simp) e];simp
theorem xh{w:Nat}{a:List Tx}(g:1<=w)(C:1<=a.length)(j:∀x∈a,x.length=w/\∀c∈x,c∈cA):et w a=(eC (w-1+a.length)).filter λz=>(bp z w).isPerm a:=by
 rw[EI,HU];have A:(λh=>((eC a.length).map (h++·)).filter λz=>(bp z w).isPerm a)=λh=>((eC a.length).filter λs=>(bp (h++s) w).isPerm a).map (h++·):=by funext h;rw[p6];rfl
 rw[A,EZ (λh=>decide (h∈a.map k8))]
 .have v:(eC (w-1)).filter (λh=>decide (h∈a.map k8))=bS (fu (a.map k8)):=by
   refine xa ?_ ((Jm (w-1)).filter _);refine(List.perm_ext_iff_of_nodup ((MY (w-1)).filter _) (GR _)).mpr λx=>?_;rw[jq,decide_eq_true_eq,qF,mB];refine⟨λh=>h.2,λh=>⟨?_,h⟩⟩;obtain⟨y,d,rfl⟩:=cp.mp h;obtain⟨t,r⟩:=j y d;exact⟨by rw[yf,t],λc q=>r c ((List.dropLast_sublist _).mem q)⟩
  rw[v];unfold et;have:∀l:List Tx,(∀h∈l,h.length=w-1)->l.flatMap (λh=>ii w a.length h a)=l.flatMap λh=>((eC a.length).filter λs=>(bp (h++s) w).isPerm a).map (h++·):=by
   intro l
   induction l with
   |nil=>intro _;rfl
   |cons h l n=>
    intro b;rw[rT,rT,n λy d=>b y (by simp[d]),Cs w _ h a rfl];have u:(λs=>(nw w h s).isPerm a)=λs=>(bp (h++s) w).isPerm a:=by funext s;rw[y9 g (b h (by simp))]
    rw[u]
  refine this _ λh b=>?_;have p:=(qF _ _).mp ((fZ _).mem_iff.mp b);obtain⟨y,d,rfl⟩:=cp.mp p;rw[yf,(j y d).1]
 .intro h b i;have B:=((mB _ h).mp b).1;rw[List.map_eq_nil_iff,List.filter_eq_nil_iff];intro s o f;have m:=((mB _ s).mp o).1;rw[y9 g B,List.isPerm_iff]at f;cases s with
  |nil=>rw[pT]at m;lia
  |cons c s=>rw[nw,show h.length+1-w=0 by lia,x6]at f;have:h++[c]∈a:=f.mem_iff.mp (by simp);rw[decide_eq_false_iff_not]at i;exact i (cp.mpr ⟨_,this,by simp⟩)
def unD(w:Nat)(a:List Tx)(t:Tx):Bool:=(bp t w).all λx=>decide ((bp t w).count x<=a.count x)
theorem Ea{w:Nat}{a:List Tx}{t:Tx}:unD w a t=ae↔∀x,(bp t w).count x<=a.count x:=by
 unfold unD;rw[mX];constructor
 .intro h x;by_cases b:x∈bp t w
  .simpa using h x b
  .rw[HV b];lia
 .intro h x _;simpa using h x
theorem Kj{w:Nat}(b:1<=w){a:List Tx}{t:Tx}{c:Nat}(h:unD w a (t++[c])=ae):unD w a t=ae:=by rw[Ea]at h ⊢;intro x;have:=h x;rw[Ga b,HW]at this;lia
def rowsOf(w:Nat)(a:List Tx)(k:Nat):List Tx:=(eC k).filter (unD w a)
theorem IS{w:Nat}(b:1<=w)(a:List Tx):rowsOf w a 0=[[]]:=by simp[rowsOf,eC,unD,bp]
theorem FQ{w:Nat}(d:1<=w)(a:List Tx)(k:Nat):rowsOf w a (k+1)=(rowsOf w a k).flatMap λt=>(cA.map λc=>t++[c]).filter (unD w a):=by
 unfold rowsOf;rw[Jx,HU];refine EZ _ λt _ ht=>?_;rw[List.filter_eq_nil_iff];intro z b f;obtain⟨c,_,rfl⟩:=cp.mp b;rw[Kj d f]at ht;cases ht
theorem QJ(w:Nat)(a:List Tx)(k:Nat):(rowsOf w a k).length<=3^k:=by rw[<-A0 k];exact uS _ _
theorem J7{w:Nat}{c:List Tx}(d:c.Pairwise (λa b=>dy a b=ae))(L:Nat):(rowsOf w c L).filter (λz=>decide (bS (bp z w)=c))=(eC L).filter λz=>(bp z w).isPerm c:=by
 unfold rowsOf;rw[List.filter_filter];refine List.filter_congr λz _=>?_;rw[mS,gg,decide_eq_true_eq,List.isPerm_iff];constructor
 .rintro⟨h,_⟩;rw[<-h];exact(fZ _).symm
 .intro h;refine⟨by rw[vK h,xc d],?_⟩;rw[Ea];intro x;rw[h.count_eq];exact bC _
end Mx
namespace Sh
open L2 Pu Mx
theorem cF{a:Type}{f:List PV->Option a}{b:ac->R (List PV)}{ε ε1:ac}{xs:List PV}{v:a}(h:b ε=.ok xs ε1)(c:f xs=aa v):dL f b ε=.ok v ε1:=by unfold dL;rw[h];show aO (f xs) ε1=_;rw[c];rfl
theorem bY{d:ac->R PV}{b:ac->R (List PV)}{ε ε1 a:ac}{x:PV}{xs:List PV}(h:d ε=.ok x ε1)(c:b ε1=.ok xs a):ao d b ε=.ok (x::xs) a:=by unfold ao;rw[h];show(b ε1).bind _=_;rw[c];rfl
theorem cB{ε:ac}:ar ε=.ok [] ε:=rfl
theorem bE(pv:PV)(ε:ac):dC pv ε=.ok pv ε:=rfl
theorem bi{f:PV->PV->Option PV}{b db:ac->R PV}{ε ε1 a:ac}{x y z:PV}(h:b ε=.ok x ε1)(d:db ε1=.ok y a)(c:f x y=aa z):d2 f b db ε=.ok z a:=by unfold d2;rw[h];show(db ε1).bind _=_;rw[d];show aO (f x y) a=_;rw[c];rfl
section
theorem EA{ls:List Tx}(h:ls.length<64):nP [.lst (ai ls)]=aa (.lst (ai (bS ls))):=by show(jn (ai ls)).bind _=_;rw[vN,lO,if_pos h]
end
section
variable{a:Ad}
abbrev bM(b:List Int):Slot:=.val (.lst (b.map .int))
theorem GO(b:List Int)(k:Int)(d:0<=k)(h:k<b.length):∃v,fS (b.map PV.int) k=aa (.int v):=by
 have c:k.toNat<b.length:=∅
 refine⟨b[k.toNat],?_⟩;rw[wT d (by rw[b0];exact c)];simp
theorem v6(b:List Int):Pu.eqT aj (.lst (b.map .int)) (.lst [])=aa (.bl b.isEmpty):=by
 cases b with
 |nil=>rfl
 |cons x xs=>
  have d:∀l:List Int,fD (l.map .int)=0:=λl=>by induction l with|nil=>rfl|cons y l c=>simp[fD,dep,c]
  have:fD ((x::xs).map .int)=0:=d _;simp only[ci]at this;simp[Pu.eqT,eK,dv,fe,dep,this]
theorem iW(b:Bool)(i j:Int):Pu.eqT b (.int i) (.int j)=aa (.bl (b^^decide (i=j))):=by show(if pc (V.int i) (V.int j)then aa (PV.bl (b^^decide (V.int i=V.int j)))else ah)=_;have:pc (V.int i) (V.int j)=ae:=rfl;rw[if_pos this];simp
theorem lv(neg:Bool)(x y:Tx):Pu.eqT neg (.str x) (.str y)=aa (.bl (neg^^decide (x=y))):=by show(if pc (tV x) (tV y)then aa (PV.bl (neg^^decide (tV x=tV y)))else ah)=_;have:pc (tV x) (tV y)=ae:=rfl;rw[if_pos this];have e:(tV x=tV y)=(x=y):=propext ⟨LK,λh=>by rw[h]⟩;simp only[e]
theorem Jy(b:List Int)(k:Int)(i:0<=k):∃v,qI a [bM b,⇑k]=.ok (⇑v) [bM b,⇑k]:=by
 by_cases h:k<b.length
 .obtain⟨v,d⟩:=GO b k i h;refine⟨v,?_⟩;simp![qI,yaz,aS,aF,d,h]
 .have e:=v6 b;by_cases f:b=[]
  .subst f;refine⟨0,?_⟩;simp only[rF,HX]at e;have j:¬k<0:=∅
   simp![qI,yaz,aS,aF,e,j]
  .have m:0<b.length:=by cases b with|nil=>exact absurd rfl f|cons=>simp
   obtain⟨v,d⟩:=GO b (k % b.length) (Int.emod_nonneg _ ∅) (HY _ ∅);refine⟨v*31+k,?_⟩;have l:b.isEmpty=aj:=by cases b with|nil=>exact absurd rfl f|cons=>rfl
   rw[l]at e;have g:ji (.int k) (.int (b.length:Int))=aa (.int (k % b.length)):=by simp[ji];lia
   have c:gw (.int v) (.int 31)=aa (.int (v*31)):=by simp[gw,nV]
   simp![qI,yaz,aS,aF,h,e,g,d,c,aZ]
theorem zo{c:Type}(b:List c)(v:Int)(f:0<=v)(g:v<b.length):∃x∈b,fS b v=aa x:=by
 have d:v.toNat<b.length:=∅
 exact⟨b[v.toNat],HG _,wT f d⟩
theorem mG{n:Nat}(h:n<=1000000):fc [.int n]=aa (dE 0 n):=by show(if(n:Int)<=1000000/\-1000000<=(n:Int)then aa (dE 0 (n:Int).toNat)else ah)=_;rw[if_pos ⟨∅,∅⟩];simp
theorem tG{x y:Tx}(h:x.length+y.length<=bR):aZ (.str x) (.str y)=aa (.str (x++y)):=by show(if(x++y).length<=bR then aa (PV.str (x++y))else ah)=_;rw[if_pos (by rw[c_];exact h)]
theorem aX{d1 d2:ac->R aK}{ε ε1:ac}(h:d1 ε=.ok .next ε1):aw d1 d2 ε=d2 ε1:=by unfold aw;rw[h]
theorem fL{i:Nat}{d:ac->R PV}{ε ε1:ac}{x:PV}(h:d ε=.ok x ε1):aT i d ε=.ok .next (ε1.set i (.val x)):=by unfold aT;rw[h];rfl
theorem sT{i:Nat}{db:ac->R aK}{I:Nat->ac->Prop}{N:Nat}(step:∀k ε x,k<N->I k ε->∃b,db (ε.set i (.val x))=.ok .next b/\I (k+1) b):∀(c:List PV) (k:Nat) (ε:ac),k+c.length<=N->I k ε->∃b,fM i db c ε=.ok .next b/\I (k+c.length) b
 |[],k,ε,_,h=>⟨ε,rfl,h⟩
 |x::c,k,ε,f,h=>by simp only[eY]at f;obtain⟨ε1,m,j⟩:=step k ε x ∅ h;obtain⟨d,l,g⟩:=sT step c (k+1) ε1 ∅ j;refine⟨d,by unfold fM;rw[m];exact l,?_⟩;rw[eY,show k+(c.length+1)=k+1+c.length by lia];exact g
theorem pC{i:Nat}{db:ac->R aK}{I:List PV->ac->Prop}(step:∀(x:PV) (r:List PV) c,I (x::r) c->∃b,db (c.set i (.val x))=.ok .next b/\I r b):∀(d:List PV) (c:ac),I d c->∃b,fM i db d c=.ok .next b/\I [] b
 |[],c,h=>⟨c,rfl,h⟩
 |x::d,c,h=>by obtain⟨g,n,l⟩:=step x d c h;obtain⟨f,m,j⟩:=pC step d g l;exact⟨f,by unfold fM;rw[n];exact m,j⟩
theorem ml{cap:List Nat}{dt:ac->R Bool}{de:ac->R PV}{ε:ac}(p:PV->Bool)(f:PV->PV):∀(c:List PV),(∀x∈c,cu (d7 cap dt x ε)=.ok (p x) ε/\(p x=ae->cu (d7 cap de x ε)=.ok (f x) ε))->∀b,jl cap dt de c b ε=.ok (b++(c.filter p).map f) ε
 |[],_,b=>by simp[jl]
 |x::c,h,b=>by
  have i:=h x (by simp);have g:=ml p f c (λy j=>h y (by simp[j]));unfold jl;rw[i.1];simp only[R.bind_ok];cases d:p x with
  |false=>simp only[g b,rV,d];simp
  |true=>simp only[i.2 d,R.bind_ok,g (b++[f x]),rV,d];simp
theorem MU{z:Tx}{i w:Nat}(h:i+w<=z.length):cV z (aa (i:Int)) (aa ((i:Int)+w))=(z.drop i).take w:=by
 unfold cV;have c:HT.sIx z.length 0 (aa (i:Int))=i:=by rw[HT.sIx_nat];lia
 have b:HT.sIx z.length z.length (aa ((i:Int)+w))=i+w:=by rw[show(i:Int)+w=((i+w:Nat):Int) by lia,HT.sIx_nat];lia
 rw[c,b,Nat.add_sub_cancel_left]
structure Good(l:Tx)(w:Nat)(ls:List Tx):Prop where
 len:∀x∈ls,x.length=w
 abc:∀x∈ls,∀c∈x,c∈l
 some:1<=ls.length
 few:ls.length<=9
theorem Good.perm{l:Tx}{w:Nat}{c b:List Tx}(g:Good l w c)(p:b.Perm c):Good l w b:=⟨λx h=>g.len x (p.mem_iff.mp h),λx h=>g.abc x (p.mem_iff.mp h),by rw[p.length_eq];exact g.some,by rw[p.length_eq];exact g.few⟩
theorem fI(ls:List Tx):(ai ls).length=ls.length:=by simp[ai]
theorem L6(ls:List Tx):mw (ai ls)=ae:=by
 induction ls with
 |nil=>rfl
 |cons x ls b=>show(imm (.str x)&&mw (ai ls))=ae;rw[b];rfl
theorem uu(ls b:List Tx):ai ls++ai b=ai (ls++b):=by simp[ai]
theorem zt{c:Type}(b:List c)(n:Nat):cV b ah (aa (n:Int))=b.take n:=by
 unfold cV;have d:HT.sIx b.length 0 ah=0:=rfl;rw[d,HT.sIx_nat,x6,Nat.sub_zero];by_cases h:n<=b.length
 .rw[BY h]
 .rw[Nat.min_eq_right ∅,k6 (bC _),k6 ∅]
theorem tT{c:Type}(b:List c)(n:Nat):cV b (aa (n:Int)) ah=b.drop n:=by
 unfold cV;have d:HT.sIx b.length b.length ah=b.length:=rfl;rw[d,HT.sIx_nat];by_cases h:n<=b.length
 .rw[BY h,k6 (by rw[kX];lia)]
 .rw[Nat.min_eq_right ∅,HZ ∅,HZ ∅];simp
def Wn(w:Nat)(b:List Tx):Prop:=∀x∈b,x.length=w/\∀c∈x,c∈cA
theorem lB{t T:String}{b:Bool}{x:PV}(h:q0 x=aa t)(e:dD [] (.type t) (.type T)=aa b):cb [x,.raw (.ty T)]=aa (.bl b):=by show((q0 x).bind λt=>(dD [] (.type t) (.type T)).map λb=>PV.bl b)=_;rw[h,lO,e];rfl
theorem Fl:dD [] (.type "int") (.type "int")=aa ae:=by decide +kernel
theorem Gj:dD [] (.type "int") (.type "bool")=aa aj:=by decide +kernel
theorem Ld:dD [] (.type "bool") (.type "int")=aa ae:=by decide +kernel
theorem Q3:dD [] (.type "bool") (.type "bool")=aa ae:=by decide +kernel
theorem Oz:dD [] (.type "str") (.type "int")=aa aj:=by decide +kernel
theorem EJ:dD [] (.type "str") (.type "str")=aa ae:=by decide +kernel
theorem Je:dD [] (.type "int") (.type "str")=aa aj:=by decide +kernel
theorem vQ:dD [] (.type "tuple") (.type "tuple")=aa ae:=by decide +kernel
theorem Oa:dD [] (.type "int") (.type "tuple")=aa aj:=by decide +kernel
theorem J0(bs:List Bool):jg (bs.map .bl)=aa bs:=by
 induction bs with
 |nil=>rfl
 |cons b bs c=>show(jg (bs.map .bl)).map (b::·)=_;rw[c];rfl
theorem qz(bs:List Bool):lC [.lst (bs.map .bl)]=aa (.bl (bs.all id)):=by show(jg (bs.map .bl)).map _=_;rw[J0];rfl
theorem ME(z s:Tx):xy a [↥z,↥s]=.ok (.val (.bl (z.all s.contains))) [↥z,↥s]:=by
 have d:=ml (cap:=[1]) (dt:=bV) (de:=(d2 (dG aj) (dV 0) (dV 1))) (ε:=[↥z,↥s]) (λ_=>ae) (λx=>match x with|.str [c]=>.bl (s.contains c)|_=>.non) (z.map λc=>.str [c])
  (by
   intro x h;obtain⟨c,_,rfl⟩:=cp.mp h;refine⟨by simp![d7,eJ,cu,bV],λ_=>?_⟩;have b:dG aj (.str [c]) (.str s)=aa (.bl (s.contains c)):=by rw[<-JL];simp[dG]
   simp![d7,eJ,cu,b]) []
 have i:((z.map λc=>PV.str [c]).filter (λ_=>ae)).map (λx=>match x with|.str [c]=>PV.bl (s.contains c)|_=>.non)=(z.map s.contains).map .bl:=by rw[km.mpr (by simp),dZ,dZ];rfl
 rw[i_,i]at d;have f:(z.map s.contains).all id=z.all s.contains:=by rw[oj];rfl
 generalize z.map s.contains=bs at d f;have g:=qz bs;rw[f]at g;simp![xy,yao,bI,aR,iB,d,g]
def jy(w:Int)(s z:Tx):Bool:=decide ((z.length:Int)=w)&&z.all s.contains
theorem Kd(z s:Tx)(w:Int):qR a [↥z,⇑w,↥s]=.ok (.val (.bl (jy w s z))) [↥z,⇑w,↥s]:=by
 have d:cb [.str z,.raw (.ty "str")]=aa (.bl ae):=lB rfl EJ;have f:=ME (a:=a) z s;have c:aS [.str z]=aa (.int (z.length:Nat)):=rfl;have b:=iW aj (z.length:Nat) w;unfold jy;by_cases h:((z.length:Nat):Int)=w
 .simp only[h,decide_true,Bool.xor_true,Bool.not_false]at b;simp![qR,yaw,d,c,b,f,h]
 .simp only[h,decide_false,Bool.xor_false]at b;simp![qR,yaw,d,c,b,h]
theorem CG(d c:List Tx):fe (ai d) (ai c)=aa (decide (d=c)):=by
 induction d generalizing c with
 |nil=>cases c <;> simp[ai,fe]
 |cons x d f=>
  cases c with
  |nil=>simp[ai,fe]
  |cons y c=>
   show(dv (.str x) (.str y)).bind (λa=>(fe (ai d) (ai c)).map λb=>a&&b)=_;rw[f];have:dv (.str x) (.str y)=aa (decide (x=y)):=by
    show aa (tS x == tS y)=_;by_cases h:x=y
    .subst h;simp
    .have:tS x≠tS y:=λz=>h (oY z);simp[h,this]
   rw[this];simp[rW]
theorem CW(b:List Tx):fD (ai b)=0:=by
 induction b with
 |nil=>rfl
 |cons x b c=>show max (dep (.str x)) (fD (ai b))=0;rw[c];rfl
theorem A1(b:Bool)(ls c:List Tx):Pu.eqT b (.lst (ai ls)) (.lst (ai c))=aa (.bl (b^^decide (ls=c))):=by show(if dep (.lst (ai ls))<=8 then(fe (ai ls) (ai c)).map (λk=>PV.bl (b^^k))else ah)=_;rw[if_pos (by show fD (ai ls)+1<=8;rw[CW];decide),CG];rfl
theorem Kx(b:List Tx)(w:Int)(s:Tx)(t:1<=b.length)(r:b.length<=9):nM a [.val (.tup (ai b)),⇑w,↥s]=.ok (.val (.bl (b.all (jy w s)&&decide (b=bS b)))) [.val (.tup (ai b)),⇑w,↥s]:=by
 have h:cb [.tup (ai b),.raw (.ty "tuple")]=aa (.bl ae):=lB rfl vQ;have i:aS [.tup (ai b)]=aa (.int (b.length:Nat)):=by simp[aS,fI]
 have m:(1:Int)<=(b.length:Nat):=∅
 have l:((b.length:Nat):Int)<=9:=∅
 have c:=ml (cap:=[1,2]) (dt:=bV) (de:=(aL (aB (qR a) (gV (dV 0) (gV (dV 1) (gV (dV 2) (Pu.br))))))) (ε:=[.val (.tup (ai b)),⇑w,↥s]) (λ_=>ae) (λx=>match x with|.str z=>.bl (jy w s z)|_=>.non) (ai b)
  (by intro x o;obtain⟨z,_,rfl⟩:=cp.mp o;refine⟨by simp![d7,eJ,cu,bV],λ_=>?_⟩;have p:=Kd (a:=a) z s w;simp![d7,eJ,cu,p]) []
 have q:((ai b).filter (λ_=>ae)).map (λx=>match x with|.str z=>PV.bl (jy w s z)|_=>.non)=(b.map (jy w s)).map .bl:=by rw[km.mpr (by simp)];unfold ai;rw[dZ,dZ];rfl
 rw[i_,q]at c;have f:(b.map (jy w s)).all id=b.all (jy w s):=by rw[oj];rfl
 generalize b.map (jy w s)=bs at c f;have d:=qz bs;have n:b.length<64:=∅
 have g:=A1 aj b (bS b);cases j:b.all (jy w s)with
 |false=>rw[f,j]at d;simp![nM,yag,h,i,m,l,bI,aR,iB,c,d]
 |true=>rw[f,j]at d;simp only[gP]at g;simp![nM,yag,h,i,m,l,bI,aR,iB,c,d,kF,nP,vN,n,g]
theorem QY(b:List Tx)(w:Int)(s:Tx)(h:b.length=0\/9<b.length):nM a [.val (.tup (ai b)),⇑w,↥s]=.ok (.val (.bl aj)) [.val (.tup (ai b)),⇑w,↥s]:=by
 have c:cb [.tup (ai b),.raw (.ty "tuple")]=aa (.bl ae):=lB rfl vQ;have d:aS [.tup (ai b)]=aa (.int (b.length:Nat)):=by simp[aS,fI]
 by_cases f:(1:Int)<=(b.length:Nat)
 .have g:¬((b.length:Nat):Int)<=9:=∅
  simp![nM,yag,c,d,f,g]
 .simp![nM,yag,c,d,f]
theorem Pp(i:Int):mh a [⇑i]=.ok (.val (.bl ae)) [⇑i]:=by have c:cb [.int i,.raw (.ty "int")]=aa (.bl ae):=lB rfl Fl;have b:cb [.int i,.raw (.ty "bool")]=aa (.bl aj):=lB rfl Gj;simp![mh,yau,c,b]
theorem K_(i:Int):q8 a [⇑i]=.ok (.val (.bl (decide (1<=i/\i<=4)))) [⇑i]:=by
 have h:=Pp (a:=a) i;by_cases b:1<=i
 .by_cases c:i<=4
  .simp![q8,yav,h,b,c]
  .simp![q8,yav,h,b,c]
 .simp![q8,yav,h,b]
def sO(s:Tx)(w:Int)(b:List Tx):Bool:=decide (1<=w/\w<=4)&&(decide (1<=b.length/\b.length<=9)&&(b.all (jy w s)&&decide (b=bS b)))
theorem Q5(s:Tx)(w:Int)(b:List Tx):qL a [.val (.tup [.int w,.tup (ai b)]),↥s]=.ok (.val (.bl (sO s w b))) [.val (.tup [.int w,.tup (ai b)]),↥s]:=by
 have h:cb [.tup [.int w,.tup (ai b)],.raw (.ty "tuple")]=aa (.bl ae):=lB rfl vQ;have l:aS [.tup [.int w,.tup (ai b)]]=aa (.int 2):=rfl;have f:=iW ae 2 2;simp only[decide_true,BZ,Bool.not_true]at f;have j:aF (.tup [.int w,.tup (ai b)]) (.int 0)=aa (.int w):=rfl;have i:aF (.tup [.int w,.tup (ai b)]) (.int 1)=aa (.tup (ai b)):=rfl;have d:=K_ (a:=a) w;unfold sO;by_cases c:1<=w/\w<=4
 .rw[decide_eq_true c]at d ⊢;by_cases g:1<=b.length/\b.length<=9
  .have m:=Kx (a:=a) b w s g.1 g.2;rw[decide_eq_true g];simp![qL,yat,h,l,f,j,i,d,m]
  .have m:=QY (a:=a) b w s ∅;rw[decide_eq_false g];simp![qL,yat,h,l,f,j,i,d,m]
 .rw[decide_eq_false c]at d ⊢;simp![qL,yat,h,l,f,j,i,d]
abbrev vw(w:Int)(b:List Tx):Bool:=sO cA w b
theorem Lw(w:Int)(b:List Tx):wK a [.val (.tup [.int w,.tup (ai b)])]=.ok (.val (.bl (vw w b))) [.val (.tup [.int w,.tup (ai b)])]:=by have c:=Q5 (a:=a) cA w b;simp only[cA]at c;simp![wK,yas,c];rfl
theorem xf{w:Int}{b:List Tx}(h:vw w b=ae):lr a [.val (.tup [.int w,.tup (ai b)])]=.ok (.val .non) [.val (.tup [.int w,.tup (ai b)])]:=by have c:=Lw (a:=a) w b;rw[h]at c;simp![lr,yak,c]
theorem Good.vw{w:Nat}{d:List Tx}(g:Good cA w d)(n:1<=w)(m:w<=4)(h:d.Pairwise (λa b=>dy a b=ae)):vw w d=ae:=by
 have l:d.all (jy w cA)=ae:=by rw[mX];intro x f;unfold jy;rw[g.len x f,decide_eq_true rfl,BM,mX];intro c i;simpa using g.abc x f c i
 have j:decide (d=bS d)=ae:=decide_eq_true (xc h).symm;show sO cA w d=ae;unfold sO;rw[l,j,decide_eq_true (show 1<=(w:Int)/\(w:Int)<=4 by lia),decide_eq_true (show 1<=d.length/\d.length<=9 from⟨g.some,g.few⟩)];rfl
end
def bF(m:List (Tx×Int))(x:Tx):Option Int:=(m.find? λp=>decide (p.1=x)).map (·.2)
def dj(m:List (Tx×Int))(x:Tx)(n:Int):List (Tx×Int):=if(m.any λp=>decide (p.1=x))=ae then m.map (λp=>if p.1=x then(p.1,n)else p)else m++[(x,n)]
def dk(m:List (Tx×Int)):List (aP×PV):=m.map λp=>(Sum.inr (tS p.1),PV.int p.2)
theorem Bb(x y:Tx):((Sum.inr (tS x):aP)=Sum.inr (tS y))=(x=y):=propext ⟨λh=>oY (Sum.inr.inj h),λh=>by rw[h]⟩
theorem oN(m:List (Tx×Int))(x:Tx):hG (dk m) (Sum.inr (tS x))=(bF m x).map .int:=by
 induction m with
 |nil=>rfl
 |cons p m a=>
  show((List.find? _ ((Sum.inr (tS p.1),PV.int p.2)::dk m)).map (·.2))=_;unfold bF;rw[kf,kf];simp only[Bb];by_cases h:p.1=x
  .simp[h]
  .simp only[h,decide_false];exact a
theorem Qt(m:List (Tx×Int))(x:Tx):((dk m).any λa=>decide (a.1=(Sum.inr (tS x):aP)))=m.any λp=>decide (p.1=x):=by unfold dk;rw[uQ];congr 1;funext p;simp only[pZ,Bb]
theorem vU(m:List (Tx×Int))(x:Tx)(n:Int):nt (dk m) (Sum.inr (tS x)) (.int n)=dk (dj m x n):=by
 unfold nt dj;rw[Qt];split
 .unfold dk;rw[dZ,dZ];refine ki λp _=>?_;simp only[pZ,Bb];split <;> rfl
 .unfold dk;simp
theorem Fz(m:List (Tx×Int)):pi (dk m)=aa (m.any λp=>decide (p.2≠0)):=by
 induction m with
 |nil=>rfl
 |cons p m a=>show(pi (dk m)).map _=_;rw[a];simp
theorem vF{m:List (Tx×Int)}{x:Tx}(h:(m.any λp=>decide (p.1=x))=aj):bF m x=ah:=by unfold bF;rw[Option.map_eq_none_iff,List.find?_eq_none];intro p a;have:=Hn.mp h p a;simpa using this
theorem LW{m:List (Tx×Int)}{x y:Tx}{n:Int}(h:(m.any λp=>decide (p.1=x))=aj):bF (m++[(x,n)]) y=if y=x then aa n else bF m y:=by
 have a:=vF h;unfold bF at a ⊢;rw[List.find?_append];by_cases e:y=x
 .subst e;rw[Option.map_eq_none_iff]at a;simp[a]
 .rw[if_neg e];have:¬x=y:=λz=>e z.symm;cases b:m.find? (λp=>decide (p.1=y))with
  |none=>simp[this]
  |some p=>simp
theorem Jv{m:List (Tx×Int)}{x y:Tx}{n:Int}:bF (m.map λp=>if p.1=x then(p.1,n)else p) y=(bF m y).map λz=>if y=x then n else z:=by
 induction m with
 |nil=>rfl
 |cons p m a=>
  unfold bF at a ⊢;rw[ci,kf,kf];by_cases h:p.1=x
  .rw[if_pos h];by_cases e:p.1=y
   .simp[e,show y=x from e.symm.trans h]
   .simp only[e,decide_false];exact a
  .rw[if_neg h];by_cases e:p.1=y
   .simp[e,show ¬y=x from λz=>h (e.trans z)]
   .simp only[e,decide_false];exact a
theorem G3{m:List (Tx×Int)}{x:Tx}(h:(m.any λp=>decide (p.1=x))=ae):∃n,bF m x=aa n:=by
 unfold bF;cases a:m.find? (λp=>decide (p.1=x))with
 |none=>rw[List.find?_eq_none]at a;obtain⟨p,c,b⟩:=ox.mp h;exact absurd b (a p c)
 |some p=>exact⟨_,rfl⟩
theorem ma(m:List (Tx×Int))(x y:Tx)(n:Int):bF (dj m x n) y=if y=x then aa n else bF m y:=by
 unfold dj;by_cases h:(m.any λp=>decide (p.1=x))=ae
 .rw[if_pos h,Jv];by_cases e:y=x
  .subst e;obtain⟨k,a⟩:=G3 h;rw[a];simp
  .simp[e]
 .rw[if_neg h,LW (yk.mpr h)]
structure nI(m:List (Tx×Int))(q:List Tx):Prop where
 nd:(m.map (·.1)).Nodup
 get:∀x,(bF m x).getD 0=(q.count x:Nat)
theorem nI.mem{m:List (Tx×Int)}{q:List Tx}(h:nI m q){p:Tx×Int}(a:p∈m):bF m p.1=aa p.2:=by
 have b:=h.nd;clear h
 induction m with
 |nil=>cases a
 |cons r m c=>
  unfold bF;rw[kf];rcases bA.mp a with rfl|a
  .simp
  .rw[ci,jT]at b;have:¬r.1=p.1:=λz=>b.1 (cp.mpr ⟨p,a,z.symm⟩);simp only[this,decide_false];exact c a b.2
theorem Dr{m:List (Tx×Int)}{x:Tx}{n:Int}:(dj m x n).map (·.1)=if(m.any λp=>decide (p.1=x))=ae then m.map (·.1)else m.map (·.1)++[x]:=by
 unfold dj;split
 .rw[dZ];refine ki λp _=>?_;simp only[pZ];split <;> rfl
 .simp
theorem o4{m:List (Tx×Int)}{x:Tx}{n:Int}(h:(m.map (·.1)).Nodup):((dj m x n).map (·.1)).Nodup:=by
 rw[Dr];split
 .exact h
 .rename_i f;rw[HL];refine⟨h,by simp,λa g b c=>?_⟩;rw[jr]at c;subst c;rintro rfl;obtain⟨p,d,rfl⟩:=cp.mp g;exact f (ox.mpr ⟨p,d,by simp⟩)
theorem nI.any{m:List (Tx×Int)}{q:List Tx}(h:nI m q):(m.any λp=>decide (p.2≠0))=!q.isEmpty:=by
 cases q with
 |nil=>rw[HX,Bool.not_true,Hn];intro p b;have a:=h.get p.1;rw[h.mem b]at a;simpa using a
 |cons x q=>
  rw[List.isEmpty_cons,Bool.not_false,ox];have a:=h.get x;rw[List.count_cons_self]at a;cases e:m.find? (λp=>decide (p.1=x))with
  |none=>unfold bF at a;rw[e]at a;simp at a;lia
  |some p=>unfold bF at a;rw[e]at a;refine⟨p,List.mem_of_find?_eq_some e,?_⟩;simp at a;simp;lia
theorem nI.dec{m:List (Tx×Int)}{q:List Tx}(h:nI m q){x:Tx}(i:x∈q):∃n,bF m x=aa n/\0<n/\nI (dj m x (n-1)) (q.erase x)/\bF (dj m x (n-1)) x=aa (n-1)/\dj (dj m x (n-1)) x (n-1+1)=m:=by
 have a:=h.get x;have o:0<q.count x:=List.count_pos_iff.mpr i;cases e:bF m x with
 |none=>rw[e]at a;simp at a;lia
 |some n=>
  rw[e]at a;simp only[H_]at a;refine⟨n,rfl,∅,⟨o4 h.nd,λy=>?_⟩,by rw[ma,if_pos rfl],?_⟩
  .rw[ma];by_cases c:y=x
   .subst c;rw[if_pos rfl,List.count_erase_self];simp only[H_];lia
   .rw[if_neg c,List.count_erase_of_ne (fj (fj c))];exact h.get y
  .have f:(m.any λp=>decide (p.1=x))=ae:=by
    cases z:(m.any λp=>decide (p.1=x))with
    |true=>rfl
    |false=>rw[vF z]at e;cases e
   have j:((dj m x (n-1)).any λp=>decide (p.1=x))=ae:=by unfold dj;rw[if_pos f];obtain⟨p,d,b⟩:=ox.mp f;refine ox.mpr ⟨_,cp.mpr ⟨p,d,rfl⟩,?_⟩;rw[decide_eq_true_eq]at b;rw[if_pos b];simpa using b
   have l:dj (dj m x (n-1)) x (n-1+1)=(m.map λp=>if p.1=x then(p.1,n-1)else p).map λp=>if p.1=x then(p.1,n-1+1)else p:=by show(if((dj m x (n-1)).any λp=>decide (p.1=x))=ae then _ else _)=_;rw[if_pos j];unfold dj;rw[if_pos f]
   rw[l,dZ];have:∀p∈m,((λp:Tx×Int=>if p.1=x then(p.1,n-1+1)else p) ∘ λp:Tx×Int=>if p.1=x then(p.1,n-1)else p) p=p:=by
    intro p d;simp only[pZ];by_cases c:p.1=x
    .rw[if_pos c,if_pos c];have g:=h.mem d;rw[c,e]at g;cases g;rw[show p.2-1+1=p.2 by lia]
    .rw[if_neg c,if_neg c]
   rw[ki this,List.map_id''];intro p;rfl
theorem nI.zero{m:List (Tx×Int)}{q:List Tx}(h:nI m q){x:Tx}(a:x∉q):(bF m x).getD 0=0:=by rw[h.get,HV a];rfl
section
variable{a:Ad}
theorem PX(b:List Tx)(F:b.length<=100):∃m,nI m b/\m.length<=b.length/\ut a [.val (.tup (ai b))]=.ok (.own (.dK (dk m))) [.val (.tup (ai b))]:=by
 obtain⟨v,u,m,g,l,rfl,f,j,B⟩:=pC (i:=2) (db:=(fQ 1 (dV 2) (d2 aZ (il 1 (dV 2) (dC (.int 0))) (dC (.int 1)))))
  (I:=λr h=>∃(m:List (Tx×Int)) (g:Slot) (l:List Tx),h=[.val (.tup (ai b)),.own (.dK (dk m)),g]/\nI m l/\m.length<=l.length/\∃q,b=l++q/\r=ai q)
  (by
   rintro x r h ⟨m,g,l,rfl,f,j,q,d,p⟩;cases q with
   |nil=>cases p
   |cons y q=>
    have n:x::r=.str y::ai q:=p;simp only[rW]at n;obtain⟨rfl,rfl⟩:=n;have E:m.length<bR:=by have:=congrArg n9 d;simp at this;unfold bR;lia
    refine⟨[.val (.tup (ai b)),.own (.dK (dk (dj m y ((bF m y).getD 0+1)))),↥y],?_,dj m y ((bF m y).getD 0+1),_,l++[y],rfl,⟨o4 f.nd,λz=>?_⟩,?_,q,by rw[d];simp,rfl⟩
    .have o:=oN m y;have s:=vU m y ((bF m y).getD 0+1);have t:(dk m).length<bR:=by unfold dk;rw[b0];exact E
     have A:((bF m y).map PV.int).getD (.int 0)=.int ((bF m y).getD 0):=by cases bF m y <;> rfl
     generalize dk m=D at o s t;simp![fQ,il,dw,gY,o,A,aZ,t,s]
    .rw[ma];by_cases c:z=y
     .subst c;rw[if_pos rfl,HW,List.count_singleton_self];have:=f.get z;simp only[H_];lia
     .rw[if_neg c,HW,f.get z];have:[y].count z=0:=HV (by simpa using c);rw[this];rfl
    .have:(dj m y ((bF m y).getD 0+1)).length<=m.length+1:=by
      unfold dj;split <;> simp
     rw[c_,og];lia)
  (ai b) [.val (.tup (ai b)),.own (.dK (dk [])),.none] ⟨[],.none,[],rfl,⟨by simp,λx=>by simp[bF]⟩,by simp,b,by simp,rfl⟩
 obtain⟨q,d,w⟩:=B;have:q=[]:=by cases q with|nil=>rfl|cons=>cases w
 subst this;rw[i6]at d;subst d;refine⟨m,f,j,?_⟩;have C:dk []=[]:=rfl;rw[C]at u;simp![ut,yal,qE,cj,aR,iB,dr,u,j8]
theorem N9{t:Tx}{w:Nat}(b:w<=t.length+1)(c:1<=w):bD (.str t) (aa ((t.length:Int)-w+1)) ah=aa (.str (t.drop (t.length+1-w))):=by show aa (PV.str (cV t _ ah))=_;rw[show((t.length:Int)-w+1)=((t.length+1-w:Nat):Int) by lia,tT]
def iU(c:Nat):PV:=.str [c]
theorem ET(w:Nat)(T:1<=w):∀(r u:Nat) (t:Tx) (m:List (Tx×Int)) (q:List Tx) (b:List Tx),r<u->q.length=r->nI m q->w<=t.length+1->t.length+r<=1000->m.length<=1000->b.length+(ii w r t q).length<=bR -> nW a u [↥t,⇑w,.own (.dK (dk m)),.own (.lst (ai b))]=.ok (.val .non) [↥t,⇑w,.own (.dK (dk m)),.own (.lst (ai (b++ii w r t q)))]
 |0,0,_,_,_,_,h,_,_,_,_,_,_=>absurd h ∅
 |r+1,0,_,_,_,_,h,_,_,_,_,_,_=>absurd h ∅
 |0,u+1,t,m,q,b,_,hq,hm,hw,ht,sj,hs=>by
  have P:q=[]:=ot.mp hq;subst P;have d:=Fz m;rw[hm.any]at d;simp only[HX,Bool.not_true]at d;have Z:(ai b).length<bR:=by rw[fI];simp only[ii,og]at hs;lia
  have e:ai (b++ii w 0 t [])=ai b++[.str t]:=by simp[ai,ii]
  rw[e];generalize dk m=D at d;generalize ai b=L at Z;simp![nW,yac,tJ,dw,d,Z]
 |r+1,u+1,t,m,q,b,hf,hq,hm,hw,ht,sj,hs=>by
  have cy:q.isEmpty=aj:=by cases q with|nil=>cases hq|cons=>rfl
  have d:=Fz m;rw[hm.any,cy]at d;simp only[Bool.not_false]at d;have C:=N9 (t:=t) hw T;have bT:aS [.str t]=aa (.int (t.length:Nat)):=rfl;have kn:gv (.int (t.length:Nat)) (.int w)=aa (.int ((t.length:Int)-w)):=rfl;have m_:aZ (.int ((t.length:Int)-w)) (.int 1)=aa (.int ((t.length:Int)-w+1)):=rfl
  let H:=t.drop (t.length+1-w)
  let f:=λc=>if H++[c]∈q then ii w r (t++[c]) (q.erase (H++[c]))else []
  have hE:ii w (r+1) t q=cA.flatMap f:=rfl;have hH:H.length<=1000:=by simp only[H,kX];lia
  obtain⟨ε',v,K,J,p,rest,s,qg,rfl⟩:=pC (i:=5) (db:=(aw (aT 6 (d2 aZ (dV 4) (dV 5)))
 (aV (dB (d2 (bt λi j=>decide (j<i)) (il 2 (dV 6) (dC (.int 0))) (dC (.int 0)))) (aw (fQ 2 (dV 6) (d2 gv (fz 2 (dV 6)) (dC (.int 1))))
 (aw (jQ (aB (nW a u) (gV (d2 aZ (dV 0) (dV 5)) (gV (dV 1) (gO 2 (gO 3 (Pu.br)))))))
 (fQ 2 (dV 6) (d2 aZ (fz 2 (dV 6)) (dC (.int 1)))))) (bh))))
   (I:=λM S=>∃(K J:Slot) (p rest:Tx),cA=p++rest/\M=rest.map iU/\S=[↥t,⇑w,.own (.dK (dk m)),.own (.lst (ai (b++p.flatMap f))),↥H,K,J])
   (by
    rintro x M S ⟨K,J,p,rest,s,Y,rfl⟩;cases rest with
    |nil=>cases Y
    |cons c rest=>
     have Ip:x::M=iU c::rest.map iU:=Y;simp only[rW]at Ip;obtain⟨rfl,rfl⟩:=Ip;have A:aZ (.str H) (.str [c])=aa (.str (H++[c])):=tG (by simp[bR];lia);have O:aZ (.str t) (.str [c])=aa (.str (t++[c])):=tG (by simp[bR];lia);have Rj:b.length+(p.flatMap f).length+(f c).length<=bR:=by rw[hE,s,Ia,rT,c_,c_]at hs;lia
     have W:ai (b++(p++[c]).flatMap f)=ai ((b++p.flatMap f)++f c):=by simp
     by_cases E:H++[c]∈q
     .obtain⟨n,Q,g2,g3,g4,g5⟩:=hm.dec E;have g:f c=ii w r (t++[c]) (q.erase (H++[c])):=if_pos E;have y:=ET w T r u (t++[c]) (dj m (H++[c]) (n-1)) (q.erase (H++[c])) (b++p.flatMap f) ∅ (by rw[BX E,hq];rfl) g3 (by simp;lia) (by simp;lia)
       (by
        have:(dj m (H++[c]) (n-1)).length=m.length:=by
         have:=congrArg n9 (Dr (m:=m) (x:=H++[c]) (n:=n-1));have d:(m.any λp=>decide (p.1=H++[c]))=ae:=by
          cases z:(m.any λp=>decide (p.1=H++[c]))with
          |true=>rfl
          |false=>rw[vF z]at Q;cases Q
         rw[if_pos d]at this;simpa using this
        lia)
       (by rw[<-g,c_];exact Rj)
      rw[<-g]at y;have l:=oN m (H++[c]);rw[Q]at l;have o:=vU m (H++[c]) (n-1);have F:=oN (dj m (H++[c]) (n-1)) (H++[c]);rw[g4]at F;have G:=vU (dj m (H++[c]) (n-1)) (H++[c]) (n-1+1);rw[g5,show n-1+1=n by lia]at G;have B:(dk m).length<bR:=by unfold dk;rw[b0];unfold bR;lia
      have X:(dk (dj m (H++[c]) (n-1))).length<bR:=by
       unfold dk;rw[b0];have:(dj m (H++[c]) (n-1)).length<=m.length+1:=by unfold dj;split <;> simp
       unfold bR;lia
      have gt:(0:Int)<n:=g2;refine⟨[↥t,⇑w,.own (.dK (dk m)),.own (.lst (ai (b++(p++[c]).flatMap f))),↥H,.val (.str [c]),↥(H++[c])],?_,_,_,p++[c],rest,by rw[s];simp,rfl,rfl⟩;rw[W];have s1:gv (.int n) (.int 1)=aa (.int (n-1)):=rfl;have s2:aZ (.int (n-1)) (.int 1)=aa (.int n):=by show aa (PV.int (n-1+1))=_;congr 2;lia
      simp only[rN]at l F;generalize dk m=D at l o G B;generalize dk (dj m (H++[c]) (n-1))=D2 at F o G y X;generalize ai (b++p.flatMap f)=L at y;generalize ai ((b++p.flatMap f)++f c)=L2 at y;clear_value H f;simp![iU,A,il,fz,fQ,dw,gY,l,gt,s1,B,o,O,y,F,s2,X,G]
     .have g:f c=[]:=if_neg E;have N:=hm.zero E;have l:=oN m (H++[c]);have hg:((bF m (H++[c])).map PV.int).getD (.int 0)=.int 0:=by
       cases e:bF m (H++[c])with
       |none=>rfl
       |some k=>rw[e]at N;simp at N;subst N;rfl
      refine⟨[↥t,⇑w,.own (.dK (dk m)),.own (.lst (ai (b++(p++[c]).flatMap f))),↥H,.val (.str [c]),↥(H++[c])],?_,_,_,p++[c],rest,by rw[s];simp,rfl,rfl⟩;rw[W,g,i6];generalize dk m=D at l;generalize ai (b++p.flatMap f)=L;clear_value H f;simp![iU,A,il,dw,gY,l,hg])
   (cA.map iU) [↥t,⇑w,.own (.dK (dk m)),.own (.lst (ai (b++([]:Tx).flatMap f))),↥H,.none,.none] ⟨.none,.none,[],cA,by simp,rfl,rfl⟩
  have qi:rest=[]:=by cases rest with|nil=>rfl|cons=>cases qg
  subst qi;rw[i6]at s;rw[hE];rw[<-s]at v;simp only[HR,i6]at v;have Ca:iB (.str [97,98,99])=aa (cA.map iU):=rfl;have Ro:bD (.str t) (aa ((t.length:Int)-w+1)) ah=aa (.str H):=C;generalize dk m=D at d v;generalize ai b=L at v;generalize ai (b++cA.flatMap f)=L2 at v;clear_value H f;simp![nW,yac,tJ,dw,d,be,aY,bj,bT,kn,m_,Ro,dr,cj,aR,Ca,v]
end
section
variable{a:Ad}
abbrev aE(w:Nat)(ls:List Tx):PV:=.tup [.int w,.tup (ai ls)]
theorem EV{c:Type}(b:List c):cV b ah (aa (-1))=b.dropLast:=by unfold cV;rw[show HT.sIx b.length 0 ah=0 from rfl,x6,Nat.sub_zero,B0];congr 1;show(HT.sIx b.length b.length (aa (-1)))=_;show(if(-1:Int)<0 then((-1:Int)+(b.length:Int)).toNat else min (-1:Int).toNat b.length)=_;rw[if_pos (by decide)];lia
theorem NE{w:Nat}{b:List Tx}(g:Good cA w b)(d:1<=w)(f:w<=4):(et w b).length<=531441:=by rw[xh d g.some λx c=>⟨g.len x c,g.abc x c⟩];refine dX (uS _ _) ?_;rw[A0];exact dX (Nat.pow_le_pow_right (by decide) (show w-1+b.length<=12 by have:=g.few;lia)) (by decide)
theorem Jf(V:PV)(d:List Tx)(w:Nat)(c b:Slot):jl [] bV (be bD (dV 0) bj (aY (d1 dq (dC (.int 1))))) (ai d) [] [.val V,⇑w,c,b]=.ok (ai (d.map k8)) [.val V,⇑w,c,b]:=by
 have i:=ml (cap:=[]) (dt:=bV) (de:=(be bD (dV 0) bj (aY (d1 dq (dC (.int 1)))))) (ε:=[.val V,⇑w,c,b]) (λ_=>ae) (λx=>match x with|.str z=>.str z.dropLast|_=>.non) (ai d)
  (by
   intro x f;obtain⟨z,_,rfl⟩:=cp.mp f;refine⟨by simp![d7,eJ,cu,bV],λ_=>?_⟩;have g:bD (.str z) ah (aa (-1))=aa (.str z.dropLast):=by show aa (PV.str (cV z ah (aa (-1))))=_;rw[EV]
   have h:dq (.int 1)=aa (.int (-1)):=rfl;simp![d7,eJ,cu,be,bj,aY,h,g]) []
 rw[i,i_,km.mpr (by simp)];unfold ai;rw[dZ,dZ];rfl
theorem Qj{w:Nat}{c:List Tx}(g:Good cA w c)(s:1<=w)(F:w<=4)(X:c.Pairwise (λa b=>dy a b=ae)):xi a [.val (aE w c)]=.ok (.own (.lst (ai (et w c)))) [.val (aE w c)]:=by
 have v:=xf (a:=a) (g.vw s F X);have A:aF (aE w c) (.int 0)=aa (.int w):=rfl;have n:aF (aE w c) (.int 1)=aa (.tup (ai c)):=rfl;obtain⟨m,B,J,l⟩:=PX (a:=a) c (by have:=g.few;lia);have O:m.length<=1000:=by have:=g.few;lia
 let hd:=bS (fu (c.map k8))
 have S:∀h∈hd,h.length=w-1:=λh K=>by have B:=(qF _ _).mp ((fZ _).mem_iff.mp K);obtain⟨y,W,rfl⟩:=cp.mp B;rw[yf,g.len y W]
 let f:=λh=>ii w c.length h c
 have M:et w c=hd.flatMap f:=rfl;have C:=NE g s F;obtain⟨N,j,t,p,rest,o,Q,rfl⟩:=pC (i:=3) (db:=(jQ (sB (nW a 12) (qK (dV 3) (qK (dV 1) (gN (gH (aB (ut a) (gV (d2 aF (dV 0) (dC (.int 1))) (Pu.br)))) (gO 2 (Pu.br))))))))
  (I:=λr E=>∃(t:Slot) (p rest:List Tx),hd=p++rest/\r=ai rest/\E=[.val (aE w c),⇑w,.own (.lst (ai (p.flatMap f))),t])
  (by
   rintro x r E ⟨t,p,rest,o,H,rfl⟩;cases rest with
   |nil=>cases H
   |cons h rest=>
    have G:x::r=.str h::ai rest:=H;simp only[rW]at G;obtain⟨rfl,rfl⟩:=G;have K:h.length=w-1:=S h (by rw[o];simp);have q:=ET (a:=a) w s c.length 12 h m c (p.flatMap f) (by have:=g.few;lia) rfl B ∅ (by have:=g.few;lia) O (by rw[M,o,Ia,rT,c_,c_]at C;show(p.flatMap f).length+(f h).length<=bR;unfold bR;lia);refine⟨[.val (aE w c),⇑w,.own (.lst (ai ((p++[h]).flatMap f))),↥h],?_,_,p++[h],rest,by rw[o];simp,rfl,rfl⟩;have Z:(p++[h]).flatMap f=p.flatMap f++ii w c.length h c:=by simp[f]
    rw[Z];generalize ai (p.flatMap f)=L at q;generalize ai (p.flatMap f++ii w c.length h c)=L2 at q;generalize dk m=D at q l;simp only[aE]at n ⊢;generalize ai c=T at l n;clear_value f hd;simp![sB,qK,gN,Ed,n,l,q])
  (ai hd) [.val (aE w c),⇑w,.own (.lst (ai (([]:List Tx).flatMap f))),.none] ⟨.none,[],hd,by simp,rfl,rfl⟩
 have P:rest=[]:=by cases rest with|nil=>rfl|cons=>cases Q
 subst P;rw[i6]at o;rw[<-o,<-M]at j;simp only[HR]at j;have d:=Jf (aE w c) c w (.own (.lst [])) .none;have u:nL [.lst (ai (c.map k8))]=aa (.lst (ai hd)):=by show(jn (ai _)).bind _=_;have h2:=g.few;rw[vN,lO,if_pos ⟨λz=>by have:=congrArg n9 z;have:=g.some;simp at *;simp_all,BH (FI _) (by rw[b0];lia)⟩]
 have e0:ai ([]:List Tx)=[]:=rfl;rw[e0]at j;generalize ai (et w c)=L at j;generalize ai hd=D at j u;generalize ai (c.map k8)=D0 at d u;simp only[aE]at v A n d j ⊢;generalize Y:ai c=T at v A n d j;clear_value f hd;simp![xi,yaL,v,A,n,dr,cj,aR,iB,bI,d,u,j,j8]
theorem JN{w:Nat}{ls:List Tx}(g:Good cA w ls)(f:1<=w)(d:w<=4)(h:ls.Pairwise (λa b=>dy a b=ae)):tE a [.val (aE w ls)]=.ok (⇑((et w ls).length:Nat)) [.val (aE w ls)]:=by
 have ht:=Qj (a:=a) g f d h;have c:aS [.lst (ai (et w ls))]=aa (.int ((et w ls).length:Nat)):=by simp[aS,fI]
 generalize ai (et w ls)=L at ht c;simp![tE,yaq,ht,c]
theorem Mc(b:List Tx):gI (ai b)=aa (eN b):=by
 induction b with
 |nil=>rfl
 |cons x b c=>show(eK (.str x)).bind (λv=>(gI (ai b)).map (v::·))=_;rw[c];rfl
theorem FV(b:List Tx)(x:Tx):o0 (ai b) (.str x)=aa (.int (b.count x:Nat)):=by show(eK (.str x)).bind (λv=>(gI (ai b)).map λc=>PV.int (c.countP λz=>f8 z v))=_;rw[Mc,<-Km];rfl
theorem PQ(b:Bool)(c d:List Tx):Pu.eqT b (.tup (ai c)) (.tup (ai d))=aa (.bl (b^^decide (c=d))):=by show(if dep (.tup (ai c))<=8 then(fe (ai c) (ai d)).map (λk=>PV.bl (b^^k))else ah)=_;rw[if_pos (by show fD (ai c)+1<=8;rw[CW];decide),CG];rfl
def nextT(w:Nat)(b:List Tx)(t:Tx):List Tx:=(cA.map λc=>t++[c]).filter (unD w b)
theorem P3{k:Nat}(h:k<=12):3^k<=531441:=dX (Nat.pow_le_pow_right (by decide) h) (by decide)
end
end Sh
namespace Mx
open L2 Pu
def mL(z:Tx)(i:Nat):Nat:=z.getD (i % z.length) 0
def LH(z:Tx)(w:Nat):Tx:=((cr w z).flatten).take (z.length+w-1)
theorem len_sub{l m:List Tx}(a:l.Nodup)(h:∀x∈l,x∈m):l.length<=m.length:=by
 induction l generalizing m with
 |nil=>simp
 |cons x l d=>rw[jT]at a;have c:x∈m:=h x (by simp);have:=d (m:=m.erase x) a.2 λy b=>(List.mem_erase_of_ne (λz=>a.1 (by rw[<-z];exact b))).mpr (h y (by simp[b]));rw[BX c]at this;have f:0<m.length:=Ib c;rw[eY];lia
theorem pB{z:Tx}{w:Nat}(a:1<=w):(bp z w).length=z.length+1-w:=by rw[nR z w a];simp
def O0(t:Tx)(w:Nat):List Tx:=(eC t.length).filter λz=>(bp z w).isPerm (bp t w)
theorem Cc{w:Nat}{d:List Tx}(f:1<=w)(i:1<=d.length)(j:∀x∈d,x.length=w/\∀c∈x,c∈cA)(h:d.Pairwise (λa b=>dy a b=ae)){z:Tx}(g:∀c∈z,c∈cA):z∈et w d↔bS (bp z w)=d:=by
 rw[xh f i j,jq,mB,List.isPerm_iff];constructor
 .rintro⟨_,p⟩;rw[vK p,xc h]
 .intro e;have p:(bp z w).Perm d:=by rw[<-e];exact(fZ _).symm
  have l:=p.length_eq;rw[pB f]at l;exact⟨⟨∅,g⟩,p⟩
theorem IR{w:Nat}{a:List Tx}(b:1<=w)(d:1<=a.length)(f:∀x∈a,x.length=w/\∀c∈x,c∈cA){z:Tx}(h:z∈et w a):z.length=w-1+a.length/\∀c∈z,c∈cA:=by rw[xh b d f,jq,mB]at h;exact h.1
end Mx
namespace Sh
open L2 Pu Mx
structure Vd where
 w:Nat
 ls:List Tx
def tx(v:Vd):List Tx:=et v.w v.ls
section
variable{a:Ad}
def CU(t:Tx)(v:Nat):List Tx:=(cg (t.length+1-v)).map λi=>(t.drop i).take v
def qB(b c:Nat):List Nat:=List.range' b (c-b)
def part(t:Tx)(i j:Nat):Tx:=(t.drop i).take (j-i)
def mL(b:List Tx)(i:Nat):Tx:=b.getD i []
def OV(t:Tx)(s e g l:Nat):Tx:=t.take s++part t g l++part t e g++part t s e++t.drop l
def O7(t:Tx)(b:List Tx)(s g e:Nat):List Tx:=(qB (g+1) b.length).flatMap λl=>if mL b e=mL b l then [OV t s e g l] else []
def LX(t:Tx)(b:List Tx)(s g:Nat):List Tx:=(qB (s+1) (g+1)).flatMap λe=>O7 t b s g e
theorem DQ{i:Nat}{b:ac}{c:PO}(h:b[i]?=aa (.own c)):j8 i b=.ok (.ret (.own c)) (b.set i .none):=by unfold j8;rw[h]
theorem wJ{i:Nat}{di:ac->R (List PV)}{db:ac->R aK}{ε c b:ac}{xs:List PV}(h:di ε=.ok xs c)(d:fM i db xs c=.ok .next b):cj i di db ε=.ok .next b:=by unfold cj;rw[h];exact d
end
section
variable{a:Ad}
def JA(t:Tx)(b:List Tx)(s:Nat):List Tx:=(qB (s+1) b.length).flatMap λg=>if mL b s=mL b g then LX t b s g else []
def N2(t:Tx)(b:List Tx):List Tx:=(qB 0 b.length).flatMap λs=>JA t b s
theorem aG{i:Nat}{ε:ac}{v:PV}(h:ε[i]?=aa (.val v)):dV i ε=.ok v ε:=by unfold dV;rw[h]
theorem eL{b:Type}{c:ac->R Bool}{d1 d2:ac->R b}{ε ε1:ac}(h:c ε=.ok ae ε1):aV c d1 d2 ε=d1 ε1:=by unfold aV;rw[h];rfl
theorem Ny{d:Type}{c:ac->R Bool}{d1 d2:ac->R d}{ε b:ac}(h:c ε=.ok aj b):aV c d1 d2 ε=d2 b:=by unfold aV;rw[h];rfl
theorem bW{d:ac->R PV}{b:Bool}{ε ε1:ac}(h:d ε=.ok (.bl b) ε1):dB d ε=.ok b ε1:=by unfold dB;rw[h];rfl
def IC(t:Tx)(m w:Nat):List Tx:=(qB 1 m).map λp=>LH ((t.take m).drop p++(t.take m).take p) w
def MA(t:Tx)(b:List Tx)(w:Nat):List Tx:=if mL b 0=mL b (b.length-1)then IC t (b.length-1) w else []
def KF(t:Tx)(w:Nat):List Tx:=N2 t (CU t (w-1))++MA t (CU t (w-1)) w
def J8(t:Tx)(m:Nat):List Tx:=(qB 1 m).map λp=>part (cr 3 (t.take m)).flatten p (p+t.length)
def j7(t:Tx)(b:List Tx):List Tx:=if mL b 0=mL b (b.length-1)then J8 t (b.length-1)else []
end
section
variable{a:Ad}
theorem zT{t:ac->R Bool}{c:ac->R aK}{n:Nat}{d ε1 b:ac}(h:t d=.ok ae ε1)(f:c ε1=.ok .next b):iF t c (n+1) d=iF t c n b:=by rw[iF,h,R.bind_ok];simp only;rw[f]
theorem Ge{t:ac->R Bool}{c:ac->R aK}{n:Nat}{b ε1:ac}(h:t b=.ok aj ε1):iF t c (n+1) b=.ok .next ε1:=by rw[iF,h,R.bind_ok]
end
abbrev gr(t:Tx)(v i:Nat):Tx:=(t.drop i).take v
theorem sX{t:Tx}{v i:Nat}:(gr t (v+1) i).take v=gr t v i:=by unfold gr;rw[List.take_take,BY ∅]
theorem zF{t:Tx}{v i:Nat}:(gr t (v+1) i).tail=gr t v (i+1):=by
 unfold gr;refine BS λk=>?_;rw[List.getElem?_tail,List.getElem?_take,List.getElem?_take,HM,HM];by_cases h:k<v
 .rw[if_pos ∅,if_pos h];congr 1;lia
 .rw[if_neg ∅,if_neg h]
theorem Dw{t:Tx}{v:Nat}{x:Tx}:x∈bp t (v+1)↔∃i,i+v<t.length/\x=gr t (v+1) i:=by
 rw[nR _ _ ∅,cp];constructor
 .rintro⟨i,a,rfl⟩;exact⟨i,by have:=ka.mp a;lia,rfl⟩
 .rintro⟨i,a,rfl⟩;exact⟨i,ka.mpr ∅,rfl⟩
theorem GS{v:Nat}{y:Tx}:∀(k:Nat) (t:Tx) (i:Nat),((List.range' i k).map λj=>if gr t v j=y then 1 else 0).sum+(if gr t v (i+k)=y then 1 else 0)=((List.range' i k).map λj=>if gr t v (j+1)=y then 1 else 0).sum+(if gr t v i=y then 1 else 0)
 |0,t,i=>by simp
 |k+1,t,i=>by have a:=GS (v:=v) (y:=y) k t (i+1);rw[List.range'_succ,ci,ci,jX,jX,show i+(k+1)=i+1+k by lia];lia
end Sh
namespace Mx
open L2 Pu
theorem Db(w:Nat):∀(s r t:Tx),nw w t (s++r)=nw w t s++nw w (t++s) r
 |[],r,t=>by simp[nw]
 |c::s,r,t=>by rw[yh,nw,nw,Db w s r (t++[c]),yh,iK];rfl
end Mx
namespace Sh
open L2 Pu Mx
section
variable{v:Nat}
def oc(v:Nat)(M:List Tx)(y:Tx):Nat:=(M.map λx=>if x.take v=y then 1 else 0).sum
def ic(M:List Tx)(y:Tx):Nat:=(M.map λx=>if x.tail=y then 1 else 0).sum
theorem wu(M N:List Tx)(y:Tx):oc v (M++N) y=oc v M y+oc v N y:=by simp[oc]
theorem w_(M N:List Tx)(y:Tx):ic (M++N) y=ic M y+ic N y:=by simp[ic]
theorem sD{M N:List Tx}(h:M.Perm N)(y:Tx):oc v M y=oc v N y:=(h.map _).sum_nat
theorem sE{M N:List Tx}(h:M.Perm N)(y:Tx):ic M y=ic N y:=(h.map _).sum_nat
theorem Ry{M:List Tx}{y:Tx}:0<oc v M y↔∃x∈M,x.take v=y:=by
 unfold oc
 induction M with
 |nil=>simp
 |cons a M f=>
  rw[ci,jX];by_cases c:a.take v=y
  .rw[if_pos c];exact⟨λ_=>⟨a,by simp,c⟩,λ_=>∅⟩
  .rw[if_neg c,lP,f];exact⟨λ⟨x,d,b⟩=>⟨x,by simp[d],b⟩,λ⟨x,d,b⟩=>⟨x,(bA.mp d).resolve_left λe=>c (e ▸ b),b⟩⟩
theorem RZ{M:List Tx}{y:Tx}:0<ic M y↔∃x∈M,x.tail=y:=by
 unfold ic
 induction M with
 |nil=>simp
 |cons a M f=>
  rw[ci,jX];by_cases c:a.tail=y
  .rw[if_pos c];exact⟨λ_=>⟨a,by simp,c⟩,λ_=>∅⟩
  .rw[if_neg c,lP,f];exact⟨λ⟨x,d,b⟩=>⟨x,by simp[d],b⟩,λ⟨x,d,b⟩=>⟨x,(bA.mp d).resolve_left λe=>c (e ▸ b),b⟩⟩
abbrev en(v:Nat)(t:Tx):Tx:=t.drop (t.length-v)
abbrev b2(p:Prop)[Decidable p]:Nat:=if p then 1 else 0
theorem Ka{t:Tx}:gr t v (t.length-v)=en v t:=by unfold gr en;exact k6 (by simp;lia)
theorem tW{t:Tx}(h:v<=t.length)(y:Tx):oc v (bp t (v+1)) y+b2 (en v t=y)=ic (bp t (v+1)) y+b2 (t.take v=y):=by
 have:=GS (v:=v) (y:=y) (t.length-v) t 0;rw[lP,Ka]at this;unfold oc ic b2;rw[nR _ _ ∅,dZ,dZ,show t.length+1-(v+1)=t.length-v by lia,List.range_eq_range'];have b:∀j,((λx:Tx=>if x.take v=y then 1 else 0) ∘ λi=>(t.drop i).take (v+1)) j=if gr t v j=y then 1 else 0:=λj=>by show(if(gr t (v+1) j).take v=_ then 1 else 0)=_;rw[sX]
 have a:∀j,((λx:Tx=>if x.tail=y then 1 else 0) ∘ λi=>(t.drop i).take (v+1)) j=if gr t v (j+1)=y then 1 else 0:=λj=>by show(if(gr t (v+1) j).tail=_ then 1 else 0)=_;rw[zF]
 rw[ki λj _=>b j,ki λj _=>a j];simpa[gr]using this
theorem Cm{t:Tx}(h:v<=t.length)(c:Nat):bp (t++[c]) (v+1)=bp t (v+1)++[en v t++[c]]:=by rw[Ga ∅,if_pos ∅];congr 2;rw[show t.length+1-(v+1)=t.length-v by lia,BJ ∅];exact k6 (by simp;lia)
theorem yF{M:List Tx}(h:∀x∈M,x.length=v+1):∀(n:Nat) (t:Tx) (R:List Tx),R.length=n->v<=t.length->(bp t (v+1)++R).Perm M -> ∃b d,b.take v=t.take v/\v<=b.length/\(bp b (v+1)++d).Perm M/\∀x∈d,x.take v≠en v b
 |0,t,R,hn,ht,hp=>⟨t,R,rfl,ht,hp,λx a=>by rw[ot.mp hn]at a;simp at a⟩
 |n+1,t,R,hn,ht,hp=>by
  by_cases q:∃x∈R,x.take v=en v t
  .obtain⟨x,a,e⟩:=q;have j:x.length=v+1:=h x (hp.mem_iff.mp (i4 _ a));have f:x=en v t++[x.getLastD 0]:=by
    have g:x=x.take v++x.drop v:=(xY v x).symm;have o:∃c,x.drop v=[c]:=List.length_eq_one_iff.mp (by rw[kX];lia);obtain⟨c,l⟩:=o;rw[l]at g;have m:x.getLastD 0=c:=by rw[g];simp
    rw[m,<-e];exact g
   have i:(bp (t++[x.getLastD 0]) (v+1)++R.erase x).Perm M:=by rw[Cm ht,<-f,iK];exact(HI _ (List.perm_cons_erase a).symm).trans hp
   obtain⟨b,d,u,s,r,p⟩:=yF h n (t++[x.getLastD 0]) (R.erase x) (by rw[BX a];lia) (by simp;lia) i;exact⟨b,d,by rw[u,HS ht],s,r,p⟩
  .exact⟨t,R,rfl,ht,hp,λx a e=>q ⟨x,a,e⟩⟩
theorem Qx{M:List Tx}(i:∀x∈M,x.length=v+1)(a:∀y,oc v M y=ic M y){p:Tx}(s:p.length=v):∃t R,t.take v=p/\v<=t.length/\(bp t (v+1)++R).Perm M/\en v t=p/\(∀x∈R,x.take v≠p)/\∀y,oc v R y=ic R y:=by
 have m:bp p (v+1)=[]:=ot.mp (by rw[pB ∅];lia);obtain⟨t,R,d,g,b,h⟩:=yF i M.length p M rfl ∅ (by rw[m];exact .refl _);rw[show p.take v=p from k6 ∅]at d;have u:oc v R (en v t)=0:=by
  rcases Ic (oc v R (en v t))with q|q
  .exact q
  .obtain⟨x,l,j⟩:=Ry.mp q;exact absurd j (h x l)
 have c:=tW g (en v t);have r:=sD (v:=v) b (en v t);have o:=sE b (en v t);have w:=a (en v t);rw[wu]at r;rw[w_]at o;rw[d]at c;unfold b2 at c;rw[if_pos rfl]at c;have f:p=en v t:=by
  by_cases q:p=en v t
  .exact q
  .rw[if_neg q]at c;lia
 refine⟨t,R,d,g,b,f.symm,by rw[f];exact h,λy=>?_⟩;have d1:=tW g y;have d2:=sD (v:=v) b y;have n:=sE b y;rw[wu]at d2;rw[w_]at n;rw[d,<-f]at d1;have:=a y;lia
theorem Nr{t c:Tx}{i:Nat}(F:i+v<=t.length)(G:v<=c.length)(C:c.take v=gr t v i)(B:en v c=gr t v i):∃l,l.take v=t.take v/\v<=l.length/\en v l=en v t/\(bp l (v+1)).Perm (bp t (v+1)++bp c (v+1)):=by
 let T1:=t.take (i+v)
 let T2:=t.drop (i+v)
 have r:t=T1++T2:=(xY _ _).symm;have z:T1.length=i+v:=by simp[T1];lia
 have m:T1=t.take i++gr t v i:=by show t.take (i+v)=_;rw[List.take_add]
 have d:(gr t v i).length=v:=by unfold gr;simp;lia
 let s:=c.drop v
 have q:c=gr t v i++s:=by rw[<-C];exact(xY _ _).symm
 have o:∀(a b:Tx),(a++gr t v i).length=a.length+v->bp (a++gr t v i++b) (v+1)=bp (a++gr t v i) (v+1)++nw (v+1) (gr t v i) b:=by
  intro a b _;have p:∀(n:Nat) (b:Tx),b.length=n->bp (a++gr t v i++b) (v+1)=bp (a++gr t v i) (v+1)++nw (v+1) (gr t v i) b:=by
   intro n
   induction n with
   |zero=>intro b h;rw[ot.mp h];simp[nw]
   |succ n A=>
    intro b h;obtain⟨j,x,rfl⟩:∃j x,b=j++[x]:=⟨b.dropLast,b.getLast (by intro e;rw[e]at h;simp at h),(List.dropLast_concat_getLast _).symm⟩
    rw[<-iK,Cm (by simp[d];lia),A j (by simp at h;lia),Db,iK];congr 2;simp only[nw];congr 2;have e:(a++gr t v i++j).length-v=a.length+((gr t v i++j).length+1-(v+1)):=by simp[d];lia
    unfold en;rw[e,iK,List.drop_append];simp
  exact p b.length b rfl
 have y:bp t (v+1)=bp T1 (v+1)++nw (v+1) (gr t v i) T2:=by have:=o (t.take i) T2 (by simp[d]);rw[<-m]at this;rw[<-this,<-r]
 have w:bp (T1++s) (v+1)=bp T1 (v+1)++nw (v+1) (gr t v i) s:=by have:=o (t.take i) s (by simp[d]);rw[<-m]at this;exact this
 have w3:bp c (v+1)=nw (v+1) (gr t v i) s:=by
  conv=>lhs;rw[q]
  exact y9 ∅ (by rw[d];lia)
 have g:T1++s=t.take i++c.take (c.length-v)++gr t v i:=by rw[m,iK,<-q,iK,<-B];congr 1;exact(xY _ _).symm
 have u:bp (T1++s++T2) (v+1)=bp (T1++s) (v+1)++nw (v+1) (gr t v i) T2:=by have:=o (t.take i++c.take (c.length-v)) T2 (by simp[d];lia);rw[<-g]at this;exact this
 refine⟨T1++s++T2,?_,by simp[z];lia,?_,?_⟩
 .rw[iK,HS ∅];show(t.take (i+v)).take v=_;rw[List.take_take,BY ∅]
 .have f:∀a:Tx,en v (a++(gr t v i++T2))=en v (gr t v i++T2):=λa=>by
   unfold en;rw[List.drop_append,HZ (by simp[d];lia),i_];congr 1;simp[d];lia
  have E:T1++s++T2=(t.take i++c.take (c.length-v))++(gr t v i++T2):=by rw[g];simp only[iK]
  have D:t.take i++(gr t v i++T2)=t:=by rw[<-iK,<-m];exact r.symm
  have:=f (t.take i);rw[D]at this;rw[E,f,this]
 .rw[u,w,y,w3,iK,iK];exact HI _ List.perm_append_comm
def oW(v:Nat)(M:List Tx):Prop:=∀V:Tx->Prop,(∃x∈M,V (x.take v))->(∀x∈M,V (x.take v)\/V x.tail->V (x.take v)/\V x.tail)->∀x∈M,V (x.take v)
theorem N7{M:List Tx}(J:∀x∈M,x.length=v+1)(r:oW v M):∀(n:Nat) (t:Tx) (R:List Tx),R.length<=n->v<t.length->(bp t (v+1)++R).Perm M->(∀y,oc v R y=ic R y)->∃g,g.take v=t.take v/\v<g.length/\(bp g (v+1)).Perm M:=by
 intro n
 induction n with
 |zero=>intro t R H ht b _;rw[ot.mp (show R.length=0 by lia),i6]at b;exact⟨t,rfl,ht,b⟩
 |succ n E=>
  intro t R H ht b l;by_cases w:R=[]
  .rw[w,i6]at b;exact⟨t,rfl,ht,b⟩
  .obtain⟨s,u⟩:=List.exists_mem_of_ne_nil R w;have f:∃i,i+v<=t.length/\∃x∈R,x.take v=gr t v i\/x.tail=gr t v i:=by
    refine Ie λno=>?_;have h:∀i,i+v<=t.length->∀x∈R,¬(x.take v=gr t v i\/x.tail=gr t v i):=λi d x a q=>no ⟨i,d,x,a,q⟩;have:=r (λy=>∃i,i+v<=t.length/\gr t v i=y)
     ⟨gr t (v+1) 0,b.mem_iff.mp (uC _ (Dw.mpr ⟨0,∅,rfl⟩)),0,∅,by rw[sX]⟩
     (λx a q=>by
      rcases g9.mp (b.mem_iff.mpr a)with a|a
      .obtain⟨j,T,rfl⟩:=Dw.mp a;exact⟨⟨j,∅,by rw[sX]⟩,⟨j+1,∅,by rw[zF]⟩⟩
      .rcases q with⟨i,d,e⟩|⟨i,d,e⟩
       .exact absurd (.inl e.symm) (h i d x a)
       .exact absurd (.inr e.symm) (h i d x a))
     s (b.mem_iff.mp (i4 _ u))
    obtain⟨i,d,e⟩:=this;exact h i d s u (.inl e.symm)
   obtain⟨i,d,x,a,G⟩:=f;have C:0<oc v R (gr t v i):=by
    rcases G with q|q
    .exact Ry.mpr ⟨x,a,q⟩
    .rw[l];exact RZ.mpr ⟨x,a,q⟩
   have o:∀x∈R,x.length=v+1:=λx a=>J x (b.mem_iff.mp (i4 _ a));obtain⟨c,R2,Q,P,m,O,N,L⟩:=Qx o l (p:=gr t v i) (by unfold gr;simp;lia);have X:R2.length<R.length:=by
    have I:=m.length_eq;rw[c_]at I;rcases Ic (bp c (v+1)).length with z|z
    .rw[ot.mp z,i_]at m;obtain⟨y,F,e⟩:=Ry.mp C;exact absurd e (N y (m.mem_iff.mpr F))
    .lia
   obtain⟨g,d1,d2,W,A⟩:=Nr d P Q O;have D:(bp g (v+1)++R2).Perm M:=by refine(A.append_right R2).trans ?_;rw[iK];exact(m.append_left _).trans b
   have S:v<g.length:=by have:=A.length_eq;rw[c_,pB ∅,pB ∅]at this;lia
   obtain⟨B,K,f2,f3⟩:=E g R2 ∅ S D L;exact⟨B,by rw[K,d1],f2,f3⟩
theorem Cv{M:List Tx}(d:∀x∈M,x.length=v+1)(f:oW v M){s0 e:Tx}(u:∃x∈M,x.take v=s0)(b:∀y,oc v M y+b2 (e=y)=ic M y+b2 (s0=y)):∃t,t.take v=s0/\v<t.length/\(bp t (v+1)).Perm M:=by
 obtain⟨i,j,m⟩:=u;have G:s0.length=v:=by rw[<-m,lL,d i j];lia
 have l:bp s0 (v+1)=[]:=ot.mp (by rw[pB ∅];lia);obtain⟨t,R,c,p,a,o⟩:=yF d M.length s0 M rfl ∅ (by rw[l];exact .refl _);rw[show s0.take v=s0 from k6 ∅]at c;have F:oc v R (en v t)=0:=by
  rcases Ic (oc v R (en v t))with q|q
  .exact q
  .obtain⟨x,z,w⟩:=Ry.mp q;exact absurd w (o x z)
 have g:=tW p (en v t);have D:=sD (v:=v) a (en v t);have C:=sE a (en v t);have n:=b (en v t);rw[wu]at D;rw[w_]at C;rw[c]at g;unfold b2 at g n;rw[if_pos rfl]at g;have r:e=en v t:=by
  by_cases q:e=en v t
  .exact q
  .rw[if_neg q]at n;lia
 have h:∀y,oc v R y=ic R y:=λy=>by have d1:=tW p y;have d2:=sD (v:=v) a y;have B:=sE a y;have H:=b y;rw[wu]at d2;rw[w_]at B;rw[c,<-r]at d1;lia
 have E:v<t.length:=by
  rcases Nat.lt_or_ge v t.length with q|q
  .exact q
  .have ht:t=s0:=by rw[<-c];exact(k6 ∅).symm
   subst ht;rw[l,i_]at a;have:en v t=t:=by unfold en;rw[show t.length-v=0 by lia];rfl
   exact absurd (by rw[this];exact m) (o i (a.mem_iff.mpr j))
 obtain⟨s,A,f2,f3⟩:=N7 d f R.length t R (bC _) E a h;exact⟨s,by rw[A,c],f2,f3⟩
theorem PF{t:Tx}{M:List Tx}(a:(bp t (v+1)).Perm M):oW v M:=by
 intro V ⟨x,g,b⟩ m z f;obtain⟨i,l,rfl⟩:=Dw.mp (a.mem_iff.mpr g);obtain⟨j,h,rfl⟩:=Dw.mp (a.mem_iff.mpr f);rw[sX]at b ⊢;have step:∀k,k+v<t.length->(V (gr t v k)↔V (gr t v (k+1))):=λk c=>by have:=m (gr t (v+1) k) (a.mem_iff.mp (Dw.mpr ⟨k,c,rfl⟩));rw[sX,zF]at this;exact⟨λq=>(this (.inl q)).2,λq=>(this (.inr q)).1⟩
 have all:∀k,k+v<t.length->(V (gr t v 0)↔V (gr t v k)):=λk=>by
  induction k with
  |zero=>intro _;exact pW
  |succ k d=>intro c;exact(d ∅).trans (step k ∅)
 exact(all j h).mp ((all i l).mpr b)
end
inductive WN(w:Nat):Nat->Tx->Tx->Prop
 |here (n:Nat) (t:Tx):WN w n t t
 |on {n:Nat}{t u z:Tx}:WN w n t u->z∈KF u w->WN w (n+1) t z
def Full(w:Nat)(t:Tx)(k:Nat):Prop:=∀z∈O0 t w,WN w k t z
theorem Ap{i:Nat}{db:ac->R aK}{d j:Type}(b:d->j->ac)(f:d->Tx->d)(P:d->Prop):∀(c:List Tx) (a:d) (s:j),P a -> (∀x∈c,∀a s,P a->P (f a x)/\∃g,db ((b a s).set i (↥x))=.ok .next (b (f a x) g))->∃g,fM i db (ai c) (b a s)=.ok .next (b (c.foldl f a) g)/\P (c.foldl f a)
 |[],a,s,h,_=>⟨s,rfl,h⟩
 |x::c,a,s,h,step=>by obtain⟨p,m,r⟩:=step x (by simp) a s h;obtain⟨l,q,o⟩:=Ap b f P c (f a x) m p λy n=>step y (by simp[n]);refine⟨l,?_,o⟩;show fM i db (.str x::ai c) _=_;rw[fM,r];exact q
abbrev ks(m:List (Tx×Int)):List Tx:=m.map (·.1)
theorem M0(m:List (Tx×Int))(z:Tx):(m.any λp=>decide (p.1=z))=decide (z∈ks m):=by rw[mS,ox,decide_eq_true_eq,cp];exact⟨λ⟨p,b,a⟩=>⟨p,b,of_decide_eq_true a⟩,λ⟨p,b,a⟩=>⟨p,b,decide_eq_true a⟩⟩
theorem pA(m:List (Tx×Int))(z:Tx):(bF m z).isSome=decide (z∈ks m):=by
 rw[<-M0];cases h:m.any λp=>decide (p.1=z)with
 |false=>rw[vF h];rfl
 |true=>obtain⟨n,e⟩:=G3 h;rw[e];rfl
theorem NK(m:List (Tx×Int)):(dk m).length=m.length:=by simp[dk]
theorem CS{i:Nat}{db de:ac->R PV}{c b a:ac}{z:Tx}{n:Int}{m:List (Tx×Int)}(j:de c=.ok (.int n) b)(l:db b=.ok (.str z) a)(d:∃x,dw b i=aa x)(g:dw a i=aa (dk m))(h:m.length<bR):fQ i db de c=.ok .next (a.set i (.own (.dK (dk (dj m z n))))):=by unfold fQ;obtain⟨x,f⟩:=d;rw[j,R.bind_ok,f];simp only[c9,R.bind_ok];rw[l,R.bind_ok,g];simp only[c9,R.bind_ok];show(aO (aa (Sum.inr (tS z))) a).bind _=_;simp only[c9,R.bind_ok];rw[NK,if_pos h,vU]
theorem Ae{i:Nat}{db:ac->R PV}{ε ε1:ac}{z:Tx}{n:Int}{m:List (Tx×Int)}(a:∃x,dw ε i=aa x)(f:db ε=.ok (.str z) ε1)(c:dw ε1 i=aa (dk m))(d:bF m z=aa n):fz i db ε=.ok (.int n) ε1:=by unfold fz;obtain⟨x,b⟩:=a;rw[b];simp only[c9,R.bind_ok];rw[f,R.bind_ok,c];simp only[c9,R.bind_ok];show aO (hG (dk m) (.inr (tS z))) ε1=_;rw[oN,d];rfl
def cP(ks:List Tx):List (aP×PV):=ks.map λx=>(Sum.inr (tS x),PV.bl ae)
def fH(ks:List Tx)(x:Tx):List Tx:=if x∈ks then ks else ks++[x]
theorem RT{ks:List Tx}{x z:Tx}:z∈fH ks x↔z∈ks\/z=x:=by
 unfold fH;by_cases c:x∈ks
 .rw[if_pos c];exact⟨.inl,λh=>h.elim id λe=>e ▸ c⟩
 .rw[if_neg c];simp
theorem Dm{ks:List Tx}{x:Tx}(h:ks.Nodup):(fH ks x).Nodup:=by
 unfold fH;by_cases c:x∈ks
 .rw[if_pos c];exact h
 .rw[if_neg c];exact HL.mpr ⟨h,by simp,λa f b d e=>by simp at d;subst d;subst e;exact c f⟩
theorem wS{ks:List Tx}{x:Tx}:ks.length<=(fH ks x).length/\(x∉ks->ks.length<(fH ks x).length):=by
 unfold fH;by_cases c:x∈ks
 .rw[if_pos c];exact⟨bC _,λq=>absurd c q⟩
 .rw[if_neg c];simp
theorem Do(ks:List Tx)(x:Tx):((cP ks).any λa=>decide (a.1=(Sum.inr (tS x):aP)))=decide (x∈ks):=by
 unfold cP;rw[uQ,mS,ox,decide_eq_true_eq];constructor
 .rintro⟨z,c,b⟩;have:=of_decide_eq_true b;rw[<-oY (Sum.inr.inj this)];exact c
 .intro h;exact⟨x,h,by simp⟩
theorem Pr(ks:List Tx)(x:Tx):nt (cP ks) (Sum.inr (tS x)) (.bl ae)=cP (fH ks x):=by
 unfold nt fH;rw[Do];by_cases c:x∈ks
 .rw[decide_eq_true c,if_pos rfl,if_pos c];unfold cP;rw[dZ];refine ki λz _=>?_;simp only[pZ];split
  .rfl
  .rfl
 .rw[decide_eq_false c,if_neg (by simp),if_neg c];unfold cP;simp
theorem MH(ks:List Tx)(x:Tx):(hG (cP ks) (Sum.inr (tS x))).isSome=decide (x∈ks):=by rw[<-Do];unfold hG;rw[HC,List.isSome_find?]
theorem vZ(ks:List Tx):(cP ks).length=ks.length:=by simp[cP]
theorem zH{neg:Bool}{i:Nat}{db:ac->R PV}{ε ε1:ac}{z:Tx}{ks:List Tx}(b:db ε=.ok (.str z) ε1)(a:dw ε1 i=aa (cP ks)):iN neg i db ε=.ok (.bl (neg^^decide (z∈ks))) ε1:=by unfold iN;rw[b,R.bind_ok,a];simp only[c9,R.bind_ok];show aO (aa (PV.bl (neg^^(hG (cP ks) (.inr (tS z))).isSome))) ε1=_;rw[MH];rfl
theorem Co{i:Nat}{db de:ac->R PV}{ε b a:ac}{z:Tx}{ks:List Tx}(h:de ε=.ok (.bl ae) b)(j:db b=.ok (.str z) a)(c:∃x,dw b i=aa x)(f:dw a i=aa (cP ks))(g:ks.length<bR):fQ i db de ε=.ok .next (a.set i (.own (.dK (cP (fH ks z))))):=by unfold fQ;obtain⟨x,d⟩:=c;rw[h,R.bind_ok,d];simp only[c9,R.bind_ok];rw[j,R.bind_ok,f];simp only[c9,R.bind_ok];show(aO (aa (Sum.inr (tS z))) a).bind _=_;simp only[c9,R.bind_ok];rw[vZ,if_pos g,Pr]
def rS(ks:List Tx)(x:Tx):List Tx:=if x.dropLast∈ks\/x.tail∈ks then fH (fH ks x.dropLast) x.tail else ks
theorem Mv{ks:List Tx}{x z:Tx}(h:z∈ks):z∈rS ks x:=by
 unfold rS;split
 .exact RT.mpr (.inl (RT.mpr (.inl h)))
 .exact h
theorem Fd:∀(a:List Tx) {ks:List Tx}{z:Tx},z∈ks->z∈a.foldl rS ks
 |[],_,_,h=>h
 |x::a,_,_,h=>Fd a (Mv h)
theorem Ch{ks:List Tx}{x:Tx}(h:ks.Nodup):(rS ks x).Nodup:=by
 unfold rS;split
 .exact Dm (Dm h)
 .exact h
theorem Ce:∀(a:List Tx) {ks:List Tx},ks.Nodup->(a.foldl rS ks).Nodup
 |[],_,h=>h
 |x::a,_,h=>Ce a (Ch h)
theorem zY(ks:List Tx)(x:Tx):ks.length<=(rS ks x).length:=by
 unfold rS;split
 .exact dX wS.1 wS.1
 .exact bC _
theorem sF:∀(a ks:List Tx),ks.length<=(a.foldl rS ks).length
 |[],ks=>bC _
 |x::a,ks=>dX (zY ks x) (sF a (rS ks x))
theorem xn:∀(b ks:List Tx),(b.foldl rS ks).length=ks.length->∀x∈b,x.dropLast∈ks\/x.tail∈ks->x.dropLast∈ks/\x.tail∈ks
 |[],_,_,x,d=>by simp at d
 |y::b,ks,h,x,d=>by
  rw[oq]at h;have o:=zY ks y;have n:=sF b (rS ks y);have f:(rS ks y).length=ks.length:=∅
  have a:rS ks y=ks/\(y.dropLast∈ks\/y.tail∈ks->y.dropLast∈ks/\y.tail∈ks):=by
   unfold rS at f ⊢;by_cases c:y.dropLast∈ks\/y.tail∈ks
   .rw[if_pos c]at f ⊢;have m:=wS (ks:=ks) (x:=y.dropLast);have j:=wS (ks:=fH ks y.dropLast) (x:=y.tail);have i:y.dropLast∈ks:=Ie λq=>by have:=m.2 q;lia
    have l:fH ks y.dropLast=ks:=by unfold fH;rw[if_pos i]
    rw[l]at j f ⊢;have g:y.tail∈ks:=Ie λq=>by have:=j.2 q;lia
    exact⟨by unfold fH;rw[if_pos g],λ_=>⟨i,g⟩⟩
   .rw[if_neg c];exact⟨rfl,λq=>absurd q c⟩
  rcases bA.mp d with rfl|d
  .exact a.2
  .rw[a.1]at h;exact xn b ks h x d
theorem CJ{V:Tx->Prop}:∀(b ks:List Tx),(∀x∈b,V x.dropLast\/V x.tail->V x.dropLast/\V x.tail)->(∀z∈ks,V z)->∀z∈b.foldl rS ks,V z
 |[],_,_,h,z,d=>h z d
 |x::b,ks,g,h,z,d=>by
  refine CJ b (rS ks x) (λy a=>g y (by simp[a])) (λy a=>?_) z d;unfold rS at a;split at a
  .rename_i c;have f:=g x (by simp) (c.imp (h _) (h _));rcases RT.mp a with a|rfl
   .rcases RT.mp a with a|rfl
    .exact h y a
    .exact f.1
   .exact f.2
  .exact h y a
theorem yP:∀(a ks:List Tx),(a.foldl rS ks).length=ks.length->a.foldl rS ks=ks
 |[],_,_=>rfl
 |y::a,ks,h=>by
  rw[oq]at h ⊢;have l:=zY ks y;have j:=sF a (rS ks y);have e:rS ks y=ks:=by
   have i:(rS ks y).length=ks.length:=∅
   have b:=xn [y] ks i y (by simp);unfold rS;by_cases c:y.dropLast∈ks\/y.tail∈ks
   .obtain⟨g,f⟩:=b c;have d:fH ks y.dropLast=ks:=by unfold fH;rw[if_pos g]
    rw[if_pos c,d];unfold fH;rw[if_pos f]
   .rw[if_neg c]
  rw[e]at h ⊢;exact yP a ks h
def eM(ls:List Tx):List Tx:=ls.map k8++ls.map List.tail
theorem Hh{b ks:List Tx}(h:∀z∈ks,z∈eM b){x:Tx}(c:x∈b):∀z∈rS ks x,z∈eM b:=λz a=>by
 unfold rS at a;split at a
 .rcases RT.mp a with a|rfl
  .rcases RT.mp a with a|rfl
   .exact h z a
   .exact uC _ (cp.mpr ⟨x,c,rfl⟩)
  .exact i4 _ (cp.mpr ⟨x,c,rfl⟩)
 .exact h z a
structure Rch(ls ks:List Tx):Prop where
 nd:ks.Nodup
 sub:∀z∈ks,z∈eM ls
 start:∀x r,ls=x::r->x.dropLast∈ks
 least:∀V:Tx->Prop,(∀x∈ls,V x.dropLast\/V x.tail->V x.dropLast/\V x.tail)->(∀x r,ls=x::r->V x.dropLast)->∀z∈ks,V z
theorem Rch.few{ls ks:List Tx}(h:Rch ls ks):ks.length<=2*ls.length:=by have:=len_sub h.nd h.sub;unfold eM at this;simp at this;lia
theorem Rch.next{ls ks:List Tx}(h:Rch ls ks):Rch ls (ls.foldl rS ks):=by
 refine⟨Ce ls h.nd,?_,λx r e=>Fd ls (h.start x r e),λV c g=>CJ ls ks c (h.least V c g)⟩;have a:∀(l:List Tx) (ks:List Tx),(∀x∈l,x∈ls)->(∀z∈ks,z∈eM ls)->∀z∈l.foldl rS ks,z∈eM ls:=by
  intro l
  induction l with
  |nil=>exact λks _ h=>h
  |cons x l d=>exact λks b h=>d (rS ks x) (λy f=>b y (by simp[f])) (Hh h (b x (by simp)))
 exact a ls ks (λ_ h=>h) h.sub
section
variable{a:Ad}
theorem uk(x:Tx):bD (.str x) ah (aa (-1))=aa (.str x.dropLast):=by show aa (PV.str (cV x ah (aa (-1))))=_;rw[EV]
theorem yO(x:Tx):bD (.str x) (aa 1) ah=aa (.str x.tail):=by show aa (PV.str (cV x (aa ((1:Nat):Int)) ah))=_;rw[tT,List.drop_one]
def tL:ac->R PV:=be bD (dV 3) (bj) (aY (d1 dq (dC (.int 1))))
def sM:ac->R PV:=be bD (dV 3) (aY (dC (.int 1))) (bj)
def rI:ac->R aK:=aV (cq (dB (iN aj 1 tL)) (dB (iN aj 1 sM))) (aw (fQ 1 tL (dC (.bl ae))) (fQ 1 sM (dC (.bl ae)))) (bh)
def rC:ac->R Bool:=dB (d2 (bt λi j=>decide (i<j)) (dV 2) (mE 1))
def rB:ac->R aK:=aw (aT 2 (mE 1)) (cj 3 (aR (dV 0)) rI)
theorem PY:yaK a=aw (dS 1 (sH (be bD (d2 aF (dV 0) (dC (.int 0))) (bj) (aY (d1 dq (dC (.int 1))))) (dC (.bl ae)))) (aw (aT 2 (dC (.int 0))) (aw (λb=>dr (iF rC rB 1000 b)) (j8 1))):=rfl
def d5(W:PV)(ks:List Tx)(n:Nat)(b:Slot):ac:=[.val W,.own (.dK (cP ks)),⇑n,b]
theorem Gy(W:PV)(ks:List Tx)(n:Nat)(x:Tx):tL (d5 W ks n (↥x))=.ok (.str x.dropLast) (d5 W ks n (↥x)):=by have h:=uk x;have b:dq (.int 1)=aa (.int (-1)):=rfl;simp[tL,d5,be,bj,aY,dV,d1,dC,R.bind,aO,b,iC,h]
theorem EE(W:PV)(ks:List Tx)(n:Nat)(x:Tx):sM (d5 W ks n (↥x))=.ok (.str x.tail) (d5 W ks n (↥x)):=by have h:=yO x;simp[sM,d5,be,bj,aY,dV,dC,R.bind,aO,iC,h]
theorem Hk(W:PV)(d:List Tx)(s:d.length<=100)(q:iB W=aa (ai d))(ks:List Tx)(h:Rch d ks)(n:Nat)(f:Slot):∃j,cj 3 (aR (dV 0)) rI (d5 W ks n f)=.ok .next (d5 W (d.foldl rS ks) n j):=by
 obtain⟨j,e,_⟩:=Ap (i:=3) (db:=rI) (λks f=>d5 W ks n f) rS (λks=>ks.Nodup/\∀z∈ks,z∈eM d) d ks f ⟨h.nd,h.sub⟩
  (by
   rintro x p ks f ⟨g,l⟩;refine⟨⟨Ch g,Hh l p⟩,↥x,?_⟩;have r:ks.length<=200:=by have:=len_sub g l;unfold eM at this;simp at this;lia
   have o:=bW (zH (neg:=aj) (i:=1) (Gy W ks n x) rfl);have m:=bW (zH (neg:=aj) (i:=1) (EE W ks n x) rfl);rw[gP]at o m;have b:cq (dB (iN aj 1 tL)) (dB (iN aj 1 sM)) (d5 W ks n (↥x))=.ok (decide (x.dropLast∈ks\/x.tail∈ks)) (d5 W ks n (↥x)):=by
    unfold cq;rw[o,R.bind_ok];by_cases c:x.dropLast∈ks
    .rw[decide_eq_true c,decide_eq_true (.inl c)]
    .rw[decide_eq_false c];simp only;rw[m];congr 1;simp[c]
   show rI (d5 W ks n (↥x))=_;unfold rI rS;by_cases c:x.dropLast∈ks\/x.tail∈ks
   .rw[decide_eq_true c]at b;rw[if_pos c];refine(eL b).trans ?_;have g:=Co (i:=1) (de:=dC (.bl ae)) (ε:=d5 W ks n (↥x)) rfl (Gy W ks n x) ⟨_,rfl⟩ rfl (by unfold bR;lia);refine(aX g).trans ?_;have t:(fH ks x.dropLast).length<=ks.length+1:=by unfold fH;split <;> simp
    exact Co (i:=1) (de:=dC (.bl ae)) (ε:=d5 W (fH ks x.dropLast) n (↥x)) rfl (EE W (fH ks x.dropLast) n x) ⟨_,rfl⟩ rfl (by unfold bR;lia)
   .rw[decide_eq_false c]at b;rw[if_neg c];exact(Ny b).trans rfl)
 refine⟨j,wJ ?_ e⟩;unfold aR;rw[aG (v:=W) rfl,R.bind_ok,q];rfl
theorem vH(W:PV)(ks:List Tx)(n:Nat)(b:Slot):rC (d5 W ks n b)=.ok (decide (n<ks.length)) (d5 W ks n b):=by
 have d:mE 1 (d5 W ks n b)=.ok (.int (ks.length:Nat)) (d5 W ks n b):=by show R.ok (PV.int ((cP ks).length:Nat)) _=_;rw[vZ]
 have c:decide ((n:Int)<(ks.length:Nat))=decide (n<ks.length):=by
  by_cases q:n<ks.length
  .rw[decide_eq_true q,decide_eq_true ∅]
  .rw[decide_eq_false q,decide_eq_false ∅]
 refine bW (bi (x:=.int n) (aG rfl) d ?_);show aa (PV.bl (decide ((n:Int)<(ks.length:Nat))))=_;rw[c]
theorem OD(W:PV)(b:List Tx)(u:b.length<=100)(v:iB W=aa (ai b)):∀(j:Nat) (ks:List Tx) (n l:Nat) (g:Slot),2*b.length<=ks.length+j->j+2<=l->n<ks.length->Rch b ks -> ∃d r i,Rch b d/\(∀x∈b,x.dropLast∈d\/x.tail∈d->x.dropLast∈d/\x.tail∈d)/\iF rC rB l (d5 W ks n g)=.ok .next (d5 W d r i):=by
 intro j
 induction j with
 |zero=>
  intro ks n l g F E s h;obtain⟨f,rfl⟩:∃f,l=f+1+1:=⟨l-2,∅⟩
  obtain⟨i,e⟩:=Hk W b u v ks h ks.length g;have H:=h.few;have G:=h.next.few;have C:=sF b ks;have p:=yP b ks ∅;have t:=xn b ks (by rw[p]);rw[p]at e;have c:=vH W ks n g;rw[decide_eq_true s]at c;have m:rB (d5 W ks n g)=.ok .next (d5 W ks ks.length i):=by
   unfold rB;have k:aT 2 (mE 1) (d5 W ks n g)=.ok .next (d5 W ks ks.length g):=by refine fL (x:=.int (ks.length:Nat)) (ε1:=d5 W ks n g) ?_;show R.ok (PV.int ((cP ks).length:Nat)) _=_;rw[vZ]
   exact(aX k).trans e
  have o:=vH W ks ks.length i;rw[decide_eq_false (fh _)]at o;exact⟨ks,ks.length,i,h,t,(zT c m).trans (Ge o)⟩
 |succ j D=>
  intro ks n l g F E s h;obtain⟨f,rfl⟩:∃f,l=f+1:=⟨l-1,∅⟩
  obtain⟨i,e⟩:=Hk W b u v ks h ks.length g;have C:=sF b ks;have c:=vH W ks n g;rw[decide_eq_true s]at c;have m:rB (d5 W ks n g)=.ok .next (d5 W (b.foldl rS ks) ks.length i):=by
   unfold rB;have k:aT 2 (mE 1) (d5 W ks n g)=.ok .next (d5 W ks ks.length g):=by refine fL (x:=.int (ks.length:Nat)) (ε1:=d5 W ks n g) ?_;show R.ok (PV.int ((cP ks).length:Nat)) _=_;rw[vZ]
   exact(aX k).trans e
  by_cases q:(b.foldl rS ks).length=ks.length
  .have p:=yP b ks q;have t:=xn b ks q;rw[p]at m;obtain⟨w,rfl⟩:∃w,f=w+1:=⟨f-1,∅⟩
   have o:=vH W ks ks.length i;rw[decide_eq_false (fh _)]at o;exact⟨ks,ks.length,i,h,t,(zT c m).trans (Ge o)⟩
  .obtain⟨d,r,y,B,A,z⟩:=D (b.foldl rS ks) ks.length f i ∅ ∅ ∅ h.next;exact⟨d,r,y,B,A,(zT c m).trans z⟩
theorem Qc(W:PV)(x:Tx)(r:List Tx)(u:r.length<=50)(s:iB W=aa (ai (x::r)))(d:aF W (.int 0)=aa (.str x)):∃ks,Rch (x::r) ks/\(∀y∈x::r,y.dropLast∈ks\/y.tail∈ks->y.dropLast∈ks/\y.tail∈ks)/\nQ a [.val W]=.ok (.own (.dK (cP ks))) [.val W]:=by
 have t:Rch (x::r) [x.dropLast]:=⟨by simp,λz b=>by simp at b;rw[b];simp[eM],λy q e=>by cases e;simp,λV _ o z b=>by simp at b;rw[b];exact o x r rfl⟩
 obtain⟨ks,n,f,h,g,m⟩:=OD W (x::r) (by simp;lia) s (2*(x::r).length) [x.dropLast] 0 1000 .none ∅ (by simp;lia) (by simp) t;refine⟨ks,h,g,?_⟩;have i:=uk x;have p:dq (.int 1)=aa (.int (-1)):=rfl;have l:dS 1 (sH (be bD (d2 aF (dV 0) (dC (.int 0))) (bj) (aY (d1 dq (dC (.int 1))))) (dC (.bl ae))) [.val W,.none,.none,.none]=.ok .next [.val W,.own (.dK (cP [x.dropLast])),.none,.none]:=by simp[dS,sH,be,bj,aY,d2,d1,dV,dC,R.bind,aO,d,p,iC,i,gY,cP]
 have j:aT 2 (dC (.int 0)) [.val W,.own (.dK (cP [x.dropLast])),.none,.none]=.ok .next (d5 W [x.dropLast] 0 .none):=rfl;have c:yaK a [.val W,.none,.none,.none]=.ok (.ret (.own (.dK (cP ks)))) [.val W,.none,⇑n,f]:=by rw[PY];refine(aX l).trans ?_;refine(aX j).trans ?_;refine(aX (d1:=λε=>dr (iF rC rB 1000 ε)) (by show dr _=_;rw[m];rfl)).trans ?_;exact DQ rfl
 unfold nQ;generalize yaK a=D at c;generalize cP ks=A at c;simp[bL,ig,bJ,cr,c,back,aO,R.bind,iT]
theorem Oo{v:Nat}{x:Tx}{r ks:List Tx}(o:∀y∈x::r,y.length=v+1)(h:Rch (x::r) ks)(p:∀y∈x::r,y.dropLast∈ks\/y.tail∈ks->y.dropLast∈ks/\y.tail∈ks):(∀y∈x::r,y.dropLast∈ks)↔oW v (x::r):=by
 have d:∀y∈x::r,y.take v=y.dropLast:=λy b=>by rw[B0,o y b];rfl
 constructor
 .intro j V ⟨y,b,i⟩ m z g;have l:∀y∈x::r,V y.dropLast\/V y.tail->V y.dropLast/\V y.tail:=λy b q=>by have:=m y b;rw[d y b]at this;exact this q
  rw[d y b]at i;rw[d z g];by_cases c:V x.dropLast
  .exact h.least V l (λ_ _ e=>by cases e;exact c) _ (j z g)
  .have:=h.least (λq=>¬V q) (λy b q=>by
     have:=l y b;refine⟨λn=>?_,λn=>?_⟩
     .rcases q with q|q
      .exact q n
      .exact q (this (.inl n)).2
     .rcases q with q|q
      .exact q (this (.inr n)).1
      .exact q n) (λ_ _ e=>by cases e;exact c) _ (j y b)
   exact absurd i this
 .intro f y b;have:=f (λq=>q∈ks) ⟨x,by simp,by rw[d x (by simp)];exact h.start x r rfl⟩ (λy b q=>by rw[d y b]at q ⊢;exact p y b q) y b;rwa[d y b]at this
end
def kJ(m:List (Tx×Int))(x:Tx):List (Tx×Int):=dj (dj m x.dropLast ((bF m x.dropLast).getD 0+1)) x.tail ((bF (dj m x.dropLast ((bF m x.dropLast).getD 0+1)) x.tail).getD 0-1)
def b1(p:Prop)[Decidable p]:Int:=if p then 1 else 0
theorem N3(m:List (Tx×Int))(x y:Tx):(bF (kJ m x) y).getD 0=(bF m y).getD 0+b1 (x.dropLast=y)-b1 (x.tail=y):=by
 unfold kJ b1;rw[ma,ma,ma];by_cases b:y=x.tail
 .subst b;by_cases a:x.tail=x.dropLast
  .rw[if_pos rfl,if_pos a,if_pos a.symm,if_pos rfl,a];simp
  .rw[if_pos rfl,if_neg a,if_neg (fj a),if_pos rfl];simp
 .rw[if_neg b,if_neg (fj b)];by_cases a:y=x.dropLast
  .subst a;rw[if_pos rfl,if_pos rfl];simp
  .rw[if_neg a,if_neg (fj a)];simp
theorem DV(m:List (Tx×Int))(x y:Tx):y∈ks (kJ m x)↔y∈ks m\/y=x.dropLast\/y=x.tail:=by
 have k:∀(m:List (Tx×Int)) (z:Tx),z∈ks m↔(bF m z).isSome=ae:=λm z=>by rw[pA,decide_eq_true_eq]
 rw[k,k];unfold kJ;generalize (bF (dj m x.dropLast ((bF m x.dropLast).getD 0+1)) x.tail).getD 0-1=n1;generalize (bF m x.dropLast).getD 0+1=n2;rw[ma,ma];by_cases b:y=x.tail
 .rw[if_pos b];simp[b]
 .rw[if_neg b];by_cases a:y=x.dropLast
  .rw[if_pos a];simp[a]
  .rw[if_neg a];simp[b,a]
def bg(a:List Tx):List (Tx×Int):=a.foldl kJ []
def exc(ls:List Tx)(y:Tx):Int:=(ls.map λx=>b1 (x.dropLast=y)-b1 (x.tail=y)).sum
theorem Et:∀(a:List Tx) (m:List (Tx×Int)) (y:Tx),(bF (a.foldl kJ m) y).getD 0=(bF m y).getD 0+exc a y
 |[],m,y=>by simp[exc]
 |x::a,m,y=>by rw[oq,Et a,N3];simp only[exc,ci,jX];lia
theorem ue(a:List Tx)(y:Tx):(bF (bg a) y).getD 0=exc a y:=by unfold bg;rw[Et];show 0+_=_;lia
theorem FU:∀(a:List Tx) (m:List (Tx×Int)) (y:Tx),y∈ks (a.foldl kJ m)↔y∈ks m\/y∈eM a
 |[],m,y=>by simp[eM]
 |x::a,m,y=>by
  rw[oq,FU a,DV];simp only[eM,ci,g9,bA];constructor
  .rintro((h|h|h)|h|h)
   .exact .inl h
   .exact .inr (.inl (.inl h))
   .exact .inr (.inr (.inl h))
   .exact .inr (.inl (.inr h))
   .exact .inr (.inr (.inr h))
  .rintro(h | (h|h)|h|h)
   .exact .inl (.inl h)
   .exact .inl (.inr (.inl h))
   .exact .inr (.inl h)
   .exact .inl (.inr (.inr h))
   .exact .inr (.inr h)
theorem mf(ls:List Tx)(y:Tx):y∈ks (bg ls)↔y∈eM ls:=by unfold bg;rw[FU];simp
theorem D8:∀(a:List Tx) (m:List (Tx×Int)),(ks m).Nodup->(ks (a.foldl kJ m)).Nodup
 |[],_,h=>h
 |x::a,m,h=>D8 a _ (o4 (o4 h))
theorem ud(a:List Tx):(ks (bg a)).Nodup:=D8 a [] (by simp)
section
variable{a:Ad}
def uh:ac->R PV:=be bD (dV 2) (bj) (aY (d1 dq (dC (.int 1))))
def re:ac->R PV:=be bD (dV 2) (aY (dC (.int 1))) (bj)
def xB:ac->R aK:=aw (fQ 1 uh (d2 aZ (il 1 uh (dC (.int 0))) (dC (.int 1)))) (fQ 1 re (d2 gv (il 1 re (dC (.int 0))) (dC (.int 1))))
theorem Nb:yam a=aw (dS 1 (qE)) (aw (λb=>dr (cj 2 (aR (dV 0)) xB b)) (j8 1)):=rfl
def h_(W:PV)(m:List (Tx×Int))(s:Slot):ac:=[.val W,.own (.dK (dk m)),s]
theorem C0(W:PV)(m:List (Tx×Int))(x:Tx):uh (h_ W m (↥x))=.ok (.str x.dropLast) (h_ W m (↥x)):=by have h:=uk x;have b:dq (.int 1)=aa (.int (-1)):=rfl;simp[uh,h_,be,bj,aY,dV,d1,dC,R.bind,aO,b,iC,h]
theorem GX(W:PV)(m:List (Tx×Int))(x:Tx):re (h_ W m (↥x))=.ok (.str x.tail) (h_ W m (↥x)):=by have h:=yO x;simp[re,h_,be,bj,aY,dV,dC,R.bind,aO,iC,h]
theorem Cf{i:Nat}{db:ac->R PV}{b:ac}{z:Tx}{m:List (Tx×Int)}{n:Int}(d:db b=.ok (.str z) b)(c:dw b i=aa (dk m)):il i db (dC (.int n)) b=.ok (.int ((bF m z).getD n)) b:=by
 unfold il;rw[c];simp only[c9,R.bind_ok];rw[d,R.bind_ok];show((R.ok (PV.int n) b).bind _)=_;rw[R.bind_ok,c];simp only[c9,R.bind_ok];show aO (aa ((hG (dk m) (.inr (tS z))).getD (.int n))) b=_;rw[oN];cases bF m z <;> rfl
theorem AT(W:PV)(b:List Tx)(J:b.length<=100)(B:iB W=aa (ai b)):li a [.val W]=.ok (.own (.dK (dk (bg b)))) [.val W]:=by
 obtain⟨f,e,_⟩:=Ap (i:=2) (db:=xB) (λm s=>h_ W m s) kJ (λm=>(ks m).Nodup/\∀z∈ks m,z∈eM b) b [] .none ⟨by simp,by simp⟩
  (by
   rintro x r m s ⟨j,g⟩;have w:(ks (kJ m x)).Nodup:=o4 (o4 j);have t:x.dropLast∈eM b:=by unfold eM;exact uC _ (B1 r)
   have ht:x.tail∈eM b:=by unfold eM;exact i4 _ (B1 r)
   refine⟨⟨w,λz l=>?_⟩,↥x,?_⟩
   .rcases(DV m x z).mp l with h|h|h
    .exact g z h
    .rw[h];exact t
    .rw[h];exact ht
   .have few:∀{q:List (Tx×Int)},(ks q).Nodup->(∀z∈ks q,z∈eM b)->q.length<=200:=λ{q} n s=>by
     have:=len_sub n s;unfold eM at this;simp at this;lia
    have I:=few j g;have K:(1000:Nat)<=bR:=by decide
    have E:=Cf (i:=1) (n:=0) (C0 W m x) rfl;have G:d2 aZ (il 1 uh (dC (.int 0))) (dC (.int 1)) (h_ W m (↥x))=.ok (.int ((bF m x.dropLast).getD 0+1)) (h_ W m (↥x)):=by unfold d2;rw[E,R.bind_ok];rfl
    have p:=CS (i:=1) G (C0 W m x) ⟨_,rfl⟩ rfl (m:=m) ∅;generalize d:dj m x.dropLast ((bF m x.dropLast).getD 0+1)=q at p;have v:(ks q).Nodup:=by rw[<-d];exact o4 j
    have u:∀z∈ks q,z∈eM b:=λz l=>by
     have:(bF q z).isSome=ae:=by rw[pA];exact decide_eq_true l
     rw[<-d,ma]at this;by_cases c:z=x.dropLast
     .rw[c];exact t
     .rw[if_neg c,pA,decide_eq_true_eq]at this;exact g z this
    have H:=few v u;have C:=Cf (i:=1) (n:=0) (GX W q x) rfl;have F:d2 gv (il 1 re (dC (.int 0))) (dC (.int 1)) (h_ W q (↥x))=.ok (.int ((bF q x.tail).getD 0-1)) (h_ W q (↥x)):=by unfold d2;rw[C,R.bind_ok];rfl
    have f:=CS (i:=1) F (GX W q x) ⟨_,rfl⟩ rfl (m:=q) ∅;show xB (h_ W m (↥x))=_;unfold xB;refine(aX p).trans ?_;refine Eq.trans (show fQ 1 re _ _=_ from f) ?_;unfold kJ;rw[d];rfl)
 have o:yam a [.val W,.none,.none]=.ok (.ret (.own (.dK (dk (bg b))))) [.val W,.none,f]:=by
  rw[Nb];refine(aX (show dS 1 qE [.val W,.none,.none]=.ok .next (h_ W [] .none)from rfl)).trans ?_;have y:cj 2 (aR (dV 0)) xB (h_ W [] .none)=.ok .next (h_ W (bg b) f):=by
   unfold cj;have:aR (dV 0) (h_ W [] .none)=.ok (ai b) (h_ W [] .none):=by unfold aR;show(R.ok W _).bind _=_;rw[R.bind_ok,B];rfl
   rw[this,R.bind_ok];exact e
  refine(aX (d1:=λε=>dr (cj 2 (aR (dV 0)) xB ε)) (by show dr _=_;rw[y];rfl)).trans ?_;exact DQ rfl
 unfold li;generalize yam a=D at o;generalize dk (bg b)=A at o;simp[bL,ig,bJ,cr,o,back,aO,R.bind,iT]
end
theorem ED{a:ac}{i:Nat}{s:Slot}(h:a[i]?=aa s):a.set i s=a:=by
 apply BS;intro j;by_cases b:i=j
 .subst b;rw[ge (eF.mp h).1,h]
 .rw[eT b]
theorem xA{b:Type}{d:ac->R b}{x:PV}{ε:ac}{i:Nat}{a:PO}{r:b}(c:ε[i]?=aa (.own a))(f:d [.val x,.own a]=.ok r [.val x,.own a]):cu (d7 [i] d x ε)=.ok r ε:=by simp[d7,eJ,c,cu,R.bind,aO,bX,cK,f,df,cY,cW,ED c]
theorem Dh{b:Type}{d:ac->R b}{x y:PV}{ε:ac}{i:Nat}{a:PO}{r:b}(c:ε[i]?=aa (.own a))(f:d [.val x,.val y,.own a]=.ok r [.val x,.val y,.own a]):cu (jm [i] d x y ε)=.ok r ε:=by simp[jm,eJ,c,cu,R.bind,aO,bX,cK,f,df,cY,cW,ED c]
theorem v_{cap:List Nat}{dt:ac->R Bool}{de:ac->R PV}{ε:ac}(p:PV×PV->Bool)(f:PV×PV->PV):∀(a:List (PV×PV)),(∀x∈a,cu (jm cap dt x.1 x.2 ε)=.ok (p x) ε/\(p x=ae->cu (jm cap de x.1 x.2 ε)=.ok (f x) ε))->∀b,nz cap dt de a b ε=.ok (b++(a.filter p).map f) ε
 |[],_,b=>by simp[nz]
 |x::a,h,b=>by
  have g:=h x (by simp);have d:=v_ p f a (λy i=>h y (by simp[i]));unfold nz;rw[g.1,R.bind_ok];cases c:p x
  .rw[d b,rV,c];rfl
  .show(cu (jm cap de x.1 x.2 ε)).bind _=_;rw[g.2 c,R.bind_ok,d,rV,c];simp
theorem At:∀m:List (Tx×Int),ph (dk m)=aa (ks m)
 |[]=>rfl
 |p::m=>by show(ph (dk m)).map _=_;rw[At m];simp[tS]
def fK(a:List Tx):List Tx:=(bS (ks (bg a))).filter λy=>decide (0<exc a y)
def G_(a:List Tx):PV->Bool
 |.str y=>decide (0<exc a y)
 |_=>aj
theorem MN(b:List Tx)(a:List Tx):((ai a).filter (G_ b)).map (λx=>x)=ai (a.filter λy=>decide (0<exc b y)):=by rw[List.map_id'];unfold ai;rw[p6];rfl
def pw(ks:List Tx):PV×PV->Bool
 | (_,.str y)=>decide (y.dropLast∈ks)
 |_=>aj
theorem GW(ks:List Tx):∀(n:Nat) (a:List Tx),((gX (λi=>PV.int (i:Nat)) n (ai a)).filter (pw ks)).length=(a.filter λy=>decide (y.dropLast∈ks)).length
 |n,[]=>rfl
 |n,y::a=>by
  have b:=GW ks (n+1) a;show(((PV.int n,PV.str y)::gX _ (n+1) (ai a)).filter (pw ks)).length=_;have e:pw ks (PV.int n,PV.str y)=decide (y.dropLast∈ks):=rfl;rw[rV,rV,e];by_cases c:y.dropLast∈ks
  .rw[decide_eq_true c,if_pos rfl,if_pos rfl,eY,eY,b]
  .rw[decide_eq_false c,if_neg (by decide),if_neg (by decide)];exact b
theorem zz(f:Nat->PV):∀(n:Nat) (a:List Tx),∀q∈gX f n (ai a),∃k y,q=(f k,.str y)
 |n,[],q,h=>by cases h
 |n,y::a,q,h=>by
  rcases bA.mp h with h|h
  .exact⟨n,y,h⟩
  .exact zz f (n+1) a q h
section
variable{a:Ad}
def sL:ac->R PV:=be bD (dV 1) (bj) (aY (d1 dq (dC (.int 1))))
def f2(a:Ad):ac->R aK:=aT 2 (dF (bI [1] (aR (dF (jP 1))) (dB (d2 (bt λi j=>decide (j<i)) (fz 1 (dV 0)) (dC (.int 0)))) (dV 0)))
def f3:ac->R aK:=aV (dB (d2 (bt λi j=>decide (j<i)) (dL aS (ao (dV 2) (ar))) (dC (.int 1)))) (aW (dL cx (ao (dC (.str [116,119,111])) (ao (d2 aF (dV 2) (dC (.int 0))) (ao (d2 aF (dV 2) (dC (.int 1))) (ar)))))) (bh)
def f4:ac->R aK:=aV (gU (dB (d2 (eqT aj) (dL aS (ao (dV 2) (ar))) (dC (.int 1)))) (dB (d2 (bt λi j=>decide (j<i)) (fz 1 (d2 aF (dV 2) (dC (.int 0)))) (dC (.int 1))))) (aW (dL cx (ao (dC (.str [109,111,114,101])) (ao (d2 aF (dV 2) (dC (.int 0))) (ar))))) (bh)
def f6:ac->R aK:=aT 4 (dF (iz [3] (mx (ao (dV 0) (ar))) (dB (iN aj 2 sL)) (dV 0)))
def f7:ac->R aK:=aV (dB (d2 (bt λi j=>decide (i<j)) (dL aS (ao (dV 4) (ar))) (dL aS (ao (dV 0) (ar))))) (aW (dL cx (ao (dC (.str [97,112,97,114,116])) (ao (dL lz (ao (dV 4) (ar))) (ar))))) (bh)
theorem QO:yan a=aw (dS 1 (gH (aB (li a) (gV (dV 0) (Pu.br))))) (aw (f2 a) (aw f3 (aw f4 (aw (dS 3 (gH (aB (nQ a) (gV (dV 0) (Pu.br))))) (aw f6 (aw f7 (aW (dC .non)))))))):=rfl
theorem Cb{G:ac->R Slot}{W:PV}{ε:ac}{i:Nat}{b:PO}(f:ε[0]?=aa (.val W))(d:G [.val W]=.ok (.own b) [.val W])(c:i<ε.length):dS i (gH (aB G (gV (dV 0) (Pu.br)))) ε=.ok .next (ε.set i (.own b)):=by simp[dS,gH,aB,gV,Pu.br,dV,f,R.bind,aO,bX,cK,d,df,cY,cW,wO,c]
theorem Mw(W:PV)(b:List Tx)(w:b.length<=20)(l:∀y∈b,y.length<=100)(f d c:Slot):f2 a [.val W,.own (.dK (dk (bg b))),f,d,c]=.ok .next [.val W,.own (.dK (dk (bg b))),.val (.lst (ai (fK b))),d,c]:=by
 unfold f2;have few:(ks (bg b)).length<64:=by have:=len_sub (ud b) (λz m=>(mf b z).mp m);unfold eM at this;simp at this ⊢;lia
 have r:∀z∈ks (bg b),z.length<=bR:=λz m=>by
  have:=(mf b z).mp m;have A:(1000:Nat)<=bR:=by decide
  unfold eM at this;simp only[g9,cp]at this;rcases this with⟨y,g,rfl⟩|⟨y,g,rfl⟩
  .have:=l y g;simp;lia
  .have:=l y g;simp;lia
 have s:jP 1 [.val W,.own (.dK (dk (bg b))),f,d,c]=.ok (.lst (ai (bS (ks (bg b))))) [.val W,.own (.dK (dk (bg b))),f,d,c]:=by unfold jP;show aO (qA (dk (bg b))) _=_;unfold qA;rw[At];show aO (if _ then _ else _) _=_;rw[if_pos ⟨few,r⟩];rfl
 have t:aR (dF (jP 1)) [.val W,.own (.dK (dk (bg b))),f,d,c]=.ok (ai (bS (ks (bg b)))) [.val W,.own (.dK (dk (bg b))),f,d,c]:=by unfold aR dF;rw[s];rfl
 have v:=ml (cap:=[1]) (dt:=dB (d2 (bt λi j=>decide (j<i)) (fz 1 (dV 0)) (dC (.int 0)))) (de:=dV 0) (ε:=[.val W,.own (.dK (dk (bg b))),f,d,c]) (G_ b) (λx=>x) (ai (bS (ks (bg b)))) (λx l=>by
  obtain⟨y,g,rfl⟩:=cp.mp l;have o:y∈ks (bg b):=(fZ _).mem_iff.mp g;have u:bF (bg b) y=aa (exc b y):=by
   have q:(bF (bg b) y).isSome=ae:=by rw[pA];exact decide_eq_true o
   have p:=ue b y;cases h:bF (bg b) y with
   |none=>rw[h]at q;cases q
   |some n=>rw[h]at p;rw[<-p];rfl
  refine⟨xA rfl ?_,λ_=>xA rfl rfl⟩;refine bW ?_;unfold d2;rw[Ae (i:=1) (db:=dV 0) (ε:=[↥y,.own (.dK (dk (bg b)))]) ⟨_,rfl⟩ rfl rfl u,R.bind_ok];rfl) []
 refine(fL (x:=.lst (ai (fK b))) (ε1:=[.val W,.own (.dK (dk (bg b))),f,d,c]) ?_).trans rfl;have o:bI [1] (aR (dF (jP 1))) (dB (d2 (bt λi j=>decide (j<i)) (fz 1 (dV 0)) (dC (.int 0)))) (dV 0) [.val W,.own (.dK (dk (bg b))),f,d,c]=.ok (.lst (ai (fK b))) [.val W,.own (.dK (dk (bg b))),f,d,c]:=by unfold bI;rw[t,R.bind_ok,v,R.bind_ok,i_,MN];rfl
 show(bI _ _ _ _ _).bind _=_;rw[o];rfl
def g7(ks ls:List Tx):List PV:=((lE (ai ls)).filter (pw ks)).map (·.1)
theorem Ag(y:Tx)(r:List Tx):aF (.lst (ai (y::r))) (.int 0)=aa (.str y):=by show fS (.str y::ai r) 0=_;rw[wT (by decide) (by simp)];rfl
theorem OW(y z:Tx)(r:List Tx):aF (.lst (ai (y::z::r))) (.int 1)=aa (.str z):=by show fS (.str y::.str z::ai r) 1=_;rw[wT (by decide) (by simp)];rfl
theorem Jh{W:PV}(f ks:List Tx)(p:W=.tup (ai f))(c b d:Slot):f6 [.val W,c,b,.own (.dK (cP ks)),d]=.ok .next [.val W,c,b,.own (.dK (cP ks)),.val (.lst (g7 ks f))]:=by
 unfold f6;have m:mx (ao (dV 0) (ar)) [.val W,c,b,.own (.dK (cP ks)),d]=.ok (lE (ai f)) [.val W,c,b,.own (.dK (cP ks)),d]:=by subst p;rfl
 have n:=v_ (cap:=[3]) (dt:=dB (iN aj 2 sL)) (de:=dV 0) (ε:=[.val W,c,b,.own (.dK (cP ks)),d]) (pw ks) (·.1) (lE (ai f)) (λx g=>by
  obtain⟨k,y,rfl⟩:=zz _ 0 f x g;refine⟨Dh rfl ?_,λ_=>Dh rfl rfl⟩;have o:sL [.val (PV.int k),↥y,.own (.dK (cP ks))]=.ok (.str y.dropLast) [.val (PV.int k),↥y,.own (.dK (cP ks))]:=by have h:=uk y;have j:dq (.int 1)=aa (.int (-1)):=rfl;simp[sL,be,bj,aY,dV,d1,dC,R.bind,aO,j,iC,h]
  have:=bW (zH (neg:=aj) (i:=2) o rfl);rw[gP]at this;exact this) []
 refine(fL (x:=.lst (g7 ks f)) (ε1:=[.val W,c,b,.own (.dK (cP ks)),d]) ?_).trans rfl;have l:iz [3] (mx (ao (dV 0) (ar))) (dB (iN aj 2 sL)) (dV 0) [.val W,c,b,.own (.dK (cP ks)),d]=.ok (.lst (g7 ks f)) [.val W,c,b,.own (.dK (cP ks)),d]:=by unfold iz;rw[m,R.bind_ok,n,R.bind_ok,i_];rfl
 show(iz _ _ _ _ _).bind _=_;rw[l];rfl
theorem yA(ks ls:List Tx):(g7 ks ls).length<ls.length↔¬∀y∈ls,y.dropLast∈ks:=by
 have e:(g7 ks ls).length=(ls.filter λy=>decide (y.dropLast∈ks)).length:=by unfold g7;rw[b0];exact GW ks 0 ls
 rw[e];constructor
 .intro h d;rw[km.mpr (λy b=>decide_eq_true (d y b))]at h;lia
 .intro h;refine ym λq=>h λy b=>?_;have c:=uS (λy:Tx=>decide (y.dropLast∈ks)) ls;have:=List.length_filter_eq_length_iff.mp (show(ls.filter λy=>decide (y.dropLast∈ks)).length=ls.length by lia) y b;exact of_decide_eq_true this
theorem xC{W pv:PV}{ε:ac}(h:yan a [.val W,.none,.none,.none,.none]=.ok (.ret (.val pv)) (.val W::ε)):sS a [.val W]=.ok (.val pv) [.val W]:=by unfold sS;generalize yan a=D at h;simp[bL,ig,bJ,cr,h,back,aO,R.bind,iT]
end
theorem Dn{v:Nat}:∀{ls:List Tx},(∀y∈ls,y.length=v+1)->∀y,exc ls y=(oc v ls y:Int)-(ic ls y:Int)
 |[],_,y=>rfl
 |x::ls,h,y=>by
  have a:=Dn (λz b=>h z (by simp[b])) (ls:=ls) y;have c:x.take v=x.dropLast:=by rw[B0,h x (by simp)];rfl
  have e:exc (x::ls) y=b1 (x.dropLast=y)-b1 (x.tail=y)+exc ls y:=by simp[exc]
  rw[e,a];unfold oc ic b1;simp only[ci,jX,c];split <;> split <;> lia
theorem zj{K:List Tx}(f:K.Nodup){s:Tx}(d:s∈K):(K.map λy=>b1 (s=y)).sum=1:=by
 have ah:∀{K:List Tx},s∉K->(K.map λy=>b1 (s=y)).sum=0:=by
  intro K
  induction K with
  |nil=>intro _;rfl
  |cons y K b=>intro h;simp only[bA,not_or]at h;rw[ci,jX,b h.2];unfold b1;rw[if_neg h.1];rfl
 induction K with
 |nil=>cases d
 |cons y K b=>
  rw[ci,jX];have a:=jT.mp f;by_cases c:s=y
  .subst c;rw[ah a.1];unfold b1;rw[if_pos rfl];rfl
  .rw[b a.2 (by rcases bA.mp d with h|h;exact absurd h c;exact h)];unfold b1;rw[if_neg c];rfl
theorem AK(f g:Tx->Int):∀K:List Tx,(K.map λy=>f y-g y).sum=(K.map f).sum-(K.map g).sum
 |[]=>rfl
 |y::K=>by simp only[ci,jX,AK f g K];lia
theorem E6(f g:Tx->Int):∀K:List Tx,(K.map λy=>f y+g y).sum=(K.map f).sum+(K.map g).sum
 |[]=>rfl
 |y::K=>by simp only[ci,jX,E6 f g K];lia
theorem C3{K:List Tx}(a:K.Nodup):∀{ls:List Tx},(∀x∈ls,x.dropLast∈K/\x.tail∈K)->(K.map (exc ls)).sum=0
 |[],_=>by
  show(K.map λ_=>(0:Int)).sum=0;clear a;have c:∀K:List Tx,(K.map λ_=>(0:Int)).sum=0:=λK=>by
   induction K with
   |nil=>rfl
   |cons y K b=>rw[ci,jX,b];rfl
  exact c K
 |x::ls,h=>by
  have b:=C3 a (ls:=ls) λz d=>h z (by simp[d]);have e:exc (x::ls)=λy=>(b1 (x.dropLast=y)-b1 (x.tail=y))+exc ls y:=by funext y;simp[exc]
  rw[e,E6,b,AK,zj a (h x (by simp)).1,zj a (h x (by simp)).2];rfl
theorem Ar(f:Tx->Int):∀{K:List Tx},(∀y∈K,f y<=0)->(K.map f).sum<=0/\((K.map f).sum=0->∀y∈K,f y=0)
 |[],_=>⟨by simp,λ_ y h=>by cases h⟩
 |y::K,h=>by
  have b:=Ar f (K:=K) λz a=>h z (by simp[a]);have c:=h y (by simp);rw[ci,jX];refine⟨∅,λe z a=>?_⟩;rcases bA.mp a with rfl|a
  .lia
  .exact b.2 ∅ z a
theorem GJ(f:Tx->Int):∀{K:List Tx},(∀y∈K,f y<=0)->(K.map f).sum=-1->K.Nodup->∃e∈K,f e=-1/\∀y∈K,y≠e->f y=0
 |[],_,h,_=>by simp at h
 |y::K,h,j,i=>by
  have g:∀z∈K,f z<=0:=λz a=>h z (by simp[a]);have o:=Ar f g;have p:=h y (by simp);have d:=jT.mp i;rw[ci,jX]at j;by_cases c:f y=0
  .obtain⟨e,l,n,m⟩:=GJ f g ∅ d.2;refine⟨e,by simp[l],n,λz a b=>?_⟩;rcases bA.mp a with rfl|a
   .exact c
   .exact m z a b
  .refine⟨y,by simp,∅,λz a b=>?_⟩;rcases bA.mp a with rfl|a
   .exact absurd rfl b
   .exact o.2 ∅ z a
theorem wg{a:List Tx}{y:Tx}(h:y∉ks (bg a)):exc a y=0:=by
 have c:(bF (bg a) y).isSome=aj:=by rw[pA];exact decide_eq_false h
 have b:=ue a y;cases e:bF (bg a) y with
 |none=>rw[e]at b;exact b.symm
 |some n=>rw[e]at c;cases c
theorem F9{ls:List Tx}{s:Tx}:s∈fK ls↔s∈ks (bg ls)/\0<exc ls s:=by unfold fK;rw[jq,decide_eq_true_eq,(fZ _).mem_iff]
theorem Eh{v:Nat}{x:Tx}{r:List Tx}(u:∀y∈x::r,y.length=v+1):((fK (x::r)).length<=1/\(∀s∈fK (x::r),exc (x::r) s<=1)/\oW v (x::r))↔∃t,(bp t (v+1)).Perm (x::r):=by
 have a:=Dn u;have j:=ud (x::r);have w:∀y∈x::r,y.dropLast∈ks (bg (x::r))/\y.tail∈ks (bg (x::r)):=λy b=>by rw[mf,mf];unfold eM;exact⟨uC _ (B1 b),i4 _ (B1 b)⟩
 have E:=C3 j w;constructor
 .rintro⟨g,H,i⟩;have f:∀y∈ks (bg (x::r)),y∉fK (x::r)->exc (x::r) y<=0:=λy b n=>by have:=mt (λh=>F9.mpr ⟨b,h⟩) n;lia
  cases l:fK (x::r)with
  |nil=>
   have p:=(Ar _ (λy b=>f y b (by rw[l];simp))).2 E;obtain⟨t,_,_,ht⟩:=Cv u i (s0:=x.take v) (e:=x.take v) ⟨x,by simp,rfl⟩ (λy=>by
    have:exc (x::r) y=0:=by
     by_cases c:y∈ks (bg (x::r))
     .exact p y c
     .exact wg c
    rw[a]at this;lia)
   exact⟨t,ht⟩
  |cons s S=>
   rw[l]at g;have A:S=[]:=by cases S with|nil=>rfl|cons _ _=>simp at g
   subst A;have d:s∈fK (x::r):=by rw[l];simp
   obtain⟨C,s0⟩:=F9.mp d;have N:=H s d;have G:∀y∈ks (bg (x::r)),exc (x::r) y-b1 (s=y)<=0:=λy b=>by
    unfold b1;by_cases c:s=y
    .rw[if_pos c,<-c];lia
    .rw[if_neg c];have:=f y b (by rw[l];simp;exact fj c);lia
   obtain⟨e,J,O,K⟩:=GJ (λy=>exc (x::r) y-b1 (s=y)) G (by rw[AK,E,zj j C];rfl) j;have I:∀y,exc (x::r) y=b1 (s=y)-b1 (e=y):=λy=>by
    by_cases c:y∈ks (bg (x::r))
    .by_cases B:e=y
     .subst B;have:b1 (e=e)=1:=by unfold b1;rw[if_pos rfl]
      lia
     .have:=K y c (fj B);have:b1 (e=y)=0:=by unfold b1;rw[if_neg B]
      lia
    .have M:s≠y:=λz=>c (z ▸ C);have L:e≠y:=λz=>c (z ▸ J);rw[wg c];unfold b1;rw[if_neg M,if_neg L];rfl
   obtain⟨t,_,_,ht⟩:=Cv u i (s0:=s) (e:=e) (Ry.mp (by have:=a s;lia)) (λy=>by have g:=I y;rw[a]at g;unfold b1 at g;unfold b2;split <;> split <;> simp_all <;> lia);exact⟨t,ht⟩
 .rintro⟨t,ht⟩;have q:v<=t.length:=by have:=ht.length_eq;rw[pB ∅]at this;simp at this;lia
  have D:∀y,exc (x::r) y=b1 (t.take v=y)-b1 (en v t=y):=λy=>by have:=tW q y;rw[sD ht,sE ht]at this;rw[a];unfold b1;unfold b2 at this;split <;> split <;> simp_all <;> lia
  have F:∀s∈fK (x::r),s=t.take v:=λs d=>by
   have:=(F9.mp d).2;rw[D]at this;unfold b1 at this;by_cases c:t.take v=s
   .exact c.symm
   .rw[if_neg c]at this;split at this <;> lia
  refine⟨?_,λs d=>?_,PF ht⟩
  .have o:(fK (x::r)).Nodup:=by
    unfold fK;exact((fZ _).nodup_iff.mpr j).filter _
   have:=len_sub o (m:=[t.take v]) (λz p=>by rw[F z p];simp);simpa using this
  .rw[D];unfold b1;split <;> split <;> lia
end Sh
namespace K04
open L2 Pu Mx Sh
section
variable{a:Ad}
theorem Nh(b:List Int)(k m:Int)(r:0<=k)(h:0<m):∃v,0<=v/\v<m/\xw a [bM b,⇑k,⇑m]=.ok (⇑v) [bM b,⇑k,⇑m]:=by
 obtain⟨c,q⟩:=Jy (a:=a) b k r;have s:0<=(c+7919*k+1)*48271 % 2147483647:=Int.emod_nonneg _ (by decide);have d1:(c+7919*k+1)*48271 % 2147483647<2147483647:=HY _ (by decide);have p:gw (.int (c+7919*k+1)) (.int 48271)=aa (.int ((c+7919*k+1)*48271)):=by simp[gw,nV]
 have o:gw (.int 7919) (.int k)=aa (.int (7919*k)):=by simp[gw,nV]
 have g:ji (.int ((c+7919*k+1)*48271)) (.int 2147483647)=aa (.int ((c+7919*k+1)*48271 % 2147483647)):=by simp[ji]
 generalize (c+7919*k+1)*48271 % 2147483647=d at s d1 g;have i:nV d=ae:=by unfold nV;simp;lia
 have n:gw (.int d) (.int d)=aa (.int (d*d)):=by simp[gw,i]
 have l:gw (.int 7) (.int d)=aa (.int (7*d)):=by simp[gw,nV]
 have f:ji (.int (d*d+7*d+k)) (.int 2147483629)=aa (.int ((d*d+7*d+k) % 2147483629)):=by simp[ji]
 generalize (d*d+7*d+k) % 2147483629=d6 at f;have j:ji (.int d6) (.int m)=aa (.int (d6 % m)):=by simp[ji,h]
 refine⟨d6 % m,Int.emod_nonneg _ ∅,HY _ h,?_⟩;simp![xw,yaC,q,p,o,g,n,l,f,j,aZ]
theorem kM(b:List Int)(xs:List PV)(m:Int)(g:0<m)(i:xs.length<=1000):∃v,0<=v/\v<m/\eO a [bM b,.own (.lst xs),⇑m]=.ok (⇑v) [bM b,.own (.lst (xs++[.int 0])),⇑m]:=by
 obtain⟨v,d,c,f⟩:=Nh (a:=a) b ((xs.length:Int)+1) m ∅ g;refine⟨v,d,c,?_⟩;have h:xs.length<bR:=by unfold bR;lia
 simp![eO,yaA,aS,h,f]
theorem mH(c:List Int)(xs b:List PV)(h:xs.length<=1000)(l:0<b.length):∃x∈b,gE a [bM c,.own (.lst xs),.val (.lst b)]=.ok (.val x) [bM c,.own (.lst (xs++[.int 0])),.val (.lst b)]:=by obtain⟨v,g,f,i⟩:=kM (a:=a) c xs (b.length:Nat) ∅ h;obtain⟨x,j,d⟩:=zo b v g f;refine⟨x,j,?_⟩;simp![gE,yaE,aS,aF,i,d]
theorem N4(l:List Int)(j:List PV)(g b:Nat)(M:g<=b)(X:b<=100)(W:j.length<=500):∃(z:Tx) (h:List PV),g<=z.length/\z.length<=b/\(∀c∈z,c∈cA)/\h.length<=j.length+2+b /\ vS a [bM l,.own (.lst j),⇑g,⇑b]=.ok (↥z) [bM l,.own (.lst h),⇑g,⇑b]:=by
 obtain⟨f,w,K⟩:=mH (a:=a) l j [.int 1,.int 2,.int 2,.int 3,.int 3,.int 3] ∅ (by decide);obtain⟨few,rfl,P,Z⟩:∃few:Int,f=.int few/\0<few/\few<=3:=by simp only[bA,eZ,or_false]at w;rcases w with rfl|rfl|rfl|rfl|rfl|rfl <;> exact⟨_,rfl,by decide,by decide⟩
 obtain⟨m,T,S,o⟩:=kM (a:=a) l (j++[.int 0]) ((b:Int)-g+1) ∅ (by simp;lia);obtain⟨n,L⟩:∃n:Nat,(g:Int)+m=n:=⟨(g+m).toNat,∅⟩
 have J:fc [.int ((g:Int)+m)]=aa (dE 0 n):=by rw[L];exact mG ∅
 have bH:(dE 0 n).length=n:=by simp[dE]
 obtain⟨A,y,h,z,p,rfl,u,G,q⟩:=sT (i:=6) (db:=aT 5 (d2 aZ (dV 5) (d2 aF (dC (.str [97,98,99])) (aL (aB (eO a) (gV (dV 0) (gO 1 (gV (dV 4) (Pu.br)))))))))
  (I:=λk t=>∃h z p,t=[bM l,.own (.lst h),⇑g,⇑b,⇑few,↥z,p]/\z.length=k/\h.length<=j.length+2+k/\∀c∈z,c∈cA) (N:=n)
  (by
   rintro k t x Y ⟨h,z,p,rfl,u,G,q⟩;obtain⟨v,B,Q,H⟩:=kM (a:=a) l h few P ∅;obtain⟨c,O,D⟩:=zo cA v B (by simp[cA];lia);refine⟨[bM l,.own (.lst (h++[.int 0])),⇑g,⇑b,⇑few,↥(z++[c]),.val x],?_,h++[.int 0],z++[c],.val x,rfl,by simp[u],by simp;lia,λd o=>?_⟩
   .have r:aF (.str [97,98,99]) (.int v)=aa (.str [c]):=by
     show(fS cA v).map _=_;rw[D];rfl
    have E:aZ (.str z) (.str [c])=aa (.str (z++[c])):=tG (by simp[bR];lia);simp![H,r,E]
   .simp only[g9,jr]at o;rcases o with o|rfl
    .exact q d o
    .exact O)
  (dE 0 n) 0 [bM l,.own (.lst (j++[.int 0]++[.int 0])),⇑g,⇑b,⇑few,.val (.str []),.none] ∅ ⟨j++[.int 0]++[.int 0],[],.none,rfl,rfl,by simp,by simp⟩
 refine⟨z,h,∅,∅,q,∅,?_⟩;have F:gv (.int b) (.int g)=aa (.int ((b:Int)-g)):=rfl;have C:aZ (.int ((b:Int)-g)) (.int 1)=aa (.int ((b:Int)-g+1)):=rfl;have s:aZ (.int g) (.int m)=aa (.int ((g:Int)+m)):=rfl;simp only[iK,yh,i_]at y;simp![vS,yaH,K,F,C,s,o,cj,J,dr,y]
theorem Az(z:Tx)(w:Nat)(C:z.length<=60):nB a [↥z,⇑w]=.ok (.val (.tup (ai (bS (bp z w))))) [↥z,⇑w]:=by
 have d:fc [.int (z.length:Nat)]=aa (dE 0 z.length):=mG ∅;have b:aS [.str z]=aa (.int (z.length:Nat)):=rfl
 let W:=λ(l:List Nat)=>((l.filter λi=>decide (i+w<=z.length)).map λi=>(z.drop i).take w)
 obtain⟨u,h,g,q,l,s,y,rfl⟩:=pC (i:=3) (db:=(aV (dB (d2 (bt λi j=>decide (i<=j)) (d2 aZ (dV 3) (dV 1)) (dL aS (ao (dV 0) (ar))))) (iu 2 (be bD (dV 0) (aY (dV 3)) (aY (d2 aZ (dV 3) (dV 1))))) (bh)))
  (I:=λr ε=>∃(g:Slot) (q l:List Nat),cg z.length=l++q/\r=q.map (λ(i:Nat)=>PV.int (0+(i:Nat)))/\ε=[↥z,⇑w,.own (.lst (ai (W l))),g])
  (by
   rintro x r ε ⟨g,q,l,f,d,rfl⟩;cases q with
   |nil=>cases d
   |cons i q=>
    simp only[ci,rW]at d;obtain⟨rfl,rfl⟩:=d;have D:i<z.length:=by
     have:i∈cg z.length:=by rw[f];simp
     simpa using this
    have G:(W l).length<=60:=by
     have F:=uS (λi=>decide (i+w<=z.length)) l;have E:l.length<=z.length:=by have:=congrArg n9 f;simp at this;lia
     simp only[W,b0];lia
    by_cases c:i+w<=z.length
    .refine⟨[↥z,⇑w,.own (.lst (ai (W (l++[i])))),⇑(0+(i:Nat))],?_,_,q,l++[i],by rw[f];simp,rfl,rfl⟩;have e:W (l++[i])=W l++[(z.drop i).take w]:=by simp[W,c]
     have A:bD (.str z) (aa (i:Int)) (aa ((i:Int)+w))=aa (.str ((z.drop i).take w)):=by show aa (PV.str (cV z _ _))=_;rw[MU c]
     have n:aZ (.int i) (.int w)=aa (.int ((i:Int)+w)):=rfl;have p:(i:Int)+w<=(z.length:Nat):=∅
     have t:(ai (W l)).length<bR:=by rw[fI];unfold bR;lia
     rw[e,<-uu];simp only[Int.zero_add];generalize ai (W l)=L at t;simp![n,b,p,be,aY,A,t,ai]
    .refine⟨[↥z,⇑w,.own (.lst (ai (W (l++[i])))),⇑(0+(i:Nat))],?_,_,q,l++[i],by rw[f];simp,rfl,rfl⟩;have e:W (l++[i])=W l:=by simp[W,c]
     have n:aZ (.int i) (.int w)=aa (.int ((i:Int)+w)):=rfl;have p:¬(i:Int)+w<=(z.length:Nat):=∅
     rw[e];simp only[Int.zero_add];generalize ai (W l)=L;simp![n,b,p])
  (dE 0 z.length) [↥z,⇑w,.own (.lst (ai (W []))),.none] ⟨.none,cg z.length,[],by simp,rfl,rfl⟩
 have m:q=[]:=by cases q with|nil=>rfl|cons=>cases y
 subst m;rw[i6]at s;have B:W l=bp z w:=by rw[<-s];rfl
 have o:W []=[]:=rfl;have f:(bp z w).length<64:=by unfold bp;rw[b0];have:=uS (λi=>decide (i+w<=z.length)) (cg z.length);rw[om]at this;lia
 rw[B,o]at h;simp only[ai,rF]at h;change fM 3 _ _ _=R.ok aK.next [↥z,⇑w,.own (.lst (ai (bp z w))),g]at h;clear_value W;have v:=EA (ls:=bp z w) ∅;simp[nB,yaF,aw,aV,dB,d2,d1,dV,dC,dL,dF,ao,ar,aW,gq,aT,dS,aB,gV,gO,Pu.br,df,cW,bX,cK,cY,R.bind,aO,bL,ig,bJ,back,iT,nk,iC,vV,qY,wO,aL,gH,cH,cx,bh,A7,jQ,Qa,bZ,jo,gU,cq,eU,jJ,gD,bt,j3,iu,mD,wY,cr,n9,b,d,cj,dr,h,v,lz,FZ,L6]
theorem Kk(w:Nat)(b:List Tx)(t:Tx)(ht:t.length<=60):mO a [↥t,⇑w,.val (.tup (ai b))]=.ok (.val (.bl (unD w b t))) [↥t,⇑w,.val (.tup (ai b))]:=by
 have g:=Az (a:=a) t w ht
 let M:=bS (bp t w)
 have f:=ml (cap:=[3,2]) (dt:=bV) (de:=(d2 (bt λi j=>decide (i<=j)) (qt o0 (dV 1) (dV 0)) (qt o0 (dV 2) (dV 0)))) (ε:=[↥t,⇑w,.val (.tup (ai b)),.val (.tup (ai M))]) (λ_=>ae) (λx=>match x with|.str z=>.bl (decide (M.count z<=b.count z))|_=>.non) (ai M)
  (by intro x c;obtain⟨z,_,rfl⟩:=cp.mp c;refine⟨by simp![d7,eJ,cu,bV],λ_=>?_⟩;have o:=FV M z;have n:=FV b z;generalize ai M=A at o;generalize ai b=B at n;simp![d7,eJ,cu,qt,o,n]) []
 have p:((ai M).filter (λ_=>ae)).map (λx=>match x with|.str z=>PV.bl (decide (M.count z<=b.count z))|_=>.non)=(M.map λz=>decide (M.count z<=b.count z)).map .bl:=by rw[km.mpr (by simp)];unfold ai;rw[dZ,dZ];rfl
 rw[i_,p]at f;have l:(M.map λz=>decide (M.count z<=b.count z)).all id=unD w b t:=by
  rw[oj];unfold unD;have d:=fZ (bp t w);rw[mS,mX,mX];constructor
  .intro h x c;have:=h x (d.mem_iff.mpr c);simp only[pZ,id,M,d.count_eq]at this;exact this
  .intro h x c;have:=h x (d.mem_iff.mp c);simp only[pZ,id,M,d.count_eq];exact this
 generalize (M.map λz=>decide (M.count z<=b.count z))=bs at f l;have m:=qz bs;rw[l]at m;change nB a _=R.ok (Slot.val (.tup (ai M))) _ at g;generalize ai M=MM at g f;clear_value M;simp![mO,yaJ,g,bI,aR,iB,f,m]
theorem Ln(w:Nat)(d:List Tx)(V m j g:Slot)(t:Tx)(b:List Tx)(ht:t.length<=50)(J:b.length+(nextT w d t).length<=999999)(u:Slot):∃n,fM 8 (aV (dB (aL (aB (mO a) (gV (d2 aZ (dV 7) (dV 8)) (gV (dV 1) (gV (dV 2) (Pu.br))))))) (iu 6 (d2 aZ (dV 7) (dV 8))) (bh)) (cA.map iU) [V,⇑w,.val (.tup (ai d)),m,j,g,.own (.lst (ai b)),↥t,u]=.ok .next [V,⇑w,.val (.tup (ai d)),m,j,g,.own (.lst (ai (b++nextT w d t))),↥t,n]:=by
 let f:=λ(l:Tx)=>(l.map λc=>t++[c]).filter (unD w d)
 obtain⟨F,v,n,p,rest,q,H,rfl⟩:=pC (i:=8) (db:=(aV (dB (aL (aB (mO a) (gV (d2 aZ (dV 7) (dV 8)) (gV (dV 1) (gV (dV 2) (Pu.br))))))) (iu 6 (d2 aZ (dV 7) (dV 8))) (bh)))
  (I:=λr y=>∃(n:Slot) (p rest:Tx),cA=p++rest/\r=rest.map iU/\y=[V,⇑w,.val (.tup (ai d)),m,j,g,.own (.lst (ai (b++f p))),↥t,n])
  (by
   rintro x r y ⟨n,p,rest,q,D,rfl⟩;cases rest with
   |nil=>cases D
   |cons c rest=>
    have z:x::r=iU c::rest.map iU:=D;simp only[rW]at z;obtain⟨rfl,rfl⟩:=z;have A:aZ (.str t) (.str [c])=aa (.str (t++[c])):=tG (by simp[bR];lia);have o:=Kk (a:=a) w d (t++[c]) (by simp;lia);have s:f (p++[c])=f p++(if unD w d (t++[c])=ae then [t++[c]] else []):=by simp only[f,uK,List.filter_append,ci,rF];congr 1;by_cases h:unD w d (t++[c])=ae <;> simp[h]
    have K:nextT w d t=f p++f (c::rest):=by show(cA.map _).filter _=_;rw[q];simp[f]
    cases C:unD w d (t++[c])with
    |false=>rw[C]at o s;simp only[fW,if_false,i6]at s;refine⟨[V,⇑w,.val (.tup (ai d)),m,j,g,.own (.lst (ai (b++f (p++[c])))),↥t,.val (.str [c])],?_,_,p++[c],rest,by rw[q];simp,rfl,rfl⟩;rw[s];generalize ai (b++f p)=L;generalize ai d=B at o;clear_value f;simp![iU,A,o]
    |true=>
     rw[C]at o s;simp only[if_true]at s;have E:(ai (b++f p)).length<bR:=by rw[fI,c_];rw[K,c_]at J;unfold bR;lia
     refine⟨[V,⇑w,.val (.tup (ai d)),m,j,g,.own (.lst (ai (b++f (p++[c])))),↥t,.val (.str [c])],?_,_,p++[c],rest,by rw[q];simp,rfl,rfl⟩;have M:ai (b++f (p++[c]))=ai (b++f p)++[.str (t++[c])]:=by rw[s];simp[ai]
     rw[M];generalize ai (b++f p)=L at E;generalize ai d=B at o;clear_value f;simp![iU,A,o,E])
  (cA.map iU) [V,⇑w,.val (.tup (ai d)),m,j,g,.own (.lst (ai (b++f []))),↥t,u] ⟨u,[],cA,by simp,rfl,rfl⟩
 have G:rest=[]:=by cases rest with|nil=>rfl|cons=>cases H
 subst G;rw[i6]at q;rw[<-q]at v;have N:f []=[]:=rfl;rw[N,i6]at v;exact⟨n,v⟩
theorem Qm(w:Nat)(c:List Tx)(V h g f o n:Slot)(b:List Tx)(ht:∀t∈b,t.length<=50)(A:(b.flatMap (nextT w c)).length<=999999):∃j d,fM 7 (cj 8 (aR (dC (.str [97,98,99]))) (aV (dB (aL (aB (mO a) (gV (d2 aZ (dV 7) (dV 8)) (gV (dV 1) (gV (dV 2) (Pu.br))))))) (iu 6 (d2 aZ (dV 7) (dV 8))) (bh))) (ai b) [V,⇑w,.val (.tup (ai c)),h,g,f,.own (.lst []),o,n]=.ok .next [V,⇑w,.val (.tup (ai c)),h,g,f,.own (.lst (ai (b.flatMap (nextT w c)))),j,d]:=by
 obtain⟨v,u,j,d,p,rest,l,z,rfl⟩:=pC (i:=7) (db:=(cj 8 (aR (dC (.str [97,98,99]))) (aV (dB (aL (aB (mO a) (gV (d2 aZ (dV 7) (dV 8)) (gV (dV 1) (gV (dV 2) (Pu.br))))))) (iu 6 (d2 aZ (dV 7) (dV 8))) (bh))))
  (I:=λr ε=>∃(j d:Slot) (p rest:List Tx),b=p++rest/\r=ai rest/\ε=[V,⇑w,.val (.tup (ai c)),h,g,f,.own (.lst (ai (p.flatMap (nextT w c)))),j,d])
  (by
   rintro x r ε ⟨j,d,p,rest,l,s,rfl⟩;cases rest with
   |nil=>cases s
   |cons t rest=>
    have q:x::r=.str t::ai rest:=s;simp only[rW]at q;obtain⟨rfl,rfl⟩:=q;obtain⟨m,B⟩:=Ln (a:=a) w c V h g f t (p.flatMap (nextT w c)) (ht t (by rw[l];simp)) (by rw[l,Ia,rT,c_,c_]at A;lia) d;refine⟨_,?_,↥t,m,p++[t],rest,by rw[l];simp,rfl,rfl⟩;have C:(p++[t]).flatMap (nextT w c)=p.flatMap (nextT w c)++nextT w c t:=by simp
    rw[C];have D:iB (.str [97,98,99])=aa (cA.map iU):=rfl;show cj 8 _ _ [V,⇑w,.val (.tup (ai c)),h,g,f,.own (.lst (ai (p.flatMap (nextT w c)))),↥t,d]=_;unfold cj aR dC;simp only[R.bind_ok,D,c9];exact B)
  (ai b) [V,⇑w,.val (.tup (ai c)),h,g,f,.own (.lst (ai (([]:List Tx).flatMap (nextT w c)))),o,n] ⟨o,n,[],b,by simp,rfl,rfl⟩
 have y:rest=[]:=by cases rest with|nil=>rfl|cons=>cases z
 subst y;rw[i6]at l;rw[<-l]at u;exact⟨j,d,u⟩
theorem Oc{w:Nat}{ls:List Tx}(g:Good cA w ls)(p:1<=w)(w4:w<=4)(X:ls.Pairwise (λa b=>dy a b=ae)):s_ a [.val (aE w ls)]=.ok (.own (.lst (ai (et w ls)))) [.val (aE w ls)]:=by
 have H:et w ls=(rowsOf w ls (ls.length+w-1)).filter (λz=>decide (bS (bp z w)=ls)):=by rw[J7 X,xh p g.some λx s=>⟨g.len x s,g.abc x s⟩];congr 2;lia
 obtain⟨L,E⟩:∃L:Nat,ls.length+w-1=L:=⟨_,rfl⟩
 rw[E]at H;have G:L<=12:=by have:=g.few;lia
 have J:aS [.tup (ai ls)]=aa (.int (ls.length:Nat)):=by simp[aS,fI]
 have O:aZ (.int (ls.length:Nat)) (.int w)=aa (.int ((ls.length:Int)+w)):=rfl;have C:gv (.int ((ls.length:Int)+w)) (.int 1)=aa (.int L):=by show aa (PV.int ((ls.length:Int)+w-1))=_;congr 2;lia
 have Y:fc [.int L]=aa (dE 0 L):=mG ∅;have y:(dE 0 L).length=L:=by simp[dE]
 obtain⟨K,n,r,q,j,f,rfl⟩:=sT (i:=5) (db:=(aw (dS 6 (dL cH (ar)))
 (aw (cj 7 (aR (dV 4)) (cj 8 (aR (dC (.str [97,98,99]))) (aV (dB (aL (aB (mO a) (gV (d2 aZ (dV 7) (dV 8)) (gV (dV 1) (gV (dV 2) (Pu.br))))))) (iu 6 (d2 aZ (dV 7) (dV 8))) (bh))))
 (aT 4 (dM 6)))))
  (I:=λk ε=>∃(r q j f:Slot),ε=[.val (aE w ls),⇑w,.val (.tup (ai ls)),⇑L,.val (.lst (ai (rowsOf w ls k))),r,q,j,f]) (N:=L)
  (by
   rintro k ε x hk ⟨r,q,j,f,rfl⟩;have o:∀t∈rowsOf w ls k,t.length<=50:=λt ht=>by have:=((mB k t).mp (jq.mp ht).1).1;lia
   have A:((rowsOf w ls k).flatMap (nextT w ls)).length<=999999:=by have e:(rowsOf w ls k).flatMap (nextT w ls)=rowsOf w ls (k+1):=(FQ p ls k).symm;rw[e];have m:=QJ w ls (k+1);have h2:=P3 (show k+1<=12 by lia);lia
   obtain⟨P,S,m⟩:=Qm (a:=a) w ls (.val (aE w ls)) (⇑L) (.val (.lst (ai (rowsOf w ls k)))) (.val x) j f (rowsOf w ls k) o A;have e:(rowsOf w ls k).flatMap (nextT w ls)=rowsOf w ls (k+1):=(FQ p ls k).symm;rw[e]at m;refine⟨_,?_,.val x,.val (.lst (ai (rowsOf w ls (k+1)))),P,S,rfl⟩;generalize ai (rowsOf w ls (k+1))=R1 at m;generalize Z:ai (rowsOf w ls k)=R0 at m;simp only[aE]at m ⊢;have Q:∀(d:ac->R aK) (u:List PV) (ε:ac),ε[4]?=aa (.val (.lst u))->cj 7 (aR (dV 4)) d ε=fM 7 d u ε:=λd u ε h=>by unfold cj aR dV;rw[h];rfl
   refine(aX (ε1:=[.val (.tup [.int w,.tup (ai ls)]),⇑w,.val (.tup (ai ls)),⇑L,.val (.lst R0),.val x,.own (.lst []),j,f]) (by simp![])).trans ?_;refine(aX ((Q _ R0 _ rfl).trans m)).trans ?_;simp[aT,dM,R.bind])
  (dE 0 L) 0 [.val (aE w ls),⇑w,.val (.tup (ai ls)),⇑L,.val (.lst (ai (rowsOf w ls 0))),.none,.none,.none,.none] ∅ ⟨.none,.none,.none,.none,rfl⟩
 rw[y,lP,IS p]at n;have l:=ml (cap:=[1,2]) (dt:=(dB (d2 (Pu.eqT aj) (aL (aB (nB a) (gV (dV 0) (gV (dV 1) (Pu.br))))) (dV 2)))) (de:=dV 0) (ε:=[.val (aE w ls),⇑w,.val (.tup (ai ls)),⇑L,.val (.lst (ai (rowsOf w ls L))),r,q,j,f])
  (λx=>match x with|.str z=>decide (bS (bp z w)=ls)|_=>aj) (λx=>x) (ai (rowsOf w ls L))
  (by
   intro x s;obtain⟨z,W,rfl⟩:=cp.mp s;have v:z.length<=60:=by have:=((mB L z).mp (jq.mp W).1).1;lia
   have F:=Az (a:=a) z w v;have c:=PQ aj (bS (bp z w)) ls;simp only[gP]at c;generalize ai (bS (bp z w))=M at F c;generalize hD:decide (bS (bp z w)=ls)=D at c;generalize ai (rowsOf w ls L)=RR;simp only[aE];refine⟨?_,λ_=>?_⟩
   .simp only[hD];generalize ai ls=B at c;simp![d7,eJ,cu,F,c]
   .generalize ai ls=B;simp![d7,eJ,cu]) []
 have c:((ai (rowsOf w ls L)).filter (λx=>match x with|.str z=>decide (bS (bp z w)=ls)|_=>aj)).map (λx=>x)=ai (et w ls):=by rw[List.map_id',H];unfold ai;rw[p6];rfl
 rw[i_,c]at l;have e0:ai [[]]=[.str []]:=rfl;rw[e0]at n;generalize ai (et w ls)=T at l;generalize ai (rowsOf w ls L)=RR at l n;simp only[aE]at l n ⊢;generalize ai ls=B at l n J;simp![s_,yay,kG,J,O,C,dr,cj,Y,n,oK,bI,aR,iB,l]
theorem ua{c b:List PV}(h:c.length+b.length<=bR):aZ (.lst c) (.lst b)=aa (.lst (c++b)):=by show(if c.length+b.length<=bR then aa (PV.lst (c++b))else ah)=_;rw[if_pos h]
theorem wE(b:List Tx)(c d:Option Int):cV (ai b) c d=ai (cV b c d):=by unfold cV ai;rw[b0,List.map_take,List.map_drop]
theorem Iz{b:List Tx}{c d:Option Int}{x:Tx}(h:x∈cV b c d):x∈b:=yj (ou h)
theorem Jg(g:List Int)(o n m l j q:Slot)(w:Nat)(H:w<=4)(f:List PV)(K:f.length<=500):∃(z:Tx) (b:List PV) (h:Slot),z.length=w/\(∀c∈z,c∈cA)/\b.length<=f.length+w /\ fM 9 (aT 8 (d2 aZ (dV 8) (d2 aF (dC (.str [97,98,99])) (aL (aB (eO a) (gV (dV 0) (gO 1 (gV (dC (.int 3)) (Pu.br))))))))) (dE 0 w) [bM g,.own (.lst f),o,⇑w,n,m,l,j,.val (.str []),q]=.ok .next [bM g,.own (.lst b),o,⇑w,n,m,l,j,↥z,h]:=by
 have M:(dE 0 w).length=w:=by simp[dE]
 obtain⟨y,G,b,z,h,rfl,u,D,r⟩:=sT (i:=9) (db:=(aT 8 (d2 aZ (dV 8) (d2 aF (dC (.str [97,98,99])) (aL (aB (eO a) (gV (dV 0) (gO 1 (gV (dC (.int 3)) (Pu.br))))))))))
  (I:=λk t=>∃b z h,t=[bM g,.own (.lst b),o,⇑w,n,m,l,j,↥z,h]/\z.length=k/\b.length<=f.length+k/\∀c∈z,c∈cA) (N:=w)
  (by
   rintro k t x L ⟨b,z,h,rfl,u,D,r⟩;obtain⟨v,A,J,E⟩:=kM (a:=a) g b 3 (by decide) ∅;obtain⟨c,F,B⟩:=zo cA v A (by simp[cA];lia);refine⟨[bM g,.own (.lst (b++[.int 0])),o,⇑w,n,m,l,j,↥(z++[c]),.val x],?_,b++[.int 0],z++[c],.val x,rfl,by simp[u],by simp;lia,λd p=>?_⟩
   .have s:aF (.str [97,98,99]) (.int v)=aa (.str [c]):=by
     show(fS cA v).map _=_;rw[B];rfl
    have C:aZ (.str z) (.str [c])=aa (.str (z++[c])):=tG (by simp[bR];lia);simp![E,s,C]
   .simp only[g9,jr]at p;rcases p with p|rfl
    .exact r d p
    .exact F)
  (dE 0 w) 0 [bM g,.own (.lst f),o,⇑w,n,m,l,j,.val (.str []),q] ∅ ⟨f,[],q,rfl,rfl,∅,by simp⟩
 exact⟨z,b,h,∅,r,∅,G⟩
theorem Wn.app{w:Nat}{c b:List Tx}(h:Wn w c)(g:Wn w b):Wn w (c++b):=λx d=>(g9.mp d).elim (h x) (g x)
theorem Wn.cut{w:Nat}{b:List Tx}(h:Wn w b)(c f:Option Int):Wn w (cV b c f):=λx d=>h x (Iz d)
theorem Nz(d:List Int)(D:List PV)(g:D.length<=10):∃(w:Nat) (ls:List Tx) (j:List PV),j.length<=100/\1<=w/\w<=4/\Good cA w ls/\ls.Pairwise (λa b=>dy a b=ae) /\ ql a [bM d,.own (.lst D),⇑8]=.ok (.val (aE w ls)) [bM d,.own (.lst j),⇑8]:=by
 obtain⟨v,v0,v1,hv⟩:=kM (a:=a) d D 4 (by decide) ∅;obtain⟨w,hw⟩:∃w:Nat,1+v=w:=⟨(1+v).toNat,∅⟩
 have w1:1<=w:=∅
 have w4:w<=4:=∅
 have Rp:aZ (.int 1) (.int v)=aa (.int w):=by show aa (PV.int (1+v))=_;rw[hw]
 obtain⟨z,u,z1,z2,F,vk,hz⟩:=N4 (a:=a) d (D++[.int 0]) w (w+7) ∅ ∅ (by simp;lia);have m9:=Az (a:=a) z w ∅;have g0:Wn w (bS (bp z w)):=λx g=>by obtain⟨q1,q2⟩:=Dw ((fZ _).mem_iff.mp g);exact⟨q1,λc O=>F c (q2 c O)⟩
 have n0:(bS (bp z w)).length<=9:=by rw[Au,nR z w w1,b0,om];lia
 obtain⟨m,K,hp⟩:=mH (a:=a) d u [.int 0,.int 0,.int 0,.int 1,.int 2] (by simp at vk;lia) (by decide);obtain⟨n,rfl,hn2⟩:∃n:Nat,m=.int n/\n<=2:=by
  simp only[bA,eZ,or_false]at K;rcases K with rfl|rfl|rfl|rfl|rfl
  .exact⟨0,rfl,by decide⟩
  .exact⟨0,rfl,by decide⟩
  .exact⟨0,rfl,by decide⟩
  .exact⟨1,rfl,by decide⟩
  .exact⟨2,rfl,by decide⟩
 have hr:fc [.int n]=aa (dE 0 n):=mG ∅;have hlr:(dE 0 n).length=n:=by simp[dE]
 have hrw:fc [.int w]=aa (dE 0 w):=mG ∅;simp only[c_,og]at vk;obtain⟨ε',e1,j,ls,r,q,p,l,rfl,E,hl,hy⟩:=sT (i:=6) (db:=(aw (aT 7 (aL (aB (eO a) (gV (dV 0) (gO 1 (gV (d2 aZ (dL aS (ao (dV 5) (ar))) (dC (.int 1))) (Pu.br)))))))
 (aw (aT 8 (dC (.str [])))
 (aw (cj 9 (dL fc (ao (dV 3) (ar))) (aT 8 (d2 aZ (dV 8) (d2 aF (dC (.str [97,98,99])) (aL (aB (eO a) (gV (dV 0) (gO 1 (gV (dC (.int 3)) (Pu.br))))))))))
 (aT 5 (d2 aZ (d2 aZ (be bD (dV 5) (bj) (aY (dV 7))) (aL (aB (gE a) (gV (dV 0) (gO 1 (gV (dF (dL cH (ao (dF (dL cH (ao (dV 8) (ar)))) (ao (dF (dL cH (ar))) (ao (d2 aZ (dF (dL cH (ao (dV 8) (ar)))) (be bD (dV 5) (aY (dV 7)) (aY (d2 aZ (dV 7) (dC (.int 1)))))) (ar)))))) (Pu.br))))))) (be bD (dV 5) (aY (d2 aZ (dV 7) (dC (.int 1)))) (bj))))))))
  (I:=λk ε=>∃(j:List PV) (ls:List Tx) (r q p l:Slot),ε=[bM d,.own (.lst j),⇑8,⇑w,↥z,.val (.lst (ai ls)),r,q,p,l]/\Wn w ls/\ls.length+1<=10*2^k/\j.length<=u.length+1+10*k) (N:=n)
  (by
   rintro k ε x hk ⟨j,ls,r,q,p,l,rfl,E,hl,hy⟩;obtain⟨vi,v0,v1,hv⟩:=kM (a:=a) d j ((ls.length:Int)+1) ∅ ∅;obtain⟨v,rfl⟩:∃v:Nat,vi=v:=⟨vi.toNat,∅⟩
   have h40:10*2^k<=20:=by
    have:k=0\/k=1:=∅
    rcases this with rfl|rfl <;> decide
   obtain⟨t,W,ni,t1,t2,Z,oJ⟩:=Jg (a:=a) d (⇑8) (↥z) (.val (.lst (ai ls))) (.val x) (⇑v) l w w4 (j++[.int 0]) (by simp;lia);simp only[c_,og]at Z;have bH:aS [.lst (ai ls)]=aa (.int (ls.length:Nat)):=by simp[aS,fI]
   have ha0:aZ (.int (ls.length:Nat)) (.int 1)=aa (.int ((ls.length:Int)+1)):=rfl;have sq:aZ (.int v) (.int 1)=aa (.int ((v+1:Nat):Int)):=by show aa (PV.int ((v:Int)+1))=_;congr 2
   have c1:bD (.lst (ai ls)) ah (aa (v:Nat))=aa (.lst (ai (ls.take v))):=by show aa (PV.lst (cV (ai ls) _ _))=_;rw[wE,zt]
   have M:bD (.lst (ai ls)) (aa (v:Nat)) (aa ((v+1:Nat):Int))=aa (.lst (ai (cV ls (aa (v:Nat)) (aa ((v+1:Nat):Int))))):=by show aa (PV.lst (cV (ai ls) _ _))=_;rw[wE]
   have P:bD (.lst (ai ls)) (aa ((v+1:Nat):Int)) ah=aa (.lst (ai (ls.drop (v+1)))):=by show aa (PV.lst (cV (ai ls) _ _))=_;rw[wE,tT]
   have G:Wn w [t]:=λx g=>by rw[jr]at g;subst g;exact⟨t1,t2⟩
   obtain⟨o,hC2,l2,X⟩:∃o,cV ls (aa (v:Nat)) (aa ((v+1:Nat):Int))=o/\o.length<=ls.length/\Wn w o:=⟨_,rfl,E_ _ _ _,Wn.cut E _ _⟩
   rw[hC2]at M;have T:aZ (.lst (ai [t])) (.lst (ai o))=aa (.lst (ai ([t]++o))):=by rw[ua (by rw[fI,fI];simp only[og];unfold bR;lia),uu]
   obtain⟨y,J,H⟩:=mH (a:=a) d W [.lst (ai [t]),.lst (ai []),.lst (ai ([t]++o))] ∅ (by simp);obtain⟨f,rfl,wm,lm⟩:∃f:List Tx,y=.lst (ai f)/\Wn w f/\f.length<=1+ls.length:=by
    simp only[bA,eZ,or_false]at J;rcases J with rfl|rfl|rfl
    .exact⟨[t],rfl,G,by simp⟩
    .exact⟨[],rfl,λx g=>absurd g (by simp),by simp⟩
    .exact⟨[t]++o,rfl,Wn.app G X,by simp only[c_,og];lia⟩
   have lt:=List.length_take_le v ls;have ltd:(ls.take v).length+(ls.drop (v+1)).length<=ls.length:=by rw[lL,kX];lia
   have S:aZ (.lst (ai (ls.take v))) (.lst (ai f))=aa (.lst (ai (ls.take v++f))):=by rw[ua (by rw[fI,fI];unfold bR;lia),uu]
   have Q:aZ (.lst (ai (ls.take v++f))) (.lst (ai (ls.drop (v+1))))=aa (.lst (ai (ls.take v++f++ls.drop (v+1)))):=by rw[ua (by rw[fI,fI,c_];unfold bR;lia),uu]
   refine⟨[bM d,.own (.lst (W++[.int 0])),⇑8,⇑w,↥z,.val (.lst (ai (ls.take v++f++ls.drop (v+1)))),.val x,⇑v,↥t,ni],?_,_,_,_,_,_,_,rfl,?_,?_,by simp;lia⟩
   .have t0:ai [t]=[.str t]:=rfl;have Y:ai []=[]:=rfl;rw[t0]at T H;rw[Y]at H;generalize ai (ls.take v++f++ls.drop (v+1))=R5 at Q;generalize ai (ls.take v++f)=R4 at S Q;generalize ai (ls.drop (v+1))=R3 at Q P;generalize ai (ls.take v)=R1 at S c1;generalize ai ([t]++o)=R2 at T H;generalize ai o=RC at T M;generalize ai f=RM at H S;generalize ai ls=RL at bH c1 M P oJ;refine(aX (ε1:=[bM d,.own (.lst (j++[.int 0])),⇑8,⇑w,↥z,.val (.lst RL),.val x,⇑v,p,l]) (by simp![bH,ha0,hv])).trans ?_;refine(aX (ε1:=[bM d,.own (.lst (j++[.int 0])),⇑8,⇑w,↥z,.val (.lst RL),.val x,⇑v,.val (.str []),l]) (by simp![])).trans ?_;refine(aX (ε1:=[bM d,.own (.lst W),⇑8,⇑w,↥z,.val (.lst RL),.val x,⇑v,↥t,ni]) ?_).trans ?_
    .simp only[cj,dL,ao,ar,dV,List.getElem?_cons_succ,List.getElem?_cons_zero,R.bind_ok,hrw,c9];exact oJ
    .generalize ((v+1:Nat):Int)=vv at sq M P;simp![be,bj,aY,c1,sq,M,T,H,S,P,Q]
   .refine Wn.app (Wn.app (λx g=>E x (ou g)) wm) (λx g=>E x (yj g))
   .rw[c_,c_,Nat.pow_succ];lia)
  (dE 0 n) 0 [bM d,.own (.lst (u++[.int 0])),⇑8,⇑w,↥z,.val (.lst (ai (bS (bp z w)))),.none,.none,.none,.none] ∅ ⟨_,_,.none,.none,.none,.none,rfl,g0,∅,by simp⟩
 have hl40:ls.length<=39:=by
  have:n=0\/n=1\/n=2:=∅
  rcases this with rfl|rfl|rfl <;> simp[dE]at hl <;> lia
 obtain⟨f,gm,A⟩:∃f:List Tx,Good cA w f/\(aV (dB (d2 (Pu.eqT aj) (dV 5) (dF (dL cH (ar))))) (aT 5 (dF (dL cH (ao (d2 gw (dC (.str [99])) (dV 3)) (ar))))) (bh)) [bM d,.own (.lst j),⇑8,⇑w,↥z,.val (.lst (ai (ls.take 8))),r,q,p,l] =
   .ok .next [bM d,.own (.lst j),⇑8,⇑w,↥z,.val (.lst (ai f)),r,q,p,l]:=by
  have s:=A1 aj (ls.take 8) [];have e0:ai []=[]:=rfl;rw[e0]at s;simp only[gP]at s;by_cases h:ls.take 8=[]
  .refine⟨[(cr w [99]).flatten],⟨λx g=>?_,λx g=>?_,by simp,by simp⟩,?_⟩
   .rw[jr]at g;subst g;simp
   .rw[jr]at g;subst g;intro c O;simp at O;rw[O.2];decide
   .rw[decide_eq_true h]at s;have K:gw (.str [99]) (.int w)=aa (.str (cr w [99]).flatten):=by show(if 0<=(w:Int)/\(w:Int)<=100/\([99]:Tx).length<=100 then aa (PV.str (cr (w:Int).toNat [99]).flatten)else ah)=_;rw[if_pos ⟨∅,∅,by simp⟩];rfl
    have e9:ai [(cr w [99]).flatten]=[.str (cr w [99]).flatten]:=rfl;rw[e9];generalize (cr w [99]).flatten=C at K;generalize ai (ls.take 8)=L at s;simp![s,K]
  .refine⟨ls.take 8,⟨λx g=>(E x (ou g)).1,λx g=>(E x (ou g)).2,?_,by rw[lL];lia⟩,?_⟩
   .cases e:ls.take 8 with
    |nil=>exact absurd e h
    |cons=>simp
   .rw[decide_eq_false h]at s;generalize ai (ls.take 8)=L at s;simp![s]
 refine⟨w,bS f,j,by rw[hlr]at hy;lia,w1,w4,gm.perm (fZ _),AE _,?_⟩;have ju:f.length<64:=by have:=gm.few;lia
 have kn:aZ (.int w) (.int 8)=aa (.int ((w:Int)+8)):=rfl;have Ij:gv (.int ((w:Int)+8)) (.int 1)=aa (.int (((w+7:Nat)):Int)):=by show aa (PV.int ((w:Int)+8-1))=_;congr 2;lia
 have B:bD (.lst (ai ls)) ah (aa 8)=aa (.lst (ai (ls.take 8))):=by show aa (PV.lst (cV (ai ls) ah (aa ((8:Nat):Int))))=_;rw[wE,zt]
 have gi:nP [.lst (ai f)]=aa (.lst (ai (bS f))):=EA ∅;have hb:yaI a [bM d,.own (.lst D),⇑8,.none,.none,.none,.none,.none,.none,.none]=.ok (.ret (.val (aE w (bS f)))) [bM d,.own (.lst j),⇑8,⇑w,↥z,.val (.lst (ai f)),r,q,p,l]:=by
  unfold yaI;generalize ai (bS (bp z w))=R0 at m9 e1;generalize ai (ls.take 8)=R9 at B A;generalize ai ls=RL at e1 B;generalize hRS:ai (bS f)=RS at gi;generalize ai f=RM at A gi;refine(aX (ε1:=[bM d,.own (.lst (D++[.int 0])),⇑8,⇑w,.none,.none,.none,.none,.none,.none]) (by simp![hv,Rp])).trans ?_;refine(aX (ε1:=[bM d,.own (.lst u),⇑8,⇑w,↥z,.none,.none,.none,.none,.none]) (by generalize ((w+7:Nat):Int)=w8 at Ij hz;simp![kn,Ij,hz])).trans ?_;refine(aX (ε1:=[bM d,.own (.lst u),⇑8,⇑w,↥z,.val (.lst R0),.none,.none,.none,.none]) (by simp![m9,kF])).trans ?_;refine(aX (ε1:=[bM d,.own (.lst j),⇑8,⇑w,↥z,.val (.lst RL),r,q,p,l]) ?_).trans ?_
  .have hpp:(dL fc (ao (aL (aB (gE a) (gV (dV 0) (gO 1 (gV (dF (dL cH (ao (dC (.int 0)) (ao (dC (.int 0)) (ao (dC (.int 0)) (ao (dC (.int 1)) (ao (dC (.int 2)) (ar)))))))) (Pu.br)))))) (ar))) [bM d,.own (.lst u),⇑8,⇑w,↥z,.val (.lst R0),.none,.none,.none,.none] =
     .ok (dE 0 n) [bM d,.own (.lst (u++[.int 0])),⇑8,⇑w,↥z,.val (.lst R0),.none,.none,.none,.none]:=by simp![hp,hr]
   simp only[dr,cj];rw[hpp];simp only[R.bind_ok];rw[e1]
  refine(aX (ε1:=[bM d,.own (.lst j),⇑8,⇑w,↥z,.val (.lst R9),r,q,p,l]) (by simp![be,bj,aY,B])).trans ?_;refine(aX A).trans ?_;simp only[aE,hRS];simp![gi,lz]
 simp[ql,bL,ig,bJ,cr,hb,back,iT,aO,R.bind]
end
section
variable{a:Ad}
def AY(ls:List Tx)(pv:PV):Prop :=
 (∃p q S,fK ls=p::q::S/\pv=.tup [.str [116,119,111],.str p,.str q])\/(∃s,fK ls=[s]/\1<exc ls s/\pv=.tup [.str [109,111,114,101],.str s]) \/
 ∃ks,Rch ls ks/\(∀y∈ls,y.dropLast∈ks\/y.tail∈ks->y.dropLast∈ks/\y.tail∈ks)/\¬(∀y∈ls,y.dropLast∈ks)/\pv=.tup [.str [97,112,97,114,116],.tup (g7 ks ls)]
theorem JS{W:PV}{v:Nat}{x:Tx}{r:List Tx}(q:W=.tup (ai (x::r)))(F:∀y∈x::r,y.length=v+1)(Z:v<=20)(hr:r.length<=15):∃pv,sS a [.val W]=.ok (.val pv) [.val W]/\(pv=.non\/AY (x::r) pv) /\ (pv=.non↔(fK (x::r)).length<=1/\(∀s∈fK (x::r),exc (x::r) s<=1)/\oW v (x::r)):=by
 have I:iB W=aa (ai (x::r)):=by subst q;rfl
 have Q:aF W (.int 0)=aa (.str x):=by subst q;exact Ag x r
 have T:aS [W]=aa (.int ((ai (x::r)).length:Nat)):=by subst q;rfl
 have u:=Cb (G:=li a) (W:=W) (ε:=[.val W,.none,.none,.none,.none]) (i:=1) rfl (AT _ (x::r) (by simp;lia) I) (by simp);have t:=Mw (a:=a) W (x::r) (by simp;lia) (λy M=>by have:=F y M;lia) .none .none .none;obtain⟨ks,E,D,O⟩:=Qc (a:=a) W x r ∅ I Q;have g:=Oo F E D;have o:∀s∈fK (x::r),bF (bg (x::r)) s=aa (exc (x::r) s):=λs B=>by
  have N:s∈Sh.ks (bg (x::r)):=(fZ _).mem_iff.mp (jq.mp B).1;have u:(bF (bg (x::r)) s).isSome=ae:=by rw[pA];exact decide_eq_true N
  have t:=ue (x::r) s;cases h:bF (bg (x::r)) s with
  |none=>rw[h]at u;cases u
  |some n=>rw[h]at t;rw[<-t];rfl
 have d:∀S:List Tx,∃pv ε,aw (dS 3 (gH (aB (nQ a) (gV (dV 0) (Pu.br))))) (aw f6 (aw f7 (aW (dC .non)))) [.val W,.own (.dK (dk (bg (x::r)))),.val (.lst (ai S)),.none,.none]=.ok (.ret (.val pv)) (.val W::ε)/\(pv=.non\/AY (x::r) pv)/\(pv=.non↔oW v (x::r)):=by
  intro S;have Y:=Cb (G:=nQ a) (W:=W) (ε:=[.val W,.own (.dK (dk (bg (x::r)))),.val (.lst (ai S)),.none,.none]) (i:=3) rfl O (by simp);have X:=Jh (x::r) ks q (.own (.dK (dk (bg (x::r))))) (.val (.lst (ai S))) .none;rw[aX Y,aX (show f6 ([Slot.val W,.own (.dK (dk (bg (x::r)))),.val (.lst (ai S)),.none,.none].set 3 (.own (.dK (cP ks))))=_ from X)];have m:dB (d2 (bt λi j=>decide (i<j)) (dL aS (ao (dV 4) (ar))) (dL aS (ao (dV 0) (ar)))) [.val W,.own (.dK (dk (bg (x::r)))),.val (.lst (ai S)),.own (.dK (cP ks)),.val (.lst (g7 ks (x::r)))]=.ok (decide (((g7 ks (x::r)).length:Int)<((ai (x::r)).length:Int))) [.val W,.own (.dK (dk (bg (x::r)))),.val (.lst (ai S)),.own (.dK (cP ks)),.val (.lst (g7 ks (x::r)))]:=by refine bW (bi (x:=.int ((g7 ks (x::r)).length:Nat)) (y:=.int ((ai (x::r)).length:Nat)) rfl ?_ rfl);exact cF (bY (aG rfl) cB) T
  have p:(ai (x::r)).length=(x::r).length:=by unfold ai;rw[b0]
  by_cases c:∀y∈x::r,y.dropLast∈ks
  .have C:¬(((g7 ks (x::r)).length:Int)<((ai (x::r)).length:Int)):=by
    rw[p];have:=mt (yA ks (x::r)).mp (λh=>h c);lia
   rw[decide_eq_false C]at m;refine⟨.non,[.own (.dK (dk (bg (x::r)))),.val (.lst (ai S)),.own (.dK (cP ks)),.val (.lst (g7 ks (x::r)))],?_,.inl rfl,⟨λ_=>g.mp c,λ_=>rfl⟩⟩;rw[aX (show f7 _=.ok .next _ by unfold f7 aV;rw[m];rfl)];rfl
  .have C:((g7 ks (x::r)).length:Int)<((ai (x::r)).length:Int):=by
    rw[p];have:=(yA ks (x::r)).mpr c;lia
   rw[decide_eq_true C]at m;refine⟨.tup [.str [97,112,97,114,116],.tup (g7 ks (x::r))],[.own (.dK (dk (bg (x::r)))),.val (.lst (ai S)),.own (.dK (cP ks)),.val (.lst (g7 ks (x::r)))],?_,.inr (.inr (.inr ⟨ks,E,D,c,rfl⟩)),⟨(λh=>by cases h),λh=>absurd (g.mpr h) c⟩⟩;unfold aw f7 aV;rw[m];rfl
 have b:∀(l:R aK),aw f3 (aw f4 (aw (dS 3 (gH (aB (nQ a) (gV (dV 0) (Pu.br))))) (aw f6 (aw f7 (aW (dC .non)))))) [.val W,.own (.dK (dk (bg (x::r)))),.val (.lst (ai (fK (x::r)))),.none,.none]=l->yan a [.val W,.none,.none,.none,.none]=l:=by intro l h;rw[QO,aX u];exact(aX t).trans h
 generalize H:fK (x::r)=S at o b ⊢
 match S,o,b with
 |[],_,b=>
  obtain⟨pv,ε,e,A,w⟩:=d [];refine⟨pv,xC (ε:=ε) (b _ ?_),A,?_⟩
  .rw[aX (show f3 _=.ok .next _ from rfl),aX (show f4 _=.ok .next _ from rfl)];exact e
  .rw[w];simp
 |[s],o,b=>
  have B:=o s (by simp);have P:dB (d2 (bt λi j=>decide (j<i)) (fz 1 (d2 aF (dV 2) (dC (.int 0)))) (dC (.int 1))) [.val W,.own (.dK (dk (bg (x::r)))),.val (.lst (ai [s])),.none,.none]=.ok (decide (1<exc (x::r) s)) [.val W,.own (.dK (dk (bg (x::r)))),.val (.lst (ai [s])),.none,.none]:=by refine bW (bi (Ae (i:=1) (db:=d2 aF (dV 2) (dC (.int 0))) ⟨_,rfl⟩ (bi (x:=.lst (ai [s])) rfl rfl (Ag s [])) rfl B) rfl rfl)
  have uq:gU (dB (d2 (eqT aj) (dL aS (ao (dV 2) (ar))) (dC (.int 1)))) (dB (d2 (bt λi j=>decide (j<i)) (fz 1 (d2 aF (dV 2) (dC (.int 0)))) (dC (.int 1)))) [.val W,.own (.dK (dk (bg (x::r)))),.val (.lst (ai [s])),.none,.none]=.ok (decide (1<exc (x::r) s)) [.val W,.own (.dK (dk (bg (x::r)))),.val (.lst (ai [s])),.none,.none]:=by unfold gU;rw[show dB (d2 (eqT aj) (dL aS (ao (dV 2) (ar))) (dC (.int 1))) [.val W,.own (.dK (dk (bg (x::r)))),.val (.lst (ai [s])),.none,.none]=.ok ae [.val W,.own (.dK (dk (bg (x::r)))),.val (.lst (ai [s])),.none,.none] from rfl,R.bind_ok];exact P
  by_cases c:1<exc (x::r) s
  .rw[decide_eq_true c]at uq;refine⟨.tup [.str [109,111,114,101],.str s],xC (ε:=[.own (.dK (dk (bg (x::r)))),.val (.lst (ai [s])),.none,.none]) (b _ ?_),.inr (.inr (.inl ⟨s,H,c,rfl⟩)),⟨(λh=>by cases h),λh=>?_⟩⟩
   .rw[aX (show f3 _=.ok .next _ from rfl)];unfold aw f4 aV;rw[uq];rfl
   .have:=h.2.1 s (by simp);lia
  .rw[decide_eq_false c]at uq;obtain⟨pv,ε,e,A,w⟩:=d [s];refine⟨pv,xC (ε:=ε) (b _ ?_),A,?_⟩
   .rw[aX (show f3 _=.ok .next _ from rfl),aX (show f4 _=.ok .next _ by unfold f4 aV;rw[uq];rfl)];exact e
   .rw[w];refine⟨λh=>⟨by simp,λz L=>?_,h⟩,λh=>h.2.2⟩;have:z=s:=by simpa using L
    subst this;lia
 |s::f::S,o,b=>
  refine⟨.tup [.str [116,119,111],.str s,.str f],xC (ε:=[.own (.dK (dk (bg (x::r)))),.val (.lst (ai (s::f::S))),.none,.none]) (b _ ?_),.inr (.inl ⟨s,f,S,H,rfl⟩),⟨λh=>(by cases h),λh=>?_⟩⟩
  .have K:=Ag s (f::S);have J:=OW s f S;unfold aw f3 aV;have m:dB (d2 (bt λi j=>decide (j<i)) (dL aS (ao (dV 2) (ar))) (dC (.int 1))) [.val W,.own (.dK (dk (bg (x::r)))),.val (.lst (ai (s::f::S))),.none,.none]=.ok (decide ((1:Int)<((ai (s::f::S)).length:Int))) [.val W,.own (.dK (dk (bg (x::r)))),.val (.lst (ai (s::f::S))),.none,.none]:=rfl;rw[decide_eq_true (by unfold ai;simp;lia)]at m;rw[m];simp[R.bind,aW,dL,ao,ar,dC,dV,d2,aO,K,J,cx]
  .have:=h.1;simp at this
abbrev AN:Tx:=[116,119,111]
abbrev more:Tx:=[109,111,114,101]
abbrev apart:Tx:=[97,112,97,114,116]
def ba(p:Nat):PV:=.int p
theorem A8(p:Nat):ba p=.int p:=rfl
def nE(n:Nat)(y:PV)(ps:List Nat):Prop:=y=.tup (ps.map ba)/\ps.Pairwise (· < ·)/\(∀p∈ps,p<n)/\1<=ps.length/\ps.length<n
def Apart(ls:List Tx)(ps:List Nat):Prop:=∀i j y z,i∈ps->j∉ps->ls[i]?=aa y->ls[j]?=aa z->y.dropLast≠z.dropLast/\y.dropLast≠z.tail/\y.tail≠z.dropLast/\y.tail≠z.tail
def f9(ls:List Tx)(x:PV):Prop :=(∃p q,x=.tup [.str AN,.str p,.str q]/\1<=exc ls p/\1<=exc ls q/\p≠q)\/(∃p,x=.tup [.str more,.str p]/\2<=exc ls p)\/∃y b,x=.tup [.str apart,y]/\nE ls.length y b/\Apart ls b
def jE(ks:List Tx):Nat->List Tx->List Nat
 |_,[]=>[]
 |n,y::r=>if y.dropLast∈ks then n::jE ks (n+1) r else jE ks (n+1) r
theorem zW(ks:List Tx):∀(n:Nat) (ls:List Tx),((gX (λi=>PV.int (i:Nat)) n (ai ls)).filter (pw ks)).map (·.1)=(jE ks n ls).map ba
 |_,[]=>rfl
 |n,y::r=>by
  show List.map (·.1) (List.filter (pw ks) ((PV.int n,PV.str y)::gX _ (n+1) (ai r)))=_;have b:=zW ks (n+1) r;by_cases h:y.dropLast∈ks
  .rw[B2 (by show decide _=ae;exact decide_eq_true h),ci,b,jE,if_pos h,ci];rfl
  .rw[B3 (by show ¬decide _=ae;simpa using h),b,jE,if_neg h]
theorem xj(ks:List Tx):∀(n:Nat) (ls:List Tx),∀p∈jE ks n ls,n<=p/\p<n+ls.length
 |_,[],p,h=>by cases h
 |n,y::r,p,h=>by
  rw[jE]at h;have b:=xj ks (n+1) r p;rw[eY];split at h
  .rcases bA.mp h with rfl|h
   .lia
   .have:=b h;lia
  .have:=b h;lia
theorem AS(ks:List Tx):∀(n:Nat) (ls:List Tx),(jE ks n ls).Pairwise (· < ·)
 |_,[]=>.nil
 |n,y::r=>by
  rw[jE];split
  .exact .cons (λp b=>(xj ks (n+1) r p b).1) (AS ks (n+1) r)
  .exact AS ks (n+1) r
theorem wz(ks:List Tx):∀(n:Nat) (ls:List Tx) (i:Nat) (y:Tx),ls[i]?=aa y->(n+i∈jE ks n ls↔y.dropLast∈ks)
 |n,x::r,0,y,h=>by
  cases h;rw[jE,Nat.add_zero];by_cases h:x.dropLast∈ks
  .rw[if_pos h];simp[h]
  .rw[if_neg h];exact⟨λq=>absurd (xj ks (n+1) r n q).1 ∅,λq=>absurd q h⟩
 |n,x::r,i+1,y,h=>by
  have b:=wz ks (n+1) r i y (by simpa using h);rw[show n+1+i=n+(i+1) by lia]at b;rw[jE];split
  .rw[bA,b];exact⟨λq=>q.resolve_left ∅,.inr⟩
  .exact b
theorem JU(ls:List Tx):(fK ls).Nodup:=((fZ _).nodup_iff.mpr (ud ls)).filter _
theorem MO{ls:List Tx}{pv:PV}(v:1<=ls.length)(h:AY ls pv):f9 ls pv:=by
 rcases h with⟨p,q,S,h,rfl⟩|⟨s,h,b,rfl⟩|⟨ks,hr,hc,gQ,rfl⟩
 .have m:=JU ls;rw[h]at m;have f:=(F9 (ls:=ls) (s:=p)).mp (by rw[h];simp);have u:=(F9 (ls:=ls) (s:=q)).mp (by rw[h];simp);exact .inl ⟨p,q,rfl,f.2,u.2,λe=>by subst e;exact(jT.mp m).1 (by simp)⟩
 .exact .inr (.inl ⟨s,rfl,b⟩)
 .refine .inr (.inr ⟨_,jE ks 0 ls,rfl,⟨?_,AS ks 0 ls,λp f=>by have:=xj ks 0 ls p f;lia,?_,?_⟩,?_⟩)
  .unfold g7 lE;rw[zW]
  .obtain⟨x,r,rfl⟩:∃x r,ls=x::r:=by cases ls with|nil=>simp at v|cons x r=>exact⟨x,r,rfl⟩
   have:=(wz ks 0 (x::r) 0 x rfl).mpr (hr.start x r rfl);exact Ib this
  .have:=(yA ks ls).mpr gQ;unfold g7 lE at this;rwa[zW,b0]at this
  .intro i j y z A w t o;have b:=(wz ks 0 ls i y t)
   have n:=(wz ks 0 ls j z o)
   rw[lP]at b n;have d:=b.mp A;have c:z.dropLast∉ks:=λq=>w (n.mpr q);have l:=(hc y (rn t) (.inl d)).2;have g:z.tail∉ks:=λq=>c (hc z (rn o) (.inr q)).1;exact⟨λe=>c (e ▸ d),λe=>g (e ▸ d),λe=>c (e ▸ l),λe=>g (e ▸ l)⟩
theorem Kw{v:Nat}{ls:List Tx}{x:PV}(Q:1<=ls.length)(M:∀y∈ls,y.length=v+1)(h:f9 ls x):¬∃t,(bp t (v+1)).Perm ls:=by
 obtain⟨b,c,rfl⟩:∃b c,ls=b::c:=by cases ls with|nil=>simp at Q|cons x r=>exact⟨x,r,rfl⟩
 rw[<-Eh M];rintro⟨H,T,S⟩;have f:∀p,1<=exc (b::c) p->p∈fK (b::c):=λp G=>F9.mpr ⟨ym λq=>by have:=wg q;lia,∅⟩;rcases h with⟨p,q,_,G,hq,ne⟩|⟨p,_,G⟩|⟨y,ps,_,⟨_,_,ng,l1,l2⟩,ha⟩
 .have A:=f p G;have K:=f q hq
  match hP:fK (b::c),H,A,K with
  |[s],_,A,K=>exact ne (by rw[jr.mp A,jr.mp K])
  |[],_,A,_=>cases A
  |_::_::_,H,_,_=>simp at H
 .have:=T p (f p ∅);lia
 .have D:∀y∈b::c,y.take v=y.dropLast:=λy P=>by rw[B0,M y P];rfl
  obtain⟨i,N⟩:∃i,i∈ps:=by cases ps with|nil=>simp at l1|cons i _=>exact⟨i,by simp⟩
  obtain⟨g,J⟩:∃g,(b::c)[i]?=aa g:=⟨_,fO (ng i N)⟩
  have F:=S (λp=>∃i y,i∈ps/\(b::c)[i]?=aa y/\(p=y.dropLast\/p=y.tail)) ⟨g,rn J,i,g,N,J,.inl (D g (rn J))⟩ (λx B L=>by
   rw[D x B]at L ⊢;obtain⟨j,C⟩:=List.getElem?_of_mem B;by_cases d:j∈ps
   .exact⟨⟨j,x,d,C,.inl rfl⟩,⟨j,x,d,C,.inr rfl⟩⟩
   .exfalso;rcases L with⟨k,u,o,w,q⟩|⟨k,u,o,w,q⟩
    .have:=ha k j u x o d w C;rcases q with q|q
     .exact this.1 q.symm
     .exact this.2.2.1 q.symm
    .have:=ha k j u x o d w C;rcases q with q|q
     .exact this.2.1 q.symm
     .exact this.2.2.2 q.symm)
  obtain⟨j,d,O⟩:∃j,j<(b::c).length/\j∉ps:=ym λq=>by have E:∀j∈cg (b::c).length,j∈ps:=λj d=>ym λn=>q ⟨j,ka.mp d,n⟩;have:=len_sub (l:=(cg (b::c).length).map λj=>[j]) (m:=ps.map λj=>[j]) (HF.mpr (List.nodup_range.imp λh e=>h (by simpa using e))) (λx B=>by obtain⟨j,d,rfl⟩:=cp.mp B;exact cp.mpr ⟨j,E j d,rfl⟩);rw[b0,b0,om]at this;lia
  obtain⟨z,I⟩:∃z,(b::c)[j]?=aa z:=⟨_,fO d⟩
  obtain⟨k,u,o,w,q⟩:=F z (rn I);rw[D z (rn I)]at q;have:=ha k j u z o O w I;rcases q with q|q
  .exact this.1 q.symm
  .exact this.2.2.1 q.symm
end
section
variable{a:Ad}
def l_:PV->Prop
 |.non=>True
 |.bl _=>True
 |.int _=>True
 |.str _=>True
 |_=>False
def Pl(m:Nat):Nat->PV->Prop
 |0,x=>l_ x
 |k+1,x=>match x with
  |.tup xs=>xs.length<=m/\∀y∈xs,Pl m k y
  |.lst xs=>xs.length<=m/\∀y∈xs,Pl m k y
  |x=>l_ x
def nY:PV->Bool
 |.tup _=>ae
 |_=>aj
def pd:PV->Bool
 |.str _=>ae
 |_=>aj
def jR:PV->Bool
 |.int _=>ae
 |_=>aj
def tO:PV->Bool
 |.int _=>ae
 |.bl _=>ae
 |_=>aj
def xr:PV->Bool
 |.bl _=>ae
 |_=>aj
theorem Pl.kind{m k:Nat}{x:PV}(h:Pl m k x):∃t,q0 x=aa t/\dD [] (.type t) (.type "tuple")=aa (nY x)/\dD [] (.type t) (.type "str")=aa (pd x)/\dD [] (.type t) (.type "int")=aa (tO x)/\dD [] (.type t) (.type "bool")=aa (xr x):=by
 cases x with
 |raw v=>cases k <;> exact h.elim
 |exc c=>cases k <;> exact h.elim
 |non=>exact⟨_,rfl,by decide +kernel,by decide +kernel,by decide +kernel,by decide +kernel⟩
 |bl b=>exact⟨_,rfl,by show dD [] (.type "bool") (.type "tuple")=aa aj;decide +kernel,by show dD [] (.type "bool") (.type "str")=aa aj;decide +kernel,Ld,Q3⟩
 |int b=>exact⟨_,rfl,Oa,Je,Fl,Gj⟩
 |str b=>exact⟨_,rfl,by show dD [] (.type "str") (.type "tuple")=aa aj;decide +kernel,EJ,Oz,by show dD [] (.type "str") (.type "bool")=aa aj;decide +kernel⟩
 |tup b=>exact⟨_,rfl,vQ,by show dD [] (.type "tuple") (.type "str")=aa aj;decide +kernel,by show dD [] (.type "tuple") (.type "int")=aa aj;decide +kernel,by show dD [] (.type "tuple") (.type "bool")=aa aj;decide +kernel⟩
 |lst b=>exact⟨_,rfl,by show dD [] (.type "list") (.type "tuple")=aa aj;decide +kernel,by show dD [] (.type "list") (.type "str")=aa aj;decide +kernel,by show dD [] (.type "list") (.type "int")=aa aj;decide +kernel,by show dD [] (.type "list") (.type "bool")=aa aj;decide +kernel⟩
theorem ur{m k:Nat}{x:PV}(h:Pl m k x):cb [x,.raw (.ty "tuple")]=aa (.bl (nY x)):=let ⟨_,e,h1,_⟩:=h.kind;lB e h1
theorem tq{m k:Nat}{x:PV}(h:Pl m k x):cb [x,.raw (.ty "str")]=aa (.bl (pd x)):=let ⟨_,e,_,h1,_⟩:=h.kind;lB e h1
theorem Gc{m k:Nat}{x:PV}(h:Pl m k x):cb [x,.raw (.ty "int")]=aa (.bl (tO x)):=let ⟨_,e,_,_,h1,_⟩:=h.kind;lB e h1
theorem yS{m k:Nat}{x:PV}(h:Pl m k x):cb [x,.raw (.ty "bool")]=aa (.bl (xr x)):=let ⟨_,e,_,_,_,h1⟩:=h.kind;lB e h1
theorem Pl.tup{m k:Nat}{xs:List PV}(h:Pl m k (.tup xs)):xs.length<=m/\∃j,k=j+1/\∀y∈xs,Pl m j y:=by
 cases k with
 |zero=>exact h.elim
 |succ j=>exact⟨h.1,j,rfl,h.2⟩
theorem fJ{ε:ac}{d:ac->R PV}{x:PV}{T:String}{b:Bool}(c:d ε=.ok x ε)(h:cb [x,.raw (.ty T)]=aa (.bl b)):dB (dL cb (ao d (ao (dC (.raw (.ty T))) (ar)))) ε=.ok b ε:=bW (cF (bY c (bY (bE _ _) cB)) h)
theorem qZ{d:ac->R Pu.PO}{ε ε1:ac}{xs:List PV}(h:d ε=.ok (.lst xs) ε1):dF d ε=.ok (.lst xs) ε1:=by unfold dF;rw[h];rfl
theorem dm{f d:ac->R Bool}{ε ε1 c:ac}{b:Bool}(h:f ε=.ok aj ε1)(g:d ε1=.ok b c):cq f d ε=.ok b c:=by unfold cq;rw[h];exact g
theorem jS{b d:ac->R Bool}{ε ε1:ac}(c:b ε=.ok ae ε1):cq b d ε=.ok ae ε1:=by unfold cq;rw[c];rfl
theorem not_of{c:ac->R Bool}{ε ε1:ac}{b:Bool}(h:c ε=.ok b ε1):bZ c ε=.ok (!b) ε1:=by unfold bZ;rw[h];rfl
theorem l9{d1 d2:ac->R PV}{ε ε1:ac}(h:d1 ε=.ok (.bl ae) ε1):eU d1 d2 ε=d2 ε1:=by unfold eU;rw[bW h];rfl
theorem oP{d1 d2:ac->R PV}{ε b:ac}(h:d1 ε=.ok (.bl aj) b):eU d1 d2 ε=.ok (.bl aj) b:=by unfold eU;rw[bW h];rfl
theorem eL{b:Type}{c:ac->R Bool}{d1 d2:ac->R b}{ε ε1:ac}(h:c ε=.ok ae ε1):aV c d1 d2 ε=d1 ε1:=by unfold aV;rw[h];rfl
theorem dU{c:ac->R Bool}{d1:ac->R aK}{ε ε1:ac}(h:c ε=.ok aj ε1):aV c d1 bh ε=.ok .next ε1:=by unfold aV;rw[h];rfl
theorem gJ{d:ac->R PV}{ε ε1:ac}{x:PV}(h:d ε=.ok x ε1):aW d ε=.ok (.ret (.val x)) ε1:=by unfold aW;rw[h];rfl
theorem gb{d1 d2:ac->R aK}{ε b:ac}{s:Slot}(h:d1 ε=.ok (.ret s) b):aw d1 d2 ε=.ok (.ret s) b:=by unfold aw;rw[h]
theorem qJ{D:ac->R aK}{n:Nat}{x y pv:PV}{ε:ac}(h:D (.val x::.val y::cr n .none)=.ok (.ret (.val pv)) (.val x::.val y::ε)):bL 2 [] (bJ n D) [.val x,.val y]=.ok (.val pv) [.val x,.val y]:=by unfold bL bJ;rw[if_pos ⟨rfl,rfl⟩];rw[show D ([.val x,.val y]++cr n .none)=_ from h];rfl
theorem sI{D:ac->R aK}{n:Nat}{x y z pv:PV}{ε:ac}(h:D (.val x::.val y::.val z::cr n .none)=.ok (.ret (.val pv)) (.val x::.val y::.val z::ε)):bL 3 [] (bJ n D) [.val x,.val y,.val z]=.ok (.val pv) [.val x,.val y,.val z]:=by unfold bL bJ;rw[if_pos ⟨rfl,rfl⟩];rw[show D ([.val x,.val y,.val z]++cr n .none)=_ from h];rfl
theorem t5{G:ac->R Slot}{d:ac->R PV}{ε:ac}{x r:PV}(c:d ε=.ok x ε)(b:G [.val x]=.ok (.val r) [.val x]):aL (aB G (gV d Pu.br)) ε=.ok r ε:=by simp[aL,aB,gV,Pu.br,c,b,R.bind,aO,df,cW,bX,cK,cY,qY]
theorem Gr{G:ac->R Slot}{d:ac->R PV}{ε:ac}{x:PV}{l:List PV}(c:d ε=.ok x ε)(b:G [.val x]=.ok (.own (.lst l)) [.val x]):aL (aB G (gV d Pu.br)) ε=.ok (.lst l) ε:=by simp[aL,aB,gV,Pu.br,c,b,R.bind,aO,df,cW,bX,cK,cY,qY,vV]
theorem lD{G:ac->R Slot}{d e:ac->R PV}{ε:ac}{x y r:PV}(f:d ε=.ok x ε)(c:e ε=.ok y ε)(b:G [.val x,.val y]=.ok (.val r) [.val x,.val y]):aL (aB G (gV d (gV e Pu.br))) ε=.ok r ε:=by simp[aL,aB,gV,Pu.br,f,c,b,R.bind,aO,df,cW,bX,cK,cY,qY]
theorem zq{G:ac->R Slot}{d e f:ac->R PV}{ε:ac}{x y z r:PV}(h:d ε=.ok x ε)(g:e ε=.ok y ε)(c:f ε=.ok z ε)(b:G [.val x,.val y,.val z]=.ok (.val r) [.val x,.val y,.val z]):aL (aB G (gV d (gV e (gV f Pu.br)))) ε=.ok r ε:=by simp[aL,aB,gV,Pu.br,h,g,c,b,R.bind,aO,df,cW,bX,cK,cY,qY]
theorem EY{G:ac->R Slot}{d:ac->R PV}{ε:ac}{x:PV}{b:PO}(f:d ε=.ok x ε)(c:G [.val x]=.ok (.own b) [.val x]):gH (aB G (gV d Pu.br)) ε=.ok b ε:=by simp[gH,aB,gV,Pu.br,f,c,R.bind,aO,df,cW,bX,cK,cY,wO]
theorem AU{G:ac->R Slot}{d:ac->R PV}{ε:ac}{x r:PV}(c:d ε=.ok x ε)(b:G [.val x]=.ok (.val r) [.val x]):jQ (aB G (gV d Pu.br)) ε=.ok .next ε:=by simp[jQ,aB,gV,Pu.br,c,b,R.bind,aO,df,cW,bX,cK,cY]
theorem jN{cap:List Nat}{di:ac->R (List PV)}{dt:ac->R Bool}{de:ac->R PV}{ε:ac}{xs:List PV}(p:PV->Bool)(f:PV->PV)(b:di ε=.ok xs ε)(h:∀x∈xs,cu (d7 cap dt x ε)=.ok (p x) ε/\(p x=ae->cu (d7 cap de x ε)=.ok (f x) ε)):dF (bI cap di dt de) ε=.ok (.lst ((xs.filter p).map f)) ε:=by unfold dF bI;rw[b,R.bind_ok,ml p f xs h [],R.bind_ok,i_];rfl
theorem nH{b:Type}{d:ac->R b}{x:PV}{ε:ac}{r:b}(c:d [.val x]=.ok r [.val x]):cu (d7 [] d x ε)=.ok r ε:=by simp[d7,eJ,aO,R.bind,bX,cK,c,df,cW,cY,cu]
theorem iw{b:Type}{d:ac->R b}{x y:PV}{j:Nat}{ε:ac}{r:b}(c:ε[j]?=aa (.val y))(f:d [.val x,.val y]=.ok r [.val x,.val y]):cu (d7 [j] d x ε)=.ok r ε:=by simp[d7,eJ,c,aO,R.bind,bX,cK,f,df,cW,cY,cu]
theorem Ef{b:Type}{d:ac->R b}{x y z:PV}{j k:Nat}{ε:ac}{r:b}(f:ε[j]?=aa (.val y))(c:ε[k]?=aa (.val z))(g:d [.val x,.val y,.val z]=.ok r [.val x,.val y,.val z]):cu (d7 [j,k] d x ε)=.ok r ε:=by simp[d7,eJ,f,c,aO,R.bind,bX,cK,g,df,cW,cY,cu]
theorem LY{d:ac->R PO}{b:ac->R PV}{ε:ac}{m:List (Tx×Int)}{z:Tx}(h:d ε=.ok (.dK (dk m)) ε)(c:b ε=.ok (.str z) ε):wf d b (dC (.int 0)) ε=.ok (.int ((bF m z).getD 0)) ε:=by
 unfold wf;rw[h,R.bind_ok];show(b ε).bind _=_;rw[c,R.bind_ok];show aO (aa ((hG (dk m) (.inr (tS z))).getD (.int 0))) ε=_;rw[oN];cases bF m z <;> rfl
theorem yK{c:List Tx}(j:c.length<=100){m k:Nat}{x:PV}(g:Pl m k x)(n:Int):∃b,mz a [.val x,.val (.tup (ai c)),⇑n]=.ok (.val (.bl b)) [.val x,.val (.tup (ai c)),⇑n]/\(b=ae↔∃p,x=.str p/\n<=exc c p):=by
 have f:=tq g;by_cases d:∃p,x=.str p
 .obtain⟨p,rfl⟩:=d;refine⟨decide (n<=exc c p),sI (n:=0) (ε:=[]) (gJ ((l9 (cF (bY (aG rfl) (bY (bE _ _) cB)) f)).trans (bi (LY (EY (aG (i:=1) rfl) (AT _ c j rfl)) (aG (i:=0) rfl)) (aG (i:=2) rfl) ?_))),?_⟩
  .rw[ue];rfl
  .rw[decide_eq_true_iff];exact⟨λh=>⟨p,rfl,h⟩,λ⟨q,e,h⟩=>by cases e;exact h⟩
 .have:pd x=aj:=by cases x <;> first|rfl|exact absurd ⟨_,rfl⟩ d
  rw[this]at f;exact⟨aj,sI (n:=0) (ε:=[]) (gJ (oP (cF (bY (aG rfl) (bY (bE _ _) cB)) f))),by simp;intro p e;exact absurd ⟨p,e⟩ d⟩
def eV(xs:List Int):List PV:=xs.map .int
theorem DY:∀b:List Int,gI (eV b)=aa (b.map V.int)
 |[]=>rfl
 |x::b=>by show(aa (V.int x)).bind (λv=>(gI (eV b)).map λr=>v::r)=_;rw[DY b];rfl
theorem Ej(i:Int):∀b:List Int,jF (.int i) (b.map V.int)=decide (i∈b)
 |[]=>rfl
 |x::b=>by
  have:=Ej i b;unfold jF at this ⊢;rw[ci,kZ,this];show((x == i)||_)=_;rw[show(x == i)=decide (x=i)from rfl];by_cases h:x=i
  .subst h;simp
  .have:¬i=x:=λe=>h e.symm;simp[h,this]
theorem DU(b:Bool)(i:Int)(xs:List Int):dG b (.int i) (.tup (eV xs))=aa (.bl (b^^decide (i∈xs))):=by show(aa (V.int i)).bind (λv=>(gI (eV xs)).map λc=>PV.bl (b^^jF v c))=_;rw[DY];show aa (PV.bl (b^^jF (.int i) (xs.map V.int)))=_;rw[Ej]
theorem GF:∀d c:List Int,fe (eV d) (eV c)=aa (decide (d=c))
 |[],[]=>rfl
 |[],_::_=>rfl
 |_::_,[]=>rfl
 |x::d,y::c=>by show(dv (.int x) (.int y)).bind (λa=>(fe (eV d) (eV c)).map λb=>a&&b)=_;rw[GF d c];show aa ((x == y)&&decide (d=c))=_;rw[show(x == y)=decide (x=y)from rfl];congr 1;by_cases h:x=y <;> by_cases g:d=c <;> simp[h,g]
theorem Dl:∀b:List Int,fD (eV b)=0
 |[]=>rfl
 |x::b=>by show max (dep (.int x)) (fD (eV b))=0;rw[Dl b];rfl
theorem eq_int(xs b:List Int):Pu.eqT aj (.lst (eV xs)) (.lst (eV b))=aa (.bl (decide (xs=b))):=by
 have c:dep (.lst (eV xs))<=8:=by show fD (eV xs)+1<=8;rw[Dl];lia
 show(if dep (.lst (eV xs))<=8 then(fe (eV xs) (eV b)).map (λk=>PV.bl (aj^^k))else ah)=_;rw[if_pos c,GF];simp
theorem Er:∀{c b:List Nat},c.Pairwise (· < ·)->b.Pairwise (· < ·)->(∀z,z∈c↔z∈b)->c=b
 |[],[],_,_,_=>rfl
 |[],y::b,_,_,h=>by have:=(h y).mpr (by simp);cases this
 |x::c,[],_,_,h=>by have:=(h x).mp (by simp);cases this
 |x::c,y::b,j,i,h=>by
  have g:=x_.mp j;have f:=x_.mp i;have e:x=y:=by
   rcases bA.mp ((h x).mp (by simp))with q|q
   .exact q
   .rcases bA.mp ((h y).mpr (by simp))with p|p
    .exact p.symm
    .have:=g.1 y p;have:=f.1 x q;lia
  subst e;rw[Er g.2 f.2 λz=>⟨λd=>?_,λd=>?_⟩]
  .rcases bA.mp ((h z).mp (by simp[d]))with q|q
   .have:=g.1 z d;lia
   .exact q
  .rcases bA.mp ((h z).mpr (by simp[d]))with q|q
   .have:=f.1 z d;lia
   .exact q
theorem Jz{m k:Nat}{x:PV}(h:Pl m k x):mh a [.val x]=.ok (.val (.bl (jR x))) [.val x]:=by
 have c:=Gc h;have d:=yS h;have e:jR x=(tO x&&!xr x):=by cases x <;> rfl
 rw[e];generalize tO x=b at c ⊢;cases b <;> simp![mh,yau,c,d]
theorem v7{f g:Int->Int->Bool}{d1 d2 b:ac->R PV}{ε:ac}{i j l:Int}(m:d1 ε=.ok (.int i) ε)(d:d2 ε=.ok (.int j) ε)(c:b ε=.ok (.int l) ε):dB (gD (bt f) (bt g) d1 d2 b) ε=.ok (f i j&&g j l) ε:=by
 cases h:f i j <;> simp[dB,gD,m,d,c,R.bind,aO,bt,nk,h]
theorem JT{b:List PV}(h:b.all jR=ae):∃xs:List Int,b=eV xs:=by
 induction b with
 |nil=>exact⟨[],rfl⟩
 |cons z b c=>
  rw[kY,gg]at h;obtain⟨xs,rfl⟩:=c h.2;cases z with
  |int i=>exact⟨i::xs,rfl⟩
  |_=>exact absurd h.1 (by simp[jR])
def Fu(xs:List Int):PV->Bool
 |.int i=>decide (i∈xs)
 |_=>aj
theorem GN(xs:List Int):∀(l:List Nat),((l.map ba).filter (Fu xs))=eV ((l.filter λp:Nat=>decide ((p:Int)∈xs)).map λp:Nat=>(p:Int))
 |[]=>rfl
 |p::l=>by
  have b:=GN xs l;by_cases h:(p:Int)∈xs
  .rw[ci,B2 (by show decide _=ae;exact decide_eq_true h),b,B2 (by simpa using h),ci];rfl
  .rw[ci,B3 (by show ¬decide _=ae;simpa using h),b,B3 (by simpa using h)]
theorem ui(n:Nat):dE 0 n=(cg n).map ba:=by unfold dE ba;refine ki λi _=>?_;show PV.int (0+(i:Int))=_;rw[Int.zero_add]
theorem sA:∀{ps:List Nat}{xs:List Int},ps.map ba=eV xs->xs=ps.map λp:Nat=>(p:Int)
 |[],[],_=>rfl
 |[],_::_,h=>by cases h
 |_::_,[],h=>by cases h
 |p::ps,x::xs,h=>by injection h with h1 h2;injection h1 with h1;rw[sA h2,<-h1];rfl
theorem MW{n:Nat}{xs:List Int}(g:1<=xs.length)(f:xs.length<n):xs=((cg n).filter λp:Nat=>decide ((p:Int)∈xs)).map (λp:Nat=>(p:Int))↔∃b,nE n (.tup (eV xs)) b:=by
 constructor
 .intro e;generalize c:((cg n).filter λp:Nat=>decide ((p:Int)∈xs))=b at e;refine⟨b,?_,?_,λp d=>?_,?_,?_⟩
  .rw[e];unfold eV;rw[dZ];rfl
  .rw[<-c];exact(List.pairwise_lt_range).filter _
  .rw[<-c]at d;exact ka.mp (jq.mp d).1
  .rw[e,b0]at g;exact g
  .rw[e,b0]at f;exact f
 .rintro⟨b,e,i,l,_,_⟩;injection e with e;have e:=sA e.symm;have:(cg n).filter (λp:Nat=>decide ((p:Int)∈xs))=b:=by
   refine Er ((List.pairwise_lt_range).filter _) i λz=>?_;rw[jq,ka,decide_eq_true_iff,e];constructor
   .rintro⟨_,h⟩;obtain⟨q,j,m⟩:=cp.mp h;have:q=z:=∅
    rw[<-this];exact j
   .intro h;exact⟨l z h,cp.mpr ⟨z,h,rfl⟩⟩
  rw[this];exact e
def FJ:ac->R Bool:=cq (bZ (dB (dL cb (ao (dV 0) (ao (dC (.raw (.ty "tuple"))) (ar)))))) (bZ (dB (gD (bt λi j=>decide (i<=j)) (bt λi j=>decide (i<j)) (dC (.int 1)) (dL aS (ao (dV 0) (ar))) (dV 1))))
def Fw(a:Ad):ac->R Bool:=bZ (dB (dL lC (ao (dF (bI [] (aR (dV 0)) (bV) (aL (aB (mh a) (gV (dV 0) (Pu.br)))))) (ar))))
def JK:ac->R PV:=d2 (Pu.eqT aj) (dF (dL kF (ao (dV 0) (ar)))) (dF (bI [0] (dL fc (ao (dV 1) (ar))) (dB (d2 (dG aj) (dV 0) (dV 1))) (dV 0)))
theorem vG:yae a=aw (aV FJ (aW (dC (.bl aj))) (bh)) (aw (aV (Fw a) (aW (dC (.bl aj))) (bh)) (aW JK)):=rfl
theorem IX{m k:Nat}{b:List PV}{ε:ac}(d:∀y∈b,Pl m k y)(g:ε[0]?=aa (.val (.tup b))):Fw a ε=.ok (!(b.all jR)) ε:=by have c:=jN (ε:=ε) (cap:=[]) (di:=aR (dV 0)) (dt:=bV) (de:=aL (aB (mh a) (gV (dV 0) (Pu.br)))) (xs:=b) (λ_=>ae) (λz=>.bl (jR z)) (by unfold aR;rw[aG g];rfl) (λx f=>⟨nH rfl,λ_=>nH (t5 (aG rfl) (Jz (d x f)))⟩);rw[km.mpr (λ_ _=>rfl),show b.map (λz=>PV.bl (jR z))=(b.map jR).map PV.bl by rw[dZ];rfl]at c;have:=qz (b.map jR);rw[oj,show(id ∘ jR:PV->Bool)=jR from rfl]at this;exact not_of (bW (cF (bY c cB) this))
theorem MG{n:Nat}(y:n<=100){m k:Nat}{x:PV}(f:Pl m k x):∃b,q_ a [.val x,⇑n]=.ok (.val (.bl b)) [.val x,⇑n]/\(b=ae↔∃l,nE n x l):=by
 have r:=ur f;have d:∀{b:Bool}{ε},yae a [.val x,⇑n]=.ok (.ret (.val (.bl b))) (.val x::⇑n::ε)->q_ a [.val x,⇑n]=.ok (.val (.bl b)) [.val x,⇑n]:=λh=>qJ (n:=0) h;by_cases ht:∃c,x=.tup c
 .obtain⟨c,rfl⟩:=ht;obtain⟨_,j,_,v⟩:=f.tup;have i:FJ [.val (.tup c),⇑n]=.ok (!(decide ((1:Int)<=c.length)&&decide ((c.length:Int)<n))) [.val (.tup c),⇑n] :=dm (not_of (fJ (aG rfl) r)) (not_of (v7 (bE _ _) (cF (bY (aG rfl) cB) rfl) (aG rfl)));by_cases g:1<=c.length/\c.length<n
  .rw[decide_eq_true ∅,decide_eq_true ∅]at i;have o:=IX (a:=a) (ε:=[.val (.tup c),⇑n]) v rfl;by_cases q:c.all jR=ae
   .obtain⟨xs,rfl⟩:=JT q;rw[q]at o;have w:(eV xs).length=xs.length:=b0 ..;rw[w]at g;have s:=jN (ε:=[.val (.tup (eV xs)),⇑n]) (cap:=[0]) (di:=dL fc (ao (dV 1) (ar))) (dt:=dB (d2 (dG aj) (dV 0) (dV 1))) (de:=dV 0) (xs:=dE 0 n) (Fu xs) id (cF (bY (aG rfl) cB) (mG ∅)) (λx f=>by rw[ui]at f;obtain⟨p,_,rfl⟩:=cp.mp f;refine⟨iw rfl (bW (bi (aG rfl) (aG rfl) ?_)),λ_=>iw rfl rfl⟩;rw[A8,DU,gP];rfl);rw[B4,ui,GN]at s;refine⟨decide (xs=((cg n).filter λp:Nat=>decide ((p:Int)∈xs)).map (λp:Nat=>(p:Int))),d (ε:=[]) ?_,?_⟩
    .rw[vG,aX (dU i),aX (dU o)];exact gJ (bi (qZ (cF (bY (aG rfl) cB) rfl)) s (eq_int _ _))
    .rw[decide_eq_true_iff];exact MW g.1 g.2
   .rw[show c.all jR=aj by simpa using q]at o;refine⟨aj,d (ε:=[]) ?_,by simp only[fW,false_iff];rintro⟨l,e,_⟩;injection e with e;refine q ?_;rw[e,oj];exact mX.mpr λp _=>rfl⟩;rw[vG,aX (dU i)];exact gb ((eL o).trans rfl)
  .have:(!(decide ((1:Int)<=c.length)&&decide ((c.length:Int)<n)))=ae:=by
    by_cases z:1<=c.length
    .rw[decide_eq_true ∅,decide_eq_false ∅];rfl
    .rw[decide_eq_false ∅];rfl
   rw[this]at i;refine⟨aj,d (ε:=[]) ?_,by simp only[fW,false_iff];rintro⟨l,e,_,_,u,t⟩;injection e with e;rw[e,b0]at g;exact g ⟨u,t⟩⟩;rw[vG];exact gb ((eL i).trans rfl)
 .have:nY x=aj:=by cases x <;> first|rfl|exact absurd ⟨_,rfl⟩ ht
  rw[this]at r;refine⟨aj,d (ε:=[]) ?_,by simp only[fW,false_iff];rintro⟨l,e,_⟩;exact ht ⟨_,e⟩⟩;rw[vG];exact gb ((eL (jS (not_of (fJ (aG rfl) r)))).trans rfl)
end
section
variable{a:Ad}
def Af(g:Tx->Tx):PV->PV
 |.str y=>.str (g y)
 |x=>x
theorem KB(g:Tx->Tx)(b:List Tx):(ai b).map (Af g)=ai (b.map g):=by unfold ai;rw[dZ,dZ];rfl
theorem Fk:∀c:List Tx,gI (ai c)=aa (c.map λx=>tV x)
 |[]=>rfl
 |x::b=>by show(aa (tV x)).bind (λv=>(gI (ai b)).map λr=>v::r)=_;rw[Fk b];rfl
theorem QB(x y:Tx):f8 (tV y) (tV x)=decide (y=x):=by
 show(tS y == tS x)=_;by_cases h:y=x
 .subst h;simp
 .rw[decide_eq_false h];exact beq_eq_false_iff_ne.mpr λe=>h (oY e)
theorem F8(x:Tx):∀b:List Tx,jF (tV x) (b.map λy=>tV y)=decide (x∈b)
 |[]=>rfl
 |y::b=>by
  have:=F8 x b;unfold jF at this ⊢;rw[ci,kZ,this,QB];by_cases h:y=x
  .subst h;simp
  .have:¬x=y:=λe=>h e.symm;simp[h,this]
theorem in_str(x:Tx)(b:List Tx):dG aj (.str x) (.lst (ai b))=aa (.bl (decide (x∈b))):=by show(aa (tV x)).bind (λv=>(gI (ai b)).map λc=>PV.bl (aj^^jF v c))=_;rw[Fk];show aa (PV.bl (aj^^jF (tV x) (b.map λy=>tV y)))=_;rw[F8,gP]
def ht(b:List Tx):List Tx:=b.map k8++b.map List.tail
def hD(i:Nat):ac->R PV:=be bD (dV i) (bj) (aY (d1 dq (dC (.int 1))))
def tD(i:Nat):ac->R PV:=be bD (dV i) (aY (dC (.int 1))) (bj)
theorem zL{i:Nat}{ε:ac}{y:Tx}(h:ε[i]?=aa (↥y)):hD i ε=.ok (.str y.dropLast) ε:=by have b:=uk y;have c:dq (.int 1)=aa (.int (-1)):=rfl;simp[hD,be,bj,aY,dV,h,d1,dC,R.bind,aO,c,iC,b]
theorem yJ{i:Nat}{ε:ac}{y:Tx}(h:ε[i]?=aa (↥y)):tD i ε=.ok (.str y.tail) ε:=by have b:=yO y;simp[tD,be,bj,aY,dV,h,dC,R.bind,aO,iC,b]
theorem qN{i:Nat}{ε:ac}{xs:List PV}(h:ε[i]?=aa (.val (.lst xs))):aR (dV i) ε=.ok xs ε:=by unfold aR;rw[aG h];rfl
theorem xL{i:Nat}{ε:ac}{b:List PV}(h:ε[i]?=aa (.val (.tup b))):aR (dV i) ε=.ok b ε:=by unfold aR;rw[aG h];rfl
theorem kN{b:List Tx}{x:PV}(h:x∈ai b):∃y∈b,x=.str y:=by obtain⟨y,c,rfl⟩:=cp.mp h;exact⟨y,c,rfl⟩
theorem yH{i:Nat}{ε:ac}{b:List Tx}(h:b.length<=1000)(d:aR (dV i) ε=.ok (ai b) ε):d2 aZ (dF (bI [] (aR (dV i)) (bV) (hD 0))) (dF (bI [] (aR (dV i)) (bV) (tD 0))) ε=.ok (.lst (ai (ht b))) ε:=by have g:=jN (ε:=ε) (cap:=[]) (dt:=bV) (de:=hD 0) (λ_=>ae) (Af k8) d (λx c=>by obtain⟨y,_,rfl⟩:=kN c;exact⟨nH rfl,λ_=>nH (zL rfl)⟩);have f:=jN (ε:=ε) (cap:=[]) (dt:=bV) (de:=tD 0) (λ_=>ae) (Af List.tail) d (λx c=>by obtain⟨y,_,rfl⟩:=kN c;exact⟨nH rfl,λ_=>nH (yJ rfl)⟩);rw[km.mpr (λ_ _=>rfl),KB]at g f;refine bi g f ?_;rw[ua (by rw[fI,fI,b0,b0];unfold bR;lia),uu];rfl
theorem GL{b:List Tx}(c:b.length<=1000):ny a [.val (.lst (ai b))]=.ok (.val (.lst (ai (ht b)))) [.val (.lst (ai b))]:=by have:yap a [.val (.lst (ai b))]=.ok (.ret (.val (.lst (ai (ht b))))) [.val (.lst (ai b))]:=gJ (yH (i:=0) c (qN rfl));unfold ny bL bJ;rw[if_pos ⟨rfl,rfl⟩,show yap a ([.val (.lst (ai b))]++cr 0 .none)=_ from this];rfl
def eG(ls:List Tx)(ps:List Nat):List Tx:=ps.map λp=>ls.getD p []
def jp(b:List Nat):Nat->List Tx->List Tx
 |_,[]=>[]
 |n,y::r=>if n∈b then jp b (n+1) r else y::jp b (n+1) r
theorem Hg(b:List Nat):∀(n:Nat) (c:List Tx),(jp b n c).length<=c.length
 |_,[]=>bC _
 |n,y::r=>by have:=Hg b (n+1) r;rw[jp];split <;> simp <;> lia
theorem Ba(b:List Nat)(z:Tx):∀(n:Nat) (i:List Tx),z∈jp b n i↔∃j,i[j]?=aa z/\n+j∉b
 |n,[]=>by simp[jp]
 |n,y::r=>by
  have l:=Ba b z (n+1) r;have g:(∃j,r[j]?=aa z/\n+1+j∉b)↔∃j,(y::r)[j+1]?=aa z/\n+(j+1)∉b:=by
   constructor
   .rintro⟨j,f,m⟩;exact⟨j,by simpa using f,by rwa[show n+(j+1)=n+1+j by lia]⟩
   .rintro⟨j,f,m⟩;exact⟨j,by simpa using f,by rwa[show n+1+j=n+(j+1) by lia]⟩
  rw[jp];by_cases h:n∈b
  .rw[if_pos h,l,g];constructor
   .rintro⟨j,q⟩;exact⟨j+1,q⟩
   .rintro⟨j,d,c⟩;cases j with
    |zero=>exact absurd h c
    |succ j=>exact⟨j,d,c⟩
  .rw[if_neg h,bA,l,g];constructor
   .rintro(rfl|⟨j,q⟩)
    .exact⟨0,rfl,h⟩
    .exact⟨j+1,q⟩
   .rintro⟨j,d,c⟩;cases j with
    |zero=>left;exact(fg d).symm
    |succ j=>right;exact⟨j,d,c⟩
theorem uo{ls:List Tx}{ps:List Nat}(c:∀p∈ps,p<ls.length)(y:Tx):y∈eG ls ps↔∃i∈ps,ls[i]?=aa y:=by
 unfold eG;rw[cp];constructor
 .rintro⟨i,b,rfl⟩;exact⟨i,b,by rw[Ig,fO (c i b)];rfl⟩
 .rintro⟨i,b,e⟩;exact⟨i,b,by rw[Ig,e];rfl⟩
def wM(c b:List Tx):Bool:=c.any λx=>decide (x∈b)
theorem KD{c:List Tx}{b:List Nat}(q:∀p∈b,p<c.length):(!(wM (ht (eG c b)) (ht (jp b 0 c))))=ae↔Apart c b:=by
 rw[BV,yk];unfold wM ht;rw[ne_eq,ox];simp only[decide_eq_true_eq,g9,cp];constructor
 .intro h i j y z m l o n;have g:=(uo q y).mpr ⟨i,m,o⟩;have f:=(Ba b z 0 c).mpr ⟨j,n,by rwa[lP]⟩;exact⟨λe=>h ⟨_,.inl ⟨y,g,rfl⟩,.inl ⟨z,f,e.symm⟩⟩,λe=>h ⟨_,.inl ⟨y,g,rfl⟩,.inr ⟨z,f,e.symm⟩⟩,λe=>h ⟨_,.inr ⟨y,g,rfl⟩,.inl ⟨z,f,e.symm⟩⟩,λe=>h ⟨_,.inr ⟨y,g,rfl⟩,.inr ⟨z,f,e.symm⟩⟩⟩
 .rintro h ⟨x,r,d⟩;have get:∀{y z},y∈eG c b->z∈jp b 0 c->y.dropLast≠z.dropLast/\y.dropLast≠z.tail/\y.tail≠z.dropLast/\y.tail≠z.tail:=λ{y z} t s=>by obtain⟨i,m,o⟩:=(uo q y).mp t;obtain⟨j,n,l⟩:=(Ba b z 0 c).mp s;rw[lP]at l;exact h i j y z m l o n
  rcases r with⟨y,hy,rfl⟩|⟨y,hy,rfl⟩ <;> rcases d with⟨z,d,e⟩|⟨z,d,e⟩
  .exact(get hy d).1 e.symm
  .exact(get hy d).2.1 e.symm
  .exact(get hy d).2.2.1 e.symm
  .exact(get hy d).2.2.2 e.symm
def qS(b:List Tx):PV->PV
 |.int i=>.str (b.getD i.toNat [])
 |x=>x
theorem zQ(b:List Tx)(ps:List Nat):(ps.map ba).map (qS b)=ai (eG b ps):=by unfold ai eG;rw[dZ,dZ];refine ki λp _=>?_;show PV.str (b.getD (p:Int).toNat [])=_;rw[iJ];rfl
theorem zI{b:List Tx}{p:Nat}(h:p<b.length):aF (.tup (ai b)) (ba p)=aa (qS b (ba p)):=by show fS (ai b) (p:Int)=aa (PV.str (b.getD (p:Int).toNat []));refine qP ?_;unfold ai;rw[iI,iJ,Ig,fO h];rfl
theorem Iy(b:List Nat)(p:Nat):(decide ((p:Int)∈b.map λq:Nat=>(q:Int)))=decide (p∈b):=by
 refine decide_eq_decide.mpr ⟨λh=>?_,λh=>cp.mpr ⟨p,h,rfl⟩⟩;obtain⟨q,c,e⟩:=cp.mp h;have:q=p:=∅
 rw[<-this];exact c
theorem wt(ps:List Nat):ps.map ba=eV (ps.map λq:Nat=>(q:Int)):=by unfold eV;rw[dZ];rfl
theorem Hf(b:Bool)(p:Nat)(ps:List Nat):dG b (ba p) (.tup (ps.map ba))=aa (.bl (b^^decide (p∈ps))):=by rw[wt,A8,DU,Iy]
def zX(b:List Nat):PV×PV->Bool
 | (.int i,_)=>!decide (i.toNat∈b)
 |_=>aj
theorem Gb(b:List Nat):∀(n:Nat) (c:List Tx),((gX (λi=>PV.int (i:Nat)) n (ai c)).filter (zX b)).map (·.2)=ai (jp b n c)
 |_,[]=>rfl
 |n,y::r=>by
  have d:=Gb b (n+1) r;show List.map (·.2) (List.filter (zX b) ((PV.int n,PV.str y)::gX _ (n+1) (ai r)))=_;rw[jp];by_cases h:n∈b
  .rw[B3 (by show ¬(!decide ((n:Int).toNat∈b))=ae;rw[iJ];simpa using h),d,if_pos h]
  .rw[B2 (by show(!decide ((n:Int).toNat∈b))=ae;rw[iJ];simpa using h),ci,d,if_neg h];rfl
theorem EF{b:Type}{d:ac->R b}{x y z:PV}{j:Nat}{ε:ac}{r:b}(c:ε[j]?=aa (.val z))(f:d [.val x,.val y,.val z]=.ok r [.val x,.val y,.val z]):cu (jm [j] d x y ε)=.ok r ε:=by simp[jm,eJ,c,aO,R.bind,bX,cK,f,df,cW,cY,cu]
theorem Di(bs:List Bool):mJ [.lst (bs.map .bl)]=aa (.bl (bs.any id)):=by
 have h:=qz bs;show(jg (bs.map .bl)).map (λbs=>PV.bl (bs.any id))=_;have:jg (bs.map .bl)=aa bs:=by
  clear h
  induction bs with
  |nil=>rfl
  |cons b bs c=>rw[ci];unfold jg;rw[c];rfl
 rw[this];rfl
def FD(b:List Tx):PV->PV
 |.str x=>.bl (decide (x∈b))
 |x=>x
theorem LO{i j:Nat}{ε:ac}{c b:List Tx}(l:ε[i]?=aa (.val (.lst (ai c))))(d:ε[j]?=aa (.val (.lst (ai b)))):jo (dL mJ (ao (dF (bI [j] (aR (dV i)) (bV) (d2 (dG aj) (dV 0) (dV 1)))) (ar))) ε=.ok (.bl (!(wM c b))) ε:=by have h:=jN (ε:=ε) (cap:=[j]) (dt:=bV) (de:=d2 (dG aj) (dV 0) (dV 1)) (λ_=>ae) (FD b) (qN l) (λx g=>by obtain⟨y,_,rfl⟩:=kN g;exact⟨iw d rfl,λ_=>iw d (bi (aG rfl) (aG rfl) (in_str y b))⟩);rw[km.mpr (λ_ _=>rfl),show(ai c).map (FD b)=(c.map λx=>decide (x∈b)).map PV.bl by unfold ai;rw[dZ,dZ];rfl]at h;have f:=Di (c.map λx=>decide (x∈b));rw[uQ]at f;unfold jo;rw[bW (cF (bY h cB) f)];rfl
theorem Gp:yad a=aw (aV (bZ (dB (aL (aB (q_ a) (gV (dV 0) (gV (dL aS (ao (dV 1) (ar))) (Pu.br))))))) (aW (dC (.bl aj))) (bh)) (aw (aT 2 (aL (aB (ny a) (gV (dF (bI [1] (aR (dV 0)) (bV) (d2 aF (dV 1) (dV 0)))) (Pu.br))))) (aw (aT 3 (aL (aB (ny a) (gV (dF (iz [0] (mx (ao (dV 1) (ar))) (dB (d2 (dG ae) (dV 0) (dV 2))) (dV 1))) (Pu.br))))) (aW (jo (dL mJ (ao (dF (bI [3] (aR (dV 2)) (bV) (d2 (dG aj) (dV 0) (dV 1)))) (ar))))))):=rfl
theorem LR{c:List Tx}(E:c.length<=100){m k:Nat}{x:PV}(j:Pl m k x):∃b,sK a [.val x,.val (.tup (ai c))]=.ok (.val (.bl b)) [.val x,.val (.tup (ai c))]/\(b=ae↔∃d,nE c.length x d/\Apart c d):=by
 obtain⟨b,F,l⟩:=MG (a:=a) (n:=c.length) E j;have J:aS [.tup (ai c)]=aa (.int (c.length:Nat)):=by show aa (PV.int ((ai c).length:Nat))=_;rw[fI]
 have u:bZ (dB (aL (aB (q_ a) (gV (dV 0) (gV (dL aS (ao (dV 1) (ar))) (Pu.br)))))) [.val x,.val (.tup (ai c)),.none,.none]=.ok (!b) [.val x,.val (.tup (ai c)),.none,.none] :=not_of (bW (lD (aG rfl) (cF (bY (aG rfl) cB) J) F));cases b with
 |false=>refine⟨aj,qJ (n:=2) (ε:=[.none,.none]) ?_,by simp only[fW,false_iff];rintro⟨d,h,_⟩;exact absurd (l.mpr ⟨d,h⟩) (by simp)⟩;show yad a [.val x,.val (.tup (ai c)),.none,.none]=_;rw[Gp];exact gb ((eL u).trans rfl)
 |true=>
  obtain⟨d,s⟩:=l.mp rfl;obtain⟨rfl,M,w,L,K⟩:=id s;have g:∀f,nE c.length (.tup (d.map ba)) f->f=d:=λf C=>by
   obtain⟨e,_⟩:=C;injection e with e;have H:=sA (e.symm.trans (wt d));rw[<-B4 d,<-B4 f];have:∀{r o:List Nat},r.map (λq:Nat=>(q:Int))=o.map (λq:Nat=>(q:Int))->o=r:=λ{r o} h=>by have:=congrArg (List.map Int.toNat) h;simpa[dZ,ya]using this.symm
   rw[this H]
  have t:=jN (ε:=[.val (.tup (d.map ba)),.val (.tup (ai c)),.none,.none]) (cap:=[1]) (di:=aR (dV 0)) (dt:=bV) (de:=d2 aF (dV 1) (dV 0)) (λ_=>ae) (qS c) (xL rfl) (λx j=>by obtain⟨p,D,rfl⟩:=cp.mp j;exact⟨iw rfl rfl,λ_=>iw rfl (bi (aG rfl) (aG rfl) (zI (w p D)))⟩);rw[km.mpr (λ_ _=>rfl),zQ]at t;have A:aT 2 (aL (aB (ny a) (gV (dF (bI [1] (aR (dV 0)) (bV) (d2 aF (dV 1) (dV 0)))) (Pu.br)))) [.val (.tup (d.map ba)),.val (.tup (ai c)),.none,.none]=.ok .next [.val (.tup (d.map ba)),.val (.tup (ai c)),.val (.lst (ai (ht (eG c d)))),.none] :=fL (t5 t (GL (by unfold eG;rw[b0];lia)));have I:=v_ (cap:=[0]) (dt:=dB (d2 (dG ae) (dV 0) (dV 2))) (de:=dV 1) (ε:=[.val (.tup (d.map ba)),.val (.tup (ai c)),.val (.lst (ai (ht (eG c d)))),.none]) (zX d) (·.2) (lE (ai c)) (λx j=>by obtain⟨k,y,rfl⟩:=zz _ 0 c x j;refine⟨EF rfl (bW (bi (aG rfl) (aG rfl) ?_)),λ_=>EF rfl rfl⟩;have:=Hf ae k d;rw[A8]at this;rw[this];show aa (PV.bl (ae^^decide (k∈d)))=aa (PV.bl (!decide ((k:Int).toNat∈d)));rw[iJ,BZ]) [];have B:dF (iz [0] (mx (ao (dV 1) (ar))) (dB (d2 (dG ae) (dV 0) (dV 2))) (dV 1)) [.val (.tup (d.map ba)),.val (.tup (ai c)),.val (.lst (ai (ht (eG c d)))),.none]=.ok (.lst (ai (jp d 0 c))) [.val (.tup (d.map ba)),.val (.tup (ai c)),.val (.lst (ai (ht (eG c d)))),.none]:=by refine qZ ?_;unfold iz;rw[show mx (ao (dV 1) (ar)) [.val (.tup (d.map ba)),.val (.tup (ai c)),.val (.lst (ai (ht (eG c d)))),.none]=.ok (lE (ai c)) _ from rfl,R.bind_ok,I,R.bind_ok,i_];unfold lE;rw[Gb]
  have z:=fL (i:=3) (t5 B (GL (a:=a) (by have:=Hg d 0 c;lia)));refine⟨!(wM (ht (eG c d)) (ht (jp d 0 c))),qJ (n:=2) (ε:=[.val (.lst (ai (ht (eG c d)))),.val (.lst (ai (ht (jp d 0 c))))]) ?_,?_⟩
  .show yad a [.val (.tup (d.map ba)),.val (.tup (ai c)),.none,.none]=_;rw[Gp,aX (dU u),aX A,aX z];exact gJ (LO rfl rfl)
  .rw[KD w];exact⟨λh=>⟨d,s,h⟩,λ⟨f,G,v⟩=>by rw[g f G]at v;exact v⟩
end
section
variable{a:Ad}
theorem sY(y:PV)(r:List PV):aF (.tup (y::r)) (.int 0)=aa y:=qP (j:=0) rfl
theorem kr(x y:PV)(r:List PV):aF (.tup (x::y::r)) (.int 1)=aa y:=qP (j:=1) rfl
theorem CH(x y z:PV)(r:List PV):aF (.tup (x::y::z::r)) (.int 2)=aa z:=qP (j:=2) rfl
theorem LU{G:ac->R Slot}{d e f:ac->R PV}{ε:ac}{x y z r:PV}(h:d ε=.ok x ε)(g:e ε=.ok y ε)(c:f ε=.ok z ε)(b:G [.val x,.val y,.val z]=.ok (.val r) [.val x,.val y,.val z]):gq (aB G (gV d (gV e (gV f Pu.br)))) ε=.ok (.ret (.val r)) ε:=by simp[gq,aB,gV,Pu.br,h,g,c,b,R.bind,aO,df,cW,bX,cK,cY]
theorem LD{c:List Tx}(l:c.length<=100){m k:Nat}{x y:PV}(r:Pl m k x)(o:Pl m k y):∃b,t8 a [.val x,.val y,.val (.tup (ai c))]=.ok (.val (.bl b)) [.val x,.val y,.val (.tup (ai c))]/\(b=ae↔∃p q,x=.str p/\y=.str q/\1<=exc c p/\1<=exc c q/\p≠q):=by
 obtain⟨b1,v,j⟩:=yK (a:=a) l r 1;obtain⟨b2,u,g⟩:=yK (a:=a) l o 1;have d:=zq (G:=mz a) (ε:=[.val x,.val y,.val (.tup (ai c))]) (aG (i:=0) rfl) (aG (i:=2) rfl) (bE (.int 1) _) v;have f:=zq (G:=mz a) (ε:=[.val x,.val y,.val (.tup (ai c))]) (aG (i:=1) rfl) (aG (i:=2) rfl) (bE (.int 1) _) u;cases b1 with
 |false=>refine⟨aj,sI (n:=0) (ε:=[]) (gJ (oP d)),by simp only[fW,false_iff];rintro⟨p,q,e,_,h,_⟩;exact absurd (j.mpr ⟨p,e,h⟩) (by simp)⟩
 |true=>
  cases b2 with
  |false=>refine⟨aj,sI (n:=0) (ε:=[]) (gJ ((l9 d).trans (oP f))),by simp only[fW,false_iff];rintro⟨p,q,_,e,_,h,_⟩;exact absurd (g.mpr ⟨q,e,h⟩) (by simp)⟩
  |true=>
   obtain⟨p,rfl,t⟩:=j.mp rfl;obtain⟨q,rfl,s⟩:=g.mp rfl;refine⟨ae^^decide (p=q),sI (n:=0) (ε:=[]) (gJ ((l9 d).trans ((l9 f).trans (bi (aG rfl) (aG rfl) (lv ae p q))))),?_⟩;rw[BZ,BV,decide_eq_false_iff_not];exact⟨λh=>⟨p,q,rfl,rfl,t,s,h⟩,λ⟨B,A,z,w,_,_,h⟩=>by cases z;cases w;exact h⟩
def sW:ac->R Bool:=cq (bZ (dB (dL cb (ao (dV 1) (ao (dC (.raw (.ty "tuple"))) (ar)))))) (cq (bZ (dB (gD (bt λi j=>decide (i<=j)) (bt λi j=>decide (i<=j)) (dC (.int 2)) (dL aS (ao (dV 1) (ar))) (dC (.int 3))))) (bZ (dB (dL cb (ao (d2 aF (dV 1) (dC (.int 0))) (ao (dC (.raw (.ty "str"))) (ar)))))))
theorem OC:yar a=aw (jQ (aB (lr a) (gV (dV 0) (Pu.br)))) (aw (aT 2 (d2 aF (dV 0) (dC (.int 1)))) (aw (aV sW (aW (dC (.bl aj))) (bh)) (aw (aV (dB (d2 (Pu.eqT aj) (dL aS (ao (dV 1) (ar))) (dC (.int 3)))) (aW (eU (d2 (Pu.eqT aj) (d2 aF (dV 1) (dC (.int 0))) (dC (.str [116,119,111]))) (aL (aB (t8 a) (gV (d2 aF (dV 1) (dC (.int 1))) (gV (d2 aF (dV 1) (dC (.int 2))) (gV (dV 2) (Pu.br)))))))) (bh)) (aw (aV (dB (d2 (Pu.eqT aj) (d2 aF (dV 1) (dC (.int 0))) (dC (.str [109,111,114,101])))) (gq (aB (mz a) (gV (d2 aF (dV 1) (dC (.int 1))) (gV (dV 2) (gV (dC (.int 2)) (Pu.br)))))) (bh)) (aW (eU (d2 (Pu.eqT aj) (d2 aF (dV 1) (dC (.int 0))) (dC (.str [97,112,97,114,116]))) (aL (aB (sK a) (gV (d2 aF (dV 1) (dC (.int 1))) (gV (dV 2) (Pu.br))))))))))) :=rfl
theorem EC{w:Nat}{ls:List Tx}(w1:1<=w)(w4:w<=4)(g:Good cA w ls)(hs:ls.Pairwise (λa b=>dy a b=ae)){m k:Nat}{x:PV}(hx:Pl m k x):∃b,mj a [.val (aE w ls),.val x]=.ok (.val (.bl b)) [.val (aE w ls),.val x]/\(b=ae↔f9 ls x):=by
 have X:ls.length<=100:=by have:=g.few;lia
 have nh:=xf (a:=a) (g.vw w1 w4 hs);have h1:=AU (G:=lr a) (ε:=[.val (aE w ls),.val x,.none]) (aG (i:=0) rfl) nh;have I:aT 2 (d2 aF (dV 0) (dC (.int 1))) [.val (aE w ls),.val x,.none]=.ok .next [.val (aE w ls),.val x,.val (.tup (ai ls))]:=fL (bi (aG rfl) (bE _ _) (kr _ _ _));have A:∀{r:R aK},aw (aV sW (aW (dC (.bl aj))) (bh)) (aw (aV (dB (d2 (Pu.eqT aj) (dL aS (ao (dV 1) (ar))) (dC (.int 3)))) (aW (eU (d2 (Pu.eqT aj) (d2 aF (dV 1) (dC (.int 0))) (dC (.str [116,119,111]))) (aL (aB (t8 a) (gV (d2 aF (dV 1) (dC (.int 1))) (gV (d2 aF (dV 1) (dC (.int 2))) (gV (dV 2) (Pu.br)))))))) (bh)) (aw (aV (dB (d2 (Pu.eqT aj) (d2 aF (dV 1) (dC (.int 0))) (dC (.str [109,111,114,101])))) (gq (aB (mz a) (gV (d2 aF (dV 1) (dC (.int 1))) (gV (dV 2) (gV (dC (.int 2)) (Pu.br)))))) (bh)) (aW (eU (d2 (Pu.eqT aj) (d2 aF (dV 1) (dC (.int 0))) (dC (.str [97,112,97,114,116]))) (aL (aB (sK a) (gV (d2 aF (dV 1) (dC (.int 1))) (gV (dV 2) (Pu.br))))))))) [.val (aE w ls),.val x,.val (.tup (ai ls))]=r->yar a [.val (aE w ls),.val x,.none]=r:=λh=>by rw[OC,aX h1,aX I];exact h
 have z:∀{b:Bool},yar a [.val (aE w ls),.val x,.none]=.ok (.ret (.val (.bl b))) [.val (aE w ls),.val x,.val (.tup (ai ls))]->mj a [.val (aE w ls),.val x]=.ok (.val (.bl b)) [.val (aE w ls),.val x]:=λh=>qJ (n:=1) (ε:=[_]) h;have no:sW [.val (aE w ls),.val x,.val (.tup (ai ls))]=.ok ae [.val (aE w ls),.val x,.val (.tup (ai ls))]->¬f9 ls x->∃b,mj a [.val (aE w ls),.val x]=.ok (.val (.bl b)) [.val (aE w ls),.val x]/\(b=ae↔f9 ls x):=λC Q=>⟨aj,z (A (gb ((eL C).trans rfl))),by simp only[fW,false_iff];exact Q⟩
 have Y:=ur hx;by_cases ht:∃o,x=.tup o;rotate_left
 .have:nY x=aj:=by cases x <;> first|rfl|exact absurd ⟨_,rfl⟩ ht
  rw[this]at Y;refine no (jS (not_of (fJ (aG rfl) Y))) ?_;rintro(⟨p,q,e,_⟩|⟨p,e,_⟩|⟨y,s,e,_⟩) <;> exact ht ⟨_,e⟩
 obtain⟨o,rfl⟩:=ht;obtain⟨_,j,_,B⟩:=hx.tup;have tup:bZ (dB (dL cb (ao (dV 1) (ao (dC (.raw (.ty "tuple"))) (ar))))) [.val (aE w ls),.val (.tup o),.val (.tup (ai ls))]=.ok aj [.val (aE w ls),.val (.tup o),.val (.tup (ai ls))]:=not_of (fJ (aG rfl) Y);have l:bZ (dB (gD (bt λi j=>decide (i<=j)) (bt λi j=>decide (i<=j)) (dC (.int 2)) (dL aS (ao (dV 1) (ar))) (dC (.int 3)))) [.val (aE w ls),.val (.tup o),.val (.tup (ai ls))]=.ok (!(decide ((2:Int)<=o.length)&&decide ((o.length:Int)<=3))) [.val (aE w ls),.val (.tup o),.val (.tup (ai ls))]:=not_of (v7 (bE _ _) (cF (bY (aG rfl) cB) rfl) (bE _ _));have c:¬(2<=o.length/\o.length<=3)->∃b,mj a [.val (aE w ls),.val (.tup o)]=.ok (.val (.bl b)) [.val (aE w ls),.val (.tup o)]/\(b=ae↔f9 ls (.tup o)):=λQ=>by
  have:(!(decide ((2:Int)<=o.length)&&decide ((o.length:Int)<=3)))=ae:=by
   by_cases q:2<=o.length
   .rw[decide_eq_true ∅,decide_eq_false ∅];rfl
   .rw[decide_eq_false ∅];rfl
  rw[this]at l;refine no (dm tup (jS l)) ?_;rintro(⟨p,q,e,_⟩|⟨p,e,_⟩|⟨y,s,e,_⟩) <;> (injection e with e;rw[e]at Q;simp at Q)
 match o,B,tup,l,c with
 |[],_,_,_,c=>exact c (by simp)
 |[_],_,_,_,c=>exact c (by simp)
 |_::_::_::_::_,_,_,_,c=>exact c (by simp)
 |[f,d],B,tup,l,_=>
  have W:=B f (by simp);have O:=B d (by simp);have D:d2 aF (dV 1) (dC (.int 0)) [.val (aE w ls),.val (.tup [f,d]),.val (.tup (ai ls))]=.ok f [.val (aE w ls),.val (.tup [f,d]),.val (.tup (ai ls))]:=bi (aG rfl) (bE _ _) (sY _ _);have T:d2 aF (dV 1) (dC (.int 1)) [.val (aE w ls),.val (.tup [f,d]),.val (.tup (ai ls))]=.ok d [.val (aE w ls),.val (.tup [f,d]),.val (.tup (ai ls))]:=bi (aG rfl) (bE _ _) (kr _ _ _);have t:=tq W;by_cases E:∃u,f=.str u;rotate_left
  .have:pd f=aj:=by cases f <;> first|rfl|exact absurd ⟨_,rfl⟩ E
   rw[this]at t;refine no (dm tup (dm l (not_of (fJ D t)))) ?_;rintro(⟨p,q,e,_⟩|⟨p,e,_⟩|⟨y,s,e,_⟩) <;> injection e with e <;> injection e with e _ <;> exact E ⟨_,e⟩
  obtain⟨u,rfl⟩:=E;have C:sW [.val (aE w ls),.val (.tup [.str u,d]),.val (.tup (ai ls))]=.ok aj [.val (aE w ls),.val (.tup [.str u,d]),.val (.tup (ai ls))]:=dm tup (dm l (not_of (fJ D t)));have H:dB (d2 (Pu.eqT aj) (dL aS (ao (dV 1) (ar))) (dC (.int 3))) [.val (aE w ls),.val (.tup [.str u,d]),.val (.tup (ai ls))]=.ok aj [.val (aE w ls),.val (.tup [.str u,d]),.val (.tup (ai ls))]:=bW (bi (cF (bY (aG rfl) cB) rfl) (bE _ _) (iW aj 2 3));have F:=bW (bi D (bE (.str [109,111,114,101]) _) (lv aj u [109,111,114,101]));rw[gP]at F;by_cases L:u=[109,111,114,101]
  .rw[decide_eq_true L]at F;obtain⟨b,M,K⟩:=yK (a:=a) X O 2;refine⟨b,z (A ?_),?_⟩
   .rw[aX (dU C),aX (dU H)];exact gb ((eL F).trans (LU T (aG rfl) (bE _ _) M))
   .rw[K];constructor
    .rintro⟨p,rfl,h⟩;subst L;exact .inr (.inl ⟨p,rfl,h⟩)
    .rintro(⟨p,q,e,_⟩|⟨p,e,h⟩|⟨y,s,e,_⟩)
     .injection e with e;simp at e
     .injection e with e;injection e with _ e;injection e with e _;exact⟨p,e,h⟩
     .injection e with e;injection e with e _;injection e with e;rw[L]at e;simp at e
  .rw[decide_eq_false L]at F;have N:=bi D (bE (.str [97,112,97,114,116]) _) (lv aj u [97,112,97,114,116]);rw[gP]at N;have Z:∀{P:Prop},(f9 ls (.tup [.str u,d])↔P)↔((∃y s,PV.tup [.str u,d]=.tup [.str apart,y]/\nE ls.length y s/\Apart ls s)↔P):=by
    intro P;have:f9 ls (.tup [.str u,d])↔∃y s,PV.tup [.str u,d]=.tup [.str apart,y]/\nE ls.length y s/\Apart ls s:=by
     constructor
     .rintro(⟨p,q,e,_⟩|⟨p,e,_⟩|h)
      .injection e with e;simp at e
      .injection e with e;injection e with e _;injection e with e;exact absurd e L
      .exact h
     .exact λh=>.inr (.inr h)
    rw[this]
   by_cases S:u=[97,112,97,114,116]
   .rw[decide_eq_true S]at N;obtain⟨b,M,K⟩:=LR (a:=a) X O;refine⟨b,z (A ?_),?_⟩
    .rw[aX (dU C),aX (dU H),aX (dU F)];exact gJ ((l9 N).trans (lD T (aG rfl) M))
    .refine Iff.symm (Z.mpr (Iff.symm ?_));rw[K];constructor
     .rintro⟨s,h⟩;exact⟨d,s,by rw[S],h⟩
     .rintro⟨y,s,e,h⟩;injection e with e;injection e with _ e;injection e with e _;rw[e];exact⟨s,h⟩
   .rw[decide_eq_false S]at N;refine⟨aj,z (A ?_),?_⟩
    .rw[aX (dU C),aX (dU H),aX (dU F)];exact gJ (oP N)
    .refine Iff.symm (Z.mpr ?_);simp only[fW,iff_false];rintro⟨y,s,e,h⟩;injection e with e;injection e with e _;injection e with e;exact S e
 |[f,d,v],B,tup,l,_=>
  have W:=B f (by simp);have O:=B d (by simp);have p2:=B v (by simp);have D:d2 aF (dV 1) (dC (.int 0)) [.val (aE w ls),.val (.tup [f,d,v]),.val (.tup (ai ls))]=.ok f [.val (aE w ls),.val (.tup [f,d,v]),.val (.tup (ai ls))]:=bi (aG rfl) (bE _ _) (sY _ _);have T:d2 aF (dV 1) (dC (.int 1)) [.val (aE w ls),.val (.tup [f,d,v]),.val (.tup (ai ls))]=.ok d [.val (aE w ls),.val (.tup [f,d,v]),.val (.tup (ai ls))]:=bi (aG rfl) (bE _ _) (kr _ _ _);have g2:d2 aF (dV 1) (dC (.int 2)) [.val (aE w ls),.val (.tup [f,d,v]),.val (.tup (ai ls))]=.ok v [.val (aE w ls),.val (.tup [f,d,v]),.val (.tup (ai ls))]:=bi (aG rfl) (bE _ _) (CH _ _ _ _);have t:=tq W;by_cases E:∃u,f=.str u;rotate_left
  .have:pd f=aj:=by cases f <;> first|rfl|exact absurd ⟨_,rfl⟩ E
   rw[this]at t;refine no (dm tup (dm l (not_of (fJ D t)))) ?_;rintro(⟨p,q,e,_⟩|⟨p,e,_⟩|⟨y,s,e,_⟩) <;> injection e with e <;> injection e with e _ <;> exact E ⟨_,e⟩
  obtain⟨u,rfl⟩:=E;have C:sW [.val (aE w ls),.val (.tup [.str u,d,v]),.val (.tup (ai ls))]=.ok aj [.val (aE w ls),.val (.tup [.str u,d,v]),.val (.tup (ai ls))]:=dm tup (dm l (not_of (fJ D t)));have H:dB (d2 (Pu.eqT aj) (dL aS (ao (dV 1) (ar))) (dC (.int 3))) [.val (aE w ls),.val (.tup [.str u,d,v]),.val (.tup (ai ls))]=.ok ae [.val (aE w ls),.val (.tup [.str u,d,v]),.val (.tup (ai ls))]:=bW (bi (cF (bY (aG rfl) cB) rfl) (bE _ _) (iW aj 3 3));have J:=bi D (bE (.str [116,119,111]) _) (lv aj u [116,119,111]);rw[gP]at J;have is:f9 ls (.tup [.str u,d,v])↔u=[116,119,111]/\∃p q,d=.str p/\v=.str q/\1<=exc ls p/\1<=exc ls q/\p≠q:=by
   constructor
   .rintro(⟨p,q,e,h⟩|⟨p,e,_⟩|⟨y,s,e,_⟩)
    .injection e with e;injection e with e0 e;injection e0 with e0;injection e with e1 e;injection e with e2 _;exact⟨e0,p,q,e1,e2,h⟩
    .injection e with e;simp at e
    .injection e with e;simp at e
   .rintro⟨rfl,p,q,rfl,rfl,h⟩;exact .inl ⟨p,q,rfl,h⟩
  by_cases I:u=[116,119,111]
  .rw[decide_eq_true I]at J;obtain⟨b,M,K⟩:=LD (a:=a) X O p2;refine⟨b,z (A ?_),by rw[K,is];exact⟨λh=>⟨I,h⟩,λh=>h.2⟩⟩;rw[aX (dU C)];exact gb ((eL H).trans (gJ ((l9 J).trans (zq T g2 (aG rfl) M))))
  .rw[decide_eq_false I]at J;refine⟨aj,z (A ?_),by rw[is];simp[I]⟩;rw[aX (dU C)];exact gb ((eL H).trans (gJ (oP J)))
def Bf(g:Tx->Tx)(p:Tx):PV->Bool
 |.str y=>decide (g y=p)
 |_=>aj
theorem Cz(p:Tx):∀b:List Tx,(((b.filter λy=>decide (y.dropLast=p)).length:Nat):Int)-((b.filter λy=>decide (y.tail=p)).length:Nat)=exc b p
 |[]=>rfl
 |y::b=>by have c:=Cz p b;show _=((y::b).map λx=>b1 (x.dropLast=p)-b1 (x.tail=p)).sum;rw[ci,jX,show((b.map λx=>b1 (x.dropLast=p)-b1 (x.tail=p)).sum)=exc b p from rfl,<-c];unfold b1;by_cases f:y.dropLast=p <;> by_cases d:y.tail=p <;> simp[f,d] <;> lia
theorem Cp(g:Tx->Tx)(p:Tx)(b:List Tx):((ai b).filter (Bf g p)).length=(b.filter λy=>decide (g y=p)).length:=by unfold ai;rw[p6,b0];rfl
theorem xg{ls:List Tx}(p:Tx):jD a [.val (.tup (ai ls)),↥p]=.ok (⇑(exc ls p)) [.val (.tup (ai ls)),↥p]:=by have d:=jN (ε:=[.val (.tup (ai ls)),↥p]) (cap:=[1]) (di:=aR (dV 0)) (dt:=dB (d2 (Pu.eqT aj) (hD 0) (dV 1))) (de:=dC (.int 1)) (Bf k8 p) (λ_=>.int 1) (xL rfl) (λx b=>by obtain⟨y,_,rfl⟩:=kN b;refine⟨iw rfl (bW (bi (zL rfl) (aG rfl) ?_)),λ_=>iw rfl rfl⟩;rw[lv,gP];rfl);have c:=jN (ε:=[.val (.tup (ai ls)),↥p]) (cap:=[1]) (di:=aR (dV 0)) (dt:=dB (d2 (Pu.eqT aj) (tD 0) (dV 1))) (de:=dC (.int 1)) (Bf List.tail p) (λ_=>.int 1) (xL rfl) (λx b=>by obtain⟨y,_,rfl⟩:=kN b;refine⟨iw rfl (bW (bi (yJ rfl) (aG rfl) ?_)),λ_=>iw rfl rfl⟩;rw[lv,gP];rfl);refine qJ (n:=0) (ε:=[]) (gJ (bi (cF (bY d cB) rfl) (cF (bY c cB) rfl) ?_));rw[<-Cz p ls,<-Cp,<-Cp,b0,b0];rfl
theorem Be{w:Nat}{b:List Tx}(f:∀y∈b,y.length=w){p:Tx}(h:1<=exc b p):p.length=w-1:=by
 have g:p∈ks (bg b):=ym λq=>by have:=wg q;lia
 have d:=(mf b p).mp g;unfold eM at d;rcases g9.mp d with q|q
 .obtain⟨y,c,rfl⟩:=cp.mp q;rw[yf,f y c]
 .obtain⟨y,c,rfl⟩:=cp.mp q;rw[List.length_tail,f y c]
theorem zE{m k:Nat}:∀{b:List PV},(∀y∈b,dep y<=k)->fD b<=k
 |[],_=>kg _
 |x::b,h=>by show max (dep x) (fD b)<=k;exact Nat.max_le.mpr ⟨h x (by simp),zE (m:=m) λy c=>h y (by simp[c])⟩
theorem Pl.dep{m:Nat}:∀{k:Nat}{x:PV},Pl m k x->Pu.dep x<=k
 |0,x,h=>by cases x <;> first|exact h.elim|exact bC _
 |k+1,x,h=>by
  cases x with
  |tup xs=>exact Nat.succ_le_succ (zE (m:=m) λy b=>Pl.dep (h.2 y b))
  |lst xs=>exact Nat.succ_le_succ (zE (m:=m) λy b=>Pl.dep (h.2 y b))
  |raw v=>exact h.elim
  |exc c=>exact h.elim
  |_=>exact kg _
theorem v6{neg:Bool}{b:List PV}(h:Pu.dep (.tup b)<=8):Pu.eqT neg (.tup b) (.tup [])=aa (.bl (neg^^b.isEmpty)):=by
 show(if Pu.dep (.tup b)<=8 then(fe b []).map (λk=>PV.bl (neg^^k))else ah)=_;rw[if_pos h];cases b <;> rfl
theorem yE{i:Nat}{db:ac->R aK}{p:PV->Bool}{ε:ac}:∀(xs:List PV) (b:Slot),(∀x∈xs,db (ε.set i (.val x))=if p x=ae then .ok .next (ε.set i (.val x))else .ok (.ret (.val (.bl aj))) (ε.set i (.val x))) -> ∃s,fM i db xs (ε.set i b)=if xs.all p=ae then .ok .next (ε.set i s)else .ok (.ret (.val (.bl aj))) (ε.set i s)
 |[],b,_=>⟨b,rfl⟩
 |x::xs,b,h=>by
  have d:=h x (by simp);unfold fM;rw[List.set_set,kY];by_cases c:p x=ae
  .rw[if_pos c]at d;obtain⟨s,g⟩:=yE xs (.val x) λy f=>h y (by simp[f]);refine⟨s,?_⟩;rw[d,c,BM];exact g
  .rw[if_neg c]at d;refine⟨.val x,?_⟩;rw[d,if_neg (by simp[c])]
theorem JP{r:R aK}{f:aK}{ε:ac}(h:r=.ok f ε):dr r=.ok f ε:=by rw[h];rfl
theorem wJ{i:Nat}{di:ac->R (List PV)}{db:ac->R aK}{ε:ac}{xs:List PV}{r:R aK}(b:di ε=.ok xs ε)(h:fM i db xs ε=r):cj i di db ε=r:=by unfold cj;rw[b];exact h
theorem Bg:∀(d:List Nat),((d.zip d.tail).all λq=>decide (q.1<q.2))=ae↔d.Pairwise (· < ·)
 |[]=>by simp
 |[x]=>by simp
 |x::y::r=>by
  have g:=Bg (y::r);rw[show((x::y::r).zip (x::y::r).tail)=(x,y)::((y::r).zip (y::r).tail)from rfl,kY,gg,g,decide_eq_true_iff];constructor
  .rintro⟨b,c⟩;refine .cons (λz f=>?_) c;rcases bA.mp f with rfl|f
   .exact b
   .have:=(x_.mp c).1 z f;show x<z;have b:x<y:=b;lia
  .intro h;obtain⟨b,c⟩:=x_.mp h;exact⟨b y (by simp),c⟩
def EK:PV×PV->PV
 | (.int i,.int j)=>.bl (decide (i<j))
 |_=>.non
theorem Fm:∀(b qs:List Nat),(((b.map ba).zip (qs.map ba)).map EK)=((b.zip qs).map λq=>decide (q.1<q.2)).map PV.bl
 |[],_=>by simp
 |_::_,[]=>by simp
 |p::b,q::qs=>by rw[ci,ci,List.zip_cons_cons,ci,Fm b qs,List.zip_cons_cons,ci,ci];congr 1;show PV.bl (decide ((p:Int)<(q:Int)))=_;congr 1;exact decide_eq_decide.mpr ∅
theorem FK{b:Type}{d:ac->R b}{x y:PV}{ε:ac}{r:b}(c:d [.val x,.val y]=.ok r [.val x,.val y]):cu (jm [] d x y ε)=.ok r ε:=by simp[jm,eJ,aO,R.bind,bX,cK,c,df,cW,cY,cu]
theorem EN{q:PV}{qs:List PV}:bD (.tup (q::qs)) (aa 1) ah=aa (.tup qs):=by
 show(if HT.sIx (q::qs).length 0 (aa 1)=0/\HT.sIx (q::qs).length (q::qs).length ah=(q::qs).length then ah else aa (PV.tup (cV (q::qs) (aa 1) ah)))=_;have b:HT.sIx (q::qs).length 0 (aa 1)=1:=by show(if(1:Int)<0 then((1:Int)+((q::qs).length:Int)).toNat else min (1:Int).toNat (q::qs).length)=1;rw[if_neg (by decide)];simp
 rw[if_neg (by rw[b];simp)];congr 2;exact tT (q::qs) 1
def zZ(d:ac->R PV):ac->R Bool:=bZ (dB (dL lC (ao (dF (iz [] (qw (ao d (ao (be bD d (aY (dC (.int 1))) (bj)) (ar)))) (bV) (d2 (bt λi j=>decide (i<j)) (dV 0) (dV 1)))) (ar))))
theorem My{d:ac->R PV}{ε:ac}{ps:List Nat}(b:1<=ps.length)(c:d ε=.ok (.tup (ps.map ba)) ε):zZ d ε=.ok (!decide (ps.Pairwise (· < ·))) ε:=by
 obtain⟨p,r,rfl⟩:∃p r,ps=p::r:=by cases ps with|nil=>simp at b|cons p r=>exact⟨p,r,rfl⟩
 have g:be bD d (aY (dC (.int 1))) (bj) ε=.ok (.tup (r.map ba)) ε:=by have:=EN (q:=ba p) (qs:=r.map ba);unfold be;rw[c];simp only[R.bind_ok,aY,dC,bj,iC,c9,R.bind];simp[R.bind,aO,ci,this]
 have l:qw (ao d (ao (be bD d (aY (dC (.int 1))) (bj)) (ar))) ε=.ok (((p::r).map ba).zip (r.map ba)) ε:=by unfold qw;rw[bY c (bY g cB)];rfl
 have f:=v_ (cap:=[]) (dt:=bV) (de:=d2 (bt λi j=>decide (i<j)) (dV 0) (dV 1)) (ε:=ε) (λ_=>ae) EK (((p::r).map ba).zip (r.map ba)) (λx m=>by obtain⟨u,v⟩:=x;obtain⟨b,o⟩:=Bt m;obtain⟨i,_,rfl⟩:=cp.mp b;obtain⟨j,_,rfl⟩:=cp.mp o;exact⟨FK rfl,λ_=>FK rfl⟩) [];rw[km.mpr (λ_ _=>rfl),Fm,i_]at f;have n:dF (iz [] (qw (ao d (ao (be bD d (aY (dC (.int 1))) (bj)) (ar)))) (bV) (d2 (bt λi j=>decide (i<j)) (dV 0) (dV 1))) ε=.ok (.lst ((((p::r).zip r).map λq=>decide (q.1<q.2)).map PV.bl)) ε:=by refine qZ ?_;unfold iz;rw[l,R.bind_ok,f,R.bind_ok]
 have:=qz (((p::r).zip r).map λq=>decide (q.1<q.2));rw[oj]at this;have e:(((p::r).zip r).all (id ∘ λq=>decide (q.1<q.2)))=decide ((p::r).Pairwise (· < ·)):=by
  by_cases h:(p::r).Pairwise (· < ·)
  .rw[decide_eq_true h];exact(Bg (p::r)).mpr h
  .rw[decide_eq_false h,yk];exact λq=>h ((Bg (p::r)).mp q)
 rw[e]at this;exact not_of (bW (cF (bY n cB) this))
def eX(ls:List Tx)(ps:List Nat):List Tx:=eG ls ((cg ls.length).filter λp=>!decide (p∈ps))
theorem CV{ls:List Tx}{ps:List Nat}(z:Tx):z∈eX ls ps↔∃j,ls[j]?=aa z/\j∉ps:=by
 unfold eX;rw[uo (λp c=>ka.mp (jq.mp c).1)];constructor
 .rintro⟨j,b,e⟩;exact⟨j,e,by simpa using(jq.mp b).2⟩
 .rintro⟨j,e,b⟩;exact⟨j,jq.mpr ⟨ka.mpr (eF.mp e).1,by simpa using b⟩,e⟩
def AR(c b:List Tx):Bool:=c.any λy=>decide (y.dropLast∈b)||decide (y.tail∈b)
theorem QH{ls:List Tx}{ps:List Nat}(n:∀p∈ps,p<ls.length):(!(AR (eG ls ps) (ht (eX ls ps))))=ae↔Apart ls ps:=by
 rw[BV,yk];unfold AR ht;rw[ne_eq,ox];simp only[x9,decide_eq_true_eq,g9,cp];constructor
 .intro h i j y z g f m l;have d:=(uo n y).mpr ⟨i,g,m⟩;have c:=(CV (ls:=ls) (ps:=ps) z).mpr ⟨j,l,f⟩;exact⟨λe=>h ⟨y,d,.inl (.inl ⟨z,c,e.symm⟩)⟩,λe=>h ⟨y,d,.inl (.inr ⟨z,c,e.symm⟩)⟩,λe=>h ⟨y,d,.inr (.inl ⟨z,c,e.symm⟩)⟩,λe=>h ⟨y,d,.inr (.inr ⟨z,c,e.symm⟩)⟩⟩
 .rintro h ⟨y,o,b⟩;obtain⟨i,g,m⟩:=(uo n y).mp o;have get:∀{z},z∈eX ls ps->y.dropLast≠z.dropLast/\y.dropLast≠z.tail/\y.tail≠z.dropLast/\y.tail≠z.tail:=λ{z} q=>by obtain⟨j,l,f⟩:=(CV z).mp q;exact h i j y z g f m l
  rcases b with(⟨z,b,e⟩|⟨z,b,e⟩)|⟨z,b,e⟩|⟨z,b,e⟩
  .exact(get b).1 e.symm
  .exact(get b).2.1 e.symm
  .exact(get b).2.2.1 e.symm
  .exact(get b).2.2.2 e.symm
end
section
variable{a:Ad}
def LE(w:Nat)(b:List Tx)(x:PV)(h g f d c:Slot):ac:=[.val (aE w b),.val x,⇑w,.val (.tup (ai b)),h,g,f,d,c]
def vO:ac->R Bool:=cq (bZ (dB (dL cb (ao (dV 1) (ao (dC (.raw (.ty "tuple"))) (ar)))))) (cq (dB (d2 (Pu.eqT aj) (dV 1) (dL cx (ar)))) (bZ (dB (dL cb (ao (d2 aF (dV 1) (dC (.int 0))) (ao (dC (.raw (.ty "str"))) (ar)))))))
def G8:ac->R Bool:=cq (dB (d2 (Pu.eqT ae) (dL aS (ao (dV 1) (ar))) (dC (.int 2)))) (cq (bZ (dB (dL cb (ao (d2 aF (dV 1) (dC (.int 1))) (ao (dC (.raw (.ty "tuple"))) (ar)))))) (bZ (dB (gD (bt λi j=>decide (i<j)) (bt λi j=>decide (i<j)) (dC (.int 0)) (dL aS (ao (d2 aF (dV 1) (dC (.int 1))) (ar))) (dL aS (ao (dV 3) (ar)))))))
def pG:ac->R aK:=aV (cq (bZ (dB (dL cb (ao (dV 4) (ao (dC (.raw (.ty "int"))) (ar)))))) (cq (dB (dL cb (ao (dV 4) (ao (dC (.raw (.ty "bool"))) (ar))))) (bZ (dB (gD (bt λi j=>decide (i<=j)) (bt λi j=>decide (i<j)) (dC (.int 0)) (dV 4) (dL aS (ao (dV 3) (ar)))))))) (aW (dC (.bl aj))) (bh)
def lA(a:Ad):ac->R aK:=aw (aV G8 (aW (dC (.bl aj))) (bh))
 (aw (λε=>dr (cj 4 (aR (d2 aF (dV 1) (dC (.int 1)))) pG ε))
 (aw (aT 5 (dF (bI [3] (aR (d2 aF (dV 1) (dC (.int 1)))) (bV) (d2 aF (dV 1) (dV 0)))))
 (aw (aT 6 (dF (bI [3,1] (dL fc (ao (dL aS (ao (dV 3) (ar))) (ar))) (dB (d2 (dG ae) (dV 0) (d2 aF (dV 2) (dC (.int 1))))) (d2 aF (dV 1) (dV 0)))))
 (aw (aT 7 (d2 aZ (dF (bI [] (aR (dV 6)) (bV) (hD 0))) (dF (bI [] (aR (dV 6)) (bV) (tD 0)))))
 (aw (aV (zZ (d2 aF (dV 1) (dC (.int 1)))) (aW (dC (.bl aj))) (bh))
 (aW (jo (dL mJ (ao (dF (bI [7] (aR (dV 5)) (bV) (jJ (d2 (dG aj) (hD 0) (dV 1)) (d2 (dG aj) (tD 0) (dV 1))))) (ar))))))))))
def o7:ac->R aK:=aV (cq (bZ (dB (dL cb (ao (dV 8) (ao (dC (.raw (.ty "str"))) (ar)))))) (dB (d2 (Pu.eqT ae) (dL aS (ao (dV 8) (ar))) (d2 gv (dV 2) (dC (.int 1)))))) (aW (dC (.bl aj))) (bh)
def lM(a:Ad):ac->R PV:=eU (d2 (Pu.eqT aj) (dL aS (ao (dV 1) (ar))) (dC (.int 2))) (d2 (bt λi j=>decide (j<i)) (aL (aB (jD a) (gV (dV 3) (gV (d2 aF (dV 1) (dC (.int 1))) (Pu.br))))) (dC (.int 1)))
def Bd:ac->R Bool:=cq (dB (d2 (Pu.eqT ae) (d2 aF (dV 1) (dC (.int 0))) (dC (.str [116,119,111])))) (cq (dB (d2 (Pu.eqT ae) (dL aS (ao (dV 1) (ar))) (dC (.int 3)))) (dB (d2 (Pu.eqT aj) (d2 aF (dV 1) (dC (.int 1))) (d2 aF (dV 1) (dC (.int 2))))))
def Fv(a:Ad):ac->R PV:=eU (d2 (bt λi j=>decide (j<i)) (aL (aB (jD a) (gV (dV 3) (gV (d2 aF (dV 1) (dC (.int 1))) (Pu.br))))) (dC (.int 0))) (d2 (bt λi j=>decide (j<i)) (aL (aB (jD a) (gV (dV 3) (gV (d2 aF (dV 1) (dC (.int 2))) (Pu.br))))) (dC (.int 0)))
def lR(a:Ad):ac->R aK:=aw (λε=>dr (cj 8 (aR (be bD (dV 1) (aY (dC (.int 1))) (bj))) o7 ε))
 (aw (aV (dB (d2 (Pu.eqT aj) (d2 aF (dV 1) (dC (.int 0))) (dC (.str [109,111,114,101])))) (aW (lM a)) (bh))
 (aw (aV Bd (aW (dC (.bl aj))) (bh)) (aW (Fv a))))
theorem IF:yaB a=aw (kG 2 3 (dV 0)) (aw (aV vO (aW (dC (.bl aj))) (bh)) (aw (aV (dB (d2 (Pu.eqT aj) (d2 aF (dV 1) (dC (.int 0))) (dC (.str [97,112,97,114,116])))) (lA a) (bh)) (lR a))):=rfl
def kE(n:Nat):PV->Bool
 |.int i=>decide (0<=i)&&decide (i<n)
 |_=>aj
theorem Jc{w:Nat}{b:List Tx}{x y:PV}{h g f d:Slot}{m k:Nat}(q:Pl m k y):pG (LE w b x (.val y) h g f d)=if kE b.length y=ae then .ok .next (LE w b x (.val y) h g f d)else .ok (.ret (.val (.bl aj))) (LE w b x (.val y) h g f d):=by
 have l:=Gc q;have p:=yS q;have s:aS [.tup (ai b)]=aa (.int (b.length:Nat)):=by show aa (PV.int ((ai b).length:Nat))=_;rw[fI]
 by_cases n:∃i,y=.int i
 .obtain⟨i,rfl⟩:=n;have c:(cq (bZ (dB (dL cb (ao (dV 4) (ao (dC (.raw (.ty "int"))) (ar)))))) (cq (dB (dL cb (ao (dV 4) (ao (dC (.raw (.ty "bool"))) (ar))))) (bZ (dB (gD (bt λi j=>decide (i<=j)) (bt λi j=>decide (i<j)) (dC (.int 0)) (dV 4) (dL aS (ao (dV 3) (ar)))))))) (LE w b x (⇑i) h g f d)=.ok (!(kE b.length (.int i))) (LE w b x (⇑i) h g f d) :=dm (not_of (fJ (aG rfl) l)) (dm (fJ (aG rfl) p) (not_of (v7 (bE _ _) (aG rfl) (cF (bY (aG rfl) cB) s))));unfold pG;cases r:kE b.length (.int i)with
  |true=>rw[r]at c;rw[if_pos rfl];exact dU c
  |false=>rw[r]at c;rw[if_neg (by simp)];exact(eL c).trans rfl
 .have e:kE b.length y=aj:=by cases y <;> first|rfl|exact absurd ⟨_,rfl⟩ n
  rw[e,if_neg (by simp)];unfold pG;refine(eL ?_).trans rfl;cases o:tO y with
  |false=>rw[o]at l;exact jS (not_of (fJ (aG rfl) l))
  |true=>
   have:xr y=ae:=by cases y <;> first|rfl|exact absurd ⟨_,rfl⟩ n|cases o
   rw[o]at l;rw[this]at p;exact dm (not_of (fJ (aG rfl) l)) (jS (fJ (aG rfl) p))
theorem KH{n:Nat}{b:List PV}(h:b.all (kE n)=ae):∃ps:List Nat,b=ps.map ba/\∀p∈ps,p<n:=by
 induction b with
 |nil=>exact⟨[],rfl,λp d=>by cases d⟩
 |cons q b g=>
  rw[kY,gg]at h;obtain⟨ps,rfl,d⟩:=g h.2;cases q with
  |int i=>
   have f:=h.1;unfold kE at f;rw[gg,decide_eq_true_iff,decide_eq_true_iff]at f;refine⟨i.toNat::ps,?_,λp c=>?_⟩
   .rw[ci];congr 1;show PV.int i=PV.int (i.toNat:Nat);congr 1;lia
   .rcases bA.mp c with rfl|c
    .lia
    .exact d p c
  |_=>exact absurd h.1 (by simp[kE])
theorem JC{n:Nat}{ps:List Nat}(h:∀p∈ps,p<n):(ps.map ba).all (kE n)=ae:=by rw[oj,mX];intro p b;show(decide ((0:Int)<=(p:Int))&&decide ((p:Int)<(n:Int)))=ae;rw[decide_eq_true ∅,decide_eq_true (by have:=h p b;lia)];rfl
def EU(ps:List Nat):PV->Bool
 |.int i=>!decide (i.toNat∈ps)
 |_=>aj
theorem QI(b:List Tx)(ps:List Nat):((dE 0 b.length).filter (EU ps)).map (qS b)=ai (eX b ps):=by unfold eX;rw[<-zQ,ui,p6];congr 2
def Eg(b:List Tx):PV->PV
 |.str y=>.bl (decide (y.dropLast∈b)||decide (y.tail∈b))
 |x=>x
theorem NT{d1 d2:ac->R PV}{ε:ac}{b c:Bool}(f:d1 ε=.ok (.bl b) ε)(d:d2 ε=.ok (.bl c) ε):jJ d1 d2 ε=.ok (.bl (b||c)) ε:=by
 unfold jJ;rw[bW f];cases b
 .show d2 ε=_;rw[d];rfl
 .rfl
theorem Jt{w:Nat}{c:List Tx}(hl:c.length<=100){m k:Nat}{t:List PV}(u:∀y∈t,Pl m (k+1) y)(M:t.length≠2\/∃f o,t=[f,o]):∃b l I H G,lA a (LE w c (.tup t) .none .none .none .none .none)=.ok (.ret (.val (.bl b))) (LE w c (.tup t) l I H G .none)/\(b=ae↔∃f o ps,t=[f,o]/\nE c.length o ps/\Apart c ps):=by
 have bH:aS [.tup (ai c)]=aa (.int (c.length:Nat)):=by show aa (PV.int ((ai c).length:Nat))=_;rw[fI]
 have A:dB (d2 (Pu.eqT ae) (dL aS (ao (dV 1) (ar))) (dC (.int 2))) (LE w c (.tup t) .none .none .none .none .none)=.ok (ae^^decide ((t.length:Int)=2)) (LE w c (.tup t) .none .none .none .none .none):=bW (bi (cF (bY (aG rfl) cB) rfl) (bE _ _) (iW ae _ _));rcases M with M|⟨f,o,rfl⟩
 .rw[decide_eq_false ∅]at A;refine⟨aj,.none,.none,.none,.none,gb ((eL (jS A)).trans rfl),?_⟩;simp only[fW,false_iff];rintro⟨f,o,ps,rfl,_⟩;exact M rfl
 have Q:=u o (by simp);have z:∀l I H G P,d2 aF (dV 1) (dC (.int 1)) (LE w c (.tup [f,o]) l I H G P)=.ok o (LE w c (.tup [f,o]) l I H G P):=λ_ _ _ _ _=>bi (aG rfl) (bE _ _) (kr _ _ _);have L:=ur Q;by_cases v:∃g,o=.tup g;rotate_left
 .have:nY o=aj:=by cases o <;> first|rfl|exact absurd ⟨_,rfl⟩ v
  rw[this]at L;refine⟨aj,.none,.none,.none,.none,gb ((eL (dm A (jS (not_of (fJ (z _ _ _ _ _) L))))).trans rfl),?_⟩;simp only[fW,false_iff];rintro⟨_,_,ps,e,⟨n,_⟩,_⟩;cases e;exact v ⟨_,n⟩
 obtain⟨g,rfl⟩:=v;have O:=not_of (fJ (z .none .none .none .none .none) L);have K:bZ (dB (gD (bt λi j=>decide (i<j)) (bt λi j=>decide (i<j)) (dC (.int 0)) (dL aS (ao (d2 aF (dV 1) (dC (.int 1))) (ar))) (dL aS (ao (dV 3) (ar))))) (LE w c (.tup [f,.tup g]) .none .none .none .none .none)=.ok (!(decide ((0:Int)<g.length)&&decide ((g.length:Int)<(c.length:Nat)))) (LE w c (.tup [f,.tup g]) .none .none .none .none .none) :=not_of (v7 (bE _ _) (cF (bY (z _ _ _ _ _) cB) rfl) (cF (bY (aG rfl) cB) bH));by_cases s:1<=g.length/\g.length<c.length;rotate_left
 .have:(!(decide ((0:Int)<g.length)&&decide ((g.length:Int)<(c.length:Nat))))=ae:=by
   by_cases q:1<=g.length
   .rw[decide_eq_true ∅,decide_eq_false ∅];rfl
   .rw[decide_eq_false ∅];rfl
  rw[this]at K;refine⟨aj,.none,.none,.none,.none,gb ((eL (dm A (dm O K))).trans rfl),?_⟩;simp only[fW,false_iff];rintro⟨_,_,ps,e,⟨n,_,_,h1,h2⟩,_⟩;cases e;injection n with n;rw[n,b0]at s;exact s ⟨h1,h2⟩
 rw[decide_eq_true ∅,decide_eq_true ∅]at K;have S:aV G8 (aW (dC (.bl aj))) (bh) (LE w c (.tup [f,.tup g]) .none .none .none .none .none)=.ok .next (LE w c (.tup [f,.tup g]) .none .none .none .none .none):=dU (dm A (dm O K));have pq:∀y∈g,Pl m k y:=Q.2;obtain⟨l,oJ⟩:=yE (i:=4) (db:=pG) (p:=kE c.length) (ε:=LE w c (.tup [f,.tup g]) .none .none .none .none .none) g .none (λy hy=>Jc (pq y hy));have J:(λε=>dr (cj 4 (aR (d2 aF (dV 1) (dC (.int 1)))) pG ε)) (LE w c (.tup [f,.tup g]) .none .none .none .none .none)=if g.all (kE c.length)=ae then .ok .next (LE w c (.tup [f,.tup g]) l .none .none .none .none)else .ok (.ret (.val (.bl aj))) (LE w c (.tup [f,.tup g]) l .none .none .none .none):=by have h:=wJ (i:=4) (db:=pG) (di:=aR (d2 aF (dV 1) (dC (.int 1)))) (ε:=LE w c (.tup [f,.tup g]) .none .none .none .none .none) (xs:=g) (by unfold aR;rw[z];rfl) oJ;show dr _=_;rw[h];split <;> rfl
 by_cases D:g.all (kE c.length)=ae;rotate_left
 .rw[if_neg D]at J;refine⟨aj,l,.none,.none,.none,?_,?_⟩
  .unfold lA;rw[aX S];exact gb J
  .simp only[fW,false_iff];rintro⟨_,_,ps,e,⟨n,_,C,_⟩,_⟩;cases e;injection n with n;rw[n]at D;exact D (JC C)
 rw[if_pos D]at J;obtain⟨ps,rfl,C⟩:=KH D;rw[b0]at s;have X:=jN (ε:=LE w c (.tup [f,.tup (ps.map ba)]) l .none .none .none .none) (cap:=[3]) (di:=aR (d2 aF (dV 1) (dC (.int 1)))) (dt:=bV) (de:=d2 aF (dV 1) (dV 0)) (λ_=>ae) (qS c) (by unfold aR;rw[z];rfl) (λx u=>by obtain⟨p,s,rfl⟩:=cp.mp u;exact⟨iw rfl rfl,λ_=>iw rfl (bi (aG rfl) (aG rfl) (zI (C p s)))⟩);rw[km.mpr (λ_ _=>rfl),zQ]at X;have qa:aT 5 (dF (bI [3] (aR (d2 aF (dV 1) (dC (.int 1)))) (bV) (d2 aF (dV 1) (dV 0)))) (LE w c (.tup [f,.tup (ps.map ba)]) l .none .none .none .none)=.ok .next (LE w c (.tup [f,.tup (ps.map ba)]) l (.val (.lst (ai (eG c ps)))) .none .none .none):=fL X;have W:=jN (ε:=LE w c (.tup [f,.tup (ps.map ba)]) l (.val (.lst (ai (eG c ps)))) .none .none .none) (cap:=[3,1]) (di:=dL fc (ao (dL aS (ao (dV 3) (ar))) (ar))) (dt:=dB (d2 (dG ae) (dV 0) (d2 aF (dV 2) (dC (.int 1))))) (de:=d2 aF (dV 1) (dV 0)) (EU ps) (qS c) (cF (bY (cF (bY (aG rfl) cB) bH) cB) (mG ∅)) (λx u=>by rw[ui]at u;obtain⟨p,s,rfl⟩:=cp.mp u;refine⟨Ef rfl rfl (bW (bi (aG rfl) (bi (aG rfl) (bE _ _) (kr _ _ _)) ?_)),λ_=>Ef rfl rfl (bi (aG rfl) (aG rfl) (zI (ka.mp s)))⟩;rw[Hf,BZ];show aa (PV.bl (!decide (p∈ps)))=aa (PV.bl (!decide ((p:Int).toNat∈ps)));rw[iJ]);rw[QI]at W;have r9:=fL (i:=6) W;have ol:(eX c ps).length<=1000:=by unfold eX eG;rw[b0];have:=uS (λp=>!decide (p∈ps)) (cg c.length);rw[om]at this;lia
 have lU:=fL (i:=7) (yH (i:=6) (ε:=LE w c (.tup [f,.tup (ps.map ba)]) l (.val (.lst (ai (eG c ps)))) (.val (.lst (ai (eX c ps)))) .none .none) ol (qN rfl));have F:=My (d:=d2 aF (dV 1) (dC (.int 1))) (ε:=LE w c (.tup [f,.tup (ps.map ba)]) l (.val (.lst (ai (eG c ps)))) (.val (.lst (ai (eX c ps)))) (.val (.lst (ai (ht (eX c ps))))) .none) (ps:=ps) s.1 (z _ _ _ _ _);have Z:∀{r},aw (aV (zZ (d2 aF (dV 1) (dC (.int 1)))) (aW (dC (.bl aj))) (bh)) (aW (jo (dL mJ (ao (dF (bI [7] (aR (dV 5)) (bV) (jJ (d2 (dG aj) (hD 0) (dV 1)) (d2 (dG aj) (tD 0) (dV 1))))) (ar))))) (LE w c (.tup [f,.tup (ps.map ba)]) l (.val (.lst (ai (eG c ps)))) (.val (.lst (ai (eX c ps)))) (.val (.lst (ai (ht (eX c ps))))) .none)=r->lA a (LE w c (.tup [f,.tup (ps.map ba)]) .none .none .none .none .none)=r:=λh=>by unfold lA;rw[aX S,aX J,aX qa];exact(aX r9).trans ((aX lU).trans h)
 by_cases B:ps.Pairwise (· < ·);rotate_left
 .rw[decide_eq_false B]at F;refine⟨aj,l,.val (.lst (ai (eG c ps))),.val (.lst (ai (eX c ps))),.val (.lst (ai (ht (eX c ps)))),Z (gb ((eL F).trans rfl)),?_⟩;simp only[fW,false_iff];rintro⟨_,_,g,e,⟨n,s,_⟩,_⟩;cases e;injection n with n;have N:=sA (n.symm.trans (wt ps));have E:=congrArg (List.map Int.toNat) N;simp[dZ,ya]at E;rw[E]at B;exact B s
 rw[decide_eq_true B]at F;have T:=jN (ε:=LE w c (.tup [f,.tup (ps.map ba)]) l (.val (.lst (ai (eG c ps)))) (.val (.lst (ai (eX c ps)))) (.val (.lst (ai (ht (eX c ps))))) .none) (cap:=[7]) (dt:=bV) (de:=jJ (d2 (dG aj) (hD 0) (dV 1)) (d2 (dG aj) (tD 0) (dV 1))) (λ_=>ae) (Eg (ht (eX c ps))) (qN (i:=5) rfl) (λx u=>by obtain⟨y,_,rfl⟩:=kN u;exact⟨iw rfl rfl,λ_=>iw rfl (NT (bi (zL rfl) (aG rfl) (in_str _ _)) (bi (yJ rfl) (aG rfl) (in_str _ _)))⟩);rw[km.mpr (λ_ _=>rfl),show(ai (eG c ps)).map (Eg (ht (eX c ps)))=((eG c ps).map λy=>decide (y.dropLast∈ht (eX c ps))||decide (y.tail∈ht (eX c ps))).map PV.bl by unfold ai;rw[dZ,dZ];rfl]at T;have Y:=Di ((eG c ps).map λy=>decide (y.dropLast∈ht (eX c ps))||decide (y.tail∈ht (eX c ps)));rw[uQ]at Y;refine⟨!(AR (eG c ps) (ht (eX c ps))),l,.val (.lst (ai (eG c ps))),.val (.lst (ai (eX c ps))),.val (.lst (ai (ht (eX c ps)))),Z ((aX (dU F)).trans (gJ ?_)),?_⟩
 .unfold jo;rw[bW (cF (bY T cB) Y)];rfl
 .rw[QH C];constructor
  .intro h;exact⟨f,_,ps,rfl,⟨rfl,B,C,s.1,s.2⟩,h⟩
  .rintro⟨_,_,g,e,⟨n,_⟩,h⟩;cases e;injection n with n;have N:=sA (n.symm.trans (wt ps));have E:=congrArg (List.map Int.toNat) N;simp[dZ,ya]at E;rw[E];exact h
def me(w:Nat):PV->Bool
 |.str z=>decide (z.length=w-1)
 |_=>aj
theorem M5{w:Nat}(p:1<=w){h:List Tx}{x y:PV}{g f d b:Slot}{m k:Nat}(n:Pl m k y):o7 (LE w h x g f d b (.val y))=if me w y=ae then .ok .next (LE w h x g f d b (.val y))else .ok (.ret (.val (.bl aj))) (LE w h x g f d b (.val y)):=by
 have j:=tq n;by_cases i:∃z,y=.str z
 .obtain⟨z,rfl⟩:=i;have c:cq (bZ (dB (dL cb (ao (dV 8) (ao (dC (.raw (.ty "str"))) (ar)))))) (dB (d2 (Pu.eqT ae) (dL aS (ao (dV 8) (ar))) (d2 gv (dV 2) (dC (.int 1))))) (LE w h x g f d b (↥z))=.ok (ae^^decide ((z.length:Int)=(w:Int)-1)) (LE w h x g f d b (↥z)) :=dm (not_of (fJ (aG rfl) j)) (bW (bi (cF (bY (aG rfl) cB) rfl) (bi (aG rfl) (bE _ _) rfl) (iW ae _ _)));unfold o7;by_cases l:z.length=w-1
  .rw[decide_eq_true ∅]at c;rw[show me w (.str z)=ae from decide_eq_true l,if_pos rfl];exact dU c
  .rw[decide_eq_false ∅]at c;rw[show me w (.str z)=aj from decide_eq_false l,if_neg (by simp)];exact(eL c).trans rfl
 .have e:me w y=aj:=by cases y <;> first|rfl|exact absurd ⟨_,rfl⟩ i
  have o:pd y=aj:=by cases y <;> first|rfl|exact absurd ⟨_,rfl⟩ i
  rw[o]at j;rw[e,if_neg (by simp)];unfold o7;exact(eL (jS (not_of (fJ (aG rfl) j)))).trans rfl
theorem sZ{w:Nat}:∀{r:List PV},r.all (me w)=ae->∃b:List Tx,r=ai b/\∀z∈b,z.length=w-1
 |[],_=>⟨[],rfl,λz c=>by cases c⟩
 |y::r,h=>by
  rw[kY,gg]at h;obtain⟨b,rfl,c⟩:=sZ h.2;cases y with
  |str z=>exact⟨z::b,rfl,λq d=>by rcases bA.mp d with rfl|d;exact of_decide_eq_true h.1;exact c q d⟩
  |_=>exact absurd h.1 (by simp[me])
theorem N5{w:Nat}(X:1<=w){c:List Tx}(N:∀y∈c,y.length=w){u:Tx}(M:u≠apart){m k:Nat}{r:List PV}(hr:∀y∈r,Pl m k y):∃b d,lR a (LE w c (.tup (.str u::r)) .none .none .none .none .none)=.ok (.ret (.val (.bl b))) (LE w c (.tup (.str u::r)) .none .none .none .none d)/\(b=ae↔f9 c (.tup (.str u::r))):=by
 have kq:aR (be bD (dV 1) (aY (dC (.int 1))) (bj)) (LE w c (.tup (.str u::r)) .none .none .none .none .none)=.ok r (LE w c (.tup (.str u::r)) .none .none .none .none .none):=by
  have h1:be bD (dV 1) (aY (dC (.int 1))) (bj) (LE w c (.tup (.str u::r)) .none .none .none .none .none)=.ok (.tup r) (LE w c (.tup (.str u::r)) .none .none .none .none .none):=by have:=EN (q:=.str u) (qs:=r);simp[be,dV,LE,aY,dC,bj,iC,R.bind,aO,this]
  unfold aR;rw[h1];rfl
 obtain⟨d,Y⟩:=yE (i:=8) (db:=o7) (p:=me w) (ε:=LE w c (.tup (.str u::r)) .none .none .none .none .none) r .none (λy hy=>M5 X (hr y hy));have t:(λε=>dr (cj 8 (aR (be bD (dV 1) (aY (dC (.int 1))) (bj))) o7 ε)) (LE w c (.tup (.str u::r)) .none .none .none .none .none)=if r.all (me w)=ae then .ok .next (LE w c (.tup (.str u::r)) .none .none .none .none d)else .ok (.ret (.val (.bl aj))) (LE w c (.tup (.str u::r)) .none .none .none .none d):=by have h:=wJ (i:=8) (db:=o7) kq Y;show dr _=_;rw[h];split <;> rfl
 by_cases D:r.all (me w)=ae;rotate_left
 .rw[if_neg D]at t;refine⟨aj,d,gb t,?_⟩;simp only[fW,false_iff];rintro(⟨p,q,e,hp,hq,_⟩|⟨p,e,hp⟩|⟨y,ps,e,_⟩)
  .injection e with e;injection e with _ e;refine D ?_;rw[e];show(decide (p.length=w-1)&&(decide (q.length=w-1)&&ae))=ae;rw[decide_eq_true (Be N hp),decide_eq_true (Be N hq)];rfl
  .injection e with e;injection e with _ e;refine D ?_;rw[e];show(decide (p.length=w-1)&&ae)=ae;rw[decide_eq_true (Be N ∅)];rfl
  .injection e with e;injection e with e _;injection e with e;exact M e
 rw[if_pos D]at t;obtain⟨g,rfl,hz⟩:=sZ D;have T:d2 aF (dV 1) (dC (.int 0)) (LE w c (.tup (.str u::ai g)) .none .none .none .none d)=.ok (.str u) (LE w c (.tup (.str u::ai g)) .none .none .none .none d):=bi (aG rfl) (bE _ _) (sY _ _);have v:=bW (bi T (bE (.str [109,111,114,101]) _) (lv aj u [109,111,114,101]));rw[gP]at v;have C:dL aS (ao (dV 1) (ar)) (LE w c (.tup (.str u::ai g)) .none .none .none .none d)=.ok (.int ((g.length+1:Nat):Int)) (LE w c (.tup (.str u::ai g)) .none .none .none .none d):=cF (bY (aG rfl) cB) (by show aa (PV.int ((PV.str u::ai g).length:Nat))=_;rw[eY,fI]);by_cases H:u=[109,111,114,101]
 .rw[decide_eq_true H]at v;have F:=bi C (bE (.int 2) _) (iW aj _ 2);rw[gP]at F;have o:f9 c (.tup (.str u::ai g))↔∃p,g=[p]/\2<=exc c p:=by
   constructor
   .rintro(⟨p,q,e,_⟩|⟨p,e,h⟩|⟨y,ps,e,_⟩)
    .injection e with e;injection e with e _;injection e with e;rw[H]at e;simp at e
    .injection e with e;injection e with _ e;refine⟨p,?_,h⟩
     match g,e with
     |[z],e=>injection e with e _;injection e with e;rw[e]
     |[],e=>cases e
     |_::_::_,e=>simp[ai]at e
    .injection e with e;injection e with e _;injection e with e;exact absurd e M
   .rintro⟨p,rfl,h⟩;subst H;exact .inr (.inl ⟨p,rfl,h⟩)
  by_cases L:∃p,g=[p]
  .obtain⟨p,rfl⟩:=L;have J:d2 aF (dV 1) (dC (.int 1)) (LE w c (.tup (.str u::ai [p])) .none .none .none .none d)=.ok (.str p) (LE w c (.tup (.str u::ai [p])) .none .none .none .none d):=bi (aG rfl) (bE _ _) (kr _ _ _);rw[decide_eq_true (by simp)]at F;refine⟨decide (1<exc c p),d,?_,?_⟩
   .unfold lR;rw[aX t];exact gb ((eL v).trans (gJ ((l9 F).trans (bi (lD (aG rfl) J (xg p)) (bE _ _) rfl))))
   .rw[o,decide_eq_true_iff];exact⟨λh=>⟨p,rfl,∅⟩,λ⟨q,e,h⟩=>by cases e;lia⟩
  .have O:¬(((g.length+1:Nat):Int)=2):=λe=>L (by
    match g,e with
    |[z],_=>exact⟨z,rfl⟩
    |[],e=>simp at e
    |_::_::_,e=>simp at e;lia)
   rw[decide_eq_false O]at F;refine⟨aj,d,?_,?_⟩
   .unfold lR;rw[aX t];exact gb ((eL v).trans (gJ (oP F)))
   .rw[o];simp only[fW,false_iff];rintro⟨p,e,_⟩;exact L ⟨p,e⟩
 .rw[decide_eq_false H]at v;have x:=bW (bi T (bE (.str [116,119,111]) _) (lv ae u [116,119,111]));have o:f9 c (.tup (.str u::ai g))↔u=AN/\∃p q,g=[p,q]/\1<=exc c p/\1<=exc c q/\p≠q:=by
   constructor
   .rintro(⟨p,q,e,h⟩|⟨p,e,h⟩|⟨y,ps,e,_⟩)
    .injection e with e;injection e with e0 e;injection e0 with e0;refine⟨e0,p,q,?_,h⟩
     match g,e with
     |[z,z2],e=>injection e with e1 e;injection e with s _;injection e1 with e1;injection s with s;rw[e1,s]
     |[],e=>cases e
     |[_],e=>simp[ai]at e
     |_::_::_::_,e=>simp[ai]at e
    .injection e with e;injection e with e _;injection e with e;exact absurd e H
    .injection e with e;injection e with e _;injection e with e;exact absurd e M
   .rintro⟨rfl,p,q,rfl,h⟩;exact .inl ⟨p,q,rfl,h⟩
  have l:Bd (LE w c (.tup (.str u::ai g)) .none .none .none .none d)=.ok ae (LE w c (.tup (.str u::ai g)) .none .none .none .none d)->¬f9 c (.tup (.str u::ai g))->∃b d,lR a (LE w c (.tup (.str u::ai g)) .none .none .none .none .none)=.ok (.ret (.val (.bl b))) (LE w c (.tup (.str u::ai g)) .none .none .none .none d)/\(b=ae↔f9 c (.tup (.str u::ai g))):=λh hn=>by refine⟨aj,d,?_,by simp only[fW,false_iff];exact hn⟩;unfold lR;rw[aX t,aX (dU v)];exact gb ((eL h).trans rfl)
  by_cases s:u=[116,119,111]
  rotate_left
  .rw[decide_eq_false s]at x;exact l (jS x) (by rw[o];exact λh=>s h.1)
  rw[decide_eq_true s]at x;have A:=bW (bi C (bE (.int 3) _) (iW ae _ 3));by_cases K:∃p q,g=[p,q]
  rotate_left
  .have O:¬(((g.length+1:Nat):Int)=3):=λe=>K (by
    match g,e with
    |[z,y],_=>exact⟨z,y,rfl⟩
    |[],e=>simp at e
    |[_],e=>simp at e
    |_::_::_::_,e=>simp at e;lia)
   rw[decide_eq_false O]at A;exact l (dm x (jS A)) (by rw[o];rintro⟨_,p,q,e,_⟩;exact K ⟨p,q,e⟩)
  obtain⟨p,q,rfl⟩:=K;have J:d2 aF (dV 1) (dC (.int 1)) (LE w c (.tup (.str u::ai [p,q])) .none .none .none .none d)=.ok (.str p) (LE w c (.tup (.str u::ai [p,q])) .none .none .none .none d):=bi (aG rfl) (bE _ _) (kr _ _ _);have S:d2 aF (dV 1) (dC (.int 2)) (LE w c (.tup (.str u::ai [p,q])) .none .none .none .none d)=.ok (.str q) (LE w c (.tup (.str u::ai [p,q])) .none .none .none .none d):=bi (aG rfl) (bE _ _) (CH _ _ _ _);rw[decide_eq_true (by simp)]at A;have B:=bW (bi J S (lv aj p q));rw[gP]at B;by_cases n:p=q
  .rw[decide_eq_true n]at B;refine l (dm x (dm A B)) ?_;rw[o];rintro⟨_,Q,P,e,_,_,h⟩;cases e;exact h n
  .rw[decide_eq_false n]at B;have I:=bi (f:=bt λi j=>decide (j<i)) (lD (G:=jD a) (aG (i:=3) rfl) J (xg p)) (bE (.int 0) _) (show bt (λi j=>decide (j<i)) (.int (exc c p)) (.int 0)=aa (.bl (decide (0<exc c p)))from rfl);have Z:=bi (f:=bt λi j=>decide (j<i)) (lD (G:=jD a) (aG (i:=3) rfl) S (xg q)) (bE (.int 0) _) (show bt (λi j=>decide (j<i)) (.int (exc c q)) (.int 0)=aa (.bl (decide (0<exc c q)))from rfl);have E:∀{b:Bool},Fv a (LE w c (.tup (.str u::ai [p,q])) .none .none .none .none d)=.ok (.bl b) (LE w c (.tup (.str u::ai [p,q])) .none .none .none .none d)->lR a (LE w c (.tup (.str u::ai [p,q])) .none .none .none .none .none)=.ok (.ret (.val (.bl b))) (LE w c (.tup (.str u::ai [p,q])) .none .none .none .none d):=λh=>by unfold lR;rw[aX t,aX (dU v),aX (dU (show Bd _=_ from dm x (dm A B)))];exact gJ h
   by_cases W:0<exc c p
   .rw[decide_eq_true W]at I;refine⟨decide (0<exc c q),d,E ((l9 I).trans Z),?_⟩;rw[o,decide_eq_true_iff];exact⟨λh=>⟨s,p,q,rfl,∅,∅,n⟩,λ⟨_,Q,P,e,_,h,_⟩=>by cases e;lia⟩
   .rw[decide_eq_false W]at I;refine⟨aj,d,E (oP I),?_⟩;rw[o];simp only[fW,false_iff];rintro⟨_,Q,P,e,h,_⟩;cases e;lia
theorem Eu{w:Nat}{ls:List Tx}(O:1<=w)(g:Good cA w ls){m k:Nat}(Z:k<=6){x:PV}(H:Pl m (k+2) x):∃b,nD a [.val (aE w ls),.val x]=.ok (.val (.bl b)) [.val (aE w ls),.val x]/\(b=ae↔f9 ls x):=by
 have T:ls.length<=100:=by have:=g.few;lia
 have F:kG 2 3 (dV 0) (.val (aE w ls)::.val x::cr 7 .none)=.ok .next (LE w ls x .none .none .none .none .none):=by simp[kG,dV,aE,LE,R.bind]
 have l:∀{b:Bool}{C B A z v},aw (aV vO (aW (dC (.bl aj))) (bh)) (aw (aV (dB (d2 (Pu.eqT aj) (d2 aF (dV 1) (dC (.int 0))) (dC (.str [97,112,97,114,116])))) (lA a) (bh)) (lR a)) (LE w ls x .none .none .none .none .none)=.ok (.ret (.val (.bl b))) (LE w ls x C B A z v)->nD a [.val (aE w ls),.val x]=.ok (.val (.bl b)) [.val (aE w ls),.val x]:=λ{b C B A z v} h=>qJ (n:=7) (ε:=[⇑w,.val (.tup (ai ls)),C,B,A,z,v]) (by rw[IF,aX F];exact h);have no:vO (LE w ls x .none .none .none .none .none)=.ok ae (LE w ls x .none .none .none .none .none)->¬f9 ls x->∃b,nD a [.val (aE w ls),.val x]=.ok (.val (.bl b)) [.val (aE w ls),.val x]/\(b=ae↔f9 ls x):=λD S=>⟨aj,l (gb ((eL D).trans rfl)),by simp only[fW,false_iff];exact S⟩
 have I:=ur H;by_cases ht:∃d,x=.tup d;rotate_left
 .have:nY x=aj:=by cases x <;> first|rfl|exact absurd ⟨_,rfl⟩ ht
  rw[this]at I;refine no (jS (not_of (fJ (aG rfl) I))) ?_;rintro(⟨p,q,e,_⟩|⟨p,e,_⟩|⟨y,o,e,_⟩) <;> exact ht ⟨_,e⟩
 obtain⟨d,rfl⟩:=ht;have G:∀y∈d,Pl m (k+1) y:=H.2;have E:=not_of (fJ (ε:=LE w ls (.tup d) .none .none .none .none .none) (aG (i:=1) rfl) I);have W:Pu.dep (.tup d)<=8:=dX H.dep ∅;have J:=bW (bi (ε:=LE w ls (.tup d) .none .none .none .none .none) (aG (i:=1) rfl) (cF (f:=cx) cB rfl) (v6 (neg:=aj) W));cases d with
 |nil=>
  refine no (dm E (jS J)) ?_;rintro(⟨p,q,e,_⟩|⟨p,e,_⟩|⟨y,o,e,_⟩) <;> (injection e with e;cases e)
 |cons c r=>
  have P:=G c (by simp);have j:=tq P;have M:d2 aF (dV 1) (dC (.int 0)) (LE w ls (.tup (c::r)) .none .none .none .none .none)=.ok c (LE w ls (.tup (c::r)) .none .none .none .none .none):=bi (aG rfl) (bE _ _) (sY _ _);by_cases L:∃u,c=.str u;rotate_left
  .have:pd c=aj:=by cases c <;> first|rfl|exact absurd ⟨_,rfl⟩ L
   rw[this]at j;refine no (dm E (dm J (not_of (fJ M j)))) ?_;rintro(⟨p,q,e,_⟩|⟨p,e,_⟩|⟨y,o,e,_⟩) <;> injection e with e <;> injection e with e _ <;> exact L ⟨_,e⟩
  obtain⟨u,rfl⟩:=L;have D:vO (LE w ls (.tup (.str u::r)) .none .none .none .none .none)=.ok aj (LE w ls (.tup (.str u::r)) .none .none .none .none .none):=dm E (dm J (not_of (fJ M j)));have t:=bW (bi M (bE (.str [97,112,97,114,116]) _) (lv aj u [97,112,97,114,116]));rw[gP]at t;by_cases s:u=[97,112,97,114,116]
  .rw[decide_eq_true s]at t;obtain⟨b,C,B,A,z,Y,K⟩:=Jt (a:=a) (w:=w) T G (by
    match r with
    |[y]=>exact .inr ⟨_,_,rfl⟩
    |[]=>exact .inl (by simp)
    |_::_::_=>exact .inl (by simp))
   refine⟨b,l ((aX (dU D)).trans (gb ((eL t).trans Y))),?_⟩;rw[K];constructor
   .rintro⟨c,N,o,e,h⟩;cases e;subst s;exact .inr (.inr ⟨N,o,rfl,h⟩)
   .rintro(⟨p,q,e,_⟩|⟨p,e,_⟩|⟨y,o,e,h⟩)
    .injection e with e;injection e with e _;injection e with e;rw[s]at e;simp at e
    .injection e with e;injection e with e _;injection e with e;rw[s]at e;simp at e
    .injection e with e;exact⟨_,y,o,e,h⟩
  .rw[decide_eq_false s]at t;obtain⟨b,v,X,K⟩:=N5 (a:=a) O g.len (show u≠apart from s) (r:=r) (λy Q=>G y (kb _ Q));exact⟨b,l ((aX (dU D)).trans ((aX (dU t)).trans X)),K⟩
end
section
variable{a:Ad}
theorem lj{G:ac->R Slot}{ε:ac}{d:ac->R PV}{b v r:PV}{p p':Pu.PO}(h:ε[0]?=aa (.val b))(g:ε[1]?=aa (.own p))(f:d ε=.ok v ε)(c:G [.val b,.own p,.val v]=.ok (.val r) [.val b,.own p',.val v]):aB G (gV (dV 0) (gO 1 (gV d Pu.br))) ε=.ok (.val r) (ε.set 1 (.own p')):=by simp[aB,gV,gO,Pu.br,dV,h,g,f,c,R.bind,aO,df,cW,bX,cK,cY]
theorem Du{G:ac->R Slot}{b:ac}{d h:ac->R PV}{c v f r:PV}{p p':Pu.PO}(m:b[0]?=aa (.val c))(l:b[1]?=aa (.own p))(j:d b=.ok v b)(g:h b=.ok f b)(i:G [.val c,.own p,.val v,.val f]=.ok (.val r) [.val c,.own p',.val v,.val f]):aB G (gV (dV 0) (gO 1 (gV d (gV h Pu.br)))) b=.ok (.val r) (b.set 1 (.own p')):=by simp[aB,gV,gO,Pu.br,dV,m,l,j,g,i,R.bind,aO,df,cW,bX,cK,cY]
theorem j4{d:ac->R Slot}{ε ε1:ac}{r:PV}(h:d ε=.ok (.val r) ε1):aL d ε=.ok r ε1:=by unfold aL;rw[h];rfl
theorem Ct{d:ac->R Slot}{c b:ac}{r:PV}(h:d c=.ok (.val r) b):gq d c=.ok (.ret (.val r)) b:=by unfold gq;rw[h];rfl
theorem oS{f d:ac->R Bool}{ε ε1 c:ac}{b:Bool}(h:f ε=.ok ae ε1)(g:d ε1=.ok b c):gU f d ε=.ok b c:=by unfold gU;rw[h];exact g
theorem vW{b d:ac->R Bool}{ε ε1:ac}(c:b ε=.ok aj ε1):gU b d ε=.ok aj ε1:=by unfold gU;rw[c];rfl
theorem Pl.wide{m c:Nat}(h:m<=c):∀{k:Nat}{x:PV},Pl m k x->Pl c k x
 |0,_,q=>q
 |k+1,x,q=>by
  cases x with
  |tup xs=>exact⟨dX q.1 h,λy b=>Pl.wide h (q.2 y b)⟩
  |lst xs=>exact⟨dX q.1 h,λy b=>Pl.wide h (q.2 y b)⟩
  |_=>exact q
theorem Pl.up{m:Nat}:∀{k:Nat}{x:PV},Pl m k x->Pl m (k+1) x
 |0,x,q=>by cases x <;> first|exact q.elim|exact q
 |k+1,x,q=>by
  cases x with
  |tup xs=>exact⟨q.1,λy b=>Pl.up (q.2 y b)⟩
  |lst xs=>exact⟨q.1,λy b=>Pl.up (q.2 y b)⟩
  |_=>exact q
theorem Pl.one{m k:Nat}{x:PV}(h:Pl m 1 x):Pl m (k+1) x:=by
 induction k with
 |zero=>exact h
 |succ k b=>exact b.up
theorem On{b:List PV}{c d:Option Int}:(cV b c d).length<=b.length/\∀y∈cV b c d,y∈b:=by unfold cV;refine⟨?_,λy f=>yj (ou f)⟩;rw[lL,kX];lia
theorem Fo(b:List PV)(d f:Option Int):∃c,gc (.tup b) d f=aa (.tup c)/\c.length<=b.length/\∀y∈c,y∈b:=by
 unfold gc;dsimp only;split
 .exact⟨b,rfl,bC _,λ_ h=>h⟩
 .exact⟨_,rfl,On⟩
theorem Eo(b:List PV)(j:Nat):gc (.tup b) ah (aa (j:Nat))=aa (.tup (b.take j)):=by
 unfold gc;dsimp only;split
 .rename_i h;have:b.length<=j:=by have c:=h.2;change (if(j:Int)<0 then((j:Int)+(b.length:Int)).toNat else min (j:Int).toNat b.length)=b.length at c;rw[if_neg ∅]at c;lia
  rw[k6 this]
 .rw[zt]
theorem Me(b:List PV)(j:Nat):gc (.tup b) (aa (j:Nat)) ah=aa (.tup (b.drop j)):=by
 unfold gc;dsimp only;split
 .rename_i h;have:j=0\/b=[]:=by
   have c:=h.1;change (if(j:Int)<0 then((j:Int)+(b.length:Int)).toNat else min (j:Int).toNat b.length)=0 at c;rw[if_neg ∅]at c;cases b with
   |nil=>exact .inr rfl
   |cons=>left;simp at c;lia
  rcases this with rfl|rfl <;> simp
 .rw[tT]
theorem vq{xs ys:List PV}(h:xs.length+ys.length<=1000):fR (.tup xs) (.tup ys)=aa (.tup (xs++ys)):=by
 match xs,ys with
 |[],ys=>rfl
 |x::xs,[]=>show(if xs.length<1000 then aa (PV.tup (x::xs))else ah)=_;rw[if_pos (by simp at h;lia),i6]
 |x::xs,y::ys=>show(if(x::xs)≠[]/\(y::ys)≠[]/\(x::xs).length+(y::ys).length<=1000 then aa (PV.tup ((x::xs)++(y::ys)))else ah)=_;rw[if_pos ⟨by simp,by simp,h⟩]
theorem Hj{xs ys:List PV}(h:xs.length+ys.length<=1000):fR (.lst xs) (.lst ys)=aa (.lst (xs++ys)):=by show aZ (.lst xs) (.lst ys)=_;exact ua (by unfold bR;lia)
def oU:List PV:=[.str [109,111,114,101],.str [116,119,111],.str [97,112,97,114,116],.str [],.str [97],.non,.bl ae,.int 0,.int 1,.int 2,.int 3,.int (-1),.tup [],.tup [.int 0],.tup [.int 0,.int 1],.tup [.int 1]]
theorem Nd:∀x∈oU,Pl 2 1 x:=by intro x b;unfold oU at b;simp only[bA,eZ,or_false]at b;rcases b with rfl|rfl|rfl|rfl|rfl|rfl|rfl|rfl|rfl|rfl|rfl|rfl|rfl|rfl|rfl|rfl <;> simp[Pl,l_]
def sN:ac->R Bool:=gU (dB (dL cb (ao (dV 2) (ao (dC (.raw (.ty "tuple"))) (ar))))) (gU (dB (d2 (Pu.eqT ae) (dV 2) (dL cx (ar)))) (dB (d2 (bt λi j=>decide (j<i)) (dV 4) (dC (.int 1)))))
def Fi(b:ac->R Slot):ac->R PV:=d2 fR (d2 fR (be gc (dV 2) (bj) (aY (dV 5))) (dL cx (ao (aL (aB (b) (gV (dV 0) (gO 1 (gV (d2 aF (dV 2) (dV 5)) (gV (dV 3) (Pu.br))))))) (ar)))) (be gc (dV 2) (aY (d2 fR (dV 5) (dC (.int 1)))) (bj))
def xv:ac->R Bool:=gU (dB (dL cb (ao (dV 2) (ao (dC (.raw (.ty "tuple"))) (ar))))) (dB (d2 (Pu.eqT aj) (dV 4) (dC (.int 1))))
def wP:ac->R PV:=dF (dL cH (ao (dF (dL kF (ao (dV 2) (ar)))) (ao (d2 fR (dV 2) (dV 2)) (ao (be gc (dV 2) (aY (dC (.int 1))) (bj)) (ao (xJ (dV 2) (aY (d1 dq (dC (.int 1))))) (ao (d2 fR (dV 2) (be gc (dV 2) (aY (d1 dq (dC (.int 1)))) (bj))) (ar)))))))
def EW:ac->R PV:=dF (dL cH (ao (dC (.str [109,111,114,101])) (ao (dC (.str [116,119,111])) (ao (dC (.str [97,112,97,114,116])) (ao (dC (.str [])) (ao (dC (.str [97])) (ao (dC .non) (ao (dC (.bl ae)) (ao (dC (.int 0)) (ao (dC (.int 1)) (ao (dC (.int 2)) (ao (dC (.int 3)) (ao (d1 dq (dC (.int 1))) (ao (dL cx (ar)) (ao (dL cx (ao (dC (.int 0)) (ar))) (ao (dL cx (ao (dC (.int 0)) (ao (dC (.int 1)) (ar)))) (ao (dL cx (ao (dC (.int 1)) (ar))) (ar))))))))))))))))))
theorem I_(b:ac):EW b=.ok (.lst oU) b:=rfl
def Ao:ac->R PV:=d2 fR (d2 fR (dV 3) (dV 3)) EW
theorem Qd(b:ac->R Slot):yaG a b=aw (aT 4 (aL (aB (eO a) (gV (dV 0) (gO 1 (gV (dC (.int 8)) (Pu.br))))))) (aw (aV sN (aw (aT 5 (aL (aB (eO a) (gV (dV 0) (gO 1 (gV (dL aS (ao (dV 2) (ar))) (Pu.br))))))) (aW (Fi b))) (bh)) (aw (aV xv (gq (aB (gE a) (gV (dV 0) (gO 1 (gV wP (Pu.br)))))) (bh)) (aw (aT 6 Ao) (gq (aB (gE a) (gV (dV 0) (gO 1 (gV (dV 6) (Pu.br))))))))):=rfl
def SE(b:List Int)(ys:List PV)(x:PV)(P:List PV)(s4 s5 s6:Slot):ac:=[bM b,.own (.lst ys),.val x,.val (.lst P),s4,s5,s6]
theorem OG{d:ac->R Slot}{c:List Int}{ys b:List PV}{x r:PV}{P:List PV}{s4 s5 s6:Slot}(h:yaG a d (SE c ys x P .none .none .none)=.ok (.ret (.val r)) (SE c b x P s4 s5 s6)):bL 4 [1] (bJ 3 (yaG a d)) [bM c,.own (.lst ys),.val x,.val (.lst P)]=.ok (.val r) [bM c,.own (.lst b),.val x,.val (.lst P)]:=by unfold bL bJ;rw[if_pos ⟨rfl,rfl⟩,show yaG a d ([bM c,.own (.lst ys),.val x,.val (.lst P)]++cr 3 .none)=_ from h];rfl
theorem Gs(c:List Int){P:List PV}(N:∀y∈P,l_ y)(H:P.length<=100){m:Nat}(hm:m<=100):∀(f k:Nat) (x:PV) (ys:List PV),k<f->k<=7->Pl m k x->ys.length+2*k<=500 -> ∃r d,mK a f [bM c,.own (.lst ys),.val x,.val (.lst P)]=.ok (.val r) [bM c,.own (.lst d),.val x,.val (.lst P)]/\Pl (2*m+2) (k+1) r/\d.length<=ys.length+2*(k+1)
 |0,_,_,_,hk,_,_,_=>absurd hk (BR _)
 |f+1,k,x,ys,hk,hk7,hx,g=>by
  obtain⟨v,v0,v1,hv⟩:=kM (a:=a) c ys 8 (by decide) ∅;have W:aT 4 (aL (aB (eO a) (gV (dV 0) (gO 1 (gV (dC (.int 8)) (Pu.br)))))) (SE c ys x P .none .none .none)=.ok .next (SE c (ys++[.int 0]) x P (⇑v) .none .none):=fL (j4 (lj rfl rfl (bE _ _) hv));have hi:=ur hx;have s:∀{s4 s5 s6 b},dB (dL cb (ao (dV 2) (ao (dC (.raw (.ty "tuple"))) (ar)))) (SE c b x P s4 s5 s6)=.ok (nY x) (SE c b x P s4 s5 s6):=fJ (aG rfl) hi;have I:∀{r d s4 s5 s6},aw (aV sN (aw (aT 5 (aL (aB (eO a) (gV (dV 0) (gO 1 (gV (dL aS (ao (dV 2) (ar))) (Pu.br))))))) (aW (Fi (mK a f)))) (bh))
    (aw (aV xv (gq (aB (gE a) (gV (dV 0) (gO 1 (gV wP (Pu.br)))))) (bh))
    (aw (aT 6 Ao) (gq (aB (gE a) (gV (dV 0) (gO 1 (gV (dV 6) (Pu.br)))))))) (SE c (ys++[.int 0]) x P (⇑v) .none .none)=.ok (.ret (.val r)) (SE c d x P s4 s5 s6)->mK a (f+1) [bM c,.own (.lst ys),.val x,.val (.lst P)]=.ok (.val r) [bM c,.own (.lst d),.val x,.val (.lst P)]:=λh=>OG (by rw[Qd,aX W];exact h)
  have o:sN (SE c (ys++[.int 0]) x P (⇑v) .none .none)=.ok aj (SE c (ys++[.int 0]) x P (⇑v) .none .none)->xv (SE c (ys++[.int 0]) x P (⇑v) .none .none)=.ok aj (SE c (ys++[.int 0]) x P (⇑v) .none .none)->∃r d,mK a (f+1) [bM c,.own (.lst ys),.val x,.val (.lst P)]=.ok (.val r) [bM c,.own (.lst d),.val x,.val (.lst P)]/\Pl (2*m+2) (k+1) r/\d.length<=ys.length+2*(k+1):=λl w=>by
   have h5:aT 6 Ao (SE c (ys++[.int 0]) x P (⇑v) .none .none)=.ok .next (SE c (ys++[.int 0]) x P (⇑v) .none (.val (.lst (P++P++oU)))) :=fL (bi (bi (aG rfl) (aG rfl) (Hj (xs:=P) (ys:=P) ∅)) (I_ _) (Hj (by rw[c_];show P.length+P.length+16<=1000;lia)));obtain⟨r,u,G⟩:=mH (a:=a) c (ys++[.int 0]) (P++P++oU) (by simp;lia) (by simp[oU];lia);refine⟨r,ys++[.int 0]++[.int 0],I (s4:=⇑v) (s5:=.none) (s6:=.val (.lst (P++P++oU))) ?_,?_,by simp;lia⟩
   .rw[aX (dU l),aX (dU w),aX h5];exact Ct (lj rfl rfl (aG rfl) G)
   .have p1:Pl 2 1 r:=by
     rcases g9.mp u with q|q
     .have:=N r (by rcases g9.mp q with q|q <;> exact q);cases r <;> first|exact this.elim|exact this
     .exact Nd r q
    exact(p1.wide ∅).one
  by_cases ht:∃b,x=.tup b;rotate_left
  .have:nY x=aj:=by cases x <;> first|rfl|exact absurd ⟨_,rfl⟩ ht
   rw[this]at s;exact o (vW s) (vW s)
  obtain⟨b,rfl⟩:=ht;obtain⟨hzl,j,rfl,D⟩:=hx.tup;have hd:Pu.dep (.tup b)<=8:=by have:=hx.dep;lia
  have B:dB (d2 (Pu.eqT ae) (dV 2) (dL cx (ar))) (SE c (ys++[.int 0]) (.tup b) P (⇑v) .none .none)=.ok (ae^^b.isEmpty) (SE c (ys++[.int 0]) (.tup b) P (⇑v) .none .none):=bW (bi (aG rfl) (cF (f:=cx) cB rfl) (v6 hd));have E:dB (d2 (bt λi j=>decide (j<i)) (dV 4) (dC (.int 1))) (SE c (ys++[.int 0]) (.tup b) P (⇑v) .none .none)=.ok (decide (1<v)) (SE c (ys++[.int 0]) (.tup b) P (⇑v) .none .none):=bW (bi (aG rfl) (bE _ _) rfl);have L:dB (d2 (Pu.eqT aj) (dV 4) (dC (.int 1))) (SE c (ys++[.int 0]) (.tup b) P (⇑v) .none .none)=.ok (aj^^decide (v=1)) (SE c (ys++[.int 0]) (.tup b) P (⇑v) .none .none):=bW (bi (aG rfl) (bE _ _) (iW aj v 1));rw[gP]at L;by_cases F:b≠[]/\1<v
  .have C:(ae^^b.isEmpty)=ae:=by cases b with|nil=>exact absurd rfl F.1|cons=>rfl
   rw[C]at B;rw[decide_eq_true F.2]at E;have l:sN (SE c (ys++[.int 0]) (.tup b) P (⇑v) .none .none)=.ok ae (SE c (ys++[.int 0]) (.tup b) P (⇑v) .none .none):=oS s (oS B E);have zl:0<b.length:=List.length_pos_iff.mpr F.1;obtain⟨J,w0,w1,X⟩:=kM (a:=a) c (ys++[.int 0]) (b.length:Nat) ∅ (by simp;lia);obtain⟨n,rfl⟩:∃n:Nat,J=n:=⟨J.toNat,∅⟩
   have lU:aT 5 (aL (aB (eO a) (gV (dV 0) (gO 1 (gV (dL aS (ao (dV 2) (ar))) (Pu.br)))))) (SE c (ys++[.int 0]) (.tup b) P (⇑v) .none .none)=.ok .next (SE c (ys++[.int 0]++[.int 0]) (.tup b) P (⇑v) (⇑n) .none):=fL (j4 (lj rfl rfl (cF (bY (aG rfl) cB) rfl) X));have M:n<b.length:=∅
   have ez:b[n]?=aa b[n]:=fO M;obtain⟨r,d,u,pr,ly⟩:=Gs c N H hm f j b[n] (ys++[.int 0]++[.int 0]) ∅ ∅ (D _ (HG M)) (by simp;lia);have s1:∀{p},be gc (dV 2) (bj) (aY (dV 5)) (SE c p (.tup b) P (⇑v) (⇑n) .none)=.ok (.tup (b.take n)) (SE c p (.tup b) P (⇑v) (⇑n) .none):=by intro p;have:=Eo b n;simp[be,dV,SE,aY,bj,iC,R.bind,aO,this]
   have s2:∀{p},be gc (dV 2) (aY (d2 fR (dV 5) (dC (.int 1)))) (bj) (SE c p (.tup b) P (⇑v) (⇑n) .none)=.ok (.tup (b.drop (n+1))) (SE c p (.tup b) P (⇑v) (⇑n) .none):=by intro p;have l:=Me b (n+1);have O:fR (.int n) (.int 1)=aa (.int ((n+1:Nat):Int)):=rfl;generalize ((n+1:Nat):Int)=nn at l O;simp[be,dV,SE,aY,bj,d2,dC,iC,R.bind,aO,l,O]
   have Y:dL cx (ao (aL (aB (mK a f) (gV (dV 0) (gO 1 (gV (d2 aF (dV 2) (dV 5)) (gV (dV 3) (Pu.br))))))) (ar)) (SE c (ys++[.int 0]++[.int 0]) (.tup b) P (⇑v) (⇑n) .none)=.ok (.tup [r]) (SE c d (.tup b) P (⇑v) (⇑n) .none) :=cF (bY (j4 (Du (p':=.lst d) rfl rfl (bi (aG rfl) (aG rfl) (qP ez)) (aG rfl) u)) cB) rfl;have lt:=List.length_take_le n b;have ld:(b.drop (n+1)).length<=b.length:=by rw[kX];lia
   refine⟨.tup (b.take n++[r]++b.drop (n+1)),d,I (s4:=⇑v) (s5:=⇑n) (s6:=.none) ?_,⟨?_,λy g=>?_⟩,by simp at ly ⊢;lia⟩
   .refine gb ((eL l).trans ((aX lU).trans (gJ ?_)));refine bi (bi s1 Y (vq ?_)) s2 (vq ?_)
    .simp;lia
    .rw[c_];simp;lia
   .simp;lia
   .rcases g9.mp g with q|q
    .rcases g9.mp q with q|q
     .exact((D y (ou q)).wide ∅).up
     .rw[jr.mp q];exact pr
    .exact((D y (yj q)).wide ∅).up
  .have l:sN (SE c (ys++[.int 0]) (.tup b) P (⇑v) .none .none)=.ok aj (SE c (ys++[.int 0]) (.tup b) P (⇑v) .none .none):=by
    by_cases e:b=[]
    .subst e;exact oS s (vW B)
    .have C:(ae^^b.isEmpty)=ae:=by cases b with|nil=>exact absurd rfl e|cons=>rfl
     rw[C]at B;rw[decide_eq_false (λq=>F ⟨e,q⟩)]at E;exact oS s (oS B E)
   have w:xv (SE c (ys++[.int 0]) (.tup b) P (⇑v) .none .none)=.ok (decide (v=1)) (SE c (ys++[.int 0]) (.tup b) P (⇑v) .none .none):=oS s L;by_cases Q:v=1;rotate_left
   .rw[decide_eq_false Q]at w;exact o l w
   rw[decide_eq_true Q]at w;obtain⟨K,C,l1,m1⟩:=Fo b (aa 1) ah;obtain⟨z,e2,l2,m2⟩:=Fo b (aa (-1)) ah;have h4:wP (SE c (ys++[.int 0]) (.tup b) P (⇑v) .none .none)=.ok (.lst [.lst b,.tup (b++b),.tup K,.tup b.reverse,.tup (b++z)]) (SE c (ys++[.int 0]) (.tup b) P (⇑v) .none .none):=by have T:fR (.tup b) (.tup b)=aa (.tup (b++b)):=vq ∅;have S:fR (.tup b) (.tup z)=aa (.tup (b++z)):=vq ∅;have A:dq (.int 1)=aa (.int (-1)):=rfl;generalize b++b=Z at T;generalize b++z=Z2 at S;simp[wP,dF,dL,ao,ar,kF,cH,d2,be,dV,SE,aY,bj,dC,d1,A,iC,R.bind,aO,C,e2,T,S,xJ,vV]
   obtain⟨r,u,G⟩:=mH (a:=a) c (ys++[.int 0]) [.lst b,.tup (b++b),.tup K,.tup b.reverse,.tup (b++z)] (by simp;lia) (by simp);refine⟨r,ys++[.int 0]++[.int 0],I (s4:=⇑v) (s5:=.none) (s6:=.none) ?_,?_,by simp;lia⟩
   .rw[aX (dU l)];exact gb ((eL w).trans (Ct (lj rfl rfl h4 G)))
   .have t:∀y∈b,Pl (2*m+2) (j+1) y:=λy g=>((D y g).wide ∅).up;simp only[bA,eZ,or_false]at u;rcases u with rfl|rfl|rfl|rfl|rfl
    .exact⟨∅,t⟩
    .exact⟨by rw[c_];lia,λy g=>t y ((g9.mp g).elim id id)⟩
    .exact⟨∅,λy g=>t y (m1 y g)⟩
    .exact⟨by rw[List.length_reverse];lia,λy g=>t y (List.mem_reverse.mp g)⟩
    .exact⟨by rw[c_];lia,λy g=>(g9.mp g).elim (t y) λq=>t y (m2 y q)⟩
def cS(ls:List Tx):List Tx:=bS (ks (bg ls))
def jj(ls:List Tx):PV->PV
 |.str p=>.tup [.str p,.int (exc ls p)]
 |x=>x
def zS(b:List Tx):PV->Bool
 |.str p=>ae^^decide (exc b p=0)
 |_=>aj
def o_(b:List Tx):List PV:=((ai (cS b)).filter (zS b)).map (jj b)
theorem Lx{b:List Tx}{y:Tx}(f:y∈cS b):bF (bg b) y=aa (exc b y):=by
 have g:y∈ks (bg b):=(fZ _).mem_iff.mp f;have d:(bF (bg b) y).isSome=ae:=by rw[pA];exact decide_eq_true g
 have c:=ue b y;cases h:bF (bg b) y with
 |none=>rw[h]at d;cases d
 |some n=>rw[h]at c;rw[<-c];rfl
theorem GM{ls:List Tx}(c:ls.length<=20):(ks (bg ls)).length<64:=by have:=len_sub (ud ls) (λz b=>(mf ls z).mp b);unfold eM at this;simp at this ⊢;lia
theorem Na{w:Nat}{ls:List Tx}(l:1<=w)(j:w<=4)(g:Good cA w ls)(q:ls.Pairwise (λa b=>dy a b=ae)):su a [.val (aE w ls)]=.ok (.own (.lst (o_ ls))) [.val (aE w ls)]:=by
 have r:ls.length<=20:=by have:=g.few;lia
 have o:=xf (a:=a) (g.vw l j q);have B:=AU (G:=lr a) (ε:=[.val (aE w ls),.none]) (aG (i:=0) rfl) o;have d:=EY (G:=li a) (ε:=[.val (aE w ls),.none]) (bi (f:=aF) (aG (i:=0) rfl) (bE (.int 1) _) (kr _ _ _)) (AT (a:=a) (.tup (ai ls)) ls ∅ rfl);have A:dS 1 (gH (aB (li a) (gV (d2 aF (dV 0) (dC (.int 1))) (Pu.br)))) [.val (aE w ls),.none]=.ok .next [.val (aE w ls),.own (.dK (dk (bg ls)))]:=by unfold dS;rw[d];rfl
 have m:∀z∈ks (bg ls),z.length<=bR:=λz p=>by
  have:=(mf ls z).mp p;have C:(1000:Nat)<=bR:=by decide
  unfold eM at this;simp only[g9,cp]at this;rcases this with⟨y,c,rfl⟩|⟨y,c,rfl⟩
  .have:=g.len y c;simp;lia
  .have:=g.len y c;simp;lia
 have n:jP 1 [.val (aE w ls),.own (.dK (dk (bg ls)))]=.ok (.lst (ai (cS ls))) [.val (aE w ls),.own (.dK (dk (bg ls)))]:=by unfold jP;show aO (qA (dk (bg ls))) _=_;unfold qA;rw[At];show aO (if _ then _ else _) _=_;rw[if_pos ⟨GM r,m⟩];rfl
 have s:aR (dF (jP 1)) [.val (aE w ls),.own (.dK (dk (bg ls)))]=.ok (ai (cS ls)) [.val (aE w ls),.own (.dK (dk (bg ls)))]:=by unfold aR dF;rw[n];rfl
 have t:=ml (cap:=[1]) (dt:=dB (d2 (Pu.eqT ae) (fz 1 (dV 0)) (dC (.int 0)))) (de:=dL cx (ao (dV 0) (ao (fz 1 (dV 0)) (ar)))) (ε:=[.val (aE w ls),.own (.dK (dk (bg ls)))]) (zS ls) (jj ls) (ai (cS ls)) (λx d=>by obtain⟨y,c,rfl⟩:=kN d;have h:fz 1 (dV 0) [↥y,.own (.dK (dk (bg ls)))]=.ok (.int (exc ls y)) [↥y,.own (.dK (dk (bg ls)))]:=Ae ⟨_,rfl⟩ (aG rfl) rfl (Lx c);exact⟨xA rfl (bW (bi h (bE _ _) (iW ae _ _))),λ_=>xA rfl (cF (bY (aG rfl) (bY h cB)) rfl)⟩) [];have v:oK (bI [1] (aR (dF (jP 1))) (dB (d2 (Pu.eqT ae) (fz 1 (dV 0)) (dC (.int 0)))) (dL cx (ao (dV 0) (ao (fz 1 (dV 0)) (ar))))) [.val (aE w ls),.own (.dK (dk (bg ls)))]=.ok (.ret (.own (.lst (o_ ls)))) [.val (aE w ls),.own (.dK (dk (bg ls)))]:=by unfold oK bI;rw[s,R.bind_ok,t,R.bind_ok];rfl
 have u:yah a [.val (aE w ls),.none]=.ok (.ret (.own (.lst (o_ ls)))) [.val (aE w ls),.own (.dK (dk (bg ls)))]:=(aX B).trans ((aX A).trans v);unfold su bL bJ;rw[if_pos ⟨rfl,rfl⟩,show yah a ([.val (aE w ls)]++cr 1 .none)=_ from u];rfl
theorem Ml(ls:List Tx):bS (fu (ht ls))=cS ls:=by unfold cS;refine vK ((List.perm_ext_iff_of_nodup (GR _) (ud ls)).mpr λz=>?_);rw[qF,mf];rfl
def Cw:PV->Bool
 |.tup [_,.int n]=>ae^^decide (n=0)
 |_=>aj
theorem Mn(ls b:List Tx):((ai b).map (jj ls)).filter Cw=((ai b).filter (zS ls)).map (jj ls):=by rw[p6];congr 1;refine List.filter_congr λx c=>?_;obtain⟨y,_,rfl⟩:=kN c;rfl
theorem FN(c:List Tx):∀d:List Tx,fe (((ai d).map (jj c))) (((ai d).map (jj c)))=aa ae/\fD ((ai d).map (jj c))<=1
 |[]=>⟨rfl,kg _⟩
 |z::d=>by
  obtain⟨g,f⟩:=FN c d;constructor
  .show(dv (.tup [.str z,.int (exc c z)]) (.tup [.str z,.int (exc c z)])).bind (λa=>(fe ((ai d).map (jj c)) ((ai d).map (jj c))).map λb=>a&&b)=_;rw[g];have:dv (.tup [.str z,.int (exc c z)]) (.tup [.str z,.int (exc c z)])=aa ae:=by show aa ((tS z == tS z)&&((exc c z == exc c z)&&ae))=_;simp
   rw[this];rfl
  .show max (dep (.tup [.str z,.int (exc c z)])) (fD _)<=1;exact Nat.max_le.mpr ⟨bC _,f⟩
theorem Jn(ls:List Tx):Pu.eqT ae (.lst (o_ ls)) (.lst (o_ ls))=aa (.bl aj):=by
 have e:o_ ls=(ai ((cS ls).filter λp=>ae^^decide (exc ls p=0))).map (jj ls):=by unfold o_;congr 1;unfold ai;rw[p6];rfl
 rw[e];obtain⟨b,c⟩:=FN ls ((cS ls).filter λp=>ae^^decide (exc ls p=0));generalize (ai ((cS ls).filter λp=>ae^^decide (exc ls p=0))).map (jj ls)=L at b c;show(if dep (.lst L)<=8 then(fe L L).map (λk=>PV.bl (ae^^k))else ah)=_;rw[if_pos (by show fD L+1<=8;lia),b];rfl
end
section
variable{a:Ad}
theorem Oj{t:Tx}{w:Nat}(b:1<=w)(g:w<=t.length)(h:∀x∈bp t w,∀c∈x,c∈cA):∀c∈t,c∈cA:=by
 intro c f;obtain⟨i,j,rfl⟩:=List.mem_iff_getElem.mp f;have d:min i (t.length-w)<t.length+1-w:=∅
 refine h ((t.drop (min i (t.length-w))).take w) ?_ _ ?_
 .rw[nR t w b];exact cp.mpr ⟨_,ka.mpr d,rfl⟩
 .refine List.mem_iff_getElem.mpr ⟨i-min i (t.length-w),by simp;lia,?_⟩;rw[List.getElem_take,List.getElem_drop];congr 1;lia
theorem Gn{w:Nat}{ls:List Tx}(d:1<=w)(g:Good cA w ls)(j:ls.Pairwise (λa b=>dy a b=ae)):(∃t,(bp t w).Perm ls)↔et w ls≠[]:=by
 have i:∀x∈ls,x.length=w/\∀c∈x,c∈cA:=λx f=>⟨g.len x f,g.abc x f⟩
 have l:=g.some;constructor
 .rintro⟨t,ht⟩ e;have o:=ht.length_eq;rw[pB d]at o;have m:=Oj (t:=t) d ∅ (λx f=>(i x (ht.mem_iff.mp f)).2);have:=(Cc d l i j m).mpr ((vK ht).trans (xc j));rw[e]at this;cases this
 .intro h;obtain⟨z,r,e⟩:=List.exists_cons_of_ne_nil h;have n:z∈et w ls:=by rw[e];simp
  have m:=(IR d l i n).2;have:=(Cc d l i j m).mp n;exact⟨z,by rw[<-this];exact(fZ _).symm⟩
theorem Mb{w:Nat}{ls:List Tx}(f:1<=w)(j:w<=4)(g:Good cA w ls)(i:ls.Pairwise (λa b=>dy a b=ae)):∃pv,sJ a [.val (aE w ls)]=.ok (.val pv) [.val (aE w ls)]/\((pv=.non/\et w ls≠[])\/(f9 ls pv/\et w ls=[])):=by
 obtain⟨x,r,rfl⟩:∃x r,ls=x::r:=by
  have:=g.some;cases ls with
  |nil=>simp at this
  |cons x r=>exact⟨x,r,rfl⟩
 obtain⟨v,rfl⟩:∃v,w=v+1:=⟨w-1,∅⟩
 have o:=g.few;obtain⟨pv,n,c,d⟩:=JS (a:=a) (W:=.tup (ai (x::r))) rfl g.len ∅ (by simp at o;lia);have l:=xf (a:=a) (g.vw f j i);have p:yai a [.val (aE (v+1) (x::r))]=.ok (.ret (.val pv)) [.val (aE (v+1) (x::r))]:=by refine(aX (AU (aG rfl) l)).trans ?_;have m:d2 aF (dV 0) (dC (.int 1)) [.val (aE (v+1) (x::r))]=.ok (.tup (ai (x::r))) [.val (aE (v+1) (x::r))]:=bi (aG rfl) (bE _ _) (kr _ _ _);simp[gq,aB,gV,Pu.br,m,n,R.bind,aO,df,cW,bX,cK,cY]
 refine⟨pv,?_,?_⟩
 .unfold sJ bL bJ;rw[if_pos ⟨rfl,rfl⟩,show yai a ([.val (aE (v+1) (x::r))]++cr 0 .none)=_ from p];rfl
 .rw[Eh g.len,Gn f g i]at d;by_cases h:et (v+1) (x::r)≠[]
  .exact .inl ⟨d.mpr h,h⟩
  .refine .inr ⟨?_,by simpa using h⟩;rcases c with c|c
   .exact absurd (d.mp c) h
   .exact MO g.some c
theorem Aw{ls:List Tx}(d:ls.length<=9){x:PV}(h:f9 ls x):Pl 9 2 x:=by
 rcases h with⟨p,q,rfl,_⟩|⟨p,rfl,_⟩|⟨y,ps,rfl,⟨rfl,_,_,_,l⟩,_⟩
 .simp[Pl,l_]
 .simp[Pl,l_]
 .refine⟨by simp,λy b=>?_⟩;simp only[bA,eZ,or_false]at b;rcases b with rfl|rfl
  .exact trivial
  .refine⟨by rw[b0];lia,λz c=>?_⟩;obtain⟨p,_,rfl⟩:=cp.mp c;exact trivial
theorem Px{ls:List Tx}{x:PV}(h:f9 ls x):x≠.non/\lp ae x .non=aa (.bl ae):=by
 rcases h with⟨p,q,rfl,_⟩|⟨p,rfl,_⟩|⟨y,ps,rfl,_⟩ <;> exact⟨(λh=>by cases h),rfl⟩
def WE(p:List Int)(f:List PV)(o n m l j i h g d c b:Slot):ac:=[bM p,.own (.lst f),o,n,m,l,j,i,h,g,d,c,b]
def w3:ac->R aK:=aV (dB (d2 (Pu.eqT aj) (d2 aF (dV 2) (dC (.int 0))) (dC (.int 1)))) (aT 2 (dL cx (ao (dC (.int 1)) (ao (be gc (d2 aF (dV 2) (dC (.int 1))) (bj) (aY (dC (.int 7)))) (ar))))) (bh)
theorem Pq(d:List Int)(c:List PV){w:Nat}{ls:List Tx}(g:Good cA w ls)(l:ls.Pairwise (λa b=>dy a b=ae)):∃i,Good cA w i/\i.Pairwise (λa b=>dy a b=ae)/\w3 (WE d c (.val (aE w ls)) .none .none .none .none .none .none .none .none .none .none)=.ok .next (WE d c (.val (aE w i)) .none .none .none .none .none .none .none .none .none .none):=by
 have o:d2 aF (dV 2) (dC (.int 0)) (WE d c (.val (aE w ls)) .none .none .none .none .none .none .none .none .none .none)=.ok (.int w) (WE d c (.val (aE w ls)) .none .none .none .none .none .none .none .none .none .none):=bi (aG rfl) (bE _ _) (sY _ _);have n:d2 aF (dV 2) (dC (.int 1)) (WE d c (.val (aE w ls)) .none .none .none .none .none .none .none .none .none .none)=.ok (.tup (ai ls)) (WE d c (.val (aE w ls)) .none .none .none .none .none .none .none .none .none .none):=bi (aG rfl) (bE _ _) (kr _ _ _);have f:=bW (bi o (bE (.int 1) _) (iW aj _ 1));rw[gP]at f;by_cases h:w=1
 .rw[decide_eq_true ∅]at f;have m:be gc (d2 aF (dV 2) (dC (.int 1))) (bj) (aY (dC (.int 7))) (WE d c (.val (aE w ls)) .none .none .none .none .none .none .none .none .none .none)=.ok (.tup (ai (ls.take 7))) (WE d c (.val (aE w ls)) .none .none .none .none .none .none .none .none .none .none):=by have:=Eo (ai ls) 7;rw[show(ai ls).take 7=ai (ls.take 7) by unfold ai;rw[List.map_take]]at this;unfold be;rw[n];generalize ai ls=L at this;generalize ai (ls.take 7)=M at this;rw[show(((7:Nat):Int))=7 from rfl]at this;simp[R.bind,bj,aY,dC,iC,aO,this]
  refine⟨ls.take 7,⟨λx j=>g.len x (ou j),λx j=>g.abc x (ou j),by have:=g.some;rw[lL];lia,by have:=g.few;rw[lL];lia⟩,l.sublist (List.take_sublist 7 ls),?_⟩;refine(eL f).trans ((fL (cF (bY (bE _ _) (bY m cB)) rfl)).trans ?_);subst h;rfl
 .rw[decide_eq_false ∅]at f;exact⟨ls,g,l,dU f⟩
def pD(a:Ad):ac->R Bool:=dB (d2 (Pu.eqT aj) (aL (aB (eO a) (gV (dV 1) (gO 2 (gV (dC (.int 2)) (Pu.br)))))) (dC (.int 0)))
theorem GY{f:Type}{d:ac->R f}{x:PV}{b:ac}{c:PV}{p g:Pu.PO}{r:f}(j:b[0]?=aa (.val c))(i:b[1]?=aa (.own p))(h:d [.val x,.val c,.own p]=.ok r [.val x,.val c,.own g]):cu (d7 [0,1] d x b)=.ok r (b.set 1 (.own g)):=by simp[d7,eJ,j,i,aO,R.bind,bX,cK,h,df,cW,cY,cu]
theorem KA(d:List Int)(c:List PV)(x:PV)(i:c.length<=900):∃b,pD a [.val x,bM d,.own (.lst c)]=.ok b [.val x,bM d,.own (.lst (c++[.int 0]))]:=by obtain⟨v,h,g,f⟩:=kM (a:=a) d c 2 (by decide) ∅;refine⟨aj^^decide (v=0),bW (bi (j4 ?_) (bE _ _) (iW aj v 0))⟩;simp[aB,gV,gO,Pu.br,dV,dC,f,R.bind,aO,df,cW,bX,cK,cY,bM]
theorem AL(g:List Int){ε:ac}(j:ε[0]?=aa (bM g)):∀(l:List Nat) (c h:List PV),c.length+l.length<=900->1<ε.length->∃f:List Nat,f.length<=l.length/\jl [0,1] (pD a) (dV 0) (l.map ba) h (ε.set 1 (.own (.lst c)))=.ok (h++f.map ba) (ε.set 1 (.own (.lst (c++cr l.length (.int 0)))))
 |[],c,h,_,_=>⟨[],bC _,by simp[jl]⟩
 |p::l,c,h,q,i=>by
  simp only[eY]at q;obtain⟨b,s⟩:=KA (a:=a) g c (ba p) ∅;have y:(ε.set 1 (.own (.lst c)))[0]?=aa (bM g):=by rw[eT (by decide)];exact j
  have w:(ε.set 1 (.own (.lst c)))[1]?=aa (.own (.lst c)):=ge i;have n:=GY (x:=ba p) y w s;rw[List.set_set]at n;have v:(ε.set 1 (.own (.lst (c++[.int 0]))))[0]?=aa (bM g):=by rw[eT (by decide)];exact j
  have u:(ε.set 1 (.own (.lst (c++[.int 0]))))[1]?=aa (.own (.lst (c++[.int 0]))):=ge i;have t:cu (d7 [0,1] (dV 0) (ba p) (ε.set 1 (.own (.lst (c++[.int 0])))))=.ok (ba p) (ε.set 1 (.own (.lst (c++[.int 0])))):=by have:=GY (d:=dV 0) (x:=ba p) (r:=ba p) v u rfl;rwa[List.set_set]at this
  have er:c++cr (l.length+1) (.int 0)=(c++[.int 0])++cr l.length (.int 0):=by rw[BD,iK];rfl
  rw[ci];unfold jl;rw[n,R.bind_ok];cases b with
  |true=>obtain⟨f,o,m⟩:=AL g j l (c++[.int 0]) (h++[ba p]) (by simp;lia) i;refine⟨p::f,by simp;lia,?_⟩;show(cu (d7 [0,1] (dV 0) (ba p) _)).bind _=_;rw[t,R.bind_ok,m,eY,er,iK];rfl
  |false=>obtain⟨f,o,m⟩:=AL g j l (c++[.int 0]) h (by simp;lia) i;refine⟨f,by simp;lia,?_⟩;show jl _ _ _ _ _ _=_;rw[m,eY,er]
def z5:ac->R aK:=aT 5 (dF (dL nL (ao (d2 aZ (dF (bI [] (aR (dV 4)) (bV) (hD 0))) (dF (bI [] (aR (dV 4)) (bV) (tD 0)))) (ar))))
def z6(a:Ad):ac->R aK:=aT 6 (dF (bI [4] (aR (dV 5)) (bV) (dL cx (ao (dV 0) (ao (aL (aB (jD a) (gV (dV 1) (gV (dV 0) (Pu.br))))) (ar))))))
def z7(a:Ad):ac->R aK:=aV (dB (d2 (Pu.eqT ae) (aL (aB (su a) (gV (dV 2) (Pu.br)))) (dF (bI [] (aR (dV 6)) (dB (d2 (Pu.eqT ae) (d2 aF (dV 0) (dC (.int 1))) (dC (.int 0)))) (dV 0))))) (aW (dC (.bl aj))) (bh)
def z8(a:Ad):ac->R aK:=aT 7 (d2 (Pu.eqT aj) (aL (aB (s_ a) (gV (dV 2) (Pu.br)))) (dF (dL cH (ar))))
def z9(a:Ad):ac->R aK:=aT 8 (aL (aB (sJ a) (gV (dV 2) (Pu.br))))
def De(a:Ad):ac->R Bool:=cq (dB (d2 (Pu.eqT ae) (d2 (lp ae) (dV 8) (dC .non)) (dV 7))) (gU (dB (dV 7)) (cq (bZ (dB (aL (aB (nD a) (gV (dV 2) (gV (dV 8) (Pu.br))))))) (dB (d2 (Pu.eqT ae) (aL (aB (mj a) (gV (dV 2) (gV (dV 8) (Pu.br))))) (dC (.bl ae))))))
def GG(a:Ad):ac->R aK:=aT 9 (dL lz (ao (dF (bI [0,1] (dL fc (ao (dL aS (ao (dV 4) (ar))) (ar))) (pD a) (dV 0))) (ar)))
def pk(a:Ad)(d:ac->R PV):ac->R PV:=aL (aB (gE a) (gV (dV 0) (gO 1 (gV d (Pu.br)))))
def AM(a:Ad):ac->R aK:=dS 10 (dL cH (ao (dL cx (ao (dC (.str [109,111,114,101])) (ao (pk a (dV 5)) (ar)))) (ao (dL cx (ao (dC (.str [97,112,97,114,116])) (ao (dV 9) (ar)))) (ar))))
def zc(a:Ad):ac->R aK:=iu 10 (dL cx (ao (dC (.str [116,119,111])) (ao (pk a (dV 5)) (ao (pk a (dV 5)) (ar)))))
def F_(a:Ad):ac->R aK:=aV (cq (dB (d2 (lp aj) (dV 8) (dC .non))) (dB (d2 (Pu.eqT aj) (aL (aB (eO a) (gV (dV 0) (gO 1 (gV (dC (.int 3)) (Pu.br)))))) (dC (.int 0))))) (aT 8 (pk a (dM 10))) (bh)
def tP(a:Ad):ac->R aK:=aT 8 (aL (aB (mK a 6) (gV (dV 0) (gO 1 (gV (dV 8) (gV (dV 5) (Pu.br)))))))
def Ep(a:Ad):ac->R aK:=λε=>dr (cj 11 (dL fc (ao (aL (aB (eO a) (gV (dV 0) (gO 1 (gV (dC (.int 3)) (Pu.br)))))) (ar))) (tP a) ε)
def G6(a:Ad):ac->R aK:=aT 12 (aL (aB (mj a) (gV (dV 2) (gV (dV 8) (Pu.br)))))
def Gw(a:Ad):ac->R Bool:=cq (dB (d2 (Pu.eqT ae) (dV 12) (aL (aB (nD a) (gV (dV 2) (gV (dV 8) (Pu.br))))))) (bZ (dB (dL cb (ao (dV 12) (ao (dC (.raw (.ty "bool"))) (ar))))))
def zw(a:Ad):ac->R PV:=jJ (jo (dV 12)) (eU (dV 7) (d2 (Pu.eqT aj) (aL (aB (tE a) (gV (dV 2) (Pu.br)))) (dC (.int 0))))
theorem OF:yax a=aw (dS 1 (dL cH (ar))) (aw (aT 2 (aL (aB (ql a) (gV (dV 0) (gO 1 (gV (dC (.int 8)) (Pu.br))))))) (aw w3 (aw (kG 3 4 (dV 2)) (aw z5 (aw (z6 a) (aw (z7 a) (aw (z8 a) (aw (z9 a) (aw (aV (De a) (aW (dC (.bl aj))) (bh)) (aw (GG a) (aw (AM a) (aw (zc a) (aw (F_ a) (aw (Ep a) (aw (G6 a) (aw (aV (Gw a) (aW (dC (.bl aj))) (bh)) (aW (zw a)))))))))))))))))):=rfl
theorem Ma{d1 d2:ac->R PV}{ε ε1:ac}(h:d1 ε=.ok (.bl aj) ε1):jJ d1 d2 ε=d2 ε1:=by unfold jJ;rw[bW h];rfl
theorem xo(d:Bool)(b c:Bool):Pu.eqT d (.bl b) (.bl c)=aa (.bl (d^^decide (b=c))):=by cases d <;> cases b <;> cases c <;> rfl
theorem D7(h:List Int){P:List PV}(F:∀y∈P,l_ y)(w:P.length<=100)(q p o n j i c b:Slot):∀(l:List PV) (m k:Nat) (g:List PV) (x:PV) (f:Slot),Pl m k x->2<=k->k+l.length<=4->(m+2)*2^l.length<=100->g.length+10*l.length<=400 -> ∃A u d z t,2<=u/\u<=4/\Pl A u z/\fM 11 (tP a) l (WE h g q p o (.val (.lst P)) n j (.val x) i c f b)=.ok .next (WE h d q p o (.val (.lst P)) n j (.val z) i c t b)
 |[],m,k,g,x,f,B,G,E,_,_=>⟨m,k,g,x,f,G,by simpa using E,B,rfl⟩
 |y::l,m,k,g,x,f,B,G,E,D,O=>by
  simp only[eY]at E D O;have v:(m+2)*2^(l.length+1)=(2*m+2+2)*2^l.length:=by rw[Nat.pow_succ];rw[show 2*m+2+2=(m+2)*2 by lia,Nat.mul_assoc,Nat.mul_comm (2^l.length) 2]
  have S:1<=2^(l.length+1):=Nat.one_le_two_pow;have C:m+2<=100:=dX (Nat.le_mul_of_pos_right _ S) D;obtain⟨r,d,Q,N,T⟩:=Gs (a:=a) h F w (m:=m) ∅ 6 k x g ∅ ∅ B ∅;have I:tP a (WE h g q p o (.val (.lst P)) n j (.val x) i c (.val y) b)=.ok .next (WE h d q p o (.val (.lst P)) n j (.val r) i c (.val y) b):=fL (j4 (Du (p':=.lst d) rfl rfl (aG rfl) (aG rfl) Q));obtain⟨A,u,H,z,s,M,L,K,J⟩:=D7 h F w q p o n j i c b l (2*m+2) (k+1) d r (.val y) N ∅ ∅ (by rw[<-v];exact D) ∅;refine⟨A,u,H,z,s,M,L,K,?_⟩;show(match tP a (WE h g q p o (.val (.lst P)) n j (.val x) i c (.val y) b)with|_=>_)=_;unfold fM;rw[show tP a ((WE h g q p o (.val (.lst P)) n j (.val x) i c f b).set 11 (.val y))=_ from I];exact J
theorem M4(b:List Int):sP a [bM b]=.ok (.val (.bl ae)) [bM b]:=by
 obtain⟨w,l0,l,hy0,I,w4,g0,hs0,hv⟩:=Nz (a:=a) b [] (by simp);obtain⟨ls,g,T,hw3⟩:=Pq b l g0 hs0;have hf:=g.few;have X:ls.length<=9:=hf;have hno:∀{x:PV},f9 ls x->et w ls=[]:=λ{x} h=>by
  obtain⟨v,rfl⟩:∃v,w=v+1:=⟨w-1,∅⟩
  have:=Kw g.some g.len h;rw[Gn I g T]at this;simpa using this
 have e2:aT 2 (aL (aB (ql a) (gV (dV 0) (gO 1 (gV (dC (.int 8)) (Pu.br)))))) (WE b [] .none .none .none .none .none .none .none .none .none .none .none)=.ok .next (WE b l (.val (aE w l0)) .none .none .none .none .none .none .none .none .none .none):=fL (j4 (lj rfl rfl (bE _ _) hv));have e4:kG 3 4 (dV 2) (WE b l (.val (aE w ls)) .none .none .none .none .none .none .none .none .none .none)=.ok .next (WE b l (.val (aE w ls)) (⇑w) (.val (.tup (ai ls))) .none .none .none .none .none .none .none .none):=by simp[kG,dV,aE,WE,R.bind]
 have qj:nL [.lst (ai (ht ls))]=aa (.lst (ai (cS ls))):=by
  show(jn (ai (ht ls))).bind _=_;have hu:(fu (ht ls)).length<60:=by have:=FI (ht ls);unfold ht at this ⊢;rw[c_,b0,b0]at this;lia
  have cy:ht ls≠[]:=λz=>by have:=congrArg n9 z;have:=g.some;unfold ht at *;simp at *;simp_all
  rw[vN,lO,if_pos ⟨cy,hu⟩,Ml]
 have e5:z5 (WE b l (.val (aE w ls)) (⇑w) (.val (.tup (ai ls))) .none .none .none .none .none .none .none .none)=.ok .next (WE b l (.val (aE w ls)) (⇑w) (.val (.tup (ai ls))) (.val (.lst (ai (cS ls)))) .none .none .none .none .none .none .none):=fL (qZ (cF (bY (yH ∅ (xL rfl)) cB) qj));have c6:=jN (ε:=WE b l (.val (aE w ls)) (⇑w) (.val (.tup (ai ls))) (.val (.lst (ai (cS ls)))) .none .none .none .none .none .none .none) (cap:=[4]) (dt:=bV) (de:=dL cx (ao (dV 0) (ao (aL (aB (jD a) (gV (dV 1) (gV (dV 0) (Pu.br))))) (ar)))) (λ_=>ae) (jj ls) (qN (i:=5) rfl) (λx s=>by obtain⟨y,_,rfl⟩:=kN s;exact⟨iw rfl rfl,λ_=>iw rfl (cF (bY (aG rfl) (bY (lD (aG rfl) (aG rfl) (xg y)) cB)) rfl)⟩);rw[km.mpr (λ_ _=>rfl)]at c6;have e6:z6 a (WE b l (.val (aE w ls)) (⇑w) (.val (.tup (ai ls))) (.val (.lst (ai (cS ls)))) .none .none .none .none .none .none .none)=.ok .next (WE b l (.val (aE w ls)) (⇑w) (.val (.tup (ai ls))) (.val (.lst (ai (cS ls)))) (.val (.lst ((ai (cS ls)).map (jj ls)))) .none .none .none .none .none .none):=fL c6;obtain⟨c,O⟩:∃c,c=(ai (cS ls)).map (jj ls):=⟨_,rfl⟩
 rw[<-O]at e6;have c7:=jN (ε:=WE b l (.val (aE w ls)) (⇑w) (.val (.tup (ai ls))) (.val (.lst (ai (cS ls)))) (.val (.lst c)) .none .none .none .none .none .none) (cap:=[]) (dt:=dB (d2 (Pu.eqT ae) (d2 aF (dV 0) (dC (.int 1))) (dC (.int 0)))) (de:=dV 0) Cw id (qN (i:=6) rfl) (λx s=>by rw[O]at s;obtain⟨z,hz,rfl⟩:=cp.mp s;obtain⟨y,_,rfl⟩:=kN hz;exact⟨nH (bW (bi (bi (aG rfl) (bE _ _) (kr _ _ _)) (bE _ _) (iW ae _ 0))),λ_=>nH rfl⟩);rw[B4,O,Mn,<-O]at c7;have e7:z7 a (WE b l (.val (aE w ls)) (⇑w) (.val (.tup (ai ls))) (.val (.lst (ai (cS ls)))) (.val (.lst c)) .none .none .none .none .none .none)=.ok .next (WE b l (.val (aE w ls)) (⇑w) (.val (.tup (ai ls))) (.val (.lst (ai (cS ls)))) (.val (.lst c)) .none .none .none .none .none .none):=dU (bW (bi (Gr (aG rfl) (Na I w4 g T)) c7 (Jn ls)));have e8:z8 a (WE b l (.val (aE w ls)) (⇑w) (.val (.tup (ai ls))) (.val (.lst (ai (cS ls)))) (.val (.lst c)) .none .none .none .none .none .none)=.ok .next (WE b l (.val (aE w ls)) (⇑w) (.val (.tup (ai ls))) (.val (.lst (ai (cS ls)))) (.val (.lst c)) (.val (.bl (decide (et w ls=[])))) .none .none .none .none .none):=by have:=A1 aj (et w ls) [];rw[gP]at this;exact fL (bi (Gr (aG rfl) (Oc g I w4 T)) (qZ (cF (f:=cH) cB rfl)) this)
 obtain⟨pv,hbar,hpv⟩:=Mb (a:=a) I w4 g T;have e9:z9 a (WE b l (.val (aE w ls)) (⇑w) (.val (.tup (ai ls))) (.val (.lst (ai (cS ls)))) (.val (.lst c)) (.val (.bl (decide (et w ls=[])))) .none .none .none .none .none)=.ok .next (WE b l (.val (aE w ls)) (⇑w) (.val (.tup (ai ls))) (.val (.lst (ai (cS ls)))) (.val (.lst c)) (.val (.bl (decide (et w ls=[])))) (.val pv) .none .none .none .none):=fL (t5 (aG rfl) hbar);have e10:aV (De a) (aW (dC (.bl aj))) (bh) (WE b l (.val (aE w ls)) (⇑w) (.val (.tup (ai ls))) (.val (.lst (ai (cS ls)))) (.val (.lst c)) (.val (.bl (decide (et w ls=[])))) (.val pv) .none .none .none .none)=.ok .next (WE b l (.val (aE w ls)) (⇑w) (.val (.tup (ai ls))) (.val (.lst (ai (cS ls)))) (.val (.lst c)) (.val (.bl (decide (et w ls=[])))) (.val pv) .none .none .none .none):=by
  refine dU ?_;rcases hpv with⟨rfl,h⟩|⟨h,h0⟩
  .rw[decide_eq_false h];exact dm (bW (bi (bi (aG rfl) (bE _ _) rfl) (aG rfl) (xo ae _ _))) (vW (bW (aG rfl)))
  .rw[decide_eq_true h0];obtain⟨b1,M,i1⟩:=Eu (a:=a) I g (k:=0) ∅ (Aw X h);obtain⟨b2,L,i2⟩:=EC (a:=a) I w4 g T (Aw X h);rw[i1.mpr h]at M;rw[i2.mpr h]at L;exact dm (bW (bi (bi (aG rfl) (bE _ _) (Px h).2) (aG rfl) (xo ae _ _))) (oS (bW (aG rfl)) (dm (not_of (bW (lD (aG rfl) (aG rfl) M))) (bW (bi (lD (aG rfl) (aG rfl) L) (bE _ _) (xo ae ae ae)))))
 obtain⟨N,hN⟩:∃N,N=decide (et w ls=[]):=⟨_,rfl⟩
 rw[<-hN]at e8 e9 e10;have bH:aS [.tup (ai ls)]=aa (.int (ls.length:Nat)):=by show aa (PV.int ((ai ls).length:Nat))=_;rw[fI]
 obtain⟨d,hq,Ir⟩:=AL (a:=a) b (ε:=WE b l (.val (aE w ls)) (⇑w) (.val (.tup (ai ls))) (.val (.lst (ai (cS ls)))) (.val (.lst c)) (.val (.bl N)) (.val pv) .none .none .none .none) rfl (cg ls.length) l [] (by rw[om];lia) (by simp[WE]);obtain⟨B,vk⟩:∃B,B=l++cr (cg ls.length).length (PV.int 0):=⟨_,rfl⟩
 rw[<-vk]at Ir;have hy1l:B.length<=120:=by rw[vk,c_,List.length_replicate,om];lia
 have e11:GG a (WE b l (.val (aE w ls)) (⇑w) (.val (.tup (ai ls))) (.val (.lst (ai (cS ls)))) (.val (.lst c)) (.val (.bl N)) (.val pv) .none .none .none .none)=.ok .next (WE b B (.val (aE w ls)) (⇑w) (.val (.tup (ai ls))) (.val (.lst (ai (cS ls)))) (.val (.lst c)) (.val (.bl N)) (.val pv) (.val (.tup (d.map ba))) .none .none .none):=by refine fL (cF (bY (x:=.lst (d.map ba)) (ε1:=WE b B (.val (aE w ls)) (⇑w) (.val (.tup (ai ls))) (.val (.lst (ai (cS ls)))) (.val (.lst c)) (.val (.bl N)) (.val pv) .none .none .none .none) (qZ ?_) cB) rfl);unfold bI;rw[cF (bY (cF (bY (aG (i:=4) rfl) cB) bH) cB) (mG (n:=ls.length) ∅),R.bind_ok,ui];have:=Ir;rw[i_]at this;rw[show jl [0,1] (pD a) (dV 0) ((cg ls.length).map ba) [] (WE b l (.val (aE w ls)) (⇑w) (.val (.tup (ai ls))) (.val (.lst (ai (cS ls)))) (.val (.lst c)) (.val (.bl N)) (.val pv) .none .none .none .none)=_ from this];rfl
 rw[om]at hq;have J:0<(ai (cS ls)).length:=by
  rw[fI];obtain⟨x,r,rfl⟩:∃x r,ls=x::r:=by
   have:=g.some;cases ls with
   |nil=>simp at this
   |cons x r=>exact⟨x,r,rfl⟩
  have:x.dropLast∈cS (x::r):=(fZ _).mem_iff.mpr ((mf _ _).mpr (by unfold eM;simp));exact Ib this
 have C:∀y∈ai (cS ls),l_ y:=λy G=>by obtain⟨z,_,rfl⟩:=kN G;exact trivial
 have Q:(ai (cS ls)).length<=100:=by rw[fI];unfold cS;rw[Au];have:=GM (ls:=ls) ∅;lia
 obtain⟨P,hP⟩:∃P,P=ai (cS ls):=⟨_,rfl⟩
 rw[<-hP]at J C Q e5 e6 e7 e8 e9 e10 e11;obtain⟨u1,hu1,hk1⟩:=mH (a:=a) b B P ∅ J;obtain⟨u2,hu2,Y⟩:=mH (a:=a) b (B++[.int 0]) P (by simp;lia) J;obtain⟨u3,hu3,vh⟩:=mH (a:=a) b (B++[.int 0]++[.int 0]) P (by simp;lia) J;obtain⟨H,hy2⟩:∃H,H=B++[PV.int 0]:=⟨_,rfl⟩
 rw[<-hy2]at hk1 Y vh;obtain⟨y3,hy3⟩:∃y3,y3=H++[PV.int 0]:=⟨_,rfl⟩
 rw[<-hy3]at Y vh;obtain⟨u,hy4⟩:∃u,u=y3++[PV.int 0]:=⟨_,rfl⟩
 rw[<-hy4]at vh;have l4:u.length<=130:=by rw[hy4,hy3,hy2];simp;lia
 have t:∀{x},l_ x->Pl 9 1 x:=λ{x} h=>by cases x <;> first|exact h.elim|exact h
 obtain⟨D,hD⟩:∃D,D=[PV.tup [.str more,u1],.tup [.str apart,.tup (d.map ba)]]:=⟨_,rfl⟩
 have e12:AM a (WE b B (.val (aE w ls)) (⇑w) (.val (.tup (ai ls))) (.val (.lst P)) (.val (.lst c)) (.val (.bl N)) (.val pv) (.val (.tup (d.map ba))) .none .none .none)=.ok .next (WE b H (.val (aE w ls)) (⇑w) (.val (.tup (ai ls))) (.val (.lst P)) (.val (.lst c)) (.val (.bl N)) (.val pv) (.val (.tup (d.map ba))) (.own (.lst D)) .none .none):=by have hp:pk a (dV 5) (WE b B (.val (aE w ls)) (⇑w) (.val (.tup (ai ls))) (.val (.lst P)) (.val (.lst c)) (.val (.bl N)) (.val pv) (.val (.tup (d.map ba))) .none .none .none)=.ok u1 (WE b H (.val (aE w ls)) (⇑w) (.val (.tup (ai ls))) (.val (.lst P)) (.val (.lst c)) (.val (.bl N)) (.val pv) (.val (.tup (d.map ba))) .none .none .none):=j4 (lj (p':=.lst H) rfl rfl (aG rfl) hk1);unfold AM dS;rw[cF (f:=cH) (bY (cF (bY (bE _ _) (bY hp cB)) rfl) (bY (cF (bY (bE _ _) (bY (aG rfl) cB)) rfl) cB)) rfl,hD];rfl
 obtain⟨A,Z⟩:∃A,A=D++[PV.tup [.str AN,u2,u3]]:=⟨_,rfl⟩
 have e13:zc a (WE b H (.val (aE w ls)) (⇑w) (.val (.tup (ai ls))) (.val (.lst P)) (.val (.lst c)) (.val (.bl N)) (.val pv) (.val (.tup (d.map ba))) (.own (.lst D)) .none .none)=.ok .next (WE b u (.val (aE w ls)) (⇑w) (.val (.tup (ai ls))) (.val (.lst P)) (.val (.lst c)) (.val (.bl N)) (.val pv) (.val (.tup (d.map ba))) (.own (.lst A)) .none .none):=by
  have j0:pk a (dV 5) (WE b H (.val (aE w ls)) (⇑w) (.val (.tup (ai ls))) (.val (.lst P)) (.val (.lst c)) (.val (.bl N)) (.val pv) (.val (.tup (d.map ba))) (.own (.lst D)) .none .none)=.ok u2 (WE b y3 (.val (aE w ls)) (⇑w) (.val (.tup (ai ls))) (.val (.lst P)) (.val (.lst c)) (.val (.bl N)) (.val pv) (.val (.tup (d.map ba))) (.own (.lst D)) .none .none):=j4 (lj (p':=.lst y3) rfl rfl (aG rfl) Y);have u7:pk a (dV 5) (WE b y3 (.val (aE w ls)) (⇑w) (.val (.tup (ai ls))) (.val (.lst P)) (.val (.lst c)) (.val (.bl N)) (.val pv) (.val (.tup (d.map ba))) (.own (.lst D)) .none .none)=.ok u3 (WE b u (.val (aE w ls)) (⇑w) (.val (.tup (ai ls))) (.val (.lst P)) (.val (.lst c)) (.val (.bl N)) (.val pv) (.val (.tup (d.map ba))) (.own (.lst D)) .none .none):=j4 (lj (p':=.lst u) rfl rfl (aG rfl) vh);have hd:=cF (f:=cx) (bY (bE (.str [116,119,111]) _) (bY j0 (bY u7 cB))) rfl;have hDl:D.length<bR:=by rw[hD];show 2<bR;decide
  unfold zc iu;rw[show j3 (WE b H (.val (aE w ls)) (⇑w) (.val (.tup (ai ls))) (.val (.lst P)) (.val (.lst c)) (.val (.bl N)) (.val pv) (.val (.tup (d.map ba))) (.own (.lst D)) .none .none) 10=aa D from rfl];simp only[c9,R.bind_ok];rw[hd,R.bind_ok,show j3 (WE b u (.val (aE w ls)) (⇑w) (.val (.tup (ai ls))) (.val (.lst P)) (.val (.lst c)) (.val (.bl N)) (.val pv) (.val (.tup (d.map ba))) (.own (.lst D)) .none .none) 10=aa D from rfl];simp only[c9,R.bind_ok];rw[if_pos hDl,Z];rfl
 have plD:∀x∈A,Pl 9 2 x:=by
  intro x s;rw[Z,hD]at s;simp only[yh,i_,bA,eZ,or_false]at s;rcases s with rfl|rfl|rfl
  .refine⟨by simp,λy G=>?_⟩;simp only[bA,eZ,or_false]at G;rcases G with rfl|rfl
   .exact trivial
   .exact t (C _ hu1)
  .refine⟨by simp,λy G=>?_⟩;simp only[bA,eZ,or_false]at G;rcases G with rfl|rfl
   .exact trivial
   .refine⟨by rw[b0];lia,λz hz=>?_⟩;obtain⟨p,_,rfl⟩:=cp.mp hz;exact trivial
  .refine⟨by simp,λy G=>?_⟩;simp only[bA,eZ,or_false]at G;rcases G with rfl|rfl|rfl
   .exact trivial
   .exact t (C _ hu2)
   .exact t (C _ hu3)
 have D3ne:0<A.length:=by rw[Z];simp
 obtain⟨x,S,j,s,l5,e14⟩:∃x S j,Pl 9 2 x/\S.length<=140/\F_ a (WE b u (.val (aE w ls)) (⇑w) (.val (.tup (ai ls))) (.val (.lst P)) (.val (.lst c)) (.val (.bl N)) (.val pv) (.val (.tup (d.map ba))) (.own (.lst A)) .none .none)=.ok .next (WE b S (.val (aE w ls)) (⇑w) (.val (.tup (ai ls))) (.val (.lst P)) (.val (.lst c)) (.val (.bl N)) (.val x) (.val (.tup (d.map ba))) j .none .none):=by
  have take:∀(yy:List PV),yy.length<=135->∃x,Pl 9 2 x/\aT 8 (pk a (dM 10)) (WE b yy (.val (aE w ls)) (⇑w) (.val (.tup (ai ls))) (.val (.lst P)) (.val (.lst c)) (.val (.bl N)) (.val pv) (.val (.tup (d.map ba))) (.own (.lst A)) .none .none)=.ok .next (WE b (yy++[.int 0]) (.val (aE w ls)) (⇑w) (.val (.tup (ai ls))) (.val (.lst P)) (.val (.lst c)) (.val (.bl N)) (.val x) (.val (.tup (d.map ba))) (.val (.lst A)) .none .none):=λyy hyy=>by obtain⟨x,s,hk⟩:=mH (a:=a) b yy A ∅ D3ne;refine⟨x,plD x s,fL (ε1:=WE b (yy++[.int 0]) (.val (aE w ls)) (⇑w) (.val (.tup (ai ls))) (.val (.lst P)) (.val (.lst c)) (.val (.bl N)) (.val pv) (.val (.tup (d.map ba))) (.val (.lst A)) .none .none) (j4 ?_)⟩;generalize (PV.tup (d.map ba))=Q9;simp[aB,gV,gO,Pu.br,dV,dM,WE,bM]at hk ⊢;simp[hk,R.bind,aO,df,cW,bX,cK,cY]
  have hdr:=kM (a:=a) b u 3 (by decide) ∅;obtain⟨v,v0,v1,hv⟩:=hdr;have K:dB (d2 (Pu.eqT aj) (aL (aB (eO a) (gV (dV 0) (gO 1 (gV (dC (.int 3)) (Pu.br)))))) (dC (.int 0))) (WE b u (.val (aE w ls)) (⇑w) (.val (.tup (ai ls))) (.val (.lst P)) (.val (.lst c)) (.val (.bl N)) (.val pv) (.val (.tup (d.map ba))) (.own (.lst A)) .none .none)=.ok (aj^^decide (v=0)) (WE b (u++[.int 0]) (.val (aE w ls)) (⇑w) (.val (.tup (ai ls))) (.val (.lst P)) (.val (.lst c)) (.val (.bl N)) (.val pv) (.val (.tup (d.map ba))) (.own (.lst A)) .none .none):=bW (bi (j4 (lj (p':=.lst (u++[.int 0])) rfl rfl (bE _ _) hv)) (bE _ _) (iW aj v 0));rcases hpv with⟨rfl,_⟩|⟨h,_⟩
  .obtain⟨x,s,hd⟩:=take u ∅;exact⟨x,_,_,s,by simp;lia,(eL (jS (bW (bi (aG rfl) (bE _ _) rfl)))).trans hd⟩
  .have hnn:lp aj pv .non=aa (.bl aj):=by
    rcases h with⟨p,q,rfl,_⟩|⟨p,rfl,_⟩|⟨y,ps,rfl,_⟩ <;> rfl
   by_cases hv0:v=0
   .rw[decide_eq_true hv0]at K;obtain⟨x,s,hd⟩:=take (u++[.int 0]) (by simp;lia);exact⟨x,_,_,s,by simp;lia,(eL (dm (bW (bi (aG rfl) (bE _ _) hnn)) K)).trans hd⟩
   .rw[decide_eq_false hv0]at K;exact⟨pv,_,_,Aw X h,by simp;lia,dU (dm (bW (bi (aG rfl) (bE _ _) hnn)) K)⟩
 obtain⟨v,v0,v1,hv⟩:=kM (a:=a) b S 3 (by decide) ∅;obtain⟨n,rfl⟩:∃n:Nat,v=n:=⟨v.toNat,∅⟩
 have hn2:n<=2:=∅
 have W:(dE 0 n).length=n:=by simp[dE]
 obtain⟨m',k',E,F,o,k2,k4,fF,oJ⟩:=D7 (a:=a) b C Q (.val (aE w ls)) (⇑w) (.val (.tup (ai ls))) (.val (.lst c)) (.val (.bl N)) (.val (.tup (d.map ba))) j .none (dE 0 n) 9 2 (S++[.int 0]) x .none s ∅ (by rw[W];lia) (by
  rw[W];have:n=0\/n=1\/n=2:=∅
  rcases this with rfl|rfl|rfl <;> decide) (by rw[W];simp;lia)
 have e15:Ep a (WE b S (.val (aE w ls)) (⇑w) (.val (.tup (ai ls))) (.val (.lst P)) (.val (.lst c)) (.val (.bl N)) (.val x) (.val (.tup (d.map ba))) j .none .none)=.ok .next (WE b E (.val (aE w ls)) (⇑w) (.val (.tup (ai ls))) (.val (.lst P)) (.val (.lst c)) (.val (.bl N)) (.val F) (.val (.tup (d.map ba))) j o .none):=by refine JP ?_;unfold cj;rw[cF (bY (j4 (lj (p':=.lst (S++[.int 0])) rfl rfl (bE _ _) hv)) cB) (mG (n:=n) ∅),R.bind_ok];exact oJ
 obtain⟨kk,rfl⟩:∃kk,k'=kk+2:=⟨k'-2,∅⟩
 obtain⟨b1,M,i1⟩:=Eu (a:=a) I g (k:=kk) ∅ fF;obtain⟨b2,L,i2⟩:=EC (a:=a) I w4 g T fF;have hbb:b1=b2:=by cases b1 <;> cases b2 <;> simp_all
 subst hbb;have e16:G6 a (WE b E (.val (aE w ls)) (⇑w) (.val (.tup (ai ls))) (.val (.lst P)) (.val (.lst c)) (.val (.bl N)) (.val F) (.val (.tup (d.map ba))) j o .none)=.ok .next (WE b E (.val (aE w ls)) (⇑w) (.val (.tup (ai ls))) (.val (.lst P)) (.val (.lst c)) (.val (.bl N)) (.val F) (.val (.tup (d.map ba))) j o (.val (.bl b1))):=fL (lD (aG rfl) (aG rfl) L);have e17:aV (Gw a) (aW (dC (.bl aj))) (bh) (WE b E (.val (aE w ls)) (⇑w) (.val (.tup (ai ls))) (.val (.lst P)) (.val (.lst c)) (.val (.bl N)) (.val F) (.val (.tup (d.map ba))) j o (.val (.bl b1)))=.ok .next (WE b E (.val (aE w ls)) (⇑w) (.val (.tup (ai ls))) (.val (.lst P)) (.val (.lst c)) (.val (.bl N)) (.val F) (.val (.tup (d.map ba))) j o (.val (.bl b1))):=by have cy:=xo ae b1 b1;rw[decide_eq_true rfl]at cy;exact dU (dm (bW (bi (aG rfl) (lD (aG rfl) (aG rfl) M) cy)) (not_of (fJ (aG rfl) (yS (m:=0) (k:=0) (x:=.bl b1) trivial))))
 have e18:zw a (WE b E (.val (aE w ls)) (⇑w) (.val (.tup (ai ls))) (.val (.lst P)) (.val (.lst c)) (.val (.bl N)) (.val F) (.val (.tup (d.map ba))) j o (.val (.bl b1)))=.ok (.bl ae) (WE b E (.val (aE w ls)) (⇑w) (.val (.tup (ai ls))) (.val (.lst P)) (.val (.lst c)) (.val (.bl N)) (.val F) (.val (.tup (d.map ba))) j o (.val (.bl b1))):=by
  have hnb:jo (dV 12) (WE b E (.val (aE w ls)) (⇑w) (.val (.tup (ai ls))) (.val (.lst P)) (.val (.lst c)) (.val (.bl N)) (.val F) (.val (.tup (d.map ba))) j o (.val (.bl b1)))=.ok (.bl (!b1)) (WE b E (.val (aE w ls)) (⇑w) (.val (.tup (ai ls))) (.val (.lst P)) (.val (.lst c)) (.val (.bl N)) (.val F) (.val (.tup (d.map ba))) j o (.val (.bl b1))):=rfl;cases b1 with
  |false=>unfold zw jJ;rw[bW hnb];rfl
  |true=>have h0:=hno (i1.mp rfl);have hm:=JN (a:=a) g I w4 T;rw[h0]at hm;rw[h0,decide_eq_true rfl]at hN;subst hN;exact(Ma hnb).trans ((l9 (aG (i:=7) rfl)).trans (bi (t5 (aG (i:=2) rfl) hm) (bE _ _) (iW aj 0 0)))
 have hb:yax a [bM b,.none,.none,.none,.none,.none,.none,.none,.none,.none,.none,.none,.none]=.ok (.ret (.val (.bl ae))) (WE b E (.val (aE w ls)) (⇑w) (.val (.tup (ai ls))) (.val (.lst P)) (.val (.lst c)) (.val (.bl N)) (.val F) (.val (.tup (d.map ba))) j o (.val (.bl b1))):=by rw[OF];refine(aX (show dS 1 (dL cH (ar)) [bM b,.none,.none,.none,.none,.none,.none,.none,.none,.none,.none,.none,.none]=.ok .next (WE b [] .none .none .none .none .none .none .none .none .none .none .none)from rfl)).trans ?_;rw[aX e2,aX hw3,aX e4,aX e5,aX e6,aX e7,aX e8,aX e9,aX e10,aX e11,aX e12,aX e13,aX e14,aX e15,aX e16,aX e17];exact gJ e18
 unfold sP bL bJ;rw[if_pos ⟨rfl,rfl⟩,show yax a ([bM b]++cr 12 .none)=_ from hb];rfl
end
open L2 Pu Sh
def AJ(K:aA)(a:Ad):Bool:=rR K a.SlitError wB "ValueError.__new__" && (t7 a).all (λx=>rR K x wB "ValueError.__new__" && subB K a.SlitError x&&ES K x&&(t7 a).all (λd=>dD K (.ref x) (.ref d) == aa (x == d))&&dD K (.ref x) (.type "ValueError") == aa ae)&&yz K
section
variable{K:aA}{h g:aJ}{i:Str->Option ak}{a:Ad}
theorem Dp(h:AJ K a=ae):rR K a.SlitError wB "ValueError.__new__"=ae/\(∀x∈t7 a,rR K x wB "ValueError.__new__"=ae/\subB K a.SlitError x=ae/\ES K x=ae/\(∀d∈t7 a,dD K (.ref x) (.ref d)=aa (x == d))/\dD K (.ref x) (.type "ValueError")=aa ae)/\yz K=ae:=by unfold AJ at h;simp only[gg,mX,beq_iff_eq,decide_eq_true_eq]at h;obtain⟨⟨j,c⟩,f⟩:=h;exact⟨j,λx b=>⟨(c x b).1.1.1.1,(c x b).1.1.1.2,(c x b).1.1.2,(c x b).1.2,(c x b).2⟩,f⟩
structure Top(K:aA)(a:Ad):Prop where
 yaz:cR K "_law_cell_at" yX
 yaC:cR K "_law_mixed" yD
 yaA:cR K "_law_draw" zP
 yaE:cR K "_law_pick" A3
 yaH:cR K "_law_text" zC
 yaF:cR K "_law_seen" yG
 yaI:cR K "_law_view" zd
 yaD:cR K "_law_more" tf
 yau:cR K "is_whole_number" zi
 yav:cR K "is_width" Bl
 yao:cR K "has_only" v3
 yaw:cR K "is_window" AF
 yag:cR K "are_windows" v5
 yat:cR K "is_view_with" Ax
 yas:cR K "is_view" Aa
 yak:cR K "check_view" Bm
 yam:cR K "excesses" yL
 yah:cR K "balance" vt
 yaJ:cR K "_law_within" xO
 yay:cR K "_law_all" vD
 yaK:cR K "reached_pieces" y8
 yan:cR K "find_bar" tF
 yai:cR K "bar" Bj
 yaB:cR K "_law_is_bar" mF
 yaj:cR K "begins_more" zG
 yaf:cR K "are_unlike_starts" zv
 yae:cR K "are_some_places" uw
 yap:cR K "heads_and_tails" uj
 yad:cR K "are_places_apart" qV
 yar:cR K "is_bar" zh
 yaG:cR K "_law_spoilt" Bk
 yac:cR K "add_endings" zu
 yal:cR K "counted" za
 yaL:cR K "texts" xF
 yaq:cR K "how_many" zJ
 yax:cR K "law" l8
 yaM:fE K dz "all"=aa ah
 yaN:fE K dz "any"=aa ah
 yaO:fE K dz "bool"=aa ah
 yaP:fE K dz "enumerate"=aa ah
 yaQ:fE K dz "int"=aa ah
 yaR:fE K dz "isinstance"=aa ah
 yaS:fE K dz "len"=aa ah
 yaT:fE K dz "list"=aa ah
 yaU:fE K dz "range"=aa ah
 yaV:fE K dz "set"=aa ah
 yaW:fE K dz "sorted"=aa ah
 yaX:fE K dz "str"=aa ah
 yaY:fE K dz "tuple"=aa ah
 yaZ:fE K dz "zip"=aa ah
 ya1:∃t,fE K dz "LETTERS"=aa (aa (.str (tS [97,98,99]) t))
 ya2:∃t,fE K dz "MOST_WINDOWS"=aa (aa (.int 9 t))
 ya3:∃t,fE K dz "WIDEST"=aa (aa (.int 4 t))
 yab:fE K dz "SlitError"=aa (aa (.ref a.SlitError))
 yaa:fE K dz "NoView"=aa (aa (.ref a.NoView))
 ck:AJ K a=ae
 z0:pI K "least_ending"=ah
theorem K6(T:Top K a)(X:K.In g)(G:g.Ns dz i):cX K i g a where
 yaz:=T.yaz.at X G
 yaC:=T.yaC.at X G
 yaA:=T.yaA.at X G
 yaE:=T.yaE.at X G
 yaH:=T.yaH.at X G
 yaF:=T.yaF.at X G
 yaI:=T.yaI.at X G
 yaD:=T.yaD.at X G
 yau:=T.yau.at X G
 yav:=T.yav.at X G
 yao:=T.yao.at X G
 yaw:=T.yaw.at X G
 yag:=T.yag.at X G
 yat:=T.yat.at X G
 yas:=T.yas.at X G
 yak:=T.yak.at X G
 yam:=T.yam.at X G
 yah:=T.yah.at X G
 yaJ:=T.yaJ.at X G
 yay:=T.yay.at X G
 yaK:=T.yaK.at X G
 yan:=T.yan.at X G
 yai:=T.yai.at X G
 yaB:=T.yaB.at X G
 yaj:=T.yaj.at X G
 yaf:=T.yaf.at X G
 yae:=T.yae.at X G
 yap:=T.yap.at X G
 yad:=T.yad.at X G
 yar:=T.yar.at X G
 yaG:=T.yaG.at X G
 yac:=T.yac.at X G
 yal:=T.yal.at X G
 yaL:=T.yaL.at X G
 yaq:=T.yaq.at X G
 yax:=T.yax.at X G
 yaM:=jY X G T.yaM
 yaN:=jY X G T.yaN
 yaO:=jY X G T.yaO
 yaP:=jY X G T.yaP
 yaQ:=jY X G T.yaQ
 yaR:=jY X G T.yaR
 yaS:=jY X G T.yaS
 yaT:=jY X G T.yaT
 yaU:=jY X G T.yaU
 yaV:=jY X G T.yaV
 yaW:=jY X G T.yaW
 yaX:=jY X G T.yaX
 yaY:=jY X G T.yaY
 yaZ:=jY X G T.yaZ
 ya1:=T.ya1.imp λ_ e=>pY X G e
 ya2:=T.ya2.imp λ_ e=>pY X G e
 ya3:=T.ya3.imp λ_ e=>pY X G e
 yab:=pY X G T.yab
 yaa:=pY X G T.yaa
 ya0:=Kh X (pY X G T.yaa) ((Dp T.ck).2.1 a.NoView (by simp[t7])).1
theorem L7{l:BG}{w:bc}{d:ag}(X:K.In h)(G:h.Ns dz i)(b:i "law"=aa (.ref d))(T:Top K a):∃c:iH,(∀(s:aq) (v:ak),BindsTo s c ⟨[v],[]⟩ [("_law_script",v)])/\∀g:aJ,K.In g->g.Ns dz i->kw l.prog w K i g (cz l.prog w) 16 d c ["_law_script"] (cn K (sP a)):=by
 obtain⟨f,oc,u,kV,x,t,A,z,y,r,o,n,m,j⟩:=T.yax;have e:=b.symm.trans (pY X G o);cases e;exact⟨_,λs v=>.of_eq rfl,λg p q=>Nf (K6 T p q) (FY n m j)⟩
theorem Lu{l:BG}{q:bv}{j:List Str}{XP:(Str->Option ak)->aJ->Prop}{o:bc->aJ->Prop}{d:DefRec}{K:Params->aA}(v:l.most=aa 63)(t:d.params.defaults=[])(m:d.name = "law")(y:∀(w:bc) (h:aJ),o w h->(K w.params).In h) {a:Ad} (T:∀w:bc,Top (K w.params) a):PySem.W.WalkO q j XP o l.row.toRowW d [] (λf p=>PySem.call f p) :=
 L2.RY (n:=63) (k:=16) (x:="_law_script") (K:=K) (CX:=λw=>cz l.prog w) (sp:=λw=>cn (K w.params) (sP a)) v (by decide) t ⟨rfl,by decide,by decide⟩ (λw h Y=>⟨y w h Y,λc P e=>by rw[(T w).z0]at e;cases e⟩)
  (λw i E h B G r=>L7 B G (by rw[<-m];exact r) (T w))
  (λw H b u D _ A=>Qb (Pj (Dp (T w).ck).2.2 A) (M4  u))
  (λw H s e C z=>by obtain⟨_,_,_,_,_,_,_,_,_,_,_,f⟩:=z;exact f)
theorem RQ{l:BG}{q:bv}{b:List Str}{XP:(Str->Option ak)->aJ->Prop}{j:bc->aJ->Prop}{d:DefRec}{K:Params->aA}{yab yaa:ag}(o:l.most=aa 63)(n:d.params.defaults=[])(c:d.name = "law")(p:∀(w:bc) (h:aJ),j w h->(K w.params).In h) (T:∀w:bc,Top (K w.params) ⟨yab,yaa,yaa,yaa,yaa,yaa,yaa,yaa,yaa,yaa,yaa,yaa,0,0⟩):PySem.W.WalkO q b XP j l.row.toRowW d [] (λf m=>PySem.call f m):=Lu o n c p T
end
end K04
def PySem.W.Fast.tw5580752059195468985:Nat:=0
def PySem.W.Fast.tw18446499015411545912:Nat:=0
def PySem.W.Fast.tw15946235135214435700:Nat:=0
def PySem.W.Fast.tw11390518816886135958:Nat:=0
def PySem.W.Fast.tw17707832334153014093:Nat:=0
def PySem.W.Fast.tw15113634232521343014:Nat:=0
def PySem.W.Fast.tw13433149524411031890:Nat:=0
def PySem.W.Fast.tw3925519350176795875:Nat:=0
def PySem.W.Fast.tw6958666506839327063:Nat:=0
def PySem.W.Fast.tw18123586749537196459:Nat:=0
def PySem.W.Fast.tw16545668481083859236:Nat:=0
def PySem.W.Fast.tw4591121020722397708:Nat:=0
def PySem.W.Fast.tw9420575161971831587:Nat:=0
def PySem.W.Fast.tw3909537313349972676:Nat:=0
def PySem.W.Fast.tw1587626172883965554:Nat:=0
def PySem.W.Fast.tw7870287610152687586:Nat:=0
def PySem.W.Fast.tw9037691898741047241:Nat:=0
def PySem.W.Fast.tw3490307895889777110:Nat:=0
def PySem.W.Fast.tw4029815937731648870:Nat:=0
def PySem.W.Fast.tw15945194638650519039:Nat:=0
def PySem.W.Fast.tw4859163916007337981:Nat:=0
def PySem.W.Fast.tw14521236162144870928:Nat:=0
def PySem.W.Fast.tw13131841472425395424:Nat:=0
def PySem.W.Fast.tw5975133298348231885:Nat:=0
def PySem.W.Fast.tw717594958718204842:Nat:=0
def PySem.W.Fast.tw9225772579871494876:Nat:=0
def PySem.W.Fast.tw297885554622764265:Nat:=0
def PySem.W.Fast.tw9175131305820060284:Nat:=0
def PySem.W.Fast.tw6905289002550026831:Nat:=0
def PySem.W.Fast.tw3230531928326727099:Nat:=0
def PySem.W.Fast.tw12607835706697013825:Nat:=0
def PySem.W.Fast.tw17908634872052682318:Nat:=0
def PySem.W.Fast.tw2067219068271734422:Nat:=0
def PySem.W.Fast.tw10800174867288189606:Nat:=0
def PySem.W.Fast.tw16936404706945547229:Nat:=0
def PySem.W.Fast.tw2790309939704069575:Nat:=0
def PySem.W.Fast.tw2308708727748034320:Nat:=0
def PySem.W.Fast.tw1114732270063350890:Nat:=0
def PySem.W.Fast.tw7534801439603017190:Nat:=0
def PySem.W.Fast.tw10227991896483339869:Nat:=0
def PySem.W.Fast.tw15780816626210552015:Nat:=0
def PySem.W.Fast.tw17526552011447502388:Nat:=0
def PySem.W.Fast.tw12682127978806059621:Nat:=0
def PySem.W.Fast.tw9204692215401987965:Nat:=0
def PySem.W.Fast.tw12875011269630849526:Nat:=0
def PySem.W.Fast.tw13741471792998138246:Nat:=0
def PySem.W.Fast.tw16975041682596540700:Nat:=0
def PySem.W.Fast.tw16241798227590993361:Nat:=0
def PySem.W.Fast.tw16141582922060710817:Nat:=0
def PySem.W.Fast.tw12515660368380260621:Nat:=0
def PySem.W.Fast.tw17274972902854361649:Nat:=0
def PySem.W.Fast.tw7661899988595665373:Nat:=0
def PySem.W.Fast.tw13242635629477979867:Nat:=0
def PySem.W.Fast.tw3717458797259309322:Nat:=0
def PySem.W.Fast.tw2630231004912961256:Nat:=0
def PySem.W.Fast.tw7046644661380620294:Nat:=0
def PySem.W.Fast.tw13693372022061925067:Nat:=0
def PySem.W.Fast.tw13208578971210212230:Nat:=0
def PySem.W.Fast.tw6159590312477479460:Nat:=0
def PySem.W.Fast.tw18042690417171789650:Nat:=0
open PySem PySem.W PyProof.Rows
set_option maxRecDepth 100000 in
set_option maxHeartbeats 0 in
theorem PySem.Challenge.cw_slitview_k04_whole_bars_holds : PySem.Challenge.rw_slitview_k04_whole_bars.Holds := by
 w_on; o_law; k_head; (case hw=>w_witness2)
 k_fill
 refine' K04.RQ (l:=PySem.Challenge.rw_slitview_k04_whole_bars) rfl rfl rfl (fun w h Y=>PySem.W.kIn_of Y) ?T
 case T =>
  intro w
  refine' { yaz:=?yaz,yaC:=?yaC,yaA:=?yaA,yaE:=?yaE,yaH:=?yaH,yaF:=?yaF,yaI:=?yaI,yaD:=?yaD,yau:=?yau,yav:=?yav,yao:=?yao,yaw:=?yaw,yag:=?yag,yat:=?yat,yas:=?yas,yak:=?yak,yam:=?yam,yah:=?yah,yaJ:=?yaJ,yay:=?yay,yaK:=?yaK,yan:=?yan,yai:=?yai,yaB:=?yaB,yaj:=?yaj,yaf:=?yaf,yae:=?yae,yap:=?yap,yad:=?yad,yar:=?yar,yaG:=?yaG,yac:=?yac,yal:=?yal,yaL:=?yaL,yaq:=?yaq,yax:=?yax,yaM:=?yaM,yaN:=?yaN,yaO:=?yaO,yaP:=?yaP,yaQ:=?yaQ,yaR:=?yaR,yaS:=?yaS,yaT:=?yaT,yaU:=?yaU,yaV:=?yaV,yaW:=?yaW,yaX:=?yaX,yaY:=?yaY,yaZ:=?yaZ,ya1:=?ya1,ya2:=?ya2,ya3:=?ya3,yab:=?yab,yaa:=?yaa,ck:=?ck,z0:=?z0 }
  (case yab=>k_is)
  (case yaa=>k_is)
  (case yaz=>and_intros)
  (case yaC=>and_intros)
  (case yaA=>and_intros)
  (case yaE=>and_intros)
  (case yaH=>and_intros)
  (case yaF=>and_intros)
  (case yaI=>and_intros)
  (case yaD=>and_intros)
  (case yau=>and_intros)
  (case yav=>and_intros)
  (case yao=>and_intros)
  (case yaw=>and_intros)
  (case yag=>and_intros)
  (case yat=>and_intros)
  (case yas=>and_intros)
  (case yak=>and_intros)
  (case yam=>and_intros)
  (case yah=>and_intros)
  (case yaJ=>and_intros)
  (case yay=>and_intros)
  (case yaK=>and_intros)
  (case yan=>and_intros)
  (case yai=>and_intros)
  (case yaB=>and_intros)
  (case yaj=>and_intros)
  (case yaf=>and_intros)
  (case yae=>and_intros)
  (case yap=>and_intros)
  (case yad=>and_intros)
  (case yar=>and_intros)
  (case yaG=>and_intros)
  (case yac=>and_intros)
  (case yal=>and_intros)
  (case yaL=>and_intros)
  (case yaq=>and_intros)
  (case yax=>and_intros)
  (case yaM=>k_is)
  (case yaN=>k_is)
  (case yaO=>k_is)
  (case yaP=>k_is)
  (case yaQ=>k_is)
  (case yaR=>k_is)
  (case yaS=>k_is)
  (case yaT=>k_is)
  (case yaU=>k_is)
  (case yaV=>k_is)
  (case yaW=>k_is)
  (case yaX=>k_is)
  (case yaY=>k_is)
  (case yaZ=>k_is)
  (case ya1=>refine' Pu.RI ?e; (case e=>k_is))
  (case ya2=>refine' Pu.RP ?e; (case e=>k_is))
  (case ya3=>refine' Pu.RP ?e; (case e=>k_is))
  (case ck=>kernel_rfl)
  (case z0=>kernel_rfl)
