import PyProof.Rows.All
import Wide.All
import OpenK.AllK
import Wide.FinOn
import Lean
import PyProof.EqAt
import PyProof.EqKinds
import PyProof.TupleCall
import KE.KIntText
import KE.KDictList
import KE.KDictSum
import PyProof.Rows.Range3
import PyProof.DictWalks
import KE.KMinKey
import KE.KSortTup
import PyProof.EnumStmt
import PyProof.EnumMake
import PyProof.EnumFor
import PyProof.Draws
import PyProof.Rows.TupDisplay
import PyProof.Rows.SumAny
import KE.LcSums
import PyProof.FString5
import PyProof.WalkInts
import PyProof.ZipIter
import PySem.Challenge.RW_slitview_k01_views
noncomputable section
set_option compiler.extract_closed false
local macro_rules | `(tactic| eq_refl) => `(tactic| first | exact Or.inl rfl | exact Or.inr (Or.inl rfl) | exact Or.inr (Or.inr rfl))
local macro_rules | `(∅) => `(by first | lia | omega)
set_option Elab.async false
set_option bootstrap.genMatcherCode false
set_option genSizeOf false
set_option linter.all false
set_option maxRecDepth 100000
local macro_rules | `(tactic| ac_nf) => `(tactic| exact ⟨rfl,rfl,rfl,by decide +kernel,rfl,by decide +kernel,by decide +kernel⟩)
open Option renaming some->aa,none->ac,bind_some->g9,map_some->yh,isSome_iff_exists->BZ,getD_none->HA,map_eq_some_iff->HE,getD_some->Ie
open PySem renaming Addr->ae,Value->ai,Shared->ao,wpAny_bind->aq,wpAny->ax,Expr->az,model->aA,Heap->aD,wpAny_pure->aI,starEach->aL,eval->aQ,World->aS,Stmt->aT,Around->a9,Program->bb,sizeLine->bq,mainGlobals->cq,backTo->cJ,rawInt->dj,wpAny_mono->dw,Scope->dZ,bootBuiltins->d9,compareOp->d_,FuncData->fF,bindArgs->fG,cellsFrom->fH,IsPair->fY,binaryOp->gu,NameKind->gv,wpAny_field->gJ,wpAny_newObj_type->iU,IsPart->jz,Keyword->jA,SetTable->jB,strKind->jC,sizeLine_eq->j2,codeAny->j3,attributeBase->j4,Paired->kG,mem_of_lookup->kJ,getItem->kK,sysModules->lI,swapsWith->lJ,isTrue->mO,codeAny_mono->mR,wpAny_holding->mU,wpAny_call_entry->mV,backToKw->mX,keywordEach->mY,call_meets->mZ,setNext->m_,setField->nc,pyNext->oK,pyIter->oM,wpAny_setField->oR,builtinsNs->pN,wpAny_truthy_bool->pR,foldedSetIterable->rn,wpAny_call->ro,wpAny_callSpecial?_slot->rA,sliceBounds->rD,typeIs_int->rE,valueAt->rG,callerA->rH,relayAll->rK,wpAny_setState_of->rL,wpAny_askSetting->rO,wpAny_seqItems->rP,argBest->rQ,tupleKind->uf,wpAny_Call_Name_kw->ui,wpAny_typeOf->uk,lookup_relabel_local->um,wpAny_rule->uu,codeAny_builtin->uv,pickOrder->uw,assignEach->xV,wpAny_passesOwn->xW,setsByText->yg,wpAny_ite_split->yj,setFlight->ym,wpAny_setField_rec->yt,wpAny_execs_nil->BP,wpAny_execs_cons->BQ,letOwnedTupleGo->BR,behindInMarks->BV,wpAny_loadPart'->B0,subscripted->B4,wpAny_pyIter_list->Ca,plainId_quiet->Ch,firstArgMember->Ci,wpAny_pyIter_tuple->Ck,excClassObj->Cn,wpAny_ite_false->Cp,Within->He,noFill_tuple_add->Hq,wpAny_sequenceKey->Hw,tupleKind_room_in1->HF,checkBuiltinCall->HL,wpAny_isInstance->HM,wpAny_loadPart_at->HS,wpAny_binaryOp_repeat_ref->HU
open Bool renaming true->ah,false->aj,false_ne_true->eQ,and_eq_true->fI,eq_iff_iff->ug,true_and->ur,and_false->ye,eq_false_iff->yq,true_xor->yw,not_true->yx,false_and->BS,or_eq_true->Ce,false_eq_true->Cg,not_false->Cu
open PySem.W renaming Frag->aw,kitOne->cK,nsIn->c5,fnOf->fX,findIn->g7,mg_of->g_,keepIn->iS,mg_none_of->jg,kia_one->kI,emptyDict->oN,excIn->oS,instObj->pM,tabIn->pO,codeIn->pS,InstAt->uh,isFn->xX,mroIn->xY,callWith_K->xZ,lookIn->BW,plainGet->BX,OpenLaw->B8,clsIn->Co,methodObj->Hf,hasDictIn->Hi,plainGet_of->Hj,looks_findIn->Hk,specialIn->Hl,cellsFrom_some->Hn
open List renaming replicate->a8,mem_cons->bV,range->cy,size_toArray->cO,length_map->c0,length_append->dy,getElem?_eq_some_iff->dW,getElem?_eq_getElem->eI,mem_map->eJ,getElem?_set_ne->eP,length_cons->eR,map_map->eU,not_mem_nil->fe,getElem?_set_self->gq,map_cons->gH,append_nil->gI,getElem?_append_left->iy,getElem?_map->iT,length_set->iV,lookup_cons->jf,mem_cons_of_mem->jv,length->jx,length_take->jy,mem_singleton->jD,replicate_succ->j5,find?_cons->j6,all_eq_true->j7,length_drop->kL,map_congr_left->kM,lookup->lK,nil_append->lN,mem_cons_self->mM,mem_append_right->mP,nodup_cons->mS,getElem?_append_right->mT,all_cons->mW,length_nil->m8,getElem?_eq_none->ng,filter_eq_self->nj,mem_append->oJ,flatten_cons->oP,filterMap_cons->pQ,any_cons->pU,length_singleton->pW,all_map->pX,eq_nil_of_length_eq_zero->pY,mem_of_mem_take->p6,dropLast->p9,foldl_cons->rF,take_of_length_le->rJ,getD->uq,flatMap_cons->uz,mem_of_mem_drop->uB,mem_filter->xS,mem_range->xT,of_mem_zip->x6,range_succ->yb,drop_zero->yd,filter_cons->yv,any_eq_true->yz,reverse_cons->B5,map_nil->B6,range_succ_eq_map->B_,map_append->Cb,length_range->Cc,getElem_mem->Cd,length_dropLast->Cs,any_eq_false->Hh,getElem?_take_of_lt->Ho,filterMap_map->Hv,append_assoc->HD,lookup_append->HH,getElem?_range->HI,pairwise_cons->HJ,ext_getElem?->HP,drop_eq_getElem_cons->HQ,drop_length->HR,dropLast_concat->HY,length_eq_zero_iff->HZ,flatMap_nil->H_,contains_iff_mem->Ia,isEmpty_nil->Ib,length_filter_le->Ig,drop_append_of_le_length->RU,findIdx?_eq_some_iff_getElem->RV,count_eq_zero_of_not_mem->R8
open PySem.Heap renaming get?_push_of_some->bp,lt_size->bL,get?_push_size->cD,SameBut->j1,size_push->lL,get?_update_self->oQ,get?_update_other->pV,get?_none_of_le->BO
open Nat renaming le_refl->bv,ne_of_lt->cZ,le_trans->dr,lt_irrefl->fW,lt_of_lt_of_le->g6,ne_of_gt->jc,zero_le->jd,lt_succ_self->jw,lt_succ_of_lt->lM,le_of_eq->mQ,le_of_lt->pP,mul_le_mul->ut,le_succ->ya,sub_self->yr,lt_trans->B7,lt_of_le_of_lt->B9,zero_add->Cq,add_right_comm->HX
open Option.some renaming inj->eG
open Ne renaming symm->eO
open False renaming elim->eT
open PyProof.Rows renaming StrsAre->gK,envOfC->g8,size_push'->j8,AllBare->mL,slot_tuple_getitem->uj,callWith_type1->BU,slicePart_none->B1,subscriptTail->B3,entry_tuple_getitem->Hx,args_tuple_getitem->Hy
open Int renaming toNat_natCast->je,zero_add->rT,emod_lt_of_pos->Ic
open PySem.Str renaming empty->kH,ofString->oO
open PySem.Obj renaming mapFields->nh,data_mapFields->pZ,mapSeq->ul,isFreed_of_fields->yo
open PySem.PassesOwn renaming never->ni
open PySem.Builtin.Tuple renaming tupleExact->pT,tupleItemsOf->Hz
open PySem.Builtin.Slice renaming slicePlaces->rq,sliceApplied->B2,sliceAdjust->Hu
open PySem.SetTable renaming grown->rM,below->RY
open PySem.Heap.SameBut renaming update->rN
open List.cons renaming injEq->rR
open PySem.Value renaming isStrOf->ue
open Array renaming getElem?_eq_some_iff->uo,length_toList->xU,getElem?_eq_getElem->Cj
open PySem.F renaming slot_int_rmul->ux,excBase_ValueError->yu,plainAttrs_list->Cm,slot_tuple_iterator_next->Ct,slot_tuple_add->Hr,entry_tuple_add->Hs,args_tuple_add_2->Ht,slot_dict_get->HG,entry_int_rmul->HV,args_int_rmul_2->HW,slot_tuple_mul->RZ
open PySem.Builtin.SmallTypes renaming nextOf->uy,ownedTupleIsFree->R6,ownedTupleHandOut->R7
open Function renaming comp->uA
open PySem.SeqAt renaming EqAt->x9
open PySem.Builtin.List renaming listTooLong->x_
open PySem.Around renaming under_plainId->yf
open PySem.Calls renaming spliced_cons->BY,spliced_nil->Hm,callWith_builtin->HB,evalArgs_plain->HC
open List.Perm renaming refl->Cf
open Nat.succ renaming inj->Cr
open PySem.Builtin.Str renaming occurrences->Hg
open PyProof.Rows.F renaming plain_set_update_loop->HK,entry_set_update_loop->RX
open PySem.SetTable.below renaming go->HN
open PySem PySem.Spec PyProof.Rows
namespace L2
abbrev aX:=Sum Int Str
def qR:aX->ai->Bool
 |.inl k,v=>Value.isInt k v
 |.inr x,v=>ue x v
def Rs(w:aS):aX->Int
 |.inl k=>hashInt k
 |.inr x=>hashStr w x
theorem mF:∀{k:aX}{v:ai},qR k v=ah->(∃i t,k=Sum.inl i/\v=Value.int i t)\/(∃x t,k=Sum.inr x/\v=Value.str x t)
 |.inl i,v,h=>by obtain⟨t,e⟩:=Value.isInt_shape (k:=i) (v:=v) h;exact .inl ⟨i,t,rfl,e⟩
 |.inr x,v,h=>by obtain⟨t,e⟩:=Value.isStrOf_shape (x:=x) (v:=v) h;exact .inr ⟨x,t,rfl,e⟩
theorem JF(i:Int)(t:Tok):qR (.inl i) (.int i t)=ah:=by simp[qR,Value.isInt]
theorem OX(x:Str)(t:Tok):qR (.inr x) (.str x t)=ah:=by simp[qR,ue]
theorem QK(a b:Int):decide ((Sum.inl a:aX)=Sum.inl b)=(a == b):=by
 by_cases e:a=b
 .subst e;simp
 .have h:¬(Sum.inl a:aX)=Sum.inl b:=λq=>e (Sum.inl.inj q);rw[decide_eq_false h];exact(beq_eq_false_iff_ne.mpr e).symm
theorem Q2(a b:Str):decide ((Sum.inr a:aX)=Sum.inr b)=decide (a=b):=by
 by_cases e:a=b
 .subst e;simp
 .have h:¬(Sum.inr a:aX)=Sum.inr b:=λq=>e (Sum.inr.inj q);rw[decide_eq_false h,decide_eq_false e]
theorem KL(a:Int)(b:Str):decide ((Sum.inl a:aX)=Sum.inr b)=aj:=decide_eq_false (λq=>nomatch q)
theorem La(a:Str)(b:Int):decide ((Sum.inr a:aX)=Sum.inl b)=aj:=decide_eq_false (λq=>nomatch q)
def im(c:bb)(w:aS):PySem.KeyKind c w aX where
 is:=qR
 hash:=Rs w
 inj:=λv a b l f=>by
  rcases mF l with⟨i,t,rfl,rfl⟩|⟨x,t,rfl,rfl⟩
  .rcases mF f with⟨j,u,rfl,e⟩|⟨y,u,rfl,e⟩
   .injection e with e1 _;rw[e1]
   .exact nomatch e
  .rcases mF f with⟨j,u,rfl,e⟩|⟨y,u,rfl,e⟩
   .exact nomatch e
   .injection e with e1 _;rw[e1]
 byValue:=λk v h=>by rcases mF h with⟨i,t,rfl,rfl⟩|⟨x,t,rfl,rfl⟩ <;> rfl
 pyHash:=λd h=>by
  rcases mF d with⟨i,t,rfl,rfl⟩|⟨x,t,rfl,rfl⟩
  .exact wpAny_pyHash_int h
  .exact wpAny_pyHash_str h
 eqBool:=λg d h=>by
  rcases mF g with⟨i,t,rfl,rfl⟩|⟨x,t,rfl,rfl⟩
  .rcases mF d with⟨j,u,rfl,rfl⟩|⟨y,u,rfl,rfl⟩
   .rw[QK]at h;exact wpAny_eqBool_int h
   .rw[KL]at h;exact SeqAt.EqAt.int_str i t y u _ _ _ _ h
  .rcases mF d with⟨j,u,rfl,rfl⟩|⟨y,u,rfl,rfl⟩
   .rw[La]at h;exact SeqAt.EqAt.str_int x t j u _ _ _ _ h
   .rw[Q2]at h;exact wpAny_eqBool_str h
 «strs»:=λk x t v h=>by
  rcases mF h with⟨i,u,rfl,e⟩|⟨y,u,rfl,e⟩
  .exact nomatch e
  .injection e with e1 _;subst e1;cases v <;> rfl
theorem IX(a:bb)(w:aS)(i:Int)(t:Tok):(im a w).is (.inl i) (.int i t)=ah:=JF i t
theorem Lc(a:bb)(w:aS)(x:Str)(t:Tok):(im a w).is (.inr x) (.str x t)=ah:=OX x t
inductive V where
 |non|bl (b:Bool)|int (i:Int)|str (x:Str)|byt (b:Array UInt8)|flt (b:UInt64)|ref (a:ae)|ty (n:String)
 deriving DecidableEq
def RelV:V->ai->Prop
 |.non,u=>u=Value.none
 |.bl b,u=>u=Value.bool b
 |.int i,u=>∃t,u=Value.int i t
 |.str x,u=>∃t,u=Value.str x t
 |.byt b,u=>∃t,u=Value.bytes b t
 |.flt b,u=>∃t,u=Value.float b t
 |.ref a,u=>u=Value.ref a
 |.ty n,u=>u=Value.type n
abbrev bI:List V->List ai->Prop:=kG RelV
theorem bI.length{xs:List V}{us:List ai}(r:bI xs us):xs.length=us.length:=Paired.length r
theorem bI.get:∀{xs:List V}{a:List ai}{i:Nat}{x:V},bI xs a->xs[i]?=aa x->∃u,a[i]?=aa u/\RelV x u
 |_,_,_,_,.nil,e=>by simp at e
 |_,_,0,_,.cons r _,e=>by simp at e;subst e;exact⟨_,rfl,r⟩
 |_,_,i+1,x,.cons _ t,e=>by obtain⟨u,c,b⟩:=bI.get (i:=i) (x:=x) t (by simpa using e);exact⟨u,by simpa using c,b⟩
theorem bI.append:∀{xs a:List V}{c b:List ai},bI xs c->bI a b->bI (xs++a) (c++b)
 |_,_,_,_,.nil,s=>s
 |_,_,_,_,.cons r t,s=>.cons r (bI.append t s)
theorem bI.take:∀{xs:List V}{a:List ai} (n:Nat),bI xs a->bI (xs.take n) (a.take n)
 |_,_,0,_=>.nil
 |_,_,_+1,.nil=>.nil
 |_,_,n+1,.cons r t=>.cons r (bI.take n t)
theorem bI.drop:∀{xs:List V}{a:List ai} (n:Nat),bI xs a->bI (xs.drop n) (a.drop n)
 |_,_,0,r=>r
 |_,_,_+1,.nil=>.nil
 |_,_,n+1,.cons _ t=>bI.drop n t
def lH:Option V->Option ai->Prop
 |some v,aa u=>RelV v u
 |none,ac=>True
 |_,_=>False
def KV{a:Type}:List (a×V)->List (a×ai)->Prop:=kG λ(p:a×V) (q:a×ai)=>p.1=q.1/\RelV p.2 q.2
def kV:aX->V
 |.inl i=>.int i
 |.inr x=>.str x
inductive HO where
 |lst (xs:List V)
 |tup (xs:List V)
 |dK (kvs:List (aX×V))|dT (kvs:List (List aX×V))|dN (kvs:List ((Str×List Str)×V))
 |set (S:Int->Bool) (n:Nat)
 |ins (C dx:ae) (fs:List (Str×V))
 |own (x:ae)
 |xd (fs:List (Str×V))
 |met (f x:ae)
 |rng (lo hi:Int)
 |frz (o:Obj) (u:HO)
 |tbl (q:Str)
 |ext (φ:aD->Prop)
abbrev Hp:=ae->Option HO
def upd(H:Hp)(a:ae)(o:HO):Hp:=λb=>if b=a then aa o else H b
theorem cI{H:Hp}{a:ae}{o:HO}:upd H a o a=aa o:=by unfold upd;rw[if_pos rfl]
theorem bT{H:Hp}{a b:ae}{o:HO}(h:b≠a):upd H a o b=H b:=by unfold upd;rw[if_neg h]
theorem Jg{H:Hp}{a b:ae}{o u:HO}(h:H a=aa o)(c:H b=aa u)(d:o≠u):a≠b:=by intro e;subst e;rw[h]at c;exact d (eG c)
theorem ml{H:Hp}{a b:ae}{o:HO}(h:H a=aa o)(c:H b=ac):a≠b:=by
 intro e;subst e;rw[h]at c;cases c
def Hd(h:aD)(a:ae)(b:Array ai):Prop:=IsTup h a b/\∃o,h.get? a=aa o/\o.dict=ac
theorem Hd.new(h:aD)(its:Array ai):Hd (h.push {cls:=.type "tuple",data:=.seq its}) h.objs.size its:=⟨IsTup.new _ _,_,cD _ rfl,rfl⟩
section
variable(P:bb)(w:aS)
def Kg(k:Str×List Str):Int:=reduceHash (Builtin.Tuple.tupleHashOf [hashStr w k.1,reduceHash (Builtin.Tuple.tupleHashOf (k.2.map (hashStr w)))])
def KO(H:Hp)(k:Str×List Str)(a:ae):Prop:=∃b,H a=aa (.tup [.str k.1,.ref b])/\H b=aa (.tup (k.2.map .str))
def dA(H:Hp)(h:aD)(a:ae):HO->Prop
 |.lst xs=>xs.length<=bq/\∃(d:List ai) (n:Nat),bI xs d/\h.get? a=aa {cls:=.type "list",data:=.seq d.toArray n}
 |.tup xs=>xs.length<=bq/\∃d:List ai,bI xs d/\Hd h a d.toArray
 |.dK b=>b.length<=bq/\(a == lI)=aj/\∃z,KV b z/\h.DictOf (im P w) a z
 |.dT b=>b.length<=bq/\(a == lI)=aj/\∃xs:List (List aX×ae×ai),
   kG (λ(p:List aX×V) (q:List aX×ae×ai)=>p.1=q.1/\H q.2.1=aa (.tup (p.1.map kV))/\RelV p.2 q.2.2) b xs /\
   ∃o i s,h.get? a=aa o/\o.ExactDict/\o.data=.dict i s/\i.toList=xs.map (entryOfKey (uf (im P w)))/\(xs.map (·.1)).Nodup
 |.dN b=>b.length<=bq/\(a == lI)=aj/\∃xs:List ((Str×List Str)×ae×ai),
   kG (λ(p:(Str×List Str)×V) (q:(Str×List Str)×ae×ai)=>p.1=q.1/\KO H p.1 q.2.1/\RelV p.2 q.2.2) b xs /\
   ∃o i s,h.get? a=aa o/\o.ExactDict/\o.data=.dict i s/\i.toList=xs.map (λx=>⟨Kg w x.1,.ref x.2.1,x.2.2⟩)/\(xs.map (·.1)).Nodup
 |.set S n=>h.SetOf (intKind P w) a S n
 |.ins C j fs=>H j=aa (.own a)/\fs.length<=1000/\j≠a/\h.get? a=aa (pM C j) /\
   ∃g,h.Ns1 j g/\(∀f,lH (fs.lookup f) (g f))/\He g (fs.map (·.1))
 |.own _=>∃o,h.get? a=aa o
 |.xd fs=>∃g,h.Ns1 a g/\∀f,lH (fs.lookup f) (g f)
 |.rng D E=>∃t u v,h.get? a=aa {cls:=.type "range",data:=.fields #[.int D t,.int E u,.int 1 v]}
 |.frz o u=>h.get? a=aa o/\dA H h a u
 |.tbl q=>∃m:Array ai,h.get? a=aa {cls:=.none,data:=.fields m}/\TriplesOk m.toList/\∀r y,codeAmong r m.toList=aa y->∃c,y=.ref c/\H c=aa (.own a)/\h.CodeRec y q
 |.met f x=>h.get? a=aa (Hf (.ref f) (.ref x))
 |.ext l=>l h/\(∃o,h.get? a=aa o)/\∀B A:aD,l B->(∀o,B.get? a=aa o->A.get? a=aa o)->l A
def c7(H:Hp)(h:aD):Prop:=∀a o,H a=aa o->dA P w H h a o
end
section
variable{P:bb}{w:aS}{H i:Hp}{h h':aD}{a:ae}{o:HO}
theorem dA.lt(x:dA P w H h a o):a<h.objs.size:=by
 cases o with
 |lst xs=>obtain⟨_,_,_,_,e⟩:=x;exact bL e
 |tup xs=>obtain⟨_,_,_,p,_⟩:=x;exact p.lt
 |dK b=>obtain⟨_,_,_,_,o,_,_,e,_⟩:=x;exact bL e
 |dT b=>obtain⟨_,_,_,_,o,_,_,e,_⟩:=x;exact bL e
 |dN b=>obtain⟨_,_,_,_,o,_,_,e,_⟩:=x;exact bL e
 |set S n=>obtain⟨o,_,_,_,e,_⟩:=x;exact bL e
 |ins C l fs=>obtain⟨_,_,_,e,_⟩:=x;exact bL e
 |own y=>obtain⟨_,e⟩:=x;exact bL e
 |xd fs=>obtain⟨_,⟨_,_,_,e,_⟩,_⟩:=x;exact bL e
 |rng g j=>obtain⟨_,_,_,e⟩:=x;exact bL e
 |frz d u=>obtain⟨e,_⟩:=x;exact bL e
 |tbl q=>obtain⟨_,e,_⟩:=x;exact bL e
 |met f y=>exact bL (show h.get? a=aa _ from x)
 |ext c=>obtain⟨_,⟨_,e⟩,_⟩:=x;exact bL e
theorem Paired.mapP{j g:Type}{F G:j->g->Prop}:∀{d:List j}{c:List g},kG F d c->(∀a b,F a b->G a b)->kG G d c
 |_,_,.nil,_=>.nil
 |_,_,.cons r t,f=>.cons (f _ _ r) (Paired.mapP t f)
theorem dA.stay(x:dA P w H h a o)(k:∀b u,(b=a\/H b=aa (.own a))->h.get? b=aa u->h'.get? b=aa u)(L:∀b,H b=aa (.own a)->i b=aa (.own a)) (J:∀b xs,H b=aa (.tup xs)->i b=aa (.tup xs)):dA P w i h' a o:=by
 induction o with
 |lst xs=>obtain⟨z,s,n,r,e⟩:=x;exact⟨z,s,n,r,k _ _ (.inl rfl) e⟩
 |tup xs=>obtain⟨z,s,r,⟨j,e,c⟩,Q,B,M⟩:=x;exact⟨z,s,r,⟨j,k _ _ (.inl rfl) e,c⟩,Q,k _ _ (.inl rfl) B,M⟩
 |dK A=>obtain⟨z,y,E,r,j,l,m,e,c⟩:=x;exact⟨z,y,E,r,j,l,m,k _ _ (.inl rfl) e,c⟩
 |dT A=>obtain⟨z,y,xs,r,j,l,m,e,c⟩:=x;exact⟨z,y,xs,Paired.mapP r λp q z=>⟨z.1,J _ _ z.2.1,z.2.2⟩,j,l,m,k _ _ (.inl rfl) e,c⟩
 |dN A=>obtain⟨z,y,xs,r,j,l,m,e,c⟩:=x;exact⟨z,y,xs,Paired.mapP r λp q z=>⟨z.1,(let ⟨b,D,h2⟩:=z.2.1;⟨b,J _ _ D,J _ _ h2⟩),z.2.2⟩,j,l,m,k _ _ (.inl rfl) e,c⟩
 |set S n=>obtain⟨j,l,m,t,e,c⟩:=x;exact⟨j,l,m,t,k _ _ (.inl rfl) e,c⟩
 |ins C dx fs=>obtain⟨d,z,T,e,I,⟨G,l,m,B,c⟩,r⟩:=x;exact⟨L _ d,z,T,k _ _ (.inl rfl) e,I,⟨G,l,m,k _ _ (.inr d) B,c⟩,r⟩
 |own y=>obtain⟨j,e⟩:=x;exact⟨j,k _ _ (.inl rfl) e⟩
 |xd fs=>obtain⟨I,⟨G,l,m,e,c⟩,r⟩:=x;exact⟨I,⟨G,l,m,k _ _ (.inl rfl) e,c⟩,r⟩
 |rng lo hi=>obtain⟨t,u,v,e⟩:=x;exact⟨t,u,v,k _ _ (.inl rfl) e⟩
 |frz j u W=>obtain⟨e,q⟩:=x;exact⟨k _ _ (.inl rfl) e,W q⟩
 |tbl q=>
  obtain⟨O,e,t,g⟩:=x;refine⟨O,k a _ (.inl rfl) e,t,λF Z X=>?_⟩;obtain⟨c,rfl,D,M,o,E,N,B,Y,r⟩:=g F Z X;cases B;exact⟨c,rfl,L c D,c,o,E,N,rfl,k c _ (.inr D) Y,r⟩
 |met f y=>have e:h.get? a=aa (Hf (.ref f) (.ref y)):=x;show h'.get? a=aa (Hf (.ref f) (.ref y));exact k a _ (.inl rfl) e
 |ext φ=>obtain⟨p,⟨o,e⟩,K⟩:=x;exact⟨K _ _ p λo q=>k _ _ (.inl rfl) q,⟨o,k _ _ (.inl rfl) e⟩,K⟩
theorem c7.lt(x:c7 P w H h)(e:H a=aa o):a<h.objs.size:=(x a o e).lt
theorem c7.fresh(x:c7 P w H h)(e:h.objs.size<=a):H a=ac:=by
 cases q:H a with
 |none=>rfl
 |some u=>exact absurd (g6 (x.lt q) e) (fW _)
theorem c7.kept(x:c7 P w H h)(k:∀b u,h.get? b=aa u->h'.get? b=aa u):c7 P w H h':=λa o e=>(x a o e).stay (λb u _ q=>k b u q) (λ_ q=>q) λ_ _ q=>q
theorem c7.laid(x:c7 P w H h)(k:∀b u,h.get? b=aa u->h'.get? b=aa u)(g:h.objs.size<=a)(new:dA P w (upd H a o) h' a o):c7 P w (upd H a o) h':=λb u e=>by
 have d:=x.fresh g;by_cases f:b=a
 .subst f;rw[cI]at e;cases e;exact new
 .rw[bT f]at e;exact(x b u e).stay (λc v _ q=>k c v q) (λc q=>by rw[bT (ml q d)];exact q) λc xs q=>by rw[bT (ml q d)];exact q
end
def Rd(H:Hp)(a:ae)(u:HO):Prop:=H a=aa u\/∃o,H a=aa (.frz o u)
theorem Rd.ok{P:bb}{w:aS}{H:Hp}{h:aD}{a:ae}{u:HO}(r:Rd H a u)(x:c7 P w H h):dA P w H h a u:=by
 rcases r with r|⟨o,r⟩
 .exact x a u r
 .obtain⟨_,q⟩:=x a _ r;exact q
def sV:Option HO->Prop
 |some (.lst _)=>True
 |some (.dK _)=>True
 |some (.dT _)=>True
 |some (.dN _)=>True
 |some (.set _ _)=>True
 |some (.ins _ _ _)=>True
 |some (.ext _)=>True
 |_=>False
section
variable{P:bb}{w:aS}{H:Hp}{h a:aD}{x e:ae}{d:HO}
theorem c7.write(ok:c7 P w H h)(i:sV (H x))(o:e=x\/H e=aa (.own x))(k:∀b u,b≠e->h.get? b=aa u->a.get? b=aa u)(p:∃u,a.get? e=aa u)(new:dA P w (upd H x d) a x d):c7 P w (upd H x d) a:=λb u q=>by
 have f:∀c y,H c=aa (.own y)->c≠x:=λc y r z=>by subst z;rw[r]at i;exact i
 have g:∀c xs,H c=aa (.tup xs)->c≠x:=λc xs r z=>by subst z;rw[r]at i;exact i
 by_cases m:b=x
 .subst m;rw[cI]at q;cases q;exact new
 .rw[bT m]at q;by_cases j:b=e
  .have n:H b=aa (.own x):=by
    rcases o with z|z
    .exact absurd (j.trans z) m
    .rw[j];exact z
   rw[q]at n;cases n;obtain⟨v,s⟩:=p;exact⟨v,by rw[j];exact s⟩
  .refine(ok b u q).stay (λc v l r=>k c v ?_ r) (λc r=>by rw[bT (f c b r)];exact r) λc xs r=>by rw[bT (g c xs r)];exact r
   rcases l with rfl|l
   .exact j
   .rintro rfl;rcases o with z|z
    .exact f c b l z
    .rw[l]at z;cases z;exact m rfl
end
structure Un(fs ex:List ae)(H H':Hp)(h h':aD):Prop where
 keep:∀b o,h.get? b=aa o->H b=ac->b∉fs->b∉ex->h'.get? b=aa o
 slot:∀b o,h.get? b=aa o->H b=ac->b∈fs->b∉ex->∃sl,h'.get? b=aa {o with slots:=sl}
 free:∀b o,h.get? b=aa o->H b=ac->b∉ex->H' b=ac
 there:∀b o,h.get? b=aa o->b∉ex->∃o',h'.get? b=aa o'
 tups:∀b xs,H b=aa (.tup xs)->H' b=aa (.tup xs)
 frzs:∀b o u,H b=aa (.frz o u)->H' b=aa (.frz o u)
 tbls:∀b q,H b=aa (.tbl q)->H' b=aa (.tbl q)
section
variable{fs d ex f:List ae}{H g j:Hp}{h c i h':aD}{a x e:ae}{o:HO}
theorem Un.any(u:Un fs ex H g h c){b:ae}{l:Obj}(q:h.get? b=aa l)(n:H b=ac)(m:b∉ex):∃r,c.get? b=aa {l with slots:=r}:=by
 by_cases p:b∈fs
 .exact u.slot b l q n p m
 .exact⟨l.slots,u.keep b l q n p m⟩
theorem Un.kept(k:∀b u,h.get? b=aa u->h'.get? b=aa u):Un fs ex H H h h' :=⟨λb l q _ _ _=>k b l q,λb l q _ _ _=>⟨l.slots,k b l q⟩,λ_ _ _ n _=>n,λb l q _=>⟨l,k b l q⟩,λ_ _ q=>q,λ_ _ _ q=>q,λ_ _ q=>q⟩
theorem Un.refl:Un fs ex H H h h:=Un.kept λ_ _ q=>q
theorem Un.laid(k:∀b u,h.get? b=aa u->h'.get? b=aa u)(m:h.objs.size<=a)(l:H a=ac):Un fs ex H (upd H a o) h h' where
 keep:=λb u q _ _ _=>k b u q
 slot:=λb u q _ _ _=>⟨u.slots,k b u q⟩
 free:=λb u q n _=>by rw[bT (cZ (g6 (bL q) m))];exact n
 there:=λb u q _=>⟨u,k b u q⟩
 tups:=λb xs q=>by rw[bT (ml q l)];exact q
 frzs:=λb u xs q=>by rw[bT (ml q l)];exact q
 tbls:=λb p q=>by rw[bT (ml q l)];exact q
theorem Un.write(l:sV (H x))(y:e=x\/H e=aa (.own x))(k:∀b u,b≠e->h.get? b=aa u->h'.get? b=aa u)(v:∃u,h'.get? e=aa u):Un fs ex H (upd H x o) h h':=by
 have s:∀b,H b=ac->b≠x:=λb n z=>by subst z;rw[n]at l;exact l
 have t:∀b,H b=ac->b≠e:=λb n z=>by
  subst z;rcases y with r|r
  .exact s b n r
  .rw[n]at r;cases r
 have m:∀b u,H b=aa u->¬sV (aa u)->b≠x:=λb u q w z=>by subst z;rw[q]at l;exact w l
 refine⟨λb u q n _ _=>k b u (t b n) q,λb u q n _ _=>⟨u.slots,k b u (t b n) q⟩,λb u q n _=>by rw[bT (s b n)];exact n,λb u q _=>?_,
  λb xs q=>by rw[bT (m b _ q λz=>z)];exact q,λb u xs q=>by rw[bT (m b _ q λz=>z)];exact q,λb A q=>by rw[bT (m b _ q λz=>z)];exact q⟩
 by_cases p:b=e
 .subst p;exact v
 .exact⟨u,k b u p q⟩
end
def wL(h:aD)(H:Hp):List ae:=(cy h.objs.size).filter λa=>(H a).isSome
def my(h:aD)(H:Hp):aD:=PySem.W.hideAll h (wL h H)
theorem IA(h:aD)(H:Hp):(my h H).objs.size=h.objs.size:=PySem.W.hideAll_size _ _
theorem MM{h:aD}{H:Hp}{b:ae}{o:Obj}(e:h.get? b=aa o)(n:H b=ac):(my h H).get? b=aa o :=PySem.W.hideAll_get _ e λa=>by have q:(H b).isSome=ah:=(xS.mp a).2;rw[n]at q;simp at q
theorem RP{h:aD}{H:Hp}{b:ae}{o:Obj}(e:(my h H).get? b=aa o):h.get? b=aa o/\H b=ac:=by
 have a:h.get? b=aa o:=PySem.W.of_hideAll (wL h H) e;refine⟨a,?_⟩;cases q:H b with
 |none=>rfl
 |some x=>
  have c:b∈wL h H:=xS.mpr ⟨xT.mpr (bL a),by simp[q]⟩;have z:(my h H).get? b=ac:=PySem.W.hideAll_none (wL h H) c;rw[z]at e;cases e
def Oz(g h:aD)(L:ae):List (ae×Obj):=(cy h.objs.size).filterMap λa=>if a=L\/(g.get? a).isSome=ah then ac else(h.get? a).map λo=>(a,o)
def rest(g h:aD)(L d:ae):List (ae×Obj):=(Oz g h L).filter λp=>decide (p.1≠d)
structure Mod(K:aw)(mg:Str->Option ai)(base:aD):Prop where
 kin:K.In base
 glob:base.Ns cq mg
 blt:∃mb,base.Ns pN mb/\∀x:Str,x≠"__name__"->mb x=d9 x
 nolimit:base.NoLimit
 bm:∃bm ob,mg "__builtins__"=aa (.ref bm)/\bm≠pN/\base.get? bm=aa ob/\ob.cls=.type "module"/\ob.dict=aa pN/\ob.data=.plain
set_option genInjectivity false in
structure Cx where
 prog:bb
 w:aS
 K:aw
 mg:Str->Option ai
 base:aD
 A:a9
 N:List Str
 s₀:ao
 H₀:Hp
 env:Env
 outer:List Env
 stack:List Env
 ex:List ae
 fn:Str->Bool
 calm:Bool
 pn:List (ae×Obj)
 xe:ai->ao->Prop
def fg(l:List Env):List ae:=l.filterMap (·.frame)
abbrev Cx.fs(X:Cx):List ae:=fg X.outer
def f_(a:dZ)(x:Str):Prop:=a.names.lookup x=aa .local\/a.names.lookup x=aa .cell\/a.names.lookup x=aa .free
def Loc(a:dZ)(x:Str):Prop:=a.names.lookup x=aa .local\/a.names.lookup x=aa .cell
def Look(a:Env)(h:aD)(m:Str->Option ai)(x:Str)(u:ai):Prop :=(a.kindOf x=aa .local/\m x=aa u)\/((a.kindOf x=aa .cell\/a.kindOf x=aa .free)/\∃c,a.cells.lookup x=aa c/\h.IsCell c (aa u))
def Bu:List Str:=["least_ending"]
def vb(K:aw)(H:Hp):Prop:=∀x∈Bu,∀c P,pO K x=aa (c,P)->H P=aa (.tbl (x++".<locals>.<lambda>"))
set_option genInjectivity false in
structure Cx.Ok(X:Cx):Prop where
 mod:Mod X.K X.mg X.base
 kind:X.env.scope.kind=.function
 glob:X.env.globals=cq
 blt:X.env.builtins=pN
 above:X.s₀.heap.objs.size<=X.env.locals
 inj:∀x y c,X.env.cells.lookup x=aa c->X.env.cells.lookup y=aa c->x=y
 has:∀x,(X.env.kindOf x=aa .cell\/X.env.kindOf x=aa .free)->∃c,X.env.cells.lookup x=aa c
 cab:∀x c,X.fn x=ah->X.env.cells.lookup x=aa c->X.s₀.heap.objs.size<=c
 hd:X.calm=ah->X.A.handled=ac
 frames:X.A.frames=aa X.stack
 stk:X.stack=X.outer\/(X.stack=X.env::X.outer/\X.env.frame=aa X.env.locals)
 exf:∀b∈X.ex,b≠X.env.locals/\∀x c,X.env.cells.lookup x=aa c->c≠b
 bs:∀b o,X.base.get? b=aa o->X.s₀.heap.get? b=aa o/\X.H₀ b=ac
 bsz:X.base.objs.size<=X.s₀.heap.objs.size
 noex:∀b o,X.base.get? b=aa o->b∉X.ex
 exfs:∀b∈X.ex,b∉X.fs
 funs:X.s₀.heap.FunFrames X.base X.outer
 frf:∀b∈X.fs,X.H₀ b=ac
 tab:vb X.K X.H₀
structure Inv(X:Cx)(ag:List (ae×Obj))(σ:List (Option V))(H:Hp)(s:ao):Prop where
 ok:X.Ok
 os:s.os=X.s₀.os
 bare:mL s.gens
 base:Un X.fs X.ex X.H₀ H X.s₀.heap s.heap
 loc:∃m,s.heap.Ns X.env.locals m/\∀(i:Nat) (x:Str) (v:V),X.N[i]?=aa x->σ[i]?=aa (aa v)->f_ X.env.scope x->∃u,RelV v u/\Look X.env s.heap m x u
 cell:∀x c,X.env.cells.lookup x=aa c->∃v,s.heap.IsCell c v
 free:H X.env.locals=ac
 freeC:∀x c,X.env.cells.lookup x=aa c->H c=ac
 pin:∀p∈X.pn++ag,s.heap.get? p.1=aa p.2/\H p.1=ac/\p.1≠X.env.locals/\p.1∉X.fs/\∀v,p.2.data≠.cell v
 hok:c7 X.prog X.w H s.heap
 len:σ.length=X.N.length
section
variable{X:Cx}{f:List (ae×Obj)}{g:List (Option V)}{H w:Hp}{s:ao}{h':aD}
theorem Cx.Ok.nofr(ok:X.Ok){b:ae}{o:Obj}(e:X.base.get? b=aa o):b∉X.fs:=λa=>by
 have:=(ok.funs.mem a).1;rw[e]at this;cases this
theorem Inv.bs(I:Inv X f g H s):∀b o,X.base.get? b=aa o->s.heap.get? b=aa o/\H b=ac:=λb o e=>⟨I.base.keep b o (I.ok.bs b o e).1 (I.ok.bs b o e).2 (I.ok.nofr e) (I.ok.noex b o e),I.base.free b o (I.ok.bs b o e).1 (I.ok.bs b o e).2 (I.ok.noex b o e)⟩
theorem Inv.bk(I:Inv X f g H s):∀b o,X.base.get? b=aa o->s.heap.get? b=aa o:=λb o e=>(I.bs b o e).1
theorem Inv.mod(I:Inv X f g H s):Mod X.K X.mg X.base:=I.ok.mod
theorem Inv.kIn(I:Inv X f g H s):X.K.In s.heap:=I.ok.mod.kin.keeps I.bk
theorem Inv.lt(I:Inv X f g H s):X.env.locals<s.heap.objs.size:=let ⟨_,hn,_⟩:=I.loc;hn.lt
theorem Inv.sz(I:Inv X f g H s):X.s₀.heap.objs.size<=s.heap.objs.size:=dr I.ok.above (pP I.lt)
theorem Inv.nofs(I:Inv X f g H s){a:ae}(h:s.heap.objs.size<=a):a∉X.fs:=λc=>by obtain⟨_,o,b,_⟩:=I.ok.funs.mem c;exact absurd (g6 (bL b) (dr I.sz h)) (fW _)
theorem Inv.cne(I:Inv X f g H s):∀x c,X.env.cells.lookup x=aa c->c≠X.env.locals:=λx c e z=>by
 obtain⟨v,o,a,b⟩:=I.cell x c e;obtain⟨m,⟨i,j,l,h,d,_⟩,_⟩:=I.loc;rw[z,h]at a;cases a;rw[d]at b;cases b
theorem Inv.tab(I:Inv X f g H s):vb X.K H:=λx a c P h=>I.base.tbls P _ (I.ok.tab x a c P h)
theorem Inv.funs(I:Inv X f g H s):s.heap.FunFrames X.base X.outer:=by
 have all:∀(l:List Env),(∀b∈fg l,b∈X.fs)->X.s₀.heap.FunFrames X.base l->s.heap.FunFrames X.base l:=by
  intro l
  induction l with
  |nil=>intro _ _;trivial
  |cons u r i=>intro h p;obtain⟨q,⟨L,o,a,n,m,t⟩,j⟩:=p;have d:L∈X.fs:=h L (by unfold fg;rw[pQ,a];exact mM);obtain⟨v,e⟩:=I.base.slot L o m (I.ok.frf L d) d λz=>I.ok.exfs L z d;exact⟨q,⟨L,_,a,n,e,t⟩,i (λb c=>h b (by unfold fg;rw[pQ,a];exact jv _ c)) j⟩
 exact all X.outer (λ_ c=>c) I.ok.funs
theorem Inv.stack(I:Inv X f g H s):s.heap.FunFrames X.base X.stack:=by
 rcases I.ok.stk with e|⟨e,b⟩
 .rw[e];exact I.funs
 .rw[e];obtain⟨m,a,_⟩:=I.loc;refine .cons (by rw[I.ok.kind];decide) b a ?_ I.funs;exact BO (dr I.ok.bsz I.ok.above)
theorem Inv.stkSub(I:Inv X f g H s):∀b∈fg X.stack,b∈X.env.locals::X.fs:=λb a=>by
 rcases I.ok.stk with e|⟨e,c⟩
 .rw[e]at a;exact jv _ a
 .rw[e]at a;unfold fg at a;rw[pQ,c]at a;exact a
theorem Inv.stkFree(I:Inv X f g H s):∀b∈fg X.stack,H b=ac:=λb a=>by
 rcases bV.mp (I.stkSub b a)with e|a
 .rw[e];exact I.free
 .obtain⟨_,o,c,_⟩:=I.ok.funs.mem a;exact I.base.free b o c (I.ok.frf b a) λz=>I.ok.exfs b z a
theorem Inv.step{g':Array GenState}{t':Nat}{d':Drawn}{ch:List ae}(I:Inv X f g H s)(L:∀b∈ch,(b∈X.ex\/X.s₀.heap.objs.size<=b)/\b≠X.env.locals/\(∀x c,X.env.cells.lookup x=aa c->c≠b)/\∀p∈X.pn++f,p.1≠b)(j:∀b o,b≠X.env.locals->b∉X.fs->b∉ch->s.heap.get? b=aa o->H b=ac->h'.get? b=aa o)(A:∀b o,b≠X.env.locals->b∈X.fs->b∉ch->s.heap.get? b=aa o->H b=ac->∃O,h'.get? b=aa {o with slots:=O}) (free:∀b o,b∉ch->s.heap.get? b=aa o->H b=ac->w b=ac)(B:∀b o,b∉ch->s.heap.get? b=aa o->∃J,h'.get? b=aa J)(F:∀b xs,H b=aa (.tup xs)->w b=aa (.tup xs)) (M:∀b o u,H b=aa (.frz o u)->w b=aa (.frz o u)) (G:∀b q,H b=aa (.tbl q)->w b=aa (.tbl q))(ns:∀m,s.heap.Ns X.env.locals m->h'.Ns X.env.locals m) (P:c7 X.prog X.w w h') (hg:mL g'):Inv X f g w {s with heap:=h',gens:=g',drawn:=d',toks:=t'}:=by
 have K:∀b o,X.s₀.heap.get? b=aa o->b≠X.env.locals:=λb o e=>cZ (g6 (bL e) I.ok.above);have y:∀b o,X.s₀.heap.get? b=aa o->b∉X.ex->b∉ch:=λb o e a C=>by
  rcases(L b C).1 with z|z
  .exact a z
  .exact absurd (g6 (bL e) z) (fW _)
 have t:∀x c,X.env.cells.lookup x=aa c->∀v,s.heap.IsCell c v->h'.IsCell c v:=λx c e v ⟨o,E,Q⟩=>by
  have h:c∉ch:=λz=>(L c z).2.2.1 x c e rfl;by_cases Z:c∈X.fs
  .obtain⟨O,q⟩:=A c o (I.cne x c e) Z h E (I.freeC x c e);exact⟨_,q,Q⟩
  .exact⟨o,j c o (I.cne x c e) Z h E (I.freeC x c e),Q⟩
 refine⟨I.ok,I.os,hg,⟨λb o e n C a=>?_,λb o e n C a=>?_,λb o e n a=>?_,λb o e a=>?_,λb xs e=>F b xs (I.base.tups b xs e),λb o xs e=>M b o xs (I.base.frzs b o xs e),λb ps e=>?_⟩,?_,λx c e=>?_,?_,λx c e=>?_,λp Y=>?_,P,I.len⟩
 .exact j b o (K b o e) C (y b o e a) (I.base.keep b o e n C a) (I.base.free b o e n a)
 .obtain⟨O,D⟩:=I.base.slot b o e n C a;obtain⟨N,S⟩:=A b _ (K b o e) C (y b o e a) D (I.base.free b o e n a);exact⟨N,S⟩
 .obtain⟨J,D⟩:=I.base.there b o e a;exact free b J (y b o e a) D (I.base.free b o e n a)
 .obtain⟨J,D⟩:=I.base.there b o e a;exact B b J (y b o e a) D
 .exact G b _ (I.base.tbls b ps e)
 .obtain⟨m,hn,hl⟩:=I.loc;refine⟨m,ns m hn,λi x v D S e3=>?_⟩;obtain⟨u,r,l⟩:=hl i x v D S e3;refine⟨u,r,?_⟩;rcases l with l|⟨k,c,e,z⟩
  .exact .inl l
  .exact .inr ⟨k,c,e,t x c e _ z⟩
 .obtain⟨v,z⟩:=I.cell x c e;exact⟨v,t x c e v z⟩
 .obtain⟨m,⟨o,_,_,E,_⟩,_⟩:=I.loc;exact free _ o (λz=>(L _ z).2.1 rfl) E I.free
 .obtain⟨v,o,E,Q⟩:=I.cell x c e;exact free c o (λz=>(L c z).2.2.1 x c e rfl) E (I.freeC x c e)
 .obtain⟨e,n,W,T,d⟩:=I.pin p Y;have h:p.1∉ch:=λz=>(L p.1 z).2.2.2 p Y rfl;exact⟨j p.1 p.2 W T h e n,free p.1 p.2 h e n,W,T,d⟩
theorem Inv.un{t':Nat}(I:Inv X f g H s)(u:Un X.fs [] H w s.heap h')(a:c7 X.prog X.w w h'):Inv X f g w {s with heap:=h',toks:=t'}:=by
 obtain⟨m,⟨o,y,A,j,r⟩,_⟩:=id I.loc;obtain⟨t,q⟩:=u.any j I.free (by simp);exact I.step (g':=s.gens) (d':=s.drawn) (ch:=[]) (λ_ z=>nomatch z) (λb o _ c _ e n=>u.keep b o e n c (by simp)) (λb o _ c _ e n=>u.slot b o e n c (by simp)) (λb o _ e n=>u.free b o e n (by simp)) (λb o _ e=>u.there b o e (by simp)) u.tups u.frzs u.tbls (λx p=>by
  obtain⟨v,d,h,i,l⟩:=p;rw[j]at i;cases i;exact⟨_,d,h,q,l⟩) a I.bare
theorem Inv.call{g':Array GenState}{t':Nat}{d':Drawn}{ch:List ae}(I:Inv X f g H s)(u:Un (fg X.stack) ch H w s.heap h')(d:c7 X.prog X.w w h')(A:mL g')(l:∀b∈ch,(b∈X.ex\/X.s₀.heap.objs.size<=b)/\b≠X.env.locals/\(∀x c,X.env.cells.lookup x=aa c->c≠b)/\∀p∈X.pn++f,p.1≠b):Inv X f g w {s with heap:=h',gens:=g',drawn:=d',toks:=t'}:=by
 obtain⟨m,⟨o,F,G,t,r⟩,_⟩:=id I.loc;obtain⟨C,h⟩:=u.any t I.free λz=>(l _ z).2.1 rfl;exact I.step (ch:=ch) l (λb o h B a e n=>u.keep b o e n (λz=>(bV.mp (I.stkSub b z)).elim h B) a) (λb o _ _ a e n=>u.any e n a) (λb o a e n=>u.free b o e n a) (λb o a e=>u.there b o e a) u.tups u.frzs u.tbls (λE y=>by
  obtain⟨D,i,j,q,v⟩:=y;rw[t]at q;cases q;exact⟨_,i,j,h,v⟩) d A
theorem Inv.turned{t':Nat}{it:ae}(I:Inv X f g H s)(k:∀b o,b≠it->s.heap.get? b=aa o->h'.get? b=aa o)(j:H it=ac)(h:it≠X.env.locals)(B:it∈X.ex\/X.s₀.heap.objs.size<=it) (A:∀x c,X.env.cells.lookup x=aa c->c≠it) (y:∀p∈X.pn++f,p.1≠it):Inv X f g H {s with heap:=h',toks:=t'}:=by
 have d:∀b u,H b=aa u->b≠it:=λb u e z=>by rw[z,j]at e;cases e
 refine I.step (g':=s.gens) (d':=s.drawn) (ch:=[it]) (λb t=>?_) (λb o _ _ a e _=>k b o (λz=>a (by simp[z])) e) (λb o _ _ a e _=>⟨o.slots,k b o (λz=>a (by simp[z])) e⟩) (λ_ _ _ _ n=>n)
  (λb o a e=>⟨o,k b o (λz=>a (by simp[z])) e⟩) (λ_ _ e=>e) (λ_ _ _ e=>e) (λ_ _ e=>e) (λm l=>?_) (λb u e=>?_) I.bare
 .have e:b=it:=by simpa using t
  subst e;exact⟨B,h,A,y⟩
 .obtain⟨o,C,D,i,r⟩:=l;exact⟨o,C,D,k _ o (eO h) i,r⟩
 .refine(I.hok b u e).stay (λc v a q=>k c v ?_ q) (λ_ q=>q) λ_ _ q=>q;rcases a with z|z
  .rw[z];exact d b u e
  .exact d c _ z
theorem Inv.tok(I:Inv X f g H s)(t:Nat):Inv X f g H {s with toks:=t}:=I.un (h':=s.heap) (t':=t) Un.refl I.hok
theorem Inv.kept{t':Nat}(I:Inv X f g H s)(k:∀b u,s.heap.get? b=aa u->h'.get? b=aa u):Inv X f g H {s with heap:=h',toks:=t'}:=I.un (Un.kept k) (I.hok.kept k)
theorem Inv.laid{a:ae}{o:HO}{t':Nat}(I:Inv X f g H s)(k:∀b u,s.heap.get? b=aa u->h'.get? b=aa u)(c:s.heap.objs.size<=a)(new:dA X.prog X.w (upd H a o) h' a o):Inv X f g (upd H a o) {s with heap:=h',toks:=t'}:=I.un (Un.laid k c (I.hok.fresh c)) (I.hok.laid k c new)
theorem Inv.write{x e:ae}{o:HO}{h:Nat}(I:Inv X f g H s)(c:sV (H x))(d:e=x\/H e=aa (.own x))(k:∀b u,b≠e->s.heap.get? b=aa u->h'.get? b=aa u)(a:∃u,h'.get? e=aa u)(new:dA X.prog X.w (upd H x o) h' x o):Inv X f g (upd H x o) {s with heap:=h',toks:=h}:=I.un (Un.write c d k a) (I.hok.write c d k a new)
theorem Inv.pins_of{a:List (ae×Obj)}(I:Inv X f g H s)(h:∀p∈a,s.heap.get? p.1=aa p.2/\H p.1=ac/\p.1≠X.env.locals/\p.1∉X.fs/\∀v,p.2.data≠.cell v):Inv X a g H s :=⟨I.ok,I.os,I.bare,I.base,I.loc,I.cell,I.free,I.freeC,λp b=>(oJ.mp b).elim (λz=>I.pin p (List.mem_append_left _ z)) (h p),I.hok,I.len⟩
theorem za{N:List Str}(c:N.Nodup){i j:Nat}{x:Str}(a:N[i]?=aa x)(b:N[j]?=aa x):i=j:=by obtain⟨m,h⟩:=dW.mp a;obtain⟨l,d⟩:=dW.mp b;exact(List.getElem_inj c).mp (h.trans d.symm)
theorem Pq{M:Model}{A:a9}{E:ai->ao->Prop}{i:Nat}{x:Str}{v:V}{u:ai}{Q:Unit->ao->Prop}(I:Inv X f g H s)(hN:X.N.Nodup)(S:X.N[i]?=aa x)(D:Loc X.env.scope x)(r:RelV v u)(h:∀s',Inv X f (g.set i (aa v)) H s'->(∃a,j1 a s.heap s'.heap/\(a=X.env.locals\/X.env.cells.lookup x=aa a))->Q () s') (hf:X.fn x=ah\/X.env.scope.names.lookup x=aa .local:=by first|exact .inl rfl|exact .inr rfl|assumption):ax M A (storeName X.env x u) Q E s:=by
 obtain⟨m,hn,hl⟩:=id I.loc;have nq:(X.env.scope.kind == .class||(X.env.scope.kind == .module&&X.env.locals != X.env.globals))=aj:=by rw[I.ok.kind];rfl
 have J:i<g.length:=by rw[I.len];exact(dW.mp S).1
 have cne:=I.cne;have t:∀{a:ae}{h':aD},(∃o,s.heap.get? a=aa o/\H a=ac)->j1 a s.heap h'->c7 X.prog X.w H h':=λ{a h'} ha l b ob e=>by
  obtain⟨_,_,uC⟩:=ha;refine(I.hok b ob e).stay (λc W C q=>(l.2 c ?_).trans q) (λ_ q=>q) λ_ _ q=>q;rintro rfl;rcases C with rfl|C
  .rw[uC]at e;cases e
  .rw[uC]at C;cases C
 rcases D with G|G
 .refine wpAny_storeName_local G hn (λh' uG l=>?_) nq;obtain⟨oL,_,_,rY,_⟩:=id hn;refine h _ ⟨I.ok,I.os,I.bare,⟨λb o e n N D=>?_,λb o e n N D=>?_,I.base.free,λb o e D=>?_,I.base.tups,I.base.frzs,I.base.tbls⟩,⟨_,uG,λj y v' B F e3=>?_⟩,λy c e=>?_,I.free,I.freeC,λp hp=>?_,t ⟨oL,rY,I.free⟩ l,by simpa using I.len⟩ ⟨_,l,.inl rfl⟩
  .exact(l.2 b (cZ (g6 (bL e) I.ok.above))).trans (I.base.keep b o e n N D)
  .obtain⟨sl,B⟩:=I.base.slot b o e n N D;exact⟨sl,(l.2 b (cZ (g6 (bL e) I.ok.above))).trans B⟩
  .obtain⟨o',B⟩:=I.base.there b o e D;exact⟨o',(l.2 b (cZ (g6 (bL e) I.ok.above))).trans B⟩
  .by_cases K:j=i
   .subst K;rw[S]at B;cases B;rw[gq J]at F;cases F;exact⟨u,r,.inl ⟨G,by simp⟩⟩
   .rw[eP (eO K)]at F;obtain⟨u',r',q⟩:=hl j y v' B F e3;refine⟨u',r',?_⟩;rcases q with⟨k,e⟩|⟨k,c,e,z⟩
    .refine .inl ⟨k,?_⟩;have:y≠x:=λe=>K (za hN B (e ▸ S));simp[this,e]
    .exact .inr ⟨k,c,e,z.sameBut l (cne y c e)⟩
  .obtain⟨W,z⟩:=I.cell y c e;exact⟨W,z.sameBut l (cne y c e)⟩
  .obtain⟨e,n,Y,nf,d⟩:=I.pin p hp;exact⟨(l.2 p.1 Y).trans e,n,Y,nf,d⟩
 .have L:X.fn x=ah:=by
   rcases hf with z|z
   .exact z
   .rw[z]at G;cases G
  obtain⟨c,C⟩:=I.ok.has x (.inl G);obtain⟨W,z⟩:=I.cell x c C;refine wpAny_storeName_cell I.ok.kind G C z (λh' iX l=>?_);obtain⟨oc,P,O⟩:=id z;refine h {s with heap:=h'} ⟨I.ok,I.os,I.bare,⟨λb o e n N D=>?_,λb o e n N D=>?_,I.base.free,λb o e D=>?_,I.base.tups,I.base.frzs,I.base.tbls⟩,⟨m,hn.sameBut l (eO (cne x c C)),λj y v' B F e3=>?_⟩,λy Z e=>?_,I.free,I.freeC,λp hp=>?_,t ⟨oc,P,I.freeC x c C⟩ l,by simpa using I.len⟩ ⟨c,l,.inr C⟩
  .exact(l.2 b (cZ (g6 (bL e) (I.ok.cab x c L C)))).trans (I.base.keep b o e n N D)
  .obtain⟨sl,B⟩:=I.base.slot b o e n N D;exact⟨sl,(l.2 b (cZ (g6 (bL e) (I.ok.cab x c L C)))).trans B⟩
  .obtain⟨o',B⟩:=I.base.there b o e D;exact⟨o',(l.2 b (cZ (g6 (bL e) (I.ok.cab x c L C)))).trans B⟩
  .by_cases K:j=i
   .subst K;rw[S]at B;cases B;rw[gq J]at F;cases F;exact⟨u,r,.inr ⟨.inl G,c,C,iX⟩⟩
   .rw[eP (eO K)]at F;obtain⟨u',r',q⟩:=hl j y v' B F e3;refine⟨u',r',?_⟩;rcases q with q|⟨k,Z,e,z'⟩
    .exact .inl q
    .refine .inr ⟨k,Z,e,z'.sameBut l ?_⟩;rintro rfl;exact K (za hN B (I.ok.inj _ _ _ e C ▸ S))
  .by_cases T:Z=c
   .subst T;exact⟨_,iX⟩
   .obtain⟨w2,z2⟩:=I.cell y Z e;exact⟨w2,z2.sameBut l T⟩
  .obtain⟨e,n,Y,nf,d⟩:=I.pin p hp;refine⟨(l.2 p.1 ?_).trans e,n,Y,nf,d⟩;intro q;rw[q,P]at e;have q':oc=p.2:=eG e;exact d W (by rw[<-q'];exact O)
theorem wH{M:Model}{A:a9}{E:ai->ao->Prop}{i:Nat}{x:Str}{v:V}{u:ai}{Q:Unit->ao->Prop}(I:Inv X f g H s)(d:X.N.Nodup)(b:X.N[i]?=aa x)(a:Loc X.env.scope x)(r:RelV v u)(h:∀s',Inv X f (g.set i (aa v)) H s'->Q () s') (c:X.fn x=ah\/X.env.scope.names.lookup x=aa .local:=by first|exact .inl rfl|exact .inr rfl|assumption):ax M A (storeName X.env x u) Q E s :=Pq I d b a r (λs' j _=>h s' j) c
theorem Inv.call'{s':ao}{ch:List ae}(I:Inv X f g H s)(i:s'.os=s.os)(u:Un (fg X.stack) ch H w s.heap s'.heap)(a:c7 X.prog X.w w s'.heap)(j:mL s'.gens)(h:∀b∈ch,(b∈X.ex\/X.s₀.heap.objs.size<=b)/\b≠X.env.locals/\(∀x c,X.env.cells.lookup x=aa c->c≠b)/\∀p∈X.pn++f,p.1≠b):Inv X f g w s':=by obtain⟨h',g',d',t',d⟩:=s';have e:d=s.os:=i;subst e;exact I.call (g':=g') (t':=t') (d':=d') u a j h
end
abbrev XK:=ai->Option ae->Hp->Prop
abbrev St:=List (Option V)
abbrev VK:=V->Hp->Prop
abbrev TE:=St->Hp->VK->Prop
abbrev TT:=St->Hp->(Bool->Hp->Prop)->Prop
abbrev TA:=St->Hp->(List V->Hp->Prop)->Prop
structure lr where
 nx:St->Hp->Prop
 rt:VK
 bk:St->Hp->Prop:=λ_ _=>False
 ct:St->Hp->Prop:=λ_ _=>False
abbrev TS:=lr->St->Hp->Prop
def EP(X:Cx)(d:List (ae×Obj))(b:St)(Q:VK)(u:ai)(c:ao):Prop:=∃v a,Inv X d b a c/\RelV v u/\Q v a
def TP(X:Cx)(f:List (ae×Obj))(c:St)(Q:Bool->Hp->Prop)(b:Bool)(d:ao):Prop:=∃a,Inv X f c a d/\Q b a
def AP(X:Cx)(g:List (ae×Obj))(c:St)(Q:List V->Hp->Prop)(d:List ai)(f:ao):Prop:=∃a b,Inv X g c b f/\bI a d/\Q a b
def SP(X:Cx)(d:List (ae×Obj))(D:lr)(f:Flow)(c:ao):Prop :=
 match f with
 |.next=>∃a b,Inv X d a b c/\D.nx a b
 |.brk=>∃a b,Inv X d a b c/\D.bk a b
 |.cont=>∃a b,Inv X d a b c/\D.ct a b
 |.ret u=>∃v a b,Inv X d a b c/\RelV v u/\D.rt v b
def PE(X:Cx)(e:az)(t:TE):Prop :=
 ∀(b:List (ae×Obj)) (s:ao) (a:St) (H:Hp) (Q:VK),Inv X b a H s->t a H Q->ax (aA X.prog X.w) X.A (aQ e X.env) (EP X b a Q) X.xe s
def PT(X:Cx)(e:az)(t:TT):Prop :=
 ∀(b:List (ae×Obj)) (s:ao) (a:St) (H:Hp) (Q:Bool->Hp->Prop),Inv X b a H s->t a H Q->ax (aA X.prog X.w) X.A (mO e X.env (aQ e X.env)) (TP X b a Q) X.xe s
def PW(X:Cx)(e:az)(t:TT):Prop :=
 ∀(c:Sem ai) (b:List (ae×Obj)) (s:ao) (a:St) (H:Hp) (Q:Bool->Hp->Prop),Inv X b a H s->t a H Q->ax (aA X.prog X.w) X.A (mO e X.env c) (TP X b a Q) X.xe s
def PA(X:Cx)(d:List az)(t:TA):Prop :=
 ∀(b:Pos) (c:List (ae×Obj)) (s:ao) (a:St) (H:Hp) (Q:List V->Hp->Prop),Inv X c a H s->t a H Q->ax (aA X.prog X.w) X.A (spliced (cJ b (aL d X.env))) (AP X c a Q) X.xe s
def PS(X:Cx)(c:aT)(t:TS):Prop :=
 ∀(b:List (ae×Obj)) (s:ao) (a:St) (H:Hp) (D:lr),Inv X b a H s->t D a H->ax (aA X.prog X.w) X.A (exec c X.env) (SP X b D) X.xe s
def lA(X:Cx)(c:List aT)(t:TS):Prop :=
 ∀(b:List (ae×Obj)) (s:ao) (a:St) (H:Hp) (D:lr),Inv X b a H s->t D a H->ax (aA X.prog X.w) X.A (execs c X.env) (SP X b D) X.xe s
theorem bf{b:Type}{t:Sem b}{Q c:b->ao->Prop}{M:Model}{A:a9}{E:ai->ao->Prop}{s:ao}(h:ax M A t Q E s)(d:∀a s,Q a s->c a s):ax M A t c E s:=dw h d λ_ _ x=>x
section
variable{X:Cx}
def GD(i:Nat):TE:=λa H Q=>∃v,a[i]?=aa (aa v)/\Q v H
def tC(v:V):TE:=λ_ H Q=>Q v H
theorem ij{i:Nat}{x:Str}{f:Pos}(p:X.N[i]?=aa x)(j:f_ X.env.scope x)(d:(x==("__debug__":Str))=aj:=by decide)(q:(x==("__classdict__":Str))=aj:=by decide):PE X (.Name x f) (GD i):=by
 intro t s g H Q I h;obtain⟨v,e,h⟩:=h;obtain⟨m,n,o⟩:=I.loc;obtain⟨u,r,l⟩:=o i x v p e j;have b:EP X t g Q u s:=⟨v,H,I,r,h⟩
 rcases l with⟨a,hm⟩|⟨a,c,hc,yA⟩
 .exact wpAny_Name (wpAny_loadName_local I.ok.kind a n hm b) d
 .rcases a with a|a
  .exact wpAny_Name (wpAny_loadName_cell I.ok.kind a hc yA b) d
  .exact wpAny_Name (wpAny_loadName_free I.ok.kind a hc yA b q) d
theorem Q4{i j f}:PE X (.Constant (.int i) j f) (tC (.int i)):=λ_ _ _ H _ I h=>wpAny_Constant_int ⟨.int i,H,I.tok _,⟨_,rfl⟩,h⟩
theorem N3{b j f}:PE X (.Constant (.bool b) j f) (tC (.bl b)):=λ_ _ _ H _ I h=>Constant_bool ⟨.bl b,H,I,rfl,h⟩
theorem Oh{j f}:PE X (.Constant .none j f) (tC .non):=λ_ _ _ H _ I h=>Constant_none ⟨.non,H,I,rfl,h⟩
theorem M0{x j f}:PE X (.Constant (.str x) j f) (tC (.str x)):=λ_ _ _ H _ I h=>Calls.Constant_str ⟨.str x,H,I.tok _,⟨_,rfl⟩,h⟩
def Gl(X:Cx)(x:Str):Prop:=X.env.kindOf x=aa .globalImplicit
theorem pL{E:ai->ao->Prop}{g:List (ae×Obj)}{s:ao}{a:St}{H:Hp}{x:Str}{u:ai}{f:Pos}{Q:ai->ao->Prop}(I:Inv X g a H s)(c:Gl X x)(b:X.mg x=aa u)(h:Q u s)(d:(x==("__debug__":Str))=aj:=by decide):ax (aA X.prog X.w) X.A (aQ (.Name x f) X.env) Q E s :=Calls.Name_function_global I.ok.kind c (Calls.loadGlobal_global (by rw[I.ok.glob];exact I.mod.glob.keeps I.bk) b h) d
theorem qY{E:ai->ao->Prop}{m:List (ae×Obj)}{s:ao}{a:St}{H:Hp}{x:Str}{u:ai}{f:Pos}{Q:ai->ao->Prop}(I:Inv X m a H s)(g:Gl X x)(d:X.mg x=ac)(b:d9 x=aa u)(h:Q u s)(c:x≠"__name__":=by decide) (i:(x==("__debug__":Str))=aj:=by decide):ax (aA X.prog X.w) X.A (aQ (.Name x f) X.env) Q E s:=by obtain⟨n,l,j⟩:=I.mod.blt;exact Calls.Name_function_global I.ok.kind g (Calls.loadGlobal_builtin (by rw[I.ok.glob];exact I.mod.glob.keeps I.bk) d (by rw[I.ok.blt];exact l.keeps I.bk) ((j x c).trans b) h) i
theorem AC{x:Str}{v:V}{u:ai}{f:Pos}(b:Gl X x)(a:X.mg x=aa u)(r:RelV v u)(c:(x==("__debug__":Str))=aj:=by decide):PE X (.Name x f) (tC v) :=λ_ _ _ H _ I h=>pL I b a ⟨v,H,I,r,h⟩ c
theorem Mr{x:Str}{v:V}{u:ai}{f:Pos}(d:Gl X x)(c:X.mg x=ac)(a:d9 x=aa u)(r:RelV v u)(b:x≠"__name__":=by decide)(g:(x==("__debug__":Str))=aj:=by decide):PE X (.Name x f) (tC v) :=λ_ _ _ H _ I h=>qY I d c a ⟨v,H,I,r,h⟩ b g
variable{a b:az}{g p:TE}{f:Pos}
def tB(t:TE):TT:=λd H Q=>t d H λx h=>∃c,x=.bl c/\Q c h
theorem Pz{e:az}{t:TE}(h:PE X e t)(n:∀c,mO e X.env c=(do let v <-c;standAt e.pos;holding [v] (truthy v)):=by intro _;rfl):PT X e (tB t):=by
 intro o s i H Q I m;refine isTrue_plain (bf (h o s i H _ I m) λv w ⟨x,u,r,j,l⟩=>?_) (n _);obtain⟨d,rfl,q⟩:=l;cases j;exact pR ⟨u,r,q⟩
variable{n o:TT}{rest:List az}
def IE(t u:TT):TT:=λd H Q=>t d H λc h=>if c=ah then u d h Q else Q aj h
def JH(t u:TT):TT:=λd H Q=>t d H λc h=>if c=ah then Q ah h else u d h Q
def QO(t:TT):TT:=λd H Q=>t d H λc h=>Q (!c) h
theorem N2(i:PT X a n):PW X (.BoolOp .And [a] f) n:=by
 intro l j s d H Q I h;refine isTrue_and (bf (i j s d H Q I h) λc m e=>?_);cases c with
 |true=>exact isTrue_and_nil e
 |false=>exact e
theorem MG(i:PT X a n):PW X (.BoolOp .Or [a] f) n:=by
 intro l j s d H Q I h;refine isTrue_or (bf (i j s d H Q I h) λc m e=>?_);cases c with
 |false=>exact isTrue_or_nil e
 |true=>exact e
theorem Ms(u:PT X a n)(t:PW X (.BoolOp .And (b::rest) f) o):PW X (.BoolOp .And (a::b::rest) f) (IE n o):=by
 intro q j s d H Q I h;refine isTrue_and (bf (u j s d H _ I h) λc r ⟨m,l,i⟩=>?_);cases c with
 |true=>exact t q j r d m Q l i
 |false=>exact⟨m,l,i⟩
theorem Oc(u:PT X a n)(t:PW X (.BoolOp .Or (b::rest) f) o):PW X (.BoolOp .Or (a::b::rest) f) (JH n o):=by
 intro q j s d H Q I h;refine isTrue_or (bf (u j s d H _ I h) λc r ⟨m,l,i⟩=>?_);cases c with
 |true=>exact⟨m,l,i⟩
 |false=>exact t q j r d m Q l i
theorem KD(i:PT X a n):PT X (.UnaryOp .Not a f) (QO n):=by intro j s d H Q I h;exact isTrue_not (i j s d H (λc l=>Q (!c) l) I h)
def Kw(g p:TE):TE:=λd H Q=>g d H λx h=>∃c,x=.bl c/\if c=ah then p d h Q else Q (.bl aj) h
def Nj(g:TE):TE:=λd H Q=>g d H λx h=>∃c,x=.bl c/\Q (.bl (!c)) h
theorem LA{op}{t:TE}(h:PE X a t):PE X (.BoolOp op [a] f) t:=λi s c H Q I d=>BoolOp_one (h i s c H Q I d)
theorem IP(u:PE X a g)(t:PE X (.BoolOp .And (b::rest) f) p):PE X (.BoolOp .And (a::b::rest) f) (Kw g p):=by
 intro j s i H Q I h;refine BoolOp_and (bf (u j s i H _ I h) λv q ⟨x,m,l,r,d⟩=>?_);obtain⟨c,rfl,d⟩:=d;cases r;refine pR ?_;cases c with
 |true=>exact t j q i m Q l d
 |false=>exact⟨.bl aj,m,l,rfl,d⟩
theorem Qe(l:PE X a g):PE X (.UnaryOp .Not a f) (Nj g):=by
 intro m s i H Q I h;refine UnaryOp_ (bf (l m s i H _ I h) λv t ⟨x,r,q,j,d⟩=>?_);obtain⟨c,rfl,d⟩:=d;cases j;exact not_of (pR ⟨.bl (!c),r,q,rfl,d⟩)
def MQ(t:TT)(g p:TE):TE:=λd H Q=>t d H λc h=>if c=ah then g d h Q else p d h Q
theorem Mw{c:az}(t:PT X c n)(v:PE X a g)(u:PE X b p):PE X (.IfExp c a b f) (MQ n g p):=by
 intro j s i H Q I h;refine wpAny_IfExp (bf (t j s i H _ I h) λd l ⟨r,q,m⟩=>?_);cases d with
 |true=>exact v j l i r Q q m
 |false=>exact u j l i r Q q m
end
def cu(K:aw)(H:Hp)(a:ae)(xs:List V):Prop :=
 Rd H a (.lst xs) \/
  ∃(o:Obj) (b:Array ai) (n:Nat),K.lookup a=aa o/\o.cls=.type "list"/\o.dict=ac/\o.data=.seq b n/\b.size<=bq/\bI xs b.toList
def cG(K:aw)(H:Hp)(a:ae)(xs:List V):Prop :=
 Rd H a (.tup xs) \/
  ∃(o:Obj) (b:Array ai) (n:Nat),K.lookup a=aa o/\o.cls=.type "tuple"/\o.data=.seq b n/\b.size<=bq/\bI xs b.toList
def RT:ai->Option V
 |.none=>aa .non
 |.bool b=>aa (.bl b)
 |.int i _=>aa (.int i)
 |.str x _=>aa (.str x)
 |.bytes b _=>aa (.byt b)
 |.float b _=>aa (.flt b)
 |.ref a=>aa (.ref a)
 |.type n=>aa (.ty n)
 |_=>ac
theorem RelV.abs{x:V}{u:ai}(r:RelV x u):RT u=aa x:=by
 cases x with
 |non=>cases r;rfl
 |bl _=>cases r;rfl
 |int _=>obtain⟨t,rfl⟩:=r;rfl
 |str _=>obtain⟨t,rfl⟩:=r;rfl
 |byt _=>obtain⟨t,rfl⟩:=r;rfl
 |flt _=>obtain⟨t,rfl⟩:=r;rfl
 |ref _=>cases r;rfl
 |ty _=>cases r;rfl
theorem RelV.inj{x y:V}{u:ai}(r:RelV x u)(q:RelV y u):x=y:=eG (r.abs.symm.trans q.abs)
theorem bI.inj:∀{xs a:List V}{b:List ai},bI xs b->bI a b->xs=a
 |_,_,_,.nil,.nil=>rfl
 |_,_,_,.cons r t,.cons d c=>by rw[r.inj d,bI.inj t c]
section
variable{X:Cx}{g:List (ae×Obj)}{c:St}{H:Hp}{s:ao}{a:ae}{b f:List V}
theorem cu.of{K:aw}(h:H a=aa (.lst b)):cu K H a b:=.inl (.inl h)
theorem cG.of{K:aw}(h:H a=aa (.tup b)):cG K H a b:=.inl (.inl h)
theorem Inv.list(I:Inv X g c H s)(h:cu X.K H a b):∃its:List ai,bI b its/\PlainL s.heap a its.toArray/\b.length<=bq:=by
 rcases h with h|⟨o,its,n,i,l,j,d,m,r⟩
 .obtain⟨z,its,n,r,e⟩:=h.ok I.hok;exact⟨its,r,⟨_,n,e,rfl,rfl,rfl⟩,z⟩
 .refine⟨its.toList,r,⟨o,n,I.kIn a o i,l,j,by simpa using d⟩,?_⟩;have e:=r.length;simp only[xU]at e;lia
theorem Inv.tuple(I:Inv X g c H s)(h:cG X.K H a b):∃d:List ai,bI b d/\IsTup s.heap a d.toArray/\b.length<=bq:=by
 rcases h with h|⟨o,d,n,j,l,i,m,r⟩
 .obtain⟨z,d,r,p,_⟩:=h.ok I.hok;exact⟨d,r,p,z⟩
 .refine⟨d.toList,r,⟨o,I.kIn a o j,l,n,by simpa using i⟩,?_⟩;have e:=r.length;simp only[xU]at e;lia
theorem Inv.list_inj(I:Inv X g c H s)(h:cu X.K H a b)(q:cu X.K H a f):b=f:=by
 obtain⟨j,r,⟨o,n,e,_,_,d⟩,_⟩:=I.list h;obtain⟨i,p,⟨t,u,l,_,_,m⟩,_⟩:=I.list q;rw[e]at l;cases l;rw[d]at m;injection m with d1 _;have:j=i:=by simpa using congrArg Array.toList d1
 subst this;exact r.inj p
theorem Inv.tuple_inj(I:Inv X g c H s)(h:cG X.K H a b)(q:cG X.K H a f):b=f:=by
 obtain⟨j,r,⟨o,e,_,n,d⟩,_⟩:=I.tuple h;obtain⟨i,p,⟨t,l,_,u,m⟩,_⟩:=I.tuple q;rw[e]at l;cases l;rw[d]at m;injection m with d1 _;have:j=i:=by simpa using congrArg Array.toList d1
 subst this;exact r.inj p
end
abbrev Cx.wish(X:Cx)(E:ai->ao->Prop):Cx:={X with xe:=E}
abbrev Cx.nox(X:Cx):Cx:=X.wish λ_ _=>False
theorem Cx.Ok.wish{X:Cx}(ok:X.Ok)(E:ai->ao->Prop):(X.wish E).Ok :=⟨ok.mod,ok.kind,ok.glob,ok.blt,ok.above,ok.inj,ok.has,ok.cab,ok.hd,ok.frames,ok.stk,ok.exf,ok.bs,ok.bsz,ok.noex,ok.exfs,ok.funs,ok.frf,ok.tab⟩
theorem Cx.Ok.unwish{X:Cx}{E:ai->ao->Prop}(ok:(X.wish E).Ok):X.Ok :=⟨ok.mod,ok.kind,ok.glob,ok.blt,ok.above,ok.inj,ok.has,ok.cab,ok.hd,ok.frames,ok.stk,ok.exf,ok.bs,ok.bsz,ok.noex,ok.exfs,ok.funs,ok.frf,ok.tab⟩
section
variable{X:Cx}{a:List (ae×Obj)}{b:St}{H:Hp}{s:ao}{E:ai->ao->Prop}
theorem Inv.wish(I:Inv X a b H s)(E:ai->ao->Prop):Inv (X.wish E) a b H s:=⟨I.ok.wish E,I.os,I.bare,I.base,I.loc,I.cell,I.free,I.freeC,I.pin,I.hok,I.len⟩
theorem Inv.unwish(I:Inv (X.wish E) a b H s):Inv X a b H s:=⟨I.ok.unwish,I.os,I.bare,I.base,I.loc,I.cell,I.free,I.freeC,I.pin,I.hok,I.len⟩
theorem SP.unwish{D:lr}{f:Flow}{g:ao}(h:SP (X.wish E) a D f g):SP X a D f g:=by
 cases f with
 |next=>obtain⟨c,d,I,q⟩:=h;exact⟨c,d,I.unwish,q⟩
 |brk=>obtain⟨c,d,I,q⟩:=h;exact⟨c,d,I.unwish,q⟩
 |cont=>obtain⟨c,d,I,q⟩:=h;exact⟨c,d,I.unwish,q⟩
 |ret u=>obtain⟨v,c,d,I,r,q⟩:=h;exact⟨v,c,d,I.unwish,r,q⟩
end
section
variable{X:Cx}{j:aT}{rest:List aT}{t u:TS}{e:az}{i:TE}{g:Pos}
def LX:TS:=λD a H=>D.nx a H
def Kz(t u:TS):TS:=λD a H=>t {D with nx:=u D} a H
theorem Kf:lA X [] LX:=λ_ _ a H _ I h=>BP ⟨a,H,I,h⟩
theorem IZ(m:PS X j t)(l:lA X rest u):lA X (j::rest) (Kz t u):=by
 intro b s c H D I h;refine BQ (bf (m b s c H {D with nx:=u D} I h) λf d q=>?_);cases f with
 |next=>obtain⟨a,o,n,q⟩:=q;exact l b d a o D n q
 |ret v=>exact q
 |brk=>exact q
 |cont=>exact q
theorem J_(b:PS X j t):lA X [j] t:=by
 intro c s a H D I h;refine BQ (bf (b c s a H D I h) λf d q=>?_);cases f with
 |next=>exact BP q
 |ret v=>exact q
 |brk=>exact q
 |cont=>exact q
theorem Inv.quiet{b:List (ae×Obj)}{a:St}{H:Hp}{s:ao}(I:Inv X b a H s):interactive X.env=aj:=by simp[interactive,I.ok.kind]
def NI(i:TE):TS:=λD a H=>i a H λ_ b=>D.nx a b
theorem Ax(d:PE X e i)(c:lJ e ac g.line X.env=pure aj:=by rfl):PS X (.Expr e g) (NI i):=by intro f s a H D I h;exact wpAny_Expr_any (bf (d f s a H _ I h) λv n ⟨x,m,l,o,b⟩=>⟨a,m,l,b⟩) I.quiet c
def Na(i:TE):TS:=λD a H=>i a H D.rt
theorem vE(d:PE X e i):PS X (.Return (aa e) g) (Na i):=by intro f s a H D I h;exact wpAny_Return_some (bf (d f s a H _ I h) λv n ⟨x,m,l,b,c⟩=>⟨x,a,m,l,b,c⟩)
def PQ:TS:=λD _ H=>D.rt .non H
theorem Rj:PS X (.Return ac g) PQ:=λ_ _ a H _ I h=>wpAny_Return_none ⟨.non,a,H,I,rfl,h⟩
def Q_(c:TT)(t u:TS):TS:=λD a H=>c a H λb d=>if b=ah then t D a d else u D a d
theorem Q0{c:az}{a b:List aT}{m:TT}(r:PT X c m)(w:lA X a t)(v:lA X b u):PS X (.If c a b g) (Q_ m t u):=by
 intro l s f H D I h;refine wpAny_If (bf (r l s f H _ I h) λd n ⟨q,p,o⟩=>?_);cases d with
 |true=>exact w l n f q D p o
 |false=>exact v l n f q D p o
end
abbrev TG:=V->St->Hp->(St->Hp->Prop)->Prop
abbrev pD:=List V->St->Hp->(St->Hp->Prop)->Prop
def PG(X:Cx)(a:az)(t:TG):Prop :=
 ∀(d:List (ae×Obj)) (s:ao) (c:St) (H:Hp) (v:V) (u:ai) (Q:St->Hp->Prop),Inv X d c H s->RelV v u->t v c H Q ->
  ax (aA X.prog X.w) X.A (assign a X.env u) (λ_ g=>∃b f,Inv X d b f g/\Q b f) X.xe s
def vB(X:Cx)(h:List az)(t:pD):Prop :=
 ∀(f:List (ae×Obj)) (s:ao) (b:St) (H:Hp) (c:List V) (d:List ai) (Q:St->Hp->Prop),Inv X f b H s->bI c d->t c b H Q ->
  ax (aA X.prog X.w) X.A (assignInOrder ((xV h X.env).map (·.2)) d) (λ_ i=>∃a g,Inv X f a g i/\Q a g) X.xe s
section
variable{X:Cx}{c:Pos}
def C7(i:Nat):TG:=λv a H Q=>Q (a.set i (aa v)) H
theorem xP{i:Nat}{x:Str}(f:X.N.Nodup)(b:X.N[i]?=aa x)(a:Loc X.env.scope x)(d:X.fn x=ah\/X.env.scope.names.lookup x=aa .local:=by first|exact .inl rfl|exact .inr rfl|assumption):PG X (.Name x c) (C7 i):=by intro m s j H v u Q I r h;exact wpAny_assign_Name (wH I f b a r (λl g=>⟨_,H,g,h⟩) d)
def aW:pD:=λb a H Q=>b=[]/\Q a H
def M_(t:TG)(u:pD):pD:=λd b H Q=>∃v r,d=v::r/\t v b H λa f=>u r a f Q
theorem Pa:vB X [] aW:=by
 intro f s a H b d Q I r h;obtain⟨e,h⟩:=h;subst e;cases r;exact assignInOrder_nil ⟨a,H,I,h⟩
theorem G0{e:az}{a:List az}{t:TG}{u:pD}(n:PG X e t)(m:vB X a u)(l:(xV (e::a) X.env).map (·.2)=assign e X.env::(xV a X.env).map (·.2):=by rfl):vB X (e::a) (M_ t u):=by
 intro d s f H w y Q I r h;obtain⟨v,x,o,h⟩:=h;subst o;cases r with
 |cons r i=>rw[l];refine assignInOrder_cons (bf (n d s f H _ _ _ I r h) λ_ g ⟨b,q,p,j⟩=>?_);exact m d g b q _ _ Q p i j
def Pb(K:aw)(n:Nat)(t:pD):TG:=λv b H Q=>∃a xs,v=.ref a/\cG K H a xs/\xs.length=n/\t xs b H Q
theorem Pk{d:List az}{k:Nat}{t:pD}{n:Nat}(y:X.calm=ah)(h:vB X d t)(w:(xV d X.env).length=n:=by rfl) (A:(xV d X.env).findIdx? (·.1)=ac:=by rfl):PG X (.Tuple d k c) (Pb X.K n t):=by
 intro j s g H v u Q I r f;obtain⟨a,xs,B,q,x,f⟩:=f;subst B;cases r;obtain⟨l,i,p,D⟩:=I.tuple q;refine assign_Tuple_tuple (I.ok.hd y) p (by simp[w,<-x,i.length]) A λz m=>?_;have C:Inv X j g H {s with heap:=z}:=I.kept (t':=s.toks) λb o e=>m b o (cZ (bL e)) e;exact h j _ g H xs _ Q C (by simpa using i) f
def Kt(b:TE)(g:TG):TS:=λD a H=>b a H λx d=>g x a d D.nx
theorem GM{i:Nat}{x:Str}{e:az}{b:TE}{a:Pos}(p:X.N.Nodup)(m:X.N[i]?=aa x)(j:Loc X.env.scope x)(o:PE X e b)(l:lJ e (aa (.Name x a)) c.line X.env=pure aj:=by rfl)(n:X.fn x=ah\/X.env.scope.names.lookup x=aa .local:=by first|exact .inl rfl|exact .inr rfl|assumption):PS X (.Assign [.Name x a] e c) (Kt b (C7 i)):=by intro q s d H D I h;refine wpAny_Assign_Name (bf (o q s d H _ I h) λv z ⟨y,u,t,f,g⟩=>?_) l;exact wH t p m j f (λw r=>⟨_,u,r,g⟩) n
end
structure It where
 go:Nat->Hp->Prop
 yld:Nat->Hp->V->Hp->Prop
 stop:Nat->Hp->Prop
def kF(X:Cx)(a:List (ae×Obj))(H:Hp)(b:ae):Prop :=
 H b=ac/\b≠X.env.locals/\b∉X.fs/\(b∈X.ex\/X.s₀.heap.objs.size<=b)/\(∀x c,X.env.cells.lookup x=aa c->c≠b)/\∀p∈X.pn++a,p.1≠b
theorem Inv.fpOk{X:Cx}{d:List (ae×Obj)}{g:St}{H f:Hp}{s:ao}{b:ae}(I:Inv X d g H s)(a:s.heap.objs.size<=b)(i:f b=ac):kF X d f b:=by
 refine⟨i,jc (g6 I.lt a),I.nofs a,.inr (dr I.sz a),λx c e z=>?_,λp h z=>?_⟩
 .obtain⟨v,q⟩:=I.cell x c e;exact absurd (g6 q.lt (by rw[z];exact a)) (fW _)
 .exact absurd (g6 (bL (I.pin p h).1) (by rw[z];exact a)) (fW _)
structure qC(P:bb)(w:aS)(K:aw)(tg:az)(J:It)(fp:List ae)(it:ae)(tn:Nat->aD->Prop):Prop where
 mem:it∈fp
 obj:∀i h,tn i h->∀b∈fp,∃o,h.get? b=aa o/\∀v,o.data≠.cell v
 keep:∀i h h',tn i h->(∀b∈fp,∀o,h.get? b=aa o->h'.get? b=aa o)->tn i h'
 item:∀(X:Cx),X.prog=P->X.w=w->X.K=K->X.calm=ah->∀(i:Nat) (ag:List (ae×Obj)) (s:ao) (σ:St) (H:Hp) (E:ai->ao->Prop),Inv X ag σ H s->(∀b∈fp,kF X ag H b)->tn i s.heap->J.go i H ->
  ax (aA P w) X.A (oK (.ref it)) (λr s1=>∃u,r=aa u /\ ax (aA P w) X.A (BR tg (.ref it) u) (λ_ s2=>∃x H',Inv X ag σ H' s2/\RelV x u/\J.yld i H x H'/\tn (i+1) s2.heap/\∀b∈fp,H' b=ac) E s1) E s
 done:∀(X:Cx),X.prog=P->X.w=w->X.K=K->X.calm=ah->∀(i:Nat) (ag:List (ae×Obj)) (s:ao) (σ:St) (H:Hp) (E:ai->ao->Prop),Inv X ag σ H s->(∀b∈fp,kF X ag H b)->tn i s.heap->J.stop i H ->
  ax (aA P w) X.A (oK (.ref it)) (λr s1=>r=ac/\Inv X ag σ H s1) E s
 self:∀(A:a9) (i:Nat) (s:ao) (Q:ai->ao->Prop) (E:ai->ao->Prop),tn i s.heap->Q (.ref it) s->ax (aA P w) A (oM (.ref it)) Q E s
abbrev TI:=St->Hp->(It->Hp->Prop)->Prop
def vt(X:Cx)(i:List (ae×Obj))(j:St)(l:az)(R:It->Hp->Prop)(a:ai)(f:ao):Prop :=
 ∃(g:ae) (h:List ae) (d:Nat->aD->Prop) (J:It) (c:Hp),a=.ref g/\Inv X i j c f/\qC X.prog X.w X.K l J h g d/\d 0 f.heap/\(∀b∈h,kF X i c b)/\R J c
def PI(X:Cx)(f a:az)(d:TI):Prop :=
 ∀(c:List (ae×Obj)) (s:ao) (b:St) (H:Hp) (R:It->Hp->Prop),Inv X c b H s->d b H R ->
  ax (aA X.prog X.w) X.A (aQ a X.env) (λv g=>ax (aA X.prog X.w) X.A (oM v) (vt X c b f R) X.xe g) X.xe s
theorem vf{M:Model}{A:a9}{E:ai->ao->Prop}{s:ao}{c:az}{d:ae}{u:ai}{o:Obj}{n:String}{b:Array ai}{Q:Unit->ao->Prop}(f:s.heap.get? d=aa o)(j:o.cls=.type n)(i:o.data=.fields b)(g:["enumerate","zip","dict_itemiterator","dict_reverseitemiterator","odict_iterator","itertools.zip_longest","itertools.pairwise"].contains n=aj) (a:Q () s):ax M A (BR c (.ref d) u) Q E s:=by
 unfold BR;cases c <;> first
  |exact aI a
  | (cases u <;> first
    |exact aI a
    | (refine aq (wpAny_load f ?_)
       rw[j,i];show ax M A (if(["enumerate","zip","dict_itemiterator","dict_reverseitemiterator","odict_iterator","itertools.zip_longest","itertools.pairwise"].contains n&&b[0]? == aa (dj _))=ah then _ else _) Q E s;rw[if_neg (by intro h;rw[g,BS]at h;cases h)];exact aI a))
def zg(K:aw)(a:ae):It :=⟨λi H=>∃xs x,cu K H a xs/\xs[i]?=aa x,λi H x b=>b=H/\∀xs,cu K H a xs->xs[i]?=aa x,λi H=>∃xs,cu K H a xs/\xs.length<=i⟩
def AN(K:aw)(a:ae):It :=⟨λi H=>∃xs x,cG K H a xs/\xs[i]?=aa x,λi H x b=>b=H/\∀xs,cG K H a xs->xs[i]?=aa x,λi H=>∃xs,cG K H a xs/\xs.length<=i⟩
def tw(a:Int)(n:Nat):It:=⟨λi _=>i<n,λi H x b=>b=H/\x=.int (a+i),λi _=>n<=i⟩
theorem Nt{P:bb}{w:aS}{K:aw}{O:az}(a g:ae):qC P w K O (zg K a) [g] g (λi h=>h.IsListIter g a i) where
 mem:=by simp
 obj:=λi h f b j=>by
  have e:b=g:=by simpa using j
  subst e;obtain⟨o,e,c,d⟩:=f;exact⟨o,e,λv z=>by rw[d]at z;cases z⟩
 keep:=λi h n f k=>f.at λo e=>k g (by simp) o e
 item:=by intro X B y C M i N s J H E I m f A;subst B y C;obtain⟨xs,x,l,t⟩:=A;obtain⟨r,q,p,T⟩:=I.list l;obtain⟨u,Y,S⟩:=q.get t;obtain⟨G,F,f2,f3,f4,D⟩:=m g (by simp);refine wpAny_pyNext_list_item f p.isList (x:=u) (by simpa using Y) λn L Q=>?_;have I1:Inv X N J H {s with heap:=n}:=I.turned (t':=s.toks) (λb o j e=>(Q.2 b j).trans e) G F f3 f4 D;obtain⟨o,e,c,d⟩:=id L;exact⟨u,rfl,vf (s:={s with heap:=n}) e c d (by decide) ⟨x,H,I1,S,⟨rfl,λys W=>by rw[I.list_inj W l];exact t⟩,L,λb j=>(m b j).1⟩⟩
 done:=by intro X B y C M i N s J H E I m f A;subst B y C;obtain⟨xs,l,t⟩:=A;obtain⟨r,q,p,T⟩:=I.list l;obtain⟨G,F,f2,f3,f4,D⟩:=m g (by simp);have hl:=q.length;exact wpAny_pyNext_list_end (I.ok.hd M) f p.isList (by simp;lia) λn Z=>⟨rfl,I.turned (t':=s.toks) (λb o j e=>Z b o j e) G F f3 f4 D⟩
 self:=λ_ _ _ _ _ f h=>wpAny_pyIter_listiter f h
theorem Qg{P:bb}{w:aS}{K:aw}{O:az}(a j:ae):qC P w K O (AN K a) [j] j (λi h=>h.IsTupleIter j a i) where
 mem:=by simp
 obj:=λi h f b l=>by
  have e:b=j:=by simpa using l
  subst e;obtain⟨o,e,c,d⟩:=f;exact⟨o,e,λv z=>by rw[d]at z;cases z⟩
 keep:=λi h q f k=>f.at λo e=>k j (by simp) o e
 item:=by intro X B y C M i N s J H E I n f A;subst B y C;obtain⟨xs,x,m,t⟩:=A;obtain⟨g,r,p,T⟩:=I.tuple m;obtain⟨u,Y,S⟩:=r.get t;obtain⟨G,F,f2,f3,f4,D⟩:=n j (by simp);refine wpAny_pyNext_tuple_item f (show s.heap.IsTuple a g.toArray from p) (x:=u) (by simpa using Y) λq L Q=>?_;have I1:Inv X N J H {s with heap:=q}:=I.turned (t':=s.toks) (λb o l e=>(Q.2 b l).trans e) G F f3 f4 D;obtain⟨o,e,c,d⟩:=id L;exact⟨u,rfl,vf (s:={s with heap:=q}) e c d (by decide) ⟨x,H,I1,S,⟨rfl,λys W=>by rw[I.tuple_inj W m];exact t⟩,L,λb l=>(n b l).1⟩⟩
 done:=by intro X B y C M i N s J H E I n f A;subst B y C;obtain⟨xs,m,t⟩:=A;obtain⟨g,r,p,T⟩:=I.tuple m;obtain⟨G,F,f2,f3,f4,D⟩:=n j (by simp);have hl:=r.length;exact wpAny_pyNext_tuple_end (I.ok.hd M) f (show s.heap.IsTuple a g.toArray from p) (by simp;lia) λq Z=>⟨rfl,I.turned (t':=s.toks) (λb o l e=>Z b o l e) G F f3 f4 D⟩
 self:=λ_ _ _ _ _ f h=>wpAny_pyIter_tupleiter f h
theorem Mf{P:bb}{w:aS}{K:aw}{G:az}(c:ae)(f:Int)(n:Nat):qC P w K G (tw f n) [c] c (λi h=>IsRangeIter h c (f+(i:Nat)*1) ((n:Int)-(i:Nat)) 1) where
 mem:=by simp
 obj:=λi h a b d=>by
  have e:b=c:=by simpa using d
  subst e;exact⟨_,a,λv z=>by
   have F:Data.fields _=Data.cell v:=z;cases F⟩
 keep:=λi h j a k=>k c (by simp) _ a
 item:=by intro X q l r p i D s A H E I g a m;subst q l r;obtain⟨y,x,f2,f3,f4,u⟩:=g c (by simp);have W:=Walks.range (prog:=X.prog) (w:=X.w) (I.ok.hd p) c f 1 n;refine W.item i s _ _ m a λv j B L C J=>?_;obtain⟨t,rfl⟩:=L;have N:Inv X D A H {s with heap:=j,toks:=B}:=I.turned (λb o d e=>J b o (by simpa using d) e) y x f3 f4 u;refine⟨_,rfl,vf (s:={s with heap:=j,toks:=B}) (n:="range_iterator") C rfl rfl (by decide) ⟨.int (f+i),H,N,⟨t,?_⟩,⟨rfl,rfl⟩,C,λb d=>(g b d).1⟩⟩;rw[Int.mul_one]
 done:=by intro X q l r p i D s A H E I g a m;subst q l r;obtain⟨y,x,f2,f3,f4,u⟩:=g c (by simp);exact wpAny_pyNext_range_end (I.ok.hd p) a (by have:n<=i:=m;lia) λj M=>⟨rfl,I.turned (t':=s.toks) (λb o d e=>M b o d e) y x f3 f4 u⟩
 self:=λ_ _ _ _ _ a h=>wpAny_pyIter_rangeiter a h
section
variable{X:Cx}{c:az}
theorem CS{h:List (ae×Obj)}{f:St}{H:Hp}{s:ao}{R:It->Hp->Prop}{E:ai->ao->Prop}{a d:Int}{t u v:Tok}{g:Nat}(I:Inv X h f H s)(p:-(2^62)<=a)(n:a<2^62)(m:-(2^62)<=d)(l:d<2^62)(q:R (tw a (d-a).toNat) H):ax (aA X.prog X.w) X.A (oM (.ref s.heap.objs.size)) (vt X h f c R) E {s with heap:=s.heap.push {cls:=.type "range",data:=.fields #[.int a t,.int d u,.int 1 v]},toks:=g}:=by
 refine wpAny_pyIter_range (IsRange.new ..) (small_one p n m l) ?_;have i:Inv X h f H {s with heap:=s.heap.push {cls:=.type "range",data:=.fields #[.int a t,.int d u,.int 1 v]},toks:=g}:=I.kept λb o e=>bp _ e;refine⟨(s.heap.push {cls:=.type "range",data:=.fields #[.int a t,.int d u,.int 1 v]}).objs.size,[(s.heap.push {cls:=.type "range",data:=.fields #[.int a t,.int d u,.int 1 v]}).objs.size],_,_,H,rfl,i.kept (t':=g) λb o e=>bp _ e,Mf _ a (d-a).toNat,?_,λb j=>?_,q⟩
 .have w:a+((0:Nat):Int)*1=a:=by simp
  have r:(((d-a).toNat:Nat):Int)-((0:Nat):Int)=Builtin.Range.rangeSize a d 1:=by rw[rangeSize_one];split <;> lia
  show IsRangeIter _ _ (a+((0:Nat):Int)*1) ((((d-a).toNat:Nat):Int)-((0:Nat):Int)) 1;rw[w,r];exact cD _ rfl
 .have e:b=(s.heap.push {cls:=.type "range",data:=.fields #[.int a t,.int d u,.int 1 v]}).objs.size:=by simpa using j
  subst e;exact i.fpOk (bv _) (i.hok.fresh (bv _))
def Jm(d:TA):TI:=λa H R=>d a H λb f=>∃j:Int,b=[.int j]/\-(2^62)<=j/\j<2^62/\R (tw 0 j.toNat) f
def ME(d:TA):TI:=λa H R=>d a H λb f=>∃i j:Int,b=[.int i,.int j]/\(-(2^62)<=i/\i<2^62/\-(2^62)<=j/\j<2^62)/\R (tw i (j-i).toNat) f
theorem Rn{a:az}{f:TA}{p b:Pos}(u:Gl X "range")(o:X.mg "range"=ac)(v:PA X [a] f)(n:aL [a] X.env=[(aj,aQ a X.env)]:=by rfl):PI X c (.Call (.Name "range" p) [a] [] b) (Jm f):=by
 intro w s g H R I h;refine Call_ (qY I u o boot_range (BU (bf (v b w s g H _ I h) λz A ⟨y,B,x,l,d⟩=>?_) n rfl));obtain⟨j,e,d,m,q⟩:=d;subst e;cases l with
 |cons r i=>
  cases i;obtain⟨t,rfl⟩:=r;exact call_range_1 (CS x ∅ ∅ d m (by simpa using q))
theorem LH{a b:az}{l:TA}{p d:Pos}(A:Gl X "range")(z:X.mg "range"=ac)(B:PA X [a,b] l)(y:aL [a,b] X.env=[(aj,aQ a X.env),(aj,aQ b X.env)]:=by rfl)(m:aL [b] X.env=[(aj,aQ b X.env)]:=by rfl):PI X c (.Call (.Name "range" p) [a,b] [] d) (ME l):=by
 intro C s n H R I h;refine Call_ (qY I A z boot_range (BU (bf (B d C s n H _ I h) λF J ⟨E,K,D,o,g⟩=>?_) (by rw[y,m]) (by rw[m];rfl)));obtain⟨i,j,e,⟨g,x,w,v⟩,q⟩:=g;subst e;cases o with
 |cons r f=>
  cases f with
  |cons u f=>
   cases f;obtain⟨t,rfl⟩:=r;obtain⟨G,rfl⟩:=u;exact call_range_2 (CS D g x w v q)
def PX(j:TI)(g:TG)(l:TS):TS:=λD a H=>j a H λJ o=>∃W:Nat->Nat->St->Hp->Prop,(∃m,W 0 m a o)/\∀i m a H,W i m a H ->
 (J.stop i H/\D.nx a H)\/(J.go i H/\∃N:St->Hp->Prop,(∀b d,N b d->∃h,h<m/\W (i+1) h b d)/\∀x d,J.yld i H x d->g x a d λf n=>l {D with nx:=N,ct:=N,bk:=D.nx} f n)
def tO(a:List ae)(h:aD):List (ae×Obj):=a.filterMap λb=>(h.get? b).map λo=>(b,o)
theorem wQ{a:List ae}{h:aD}{b:ae}{o:Obj}(d:b∈a)(e:h.get? b=aa o):(b,o)∈tO a h:=List.mem_filterMap.mpr ⟨b,d,by rw[e];rfl⟩
theorem Mz{a:List ae}{h:aD}{p:ae×Obj}(d:p∈tO a h):p.1∈a/\h.get? p.1=aa p.2:=by
 obtain⟨b,f,e⟩:=List.mem_filterMap.mp d;cases q:h.get? b with
 |none=>rw[q]at e;cases e
 |some o=>rw[q]at e;have g:(b,o)=p:=eG e;subst g;exact⟨f,q⟩
theorem Inv.pinned{f:List (ae×Obj)}{g:St}{H:Hp}{s:ao}{a:List ae}(I:Inv X f g H s)(m:∀b∈a,kF X f H b)(l:∀b∈a,∃o,s.heap.get? b=aa o/\∀v,o.data≠.cell v):Inv X (f++tO a s.heap) g H s :=
 I.pins_of λp j=>(oJ.mp j).elim (λz=>I.pin p (mP _ z)) λz=>by
  obtain⟨h,e⟩:=Mz z;obtain⟨q,n,f2,_⟩:=m p.1 h;obtain⟨o,i,d⟩:=l p.1 h;rw[e]at i;cases i;exact⟨e,q,n,f2,d⟩
theorem Inv.unpinned{b d:List (ae×Obj)}{a:St}{H:Hp}{s:ao}(I:Inv X (b++d) a H s):Inv X b a H s:=I.pins_of λp f=>I.pin p (mP _ (List.mem_append_left _ f))
theorem M9{q:az}{C:List aT}{wi:TI}{g:TG}{tb:TS}{S:Pos}(K:PassesOwn (aA X.prog X.w) X.A X.env X.xe)(hc:X.calm=ah)(hi:PI X c q wi)(hg:PG X c g)(t:lA X C tb)(hs:∀x,rn q X.env x=pure x:=by intro _;rfl):PS X (.For c q C [] S) (PX wi g tb):=by
 intro E s σ H D I h;refine wpAny_For (bf (hi E s σ H _ I h) λv s1 h1=>bf h1 λitv s2 h2=>?_) hs;obtain⟨it,M,tn,J,H2,e,I2,T,f8,f2,W,⟨m0,w0⟩,F⟩:=h2;subst e;have p:∀{A:Hp},(∀b∈M,A b=ac)->∀b∈M,kF X E A b:=λhn b t=>⟨hn b t,(f2 b t).2⟩
 refine codeAny_forLoop_any (λn s'=>∃i l A,Inv X E l A s'/\tn i s'.heap/\(∀b∈M,A b=ac)/\W i n l A) ?_ m0 ⟨0,σ,H2,I2,f8,λb t=>(f2 b t).1,w0⟩;rintro n s3 ⟨i,j,O,I3,uH,L,w3⟩;rcases F i n j O w3 with⟨stop,qn⟩|⟨go,N,hN,step⟩
 .refine xW K (bf (T.done X rfl rfl rfl hc i E s3 j O X.xe I3 (p L) uH stop) λr s4 ⟨Z,I4⟩=>?_);subst Z;exact BP ⟨j,O,I4,qn⟩
 .refine xW K (bf (T.item X rfl rfl rfl hc i E s3 j O X.xe I3 (p L) uH go) λr s4 ⟨u,Z,h4⟩=>?_);subst Z;refine xW K (bf h4 λ_ s5 ⟨x,H5,I5,r5,y5,Y,fr5⟩=>?_);have I5':=I5.pinned (p fr5) (T.obj _ _ Y);refine xW K (bf (hg _ s5 j H5 x u _ I5' r5 (step x H5 y5)) λ_ s6 ⟨P,H6,I6,q6⟩=>?_);refine xW K (bf (t _ s6 P H6 _ I6 q6) λf Q B=>?_);have w:∀{a:St}{z:Hp},Inv X (E++tO M s5.heap) a z Q->N a z->∃m,m<n/\∃i l A,Inv X E l A Q/\tn i Q.heap/\(∀b∈M,A b=ac)/\W i m l A:=λ{a z} y G=>by obtain⟨m',hm,w7⟩:=hN a z G;refine⟨m',hm,i+1,a,z,y.unpinned,T.keep _ _ _ Y λb t o e=>(y.pin (b,o) (mP _ (mP _ (wQ t e)))).1,λb t=>?_,w7⟩;obtain⟨o,e,d⟩:=T.obj _ _ Y b t;exact(y.pin (b,o) (mP _ (mP _ (wQ t e)))).2.1
  cases f with
  |next=>obtain⟨a,z,y,G⟩:=B;exact w y G
  |cont=>obtain⟨a,z,y,G⟩:=B;exact w y G
  |brk=>obtain⟨a,z,y,B⟩:=B;exact⟨a,z,y.unpinned,B⟩
  |ret v=>obtain⟨x7,a,z,y,r7,B⟩:=B;exact⟨x7,a,z,y.unpinned,r7,B⟩
end
abbrev R2:=V->V->Hp->VK->Prop
def bR(X:Cx)(f:ai->ai->Sem ai)(r:R2):Prop :=
 ∀(b:List (ae×Obj)) (s:ao) (a:St) (H:Hp) (x y:V) (v u:ai) (Q:VK),Inv X b a H s->RelV x v->RelV y u->r x y H Q ->
  ax (aA X.prog X.w) X.A (f v u) (EP X b a Q) X.xe s
def xM(X:Cx)(f:ai->Sem ai)(r:V->Hp->VK->Prop):Prop :=
 ∀(b:List (ae×Obj)) (s:ao) (a:St) (H:Hp) (x:V) (v:ai) (Q:VK),Inv X b a H s->RelV x v->r x H Q ->
  ax (aA X.prog X.w) X.A (f v) (EP X b a Q) X.xe s
def eV(X:Cx)(f:ai)(r:List V->Hp->VK->Prop):Prop :=
 ∀(c:List (ae×Obj)) (s:ao) (a:St) (H:Hp) (xs:List V) (b:List ai) (Q:VK),Inv X c a H s->bI xs b->r xs H Q ->
  ax (aA X.prog X.w) X.A (call f b) (EP X c a Q) X.xe s
def vA(r:R2)(c b:TE):TE:=λa H Q=>c a H λx f=>b a f λy d=>r x y d Q
def Pt(r:V->Hp->VK->Prop)(b:TE):TE:=λa H Q=>b a H λx c=>r x c Q
def rI(C:Int->Int->Prop)(g:Int->Int->V):R2:=λx y H Q=>∃i j,x=.int i/\y=.int j/\C i j/\Q (g i j) H
def k7(g:Int->Int->V):R2:=λx y H Q=>∃i j,x=.int i/\y=.int j/\Q (g i j) H
def rU(g:Int->V):V->Hp->VK->Prop:=λx H Q=>∃i,x=.int i/\Q (g i) H
section
variable{X:Cx}{a b c:az}{d m n:TE}{l:Pos}
theorem Bj(E:PE X a d)(D:PE X b m){q:List (ae×Obj)}{s:ao}{g:St}{H:Hp}{R:V->V->Hp->Prop}(I:Inv X q g H s)(h:d g H λx r=>m g r λy i=>R x y i) {Q:ai->ao->Prop}{f:ai->ai->Sem ai}(C:∀v u p x y i,Inv X q g i p->RelV x v->RelV y u->R x y i->ax (aA X.prog X.w) X.A (f v u) Q X.xe p):ax (aA X.prog X.w) X.A (aQ a X.env) (λv o=>ax (aA X.prog X.w) X.A (aQ b X.env) (λu j=>ax (aA X.prog X.w) X.A (f v u) Q X.xe j) X.xe o) X.xe s:=by refine bf (E q s g H _ I h) λv t ⟨x,r,G,z,B⟩=>?_;refine bf (D q t g r _ G B) λu p ⟨y,i,F,w,A⟩=>?_;exact C v u p x y i F z w A
theorem Iz{f:Operator}{r:R2}(p:bR X (gu f) r)(w:PE X a d)(t:PE X b m):PE X (.BinOp a f b l) (vA r d m):=by intro z s g H Q I h;exact wpAny_BinOp (Bj w t I h λv u i x y B A o j q=>p z i g B x y v u Q A o j q)
theorem P3{g:UnaryOp}{r:V->Hp->VK->Prop}(q:xM X (unaryOp g) r)(t:PE X a d):PE X (.UnaryOp g a l) (Pt r d):=by intro i s f H Q I h;exact UnaryOp_ (bf (t i s f H _ I h) λv j ⟨x,w,u,o,p⟩=>q i j f w x v Q u o p)
theorem FL{f:ai->ai->Sem ai}{C:Int->Int->Prop}{g:Int->Int->Int}(o:∀(i j:Int) (t u:Tok) (s:ao) (Q:ai->ao->Prop) (E:ai->ao->Prop),C i j->Q (.int (g i j) s.toks) {s with toks:=s.toks+1}->ax (aA X.prog X.w) X.A (f (.int i t) (.int j u)) Q E s):bR X f (rI C λi j=>.int (g i j)):=by intro B s A H x y v u Q I w r h;obtain⟨i,j,rfl,rfl,z,q⟩:=h;obtain⟨t,rfl⟩:=w;obtain⟨p,rfl⟩:=r;exact o i j t p s _ _ z ⟨.int (g i j),H,I.tok _,⟨_,rfl⟩,q⟩
theorem E2{f:ai->ai->Sem ai}{g:Int->Int->Int}(o:∀(i j:Int) (t u:Tok) (s:ao) (Q:ai->ao->Prop) (E:ai->ao->Prop),Q (.int (g i j) s.toks) {s with toks:=s.toks+1}->ax (aA X.prog X.w) X.A (f (.int i t) (.int j u)) Q E s):bR X f (k7 λi j=>.int (g i j)):=by intro A s z H x y v u Q I w r h;obtain⟨i,j,rfl,rfl,q⟩:=h;obtain⟨t,rfl⟩:=w;obtain⟨p,rfl⟩:=r;exact o i j t p s _ _ ⟨.int (g i j),H,I.tok _,⟨_,rfl⟩,q⟩
theorem BM{f:ai->ai->Sem ai}{g:Int->Int->Bool}(o:∀(i j:Int) (t u:Tok) (s:ao) (Q:ai->ao->Prop) (E:ai->ao->Prop),Q (.bool (g i j)) s->ax (aA X.prog X.w) X.A (f (.int i t) (.int j u)) Q E s):bR X f (k7 λi j=>.bl (g i j)):=by intro A s z H x y v u Q I w r h;obtain⟨i,j,rfl,rfl,q⟩:=h;obtain⟨t,rfl⟩:=w;obtain⟨p,rfl⟩:=r;exact o i j t p s _ _ ⟨.bl (g i j),H,I,rfl,q⟩
def AJ(i j:Int):Prop:=(-(2^64)<i/\i<2^64)\/(-(2^64)<j/\j<2^64)
theorem AJ.ok{i j:Int}(h:AJ i j):IntMulOk i j:=by
 rcases h with⟨h1,h2⟩|⟨h1,h2⟩
 .exact .of_left (intBits_le_64 h1 h2)
 .exact .of_right (intBits_le_64 h1 h2)
theorem SJ:bR X (gu .Add) (k7 λi j=>.int (i+j)):=E2 λ_ _ _ _ _ _ _ q=>add_int q
theorem l_:bR X (gu .Sub) (k7 λi j=>.int (i-j)):=E2 λ_ _ _ _ _ _ _ q=>sub_int q
theorem Su:bR X (gu .Mult) (rI AJ λi j=>.int (i*j)):=FL λ_ _ _ _ _ _ _ f q=>mul_int q f.ok
theorem sE:bR X (gu .Mod) (rI (λ_ j=>0<j) λi j=>.int (i % j)):=FL λi j _ _ _ _ _ f q=>by have g:(0:Int)<j:=f;exact mod_int' ∅ (by rw[Int.fmod_eq_emod_of_nonneg i ∅];exact q)
theorem Ja{f:ai->Sem ai}{g:Int->Int}(j:∀(i:Int) (t:Tok) (s:ao) (Q:ai->ao->Prop) (E:ai->ao->Prop),Q (.int (g i) s.toks) {s with toks:=s.toks+1}->ax (aA X.prog X.w) X.A (f (.int i t)) Q E s):xM X f (rU λi=>.int (g i)):=by intro r s p H x v Q I o h;obtain⟨i,rfl,q⟩:=h;obtain⟨t,rfl⟩:=o;exact j i t s _ _ ⟨.int (g i),H,I.tok _,⟨_,rfl⟩,q⟩
theorem qB:xM X (unaryOp .USub) (rU λi=>.int (-i)):=Ja λ_ _ _ _ _ q=>neg_int q
end
def pB:V->V->Bool
 |.non,.non=>ah|.non,.int _=>ah|.int _,.non=>ah|.non,.bl _=>ah|.bl _,.non=>ah|.non,.str _=>ah|.str _,.non=>ah
 |.int _,.int _=>ah|.bl _,.bl _=>ah|.str _,.str _=>ah|.byt _,.byt _=>ah
 |.int _,.str _=>ah|.str _,.int _=>ah|.bl _,.str _=>ah|.str _,.bl _=>ah
 |_,_=>aj
def Fg:R2:=λx y H Q=>pB x y=ah/\Q (.bl (decide (x=y))) H
def EA:R2:=λx y H Q=>pB x y=ah/\Q (.bl (!decide (x=y))) H
theorem E5{i j:Int}:decide (V.int i=V.int j)=(i == j):=by rw[ug];simp
theorem EH{i j:Bool}:decide (V.bl i=V.bl j)=(i == j):=by rw[ug];simp
theorem DY{i j:Str}:decide (V.str i=V.str j)=(i == j):=by rw[ug];simp
theorem G3{i j:Array UInt8}:decide (V.byt i=V.byt j)=(i.toList == j.toList):=by
 rw[ug];cases i;cases j;simp
section
variable{X:Cx}{a b c:az}{l g o:TE}{m:Pos}
theorem c_{h:List (ae×Obj)}{d:St}{H:Hp}{s:ao}{Q:VK}{k f:Bool}(I:Inv X h d H s)(q:Q (.bl k) H)(e:k=f):EP X h d Q (.bool f) s:=by subst e;exact⟨.bl k,H,I,rfl,q⟩
theorem SF:bR X (d_ .Eq) Fg:=by
 intro w s r H x y v u Q I p d h;obtain⟨n,q⟩:=h;cases x with
 |non=>
  cases p;cases y with
  |non=>cases d;exact PySem.EqNone.eq_none_none (c_ I q (by simp))
  |bl j=>cases d;exact PySem.EqNone.eq_none_bool (c_ I q (by simp))
  |int j=>obtain⟨f,rfl⟩:=d;exact PySem.EqNone.eq_none_int (c_ I q (by simp))
  |str j=>obtain⟨f,rfl⟩:=d;exact PySem.EqNone.eq_none_str (c_ I q (by simp))
  |_=>exact absurd (show aj=ah from n) eQ
 |bl i=>
  cases p;cases y with
  |non=>cases d;exact PySem.EqNone.eq_bool_none (c_ I q (by simp))
  |bl j=>cases d;exact eq_bool (c_ I q EH)
  |str j=>obtain⟨f,rfl⟩:=d;exact PySem.EqMixed.eq_bool_str (c_ I q (by simp))
  |_=>exact absurd (show aj=ah from n) eQ
 |int i=>
  obtain⟨t,rfl⟩:=p;cases y with
  |non=>cases d;exact PySem.EqNone.eq_int_none (c_ I q (by simp))
  |int j=>obtain⟨f,rfl⟩:=d;exact eq_int (c_ I q E5)
  |str j=>obtain⟨f,rfl⟩:=d;exact PySem.EqMixed.eq_int_str (c_ I q (by simp))
  |_=>exact absurd (show aj=ah from n) eQ
 |str i=>
  obtain⟨t,rfl⟩:=p;cases y with
  |non=>cases d;exact PySem.EqNone.eq_str_none (c_ I q (by simp))
  |bl j=>cases d;exact PySem.EqMixed.eq_str_bool (c_ I q (by simp))
  |int j=>obtain⟨f,rfl⟩:=d;exact PySem.EqMixed.eq_str_int (c_ I q (by simp))
  |str j=>obtain⟨f,rfl⟩:=d;exact eq_str (c_ I q DY)
  |_=>exact absurd (show aj=ah from n) eQ
 |byt i=>
  obtain⟨t,rfl⟩:=p;cases y with
  |byt j=>obtain⟨f,rfl⟩:=d;exact PySem.W.eq_bytes (c_ I q G3)
  |_=>exact absurd (show aj=ah from n) eQ
 |_=>cases y <;> exact absurd (show aj=ah from n) eQ
theorem SU:bR X (d_ .NotEq) EA:=by
 intro w s r H x y v u Q I p d h;obtain⟨n,q⟩:=h;cases x with
 |non=>
  cases p;cases y with
  |non=>cases d;exact PySem.EqNone.ne_none_none (c_ I q (by simp))
  |bl j=>cases d;exact PySem.EqNone.ne_none_bool (c_ I q (by simp))
  |int j=>obtain⟨f,rfl⟩:=d;exact PySem.EqNone.ne_none_int (c_ I q (by simp))
  |str j=>obtain⟨f,rfl⟩:=d;exact PySem.EqNone.ne_none_str (c_ I q (by simp))
  |_=>exact absurd (show aj=ah from n) eQ
 |bl i=>
  cases p;cases y with
  |non=>cases d;exact PySem.EqNone.ne_bool_none (c_ I q (by simp))
  |bl j=>cases d;exact ne_bool (c_ I q (congrArg not EH))
  |str j=>obtain⟨f,rfl⟩:=d;exact PySem.EqMixed.ne_bool_str (c_ I q (by simp))
  |_=>exact absurd (show aj=ah from n) eQ
 |int i=>
  obtain⟨t,rfl⟩:=p;cases y with
  |non=>cases d;exact PySem.EqNone.ne_int_none (c_ I q (by simp))
  |int j=>obtain⟨f,rfl⟩:=d;exact ne_int (c_ I q (congrArg not E5))
  |str j=>obtain⟨f,rfl⟩:=d;exact PySem.EqMixed.ne_int_str (c_ I q (by simp))
  |_=>exact absurd (show aj=ah from n) eQ
 |str i=>
  obtain⟨t,rfl⟩:=p;cases y with
  |non=>cases d;exact PySem.EqNone.ne_str_none (c_ I q (by simp))
  |bl j=>cases d;exact PySem.EqMixed.ne_str_bool (c_ I q (by simp))
  |int j=>obtain⟨f,rfl⟩:=d;exact PySem.EqMixed.ne_str_int (c_ I q (by simp))
  |str j=>obtain⟨f,rfl⟩:=d;exact ne_str (c_ I q (congrArg not DY))
  |_=>exact absurd (show aj=ah from n) eQ
 |byt i=>
  obtain⟨t,rfl⟩:=p;cases y with
  |byt j=>obtain⟨f,rfl⟩:=d;exact PySem.W.ne_bytes (c_ I q (congrArg not G3))
  |_=>exact absurd (show aj=ah from n) eQ
 |_=>cases y <;> exact absurd (show aj=ah from n) eQ
theorem qX:bR X (d_ .Lt) (k7 λi j=>.bl (decide (i<j))):=BM λ_ _ _ _ _ _ _ q=>lt_int q
theorem iB:bR X (d_ .LtE) (k7 λi j=>.bl (decide (i<=j))):=BM λ_ _ _ _ _ _ _ q=>le_int q
theorem vX:bR X (d_ .Gt) (k7 λi j=>.bl (decide (j<i))):=BM λ_ _ _ _ _ _ _ q=>gt_int q
theorem Sy:bR X (d_ .In) (λx y H Q=>∃i j,x=.str i/\y=.str j/\Q (.bl (!(Hg j i 0 j.length 1).isEmpty)) H):=by intro r s n H x y v u Q I f d h;obtain⟨i,j,rfl,rfl,q⟩:=h;obtain⟨t,rfl⟩:=f;obtain⟨p,rfl⟩:=d;exact in_str (c_ I q rfl)
theorem bR.or{f:ai->ai->Sem ai}{r n:R2}(h:bR X f r)(t:bR X f n):bR X f (λx y H Q=>r x y H Q\/n x y H Q):=by
 intro p s d H x y v u Q I j i q;rcases q with q|q
 .exact h p s d H x y v u Q I j i q
 .exact t p s d H x y v u Q I j i q
theorem Pr{d:CmpOp}{r:R2}(p:bR X (d_ d) r)(z:PE X a l)(w:PE X b g)(t:BV d b=aj):PE X (.Compare a [d] [b] m) (vA r l g):=by intro A s f H Q I h;exact wpAny_Compare1 (Bj z w I h λv u i x y C B n j q=>p A i f C x y v u Q B n j q) t
def EK(t:TE):TT:=λd H Q=>t d H λx f=>∃k,x=.bl k/\Q k f
theorem LL{f:CmpOp}{r:R2}(C:bR X (d_ f) r)(F:PE X a l)(E:PE X b g)(D:BV f b=aj):PT X (.Compare a [f] [b] m) (EK (vA r l g)):=by
 intro i s d H Q I h;refine wpAny_isTrue_Compare1 (bf (F i s d H _ I h) λv n ⟨x,N,K,t,B⟩=>bf (E i n d N _ K B) λu j ⟨y,M,J,q,A⟩=>bf (C i j d M x y v u _ J t q A) λc O ⟨z,L,G,p,k,e,w⟩=>?_) D;subst e;cases p;exact pR ⟨L,G,w⟩
def zw(r i:R2)(l g o:TE):TE:=λd H Q=>l d H λx p=>g d p λy n=>r x y n λz f=>∃k,z=.bl k /\
 (if k=ah then o d f λh j=>i y h j Q else Q (.bl aj) f)
theorem Od{n f:CmpOp}{r q:R2}(S:bR X (d_ n) r)(P:bR X (d_ f) q)(Z:PE X a l)(Y:PE X b g)(W:PE X c o)(T:lastMarks [n,f] [b,c]=aj:=by with_unfolding_all rfl):PE X (.Compare a [n,f] [b,c] m) (zw r q l g o):=by
 intro j s i H Q I h;refine Compare_chain (bf (Z j s i H _ I h) λv G ⟨x,H1,I1,L,O⟩=>chain_link (bf (Y j G i H1 _ I1 O) λu F ⟨y,H2,I2,p,N⟩=>bf (S j F i H2 x y v u _ I2 L p N) λd E ⟨z,A,w,K,k,e,t⟩=>?_)) T;subst e;cases K;refine pR ?_;cases k with
 |false=>exact ite_ff ⟨.bl aj,A,w,rfl,t⟩
 |true=>exact ite_tt (chain_last (bf (W j E i A _ w t) λC D ⟨B,H4,I4,J,M⟩=>P j D i H4 y B u C Q I4 p J M))
theorem OM{n f:CmpOp}{r q:R2}(Y:bR X (d_ n) r)(W:bR X (d_ f) q)(ha:PE X a l)(hb:PE X b g)(hc:PE X c o)(Z:lastMarks [n,f] [b,c]=aj:=by with_unfolding_all rfl):PT X (.Compare a [n,f] [b,c] m) (EK (zw r q l g o)):=by
 intro j s i H Q I h;refine isTrue_chain (bf (ha j s i H _ I h) λv G ⟨x,H1,I1,M,S⟩=>test_link (bf (hb j G i H1 _ I1 S) λu F ⟨y,H2,I2,p,P⟩=>bf (Y j F i H2 x y v u _ I2 M p P) λd E ⟨z,A,w,L,k,e,t⟩=>?_)) Z;subst e;cases L;refine pR ?_;cases k with
 |false=>
  obtain⟨k',e',T⟩:=t;cases e';exact ite_ff ⟨A,w,T⟩
 |true=>
  refine ite_tt (test_last (bf (hc j E i A _ w t) λC D ⟨B,H4,I4,K,O⟩=>bf (W j D i H4 y B u C _ I4 p K O) λd' s5 ⟨z2,H5,I5,J,k2,e2,N⟩=>?_));subst e2;cases J;exact pR ⟨H5,I5,N⟩
theorem sX:(bq:Nat)<2^63:=by rw[j2];decide
theorem Lh:bR X (gu .Add) (λx y H Q=>∃i j,x=.str i/\y=.str j/\i.length+j.length<=bq/\Q (.str (i++j)) H):=by intro z s r H x y v u Q I n f h;obtain⟨i,j,rfl,rfl,p,q⟩:=h;obtain⟨t,rfl⟩:=n;obtain⟨d,rfl⟩:=f;exact add_str (λd w=>⟨.str (i++j),H,I.tok _,⟨_,rfl⟩,q⟩) p
theorem vals1{x:V}{d:List ai}(r:bI [x] d):∃u,d=[u]/\RelV x u:=by
 cases r with
 |cons h f=>cases f;exact⟨_,rfl,h⟩
theorem vals2{x y:V}{f:List ai}(r:bI [x,y] f):∃u d,f=[u,d]/\RelV x u/\RelV y d:=by
 cases r with
 |cons n j=>
  cases j with
  |cons i h=>cases h;exact⟨_,_,rfl,n,i⟩
def DP(K:aw)(x:V)(H:Hp)(n:Nat):Prop :=
 match x with
 |.str y=>y.length<=bq/\n=y.length
 |.byt y=>y.size<=bq/\n=y.size
 |.ref p=>(∃xs,cu K H p xs/\n=xs.length)\/∃xs,cG K H p xs/\n=xs.length
 |_=>False
theorem dO:eV X (.builtin "len") (λxs H Q=>∃x n,xs=[x]/\DP X.K x H n/\Q (.int n) H):=by
 intro F s B H xs C Q I r h;obtain⟨x,n,rfl,e,q⟩:=h;obtain⟨u,rfl,f⟩:=vals1 r;have E:=sX;have D:bq=16777216:=j2;cases x with
 |str y=>obtain⟨t,rfl⟩:=f;obtain⟨A,d⟩:y.length<=bq/\n=y.length:=e;subst d;exact len_str ∅ ⟨.int _,H,I.tok _,⟨_,rfl⟩,q⟩
 |byt y=>obtain⟨t,rfl⟩:=f;obtain⟨A,d⟩:y.size<=bq/\n=y.size:=e;subst d;exact PySem.W.len_bytes ∅ ⟨.int _,H,I.tok _,⟨_,rfl⟩,q⟩
 |ref p=>
  cases f;have d:(∃xs,cu X.K H p xs/\n=xs.length)\/∃xs,cG X.K H p xs/\n=xs.length:=e;rcases d with⟨xs,hx,d⟩|⟨xs,hx,d⟩
  .subst d;obtain⟨v,i,j,z⟩:=I.list hx;have w:=i.length;exact Calls.call_len_list j.isList (by simp only[cO];lia) ⟨.int xs.length,H,I.tok _,⟨_,by simp only[cO];rw[w]⟩,q⟩
  .subst d;obtain⟨v,i,j,z⟩:=I.tuple hx;have w:=i.length;exact len_tuple j (by simp only[cO];lia) ⟨.int xs.length,H,I.tok _,⟨_,by simp only[cO];rw[w]⟩,q⟩
 |_=>exact(show False from e).elim
end
structure rj(h:aD)(x dx C:ae)(mA:Str->Option ai):Prop where
 obj:h.get? x=aa (pM C dx)
 ns:h.Ns1 dx mA
 ne:dx≠x
theorem Pf{h:aD}{g:ae}{d:Str->Option ai}(n:h.Ns1 g d):∃c,h.get? g=aa c/\∀b,BW b c=aa (d b):=by
 obtain⟨o,f,u,l,r,p,_,m⟩:=n;refine⟨o,l,λb=>?_⟩;have e:=m b;unfold nsFind findBy at e;rw[<-Array.find?_toList]at e;unfold BW;rw[r];dsimp only;split
 .rename_i y q;rw[q]at e;exact congrArg aa e
 .rename_i q;rw[q]at e;have a:f.toList.any (·.refKey)=aj:=by rw[Hh];intro y j;obtain⟨z,t,i⟩:=p y (Array.mem_toList_iff.mp j);simp[DictEntry.refKey,i]
  have s:¬f.toList.any (·.refKey)=ah:=by rw[a];exact eQ
  rw[if_neg s];exact congrArg aa e
theorem rj.look{h:aD}{x d C:ae}{c:Str->Option ai}(I:rj h x d C c):∃b,uh h x (pM C d) C (aa b)/\∀a,BW a b=aa (c a) :=
 let ⟨b,ho,hl⟩:=Pf I.ns
 ⟨b,⟨I.obj,rfl,rfl,ho⟩,hl⟩
section
variable{i:bb}{w:aS}{A:a9}{E:ai->ao->Prop}{s:ao}{K:aw}{x l C f:ae}{j:Str->Option ai}{c:Str}{v:ai}
theorem Ko{a:Bool}{Q:ai->ao->Prop}(X:K.In s.heap)(I:rj s.heap x l C j)(n:BX K C c=ah)(m:Hi K C=ah)(o:g7 K (.ref C) c=aa ac) (d:j c=aa v) (b:PySem.W.handedIn v=ah) (h:Q v {s with toks:=s.toks+1}):ax (aA i w) A (getAttr (.ref x) c a) Q E s:=by obtain⟨p,J,g⟩:=I.look;exact PySem.W.get_value X J (Hj n).1 (PySem.W.findObj_own m o rfl (by rw[g,d])) b h
theorem LF{b:Sem Bool}{Q:ai×List ai->ao->Prop}(X:K.In s.heap)(I:rj s.heap x l C j)(a:BX K C c=ah)(o:g7 K (.ref C) c=aa (aa (.ref f))) (m:xX K (.ref f)=ah) (g:j c=ac) (h:Q (.ref f,[.ref x]) s):ax (aA i w) A (getMethod (.ref x) c b) Q E s:=by obtain⟨d,J,n⟩:=I.look;exact PySem.W.method_fn X J (Hj a).1 (Hj a).2 o (beq_iff_eq.mp m) (by show(BW c d).map (·.isSome)=aa aj;rw[n,g];rfl) h
theorem N0{p:List Str}{Q:Unit->ao->Prop}(X:K.In s.heap)(I:rj s.heap x l C j)(F:g7 K (.ref C) "__setattr__"=aa (aa (.builtin "object.__setattr__"))) (G:PySem.W.plainOver K C=ah) (B:PySem.W.takerIn K C c=aa ac) (H:Hi K C=ah)(z:He j p) (D:p.length<=bq)(h:∀d,rj d x l C (λy=>if y=c then aa v else j y)->j1 l s.heap d->Q () {s with heap:=d,toks:=s.toks+2}):ax (aA i w) A (setAttr (.ref x) c v) Q E s:=by obtain⟨O,J,S⟩:=I.look;refine PySem.W.set_plain X J F (PySem.W.osa_open (s:={s with toks:=s.toks+1}) (r:=ac) X J G B λb=>?_);obtain⟨T,L,t⟩:=PySem.W.any_some H;have u:s.heap.get? x=aa ⟨.ref C,aa l,.plain,#[]⟩:=I.obj;refine aq (aI (aq (aq (wpAny_loadPart u (aq (PySem.W.Looks.here (s:={s with toks:=s.toks+1}) (PySem.W.looks_clsIn X L) ?_))))));rw[t];refine aI (a:=aa l) (aq (aI (aq ?_)));refine wpAny_nsSet1 (s:={s with toks:=s.toks+1}) I.ns λd o q=>?_;obtain⟨P,M,N,g,m,n⟩:=o.count (PySem.Within.cons c v z);refine aq (wpAny_lookBehind g (by rw[m];exact pastItsLine_dict (dr n (by rw[eR];lia))) ?_);exact aI (h _ ⟨(q.2 _ (eO I.ne)).trans I.obj,o,I.ne⟩ q)
theorem QJ{R:Result->ao->Prop}{b:List ai}{m:List (Str×ai)}(X:K.In s.heap)(n:PySem.W.makesIn K C=ah)(o:g7 K (.ref C) "__init__"=aa (aa (.ref f))) (p:PySem.W.typeIn K (.ref f)=aa (.type "function"))(h:j3 (aA i w) (A.«under» (.builtin "type.__call__" ⟨.ref C::b,m⟩)) (.call (.ref f) ⟨.ref (s.heap.objs.size+1)::b,m⟩) (PySem.W.InitBack (s.heap.objs.size+1) R) {s with heap:=(s.heap.push oN).push (pM C s.heap.objs.size)}):j3 (aA i w) A (.call (.ref C) ⟨b,m⟩) R s:=by obtain⟨r,g,d,t,q⟩:=s;exact PySem.W.make_core (PySem.W.makes_of X n) (Hk X o) (λa=>PySem.W.bind_fn X a p) (.inl rfl) h
end
def ge(f:Str)(v:V):List (Str×V)->List (Str×V)
 |[]=>[(f,v)]
 | (g,x)::r=>if g=f then(g,v)::r else(g,x)::ge f v r
theorem CM(f g:Str)(v:V):∀fs:List (Str×V),(ge f v fs).lookup g=if g=f then aa v else fs.lookup g
 |[]=>by
  show lK g [(f,v)]=_;by_cases h:g=f
  .have a:(g == f)=ah:=beq_iff_eq.mpr h;simp only[lK,a,if_pos h]
  .have a:(g == f)=aj:=beq_eq_false_iff_ne.mpr h;simp only[lK,a,if_neg h]
 | (k,x)::r=>by
  have c:=CM f g v r;rw[show ge f v ((k,x)::r)=(if k=f then(k,v)::r else(k,x)::ge f v r)from rfl];by_cases b:k=f
  .rw[if_pos b];by_cases h:g=k
   .have a:(g == k)=ah:=beq_iff_eq.mpr h;simp only[lK,a,if_pos (h.trans b)]
   .have a:(g == k)=aj:=beq_eq_false_iff_ne.mpr h;simp only[lK,a,if_neg (λe:g=f=>h (e.trans b.symm))]
  .rw[if_neg b];by_cases h:g=k
   .have a:(g == k)=ah:=beq_iff_eq.mpr h;simp only[lK,a,if_neg (λe:g=f=>b (h.symm.trans e))]
   .have a:(g == k)=aj:=beq_eq_false_iff_ne.mpr h;simp only[lK,a];exact c
theorem zq(f:Str)(v:V):∀fs:List (Str×V),f∈(ge f v fs).map (·.1)/\∀g,g∈fs.map (·.1)->g∈(ge f v fs).map (·.1)
 |[]=>⟨by simp[ge],λg h=>by simp at h⟩
 | (k,x)::r=>by
  obtain⟨c,b⟩:=zq f v r;rw[show ge f v ((k,x)::r)=(if k=f then(k,v)::r else(k,x)::ge f v r)from rfl];by_cases a:k=f
  .rw[if_pos a];subst a;exact⟨by simp,λg h=>by simpa using h⟩
  .rw[if_neg a];refine⟨?_,λg h=>?_⟩
   .rw[gH];exact jv _ c
   .rw[gH]at h ⊢;rcases bV.mp h with e|e
    .exact bV.mpr (.inl e)
    .exact jv _ (b g e)
theorem Fd(f:Str)(v:V):∀fs:List (Str×V),(ge f v fs).length<=fs.length+1
 |[]=>by simp[ge]
 | (k,x)::r=>by
  have b:=Fd f v r;rw[show ge f v ((k,x)::r)=(if k=f then(k,v)::r else(k,x)::ge f v r)from rfl];by_cases a:k=f
  .rw[if_pos a,eR,eR];lia
  .rw[if_neg a,eR,eR];lia
theorem lH.some_of{v:V}{o:Option ai}(r:lH (aa v) o):∃u,o=aa u/\RelV v u:=by
 cases o with
 |none=>exact(show False from r).elim
 |some u=>exact⟨u,rfl,r⟩
theorem lH.none_of{o:Option ai}(r:lH ac o):o=ac:=by
 cases o with
 |none=>rfl
 |some u=>exact(show False from r).elim
theorem Rf{v:V}{u:ai}(r:RelV v u):PySem.W.handedIn u=ah:=by
 cases v with
 |non=>cases (show u=Value.none from r);rfl
 |bl b=>cases (show u=Value.bool b from r);rfl
 |int i=>obtain⟨t,e⟩:=(show ∃t,u=Value.int i t from r);cases e;rfl
 |str x=>obtain⟨t,e⟩:=(show ∃t,u=Value.str x t from r);cases e;rfl
 |byt b=>obtain⟨t,e⟩:=(show ∃t,u=Value.bytes b t from r);cases e;rfl
 |flt b=>obtain⟨t,e⟩:=(show ∃t,u=Value.float b t from r);cases e;rfl
 |ref a=>cases (show u=Value.ref a from r);rfl
 |ty n=>cases (show u=Value.type n from r);rfl
section
variable{P:bb}{w:aS}{H i:Hp}{h g:aD}{a C b:ae}{fs c:List (Str×V)}
theorem wg(l:c7 P w H h)(e:H a=aa (.ins C b fs)):∃j,rj h a b C j/\(∀f,lH (fs.lookup f) (j f))/\He j (fs.map (·.1))/\fs.length<=1000/\H b=aa (.own a):=by
 obtain⟨d,z,o,m,j,n,r,q⟩:=(show dA P w H h a (.ins C b fs)from l a _ e)
 exact⟨j,⟨m,n,o⟩,r,q,z,d⟩
end
structure Cls(K:aw)(C:ae):Prop where
 pg:BX K C kH=ah
 hd:Hi K C=ah
 po:PySem.W.plainOver K C=ah
 sa:g7 K (.ref C) "__setattr__"=aa (aa (.builtin "object.__setattr__"))
theorem Cls.get{K:aw}{C:ae}(c:Cls K C)(f:Str):BX K C f=ah:=c.pg
def kE(K:aw)(C:ae)(f:Str):Prop:=g7 K (.ref C) f=aa ac
theorem kE.taker{K:aw}{C:ae}{f:Str}(n:kE K C f):PySem.W.takerIn K C f=aa ac:=by unfold PySem.W.takerIn;rw[show g7 K (.ref C) f=aa ac from n];rfl
structure ve(K:aw)(C:ae)(m:Str)(f:ae):Prop where
 at_:g7 K (.ref C) m=aa (aa (.ref f))
 fn:xX K (.ref f)=ah
 kp:iS K (.ref f)=ah
section
variable{X:Cx}{i:List (ae×Obj)}{d:St}{H:Hp}{s:ao}{a C j:ae}{fs:List (Str×V)}{f:Str}{v:V}{A:a9}{E:ai->ao->Prop}
theorem P6{b:Bool}{Q:ai->ao->Prop}(I:Inv X i d H s)(e:H a=aa (.ins C j fs))(c:Cls X.K C)(n:kE X.K C f)(l:fs.lookup f=aa v)(h:∀u g,Inv X i d H g->RelV v u->Q u g):ax (aA X.prog X.w) A (getAttr (.ref a) f b) Q E s:=by obtain⟨p,O,r,_,_,_⟩:=wg I.hok e;obtain⟨u,q,m⟩:=lH.some_of (v:=v) (o:=p f) (by rw[<-l];exact r f);exact Ko I.kIn O (c.get f) c.hd n q (Rf m) (h u _ (I.tok _) m)
theorem J1{m:Str}{g:ae}{pl:Sem Bool}{Q:ai×List ai->ao->Prop}(I:Inv X i d H s)(e:H a=aa (.ins C j fs))(c:Cls X.K C)(k:ve X.K C m g)(l:fs.lookup m=ac)(h:Q (.ref g,[.ref a]) s):ax (aA X.prog X.w) A (getMethod (.ref a) m pl) Q E s:=by obtain⟨b,O,r,_,_,_⟩:=wg I.hok e;have n:b m=ac:=lH.none_of (by rw[<-l];exact r m);exact LF I.kIn O (c.get m) k.at_ k.fn n h
theorem OO{y:V}{u:ai}{Q:Unit->ao->Prop}(I:Inv X i d H s)(e:H a=aa (.ins C j fs))(c:Cls X.K C)(n:kE X.K C f)(M:fs.length<1000)(D:RelV y u)(h:∀p,Inv X i d (upd H a (.ins C j (ge f y fs))) p->Q () p):ax (aA X.prog X.w) A (setAttr (.ref a) f u) Q E s:=by
 obtain⟨t,O,r,m,_,w⟩:=wg I.hok e;have F:(fs.map (·.1)).length<=bq:=by rw[c0,j2];lia
 refine N0 I.kIn O c.sa c.po n.taker c.hd m F λL l B=>h _ ?_;have J:∃o,L.get? j=aa o:=let ⟨o,_,_,e',_⟩:=l.ns;⟨o,e'⟩
 refine I.write (x:=a) (e:=j) (by rw[e];exact True.intro) (.inr w) (λb q K z=>(B.2 b K).trans z) J ?_;refine⟨by rw[bT O.ne];exact w,?_,O.ne,l.obj,_,l.ns,λg=>?_,λg G=>?_⟩
 .have:=Fd f y fs;lia
 .show lH ((ge f y fs).lookup g) (if g=f then aa u else t g);rw[CM];by_cases q:g=f
  .rw[if_pos q,if_pos q];exact D
  .rw[if_neg q,if_neg q];exact r g
 .by_cases q:g=f
  .rw[q];exact(zq f y fs).1
  .refine(zq f y fs).2 g (m g λz=>G ?_);show(if g=f then aa u else t g)=ac;rw[if_neg q];exact z
theorem Inv.made(I:Inv X i d H s):Inv X i d (upd (upd H s.heap.objs.size (.own (s.heap.objs.size+1))) (s.heap.objs.size+1) (.ins C s.heap.objs.size [])) {s with heap:=(s.heap.push oN).push (pM C s.heap.objs.size)}:=by
 have g:(s.heap.push oN).get? s.heap.objs.size=aa oN:=cD s.heap rfl;have n:((s.heap.push oN).push (pM C s.heap.objs.size)).get? (s.heap.objs.size+1)=aa (pM C s.heap.objs.size):=by have:=cD (s.heap.push oN) (o:=pM C s.heap.objs.size) rfl;rwa[lL]at this
 have m:(s.heap.push oN).Ns s.heap.objs.size (λ_=>ac):=⟨oN,#[],_,g,rfl,(λe l=>absurd l (by simp)),λ_=>rfl⟩
 have p:=I.laid (a:=s.heap.objs.size) (o:=.own (s.heap.objs.size+1)) (h':=s.heap.push oN) (t':=s.toks) (λb u q=>bp _ q) (bv _) ⟨_,g⟩;refine p.laid (a:=s.heap.objs.size+1) (o:=.ins C s.heap.objs.size []) (t':=s.toks) (λb u q=>bp _ q) (mQ (lL _ _)) ?_;have c:s.heap.objs.size≠s.heap.objs.size+1:=cZ (jw _);refine⟨by rw[bT c,cI],jd _,c,n,λ_=>ac,(Heap.Ns1.of_empty m).at λo q=>bp _ q,λ_=>True.intro,λy h=>absurd rfl h⟩
theorem Qt{b:bb}{w:aS}{c:Env}{e:az}{f:Str}{l:Pos}{s:ao}{Q:ai->ao->Prop}(m:j4 e f c (aQ e c)=aQ e c)(h:ax (aA b w) A (aQ e c) (λo g=>ax (aA b w) A (getAttr o f ah) Q E g) E s):ax (aA b w) A (aQ (.Attribute e f l) c) Q E s :=Attribute_any_ h (by rw[arm_eval_Attribute,m])
end
def Jd(K:aw)(d:TE)(f:Str):TE:=λc H Q=>d c H λx b=>∃a C g fs v,x=.ref a/\b a=aa (.ins C g fs)/\Cls K C/\kE K C f/\fs.lookup f=aa v/\Q v b
def J5(K:aw)(h g:TE)(f:Str):TS:=λD b H=>g b H λy i=>h b i λx d=>∃a C c fs,x=.ref a/\d a=aa (.ins C c fs)/\Cls K C/\kE K C f/\fs.length<1000 /\
 D.nx b (upd d a (.ins C c (ge f y fs)))
section
variable{X:Cx}{o e b:az}{f:Str}{g d m:Pos}{i j:TE}
theorem N6(w:PE X e i)(y:j4 e f X.env (aQ e X.env)=aQ e X.env):PE X (.Attribute e f g) (Jd X.K i f):=by intro B s p H Q I h;refine Qt y (bf (w B s p H _ I h) λu K ⟨x,F,E,r,a,C,L,fs,v,z,A,c,n,l,q⟩=>?_);subst z;obtain rfl:u=Value.ref a:=r;exact P6 E A c n l λG J D t=>⟨v,F,D,t,q⟩
theorem JS(F:PE X o i)(B:PE X b j)(E:lJ b (aa (.Attribute o f d)) g.line X.env=pure aj):PS X (.Assign [.Attribute o f d] b g) (J5 X.K i j f):=by intro r s p H D I h;refine plainObj_wpAny_Assign_Attribute (bf (B r s p H _ I h) λu t ⟨y,N,M,v,q⟩=>bf (F r t p N _ M q) λA P ⟨x,S,L,w,a,C,Q,fs,G,J,c,n,l,z⟩=>?_) E;subst G;obtain rfl:A=Value.ref a:=w;exact OO L J c n l v λO K=>⟨p,_,K,z⟩
end
section
variable{X:Cx}{f:List (ae×Obj)}{d:St}{H:Hp}{s:ao}{A:a9}{E:ai->ao->Prop}{Q:ai->ao->Prop}{c:ai}{b:Bool}
inductive ix(K:aw)(H:Hp):V->ai->Prop where
 |non:ix K H .non (.type "NoneType")
 |bl (x:Bool):ix K H (.bl x) (.type "bool")
 |int (i:Int):ix K H (.int i) (.type "int")
 |str (x:Str):ix K H (.str x) (.type "str")
 |flt (x:UInt64):ix K H (.flt x) (.type "float")
 |lst {a:ae}{xs:List V} (e:H a=aa (.lst xs)):ix K H (.ref a) (.type "list")
 |frz {a:ae}{o:Obj}{xs:List V} (e:H a=aa (.frz o (.lst xs))):ix K H (.ref a) (.type "list")
 |tup {a:ae}{xs:List V} (e:H a=aa (.tup xs)):ix K H (.ref a) (.type "tuple")
 |dK {a:ae}{kvs:List (aX×V)} (e:H a=aa (.dK kvs)):ix K H (.ref a) (.type "dict")
 |dT {a:ae}{kvs:List (List aX×V)} (e:H a=aa (.dT kvs)):ix K H (.ref a) (.type "dict")
 |ins {a C dx:ae}{fs:List (Str×V)} (e:H a=aa (.ins C dx fs)) (cl:Cls K C) (ha:g7 K (.ref C) "__class__"=aa (aa (.builtin "object.__class__")))
   (hn:Hl K (.builtin "object.__class__") "__get__"=aa (aa (.builtin "getset_descriptor.__get__"))) (uJ:PySem.W.takesIn K (.builtin "object.__class__")=aa ah)
   (hm:xY K C (.type "object")=aa ah):ix K H (.ref a) (.ref C)
theorem LU{x:V}{u t:ai}(I:Inv X f d H s)(g:RelV x u)(ty:ix X.K H x t)(e:cK X.K t c=aa b)(h:∀m,Q (.bool b) {s with toks:=m}):ax (aA X.prog X.w) A (call (.builtin "isinstance") [u,c]) Q E s:=by
 cases ty with
 |non=>cases (show u=Value.none from g);exact kI PySem.W.kitx_none I.kIn True.intro e (λz=>nomatch z) h
 |bl y=>cases (show u=Value.bool y from g);exact kI PySem.W.kitx_bool I.kIn True.intro e (λz=>nomatch z) h
 |int i=>obtain⟨t,q⟩:=(show ∃t,u=Value.int i t from g);cases q;exact kI PySem.W.kitx_int I.kIn True.intro e (λz=>nomatch z) h
 |str y=>obtain⟨t,q⟩:=(show ∃t,u=Value.str y t from g);cases q;exact kI PySem.W.kitx_str I.kIn True.intro e (λz=>nomatch z) h
 |flt y=>obtain⟨t,q⟩:=(show ∃t,u=Value.float y t from g);cases q;exact kI PySem.W.kitx_float I.kIn True.intro e (λz=>nomatch z) h
 |@lst a xs ea=>
  cases (show u=Value.ref a from g);obtain⟨_,_,n,_,j⟩:=(show dA X.prog X.w H s.heap a (.lst xs)from I.hok a _ ea)
  exact kI PySem.W.kitx_list I.kIn ⟨_,j,rfl⟩ e (λz=>nomatch z) h
 |@frz a ob xs ea=>
  cases (show u=Value.ref a from g);obtain⟨_,_,_,n,_,j⟩:=(show dA X.prog X.w H s.heap a (.frz ob (.lst xs))from I.hok a _ ea)
  exact kI PySem.W.kitx_list I.kIn ⟨_,j,rfl⟩ e (λz=>nomatch z) h
 |@tup a xs ea=>
  cases (show u=Value.ref a from g);obtain⟨_,_,_,p,_⟩:=(show dA X.prog X.w H s.heap a (.tup xs)from I.hok a _ ea)
  obtain⟨o,j,l,_⟩:=p;exact kI PySem.W.kitx_tuple I.kIn ⟨o,j,l⟩ e (λz=>nomatch z) h
 |@dK a kvs ea=>
  cases (show u=Value.ref a from g);obtain⟨_,_,w,_,p⟩:=(show dA X.prog X.w H s.heap a (.dK kvs)from I.hok a _ ea)
  obtain⟨o,r,v,j,l,_⟩:=p;exact kI PySem.W.kitx_dict I.kIn ⟨o,j,l.1⟩ e (λz=>nomatch z) h
 |@dT a kvs ea=>
  cases (show u=Value.ref a from g);obtain⟨_,_,xs,_,o,r,v,j,l,_⟩:=(show dA X.prog X.w H s.heap a (.dT kvs)from I.hok a _ ea)
  exact kI PySem.W.kitx_dict I.kIn ⟨o,j,l.1⟩ e (λz=>nomatch z) h
 |@ins a C dx fs ea cl ha hn uJ hm=>
  cases (show u=Value.ref a from g);obtain⟨D,O,_⟩:=wg I.hok ea;obtain⟨B,J,_⟩:=O.look;exact kI (PySem.W.kitx_own (cl.get _) cl.hd ha hn uJ hm) I.kIn J e (λz=>nomatch z) h
end
structure cT(k:Nat)(A:a9):Prop where
 hd:A.handled=ac
 dp:A.depth+3*k+5<recursionLimit
 un:A.units+16*k+200<cLine
theorem cT.mono{j k:Nat}{A:a9}(r:cT k A)(h:j<=k):cT j A:=⟨r.hd,by have:=r.dp;lia,by have:=r.un;lia⟩
theorem cT.deeper{k:Nat}{A:a9}(r:cT (k+1) A)(a:Env):cT k (A.deeper a) :=⟨r.hd,by have:=r.dp;show A.depth+1+3*k+5<_;lia,by have:=r.un;show A.units+3+16*k+200<_;lia⟩
theorem Rw{A:a9}{C:ae}{a:List ai}{b:List (Str×ai)}:(A.«under» (.builtin "type.__call__" ⟨.ref C::a,b⟩)).depth=A.depth+1:=by
 first|rfl|simp[Around.«under»,Code.weight,Code.isCreation,Code.isGuard,Code.isCaller,Code.frames,Code.isFrame,guardIds]
theorem QH{A:a9}{C:ae}{a:List ai}{b:List (Str×ai)}:(A.«under» (.builtin "type.__call__" ⟨.ref C::a,b⟩)).units=A.units+1:=by
 first|rfl|simp[Around.«under»,Code.cUnits,Code.frames,Code.isFrame]
theorem cT.make{k:Nat}{A:a9}(r:cT (k+1) A)(C:ae)(a:List ai)(b:List (Str×ai)):cT k (A.«under» (.builtin "type.__call__" ⟨.ref C::a,b⟩)) :=⟨r.hd,by have:=r.dp;rw[Rw];lia,by have:=r.un;rw[QH];lia⟩
theorem cT.depth{k:Nat}{A:a9}(r:cT k A):A.depth<recursionLimit:=by have:=r.dp;lia
theorem cT.units{k:Nat}{A:a9}(r:cT k A):A.units+64<cLine:=by have:=r.un;lia
def LB:TA:=λ_ H Q=>Q [] H
def Lq(c:TE)(b:TA):TA:=λa H Q=>c a H λx f=>b a f λxs d=>Q (x::xs) d
section
variable{X:Cx}{e:az}{c:List az}{d:TE}{t:TA}{a:Pos}
theorem lq:PA X [] LB:=λ_ _ _ _ H Q I h=>Hm ⟨[],H,I,.nil,h⟩
theorem jp(p:PE X e d)(o:PA X c t)(n:aL (e::c) X.env=(aj,aQ e X.env)::aL c X.env:=by rfl):PA X (e::c) (Lq d t):=by intro a f s b H Q I h;rw[n];show ax _ _ (spliced ((aj,aQ e X.env)::cJ a (aL c X.env))) _ _ s;refine BY (bf (p f s b H _ I h) λu g ⟨x,w,r,j,m⟩=>?_);exact bf (o a f g b w _ r m) λy z ⟨xs,v,q,i,l⟩=>⟨x::xs,v,q,.cons j i,l⟩
def Nd(t:TA):TE:=λf H Q=>t f H λxs b=>xs.length<=bq/\∀p,b p=ac->Q (.ref p) (upd b p (.tup xs))
def Jj(t:TA):TE:=λf H Q=>t f H λxs b=>xs.length<=bq/\∀p,b p=ac->Q (.ref p) (upd b p (.lst xs))
theorem Ku{x1}(h:PA X c t):PE X (.Tuple c x1 a) (Nd t):=by intro o s j H Q I m;refine wpAny_Tuple_spliced (bf (h a o s j H _ I m) λl f ⟨xs,i,g,r,z,q⟩=>⟨by rw[<-r.length];exact z,?_⟩);have n:i f.heap.objs.size=ac:=g.hok.fresh (bv _);refine⟨.ref f.heap.objs.size,upd i f.heap.objs.size (.tup xs),g.laid (t':=f.toks) (λb u e=>bp _ e) (bv _) ?_,rfl,q _ n⟩;exact⟨z,l,r,⟨⟨_,cD _ rfl,rfl,_,rfl⟩,_,cD _ rfl,rfl⟩⟩
theorem QP(h:PA X c t):PE X (.List c a) (Jj t):=by intro o s j H Q I m;refine wpAny_List_spliced (bf (h a o s j H _ I m) λl f ⟨xs,i,g,r,z,q⟩=>⟨by rw[<-r.length];exact z,?_⟩);have n:i f.heap.objs.size=ac:=g.hok.fresh (bv _);refine⟨.ref f.heap.objs.size,upd i f.heap.objs.size (.lst xs),g.laid (t':=f.toks) (λb u e=>bp _ e) (bv _) ?_,rfl,q _ n⟩;exact⟨z,l,0,r,cD _ rfl⟩
end
abbrev Sp:=List V->Hp->VK->XK->Prop
abbrev eY:=List Env->Hp->ao->XK->ai->ao->Prop
structure nV(P:bb)(w:aS)(K:aw)(mg:Str->Option ai)(base:aD)(A:a9)(outer:List Env)(s:ao)(H:Hp):Prop where
 frames:A.frames=aa outer
 mod:Mod K mg base
 bs:∀b o,base.get? b=aa o->s.heap.get? b=aa o/\H b=ac
 bsz:base.objs.size<=s.heap.objs.size
 funs:s.heap.FunFrames base outer
 frf:∀b∈fg outer,H b=ac
 hok:c7 P w H s.heap
 bare:mL s.gens
 tab:vb K H
def CE(a:List Env)(P:bb)(w:aS)(H:Hp)(s:ao)(Q:VK)(u:ai)(b:ao):Prop :=
 ∃v c,b.os=s.os/\mL b.gens/\Un (fg a) [] H c s.heap b.heap/\c7 P w c b.heap/\RelV v u/\Q v c
def CR(c:eY)(a:List Env)(P:bb)(w:aS)(H:Hp)(s:ao)(Q:VK)(E:XK)(r:Result)(b:ao):Prop :=
 match r with
 |.ok (.ret u)=>CE a P w H s Q u b
 |.ok _=>False
 |.error e=>c a H s E e b
structure fR(P:bb)(w:aS)(K:aw)(mg:Str->Option ai)(base:aD)(CX:eY)(k:Nat)(f:ae)(fd:fF)(ps:List Str)(sp:Sp):Prop where
 len:∀vs H Q E,sp vs H Q E->vs.length=ps.length
 run:∀(A:a9) (outer:List Env) (s:ao) (H:Hp) (args:Args) (us:List ai) (vs:List V) (Q:VK) (E:XK),cT k A->nV P w K mg base A outer s H->BindsTo s fd args (ps.zip us)->bI vs us->sp vs H Q E ->
  j3 (aA P w) A (.call (.ref f) args) (CR CX outer P w H s Q E) s
theorem nV.make{P:bb}{w:aS}{K:aw}{c:Str->Option ai}{b:aD}{A:a9}{a:List Env}{s:ao}{H:Hp}(e:nV P w K c b A a s H)(C:ae)(d:List ai)(f:List (Str×ai)):nV P w K c b (A.«under» (.builtin "type.__call__" ⟨.ref C::d,f⟩)) a s H:=⟨by first|exact e.frames | (simpa[Around.«under»,Code.envs,Code.isFrame,pushEnvs]using e.frames),e.mod,e.bs,e.bsz,e.funs,e.frf,e.hok,e.bare,e.tab⟩
section
variable{X:Cx}{f:List (ae×Obj)}{a:St}{H:Hp}{s c:ao}
theorem Inv.env0(I:Inv X f a H s):nV X.prog X.w X.K X.mg X.base X.A X.stack s H :=⟨I.ok.frames,I.ok.mod,I.bs,dr I.ok.bsz I.sz,I.stack,I.stkFree,I.hok,I.bare,I.tab⟩
theorem Inv.after{Q:VK}{u:ai}(I:Inv X f a H s)(h:CE X.stack X.prog X.w H s Q u c):EP X f a Q u c:=by obtain⟨v,o,m,i,un,l,r,q⟩:=h;obtain⟨n,g,d,t,j⟩:=c;obtain rfl:j=s.os:=m;exact⟨v,o,I.call (h':=n) (g':=g) (d':=d) (t':=t) (ch:=[]) un l i (λb z=>absurd z (by simp)),r,q⟩
end
def KM(d:Sp)(a:List V)(E:XK)(t:TA):TE:=λb H Q=>t b H λc f=>d (c++a) f Q E
def Binds(K:aw)(c:fF)(a:List Str)(b:List ai):Prop :=
 ∀(s:ao) (us:List ai),K.In s.heap->(us++b).length=a.length->BindsTo s c ⟨us,[]⟩ (a.zip (us++b))
theorem Binds.all{K:aw}{d:fF}{b:List Str}(h:∀a:List ai,a.length=b.length->fG d ⟨a,[]⟩=pure (b.zip a)):Binds K d b []:=λs a _ c=>by rw[gI]at c ⊢;exact .of_eq (h a c)
def qO(c:eY)(X:Cx)(E:XK):Prop:=∀(b:List (ae×Obj)) (a:St) (H:Hp) (s:ao) (e:ai) (s':ao),Inv X b a H s->c X.stack H s E e s'->X.xe e s'
section
variable{X:Cx}{l:eY}{k:Nat}{f C:ae}{j:fF}{d:List Str}{i:Sp}{a:List V}{c:List ai}{E:XK}{x m:Str}{p b n:Pos}{e o:az}{g:List az}{v:TE}{t:TA}
theorem RO{A:List (ae×Obj)}{z:St}{H:Hp}{s:ao}{Q:VK}{q:List ai}{y:List V}(F:fR X.prog X.w X.K X.mg X.base l k f j d i)(J:cT k X.A)(M:Binds X.K j d c)(L:bI a c)(G:qO l X E)(I:Inv X A z H s) (r:bI y q) (h:i (y++a) H Q E):ax (aA X.prog X.w) X.A (call (.ref f) q) (EP X A z Q) X.xe s:=by
 have B:bI (y++a) (q++c):=r.append L;have K:(q++c).length=d.length:=by rw[<-B.length];exact F.len _ _ _ _ h
 refine ro (mR (F.run X.A X.stack s H ⟨q,[]⟩ (q++c) (y++a) Q E J I.env0 (M s q I.kIn K) B h) λr D w=>?_);cases r with
 |error e=>exact G A z H s e D I w
 |ok N=>
  cases N with
  |ret u=>exact I.after w
  |next=>exact eT w
  |brk=>exact eT w
  |cont=>exact eT w
theorem DZ(F:fR X.prog X.w X.K X.mg X.base l k f j d i)(z:cT k X.A)(D:Gl X x)(A:X.mg x=aa (.ref f))(B:iS X.K (.ref f)=ah)(K:Binds X.K j d c)(J:bI a c)(y:qO l X E)(L:PA X (e::g) t) (M:(x==("__debug__":Str))=aj:=by decide) (G:aL (e::g) X.env=(aj,aQ e X.env)::aL g X.env:=by rfl) (N:(cJ b (aL g X.env)).any (·.1)=aj:=by rfl):PE X (.Call (.Name x p) (e::g) [] b) (KM i a E t):=by intro O s w H Q I h;refine ui (pL I D A ?_ M);refine xZ (h₀:=X.base) I.ok.mod.kin B (bf (L b O s w H _ I h) λS T ⟨P,W,u,r,q⟩=>⟨u.kIn,?_⟩) G N;exact RO F z K J y u r q
structure Mk(K:aw)(C f:ae):Prop where
 makes:PySem.W.makesIn K C=ah
 init:g7 K (.ref C) "__init__"=aa (aa (.ref f))
 fn:xX K (.ref f)=ah
 kp:iS K (.ref C)=ah
end
structure bK(N P:List Str)(sc:dZ):Prop where
 kind:sc.kind=.function
 co:sc.isCoroutine=aj
 gen:sc.isGenerator=aj
 nd:N.Nodup
 pre:N.take P.length=P
 par:∀x∈P,sc.names.lookup x=aa .local\/sc.names.lookup x=aa .cell
 nofree:∀y∈sc.names,y.2≠.free
theorem Fh{a:Str->Option gv}{x:Str}:∀{binds:List (Str×ai)}{m:Str->Option ai},(∀v,(x,v)∉binds)->bindL a binds m x=m x
 |[],_,_=>rfl
 | (n,v)::r,m,h=>by
  unfold bindL;rw[Fh λw b=>h w (jv _ b)];split
  .have:x≠n:=by rintro rfl;exact h v mM
   simp[this]
  .rfl
theorem G5{a:Str->Option gv}{x:Str}:∀{binds:List (Str×ai)}{m:Str->Option ai},(∀v,(x,v)∉binds)->bindC a binds m x=m x
 |[],_,_=>rfl
 | (n,v)::r,m,h=>by
  unfold bindC;rw[G5 λw b=>h w (jv _ b)];split
  .rfl
  .have:x≠n:=by rintro rfl;exact h v mM
   simp[this]
theorem DM{a:Str->Option gv}{x:Str}{v:ai}:∀{P:List Str}{b:List ai}{i:Nat}{m:Str->Option ai},P.Nodup->P[i]?=aa x->b[i]?=aa v->a x=aa .local -> bindL a (P.zip b) m x=aa v
 |[],_,_,_,_,h,_,_=>by simp at h
 |_::_,[],_,_,_,_,h,_=>by simp at h
 |p::P,w::b,0,m,nd,h1,h2,hk=>by simp at h1 h2;subst h1;subst h2;show bindL a ((p,w)::P.zip b) m p=_;unfold bindL;rw[Fh λv c=>(mS.mp nd).1 (x6 c).1,if_pos hk];simp
 |p::P,w::b,i+1,m,nd,h1,h2,hk=>by show bindL a ((p,w)::P.zip b) m x=_;unfold bindL;exact DM (i:=i) (mS.mp nd).2 (by simpa using h1) (by simpa using h2) hk
theorem GZ{a:Str->Option gv}{x:Str}{v:ai}:∀{P:List Str}{b:List ai}{i:Nat}{m:Str->Option ai},P.Nodup->P[i]?=aa x->b[i]?=aa v->a x≠aa .local -> bindC a (P.zip b) m x=aa v
 |[],_,_,_,_,h,_,_=>by simp at h
 |_::_,[],_,_,_,_,h,_=>by simp at h
 |p::P,w::b,0,m,nd,h1,h2,hk=>by simp at h1 h2;subst h1;subst h2;show bindC a ((p,w)::P.zip b) m p=_;unfold bindC;rw[G5 λv c=>(mS.mp nd).1 (x6 c).1,if_neg hk];simp
 |p::P,w::b,i+1,m,nd,h1,h2,hk=>by show bindC a ((p,w)::P.zip b) m x=_;unfold bindC;exact GZ (i:=i) (mS.mp nd).2 (by simpa using h1) (by simpa using h2) hk
def start(N:List Str)(a:List V):St:=a.map aa++a8 (N.length-a.length) ac
def gS(g:eY)(P:bb)(w:aS)(K:aw)(mg:Str->Option ai)(base:aD)(N:List Str)(b:Str)(a:dZ)(f:ae)(d:ai)(A:a9)(outer:List Env)(s:ao)(H:Hp)(E:XK):Cx where
 prog:=P
 w:=w
 K:=K
 mg:=mg
 base:=base
 A:=A.deeper (g8 b a s.heap.objs.size f d)
 N:=N
 s₀:=s
 H₀:=H
 env:=g8 b a s.heap.objs.size f d
 outer:=outer
 stack:=g8 b a s.heap.objs.size f d::outer
 ex:=[]
 calm:=ah
 fn:=λ_=>ah
 pn:=[]
 xe:=λe s'=>ax (aA P w) (A.deeper (g8 b a s.heap.objs.size f d)) (leaving (g8 b a s.heap.objs.size f d) e) (λ_ c=>g outer H s E e c) (λh c=>g outer H s E h c) s'
theorem Dz{a:dZ}{n:Nat}{x:Str}(h:a.names.lookup x=aa .cell):∃c,(fH n a.names []).lookup x=aa c:=by have q:=Hn a.names n [] (.inl h);exact BZ.mp q
theorem EO{X:eY}{P:bb}{w:aS}{K:aw}{O:Str->Option ai}{o:aD}{N B:List Str}{j:Str}{d:dZ}{f:ae}{L:ai}{A:a9}{g:List Env}{s Q:ao}{H:Hp}{E:XK}{M:List ai}{t:List V}(S:bK N B d) (Z:A.handled=ac) (m:nV P w K O o A g s H) (hl:t.length=B.length) (r:bI t M)(x:InCallC s s.heap.objs.size (bindL (g8 j d s.heap.objs.size f L).kindOf (B.zip M) λ_=>ac) (fH (s.heap.objs.size+1) d.names []) (bindC (g8 j d s.heap.objs.size f L).kindOf (B.zip M) λ_=>ac) Q):Inv (gS X P w K O o N j d f L A g s H E) [] (start N t) H Q:=by
 have dR:B.length<=N.length:=by have:=congrArg jx S.pre;rw[jy]at this;lia
 obtain⟨J,tk,rfl,W⟩:=x.done;have C:∀b:ae,b∉(gS X P w K O o N j d f L A g s H E).ex:=λb z=>absurd (show b∈([]:List ae)from z) (by simp);refine⟨⟨m.mod,S.kind,rfl,rfl,bv _,λy z c J l=>?_,λy D=>?_,λy c _ h=>?_,λ_=>Z,Around.frames_deeper m.frames,.inr ⟨rfl,rfl⟩,λb z=>absurd z (C b),m.bs,m.bsz,λb _ _=>C b,λb z=>absurd z (C b),m.funs,m.frf,m.tab⟩,rfl,m.bare,Un.kept W,⟨_,x.toInCall.ns,λi y v J l h3=>?_⟩,λy c h=>⟨_,x.cell y c h⟩,m.hok.fresh (bv _),λy c h=>?_,λp G=>absurd (show p∈([]:List (ae×Obj))from G) (by simp),m.hok.kept W,?_⟩
 .exact name_of_addr x.apart (kJ J) (kJ l)
 .have D:d.names.lookup y=aa .cell\/d.names.lookup y=aa .free:=D;rcases D with D|D
  .exact Dz D
  .exact absurd rfl (S.nofree _ (kJ D))
 .exact pP (x.above y c (kJ h))
 .have I:i<t.length:=by
   unfold start at l;by_cases I:i<t.length
   .exact I
   .rw[mT (by simpa using I)]at l;rw[List.getElem?_replicate]at l;split at l <;> cases l
  have ha:t[i]?=aa v:=by
   unfold start at l;rw[iy (by simpa using I),iT]at l;cases e:t[i]? with
   |none=>rw[e]at l;cases l
   |some a=>rw[e]at l;cases l;rfl
  obtain⟨u,T,Y⟩:=r.get ha;have G:B[i]?=aa y:=by rw[<-S.pre,Ho ∅];exact J
  have F:B.Nodup:=by rw[<-S.pre];exact S.nd.sublist (List.take_sublist _ _)
  refine⟨u,Y,?_⟩;rcases S.par y (List.mem_of_getElem? G)with k|k
  .exact .inl ⟨k,DM F G T k⟩
  .obtain⟨c,e⟩:=Dz (n:=s.heap.objs.size+1) k;refine .inr ⟨.inl k,c,e,?_⟩;have q:=x.cell y c e;rw[GZ F G T (by show d.names.lookup y≠_;rw[k];decide)]at q;exact q
 .exact m.hok.fresh (pP (x.above y c (kJ h)))
 .unfold start;show _=N.length;rw[dy,c0,List.length_replicate];lia
theorem IR{M:eY}{P:bb}{w:aS}{K:aw}{L:Str->Option ai}{h:aD}{k:Nat}{f:ae}{m d:Str}{g:Arguments}{i:List aT}{a:dZ}{dV kV F pm z ct oc:ai}{an od:Option ae}{X:Array (Option ai)}{N G:List Str}{O:Sp} (lk:K.lookup f=aa ⟨oc,od,.func (fX m d g i a dV kV F pm an z ct),X⟩) (cj:pS K z d=ah) (S:bK N G a)(len:∀l H Q E,O l H Q E->l.length=G.length)(fP:∀(A:a9) (c:List Env) (s:ao) (H:Hp) (l:List V) (Q:VK) (E:XK),cT k (A.deeper (g8 d a s.heap.objs.size f z))->O l H Q E -> ∃t,lA (gS M P w K L h N d a f z A c s H E) i t/\t {nx:=λ_ p=>Q .non p,rt:=Q} (start N l) H):fR P w K L h M (k+1) f (fX m d g i a dV kV F pm an z ct) G O:=by
 refine⟨len,λA c s H args us l Q E Z D hb r gL=>?_⟩;have hl:=len _ _ _ _ gL;have KX:K.In s.heap:=D.mod.kin.keeps λb o e=>(D.bs b o e).1;have Y:s.heap.NoLimit:=D.mod.nolimit.keeps λb o e=>(D.bs b o e).1;have Cw:∀y∈G.zip us,a.names.lookup y.1=aa .local\/(a.names.lookup y.1=aa .cell/\((fH (s.heap.objs.size+1) a.names []).lookup y.1).isSome=ah):=λ⟨n,v⟩ hy=>by
  rcases S.par n (x6 hy).1 with q|q
  .exact .inl q
  .exact .inr ⟨q,Hn _ _ _ (.inl q)⟩
 refine codeAny_call_function Z.depth (KX _ _ lk) rfl S.co S.gen rfl (PySem.W.codeRec_of KX cj) (hb _ _ _ _ ?_);refine wpAny_newFunctionEnv_cells S.kind Cw λenv he s1 x=>?_;subst he;refine⟨Y.keeps x.toInCall.keep,codeAny_func ?_⟩;obtain⟨t,ht,hq⟩:=fP A c s H l Q E (Z.deeper _) gL;have I:Inv (gS M P w K L h N d a f z A c s H E) [] (start N l) H s1:=EO S Z.hd D hl r x;refine dw (ht [] s1 (start N l) H _ I hq) (λfl T B=>?_) λe T B=>B;have C:∀{j:St}{p:Hp}{v:V}{u:ai},Inv (gS M P w K L h N d a f z A c s H E) [] j p T->RelV v u->Q v p->CE c P w H s Q u T :=λ{j p v u} J W q=>⟨v,p,J.os,J.bare,J.base,J.hok,W,q⟩
 cases fl with
 |ret u=>obtain⟨v,j,p,J,W,q⟩:=B;exact C J W q
 |next=>obtain⟨j,p,J,q⟩:=B;exact C (v:=V.non) (u:=Value.none) J rfl q
 |brk=>obtain⟨_,_,_,q⟩:=B;exact eT q
 |cont=>obtain⟨_,_,_,q⟩:=B;exact eT q
section
variable{X:Cx}{x:Str}{p a:Pos}{e:az}{b:List az}{t:TA}{c T:String}{r:List V->Hp->VK->Prop}
def Ge(r:List V->Hp->VK->Prop)(t:TA):TE:=λd H Q=>t d H λf g=>r f g Q
theorem rh(w:eV X (.builtin c) r)(u:Gl X x)(q:X.mg x=ac)(n:d9 x=aa (.builtin c))(y:PA X (e::b) t)(o:x≠"__name__":=by decide)(z:(x==("__debug__":Str))=aj:=by decide)(v:aL (e::b) X.env=(aj,aQ e X.env)::aL b X.env:=by rfl) (A:(cJ a (aL b X.env)).any (·.1)=aj:=by rfl):PE X (.Call (.Name x p) (e::b) [] a) (Ge r t):=by intro f s d H Q I h;refine ui (qY I u q n ?_ o z);exact PyProof.Rows.callWith_builtin1 (bf (y a f s d H _ I h) λi j ⟨g,C,B,l,m⟩=>w f j d C g i Q B l m) v A
theorem A3(w:eV X (.type T) r)(u:Gl X x)(q:X.mg x=ac)(n:d9 x=aa (.type T))(y:PA X (e::b) t)(o:x≠"__name__":=by decide)(z:(x==("__debug__":Str))=aj:=by decide)(v:aL (e::b) X.env=(aj,aQ e X.env)::aL b X.env:=by rfl) (A:(cJ a (aL b X.env)).any (·.1)=aj:=by rfl):PE X (.Call (.Name x p) (e::b) [] a) (Ge r t):=by intro f s d H Q I h;refine ui (qY I u q n ?_ o z);exact BU (bf (y a f s d H _ I h) λi j ⟨g,C,B,l,m⟩=>w f j d C g i Q B l m) v A
end
end L2
namespace HT
section
open PySem.SeqAt
open PySem.AutoSeq1 (wpAny_loadPart')
open PySem.MeetsSeq PySem.MeetsSeq2 PySem.MeetsSeq3
end
section
variable{a:bb}{w:aS}{A:a9}{E:ai->ao->Prop}{s:ao}
theorem cat_tup{t b:ae}{d c:List ai}{Q:ai->ao->Prop}(B:IsTup s.heap t d.toArray)(C:IsTup s.heap b c.toArray)(u:d≠[])(F:c=[]->Q (.ref t) s) (D:c≠[]->Q (.ref s.heap.objs.size) {s with heap:=s.heap.push {cls:=.type "tuple",data:=.seq (d++c).toArray}})(l:d.length+c.length<=bq):ax (aA a w) A (gu .Add (.ref t) (.ref b)) Q E s:=by
 obtain⟨⟨cls,y,data,o⟩,j,x,n,v⟩:=id B;obtain⟨⟨z,g,m,f⟩,h,r,q,p⟩:=id C;simp only at x v r p;subst x v r p;have e:d.toArray++c.toArray=(d++c).toArray:=by simp
 by_cases i:c=[]
 .exact concat_meets ⟨_,j,rfl⟩ ⟨_,h,rfl⟩ Hq seq_tuple_add Hr Hs (Ht _ _)
   (tuple_addW1 t b d.toArray c.toArray n q y g o f (by simpa using u) (by simp[i])) ⟨j,h,F i⟩
 .refine concat_meets ⟨_,j,rfl⟩ ⟨_,h,rfl⟩ Hq seq_tuple_add Hr Hs (Ht _ _)
   (tuple_addW2 t b d.toArray c.toArray n q y g o f (by simpa using u) (by simpa using i) (by rw[cO,cO];exact l)) ⟨j,h,?_⟩
  rw[e];exact D i
def sIx(n d:Nat):Option Int->Nat
 |none=>d
 |some v=>if v<0 then(v+(n:Int)).toNat else min v.toNat n
theorem sIx_nat(n d k:Nat):sIx n d (aa (k:Int))=min k n:=by show(if(k:Int)<0 then((k:Int)+(n:Int)).toNat else min (k:Int).toNat n)=min k n;rw[if_neg ∅,je]
theorem sIx_le(n d:Nat)(c:d<=n)(o:Option Int):sIx n d o<=n:=by
 cases o with
 |none=>exact c
 |some v=>
  show(if v<0 then(v+(n:Int)).toNat else min v.toNat n)<=n;by_cases b:v<0
  .rw[if_pos b];lia
  .rw[if_neg b];exact Nat.min_le_right _ _
theorem Dj(v:Int)(n d:Nat):(if v<0 then max (v+(n:Int)) 0 else min v (n:Int))=((sIx n d (aa v):Nat):Int):=by
 show(if v<0 then max (v+(n:Int)) 0 else min v (n:Int))=(((if v<0 then(v+(n:Int)).toNat else min v.toNat n):Nat):Int)
 by_cases b:v<0
 .simp only[if_pos b];lia
 .simp only[if_neg b];lia
theorem Lz(b c:Option Int)(n:Nat):Hu b c 1 (n:Int)=(((sIx n 0 b:Nat):Int),((sIx n n c:Nat):Int)):=by
 have d:¬((1:Int)<0):=∅
 unfold Hu;simp only[d,if_false];refine Prod.ext ?_ ?_
 .cases b with
  |none=>rfl
  |some v=>exact Dj v n 0
 .cases c with
  |none=>rfl
  |some v=>exact Dj v n n
theorem OF(i j:Nat):rq (i:Int) (j:Int) 1=j-i:=by
 unfold rq;have b:(1:Int) > 0:=∅
 simp only[b,if_true,Int.ediv_one];split <;> lia
theorem Bn{v:ai}{o:Option Int}{Q:Option Int->ao->Prop}(p:jz v o)(h:Q o s):ax (aA a w) A (Builtin.Slice.slicePartIndex v) Q E s:=by
 cases p with
 |none=>exact B1 h
 |int i t=>exact slicePart_int h
theorem Gd{j:ae}{f d:ai}{b c:Option Int}{n:Nat}{Q:Int×Int×Nat->ao->Prop}(o:s.heap.IsSliceOf j f d .none)(m:jz f b)(l:jz d c)(h:Q (((sIx n 0 b:Nat):Int),1,sIx n n c-sIx n 0 b) s):ax (aA a w) A (B2 (.ref j) (pure (n:Int))) Q E s:=by
 obtain⟨q,i,p,g⟩:=id o;unfold B2 Builtin.Slice.sliceFields;refine aq (aq (gJ i g (x:=f) rfl (aq (gJ i g (x:=d) rfl (aq (gJ i g (x:=.none) rfl (aI ?_)))))));refine aq (B1 ?_);show ax _ _ (if((1:Int) == 0)=ah then _ else _) _ _ s;rw[if_neg (by decide)];refine aq (Bn m (aq (Bn l (aq (aI ?_)))));show ax _ _ (match Hu b c 1 (n:Int)with | (b,c)=>pure (b,(1:Int),rq b c 1)) _ _ s;rw[Lz b c n];show ax _ _ (pure (((sIx n 0 b:Nat):Int),(1:Int),rq ((sIx n 0 b:Nat):Int) ((sIx n n c:Nat):Int) 1)) _ _ s;rw[OF];exact aI h
theorem NR(xs:Array ai)(i k:Nat):((cy k).filterMap λ(m:Nat)=>xs[((i:Int)+(m:Int)*1).toNat]?).toArray=((xs.toList.drop i).take k).toArray:=by
 have e:(λ(m:Nat)=>xs[((i:Int)+(m:Int)*1).toNat]?)=λm=>xs[i+m]?:=by
  funext m;have:((i:Int)+(m:Int)*1).toNat=i+m:=∅
  rw[this]
 rw[e];have:=pick_run xs i k;rw[Hv]at this;have b:((λx=>xs[x]?) ∘ λx=>i+x)=λm=>xs[i+m]?:=rfl;rw[b]at this;rw[this]
theorem getItem_tuple_cut{t i:ae}{b:Array ai}{n l:ai}{c d:Option Int}{Q:ai->ao->Prop}(g:IsTup s.heap t b)(o:s.heap.IsSliceOf i n l .none)(v:jz n c)(u:jz l d)(z:¬(sIx b.size 0 c=0/\sIx b.size b.size d=b.size))(h:Q (.ref s.heap.objs.size) {s with heap:=s.heap.push {cls:=.type "tuple",data:=.seq ((b.toList.drop (sIx b.size 0 c)).take (sIx b.size b.size d-sIx b.size 0 c)).toArray}})(B:b.size<=bq):ax (aA a w) A (kK (.ref t) (.ref i)) Q E s:=by
 have f:sizeOk (.seq ((b.toList.drop (sIx b.size 0 c)).take (sIx b.size b.size d-sIx b.size 0 c)).toArray):=by show((b.toList.drop (sIx b.size 0 c)).take (sIx b.size b.size d-sIx b.size 0 c)).toArray.size<=bq;rw[cO,jy,kL,xU];lia
 have G:sIx b.size b.size d<=b.size:=sIx_le _ _ (bv _) d;obtain⟨x,y,r,F⟩:=id o;have p:s.TypeIs (.ref i) "slice":=⟨x,y,r⟩
 unfold kK
 try with_reducible refine mU ?_
 first|refine aq (aI ?_)|skip
 refine aq (Hw g.typeIs (by decide) ?_);refine aq (rA (name:=oO "__getitem__") g.typeIs uj (mV uj g.typeIs Hx ?_ (Hy _ _)));show ax _ _ (Hz (.ref t) >>= _) _ _ s;refine aq (tupleItemsOf_ g ?_);refine aq (uk p ?_);rw[if_pos (by decide)];refine aq (Gd o v u ?_);have j:¬((((sIx b.size 0 c:Nat):Int) == 0&&(1:Int) == 1&&(sIx b.size b.size d-sIx b.size 0 c) == b.size)=ah):=by intro q;rw[fI,fI]at q;have D:((sIx b.size 0 c:Nat):Int)=0:=eq_of_beq q.1.1;have C:sIx b.size b.size d-sIx b.size 0 c=b.size:=eq_of_beq q.2;exact z ⟨∅,∅⟩
 show ax _ _ (if(((sIx b.size 0 c:Nat):Int) == 0&&(1:Int) == 1&&(sIx b.size b.size d-sIx b.size 0 c) == b.size)=ah then _ else _) _ _ s;rw[if_neg j,NR]
 first
  |exact aq (m:=pT _) (iU (aI ⟨_,rfl,aI h⟩) f)
  |exact aq (m:=pT _) (iU (aq (aI (aI ⟨_,rfl,aI h⟩))) f)
  |exact aq (aq (m:=pT _) (iU (aI (aI ⟨_,rfl,aI h⟩)) f))
  |exact aq (aq (m:=pT _) (iU (aI ⟨_,rfl,aI h⟩) f))
end
end HT
namespace L2
abbrev TO:=St->Hp->(Option Int->Hp->Prop)->Prop
def PO(X:Cx)(e:Option az)(t:TO):Prop :=
 ∀(b:List (ae×Obj)) (s:ao) (a:St) (H:Hp) (Q:Option Int->Hp->Prop),Inv X b a H s->t a H Q ->
  ax (aA X.prog X.w) X.A (evalPart e X.env) (λu d=>∃o c,Inv X b a c d/\jz u o/\Q o c) X.xe s
def Qh:TO:=λ_ H Q=>Q ac H
def K1(t:TE):TO:=λa H Q=>t a H λx b=>∃i,x=.int i/\Q (aa i) b
section
variable{X:Cx}{e:az}{f:TE}{c d:Option az}{g j:TO}{n m:Pos}
theorem Mb:PO X ac Qh:=by intro b s a H Q I h;rw[evalPart_none];exact aI ⟨ac,H,I,.none,h⟩
theorem NW(h:PE X e f):PO X (aa e) (K1 f):=by intro p s a H Q I o;rw[evalPart_some];refine bf (h p s a H _ I o) λu w ⟨x,v,r,b,l⟩=>?_;obtain⟨i,rfl,q⟩:=l;obtain⟨t,rfl⟩:=b;exact⟨aa i,v,r,.int i t,q⟩
def kn(X:Cx)(r:V->Option Int->Option Int->Hp->VK->Prop):Prop :=
 ∀(l:List (ae×Obj)) (s:ao) (a:St) (H:Hp) (x:V) (v h b:ai) (c d:Option Int) (i:ae) (Q:VK),Inv X l a H s->RelV x v->s.heap.IsSliceOf i h b .none->jz h c->jz b d->r x c d H Q ->
  ∃T o,typeLookup (.type T) "__getitem__"=pure (aa (.builtin o))/\s.TypeIs v T/\ax (aA X.prog X.w) X.A (kK v (.ref i)) (EP X l a Q) X.xe s
theorem kn.or{r p:V->Option Int->Option Int->Hp->VK->Prop}(h:kn X r)(z:kn X p):kn X (λx c d H Q=>r x c d H Q\/p x c d H Q):=by
 intro y s a H x v i b c d l Q I o w u t q;rcases q with q|q
 .exact h y s a H x v i b c d l Q I o w u t q
 .exact z y s a H x v i b c d l Q I o w u t q
def O_(r:V->Option Int->Option Int->Hp->VK->Prop)(f:TE)(g j:TO):TE:=λa H Q=>f a H λx i=>g a i λl h=>j a h λu b=>r x l u b Q
theorem M7{r:V->Option Int->Option Int->Hp->VK->Prop}(K:kn X r)(N:PE X e f)(L:PO X c g)(G:PO X d j):PE X (.Subscript e (.Slice c d ac m) n) (O_ r f g j):=by intro o s i H Q I h;refine Subscript_ (bf (N o s i H _ I h) λv z ⟨x,H1,Y,A,D⟩=>?_);refine wpAny_Slice (bf (L o z i H1 _ Y D) λt y ⟨l,Z,W,F,C⟩=>bf (G o y i Z _ W C) λp a ⟨u,w,S,E,B⟩=>?_);rw[evalPart_none];refine aI ?_;have P:Inv X o i w {a with heap:=a.heap.push {cls:=.type "slice",data:=.fields #[t,p,.none]}}:=S.kept (t':=a.toks) λb ob q=>bp _ q;obtain⟨T,id,O,J,M⟩:=K o {a with heap:=a.heap.push {cls:=.type "slice",data:=.fields #[t,p,.none]}} i w x v t p l u a.heap.objs.size Q P A (Heap.IsSliceOf.new ..) F E B;show ax (aA X.prog X.w) X.A (B3 e (.Slice c d ac m) v (.ref a.heap.objs.size)) (EP X o i Q) X.xe {a with heap:=a.heap.push {cls:=.type "slice",data:=.fields #[t,p,.none]}};exact tail_any (ops:=[.ref a.heap.objs.size,v]) J O M (by with_unfolding_all rfl)
def nN(xs:List V)(c d:Option Int):List V:=(xs.drop (HT.sIx xs.length 0 c)).take (HT.sIx xs.length xs.length d-HT.sIx xs.length 0 c)
theorem Di(xs:List V)(c d:Option Int):(nN xs c d).length<=xs.length:=by unfold nN;rw[jy,kL];lia
def FV(K:aw):V->Option Int->Option Int->Hp->VK->Prop:=λx c d H Q=>∃a xs,x=.ref a/\cG K H a xs /\
 ¬(HT.sIx xs.length 0 c=0/\HT.sIx xs.length xs.length d=xs.length)/\∀p,H p=ac->Q (.ref p) (upd H p (.tup (nN xs c d)))
theorem LK:kn X (FV X.K):=by
 intro J s C H x v E D c d F Q I u B y w h;obtain⟨a,xs,rfl,z,A,q⟩:=h;cases u;obtain⟨i,r,t,p⟩:=I.tuple z;have l:i.toArray.size=xs.length:=by rw[cO];exact r.length.symm
 refine⟨"tuple",_,PyProof.Rows.slot_tuple_getitem.lookup,t.typeIs,?_⟩;refine HT.getItem_tuple_cut t B y w (by rw[l];exact A) ?_ (by rw[l];exact p);rw[l];refine⟨.ref s.heap.objs.size,_,I.laid (t':=s.toks) (o:=.tup (nN xs c d)) (λb G q=>bp _ q) (bv _) ?_,rfl,q _ (I.hok.fresh (bv _))⟩;exact⟨dr (Di xs c d) p,_,(r.drop (HT.sIx xs.length 0 c)).take (HT.sIx xs.length xs.length d-HT.sIx xs.length 0 c),Hd.new _ _⟩
def D5(K:aw):R2:=λx y H Q=>∃a b xs h,x=.ref a/\y=.ref b/\cG K H a xs/\cG K H b h/\xs≠[]/\xs.length+h.length<=bq /\
 (h=[]->Q (.ref a) H)/\(h≠[]->∀p,H p=ac->Q (.ref p) (upd H p (.tup (xs++h))))
theorem bI.nil_iff{xs:List V}{a:List ai}(r:bI xs a):a=[]↔xs=[]:=by
 cases r with
 |nil=>simp
 |cons _ _=>simp
theorem SC:bR X (gu .Add) (D5 X.K):=by
 intro N s L H x y v u Q I B A h;obtain⟨a,b,xs,t,rfl,rfl,K,J,G,r,D,C⟩:=h;cases B;cases A;obtain⟨F,l,E,_⟩:=I.tuple K;obtain⟨p,i,m,_⟩:=I.tuple J;refine HT.cat_tup E m (λz=>G (l.nil_iff.mp z)) (λz=>⟨.ref a,H,I,rfl,D (i.nil_iff.mp z)⟩) (λz=>?_) (by rw[<-l.length,<-i.length];exact r);refine⟨.ref s.heap.objs.size,_,I.laid (t':=s.toks) (o:=.tup (xs++t)) (λb M q=>bp _ q) (bv _) ?_,rfl,C (λw=>z (i.nil_iff.mpr w)) _ (I.hok.fresh (bv _))⟩;exact⟨by rw[dy];exact r,_,l.append i,Hd.new _ _⟩
end
def nX(n:Nat)(i:Int):Option Nat:=if 0<=i then(if i<n then aa i.toNat else ac)else if -(n:Int)<=i then aa (i+n).toNat else ac
def dU{a:Type}(xs:List a)(i:Int):Option a:=(nX xs.length i).bind λj=>xs[j]?
theorem K6{n:Nat}{i:Int}{j:Nat}(h:nX n i=aa j):seqIndex? i n=aa j/\j<n/\-(n:Int)<=i/\i<n:=by
 unfold nX at h;by_cases b:0<=i
 .rw[if_pos b]at h;by_cases a:i<n
  .rw[if_pos a]at h;have e:i.toNat=j:=eG h;exact⟨by rw[seqIndex_of b a,e],∅,∅,a⟩
  .rw[if_neg a]at h;cases h
 .rw[if_neg b]at h;by_cases a:-(n:Int)<=i
  .rw[if_pos a]at h;have e:(i+n).toNat=j:=eG h;exact⟨by rw[seqIndex_neg ∅ a,e],∅,a,∅⟩
  .rw[if_neg a]at h;cases h
theorem zf{a:Type}{xs:List a}{i:Int}{v:a}(h:dU xs i=aa v):∃j,seqIndex? i xs.length=aa j/\xs[j]?=aa v/\j<xs.length/\-(xs.length:Int)<=i/\i<xs.length:=by
 unfold dU at h;cases e:nX xs.length i with
 |none=>rw[e]at h;cases h
 |some j=>rw[e]at h;obtain⟨f,d,c,b⟩:=K6 e;exact⟨j,f,h,d,c,b⟩
theorem tK{a:Type}{xs:List a}{j:Nat}{v:a}(h:xs[j]?=aa v):dU xs (j:Int)=aa v:=by
 have b:j<xs.length:=(dW.mp h).1;have e:nX xs.length (j:Int)=aa j:=by unfold nX;rw[if_pos ∅,if_pos ∅];simp
 unfold dU;rw[e];exact h
def Aw(b:az):Prop:=∀o i,B4 b aj o i=operate [o,i] (kK o i)
def lW(X:Cx)(r:R2):Prop :=
 ∀(b a:az) (d:List (ae×Obj)) (s:ao) (c:St) (H:Hp) (x y:V) (v u:ai) (Q:VK),Inv X d c H s->RelV x v->RelV y u->r x y H Q ->
  B4 a aj v u=operate [v,u] (kK v u)->ax (aA X.prog X.w) X.A (B3 b a v u) (EP X d c Q) X.xe s
def ud(X:Cx)(d:String)(r:V->List V->Hp->VK->Prop):Prop :=
 ∀(c:List (ae×Obj)) (s:ao) (a:St) (H:Hp) (x:V) (xs:List V) (v:ai) (b:List ai) (Q:VK),Inv X c a H s->RelV x v->bI xs b->r x xs H Q ->
  ax (aA X.prog X.w) X.A (call (.builtin d) (v::b)) (EP X c a Q) X.xe s
section
variable{X:Cx}{a b:az}{G F:TE}{E:Pos}
theorem lW.or{r j:R2}(h:lW X r)(n:lW X j):lW X (λx y H Q=>r x y H Q\/j x y H Q):=by
 intro c d m s f H x y v u Q I i g q l;rcases q with q|q
 .exact h c d m s f H x y v u Q I i g q l
 .exact n c d m s f H x y v u Q I i g q l
theorem Mi{r:R2}(j:lW X r)(m:PE X a G)(l:PE X b F)(i:Aw b):PE X (.Subscript a b E) (vA r G F):=by intro n s c H Q I h;exact Subscript_ (Bj m l I h λv u d x y p o g f q=>j a b n d c p x y v u Q o g f q (i _ _))
def FF(K:aw):R2:=λx y H Q=>∃p xs i v,x=.ref p/\y=.int i/\cu K H p xs/\dU xs i=aa v/\Q v H
def CN(K:aw):R2:=λx y H Q=>∃p xs i v,x=.ref p/\y=.int i/\cG K H p xs/\dU xs i=aa v/\Q v H
def C5:R2:=λx y H Q=>∃z i c,x=.str z/\y=.int i/\z.length<=bq/\dU z.cps.toList i=aa c/\Q (.str ⟨#[c]⟩) H
theorem SG:lW X (FF X.K):=by
 intro f g J s A H x y v u Q I M L h B;obtain⟨p,xs,i,z,rfl,rfl,N,P,q⟩:=h;cases M;obtain⟨t,rfl⟩:=L;obtain⟨n,r,m,Y⟩:=I.list N;obtain⟨j,d,W,h3,T,S⟩:=zf P;obtain⟨w,D,l⟩:=r.get W;have O:=r.length;have Z:=sX;have c:EP X J A Q w s:=⟨z,H,I,l,q⟩
 by_cases C:0<=i
 .have o:i.toNat=j:=by
   rw[seqIndex_of C S]at d;exact eG d
  exact item_listR m.isList C ∅ (by rw[o];simpa using D) c B
 .have o:(i+(n.toArray.size:Int)).toNat=j:=by
   rw[seqIndex_neg ∅ T]at d;rw[cO,<-O];exact eG d
  exact subscriptTail_builtinR (x:=w) m.isList.typeIs slot_list_getitem.lookup
   (wpAny_getItem_list_neg (Q:=λr K=>r=w/\EP X J A Q r K) m.isList ∅ (by rw[cO] <;> lia) ∅ (by rw[o];simpa using D) ⟨rfl,c⟩) B
theorem SL:lW X (CN X.K):=by
 intro c d n s l H x y v u Q I B A h D;obtain⟨p,xs,i,z,rfl,rfl,J,L,q⟩:=h;cases B;obtain⟨t,rfl⟩:=A;obtain⟨C,r,m,P⟩:=I.tuple J;obtain⟨j,N,M,Y,W,T⟩:=zf L;obtain⟨w,O,f⟩:=r.get M;have K:=r.length;have S:=sX;have g:EP X n l Q w s:=⟨z,H,I,f,q⟩
 exact subscriptTail_builtinR (x:=w) m.typeIs slot_tuple_getitem.lookup
  (getItem_tuple (j:=j) (Q:=λr o=>r=w/\EP X n l Q r o) m ∅ ∅ (by rw[cO,<-K];exact N) (by simpa using O) ⟨rfl,g⟩) D
theorem M5:lW X C5:=by
 intro d f N s D H x y v u Q I m l h n;obtain⟨z,i,c,rfl,rfl,K,p,q⟩:=h;obtain⟨t,rfl⟩:=m;obtain⟨J,rfl⟩:=l;obtain⟨j,g,A,M,w,r⟩:=zf p;have o:z.cps.toList.length=z.length:=by simp[Str.length]
 rw[o]at g w r;have L:=sX;exact tail_any (typeIs_str s z t) slot_str_getitem.lookup (getItem_str (c:=c) (by have C:decide (i < -(2^63:Int))=aj:=decide_eq_false ∅;have B:decide (i ≥ 2^63)=aj:=decide_eq_false ∅;rw[C,B,Bool.or_false]) (by rw[g];simpa using A) ⟨.str ⟨#[c]⟩,H,I.tok _,⟨_,rfl⟩,q⟩) n
def Go(K:aw):R2:=λx y H Q=>FF K x y H Q\/CN K x y H Q\/C5 x y H Q
theorem eE:lW X (Go X.K):=SG.or (SL.or M5)
theorem N5(c d:Option Int)(n:Nat):(rD c d ac n).1=((HT.sIx n 0 c:Nat):Int)/\(rD c d ac n).2.1=((HT.sIx n n d:Nat):Int)/\(rD c d ac n).2.2=1:=by
 refine⟨?_,?_,rfl⟩
 .cases c with
  |none=>simp[rD,HT.sIx]
  |some i=>
   simp only[rD,HT.sIx,HA,show(1:Int) > 0 by decide,if_true];by_cases h:i<0
   .simp only[h,if_true] <;> lia
   .simp only[h,if_false] <;> lia
 .cases d with
  |none=>simp[rD,HT.sIx]
  |some i=>
   simp only[rD,HT.sIx,HA,show(1:Int) > 0 by decide,if_true];by_cases h:i<0
   .simp only[h,if_true] <;> lia
   .simp only[h,if_false] <;> lia
theorem JM(c:List ai)(d f:Option Int):slicePick c.toArray d f ac=((c.drop (HT.sIx c.length 0 d)).take (HT.sIx c.length c.length f-HT.sIx c.length 0 d)).toArray:=by obtain⟨i,h,g⟩:=N5 d f c.toArray.size;unfold slicePick;rw[i,h,g];simp only[sliceRange_one,pick_run,cO] <;> rfl
def EE(K:aw):V->Option Int->Option Int->Hp->VK->Prop:=λx c d H Q=>∃a xs,x=.ref a/\cu K H a xs/\∀p,H p=ac->Q (.ref p) (upd H p (.lst (nN xs c d)))
theorem Sw:kn X (EE X.K):=by
 intro B s u H x v y w c d z Q I g p j i h;obtain⟨a,xs,rfl,n,q⟩:=h;cases g;obtain⟨l,r,f,m⟩:=I.list n;have t:=r.length;refine⟨"list",_,slot_list_getitem.lookup,f.isList.typeIs,?_⟩;refine wpAny_getItem_list_slice f.isList p j i .none (by simp) ?_ (by rw[cO] <;> lia);rw[JM,<-t];refine⟨.ref s.heap.objs.size,_,I.laid (t':=s.toks) (o:=.lst (nN xs c d)) (λb A q=>bp _ q) (bv _) ?_,rfl,q _ (I.hok.fresh (bv _))⟩;exact⟨dr (Di xs c d) m,_,0,(r.drop (HT.sIx xs.length 0 c)).take (HT.sIx xs.length xs.length d-HT.sIx xs.length 0 c),cD _ rfl⟩
def gf:V->Bool
 |.non=>ah
 |.bl _=>ah
 |.int _=>ah
 |.str _=>ah
 |_=>aj
def fh:V->V->Bool
 |.non,.non=>ah
 |.bl a,.bl b=>a == b
 |.bl a,.int b=>(if a then 1 else 0) == b
 |.int a,.bl b=>a == (if b then 1 else 0)
 |.int a,.int b=>a == b
 |.str a,.str b=>a == b
 |_,_=>aj
theorem EG{A:a9}{s:ao}{y x:V}{u v:ai}(f:RelV y u)(c:RelV x v)(h:gf y=ah)(g:gf x=ah):x9 A s u v (fh y x):=by
 cases y with
 |non=>
  cases f;cases x with
  |non=>cases c;exact SeqAt.EqAt.same _
  |bl b=>cases c;exact SeqAt.EqAt.none_bool b
  |int b=>obtain⟨t,rfl⟩:=c;exact SeqAt.EqAt.none_int b t
  |str b=>obtain⟨t,rfl⟩:=c;exact SeqAt.EqAt.none_str b t
  |_=>exact absurd (show aj=ah from g) eQ
 |bl a=>
  cases f;cases x with
  |non=>cases c;exact SeqAt.EqAt.bool_none a
  |bl b=>cases c;exact SeqAt.EqAt.bool_bool a b
  |int b=>obtain⟨t,rfl⟩:=c;exact SeqAt.EqAt.bool_int a b t
  |str b=>obtain⟨t,rfl⟩:=c;exact SeqAt.EqAt.bool_str a b t
  |_=>exact absurd (show aj=ah from g) eQ
 |int a=>
  obtain⟨d,rfl⟩:=f;cases x with
  |non=>cases c;exact SeqAt.EqAt.int_none a d
  |bl b=>cases c;exact SeqAt.EqAt.int_bool a d b
  |int b=>obtain⟨t,rfl⟩:=c;exact SeqAt.EqAt.int_int a d b t
  |str b=>obtain⟨t,rfl⟩:=c;exact SeqAt.EqAt.int_str a d b t
  |_=>exact absurd (show aj=ah from g) eQ
 |str a=>
  obtain⟨d,rfl⟩:=f;cases x with
  |non=>cases c;exact SeqAt.EqAt.str_none a d
  |bl b=>cases c;exact SeqAt.EqAt.str_bool a d b
  |int b=>obtain⟨t,rfl⟩:=c;exact SeqAt.EqAt.str_int a d b t
  |str b=>obtain⟨t,rfl⟩:=c;exact SeqAt.EqAt.str_str a d b t
  |_=>exact absurd (show aj=ah from g) eQ
 |_=>exact absurd (show aj=ah from h) eQ
def jt(x:V)(u:ai):Bool:=match u with
 |.none=>fh .non x
 |.bool b=>fh (.bl b) x
 |.int i _=>fh (.int i) x
 |.str z _=>fh (.str z) x
 |_=>aj
theorem vI{x y:V}{u:ai}(r:RelV y u)(f:gf y=ah):jt x u=fh y x:=by
 cases y with
 |non=>cases r;rfl
 |bl b=>cases r;rfl
 |int i=>obtain⟨t,rfl⟩:=r;rfl
 |str z=>obtain⟨t,rfl⟩:=r;rfl
 |_=>exact absurd (show aj=ah from f) eQ
theorem Am{x:V}:∀{xs:List V}{c:List ai},bI xs c->xs.all gf=ah->c.any (jt x)=xs.any λy=>fh y x
 |_,_,.nil,_=>rfl
 |y::xs,u::c,.cons r t,f=>by rw[mW,fI]at f;rw[pU,pU,vI r f.1,Am t f.2]
theorem sD{A:a9}{s:ao}{x:V}{v:ai}(g:RelV x v)(h:gf x=ah):∀{xs:List V}{d:List ai},bI xs d->xs.all gf=ah->∀u∈d,x9 A s u v (jt x u)
 |_,_,.nil,_=>λu c=>by cases c
 |y::xs,u::d,.cons r t,f=>λi c=>by
  rw[mW,fI]at f;rcases bV.mp c with rfl|c
  .rw[vI r f.1];exact EG r g f.1 h
  .exact sD g h t f.2 i c
def sZ(x:V)(xs:List V):Bool:=xs.any λy=>fh y x
def Aj(K:aw)(c:Bool):R2:=λx y H Q=>∃p xs,y=.ref p/\(cu K H p xs\/cG K H p xs)/\gf x=ah/\xs.all gf=ah/\Q (.bl (if c then !sZ x xs else sZ x xs)) H
theorem Qk:bR X (d_ .In) (Aj X.K aj):=by
 intro o s n H x y v u Q I i l h;obtain⟨p,xs,rfl,d,j,fs,q⟩:=h;cases l;rcases d with d|d
 .obtain⟨c,r,f,m⟩:=I.list d;refine SeqAt.in_listAt (jt x) f.isList (λw g=>sD i j r fs w (by simpa using g)) ⟨.bl _,H,I,rfl,?_⟩;rw[show c.toArray.any (jt x)=c.any (jt x) by simp,Am r fs];exact q
 .obtain⟨c,r,f,m⟩:=I.tuple d;refine SeqAt.in_tupleAt (jt x) f (λw g=>sD i j r fs w (by simpa using g)) ⟨.bl _,H,I,rfl,?_⟩;rw[show c.toArray.any (jt x)=c.any (jt x) by simp,Am r fs];exact q
theorem eV.or{f:ai}{r i:List V->Hp->VK->Prop}(h:eV X f r)(l:eV X f i):eV X f (λxs H Q=>r xs H Q\/i xs H Q):=by
 intro j s c H xs d Q I g q;rcases q with q|q
 .exact h j s c H xs d Q I g q
 .exact l j s c H xs d Q I g q
theorem xD:eV X (.type "list") (λxs H Q=>∃p f,xs=[.ref p]/\(cu X.K H p f\/cG X.K H p f)/\∀l,H l=ac->Q (.ref l) (upd H l (.lst f))):=by
 intro J s B H xs K Q I r h;obtain⟨p,f,rfl,t,q⟩:=h;obtain⟨u,rfl,C⟩:=vals1 r;cases C;have v:∀(c:List ai),bI f c->f.length<=bq->∀(d:aD) (i:Nat),(∀b A,s.heap.get? b=aa A->d.get? b=aa A) ->
   d.get? s.heap.objs.size=aa {cls:=.type "list",dict:=ac,data:=.seq c.toArray i,slots:=#[]}->EP X J B Q (.ref s.heap.objs.size) {s with heap:=d}:=λc g m d i j e=>
  ⟨.ref s.heap.objs.size,_,I.laid (t':=s.toks) j (bv _) (show dA X.prog X.w _ d _ (.lst f)from⟨m,c,i,g,e⟩),rfl,q _ (I.hok.fresh (bv _))⟩
 rcases t with t|t
 .obtain⟨c,g,w,m⟩:=I.list t;have D:=g.length;obtain⟨o,x,z,n,y⟩:=w.isList;exact call_list_seq p (.inl rfl) x z y (λd i j e=>v c g m d i j e) (by simp only[cO] <;> lia)
 .obtain⟨c,g,w,m⟩:=I.tuple t;have D:=g.length;obtain⟨o,x,z,n,y⟩:=w;exact call_list_seq p (.inr rfl) x z y (λd i j e=>v c g m d i j e) (by simp only[cO] <;> lia)
theorem wX:eV X (.type "tuple") (λxs H Q=>∃p d,xs=[.ref p]/\((cu X.K H p d/\∀l,H l=ac->Q (.ref l) (upd H l (.tup d)))\/(cG X.K H p d/\Q (.ref p) H))):=by
 intro n s j H xs y Q I r h;obtain⟨p,d,rfl,h⟩:=h;obtain⟨u,rfl,v⟩:=vals1 r;cases v;rcases h with⟨hq,q⟩|⟨hq,q⟩
 .obtain⟨c,g,i,m⟩:=I.list hq;have z:=g.length;refine call_tuple_list i.isList (λf w=>?_) (by simp only[cO] <;> lia);have t:Inv X n j H {s with heap:=f}:=I.kept (t':=s.toks) w;have x:Inv X n j (upd H f.objs.size (.tup d)) {s with heap:=f.push {cls:=.type "tuple",data:=.seq c.toArray}} :=t.laid (t':=s.toks) (λb o e=>bp _ e) (bv _) (show dA X.prog X.w _ _ _ (.tup d)from⟨m,c,g,Hd.new _ _⟩);exact⟨.ref f.objs.size,_,x,rfl,q _ (t.hok.fresh (bv _))⟩
 .obtain⟨c,g,i,m⟩:=I.tuple hq;exact call_tuple_same i ⟨.ref p,H,I,rfl,q⟩
def BA(K:aw)(T:String)(x:V)(H:Hp):Prop:=match x with
 |.str _=>T = "str"
 |.int _=>T = "int"
 |.ref p=>(T = "list"/\∃xs,cu K H p xs)\/(T = "tuple"/\∃o,K.lookup p=aa o/\o.cls=.type "tuple"/\o.dict=ac) \/
   (T = "dict"/\((∃c,H p=aa (.dK c))\/∃c,H p=aa (.dT c)))\/(T = "set"/\∃S n,H p=aa (.set S n))
 |_=>False
theorem Ea{q:List (ae×Obj)}{l:St}{H:Hp}{s:ao}{T:String}{x:V}{v:ai}(I:Inv X q l H s)(r:RelV x v)(ty:BA X.K T x H):s.TypeIs v T/\∀a,v=.ref a->∃j,s.heap.get? a=aa j/\j.dict=ac:=by
 cases x with
 |str z=>
  obtain⟨t,rfl⟩:=r;cases (show T = "str" from ty);exact⟨typeIs_str s z t,λ_ e=>nomatch e⟩
 |int i=>
  obtain⟨t,rfl⟩:=r;cases (show T = "int" from ty);exact⟨rE s i t,λ_ e=>nomatch e⟩
 |ref p=>
  cases r;rcases ty with⟨rfl,xs,hq⟩|⟨rfl,o,hk,hc,f⟩|⟨rfl,hk⟩|⟨rfl,S,n,hk⟩
  .obtain⟨m,_,h,_⟩:=I.list hq;refine⟨h.isList.typeIs,λa e=>?_⟩;cases e;obtain⟨o,n,e,c,f,_⟩:=h;exact⟨o,e,f⟩
  .refine⟨⟨o,I.kIn p o hk,hc⟩,λa e=>?_⟩;cases e;exact⟨o,I.kIn _ o hk,f⟩
  .have z:∃o,s.heap.get? p=aa o/\o.ExactDict:=by
    rcases hk with⟨kvs,hk⟩|⟨kvs,hk⟩
    .obtain⟨_,_,_,_,o,_,_,e,d,_⟩:=I.hok p _ hk;exact⟨o,e,d⟩
    .obtain⟨_,_,_,_,o,_,_,e,d,_⟩:=I.hok p _ hk;exact⟨o,e,d⟩
   obtain⟨o,e,d⟩:=z;refine⟨⟨o,e,d.1⟩,λa g=>?_⟩;cases g;exact⟨o,e,d.2.1⟩
  .obtain⟨o,_,_,_,e,d,_⟩:=I.hok p _ hk;refine⟨⟨o,e,d.1⟩,λa g=>?_⟩;cases g;exact⟨o,e,d.2.1⟩
 |_=>exact eT ty
def Pm(K:aw)(T:String)(r:V->List V->Hp->VK->Prop)(B:TE):TE:=λd H Q=>B d H λx c=>BA K T x c/\r x [] c Q
def KR(K:aw)(T:String)(r:V->List V->Hp->VK->Prop)(B:TE)(t:TA):TE:=λc H Q=>B c H λx d=>BA K T x d/\t c d λxs f=>r x xs f Q
variable{o e:az}{D:List az}{B:TE}{t:TA}{g:Str}{m d:Pos}{T C:String}{r:V->List V->Hp->VK->Prop}
theorem KU(u:PlainAttrs T)(c:Slot T g C)(y:typeOf (.builtin C)=pure (.type "method_descriptor"))(A:ud X C r)(z:PE X o B)(w:j4 o g X.env (aQ o X.env)=aQ o X.env:=by rfl) (p:(m.endLine == d.line)=ah:=by rfl):PE X (.Call (.Attribute o g m) [] [] d) (Pm X.K T r B):=by intro j s f H Q I h;refine wpAny_Call_method0_late w p (bf (z j s f H _ I h) λv n ⟨x,L,l,i,ty,q⟩=>?_);obtain⟨K,J⟩:=Ea l i ty;exact⟨T,C,u,c,y,K,J,HB rfl (PySem.evalArgs_none (A j n f L x [] v [] Q l i .nil q))⟩
theorem tQ(K:PlainAttrs T)(c:Slot T g C)(M:typeOf (.builtin C)=pure (.type "method_descriptor"))(P:ud X C r)(O:PE X o B)(S:PA X (e::D) t)(L:j4 o g X.env (aQ o X.env)=aQ o X.env:=by rfl)(CA:((cJ d (aL (e::D) X.env)).all (λx=>!x.1)&&(mX d (mY [] X.env)).all (λx=>x.1.isSome)&&decide ((e::D).length+([]:List jA).length+(if([]:List jA).isEmpty then 0 else 1)<30))=ah:=by rfl)(z:(m.endLine == d.line)=ah:=by rfl) (N:aL (e::D) X.env=(aj,aQ e X.env)::aL D X.env:=by rfl) (Cv:(cJ d (aL D X.env)).any (·.1)=aj:=by rfl):PE X (.Call (.Attribute o g m) (e::D) [] d) (KR X.K T r B t):=by intro i s f H Q I h;refine wpAny_Call_method_late L CA z rfl (bf (O i s f H _ I h) λv w ⟨x,H1,n,j,ty,J⟩=>?_);obtain⟨Y,W⟩:=Ea n j ty;refine⟨T,C,K,c,M,Y,W,?_⟩;have l:=S d i w f H1 _ n J;rw[N]at l ⊢;refine HB (by show(aj||(cJ d (aL D X.env)).any (·.1))=aj;rw[Cv] <;> rfl) (HC ?_);exact bf l λq u ⟨p,H2,Z,y,A⟩=>P i u f H2 x p v q Q Z j y A
end
def xN(X:Cx)(d:String)(r:V->List V->Hp->VK->Prop):Prop :=
 ∀(c:List (ae×Obj)) (s:ao) (a:St) (H:Hp) (x:V) (xs:List V) (v:ai) (b:List ai) (Q:VK),Inv X c a H s->RelV x v->bI xs b->r x xs H Q ->
  ax (aA X.prog X.w) X.A (call (.builtin d) (v::b)) (EP X c a Q) X.xe s
theorem bI.one:∀{x:V}{a:List ai},bI [x] a->∃u,a=[u]/\RelV x u
 |_,_,.cons r .nil=>⟨_,rfl,r⟩
theorem bI.zero:∀{a:List ai},bI [] a->a=[]
 |_,.nil=>rfl
theorem bI.reverse{xs:List V}{a:List ai}(h:bI xs a):bI xs.reverse a.reverse:=by
 induction h with
 |nil=>exact .nil
 |cons r t b=>rw[B5,B5];exact bI.append b (.cons r .nil)
theorem bI.rep{xs:List V}{a:List ai}(h:bI xs a):∀k:Nat,bI (a8 k xs).flatten (a8 k a).flatten
 |0=>.nil
 |k+1=>by rw[j5,j5,oP,oP];exact bI.append h (bI.rep h k)
theorem foldl_rep(a:List ai):∀(k:Nat) (b:List ai), List.foldl (λx1 c=>x1++c) b.toArray (a8 k a.toArray)=(b++(a8 k a).flatten).toArray
 |0,b=>by simp
 |k+1,b=>by
  have e:b.toArray++a.toArray=(b++a).toArray:=by simp
  have d:(b++a)++(a8 k a).flatten=b++(a8 (k+1) a).flatten:=by rw[j5,oP,HD]
  rw[<-d,<-foldl_rep a k (b++a),<-e,j5,rF]
section
variable{X:Cx}{d:List (ae×Obj)}{a:St}{H:Hp}{s:ao}{l b:ae}{g c i:List V}
theorem Inv.lset{h its':List ai}{n:Nat}{f:Array ai->Array ai}{j:Nat}(I:Inv X d a H s)(v:H l=aa (.lst g))(e:s.heap.get? l=aa {cls:=.type "list",data:=.seq h.toArray n}) (r:f h.toArray=its'.toArray) (o:bI c its') (m:c.length<=bq):Inv X d a (upd H l (.lst c)) {s with heap:=s.heap.update l (ul f),toks:=j}:=by have q:=PySem.IsL.update e f;rw[r]at q;refine I.write (x:=l) (e:=l) (by rw[v];exact trivial) (.inl rfl) (λw u t p=>(pV s.heap (ul f) (eO t)).trans p) ⟨_,q⟩ ?_;exact⟨m,its',_,o,q⟩
theorem Inv.lnew{its:List ai}{t':Nat}(I:Inv X d a H s)(h:bI c its)(f:c.length<=bq):Inv X d a (upd H s.heap.objs.size (.lst c)) {s with heap:=s.heap.push {cls:=.type "list",data:=.seq its.toArray},toks:=t'} :=I.laid (λ_ _ q=>bp _ q) (bv _) ⟨f,its,0,h,cD _ rfl⟩
theorem Inv.fresh(I:Inv X d a H s):H s.heap.objs.size=ac:=I.hok.fresh (bv _)
theorem Inv.lstM(I:Inv X d a H s)(h:H l=aa (.lst g)):g.length<=bq/\∃(f:List ai) (n:Nat),bI g f/\g.length=f.length/\s.heap.get? l=aa {cls:=.type "list",data:=.seq f.toArray n}:=by obtain⟨z,f,n,r,e⟩:=I.hok l _ h;exact⟨z,f,n,r,r.length,e⟩
theorem Py{n:Nat}(h:n<=bq):x_ n=aj:=by unfold x_;exact decide_eq_false ∅
end
section
variable{X:Cx}
def NL:V->List V->Hp->VK->Prop:=λx a H Q=>∃l xs y,x=.ref l/\a=[y]/\H l=aa (.lst xs)/\xs.length<bq/\Q .non (upd H l (.lst (xs++[y])))
theorem Fa:xN X "list.append" NL:=by
 intro o s f H x g v i Q I b c h;obtain⟨l,xs,y,rfl,rfl,a,j,q⟩:=h;cases b;obtain⟨u,rfl,d⟩:=c.one;obtain⟨z,its,n,r,m,e⟩:=I.lstM a;refine mZ F.slot_list_append ⟨_,e,rfl⟩ F.entry_list_append (F.args_list_append_2 _ _) (PySem.list_append l its.toArray n u (by rw[cO];lia)) ⟨e,?_⟩;refine⟨.non,_,I.lset (its':=its++[u]) a e (by simp) (r.append (.cons d .nil)) ?_,rfl,q⟩;rw[dy,pW];lia
theorem wl{a:Type}(xs:List a)(k:Nat):(a8 k xs).flatten.length=k*xs.length:=by
 induction k with
 |zero=>simp
 |succ k b=>rw[j5,oP,dy,b,Nat.succ_mul,Nat.add_comm]
end
section
variable{a:Type}[DecidableEq a]
def jq(b:List (a×V))(k:a):Option V:=(b.find? λc=>decide (c.1=k)).map (·.2)
def ja(b:List (a×V))(k:a)(v:V):List (a×V) :=if(b.any λc=>decide (c.1=k))=ah then b.map (λc=>if c.1=k then(c.1,v)else c)else b++[(k,v)]
theorem wM{p:a×V}{r:List (a×V)}{k:a}(e:p.1=k):jq (p::r) k=aa p.2:=by simp[jq,j6,e]
theorem wb{p:a×V}{r:List (a×V)}{k:a}(e:¬p.1=k):jq (p::r) k=jq r k:=by simp[jq,j6,e]
theorem DV(k:a):∀b:List (a×V),(b.any λc=>decide (c.1=k))=(jq b k).isSome
 |[]=>rfl
 |p::r=>by
  rw[pU];by_cases e:p.1=k
  .simp only[wM e,decide_eq_true e,Bool.true_or,Option.isSome_some]
  .rw[wb e,decide_eq_false e,Bool.false_or];exact DV k r
theorem GU(b:List (a×V))(k:a)(v:V):(ja b k v).length<=b.length+1:=by
 unfold ja;split
 .rw[c0];lia
 .rw[dy,eR,m8];lia
theorem lH.isSome_eq{o:Option V}{u:Option ai}(r:lH o u):o.isSome=u.isSome:=by
 cases o with
 |none=>cases u with
  |none=>rfl
  |some _=>exact(show False from r).elim
 |some _=>cases u with
  |none=>exact(show False from r).elim
  |some _=>rfl
theorem lH.getD{o:Option V}{u:Option ai}{d:V}{b:ai}(r:lH o u)(rd:RelV d b):RelV (o.getD d) (u.getD b):=by
 cases o with
 |none=>cases u with
  |none=>exact rd
  |some _=>exact(show False from r).elim
 |some _=>cases u with
  |none=>exact(show False from r).elim
  |some _=>exact r
theorem KV.val{c:List (a×V)}{vs:List (a×ai)}(r:KV c vs)(k:a):lH (jq c k) (rG vs k):=by
 unfold KV at r
 induction r with
 |nil=>exact True.intro
 |@cons p q ps qs h t ih=>
  obtain⟨f,g⟩:=h;by_cases e:p.1=k
  .have d:q.1=k:=f.symm.trans e;have b:rG (q::qs) k=aa q.2:=by simp[rG,j6,d]
   rw[wM e,b];exact g
  .have d:¬q.1=k:=λz=>e (f.trans z);have b:rG (q::qs) k=rG qs k:=by simp[rG,j6,d]
   rw[wb e,b];exact ih
theorem KV.any{b:List (a×V)}{vs:List (a×ai)}(r:KV b vs)(k:a):(b.any λc=>decide (c.1=k))=vs.any λc=>decide (c.1=k):=by
 unfold KV at r
 induction r with
 |nil=>rfl
 |cons h t d=>rw[pU,pU,d,h.1]
theorem KV.repl{c:List (a×V)}{f:List (a×ai)}(r:KV c f)(k:a){y:V}{u:ai}(g:RelV y u):KV (c.map λb=>if b.1=k then(b.1,y)else b) (f.map λb=>if b.1=k then(b.1,u)else b):=by
 unfold KV at r ⊢
 induction r with
 |nil=>exact .nil
 |@cons p q ps qs h t ih=>
  rw[gH,gH];refine .cons ?_ ih;obtain⟨d,i⟩:=h;by_cases e:p.1=k
  .rw[if_pos e,if_pos (d.symm.trans e)];exact⟨d,g⟩
  .rw[if_neg e,if_neg (λz=>e (d.trans z))];exact⟨d,i⟩
theorem KV.put{b:List (a×V)}{c:List (a×ai)}(r:KV b c)(k:a){y:V}{u:ai}(d:RelV y u):KV (ja b k y) (stored c k u):=by
 unfold ja stored;rw[r.any k];by_cases e:(c.any λf=>decide (f.1=k))=ah
 .rw[if_pos e,if_pos e];exact r.repl k d
 .rw[if_neg e,if_neg e];exact Paired.snoc r ⟨rfl,d⟩
theorem KV.length{b:List (a×V)}{vs:List (a×ai)}(r:KV b vs):b.length=vs.length:=Paired.length r
end
theorem xL{P:bb}{w:aS}{k:aX}{u:ai}(r:RelV (kV k) u):(im P w).is k u=ah:=by
 cases k with
 |inl i=>obtain⟨t,e⟩:=(show ∃t,u=Value.int i t from r);subst e;exact IX P w i t
 |inr x=>obtain⟨t,e⟩:=(show ∃t,u=Value.str x t from r);subst e;exact Lc P w x t
theorem DD{P:bb}{w:aS}:∀{ks:List aX}{a:List ai},bI (ks.map kV) a->ItemsAre (im P w) ks a
 |[],_,r=>by rw[B6]at r;cases r;exact .nil
 |k::ks,_,r=>by
  rw[gH]at r;cases r with
  |cons h t=>exact .cons (xL h) (DD t)
abbrev KT(H:Hp):List (List aX×V)->List (List aX×ae×ai)->Prop:=kG λp q=>p.1=q.1/\H q.2.1=aa (.tup (p.1.map kV))/\RelV p.2 q.2.2
theorem KT.val{H:Hp}{a:List (List aX×V)}{xs:List (List aX×ae×ai)}(r:KT H a xs)(k:List aX):lH (jq a k) ((atKey xs k).map (·.2)):=by
 induction r with
 |nil=>exact True.intro
 |@cons p q ps qs h t ih=>
  obtain⟨d,_,f⟩:=h;by_cases e:p.1=k
  .have c:q.1=k:=d.symm.trans e;have b:atKey (q::qs) k=aa q.2:=by simp[atKey,j6,c]
   rw[wM e,b];exact f
  .have c:¬q.1=k:=λz=>e (d.trans z);have b:atKey (q::qs) k=atKey qs k:=by simp[atKey,j6,c]
   rw[wb e,b];exact ih
theorem KT.repl{H:Hp}{a:List (List aX×V)}{xs:List (List aX×ae×ai)}(r:KT H a xs)(k:List aX){y:V}{u:ai}(f:RelV y u):KT H (a.map λc=>if c.1=k then(c.1,y)else c) (xs.map (putAt k u)):=by
 induction r with
 |nil=>exact .nil
 |@cons p q ps qs h t ih=>
  rw[gH,gH];refine .cons ?_ ih;obtain⟨b,d,g⟩:=h;unfold putAt;by_cases e:p.1=k
  .rw[if_pos e,if_pos (b.symm.trans e)];exact⟨b,d,f⟩
  .rw[if_neg e,if_neg (λz=>e (b.trans z))];exact⟨b,d,g⟩
theorem KT.put{H:Hp}{a:List (List aX×V)}{xs:List (List aX×ae×ai)}(r:KT H a xs)(k:List aX){b:ae}{y:V}{u:ai}(f:H b=aa (.tup (k.map kV)))(c:RelV y u):KT H (ja a k y) (storedH xs k b u):=by
 have e:(a.any λd=>decide (d.1=k))=(atKey xs k).isSome:=by rw[DV,(r.val k).isSome_eq,Option.isSome_map]
 unfold ja storedH;rw[e];by_cases q:(atKey xs k).isSome=ah
 .rw[if_pos q,if_pos q];exact r.repl k c
 .rw[if_neg q,if_neg q];exact Paired.snoc r ⟨rfl,f,c⟩
theorem KT.keeps{H d:Hp}{a:List (List aX×V)}{xs:List (List aX×ae×ai)}(r:KT H a xs)(f:∀b c,H b=aa (.tup c)->d b=aa (.tup c)):KT d a xs :=Paired.mapP r λ_ _ z=>⟨z.1,f _ _ z.2.1,z.2.2⟩
section
variable{P:bb}{w:aS}{H:Hp}{h:aD}{a:ae}
theorem F8{u:HO}(ok:c7 P w H h)(e:Rd H a u):dA P w H h a u:=e.ok ok
theorem ub{b:List (aX×V)}(ok:c7 P w H h)(e:Rd H a (.dK b)):b.length<=bq/\(a == lI)=aj/\∃c,KV b c/\h.DictOf (im P w) a c :=show dA P w H h a (.dK b)from F8 ok e
theorem AG{b:List (aX×V)}(ok:c7 P w H h)(e:H a=aa (.dK b)):b.length<=bq/\(a == lI)=aj/\∃c,KV b c/\h.DictOf (im P w) a c:=ub ok (.inl e)
theorem wP{ks:List aX}(ok:c7 P w H h)(e:H a=aa (.tup (ks.map kV))):(uf (im P w)).is h ks a:=by
 obtain⟨_,b,r,⟨o,f,d,n,c⟩,_⟩:=(show dA P w H h a (.tup (ks.map kV))from ok a _ e)
 exact⟨o,b.toArray,n,f,d,c,by simpa using DD r⟩
theorem tX{b:List (List aX×V)}(ok:c7 P w H h)(e:Rd H a (.dT b)):b.length<=bq/\(a == lI)=aj /\ ∃xs,KT H b xs/\h.DictOfH (uf (im P w)) a xs:=by
 obtain⟨z,y,xs,r,o,n,s,j,i,g,f,d⟩:=(show dA P w H h a (.dT b)from F8 ok e)
 refine⟨z,y,xs,r,o,n,s,j,i,g,f,λx c=>?_,d⟩;have all:∀{l:List (List aX×V)}{m:List (List aX×ae×ai)},KT H l m->∀x∈m,(uf (im P w)).is h x.1 x.2.1:=by
  intro l m q
  induction q with
  |nil=>intro x c;exact nomatch c
  |@cons p q ps qs hq t ih=>
   intro x c;rcases bV.mp c with e|c
   .subst e;exact wP ok (by rw[<-hq.1];exact hq.2.1)
   .exact ih x c
 exact all r x c
theorem Jq{b:List (List aX×V)}(ok:c7 P w H h)(e:H a=aa (.dT b)):b.length<=bq/\(a == lI)=aj /\ ∃xs,KT H b xs/\h.DictOfH (uf (im P w)) a xs:=tX ok (.inl e)
end
def qx(H:Hp)(a:ae)(y:V)(r:Option V):Prop :=(∃c k,Rd H a (.dK c)/\y=kV k/\r=jq c k)\/∃c k b,Rd H a (.dT c)/\y=.ref b/\H b=aa (.tup (k.map kV))/\r=jq c k
def BK(H:Hp)(a:ae)(y v:V)(d:Hp):Prop :=
 (∃c k,H a=aa (.dK c)/\y=kV k/\c.length<bq/\d=upd H a (.dK (ja c k v))) \/
 ∃c k b,H a=aa (.dT c)/\y=.ref b/\H b=aa (.tup (k.map kV))/\c.length<bq/\d=upd H a (.dT (ja c k v))
theorem qx.k{H:Hp}{a:ae}{b:List (aX×V)}{k:aX}(e:H a=aa (.dK b)):qx H a (kV k) (jq b k):=.inl ⟨b,k,.inl e,rfl,rfl⟩
theorem BK.k{H:Hp}{a:ae}{b:List (aX×V)}{k:aX}{v:V}(e:H a=aa (.dK b))(c:b.length<bq):BK H a (kV k) v (upd H a (.dK (ja b k v))):=.inl ⟨b,k,e,rfl,c,rfl⟩
section
variable{X:Cx}{f:List (ae×Obj)}{d:St}{H:Hp}{s:ao}{a:ae}{y v:V}{u r:ai}{o:Option V}{A:a9}{E:ai->ao->Prop}
theorem Inv.big(I:Inv X f d H s):lI<s.heap.objs.size:=by have h:cq<s.heap.objs.size:=(I.mod.glob.keeps I.bk).lt;exact B7 (by decide) h
theorem MX{Q:ai->ao->Prop}(B:A.units+1<cLine)(I:Inv X f d H s)(g:qx H a y (aa v))(t:RelV y u)(h:∀j q,Inv X f d H q->RelV v j->Q j q):ax (aA X.prog X.w) A (kK (.ref a) u) Q E s:=by
 rcases g with⟨kvs,k,e,ey,l⟩|⟨kvs,k,b,e,ey,eb,l⟩
 .subst ey;obtain⟨z,D,w,i,n⟩:=ub I.hok e;obtain⟨j,m,c⟩:=lH.some_of (v:=v) (o:=rG w k) (by rw[l];exact i.val k);exact wpAny_getItem_of (xL t) n.mapOf m (h j _ (I.tok _) c)
 .subst ey;cases (show u=Value.ref b from t);obtain⟨z,D,xs,i,n⟩:=tX I.hok e;obtain⟨j,m,c⟩:=lH.some_of (v:=v) (o:=(atKey xs k).map (·.2)) (by rw[l];exact i.val k);obtain⟨p,C,x⟩:=HE.mp m;refine wpAny_getItem_heap (HF B) (wP I.hok eb) n C ?_;rw[x];exact h j _ (I.tok _) c
theorem C9{c:aD}{h:Nat}{g:HO}(I:Inv X f d H s)(i:sV (H a))(j:j1 a s.heap c)(l:∃q,c.get? a=aa q)(new:dA X.prog X.w (upd H a g) c a g):Inv X f d (upd H a g) {s with heap:=c,toks:=h} :=I.write (x:=a) (e:=a) i (.inl rfl) (λb q m z=>(j.2 b m).trans z) l new
theorem Jw{P:bb}{w:aS}{l:Hp}{h:aD}{b:List (aX×V)}{c:List (aX×ai)}(z:b.length<=bq)(i:(a == lI)=aj)(g:KV b c)(j:h.DictOf (im P w) a c):dA P w l h a (.dK b):=⟨z,i,c,g,j⟩
theorem Lp{J:Hp}{Q:Unit->ao->Prop}(L:A.units+1<cLine)(I:Inv X f d H s)(g:BK H a y v J)(C:RelV y u)(D:RelV v r)(h:∀B,Inv X f d J B->Q () B):ax (aA X.prog X.w) A (setItem (.ref a) u r) Q E s:=by
 rcases g with⟨kvs,k,e,ey,l,eH⟩|⟨kvs,k,b,e,ey,eb,l,eH⟩
 .subst ey eH;obtain⟨z,w,K,i,x⟩:=AG I.hok e;have n:K.length<=bq:=by rw[<-i.length];exact z
  have t:(ja kvs k v).length<=bq:=by have:=GU kvs k v;lia
  refine wpAny_setItem_pairs (hsz:=n) (xL C) x λF j p=>h _ ?_;have M:∃q,F.get? a=aa q:=let ⟨q,_,_,m,_⟩:=j;⟨q,m⟩
  exact C9 I (by rw[e];exact True.intro) p M (Jw t w (i.put k D) j)
 .subst ey eH;cases (show u=Value.ref b from C);obtain⟨z,w,xs,i,x⟩:=Jq I.hok e;have n:xs.length<=bq:=by rw[<-Paired.length i];exact z
  have t:(ja kvs k v).length<=bq:=by have:=GU kvs k v;lia
  refine wpAny_setItem_heap (hsz:=n) (HF L) (wP I.hok eb) x λF j p=>h _ ?_;obtain⟨q,T,W,m,S,P,O,_,N⟩:=j;refine C9 I (by rw[e];exact True.intro) p ⟨q,m⟩ ⟨t,w,_,(i.put k eb D).keeps λc Y G=>?_,q,T,W,m,S,P,O,N⟩;rw[bT (Jg G e (λz=>nomatch z))];exact G
end
def Au(i:az):Prop:=∀a b,B4 i aj a b=operate [a,b] (kK a b)
theorem Q3{a:bb}{w:aS}{A:a9}{E:ai->ao->Prop}{s:ao}{m:Env}{c b:az}{q:Pos}{T u:String}{Q:ai->ao->Prop}(y:typeLookup (.type T) "__getitem__"=pure (aa (.builtin u))) (v:Au b)(h:ax (aA a w) A (aQ c m) (λo j=>ax (aA a w) A (aQ b m) (λi d=>d.TypeIs o T/\ax (aA a w) A (kK o i) Q E d) E j) E s):ax (aA a w) A (aQ (.Subscript c b q) m) Q E s:=by
 refine Subscript_ (dw h (λo j p=>dw p (λi d f=>?_) λ_ _ x=>x) λ_ _ x=>x);obtain⟨t,f⟩:=f;unfold B3;refine aq ?_;rw[getitemInPython_of_ne t.not_modules];refine aq (wpAny_specialOf t y ?_);have l:ax (aA a w) A (B4 b aj o i) (λr g=>ax (aA a w) A (letTemporaryGo c o r >>= λ_=>pure r) Q E g) E d:=by rw[v o i];exact wpAny_operating (dw f (λr g n=>aq (wpAny_letTemporaryGo (aI n))) λ_ _ x=>x)
 first
  |exact aI (aq l)
  |exact aq (aI (aq l))
  |exact aq l
theorem MI{X:Cx}{f:List (ae×Obj)}{d:St}{H:Hp}{s:ao}{a:ae}{y:V}{o:Option V}(I:Inv X f d H s)(g:qx H a y o):s.TypeIs (.ref a) "dict":=by
 rcases g with⟨kvs,k,e,_,_⟩|⟨kvs,k,b,e,_,_,_⟩
 .obtain⟨_,_,h,_,c⟩:=ub I.hok e;exact c.typeIs
 .obtain⟨_,_,xs,_,c⟩:=tX I.hok e;exact c.typeIs
def KS(d ty:TE):TE:=λb H Q=>d b H λx f=>ty b f λy c=>∃a v,x=.ref a/\qx c a y (aa v)/\Q v c
def KI(f ty d:TE):TS:=λD b H=>d b H λv i=>f b i λx h=>ty b h λy g=>∃a c,x=.ref a/\BK g a y v c/\D.nx b c
section
variable{X:Cx}{o i e b:az}{d c m:Pos}{j f l:TE}
theorem IH(C:X.A.units+1<cLine)(E:PE X o j)(F:PE X i f)(D:Au i):PE X (.Subscript o i d) (KS j f):=by intro q s p H Q I h;refine Q3 PySem.F.slot_dict_getitem.lookup D (bf (E q s p H _ I h) λu t ⟨x,M,K,z,B⟩=>bf (F q t p M _ K B) λS P ⟨y,L,r,w,a,v,G,g,A⟩=>?_);subst G;obtain rfl:u=Value.ref a:=z;exact⟨MI r g,MX C r g w λN O J n=>⟨v,L,J,n,A⟩⟩
theorem Kb(G:X.A.units+1<cLine)(K:PE X o j)(L:PE X i f)(F:PE X b l)(J:lJ b (aa (.Subscript o i c)) d.line X.env=pure aj):PS X (.Assign [.Subscript o i c] b d) (KI j f l):=by intro p s n H D I h;refine wpAny_Assign_Subscript (bf (F p s n H _ I h) λr t ⟨v,W,Q,A,E⟩=>bf (K p t n W _ Q E) λu q ⟨x,T,P,z,C⟩=>bf (L p q n T _ P C) λiv Z ⟨y,H3,O,w,a,S,M,g,B⟩=>?_) J;subst M;obtain rfl:u=Value.ref a:=z;exact Lp G O g w A λY N=>⟨n,S,N,B⟩
end
theorem Ly{P:bb}{w:aS}{H:Hp}(h:aD)(a:lI<h.objs.size):dA P w H (h.push {cls:=.type "dict",data:=.dict #[]}) h.objs.size (.dK []) :=⟨jd _,beq_eq_false_iff_ne.mpr (eO (cZ a)),[],.nil,Heap.DictOf.new h⟩
def Ow:TE:=λ_ H Q=>∀p,H p=ac->Q (.ref p) (upd H p (.dK []))
section
variable{X:Cx}{b:Pos}
theorem Le:PE X (.Dict [] [] b) Ow:=λd s c H Q I h=>wpAny_Dict_empty ⟨.ref s.heap.objs.size,_,I.laid (a:=s.heap.objs.size) (o:=.dK []) (t':=s.toks) (λ_ _ q=>bp _ q) (bv _) (Ly s.heap I.big),rfl,h _ (I.hok.fresh (bv _))⟩
end
structure M2(X:Cx)(o:az)(m:Str)(apos:Pos)(e f:az)(cpos:Pos):Prop where
 base:j4 o m X.env (aQ o X.env)=aQ o X.env
 few:((cJ cpos (aL [e,f] X.env)).all (λx=>!x.1)&&(mX cpos (mY [] X.env)).all (λx=>x.1.isSome)&&decide (([e,f]:List az).length+([]:List jA).length+(if([]:List jA).isEmpty then 0 else 1)<30))=ah
 line:(apos.endLine == cpos.line)=ah
 trees:cJ cpos (aL [e,f] X.env)=[(aj,aQ e X.env),(aj,aQ f X.env)]
def DC(H:Hp)(a:ae):Prop:=(∃b,Rd H a (.dK b))\/∃b,Rd H a (.dT b)
theorem NZ{X:Cx}{l:List (ae×Obj)}{j:St}{H:Hp}{s:ao}{a:ae}(I:Inv X l j H s)(d:DC H a):s.TypeIs (.ref a) "dict"/\(∀b,Value.ref a=.ref b->∃c,s.heap.get? b=aa c/\c.dict=ac)/\(a == lI)=aj:=by
 rcases d with⟨kvs,e⟩|⟨kvs,e⟩
 .obtain⟨_,g,m,_,f⟩:=ub I.hok e;refine⟨f.typeIs,λb q=>?_,g⟩;cases q;obtain⟨c,_,_,i,h,_⟩:=f;exact⟨c,i,h.2.1⟩
 .obtain⟨_,g,xs,_,f⟩:=tX I.hok e;refine⟨f.typeIs,λb q=>?_,g⟩;cases q;obtain⟨c,_,_,i,h,_⟩:=f;exact⟨c,i,h.2.1⟩
section
variable{X:Cx}{f:List (ae×Obj)}{c:St}{H:Hp}{s:ao}{a:ae}{y d:V}{u r:ai}{o:Option V}{A:a9}{E:ai->ao->Prop}
theorem KC{Q:ai->ao->Prop}(t:A.units+1<cLine)(I:Inv X f c H s)(g:qx H a y o)(q:RelV y u)(rd:RelV d r)(h:∀n p,Inv X f c H p->RelV (o.getD d) n->Q n p):ax (aA X.prog X.w) A (call (.builtin "dict.get") [.ref a,u,r]) Q E s:=by
 rcases g with⟨kvs,k,e,ey,l⟩|⟨kvs,k,b,e,ey,eb,l⟩
 .subst ey;obtain⟨z,m,v,i,j⟩:=ub I.hok e;refine call_meetsIn HG j.typeIs PySem.F.entry_dict_get (PySem.F.args_dict_get_3 _ _ _) (meets_dict_get_default (im X.prog X.w) a (xL q) m r) ⟨_,j.mapOf,h _ _ (I.tok _) ?_⟩;rw[l];exact(i.val k).getD rd
 .subst ey;cases (show u=Value.ref b from q);obtain⟨z,m,xs,i,j⟩:=tX I.hok e;refine call_meetsIn HG j.typeIs PySem.F.entry_dict_get (PySem.F.args_dict_get_3 _ _ _) (meetsH_dict_get_default (uf (im X.prog X.w)) a b m r) ⟨HF t,k,xs,wP I.hok eb,j,h _ _ (I.tok _) ?_⟩;rw[l];exact(i.val k).getD rd
end
def Po(f ty tx:TE):TE:=λb H Q=>f b H λx d=>∃a,x=.ref a/\DC d a/\ty b d λy g=>tx b g λz c=>∃o,qx c a y o/\Q (o.getD z) c
section
variable{X:Cx}{o e f:az}{c b:Pos}{j i tx:TE}
theorem Lm(G:X.A.units+1<cLine)(J:PE X o j)(L:PE X e i)(K:PE X f tx)(m:M2 X o "get" c e f b):PE X (.Call (.Attribute o "get" c) [e,f] [] b) (Po j i tx):=by intro p s l H Q I h;refine wpAny_Call_method m.base m.few m.line PySem.F.plainAttrs_dict HG PySem.F.type_dict_get (bf (J p s l H _ I h) λu w ⟨x,W,q,C,a,M,d,F⟩=>?_);subst M;obtain rfl:u=Value.ref a:=C;obtain⟨t,r,_⟩:=NZ q d;refine⟨t,r,?_⟩;rw[m.trees];refine HB rfl (HC (BY (bf (L p w l W _ q F) λiv v ⟨y,T,P,B,E⟩=>BY (bf (K p v l T _ P E) λfv s3 ⟨z,S,O,A,ov,g,D⟩=>Hm ?_))));exact KC G O g B A λY Z N n=>⟨_,S,N,n,D⟩
end
end L2
namespace Att
open PySem PySem.W PySem.Calls PyProof.Rows
theorem Qn{P:Params}{h:aD}:∀(c:List Int) (d:List ai),WellAll P h d (c.map WData.int)->IntsAre d c:=by
 intro c
 induction c with
 |nil=>
  intro d w;rw[B6]at w;cases w;exact .nil
 |cons n c f=>
  intro d w;rw[gH]at w;cases w with
  |cons a b=>
   cases a;exact .cons _ _ (f _ b)
theorem Rm{l:OpenLaw}{n:Nat}(x:l.most=aa n){P:Params}{h:aD}{args:List WData}{c:List ai}(o:l.row.toRowW.claim.pre args=ah) (i:WellAll P h c args):∃a m b,c=[Value.ref a]/\args=[WData.list (b.map WData.int)]/\h.get? a=aa {cls:=.type "list",data:=.seq m.toArray}/\IntsAre m b/\b.length<=n:=by
 have j:WShape.hasAll [] args [.list .int]=ah:=(pre_splitW o).1;have p:l.pre.holds [] {args:=args}=ah:=(pre_splitW o).2;obtain⟨d,r,rfl,A,z⟩:=hasAllW_cons j;obtain rfl:=hasAllW_nil z;obtain⟨xs,rfl,y⟩:=hasW_list A;obtain⟨b,rfl⟩:=items_int y;have B:b.length<=n:=by
  unfold OpenLaw.pre at p;have g:(WTm.not (.lt (.lit (.int (n:Int))) (.len (.arg 0)))).holds [] {args:=[.list (b.map .int)]}=ah:=by have g:=(holds_andW p).1;rw[x]at g;exact g
  have f:=condW_of g (w_not (w_lt w_lit (w_len_list (w_arg rfl))));rw[c0]at f;refine Nat.le_of_not_lt λq=>?_;have v:(n:Int)<((b.length:Nat):Int):=∅
  first
   | (rw[decide_eq_true v]at f;exact absurd f (by decide))
   | (simp at f;lia)
 cases i with
 |cons t s=>
  cases s;cases t with
  |list w u=>exact⟨_,_,b,rfl,rfl,w,Qn b _ u,B⟩
theorem NP(l:OpenLaw)(args:List WData):l.row.toRowW.claim.post args (.bool ah) args=ah :=
 postW_of (r:=l.row.toRowW) (X:=(ah == ah))
  (show WShape.has [] (.bool ah) .bool=ah by first|rfl|decide|simp[WShape.has,WShape.arms,WShape.armsAll])
  (show(WTm.eq .res (.lit (.bool ah))).value [] {args:=args,res:=aa (.bool ah),after:=args}=aa (.bool (ah == ah))from w_eq_bool (w_res rfl) w_lit) rfl
theorem attach_call{l:OpenLaw}{n:Nat}{q:bb}{g:List Str}{XP:(Str->Option ai)->aD->Prop}{C:aS->aD->Prop}{d:DefRec}(K:l.most=aa n) (F:d.params.defaults=[])(call:∀(w:aS) (c b:ao) (s v:Str->Option ai) (j:ae) (o:Obj) (u t h:ai) (a:ae) (i:List ai) (p:List Int),Ground q g [] XP w c s v b.heap->C w b.heap -> b.heap.get? j=aa o->o.data=.func (docDef d.name d.params d.body d.scope u t h)->b.heap.CodeRec t d.name->s d.name=aa (.ref j) -> b.heap.get? a=aa {cls:=.type "list",data:=.seq i.toArray}->IntsAre i p->p.length<=n->b.gens=#[] -> j3 (aA l.prog w) rH (.call (.ref j) ⟨[.ref a],[]⟩) (λr m=>r=.ok (.ret (.bool ah))/\OldK b.heap m.heap/\m.os=b.os/\mL m.gens) b):WalkO q g XP C l.row.toRowW d [] (λf i=>PySem.call f i):=by intro w c b s v G Y j o u t h dV kV J O T A D N B y as E z H x M;obtain rfl:dV=.none:=Dflts.none A F;obtain rfl:kV=.none:=Dflts.noKw A;obtain⟨a,i,p,rfl,rfl,Z,X,W⟩:=Rm K E x;refine enter_call (mR (call w c b s v j o u t h a i p G Y J (fd_plain O) T D Z X W N) λr m I=>?_);obtain⟨rfl,S,Q,P⟩:=I;exact⟨.inl ⟨.bool ah,.bool ah,[],rfl,λ_=>rfl,.bool ah,NP l _,λ_=>⟨List.Pairwise.nil,λ_ L=>(nomatch L)⟩⟩,S,Q,P⟩
end Att
namespace L2
theorem CW:∀{a:List ai}{b:List Int},IntsAre a b->bI (b.map V.int) a
 |_,_,.nil=>.nil
 |_,_,.cons n t h=>.cons ⟨t,rfl⟩ (CW h)
def A7(H:Hp):Prop:=∀b,H b=ac\/(∃o xs,H b=aa (.frz o (.lst xs)))\/∃q,H b=aa (.tbl q)
def jn(K:aw):Hp:=λb=>match pO K "least_ending" with
 |some (_,P)=>if b=P then aa (.tbl "least_ending.<locals>.<lambda>")else ac
 |none=>ac
theorem pA{K:aw}{b:ae}{u:HO}(h:jn K b=aa u):u=.tbl "least_ending.<locals>.<lambda>"/\∃c,pO K "least_ending"=aa (c,b):=by
 unfold jn at h;split at h
 .rename_i c P e;split at h
  .rename_i a;subst a;cases h;exact⟨rfl,c,e⟩
  .cases h
 .cases h
theorem DH{K:aw}{c P:ae}(h:pO K "least_ending"=aa (c,P)):jn K P=aa (.tbl "least_ending.<locals>.<lambda>"):=by unfold jn;rw[h];exact if_pos rfl
def Dc(K:aw)(h:aD):Prop:=∀c P,pO K "least_ending"=aa (c,P)->PySem.W.codeHdIn K c P=ah/\K.lookup P=ac/\h.get? P=aa {cls:=.none,data:=.fields #[]}
theorem NA{P:bb}{w:aS}{K:aw}{J mb:Str->Option ai}{CX:eY}{k:Nat}{fa a:ae}{fd:fF}{x:Str}{sp:Sp}{f:ao}{E:List ai}{L:List Int}(KX:K.In f.heap) (rZ:f.heap.Ns cq J) (j:f.heap.Ns pN mb) (hbb:∀x:Str,x≠"__name__"->mb x=d9 x) (N:f.heap.NoLimit) (uN:∃D A,J "__builtins__"=aa (.ref D)/\D≠pN/\f.heap.get? D=aa A/\A.cls=.type "module"/\A.dict=aa pN/\A.data=.plain) (B:Dc K f.heap) (hg:f.gens=#[])(t:f.heap.get? a=aa {cls:=.type "list",data:=.seq E.toArray}) (hi:IntsAre E L) (hl:L.length<=bq) (hr:cT k rH)(F:∀p:aD,K.In p->p.Ns cq J->fR P w K J p CX k fa fd [x] sp) (Sf:∀(s:ao) (u:ai),BindsTo s fd ⟨[u],[]⟩ [(x,u)])(gL:∀H:Hp,A7 H->cu K H a (L.map V.int)->sp [.ref a] H (λv _=>v=.bl ah) λ_ _ _=>False)(hCX:∀H e l,CX [] H f (λ_ _ _=>False) e l->False):j3 (aA P w) rH (.call (.ref fa) ⟨[.ref a],[]⟩) (λr l=>r=.ok (.ret (.bool ah))/\OldK f.heap l.heap/\l.os=f.os/\mL l.gens) f:=by
 have rv:=CW hi;have M:=hi.length;have C:∀H:Hp,A7 H->cu K H a (L.map V.int)->c7 P w H f.heap->(∀b,H b≠ac->b=a\/∃c,pO K "least_ending"=aa (c,b))->(H a≠ac->K.lookup a=ac)->vb K H ->
   j3 (aA P w) rH (.call (.ref fa) ⟨[.ref a],[]⟩) (λr l=>r=.ok (.ret (.bool ah))/\OldK f.heap l.heap/\l.os=f.os/\mL l.gens) f:=by
  intro H hO hS G X hK hTH;have g:∀{b:ae}{o:Obj},f.heap.get? b=aa o->H b=ac->(my f.heap H).get? b=aa o:=λe n=>MM e n;have noA:∀{b:ae}{o:Obj}{Q:Array DictEntry}{S:Nat},f.heap.get? b=aa o->o.data=.dict Q S->H b=ac:=λ{b o Q S} e d=>by
   cases q:H b with
   |none=>rfl
   |some u=>
    rcases X b (by rw[q];simp)with i|⟨c,i⟩
    .subst i;rw[t]at e;cases e;have d':Data.seq E.toArray _=Data.dict Q S:=d;cases d'
    .rw[(B c b i).2.2]at e;cases e;cases d
  have y:∀{b:ae}{m:Str->Option ai},f.heap.Ns b m->(my f.heap H).Ns b m:=λ{b m} ⟨o,Q,S,e,d,r⟩=>⟨o,Q,S,g e (noA e d),d,r⟩
  have O:K.In (my f.heap H):=λb o e=>g (KX b o e) (by
   cases q:H b with
   |none=>rfl
   |some u=>
    rcases X b (by rw[q];simp)with i|⟨c,i⟩
    .subst i;rw[hK (by rw[q];simp)]at e;cases e
    .rw[(B c b i).2.1]at e;cases e)
  have hM:Mod K J (my f.heap H):=⟨O,y rZ,⟨mb,y j,hbb⟩,(let ⟨mc,h1,h2⟩:=N;⟨mc,y h1,h2⟩),by
   obtain⟨D,A,b1,b2,W,b4,b5,b6⟩:=uN;refine⟨D,A,b1,b2,g W ?_,b4,b5,b6⟩;cases q:H D with
   |none=>rfl
   |some u=>
    rcases X D (by rw[q];simp)with i|⟨c,i⟩
    .subst i;rw[t]at W;cases W;simp at b4
    .rw[(B c D i).2.2]at W;cases W;simp at b4⟩
  have e0:nV P w K J (my f.heap H) rH [] f H:=⟨rfl,hM,λb o e=>RP e,mQ (IA _ _),trivial,λb j=>absurd (show b∈([]:List ae)from j) (by simp),G,.of_eq hg,hTH⟩
  refine mR ((F _ O (y rZ)).run rH [] f H ⟨[.ref a],[]⟩ [.ref a] [.ref a] _ _ hr e0 (Sf f (.ref a)) (.cons rfl .nil) (gL H hO hS)) λr l h=>?_;cases r with
  |error e=>exact(hCX H e l h).elim
  |ok fl=>
   cases fl with
   |next=>exact eT h
   |brk=>exact eT h
   |cont=>exact eT h
   |ret u=>
    obtain⟨v,H',os,T,un,Il,r',q⟩:=h;have q':v=.bl ah:=q;subst q';obtain rfl:u=Value.bool ah:=r';refine⟨rfl,⟨λb o e=>?_,λb o e=>un.there b o e (by simp)⟩,os,T⟩;cases q:H b with
    |none=>exact .inl (un.keep b o e q (by intro z;exact absurd (show b∈([]:List ae)from z) (by simp)) (by simp))
    |some u=>
     rcases hO b with z|⟨A,xs,z⟩|⟨qn,z⟩
     .rw[q]at z;cases z
     .have z2:=un.frzs b A _ z;obtain⟨I,_⟩:=G b _ z;obtain⟨e2,_⟩:=Il b _ z2;rw[e]at I;cases I;exact .inl e2
     .rcases X b (by rw[q];simp)with i|⟨c,i⟩
      .subst i;obtain⟨ps,I,_⟩:=G b _ z;rw[t]at I;cases I
      .obtain⟨k1,k2,k3⟩:=B c b i;rw[k3]at e;cases e;obtain⟨oc,Y,_,_,_,_,_,_,_,f1,f2,f3,f4,_⟩:=PySem.W.codeHd_of_K KX k1;obtain⟨ps,I,_⟩:=Il b _ (un.tbls b _ z);exact .inr (.inl ⟨⟨c,oc,Y,f1,f2,f3,f4⟩,rfl,#[],ps,rfl,by rw[I];simp⟩)
 cases hk:K.lookup a with
 |some o=>
  have e:=KX a o hk;rw[t]at e;cases e;have tH:∀b u,jn K b=aa u->dA P w (jn K) f.heap b u:=λb u z=>by
   obtain⟨rfl,c,e⟩:=pA z;exact⟨#[],(B c b e).2.2,trivial,λZ cv h=>by cases h⟩
  refine C (jn K) (λb=>?_) (.inr ⟨_,E.toArray,_,hk,rfl,rfl,rfl,by rw[cO,M];exact hl,by simpa using rv⟩) tH (λb z=>?_) (λz=>?_) λx hx c P e=>?_
  .cases q:jn K b with
   |none=>exact .inl rfl
   |some u=>exact .inr (.inr ⟨_,congrArg aa (pA q).1⟩)
  .cases q:jn K b with
   |none=>exact absurd q z
   |some u=>exact .inr (pA q).2
  .cases q:jn K a with
   |none=>exact absurd q z
   |some u=>
    obtain⟨_,c,i⟩:=pA q;rw[(B c a i).2.2]at t;cases t
  .obtain rfl:x = "least_ending":=by simpa[Bu]using hx
   exact DH e
 |none=>
  have ta:∀c P,pO K "least_ending"=aa (c,P)->P≠a:=λc P e z=>by subst z;rw[(B c P e).2.2]at t;cases t
  refine C (λb=>if b=a then aa (.frz {cls:=.type "list",data:=.seq E.toArray} (.lst (L.map V.int)))else jn K b) (λb=>?_) (.inl (.inr ⟨{cls:=.type "list",data:=.seq E.toArray},if_pos rfl⟩)) (λb u z=>?_) (λb z=>?_) (λ_=>hk) λx hx c P e=>?_
  .by_cases j:b=a
   .exact .inr (.inl ⟨_,_,if_pos j⟩)
   .cases q:jn K b with
    |none=>exact .inl ((if_neg j).trans q)
    |some u=>exact .inr (.inr ⟨_,(if_neg j).trans (q.trans (congrArg aa (pA q).1))⟩)
  .by_cases j:b=a
   .have z':=(if_pos j).symm.trans z;cases z';subst j;exact⟨t,by rw[c0];exact hl,E,_,rv,t⟩
   .obtain⟨rfl,c,e⟩:=pA ((if_neg j).symm.trans z);exact⟨#[],(B c b e).2.2,trivial,λZ cv h=>by cases h⟩
  .by_cases j:b=a
   .exact .inl j
   .cases q:jn K b with
    |none=>exact absurd ((if_neg j).trans q) z
    |some u=>exact .inr (pA q).2
  .obtain rfl:x = "least_ending":=by simpa[Bu]using hx
   exact(if_neg (ta c P e)).trans (DH e)
theorem SV{l:B8}{n k:Nat}{q:bb}{c:List Str}{XP:(Str->Option ai)->aD->Prop}{C:aS->aD->Prop}{d:DefRec}{K:Params->aw}{CX:aS->eY}{sp:aS->Sp}{x:Str}(M:l.most=aa n) (I:n<=bq) (J:d.params.defaults=[]) (L:cT k rH)(A:∀(w:aS) (h:aD),C w h->(K w.params).In h/\Dc (K w.params) h)(F:∀(w:aS) (g:Str->Option ai) (m:ae) (h:aD),(K w.params).In h->h.Ns cq g->g d.name=aa (.ref m) -> ∃t:fF,(∀(s:ao) (u:ai),BindsTo s t ⟨[u],[]⟩ [(x,u)]) /\ ∀b:aD,(K w.params).In b->b.Ns cq g->fR l.prog w (K w.params) g b (CX w) k m t [x] (sp w))(T:∀(w:aS) (H:Hp) (a:ae) (j:List Int),j.length<=n->A7 H->cu (K w.params) H a (j.map V.int)->sp w [.ref a] H (λv _=>v=.bl ah) λ_ _ _=>False)(r:∀(w:aS) (H:Hp) (s:ao) (e:ai) (p:ao),CX w [] H s (λ_ _ _=>False) e p->False):PySem.W.WalkO q c XP C l.row.toRowW d [] (λf y=>PySem.call f y):=by refine Att.attach_call M J λw z i g mb m o pm cd W a y j G Y ho hd cj E Z X B N=>?_;have D:=(A w _ Y).1;obtain⟨t,O,S⟩:=F w g m _ D G.T.g E;exact NA D G.T.g G.T.b G.T.builtins G.T.nolimit G.T.bmain (A w _ Y).2 N Z X (dr B I) L S O (λH Q P=>T w H a j B Q P) λH e p=>r w H i e p
def gR(s:aT):Arguments:=match s with
 |.FunctionDef _ a _ _ _ _ _ _ _ _=>a
 |_=>{posonlyargs:=[],args:=[],vararg:=ac,kwonlyargs:=[],kw_defaults:=[],kwarg:=ac,defaults:=[]}
def d7(s:aT):List aT:=match s with
 |.FunctionDef _ _ b _ _ _ _ _ _ _=>b
 |_=>[]
def aO(s:aT):dZ:=match s with
 |.FunctionDef _ _ _ _ _ _ a _ _ _=>a
 |_=>{kind:=.function,names:=[],isGenerator:=aj,isCoroutine:=aj}
abbrev zT:eY:=λ_ _ _ _ _ _=>False
abbrev E0:XK:=λ_ _ _=>False
structure mn(K:aw)(x qual:Str)(st:aT)(f:ae)(fd:fF):Prop where
 ex:∃(oc:ai) (od:Option ae) (kV doc pm:ai) (an:Option ae) (aH ct:ai) (osl:Array (Option ai)),
  fd=fX x qual (gR st) (d7 st) (aO st) .none kV doc pm an aH ct/\K.lookup f=aa ⟨oc,od,.func fd,osl⟩/\pS K aH qual=ah
 kp:iS K (.ref f)=ah
section
variable{P:bb}{w:aS}{K:aw}{b:Str->Option ai}{a:aD}
theorem mn.binds{x c:Str}{g:aT}{f:ae}{p:fF}{j:List Str}(F:mn K x c g f p)(h:∀(kV d l:ai) (n:Option ae) (o m:ai) (i:List ai),i.length=j.length->fG (fX x c (gR g) (d7 g) (aO g) .none kV d l n o m) ⟨i,[]⟩=pure (j.zip i)):Binds K p j []:=by obtain⟨oc,r,kV,d,l,n,o,m,q,rfl,s,t⟩:=F.ex;exact .all (h kV d l n o m)
theorem wS{x d:Str}{g:aT}{f:ae}{oc:ai}{p o:Option ae}{i:Array (Option ai)}{kV h m j n:ai}(l:K.lookup f=aa ⟨oc,p,.func (fX x d (gR g) (d7 g) (aO g) .none kV h m o j n),i⟩)(c:pS K j d=ah) (k:iS K (.ref f)=ah):mn K x d g f (fX x d (gR g) (d7 g) (aO g) .none kV h m o j n):=⟨⟨oc,p,kV,h,m,o,j,n,i,rfl,l,c⟩,k⟩
end
theorem AX{n:Nat}(h:n<=1000):n<bq:=B9 h (by decide)
section
variable{X:Cx}
theorem pv(i:Nat){x:Str}{a:Pos}(d:X.N[i]?=aa x:=by rfl)(b:f_ X.env.scope x:=by eq_refl)(c:(x==("__debug__":Str))=aj:=by decide)(f:(x==("__classdict__":Str))=aj:=by decide):PE X (.Name x a) (GD i):=ij d b c f
end
theorem nQ{A B:Prop}(h:B):if aj=ah then A else B:=by rw[if_neg eQ];exact h
theorem oj{A B:Prop}(h:A):if ah=ah then A else B:=by rw[if_pos rfl];exact h
def Same(H a:Hp):Prop:=∀b o,H b=aa o->a b=aa o
theorem Same.refl(H:Hp):Same H H:=λ_ _ h=>h
theorem Same.trans{H f d:Hp}(a:Same H f)(b:Same f d):Same H d:=λc o h=>b c o (a c o h)
theorem Same.free{H a:Hp}(e:Same H a){l:ae}(h:a l=Option.none):H l=Option.none:=by
 cases q:H l with
 |none=>rfl
 |some o=>
  rw[e l o q]at h;cases h
end L2
set_option maxHeartbeats 4000000
namespace L2
def gQ(a:Env):List (Str×gv)->List (Str×ae)->List (Str×ae)
 |[],b=>b
 | (n,k)::r,b=>if k == .free then gQ a r ((n,(a.cells.lookup n).getD 0)::b)else gQ a r b
theorem QB{d:Env}{y:Str}{c:ae}(b:List (Str×gv))(f:List (Str×ae))(l:∀x∈b,x.2=.free->∃c,d.cells.lookup x.1=aa c)(h:(gQ d b f).lookup y=aa c):f.lookup y=aa c\/d.cells.lookup y=aa c:=by
 induction b generalizing f with
 |nil=>exact .inl h
 |cons a r g=>
  obtain⟨n,k⟩:=a;unfold gQ at h;have j:∀x∈r,x.2=.free->∃c,d.cells.lookup x.1=aa c:=λx m=>l x (jv _ m);split at h
  .rename_i o;obtain⟨s,i⟩:=l (n,k) (mM ..) (by simpa using o);rcases g _ j h with q|q
   .rw[jf]at q;split at q
    .rename_i p;have e:y=n:=by simpa using p
     subst e;rw[i]at q;exact .inr (by rw[i];exact q)
    .exact .inl q
   .exact .inr q
  .exact g _ j h
theorem FZ{a:Type}{n:Str}{v:a}{l:List (Str×a)}:((n,v)::l).lookup n=aa v:=by rw[jf];simp
theorem E8{a:Type}{n y:Str}{v:a}{l:List (Str×a)}(h:∃c,l.lookup y=aa c):∃c,((n,v)::l).lookup y=aa c:=by
 rw[jf];split
 .exact⟨_,rfl⟩
 .exact h
theorem AK{d:Env}{y:Str}:∀(a:List (Str×gv)) (b:List (Str×ae)),(∃c,b.lookup y=aa c)->∃c,(gQ d a b).lookup y=aa c
 |[],b,h=>h
 | (n,k)::r,b,h=>by
  unfold gQ;split
  .exact AK r _ (E8 h)
  .exact AK r _ h
theorem yL{g:Env}{y:Str}:∀(a:List (Str×gv)) (i:List (Str×ae)),(∃x∈a,x.1=y/\x.2=.free)->∃c,(gQ g a i).lookup y=aa c
 |[],i,⟨_,h,_⟩=>by simp at h
 | (n,k)::r,i,⟨x,b,f,d⟩=>by
  unfold gQ;rcases bV.mp b with e|b
  .subst e;simp only at f d;subst f d;simp only[beq_self_eq_true,if_true];exact AK r _ ⟨_,FZ⟩
  .split
   .exact yL r _ ⟨x,b,f,d⟩
   .exact yL r _ ⟨x,b,f,d⟩
theorem A2{b:Env}:∀(a:List (Str×gv)) (f:List (Str×ae)),(∀x∈a,x.2=.free->∃c,b.cells.lookup x.1=aa c) -> (forIn (m:=Sem) a f λx r=>match x with | (d,kind)=>if(kind == NameKind.free)=ah then do let c <-cellOf b d;pure (ForInStep.yield ((d,c)::r))else pure (ForInStep.yield r))=pure (gQ b a f)
 |[],f,_=>rfl
 | (n,k)::r,f,h=>by
  have i:∀x∈r,x.2=.free->∃c,b.cells.lookup x.1=aa c:=λx l=>h x (jv _ l);rw[List.forIn_cons];unfold gQ;by_cases g:(k == NameKind.free)=ah
  .obtain⟨c,j⟩:=h (n,k) (mM ..) (by simpa using g);simp only[g,if_true];have e:cellOf b n=pure c:=by unfold cellOf;rw[j]
   rw[e];simp only[pure_bind];rw[A2 r _ i,j];rfl
  .simp only[g,if_false,pure_bind];exact A2 r _ i
theorem QX{a:dZ}{b:Env}(h:∀x∈a.names,x.2=.free->∃c,b.cells.lookup x.1=aa c):closureFor a b=pure (gQ b a.names []):=by unfold closureFor;have q:=A2 a.names [] h;simp only[bind_pure_comp]at q ⊢;rw[q];rfl
theorem xr{n c:Nat}(b:n+1<=c)(a:c<n):False:=∅
theorem yY:∀(c:List (Str×gv)) (n:Nat) (a b:List (Str×ae)),fH n c (a++b)=fH n c a++b
 |[],_,_,_=>rfl
 | (x,k)::r,n,a,b=>by
  unfold fH;split
  .exact yY r (n+1) ((x,n)::a) b
  .exact yY r n a b
theorem vz{y:Str}{c:ae}:∀(b:List (Str×gv)) (n:Nat) (a:List (Str×ae)),(y,c)∈fH n b a->(y,c)∈a\/(y,.cell)∈b
 |[],_,_,h=>.inl h
 | (x,k)::r,n,a,h=>by
  unfold fH at h;split at h
  .rename_i d;rcases vz r _ _ h with z|z
   .rcases bV.mp z with z|z
    .cases z;have e:k=.cell:=by simpa using d
     subst e;exact .inr (mM ..)
    .exact .inl z
   .exact .inr (jv _ z)
  .rcases vz r _ _ h with z|z
   .exact .inl z
   .exact .inr (jv _ z)
theorem Br{y:Str}:∀(b:List (Str×gv)) (n:Nat) (a:List (Str×ae)),(∃c,a.lookup y=aa c)->∃c,(fH n b a).lookup y=aa c
 |[],_,_,h=>h
 | (x,k)::r,n,a,h=>by
  unfold fH;split
  .exact Br r _ _ (E8 h)
  .exact Br r _ _ h
theorem xQ{y:Str}:∀(b:List (Str×gv)) (n:Nat) (a:List (Str×ae)),(y,.cell)∈b->∃c,(fH n b a).lookup y=aa c
 | (x,k)::r,n,a,h=>by
  unfold fH;rcases bV.mp h with e|h
  .cases e;exact Br r _ _ ⟨_,FZ⟩
  .split
   .exact xQ r _ _ h
   .exact xQ r _ _ h
def lc(X:Cx)(a:dZ)(C:ae):List (Str×ae):=fH (C+1) a.names (gQ X.env a.names [])
theorem Az(X:Cx)(a:dZ)(C:ae):lc X a C=fH (C+1) a.names []++gQ X.env a.names []:=yY a.names (C+1) [] _
theorem Nc{M:Model}{A:a9}{E:ai->ao->Prop}{s:ao}{a:dZ}{b:ae}{i:List (Str×ae)}{c:Str}{d:Env}{Q:Env->ao->Prop}(j:Q (newEnv a s.heap.objs.size b (fH (s.heap.objs.size+1) a.names i) c ac .none (aa d) pN) {s with heap:=pushCells (s.heap.push {cls:=.type "dict",data:=.dict #[]}) a.names}):ax M A (newFunctionEnv a b i [] c ac .none (aa d)) Q E s:=by
 simp only[newFunctionEnv,Option.isSome_some,if_true];refine aq (wpAny_alloc ?_);refine aq (wpAny_layCells _ (λh kind g=>by cases f:kind == NameKind.cell <;> simp[f]) _ _ _ _ ?_);rw[show({s with heap:=s.heap.push {cls:=.type "dict",data:=.dict #[]}}:ao).heap.objs.size=s.heap.objs.size+1 from lL ..];refine aq ?_;rw[List.forIn_nil];exact aI (aI j)
theorem Ed{s:ao}{a:List (Str×gv)}{y:Str}{c:ae}(h:(y,c)∈fH (s.heap.objs.size+1) a []):(pushCells (s.heap.push {cls:=.type "dict",data:=.dict #[]}) a).IsCell c ac/\s.heap.objs.size+1<=c/\∀z,(z,c)∈fH (s.heap.objs.size+1) a []->y=z:=by have ok:=cellsFrom_ok a (s.heap.push {cls:=.type "dict",data:=.dict #[]}) (s.heap.objs.size+1) [] ⟨λ_ _ d=>(nomatch d),List.Pairwise.nil⟩ (by rw[lL];exact bv _);rw[lL]at ok;exact⟨(ok.empty y c h).1,(ok.empty y c h).2,λz b=>name_of_addr ok.apart h b⟩
def bX(X:Cx)(a:dZ)(b:List Str)(C:ae)(s₀:ao)(H₀:Hp)(ex:List ae)(pn:List (ae×Obj)):Cx where
 prog:=X.prog
 w:=X.w
 K:=X.K
 mg:=X.mg
 base:=X.base
 A:=X.A
 N:=b
 s₀:=s₀
 H₀:=H₀
 env:=compEnvC a (lc X a C) C X.env
 outer:=X.stack
 stack:=X.stack
 ex:=ex
 fn:=λy=>a.names.lookup y == aa .cell
 calm:=X.calm
 pn:=X.pn++pn
 xe:=λ_ _=>False
def fj(b:St)(a:List Nat):St:=a.map λi=>(b[i]?).join
structure jo(X:Cx)(scope:dZ)(x:Str)(N':List Str)(cap:List Nat):Prop where
 kind:scope.kind=.function
 cells:∀y∈scope.names,y.2=.cell->scope.names.lookup y.1=aa .cell
 names:∀y∈scope.names,y.2=.local->scope.names.lookup y.1=aa .local
 loc:scope.names.lookup x=aa .local\/scope.names.lookup x=aa .cell
 free:∀y∈scope.names,y.2=.free->X.env.kindOf y.1=aa .cell\/X.env.kindOf y.1=aa .free
 nd:N'.Nodup
 hd:N'.head?=aa x
 len:N'.length=cap.length+1
 caps:∀i j y,N'[i+1]?=aa y->cap[i]?=aa j->(X.N[j]?=aa y/\scope.names.lookup y=aa .free)\/(X.N.length<=j/\scope.names.lookup y=aa .local)
theorem NV{a:List (Str×gv)}{y:Str}{k:gv}(h:a.lookup y=aa k):∃x∈a,x.1=y/\x.2=k:=⟨(y,k),kJ h,rfl,rfl⟩
theorem Af{a:Env}{x:Str}:∀{b:List (Str×gv)}{k:gv}, (b.map λ(n,k)=>if(k == NameKind.free&&a.scope.kind == .function&&a.kindOf n == aa .cell)then(n,NameKind.cell)else(n,k)).lookup x=aa k -> ∃f,b.lookup x=aa f/\(k=f\/(f=.free/\k=.cell))
 |[],_,h=>by simp at h
 | (n,c)::r,k,h=>by
  change lK x ((if(c == NameKind.free&&a.scope.kind == .function&&a.kindOf n == aa .cell)=ah then(n,NameKind.cell)else(n,c))::_)=_ at h;rw[jf];by_cases d:(c == NameKind.free&&a.scope.kind == .function&&a.kindOf n == aa .cell)=ah
  .rw[if_pos d,jf]at h;split at h
   .rename_i g;cases h;have:c=.free:=by simp at d;exact d.1.1
    exact⟨c,rfl,.inr ⟨this,rfl⟩⟩
   .exact Af h
  .rw[if_neg d,jf]at h;split at h
   .rename_i g;cases h;exact⟨c,rfl,.inl rfl⟩
   .exact Af h
theorem Bv{a:Env}{x:Str}:∀{b:List (Str×gv)},b.lookup x=aa .free -> let q:=(b.map λ(n,k)=>if(k == NameKind.free&&a.scope.kind == .function&&a.kindOf n == aa .cell)then(n,NameKind.cell)else(n,k)).lookup x
  q=aa .cell\/q=aa .free
 |[],h=>by simp at h
 | (n,c)::r,h=>by
  show lK x ((if(c == NameKind.free&&a.scope.kind == .function&&a.kindOf n == aa .cell)=ah then(n,NameKind.cell)else(n,c))::_)=_\/lK x ((if(c == NameKind.free&&a.scope.kind == .function&&a.kindOf n == aa .cell)=ah then(n,NameKind.cell)else(n,c))::_)=_;rw[jf]at h;by_cases f:(c == NameKind.free&&a.scope.kind == .function&&a.kindOf n == aa .cell)=ah
  .rw[if_pos f,jf];cases d:x == n with
   |true=>exact .inl rfl
   |false=>rw[d]at h;exact Bv h
  .rw[if_neg f,jf];cases d:x == n with
   |true=>rw[d]at h;cases h;exact .inr rfl
   |false=>rw[d]at h;exact Bv h
theorem wc{a:Env}{x:Str}:∀{b:List (Str×gv)},b.lookup x=aa .cell -> (b.map λ(n,k)=>if(k == NameKind.free&&a.scope.kind == .function&&a.kindOf n == aa .cell)then(n,NameKind.cell)else(n,k)).lookup x=aa .cell
 |[],h=>by simp at h
 | (n,d)::r,h=>by
  show lK x ((if(d == NameKind.free&&a.scope.kind == .function&&a.kindOf n == aa .cell)=ah then(n,NameKind.cell)else(n,d))::_)=_;rw[jf]at h;by_cases f:(d == NameKind.free&&a.scope.kind == .function&&a.kindOf n == aa .cell)=ah
  .rw[if_pos f,jf];cases c:x == n with
   |true=>rfl
   |false=>rw[c]at h;exact wc h
  .rw[if_neg f,jf];cases c:x == n with
   |true=>rw[c]at h;cases h;rfl
   |false=>rw[c]at h;exact wc h
section
variable{X:Cx}{w:List (ae×Obj)}{t:St}{H:Hp}{s:ao}{f:dZ}{x:Str}{A:List Str}{g:List Nat}
theorem Inv.freeHas(I:Inv X w t H s)(B:jo X f x A g):∀y∈f.names,y.2=.free->∃c,X.env.cells.lookup y.1=aa c:=λy a e=>I.ok.has y.1 (B.free y a e)
theorem Inv.clIn(I:Inv X w t H s)(B:jo X f x A g){y:Str}{c:ae}(h:(gQ X.env f.names []).lookup y=aa c):X.env.cells.lookup y=aa c:=by
 rcases QB f.names [] (I.freeHas B) h with q|q
 .simp at q
 .exact q
theorem Inv.cbIn(I:Inv X w t H s)(B:jo X f x A g){C:ae}{y:Str}{c:ae}(h:(lc X f C).lookup y=aa c):((y,c)∈fH (C+1) f.names []/\f.names.lookup y=aa .cell)\/((gQ X.env f.names []).lookup y=aa c/\X.env.cells.lookup y=aa c):=by
 rw[Az,HH]at h;cases e:(fH (C+1) f.names []).lookup y with
 |none=>rw[e]at h;exact .inr ⟨h,I.clIn B h⟩
 |some a=>
  rw[e]at h;cases h;have m:=kJ e;rcases vz _ _ _ m with z|z
  .cases z
  .exact .inl ⟨m,B.cells _ z rfl⟩
theorem Inv.cbOld(I:Inv X w t H s)(B:jo X f x A g){C:ae}{y:Str}{c:ae}(h:(gQ X.env f.names []).lookup y=aa c)(a:f.names.lookup y=aa .free):(lc X f C).lookup y=aa c:=by
 rw[Az,HH];cases e:(fH (C+1) f.names []).lookup y with
 |none=>exact h
 |some b=>
  rcases vz _ _ _ (kJ e)with z|z
  .cases z
  .have:=B.cells _ z rfl;rw[a]at this;cases this
theorem Inv.block{fp:List ae}{D:aD}{m:Str->Option ai}{t':Nat}(hh:D=pushCells (s.heap.push {cls:=.type "dict",data:=.dict #[]}) f.names)(I:Inv X w t H s)(B:jo X f x A g)(W:∀b∈fp,kF X w H b)(Z:∀b∈fp,∃o,s.heap.get? b=aa o)(rZ:D.Ns s.heap.objs.size m)(E:∀b o,s.heap.get? b=aa o->D.get? b=aa o):Inv (bX X f A s.heap.objs.size s H fp w) [] (ac::fj t g) H {s with heap:=D,toks:=t'}:=by
 have M:∀x c,X.env.cells.lookup x=aa c->c<s.heap.objs.size:=λx c e=>(I.cell x c e).elim λv q=>q.lt;have C:∀{y:Str}{c:ae},(y,c)∈fH (s.heap.objs.size+1) f.names []->D.IsCell c ac/\s.heap.objs.size+1<=c/\∀z,(z,c)∈fH (s.heap.objs.size+1) f.names []->y=z:=λh=>by rw[hh];exact Ed h
 have lk:∀y k,(compEnvC f (lc X f s.heap.objs.size) s.heap.objs.size X.env).kindOf y=aa k->∃N,f.names.lookup y=aa N/\(k=N\/(N=.free/\k=.cell)):=λy k h=>Af h;have G:∀y,f.names.lookup y=aa .free->∃c,(gQ X.env f.names []).lookup y=aa c:=λy h=>yL f.names [] (NV h);have nfs:∀b∈fg X.stack,b≠s.heap.objs.size:=λb F e=>by
  rcases bV.mp (I.stkSub b F)with z|z
  .exact absurd I.lt (by rw[<-z,e];exact fW _)
  .exact I.nofs (mQ e.symm) z
 refine⟨⟨I.ok.mod,B.kind,I.ok.glob,I.ok.blt,bv _,λy z c h1 h2=>?_,λy P=>?_,λy c h uP=>?_,I.ok.hd,I.ok.frames,.inl rfl,λb F=>?_,λb o e=>I.bs b o e,dr I.ok.bsz I.sz,λb o e F=>?_,λb F hf=>?_,I.stack,(λb F=>I.stkFree b F),I.tab⟩,rfl,I.bare,Un.kept E,⟨m,rZ,λi y v e1 Q e3=>?_⟩,λy c h=>?_,I.hok.fresh (bv _),λy c h=>?_,λp hp=>?_,I.hok.kept E,?_⟩
 .-- inj
  rcases I.cbIn B h1 with⟨a1,a2⟩|⟨a1,a2⟩ <;> rcases I.cbIn B h2 with⟨b1,b2⟩|⟨b1,b2⟩
  .exact(C a1).2.2 z b1
  .exact(xr (C a1).2.1 (M _ _ b2)).elim
  .exact(xr (C b1).2.1 (M _ _ a2)).elim
  .exact I.ok.inj y z c a2 b2
 .-- has
  show ∃c,(lc X f s.heap.objs.size).lookup y=aa c;have lR:f.names.lookup y=aa .free->∃c,(lc X f s.heap.objs.size).lookup y=aa c:=λq=>(G y q).imp λc hc=>I.cbOld B hc q;rcases P with P|P
  .obtain⟨N,q,z|⟨z,_⟩⟩:=lk y _ P
   .subst z;exact xQ _ _ _ (kJ q)
   .subst z;exact lR q
  .obtain⟨N,q,z|⟨_,z⟩⟩:=lk y _ P
   .subst z;exact lR q
   .cases z
 .-- cab
  have hk:f.names.lookup y=aa .cell:=by simpa using(show(f.names.lookup y == aa .cell)=ah from h)
  show s.heap.objs.size<=c;rcases I.cbIn B uP with⟨a1,a2⟩|⟨a1,a2⟩
  .have:=(C a1).2.1;lia
  .obtain⟨c',O⟩:=xQ (n:=s.heap.objs.size+1) (a:=[]) _ (kJ hk);have e:(lc X f s.heap.objs.size).lookup y=aa c':=by rw[Az,HH,O];rfl
   have Q:(lc X f s.heap.objs.size).lookup y=aa c:=uP;rw[e]at Q;cases Q;have:=(C (kJ O)).2.1;lia
 .-- exf
  obtain⟨f0,f1,f2,f3,f4,f5⟩:=W b F;obtain⟨o,K⟩:=Z b F;refine⟨λe=>absurd (bL K) (by rw[e];exact fW _),λy c h=>?_⟩;rcases I.cbIn B h with⟨a1,a2⟩|⟨a1,a2⟩
  .rintro rfl;exact xr (C a1).2.1 (bL K)
  .exact f4 y c a2
 .-- noex
  obtain⟨f0,f1,f2,f3,f4,f5⟩:=W b F;rcases f3 with z|z
  .exact I.ok.noex b o e z
  .exact absurd (g6 (bL e) (dr I.ok.bsz z)) (fW _)
 .-- exfs
  obtain⟨f0,f1,f2,f3,f4,f5⟩:=W b F;rcases bV.mp (I.stkSub b hf)with z|z
  .exact f1 z
  .exact f2 z
 .-- loc
  cases i with
  |zero=>simp at Q
  |succ i=>
   have J:(fj t g)[i]?=aa (aa v):=by simpa using Q
   unfold fj at J;rw[iT]at J;cases Y:g[i]? with
   |none=>rw[Y]at J;cases J
   |some j=>
    rw[Y]at J;have S:(t[j]?).join=aa v:=eG J;have e5:t[j]?=aa (aa v):=by
     cases hq:t[j]? with
     |none=>rw[hq]at S;cases S
     |some o=>rw[hq]at S;exact congrArg aa S
    obtain⟨b1,b2⟩:=(B.caps i j y e1 Y).elim id λz=>by have:=(dW.mp e5).1;rw[I.len]at this;exact absurd this (Nat.not_lt.mpr z.1)
    obtain⟨mm,hn,hl⟩:=I.loc;have uC:=B.free _ (kJ b2) rfl;have T:f_ X.env.scope y:=by
     rcases uC with z|z
     .exact .inr (.inl z)
     .exact .inr (.inr z)
    obtain⟨u,r,l⟩:=hl j y v b1 e5 T;refine⟨u,r,.inr ⟨Bv b2,?_⟩⟩;rcases l with⟨l,_⟩|⟨_,c,hc,yA⟩
    .rcases uC with z|z
     .rw[l]at z;cases z
     .rw[l]at z;cases z
    .obtain⟨c',O⟩:=G y b2;have e6:=I.clIn B O;rw[hc]at e6;cases e6;obtain⟨L,K,hd⟩:=yA;exact⟨c,I.cbOld B O b2,L,E c L K,hd⟩
 .rcases I.cbIn B h with⟨a1,a2⟩|⟨a1,a2⟩
  .exact⟨ac,(C a1).1⟩
  .obtain⟨v,L,K,hd⟩:=I.cell y c a2;exact⟨v,L,E c L K,hd⟩
 .rcases I.cbIn B h with⟨a1,a2⟩|⟨a1,a2⟩
  .exact I.hok.fresh (dr (ya _) (C a1).2.1)
  .exact I.freeC y c a2
 .have lS:p∈X.pn++w:=by simpa[bX]using hp
  obtain⟨e,n,ne,nf,d⟩:=I.pin p lS;refine⟨E _ _ e,n,cZ (bL e),λhf=>?_,d⟩;rcases bV.mp (I.stkSub p.1 hf)with z|z
  .exact ne z
  .exact nf z
 .show(ac::fj t g).length=A.length;rw[B.len];simp[fj]
end
def tI(X:Cx)(b:List az)(t:TT):Prop :=
 ∀(d:List (ae×Obj)) (s:ao) (a:St) (H:Hp) (Q:Bool->Hp->Prop),Inv X d a H s->t a H Q ->
  ax (aA X.prog X.w) X.A (forIn b ah λc r=>if r=ah then do let ok <-mO c X.env (aQ c X.env);pure (ForInStep.yield ok)else pure (ForInStep.yield r)) (TP X d a Q) X.xe s
theorem Li{P:bb}{w:aS}{A:a9}{R:Result->ao->Prop}{s:ao}{m q i:az}{l:List az}{g:dZ}{p:Pos}{t B:ai}{d:Env}(J:Nat->ao->Prop)(n:∀k o,J k o->ax (aA P w) A (oK t) (λr z=>match r with
   |none=>R (.ok .next) z
   |some v=>ax (aA P w) A (BR q t v) (λ_ F=>ax (aA P w) A (assign q d v) (λ_ E=>ax (aA P w) A (forIn l ah λc r=>if r=ah then do let ok <-mO c d (aQ c d);pure (ForInStep.yield ok)else pure (ForInStep.yield r)) (λb u=>if b=ah then ax (aA P w) A (aQ m d) (λy D=>ax (aA P w) A (call (.builtin "list.append") [B,y]) (λ_ C=>∃j,j<k/\J j C) (λ_ _=>False) D) (λ_ _=>False) u else ∃j,j<k/\J j u) (λ_ _=>False) E) (λ_ _=>False) F) (λ_ _=>False) z) (λ_ _=>False) o) (k:Nat) (h:J k s) :
  j3 (aA P w) A (.compLoop (.ListComp m [⟨q,i,l,0⟩] g p) 0 t B d) R s:=by
 refine codeAny_loop rfl J (λj o I=>?_) k h;show ax _ A (Sem.onRaise (compTurn (.ListComp m [⟨q,i,l,0⟩] g p) 0 t B d) (λx=>do noteFrame x d;theTreesLotGoes x)) _ _ o;refine wpAny_noted ?_;rw[compTurn_list];have no:∀(O:ai->ao->Prop) (a:ai) (b:ao),False->O a b:=λ_ _ _ f=>f.elim;refine aq (wpAny_standAt (aq (dw (n j o I) (λr z H=>?_) (no _))));cases r with
 |none=>exact aI H
 |some v=>
  refine aq (dw H (λ_ F N=>aq (dw N (λ_ E M=>aq (dw M (λb u G=>?_) (no _))) (no _))) (no _));cases b with
  |true=>exact aq (aq (dw G (λy D L=>aq (dw L (λ_ C K=>aI (aI ⟨rfl,K⟩)) (no _))) (no _)))
  |false=>exact aI ⟨rfl,G⟩
def KJ:TT:=λ_ H Q=>Q ah H
theorem L3{X:Cx}:tI X [] KJ:=λ_ _ _ H _ I h=>wpAny_tests_nil ⟨H,I,h⟩
theorem RJ{X:Cx}{c:az}{t:TT}(h:PT X c t):tI X [c] t:=λd s a H Q I b=>wpAny_tests_one (h d s a H Q I b)
def xJ(q:TI)(h:V->Hp->St->Prop)(k:Nat)(r:TT)(s:TE)(d:List Nat):TE:=λg H Q=>q g H λJ p=>∀l,p l=ac->∃W:Nat->Nat->List V->Hp->Prop,(∃m,W 0 m [] (upd p l (.lst [])))/\∀i m a H,W i m a H ->
 (J.stop i H/\Q (.ref l) H)\/(J.go i H/\∀v j,J.yld i H v j->∃f,f.length=k+1/\h v j f/\r (f++(fj g d).drop k) j λb o=>if b=ah then s (f++(fj g d).drop k) o λy n=>n l=aa (.lst a)/\a.length<bq/\∃c,c<m/\W (i+1) c (a++[y]) (upd n l (.lst (a++[y]))) else ∃c,c<m/\W (i+1) c a o)
def G8:V->Hp->St->Prop:=λv _ a=>a=[aa v]
abbrev G1(b:TI)(c:TT)(d:TE)(a:List Nat):TE:=xJ b G8 0 c d a
section
variable{X:Cx}{m:List (ae×Obj)}{t:St}{H:Hp}{s:ao}{g:dZ}{x:Str}{j:List Str}{l:List Nat}
theorem Inv.unblock{r:List ae}{p:Hp}{w:St}{s':ao}{h:aD}(I:Inv X m t H s)(C:∀b∈r,kF X m H b)(a:Inv (bX X g j s.heap.objs.size s H r m) [] w p s') (E:j1 s.heap.objs.size s'.heap h):Inv X m t p {s' with heap:=h}:=by
 have k:∀b o,b≠s.heap.objs.size->s'.heap.get? b=aa o->h.get? b=aa o:=λb o f e=>(E.2 b f).trans e;have y:∀b o,s.heap.get? b=aa o->b≠s.heap.objs.size:=λb o e=>cZ (bL e);have un:Un (fg X.stack) r H p s.heap h:=by
  refine⟨λb o e n f d=>k b o (y b o e) (a.base.keep b o e n f d),λb o e n f d=>?_,λb o e n d=>a.base.free b o e n d,λb o e d=>?_,a.base.tups,a.base.frzs,a.base.tbls⟩
  .obtain⟨D,q⟩:=a.base.slot b o e n f d;exact⟨D,k b _ (y b o e) q⟩
  .obtain⟨B,q⟩:=a.base.there b o e d;exact⟨B,k b B (y b o e) q⟩
 have A:c7 X.prog X.w p h:=λb u e=>by
  have i:p s.heap.objs.size=ac:=a.free;refine(a.hok b u e).stay (λc v F q=>k c v ?_ q) (λ_ q=>q) λ_ _ q=>q;rintro rfl;rcases F with z|z
  .rw[<-z,i]at e;cases e
  .rw[i]at z;cases z
 refine I.call' (s':={s' with heap:=h}) (ch:=r) a.os un A a.bare λb f=>?_;obtain⟨K,J,f2,f3,f4,G⟩:=C b f;exact⟨f3,J,f4,G⟩
theorem Gj{elt F tg:az}{pos pos':Pos}{ifs:List az}{wi:TI}{tgf:V->Hp->St->Prop}{k:Nat}{ts:TT}{te:TE}{use:Option (ai->Sem Unit)}{Q:ai->ao->Prop}{Qp:VK}(B:jo X g x j l)(hk:k<=l.length)(hc:X.calm=ah)(hi:PI X tg F wi)(eK:∀C E G ex pn,PG (bX X g j C E G ex pn) tg λv N H Q=>∃S,S.length=k+1/\N.length=j.length/\tgf v H S/\Q (S++N.drop (k+1)) H)(ht:∀C E G ex pn,tI (bX X g j C E G ex pn) ifs ts) (he:∀C E G ex pn,PE (bX X g j C E G ex pn) elt te) (hs:∀x,rn F X.env x=pure x) (I:Inv X m t H s) (h:xJ wi tgf k ts te l t H Qp)(fin:∀{w s6:ao}{O H5:Hp}{K σ5 a f},Inv X m t O w->(∀b∈K,kF X m O b)->Inv (bX X g j w.heap.objs.size w O K m) [] σ5 H5 s6->Qp (.ref a) H5->compPost (aA X.prog X.w) X.A X.xe use Q (.ref a) w.heap.objs.size (.ok f) s6):ax (aA X.prog X.w) X.A (comprehension (.ListComp elt [⟨tg,F,ifs,0⟩] g pos) g X.env pos' (newList []) aj (aQ F X.env) use) Q X.xe s:=by
 refine wpAny_comprehension_free (use:=use) rfl hs (QX (I.freeHas B)) B.kind B.names (bf (hi m s t H _ I h) λv s1 h1=>bf h1 λitv D h2=>?_);obtain⟨it,K,tn,J,H2,e,I2,T,f8,f2,h2⟩:=h2;subst e;refine iU ?_;have I3:Inv X m t (upd H2 D.heap.objs.size (.lst [])) {D with heap:=D.heap.push {cls:=.type "list",data:=.seq ([]:List ai).toArray},toks:=D.toks}:=I2.lnew (its:=[]) (t':=D.toks) .nil (jd _);obtain⟨W,⟨m0,w0⟩,turn⟩:=h2 D.heap.objs.size I2.fresh;generalize hs3:({D with heap:=D.heap.push {cls:=.type "list",data:=.seq ([]:List ai).toArray},toks:=D.toks}:ao)=w at I3;have hs3':({D with heap:=D.heap.push {cls:=.type "list",data:=.seq ([]:List ai).toArray}}:ao)=w:=hs3;generalize hH3:upd H2 D.heap.objs.size (.lst [])=O at I3 w0;have nl:∀b∈K,b≠D.heap.objs.size:=λb A e=>by obtain⟨o,ho,_⟩:=T.obj _ _ f8 b A;exact absurd (bL ho) (by rw[e];exact fW _)
 have k3:∀b o,D.heap.get? b=aa o->w.heap.get? b=aa o:=λb o e=>by rw[<-hs3];exact bp _ e
 have f3:∀b∈K,kF X m O b:=λb A=>⟨by rw[<-hH3,bT (nl b A)];exact(f2 b A).1,(f2 b A).2⟩
 have uH:tn 0 w.heap:=T.keep _ _ _ f8 λb _ o e=>k3 b o e;have fo3:∀b∈K,∃o,w.heap.get? b=aa o:=λb A=>(T.obj _ _ uH b A).imp λo q=>q.1;refine Nc ?_;generalize hh:pushCells (w.heap.push {cls:=.type "dict",data:=.dict #[]}) g.names=h₁;have old:∀b o,w.heap.get? b=aa o->h₁.get? b=aa o:=λb o e=>hh ▸ pushCells_keeps _ _ b o (bp _ e);have rZ:h₁.Ns w.heap.objs.size (λ_=>ac):=hh ▸ (Heap.Ns.new w.heap (.type "dict")).keeps (pushCells_keeps _ _);have I4:=Inv.block (t':=w.toks) hh.symm I3 B f3 fo3 rZ old;have st4:tn 0 h₁:=T.keep _ _ _ uH λb _ o e=>old b o e;have L:∀{H':Hp},(∀b∈K,H' b=ac)->∀b∈K,kF (bX X g j w.heap.objs.size w O K m) [] H' b:=λhn b A=>by
  obtain⟨f0,f1,f2',f3',f4,f5⟩:=f3 b A;refine⟨hn b A,λe=>?_,λhf=>?_,.inl A,λy c h=>?_,λp hp=>f5 p (by simpa[bX]using hp)⟩
  .obtain⟨o,ho⟩:=fo3 b A;exact absurd (bL ho) (by rw[show b=w.heap.objs.size from e];exact fW _)
  .rcases bV.mp (I3.stkSub b hf)with z|z
   .exact f1 z
   .exact f2' z
  .rcases I3.cbIn B h with⟨a1,a2⟩|⟨a1,a2⟩
   .rintro rfl;obtain⟨o,ho⟩:=fo3 _ A;exact xr (Ed a1).2.1 (bL ho)
   .exact f4 y c a2
 have Y:j3 (aA X.prog X.w) X.A (.compLoop (.ListComp elt [⟨tg,F,ifs,0⟩] g pos) 0 (.ref it) (.ref D.heap.objs.size) (compEnvC g (lc X g w.heap.objs.size) w.heap.objs.size X.env))
   (compPost (aA X.prog X.w) X.A X.xe use Q (.ref D.heap.objs.size) w.heap.objs.size) {w with heap:=h₁,toks:=w.toks}:=by
  refine Li (λn s'=>∃i P N H',(∃pre:St,pre.length=k+1/\N=pre++(fj t l).drop k)/\Inv (bX X g j w.heap.objs.size w O K m) [] N H' s'/\tn i s'.heap/\(∀b∈K,H' b=ac)/\W i n P H') ?_ m0
   ⟨0,[],_,O,⟨(ac::fj t l).take (k+1),by simp[fj];lia,by rw[<-List.drop_succ_cons (a:=ac)];exact(List.take_append_drop _ _).symm⟩,I4,st4,λb A=>(f3 b A).1,w0⟩
  rintro n s5 ⟨i,P,σ5,H5,⟨pre,uD,rfl⟩,I5,oU,fr5,w5⟩;rcases turn i n P H5 w5 with⟨stop,q⟩|⟨go,step⟩
  .refine dw (T.done (bX X g j w.heap.objs.size w O K m) rfl rfl rfl hc i [] s5 _ H5 (λ_ _=>False) I5 (L fr5) oU stop) (λr s6 ⟨hr,I6⟩=>?_) (λ_ _ f=>f.elim);subst hr;exact fin I3 f3 I6 q
  .refine dw (T.item (bX X g j w.heap.objs.size w O K m) rfl rfl rfl hc i [] s5 _ H5 (λ_ _=>False) I5 (L fr5) oU go) (λr s6 ⟨u,hr,h6⟩=>?_) (λ_ _ f=>f.elim);subst hr;refine dw h6 (λ_ s7 ⟨v,H7,I7,r7,y7,Z,fr7⟩=>?_) (λ_ _ f=>f.elim);have I7':=I7.pinned (L fr7) (T.obj _ _ Z);have back:∀{M:St}{H8:Hp}{s8:ao},Inv (bX X g j w.heap.objs.size w O K m) ([]++tO K s7.heap) M H8 s8->tn (i+1) s8.heap/\(∀b∈K,H8 b=ac):=λ{M H8 s8} I8=>⟨T.keep _ _ _ Z λb A o e=>(I8.pin (b,o) (mP _ (mP _ (wQ A e)))).1,λb A=>by obtain⟨o,e,d⟩:=T.obj _ _ Z b A;exact(I8.pin (b,o) (mP _ (mP _ (wQ A e)))).2.1⟩
   obtain⟨S,iY,htg,step⟩:=step v H7 y7;refine bf (eK _ _ _ _ _ _ s7 _ H7 v u (λM H8=>M=S++(fj t l).drop k/\H8=H7) I7' r7 ⟨S,iY,I7'.len,htg,by rw[RU ∅,List.drop_eq_nil_of_le ∅];rfl,rfl⟩) λ_ s8 ⟨M,H8,I8,e8,e8'⟩=>?_;subst e8 e8';refine bf (ht _ _ _ _ _ _ s8 _ _ _ I8 step) λb s9 ⟨H9,I9,q9⟩=>?_;cases b with
   |false=>
    obtain⟨m',hm,w9⟩:=(show ∃m',m'<n/\W (i+1) m' P H9 from q9)
    exact⟨m',hm,i+1,P,_,H9,⟨S,iY,rfl⟩,I9.unpinned,(back I9).1,(back I9).2,w9⟩
   |true=>refine bf (he _ _ _ _ _ _ s9 _ H9 _ I9 q9) λu10 s10 ⟨y,H10,I10,r10,hl10,hz10,m',hm,w10⟩=>?_;refine bf (Fa _ s10 _ H10 (.ref D.heap.objs.size) [y] _ [u10] (λz H11=>H11=upd H10 D.heap.objs.size (.lst (P++[y]))) I10 rfl (.cons r10 .nil) ⟨_,P,y,rfl,rfl,hl10,hz10,rfl⟩) λ_ s11 ⟨_,H11,I11,_,e11⟩=>?_;subst e11;exact⟨m',hm,i+1,P++[y],_,_,⟨S,iY,rfl⟩,I11.unpinned,(back I11).1,(back I11).2,w10⟩
 exact codeAny_compStart_list Y (T.self _ 0 _ _ _ st4 Y)
theorem Jx{p:Pos}(B:jo X g x j l):∀C b c i f,PG (bX X g j C b c i f) (.Name x p) λv d H Q=>∃n,n.length=0+1/\d.length=j.length/\G8 v H n/\Q (n++d.drop (0+1)) H:=by
 intro C b c i f m s d H v u Q I r h;obtain⟨n,_,y,w,q⟩:=h;cases (show n=[aa v] from w);have z:Loc (bX X g j C b c i f).env.scope x:=B.loc.elim (λh=>.inl (um h)) (λh=>.inr (wc h));have A:(bX X g j C b c i f).fn x=ah\/(bX X g j C b c i f).env.scope.names.lookup x=aa .local:=B.loc.elim (λh=>.inr (um h)) (λh=>.inl (by show(g.names.lookup x == aa .cell)=ah;rw[h];rfl));have o:(bX X g j C b c i f).N[0]?=aa x:=by show j[0]?=aa x;rw[<-List.head?_eq_getElem?];exact B.hd
 refine xP B.nd o z A m s d H v u Q I r ?_;show Q (d.set 0 (aa v)) H;cases d with
 |nil=>rw[m8,B.len]at y;lia
 |cons a r=>exact q
theorem MN{f b:az}{p pos:Pos}{d:List az}{wi:TI}{ts:TT}{te:TE}(B:jo X g x j l)(D:X.calm=ah)(z:PI X (.Name x p) b wi)(w:∀C a c o i,tI (bX X g j C a c o i) d ts) (A:∀C a c o i,PE (bX X g j C a c o i) f te) (y:∀x,rn b X.env x=pure x:=by intro _;rfl):PE X (.ListComp f [⟨.Name x p,b,d,0⟩] g pos) (G1 wi ts te l):=by intro m s t H Q I h;rw[eval_ListComp];exact Gj (use:=ac) B (jd _) D z (Jx B) w A y I h λE f3 r q=>by obtain⟨v,n,_⟩:=r.loc;exact⟨v,n,λF u=>⟨.ref _,_,E.unblock f3 r u,rfl,q⟩⟩
end
def Walk(J:It)(xs:List V)(R:Hp->Prop):Prop :=
 ∀H,R H->∀i,(∀x,xs[i]?=aa x->J.go i H/\∀y a,J.yld i H y a->a=H/\y=x)/\(i=xs.length->J.stop i H)
theorem NN{K:aw}{a:ae}{xs:List V}:Walk (zg K a) xs (λH=>cu K H a xs):=λH h i=>⟨λx b=>⟨⟨xs,x,h,b⟩,λy d z=>⟨z.1,by have:=z.2 xs h;rw[b]at this;exact(eG this).symm⟩⟩,λc=>⟨xs,h,mQ c.symm⟩⟩
theorem Jh{K:aw}{a:ae}{xs:List V}:Walk (AN K a) xs (λH=>cG K H a xs):=λH h i=>⟨λx b=>⟨⟨xs,x,h,b⟩,λy d z=>⟨z.1,by have:=z.2 xs h;rw[b]at this;exact(eG this).symm⟩⟩,λc=>⟨xs,h,mQ c.symm⟩⟩
def qF(a:Int)(n:Nat):List V:=(cy n).map λi=>V.int (a+(i:Nat))
theorem vK(a:Int)(n:Nat):(qF a n).length=n:=by simp[qF]
theorem Ez{b:Int}{n:Nat}:Walk (tw b n) (qF b n) (λ_=>True):=λH _ i=>by
 refine⟨λx a=>?_,λc=>by rw[vK]at c;exact mQ c.symm⟩;have d:i<n:=by have:=(dW.mp a).1;rw[vK]at this;exact this
 refine⟨d,λy g z=>⟨z.1,?_⟩⟩;unfold qF at a;rw[iT,HI d]at a;have f:V.int (b+(i:Nat))=x:=eG a;rw[z.2,<-f]
def sg(c:Nat):V:=.str ⟨#[c]⟩
def t8(z:Str):It:=⟨λi _=>i<z.cps.size,λi H x a=>a=H/\∃c,z.cps[i]?=aa c/\x=sg c,λi _=>i=z.cps.size⟩
theorem Oq{z:Str}:Walk (t8 z) (z.cps.toList.map sg) (λ_=>True):=λH _ i=>by
 refine⟨λx a=>?_,λd=>by show i=z.cps.size;simpa using d⟩;rw[iT]at a;cases e:z.cps.toList[i]? with
 |none=>rw[e]at a;cases a
 |some c=>
  rw[e]at a;have f:i<z.cps.size:=by have:=(dW.mp e).1;simpa using this
  refine⟨f,λy h w=>⟨w.1,?_⟩⟩;obtain⟨g,b,rfl⟩:=w.2;have:z.cps[i]?=aa c:=by simpa using e
  rw[this]at b;cases b;exact(eG a)
section
variable{X:Cx}{a:az}
theorem PY{P:bb}{w:aS}{K:aw}{z:Str}{d:ae}{f:Nat->aD->Prop} (S:∀i h,f i h->∃o n r,h.get? d=aa o/\o.cls=.type n/\o.data=.fields r /\ ["enumerate","zip","dict_itemiterator","dict_reverseitemiterator","odict_iterator","itertools.zip_longest","itertools.pairwise"].contains n=aj)(Sg:∀(A:a9) (i:Nat) (s:ao) (Q:ai->ao->Prop) (E:ai->ao->Prop),f i s.heap->Q (.ref d) s->ax (aA P w) A (oM (.ref d)) Q E s)(C:∀A:a9,A.handled=ac->Walks P w A d [d] [d] z.cps.size (SignAt z) f):qC P w K a (t8 z) [d] d f where
 mem:=by simp
 obj:=λi h g b j=>by
  have e:b=d:=by simpa using j
  subst e;obtain⟨o,n,r,J,_,G,_⟩:=S i h g;exact⟨o,J,λv q=>by rw[G]at q;cases q⟩
 keep:=λi h m g k=>by exact(C ({}:a9) rfl).frame i h m g k
 item:=by intro X D t F B i W s O H E I p g y;subst D t F;obtain⟨N,M,f2,f3,f4,L⟩:=p d (by simp);refine(C X.A (I.ok.hd B)).item i s _ _ y g λv m l Y T k=>?_;have I1:Inv X W O H {s with heap:=m,toks:=l}:=I.turned (t':=l) (λb o j e=>k b o (by simpa using j) e) N M f3 f4 L;obtain⟨o,n,r,J,h2,G,Z⟩:=S _ _ T;obtain⟨c,u,e1,rfl⟩:=Y;exact⟨_,rfl,vf (s:={s with heap:=m,toks:=l}) J h2 G Z ⟨sg c,H,I1,⟨u,rfl⟩,⟨rfl,c,e1,rfl⟩,T,λb j=>(p b j).1⟩⟩
 done:=by intro X D t F B i W s O H E I p g y;subst D t F;obtain⟨N,M,f2,f3,f4,L⟩:=p d (by simp);have x:i=z.cps.size:=y;subst x;exact(C X.A (I.ok.hd B)).done s _ _ g λm l k=>⟨rfl,I.turned (t':=l) (λb o j e=>k b o (by simpa using j) e) N M f3 f4 L⟩
 self:=Sg
theorem O8{J:It}{xs:List V}{R:Hp->Prop}{g:TG}{l:TS}{D:lr}{b:St}{H:Hp}(A:Walk J xs R)(c:Nat->St->Hp->Prop)(B:c 0 b H)(v:∀i b H,i<=xs.length->c i b H->R H)(u:∀i x b H,xs[i]?=aa x->c i b H->g x b H λf j=>l {D with nx:=c (i+1),ct:=c (i+1),bk:=D.nx} f j) (z:∀b H,c xs.length b H->D.nx b H):∃W:Nat->Nat->St->Hp->Prop,(∃m,W 0 m b H)/\∀i m b H,W i m b H -> (J.stop i H/\D.nx b H)\/(J.go i H/\∃N:St->Hp->Prop,(∀h d,N h d->∃n,n<m/\W (i+1) n h d)/\∀x d,J.yld i H x d->g x b d λf j=>l {D with nx:=N,ct:=N,bk:=D.nx} f j):=by
 refine⟨λi m b H=>m=xs.length-i/\i<=xs.length/\c i b H,⟨xs.length,by simp,jd _,B⟩,?_⟩;rintro i m b H ⟨rfl,w,p⟩;have q:=A H (v i b H w p) i;by_cases r:i<xs.length
 .have o:xs[i]?=aa xs[i]:=by simp[r]
  obtain⟨C,s⟩:=q.1 xs[i] o;refine .inr ⟨C,c (i+1),λh d t=>⟨xs.length-(i+1),∅,rfl,r,t⟩,λx d y=>?_⟩;obtain⟨rfl,rfl⟩:=s x d y;exact u i _ b _ o p
 .have e:i=xs.length:=∅
  subst e;exact .inl ⟨q.2 rfl,z b H p⟩
theorem Q7{b:Type}(l:List b)(f:b->Bool)(d:Nat->Bool)(c:∀i x,l[i]?=aa x->d i=f x):(cy l.length).all d=l.all f:=by
 induction l generalizing d with
 |nil=>rfl
 |cons x r g=>rw[eR,B_,mW,pX,mW,c 0 x rfl];congr 1;exact g _ λi y h=>c (i+1) y (by simpa using h)
theorem Ro{bs:List Bool}{b:List ai}(r:bI (bs.map V.bl) b){i:Nat}{v:ai}(h:b.toArray[i]?=aa v):v=.bool (bs.getD i aj):=by
 have d:=r.length;rw[c0]at d;have g:i<b.length:=by have:=(uo.mp h).1;simpa using this
 have e:(bs.map V.bl)[i]?=aa (.bl (bs.getD i aj)):=by rw[iT,eI ∅];simp[uq,eI (show i<bs.length by lia)]
 obtain⟨u,c,f⟩:=r.get e;have:b[i]?=aa v:=by simpa using h
 rw[this]at c;cases c;exact f
theorem u_{A:a9}(h:A.handled=ac):A.in1.handled=ac:=h
theorem xj(j:X.calm=ah):eV X (.builtin "all") (λxs H Q=>∃(p:ae) (bs:List Bool),xs=[.ref p]/\cu X.K H p (bs.map V.bl)/\Q (.bl (bs.all id)) H):=by
 intro L s n H xs N Q I r h;obtain⟨p,bs,rfl,D,q⟩:=h;obtain⟨u,rfl,w⟩:=vals1 r;cases w;obtain⟨d,l,f,P⟩:=I.list D;have m:=l.length;rw[c0]at m;refine call_all_walk (Ca f.isList ?_);have K:p≠s.heap.objs.size:=by obtain⟨o,g,_⟩:=f.isList;exact cZ (bL g)
 refine⟨s.heap.objs.size,_,_,_,_,_,λi=>bs.getD i aj,rfl,Walks.list (u_ (I.ok.hd j)) s.heap.objs.size p K d.toArray,⟨⟨_,cD _ rfl,rfl,rfl⟩,?_⟩,λi v O T W C J=>?_,λS t k=>?_⟩
 .obtain⟨o,g,j,F⟩:=f.isList;exact⟨o,bp _ g,j,F⟩
 .rw[Ro l C];exact pR J
 .have e:(cy d.toArray.size).all (λi=>bs.getD i aj)=bs.all id:=by
   rw[cO,<-m];exact Q7 bs id _ λi x B=>by simp[uq,B]
  rw[e];have M:Inv X L n H {s with heap:=s.heap.push {cls:=.type "list_iterator",data:=.fields #[.ref p,.int 0 0]},toks:=s.toks}:=I.kept (t':=s.toks) λb o e=>bp _ e;exact⟨.bl _,H,Inv.turned (t':=t) M (it:=s.heap.objs.size) (λb o G e=>k b o (by simpa using G) e) I.fresh (jc I.lt) (.inr I.sz) (λx c e z=>by obtain⟨v,y⟩:=I.cell x c e;exact absurd y.lt (by rw[z];exact fW _)) (λA E z=>absurd (bL (I.pin A E).1) (by rw[z];exact fW _)),rfl,q⟩
end
section
variable{X:Cx}
def lg(z:Str)(a b:Option Int):Str:=⟨((z.cps.toList.drop (HT.sIx z.length 0 a)).take (HT.sIx z.length z.length b-HT.sIx z.length 0 a)).toArray⟩
theorem O6(a b:Nat):sliceRange (a:Int) (b:Int) 1=(cy (b-a)).map λk=>a+k:=by
 unfold sliceRange;have e:(if(1:Int) > 0 then(if(a:Int)<(b:Int)then((b:Int)-a+1-1) / 1 else 0)else(if(a:Int) > b then((a:Int)-b-1-1) / (-1)else 0)).toNat=b-a:=by
  rw[if_pos (by decide)];split
  .rw[Int.ediv_one];lia
  .have:b-a=0:=∅
   rw[this];rfl
 show(cy (if(1:Int) > 0 then(if(a:Int)<(b:Int)then((b:Int)-a+1-1) / 1 else 0)else(if(a:Int) > b then((a:Int)-b-1-1) / (-1)else 0)).toNat).map _=_;rw[e];refine kM λk _=>?_;lia
theorem J7(a b:Option Int)(n:Nat):Builtin.Str.strSliceIndices a b 1 n=(cy (HT.sIx n n b-HT.sIx n 0 a)).map λk=>HT.sIx n 0 a+k:=by
 rw[<-O6];have p:(1:Int) > 0:=by decide
 cases a <;> cases b <;> (unfold Builtin.Str.strSliceIndices HT.sIx;simp only[p,if_true];congr 1 <;> (try split) <;> lia)
theorem Ei{b:Type}(l:List b)(a k:Nat):((cy k).map λj=>a+j).filterMap (λi=>l[i]?)=(l.drop a).take k:=by
 induction k with
 |zero=>simp
 |succ k c=>
  rw[yb,Cb,List.filterMap_append,c,List.take_succ];congr 1;simp[pQ];cases l[a+k]? <;> rfl
theorem Lu(z:Str)(t:Tok)(l u:Option (Int×Tok)):∃m,sliceMade z t l u ac=m/\(m=.val (.str z t)/\lg z (l.map (·.1)) (u.map (·.1))=z\/m=.str (lg z (l.map (·.1)) (u.map (·.1)))):=by
 refine⟨_,rfl,?_⟩;unfold sliceMade slicePicked;have e:=J7 (l.map (·.1)) (u.map (·.1)) z.length;simp only[Option.map_none,HA];rw[e];have d:=Ei z.cps.toList (HT.sIx z.length 0 (l.map (·.1))) (HT.sIx z.length z.length (u.map (·.1))-HT.sIx z.length 0 (l.map (·.1)));have b:(((cy (HT.sIx z.length z.length (u.map (·.1))-HT.sIx z.length 0 (l.map (·.1)))).map λk=>HT.sIx z.length 0 (l.map (·.1))+k).filterMap (z.cps[·]?)).toArray=(lg z (l.map (·.1)) (u.map (·.1))).cps:=by unfold lg;rw[<-d];simp
 split
 .rename_i h;left;refine⟨rfl,?_⟩;simp only[beq_self_eq_true,ur,c0,Cc,beq_iff_eq]at h;have g:HT.sIx z.length z.length (u.map (·.1))<=z.length:=HT.sIx_le _ _ (bv _) _;have f:z.cps.toList.length=z.length:=by simp[Str.length]
  have a:HT.sIx z.length 0 (l.map (·.1))=0\/z.length=0:=∅
  unfold lg;rw[h];rcases a with a|a
  .rw[a,yd,rJ ∅]
  .have:z.cps.toList=[]:=pY ∅;rw[this];cases z;rename_i c;simp at this;subst this;simp
 .right;rw[show(⟨(((cy (HT.sIx z.length z.length (u.map (·.1))-HT.sIx z.length 0 (l.map (·.1)))).map λk=>HT.sIx z.length 0 (l.map (·.1))+k).filterMap (z.cps[·]?)).toArray⟩:Str)=lg z (l.map (·.1)) (u.map (·.1))from by rw[b]]
def EZ:V->Option Int->Option Int->Hp->VK->Prop:=λx a b H Q=>∃z,x=.str z/\z.length<=bq/\Q (.str (lg z a b)) H
theorem QM(z:Str)(a b:Option Int):(lg z a b).length<=z.length:=by unfold lg Str.length;simp;lia
theorem part_of{v:ai}{o:Option Int}(p:jz v o):∃q:Option (Int×Tok),v=partValue q/\q.map (·.1)=o:=by
 cases p with
 |none=>exact⟨ac,rfl,rfl⟩
 |int i t=>exact⟨aa (i,t),rfl,rfl⟩
theorem Sq:kn X EZ:=by
 intro y s n H x v p o r w a Q I b g d c h;obtain⟨z,rfl,f,q⟩:=h;obtain⟨t,rfl⟩:=b;obtain⟨l,rfl,rfl⟩:=part_of d;obtain⟨u,rfl,rfl⟩:=part_of c;refine⟨"str",_,F.slot_str_getitem.lookup,typeIs_str s z t,?_⟩;obtain⟨m,j,i⟩:=Lu z t l u;refine getItem_meets (typeIs_str s z t) (by decide) F.slot_str_getitem F.entry_str_getitem (F.args_str_getitem_2 _ _) (meets_str_getitem_slice z t a l u ac (by decide)) ⟨g,?_⟩;rw[j];rcases i with⟨rfl,e⟩|rfl
 .exact⟨.str z,H,I,⟨t,rfl⟩,by rw[e]at q;exact q⟩
 .exact⟨dr (QM z _ _) f,⟨.str _,H,I.tok _,⟨_,rfl⟩,q⟩⟩
def ii(K:aw)(H:Hp)(d:Nat)(x y:V)(k:Bool):Prop :=
 ∀(X:Cx),X.K=K->∀(b:List (ae×Obj)) (a:St) (s:ao) (u v:ai) (A:a9),Inv X b a H s->RelV x u->RelV y v->A.units+d<cLine->x9 A s u v k
theorem Du{K:aw}{H:Hp}{d:Nat}{x y:V}(f:gf x=ah)(c:gf y=ah):ii K H d x y (fh x y):=λ_ _ _ _ _ _ _ _ _ b a _=>EG b a f c
def fQ(e:Nat->Bool)(n m:Nat):Bool:=(cy (min n m)).all e&&n == m
theorem G6{A:a9}:A.in1.units=A.units+1:=rfl
theorem Ap{H:Hp}{d:Nat}{a b:ae}{xs c:List V}{e:Nat->Bool}{D:List (ae×Obj)}{o:St}{s:ao}{A:a9}(I:Inv X D o H s)(N:cu X.K H a xs)(M:cu X.K H b c)(L:∀(j:Nat) x y,xs[j]?=aa x->c[j]?=aa y->ii X.K H d x y (e j)) (Q:A.units+(d+1)<cLine):SeqAt.RcAt A s (.ref a) (.ref b) (fQ e xs.length c.length)/\SeqAt.RcNeAt A s (.ref a) (.ref b) (!fQ e xs.length c.length):=by
 obtain⟨g,q,n,_⟩:=I.list N;obtain⟨i,p,f,_⟩:=I.list M;have K:=q.length;have P:=p.length;have w:∀j (B:j<g.toArray.size) (z:j<i.toArray.size),x9 A.in1 s g.toArray[j] i.toArray[j] (e j):=λj B z=>by
  have F:j<g.length:=by simpa using B
  have E:j<i.length:=by simpa using z
  have l:xs[j]?=aa xs[j]:=eI ∅;have C:c[j]?=aa c[j]:=eI ∅;obtain⟨u,t,J⟩:=q.get l;obtain⟨v,r,G⟩:=p.get C;have O:g[j]=u:=by rw[eI F]at t;exact eG t
  have f2:i[j]=v:=by rw[eI E]at r;exact eG r
  have:=L j xs[j] c[j] l C X rfl D o s u v A.in1 I J G (by rw[G6];lia);simpa[O,f2]using this
 by_cases h:xs.length=c.length
 .have m:g.toArray.size=i.toArray.size:=by simp;lia
  have l:fQ e xs.length c.length=(cy g.toArray.size).all e:=by unfold fQ;rw[h,Nat.min_self,beq_self_eq_true,Bool.and_true,cO,<-K,h]
  rw[l];exact⟨.lists n.isList f.isList m ∅ w,.lists n.isList f.isList m ∅ w⟩
 .have l:fQ e xs.length c.length=aj:=by
   unfold fQ;rw[beq_false_of_ne h,ye]
  have m:(g.toArray.size != i.toArray.size)=ah:=by simp;lia
  rw[l];exact⟨.lists_lengths n.isList f.isList m ∅,.lists_lengths n.isList f.isList m ∅⟩
theorem Bw{H:Hp}{d:Nat}{a b:ae}{xs c:List V}{e:Nat->Bool}{B:List (ae×Obj)}{l:St}{s:ao}{A:a9}(I:Inv X B l H s)(M:cG X.K H a xs)(L:cG X.K H b c)(K:∀(j:Nat) x y,xs[j]?=aa x->c[j]?=aa y->ii X.K H d x y (e j)) (O:A.units+(d+1)<cLine):SeqAt.RcAt A s (.ref a) (.ref b) (fQ e xs.length c.length)/\SeqAt.RcNeAt A s (.ref a) (.ref b) (!fQ e xs.length c.length):=by
 obtain⟨g,n,q,_⟩:=I.tuple M;obtain⟨f,m,h,_⟩:=I.tuple L;have G:=n.length;have J:=m.length;have r:∀j (w:j<g.toArray.size) (t:j<f.toArray.size),x9 A.in1 s g.toArray[j] f.toArray[j] (e j):=λj w t=>by
  have D:j<g.length:=by simpa using w
  have C:j<f.length:=by simpa using t
  have i:xs[j]?=aa xs[j]:=eI ∅;have z:c[j]?=aa c[j]:=eI ∅;obtain⟨u,p,F⟩:=n.get i;obtain⟨v,o,E⟩:=m.get z;have N:g[j]=u:=by rw[eI D]at p;exact eG p
  have f2:f[j]=v:=by rw[eI C]at o;exact eG o
  have:=K j xs[j] c[j] i z X rfl B l s u v A.in1 I F E (by rw[G6];lia);simpa[N,f2]using this
 have i:fQ e xs.length c.length=((cy (min g.toArray.size f.toArray.size)).all e&&g.toArray.size == f.toArray.size):=by unfold fQ;rw[cO,cO,<-G,<-J]
 rw[i];exact⟨.tuples q h ∅ r,.tuples q h ∅ r⟩
theorem IN{K:aw}{H:Hp}{d:Nat}{a b:ae}{xs c:List V}{e:Nat->Bool}(m:cu K H a xs)(l:cu K H b c)(o:a≠b)(i:∀(j:Nat) x y,xs[j]?=aa x->c[j]?=aa y->ii K H d x y (e j)):ii K H (d+1) (.ref a) (.ref b) (fQ e xs.length c.length):=λX n q p s u v A I g f h=>by
 subst n;cases g;cases f;exact .of_refs o (Ap I m l i h).1
theorem KW{K:aw}{H:Hp}{d:Nat}{a b:ae}{xs c:List V}{e:Nat->Bool}(m:cG K H a xs)(l:cG K H b c)(o:a≠b)(i:∀(j:Nat) x y,xs[j]?=aa x->c[j]?=aa y->ii K H d x y (e j)):ii K H (d+1) (.ref a) (.ref b) (fQ e xs.length c.length):=λX n q p s u v A I g f h=>by
 subst n;cases g;cases f;exact .of_refs o (Bw I m l i h).1
theorem De{K:aw}{H:Hp}{d:Nat}{a:ae}:ii K H d (.ref a) (.ref a) ah:=λX h i f s u v A I c b g=>by
 cases c;cases b;exact .same _
def sQ(K:aw)(f:Bool):R2:=λx y H Q=>∃a b xs c d e,x=.ref a/\y=.ref b/\((cu K H a xs/\cu K H b c)\/(cG K H a xs/\cG K H b c))/\d<=8 /\
 (∀(j:Nat) x y,xs[j]?=aa x->c[j]?=aa y->ii K H d x y (e j))/\Q (.bl (if f then !fQ e xs.length c.length else fQ e xs.length c.length)) H
theorem CY(m:X.A.units+64<cLine):bR X (d_ .Eq) (sQ X.K aj):=by
 intro o s j H x y v u Q I g f h;obtain⟨a,b,xs,l,d,e,rfl,rfl,i,n,c,q⟩:=h;cases g;cases f;rcases i with⟨h1,h2⟩|⟨h1,h2⟩
 .exact(Ap I h1 h2 c ∅).1 _ _ _ _ ⟨.bl _,H,I,rfl,q⟩
 .exact(Bw I h1 h2 c ∅).1 _ _ _ _ ⟨.bl _,H,I,rfl,q⟩
theorem OL(m:X.A.units+64<cLine):bR X (d_ .NotEq) (sQ X.K ah):=by
 intro o s j H x y v u Q I g f h;obtain⟨a,b,xs,l,d,e,rfl,rfl,i,n,c,q⟩:=h;cases g;cases f;rcases i with⟨h1,h2⟩|⟨h1,h2⟩
 .exact(Ap I h1 h2 c ∅).2 _ _ _ _ ⟨.bl _,H,I,rfl,q⟩
 .exact(Bw I h1 h2 c ∅).2 _ _ _ _ ⟨.bl _,H,I,rfl,q⟩
def LJ(K:aw):V->List V->Hp->VK->Prop:=λx a H Q=>∃(p:ae) (xs:List V) (y:V),x=.ref p/\a=[y]/\H p=aa (.lst xs)/\gf y=ah/\xs.all gf=ah/\Q (.int ((xs.countP λz=>fh z y:Nat):Int)) H
theorem Gs{y:V}:∀{xs:List V}{a:List ai},bI xs a->xs.all gf=ah->a.countP (jt y)=xs.countP λz=>fh z y
 |_,_,.nil,_=>rfl
 |z::xs,u::a,.cons r t,f=>by rw[mW,fI]at f;rw[List.countP_cons,List.countP_cons,vI r f.1,Gs t f.2]
theorem Lf:xN X "list.count" (LJ X.K):=by
 intro A s l H x m v o Q I c d h;obtain⟨p,xs,y,rfl,rfl,i,j,b,q⟩:=h;cases c;obtain⟨u,rfl,f⟩:=d.one;obtain⟨z,a,n,r,t,e⟩:=I.lstM i;refine mZ F.slot_list_count ⟨_,e,rfl⟩ F.entry_list_count (F.args_list_count_2 _ _) (SeqAt.list_countAt p a.toArray n ac #[] u (jt y)) ⟨e,λw g=>sD f j r b w (by simpa using g),?_⟩;exact⟨.int _,H,I.tok _,⟨_,by rw[List.toList_toArray,Gs r b]⟩,q⟩
def Nx:V->List V->Hp->VK->Prop:=λx a H Q=>∃(p:ae) (xs:List V) (y:V) (j:Nat),x=.ref p/\a=[y]/\H p=aa (.lst xs)/\gf y=ah/\xs.all gf=ah/\j<xs.length /\
 (∀z,xs[j]?=aa z->fh z y=ah)/\(∀(i:Nat) z,i<j->xs[i]?=aa z->fh z y=aj)/\Q (.int j) H
theorem Oj:xN X "list.index" Nx:=by
 intro ag s P H x S v T Q I A B h;obtain⟨p,xs,y,j,rfl,rfl,J,M,o,Z,L,K,q⟩:=h;cases A;obtain⟨u,rfl,C⟩:=B.one;obtain⟨z,a,n,r,Y,e⟩:=I.lstM J;have W:=sX;have c:∀(i:Nat) (l:i<a.toArray.size),∃w,xs[i]?=aa w/\jt y a.toArray[i]=fh w y:=λi l=>by
  have g:i<a.length:=by simpa using l
  have t:xs[i]?=aa xs[i]:=eI ∅;obtain⟨w,b,D⟩:=r.get t;have O:a[i]=w:=by rw[eI g]at b;exact eG b
  refine⟨_,t,?_⟩;have N:gf xs[i]=ah:=j7.mp o _ (Cd _);rw[<-vI D N];simp[O]
 refine mZ F.slot_list_index ⟨_,e,rfl⟩ F.entry_list_index (F.args_list_index_2 _ _) (SeqAt.list_indexAt p a.toArray n ac #[] u (jt y) j (by simp;lia) ∅ ?_ ?_) ⟨e,λw E=>sD C M r o w (by simpa using E),?_⟩
 .obtain⟨w,b,d⟩:=c j (by simp;lia);rw[d];exact L w b
 .intro m G f;obtain⟨w,b,d⟩:=c m G;rw[d];exact K m w f b
 .exact⟨.int _,H,I.tok _,⟨_,rfl⟩,q⟩
end
abbrev Tx:=List Nat
def tS(l:Tx):Str:=⟨l.toArray⟩
def tV(l:Tx):V:=.str (tS l)
def df(ls:List Tx):List V:=ls.map tV
theorem kB(l:Tx):(tS l).cps.toList=l:=by simp[tS]
theorem jP(l:Tx):(tS l).length=l.length:=by simp[tS,Str.length]
theorem Nb(z:Str):tS z.cps.toList=z:=by cases z;simp[tS]
theorem vS{a b:Tx}(h:tS a=tS b):a=b:=by rw[<-kB a,h,kB]
theorem LV{a b:Tx}(h:tV a=tV b):a=b:=vS (V.str.inj h)
theorem tN(a:List Tx):(df a).length=a.length:=c0 _
def dP(a b:Tx):Bool:=decide (a<=b)
def bG(ls:List Tx):List Tx:=ls.mergeSort dP
theorem zS(a b c:Tx)(f:dP a b=ah)(d:dP b c=ah):dP a c=ah:=by simp only[dP,decide_eq_true_eq]at *;exact List.le_trans f d
theorem Lr(a b:Tx):(dP a b||dP b a)=ah:=by simp only[dP,Ce,decide_eq_true_eq];exact List.le_total a b
theorem OP{a b:Tx}(d:dP a b=ah)(c:dP b a=ah):a=b:=by simp only[dP,decide_eq_true_eq]at *;exact List.le_antisymm d c
theorem nI(a:List Tx):(bG a).Perm a:=List.mergeSort_perm _ _
theorem wW(c:List Tx):(bG c).Pairwise (λa b=>dP a b=ah):=List.pairwise_mergeSort zS Lr _
theorem FX(a:List Tx):(bG a).length=a.length:=(nI a).length_eq
theorem A4{c d:List Tx}(g:d.Perm c)(f:d.Pairwise (λa b=>dP a b=ah)):d=bG c :=List.Perm.eq_of_pairwise (le:=λa b=>dP a b=ah) (λ_ _ _ _ i h=>OP i h) f (wW c) (g.trans (nI c).symm)
theorem Gg{c:List Tx}(d:c.Pairwise (λa b=>dP a b=ah)):bG c=c:=(A4 (Cf c) d).symm
theorem Eu:∀(p:Str) (l:List Str),risingS p l=ah->(p::l).Pairwise (λa b=>dP a.cps.toList b.cps.toList=ah)
 |p,[],_=>List.pairwise_singleton _ _
 |p,x::r,h=>by
  have d:(!ltCps x.cps.toList p.cps.toList&&risingS x r)=ah:=h;rw[fI,ltCps_eq]at d;have q:=Eu x r d.2;have f:dP p.cps.toList x.cps.toList=ah:=by simp only[dP,decide_eq_true_eq];intro g;simp[g]at d
  refine HJ.mpr ⟨λy c=>?_,q⟩;rcases bV.mp c with rfl|c
  .exact f
  .exact zS _ _ _ f (List.rel_of_pairwise_cons q c)
theorem Q9{c:List Str}(h:sortedS c=ah):(c.map λz=>z.cps.toList).Pairwise (λa b=>dP a b=ah):=by
 rw[List.pairwise_map];cases c with
 |nil=>exact List.Pairwise.nil
 |cons x r=>exact Eu x r h
theorem yM:∀{ls:List Tx}{a:List ai},bI (df ls) a->gK a (ls.map tS)
 |[],_,.nil=>.nil
 |l::ls,_::_,.cons ⟨t,e⟩ r=>by subst e;exact .cons _ t (yM (ls:=ls) r)
theorem Fq:∀{b:List Str}{a:List ai},gK a b->bI (df (b.map λz=>z.cps.toList)) a
 |_,_,.nil=>.nil
 |_,_,.cons y t h=>.cons ⟨t,by rw[Nb]⟩ (Fq h)
section
variable{P:bb}{w:aS}{A:a9}{E:ai->ao->Prop}{s:ao}
theorem Ey{v:ai}{Q:ai->ao->Prop}(x:ax (aA P w) A.in1 (collect v) (λd s1=>∃ss:List Str,gK d ss/\d.length<64/\∀(i:aD) (out:Array ai) (f:List Str) (e:Nat),(∀b o,s1.heap.get? b=aa o->i.get? b=aa o) -> i.get? s1.heap.objs.size=aa (seqObj "list" out e)->gK out.toList f->f.Perm ss->sortedS f=ah->Q (.ref s1.heap.objs.size) {s1 with heap:=i}) E s):ax (aA P w) A (call (.builtin "sorted") [v]) Q E s:=by refine Calls.call_function_entry kind_sorted plain_sorted entry_sorted (args_sorted1 _) ?_;unfold Builtin.«sorted»;refine aq (m:=checkCount "sorted" 1 1 _) (aI ?_);refine aq (bf x λd s1 ⟨ss,h,p,j⟩=>?_);refine aq (wpAny_newList ?_);have g:(s1.heap.push (seqObj "list" d.toArray 0)).get? s1.heap.objs.size=aa (seqObj "list" d.toArray 0):=cD _ rfl;refine aq (mU (mV slot_list_sort ⟨_,g,rfl⟩ entry_list_sort (list_sort_treeK strKind_oneLt g h.keysOf (λa b c e=>keyKind_strs (by rw[<-e];exact h)) p λq t r=>⟨_,rfl,?_⟩) (args_list_sort _)));obtain⟨f,B,z,y⟩:=sorted_out_str h t r;obtain⟨e,u⟩:=sortedHeap_at (out:=(arrOf q).map (·.2)) g;refine aI ⟨_,rfl,j _ _ f e (λb o l=>?_) u B z y⟩;have n:b<s1.heap.objs.size:=bL l;rw[sortedHeap_old (cZ n) (by rw[j8];exact lM n)];exact bp _ l
end
section
variable{X:Cx}
theorem Inv.sorted{g:List (ae×Obj)}{f:St}{H:Hp}{s1:ao}{a:List Tx}{ss c:List Str}{d:aD}{out:Array ai}{e:Nat}(I:Inv X g f H s1)(j:ss=a.map tS)(r:a.length<64)(k:∀b o,s1.heap.get? b=aa o->d.get? b=aa o) (i:d.get? s1.heap.objs.size=aa (seqObj "list" out e)) (q:gK out.toList c) (p:c.Perm ss) (n:sortedS c=ah):Inv X g f (upd H s1.heap.objs.size (.lst (df (bG a)))) {s1 with heap:=d}:=by
 have m:c.map (λz=>z.cps.toList)=bG a:=by
  refine A4 ?_ (Q9 n);have:=p.map λz=>z.cps.toList;rw[j,eU]at this;have l:(a.map ((λz:Str=>z.cps.toList) ∘ tS))=a:=by simp[Function.comp_def,kB]
  rw[l]at this;exact this
 have h:bI (df (bG a)) out.toList:=by rw[<-m];exact Fq q
 refine I.laid (t':=s1.toks) k (bv _) ⟨?_,out.toList,e,h,?_⟩
 .rw[tN,FX];exact pP (AX ∅)
 .rw[Array.toArray_toList];exact i
theorem sy:eV X (.builtin "sorted") (λxs H Q=>∃(p:ae) (d:List Tx),xs=[.ref p]/\(cu X.K H p (df d)\/cG X.K H p (df d))/\d.length<64/\∀l,H l=ac->Q (.ref l) (upd H l (.lst (df (bG d))))):=by
 intro D s v H xs J Q I r h;obtain⟨p,d,rfl,f,y,q⟩:=h;obtain⟨u,rfl,w⟩:=vals1 r;cases w;have b:∀(T:String) (o:Obj) (a:List ai) (n:Nat),(T = "list"\/T = "tuple")->s.heap.get? p=aa o->o.cls=.type T->o.data=.seq a.toArray n->bI (df d) a ->
   ax (aA X.prog X.w) X.A (call (.builtin "sorted") [Value.ref p]) (EP X D v Q) X.xe s:=λT o a n C j i g c=>by
  have B:=c.length;rw[tN]at B;have m:=AX (n:=a.length) ∅;refine Ey (wpAny_collect_seq p C j i g (λK z=>?_) (by rw[cO];lia));have t:=I.kept (t':=s.toks) z;refine⟨_,yM c,by rw[List.toList_toArray];lia,λL out M e k j G F E=>?_⟩;exact⟨.ref _,_,Inv.sorted t rfl y k j G F E,rfl,q _ t.fresh⟩
 rcases f with f|f
 .obtain⟨a,c,x,A⟩:=I.list f;obtain⟨o,e,i,n,g⟩:=x.isList;exact b "list" o a n (.inl rfl) e i g c
 .obtain⟨a,c,⟨o,e,i,n,g⟩,A⟩:=I.tuple f;exact b "tuple" o a n (.inr rfl) e i g c
theorem Mv(z:Tx)(n:Nat):Txt.mul (tS z) (n:Int)=tS (a8 n z).flatten:=by
 unfold Txt.mul;cases n with
 |zero=>simp[tS,kH]
 |succ n=>
  rw[if_neg ∅];split
  .rename_i h;simp only[Ce,beq_iff_eq]at h;rcases h with h|h
   .have:n=0:=∅
    subst this;simp
   .rw[jP]at h;have:z=[]:=pY h;subst this;simp
  .unfold tS;congr 1;have b:∀(k:Nat) (a:Array Nat),(a8 k z.toArray).foldl (·++·) a=a++(a8 k z).flatten.toArray:=by
    intro k
    induction k with
    |zero=>intro a;simp
    |succ k c=>intro a;rw[j5,rF,c,j5,oP];simp[Array.append_assoc]
   have e:=b (n+1) #[];simp only[je];simpa using e
theorem Ob:bR X (gu .Mult) (λx y H Q=>∃(z:Tx) (n:Nat),x=tV z/\y=.int n/\n<=100/\z.length<=100/\Q (tV (a8 n z).flatten) H):=by
 intro w s j H x y v u Q I c b h;obtain⟨z,n,rfl,rfl,f,d,q⟩:=h;obtain⟨t,rfl⟩:=c;obtain⟨m,rfl⟩:=b;refine SB.mul ?_ λl k=>?_
 .have o:z.length*n<=10000:=dr (ut d f) (by decide);refine⟨by rw[Bool.or_eq_false_iff];constructor <;> (apply decide_eq_false;lia),λi _=>?_,λi _=>?_⟩
  .rw[jP];intro g;have r:(2^63-1:Int) / n ≥ (2^63-1) / 100:=by
    have a:(0:Int)<n:=∅
    apply (Int.le_ediv_iff_mul_le a).mpr;have:((2^63-1:Int) / 100)*n<=((2^63-1) / 100)*100:=Int.mul_le_mul_of_nonneg_left ∅ (by decide);refine Int.le_trans this (by decide)
   have p:((2^63-1:Int) / 100) > 1000:=by decide
   lia
  .rw[jP,je];unfold Builtin.Str.tooLong;apply decide_eq_false;have:10000<bq:=by rw[j2];decide
   lia
 .rw[Mv];exact⟨tV _,H,I.tok _,⟨_,rfl⟩,q⟩
end
theorem MD(t:jB)(j:Nat):(t.put j).1.led=t.led/\(t.put j).1.plain=t.plain:=⟨rfl,rfl⟩
theorem IV(t:jB)(n:Nat):(t.orStandIn n).led=t.led/\((t.orStandIn n).plain=t.plain\/(t.orStandIn n).plain=aj):=by
 unfold SetTable.orStandIn;split
 .exact⟨rfl,.inl rfl⟩
 .exact⟨rfl,.inr rfl⟩
theorem J4(t:jB)(c:Array (Int×ai))(h:Int)(x:ai):(layNew t c h x).2.1.led=t.led/\((layNew t c h x).2.1.plain=t.plain\/(layNew t c h x).2.1.plain=aj):=by
 unfold layNew;split
 .rename_i a b _;have f:=MD t a;have d:=IV (t.put a).1 (SetTable.insertAt c (t.put a).2 (h,x)).size;exact⟨d.1.trans f.1,by rw[<-f.2];exact d.2⟩
 .exact⟨rfl,.inr rfl⟩
theorem NU(t:jB)(c:Array (Int×ai))(a:Nat)(d:t.plain=aj):(rK t c a).2.1.led=t.led/\(rK t c a).2.1.plain=aj:=by
 unfold rK;split
 .rename_i t' b e;have q:t'.led=t.led/\t'.plain=t.plain:=by
   unfold SetTable.relaid SetTable.laid at e;cases q:SetTable.layClean (SetTable.sizeAbove a-1) (c.map (·.1))with
   |none=>rw[q]at e;cases e
   |some f=>rw[q]at e;cases e;exact⟨rfl,rfl⟩
  dsimp only;split
  .exact⟨q.1,q.2.trans d⟩
  .exact⟨rfl,rfl⟩
 .exact⟨rfl,rfl⟩
def d5(w:aS):Bool:=w.params.followText "set-order"
structure ju(P:bb)(w:aS)(h:aD)(a:ae)(ks:List Str):Prop where
 ex:∃(es:Array (Int×ai)) (ep:Nat) (t:jB) (ss:List Str),h.get? a=aa {cls:=.type "set",dict:=ac,data:=.set es ep t}/\gK (es.toList.map (·.2)) ss/\ss.Perm ks/\ElemsOf (jC P w) es.toList /\
  es.size<4090/\t.fits es.size=ah/\t.led=(!d5 w)/\(ks≠[]->t.plain=aj)
theorem ju.at{P:bb}{w:aS}{h h':aD}{a:ae}{ks:List Str}(S:ju P w h a ks)(k:∀o,h.get? a=aa o->h'.get? a=aa o):ju P w h' a ks:=by obtain⟨b,c,t,ss,e,r⟩:=S.ex;exact⟨b,c,t,ss,k _ e,r⟩
theorem FQ:∀{a:List ai}{b:List Str},gK a b->∀x,x∈b↔∃t,Value.str x t∈a
 |_,_,.nil,x=>by simp
 |_,_,.cons y t h,x=>by
  rw[bV,FQ h x];constructor
  .rintro(rfl|⟨t',q⟩)
   .exact⟨t,mM ..⟩
   .exact⟨t',jv _ q⟩
  .rintro⟨t',q⟩;rcases bV.mp q with q|q
   .cases q;exact .inl rfl
   .exact .inr ⟨t',q⟩
theorem zH:∀{a b:List ai},a.Perm b->∀{c:List Str},gK b c->∃d,gK a d/\d.Perm c:=by intro a b p c h;refine⟨a.map strOf,strsAre_map a λv f=>h.all v (p.mem_iff.mp f),?_⟩;have:=p.map strOf;rwa[h.strs]at this
section
variable{P:bb}{w:aS}{A:a9}{E:ai->ao->Prop}{s:ao}
def jr(ks:List Str)(x:Str):List Str:=if x∈ks then ks else ks++[x]
theorem ju.put{h:aD}{a:ae}{c es':Array (Int×ai)}{b:Nat}{t t':jB}(e:h.get? a=aa {cls:=.type "set",dict:=ac,data:=.set c b t}):(h.update a (Obj.putSet es' t')).get? a=aa {cls:=.type "set",dict:=ac,data:=.set es' (b+1) t'}:=by have:=oQ (Obj.putSet es' t') e (by rw[putSet_of es' t' rfl];rfl);rw[putSet_of es' t' rfl]at this;exact this
theorem Ka{a:ae}{ks:List Str}{x:Str}{g:Tok}{Q:Bool->ao->Prop}(S:ju P w s.heap a ks)(hn:ks.length<4000)(h:∀m b,j1 a s.heap m->ju P w m a (jr ks x)->Q b {s with heap:=m}):ax (aA P w) A (setAddHashed a (.str x g) ((jC P w).hash x)) Q E s:=by
 obtain⟨n,ep,t,ss,W,X,hp,D,hsz,hf,qb,dR⟩:=S.ex;have z:∀y t',(jC P w).is x (.str y t')=decide (y=x):=λy t'=>by
  show ue x (.str y t')=_;rw[ug];simp[ue]
  try exact eq_comm
 have rV:(jC P w).is x (.str x g)=ah:=by rw[z];simp
 have hb:n.size<scanBound:=B7 hsz (by decide);unfold setAddHashed setAddHashedIn;refine mU (aq (rL W rfl hf ?_));dsimp only;rw[byScan_of (knd:=jC P w) (x:=.str x g) rfl hb D];simp only[if_true];unfold setAddByScan;refine aq (aq (uu (aq (wpAny_setScan_of rV W rfl hf D ?_))));have u:x∈ks↔∃e∈n.toList,(jC P w).is x e.2=ah:=by
  rw[<-hp.mem_iff,FQ X x];constructor
  .rintro⟨t',q⟩;obtain⟨e,I,ee⟩:=eJ.mp q;exact⟨e,I,by rw[ee,z];simp⟩
  .rintro⟨e,I,q⟩;obtain⟨y,t',ey⟩:=X.all e.2 (eJ.mpr ⟨e,I,rfl⟩);rw[ey,z]at q;have:y=x:=of_decide_eq_true q;subst this;exact⟨t',eJ.mpr ⟨e,I,ey⟩⟩
 have klen:ks.length=n.size:=by
  have Z:=hp.length_eq;have Y:ss.length=n.size:=by rw[<-X.strs];simp
  lia
 cases hr:List.findIdx? (λe=>(jC P w).is x e.2) n.toList with
 |some j=>dsimp only;obtain⟨hj,hpj,_⟩:=RV.mp hr;have T:x∈ks:=u.mpr ⟨_,Cd hj,hpj⟩;refine aI (aI ?_);exact h s.heap _ (Heap.SameBut.refl a s.heap) (by unfold jr;rw[if_pos T];exact S)
 |none=>
  dsimp only;have T:¬x∈ks:=λhm=>by obtain⟨e,I,q⟩:=u.mp hm;have:=List.findIdx?_eq_none_iff.mp hr e I;rw[q]at this;exact Bool.noConfusion this
  have K:∀(b:Bool) {i:ao}{Q':Unit->ao->Prop},Q' () i->ax (aA P w) A (match b with|ah=>rule "set.scan.the-table-gave-way" |aj=>pure ()) Q' E i :=
   λb i Q' hq=>by cases b <;> first|exact aI hq|exact uu hq
  have G:=layNew_perm t n ((jC P w).hash x) (.str x g);have M:=layNew_fits t n ((jC P w).hash x) (.str x g);have B:=J4 t n ((jC P w).hash x) (.str x g);generalize hL:layNew t n ((jC P w).hash x) (.str x g)=L at G M B ⊢;obtain⟨c,t1,f,gave⟩:=L;dsimp only at G M B ⊢;rw[Array.toList_push]at G;have v:ElemsOf (jC P w) c.toList:=(D.push rV rfl).perm G;have hsz1:c.size=n.size+1:=by have:=G.length_eq;simpa using this
  have hS1:∃H,gK (c.toList.map (·.2)) H/\H.Perm (jr ks x):=by
   have p1:=G.map (λe:Int×ai=>e.2);rw[Cb]at p1;have q1:gK (n.toList.map (·.2)++[Value.str x g]) (ss++[x]):=by
    have gen:∀{vs:List ai}{zs:List Str},gK vs zs->gK (vs++[Value.str x g]) (zs++[x]):=by
     intro vs zs hh
     induction hh with
     |nil=>exact .cons x g .nil
     |cons y t _ ih=>exact .cons y t ih
    exact gen X
   obtain⟨H,O,N⟩:=zH p1 q1;refine⟨H,O,N.trans ?_⟩;unfold jr;rw[if_neg T];exact hp.append_right _
  obtain⟨H,O,N⟩:=hS1;have cR:jr ks x≠[]:=by unfold jr;rw[if_neg T];simp
  have p:∀d:jB,d.fits c.size=ah->d.led=(!d5 w)->d.plain=aj->ax (aA P w) A (do
    storeSet a c d
    if(!f&&d.tooFull)=ah then do
      (match (rK d c (rM c.size)).2.2 with|ah=>rule "set.scan.the-table-gave-way" |aj=>pure ())
      storeSet a (rK d c (rM c.size)).1 (rK d c (rM c.size)).2.1
      pure (aa ah)
     else pure (aa ah)) (λr s'=>∃m,r=aa ah/\s'={s with heap:=m}/\j1 a s.heap m/\ju P w m a (jr ks x)) E s:=by
   intro d hf2 iz nt;refine aq (wpAny_storeSet_of W rfl ?_ (fits_of_scanBound (B7 (show c.size<4090 by lia) (by decide))));have o1:=ju.put (es':=c) (t':=d) W;have iZ:=rN s.heap a (Obj.putSet c d);split
   .have l:=relayAll_perm d c (rM c.size);have C:=relayAll_fits d c (rM c.size);have o:=NU d c (rM c.size) nt;generalize hRl:rK d c (rM c.size)=Rl at l C o ⊢;obtain⟨F,t3,gave2⟩:=Rl;dsimp only at l C o ⊢;have hsz2:F.size=c.size:=by have:=l.length_eq;simpa using this
    refine aq (K _ ?_);refine aq (wpAny_storeSet_of o1 rfl ?_ (fits_of_scanBound (B7 (show F.size<4090 by lia) (by decide))));obtain⟨ss2,u1,u2⟩:=zH (l.map (λe:Int×ai=>e.2)) O;refine aI ⟨_,rfl,rfl,iZ.trans (rN _ a _),⟨F,_,t3,ss2,ju.put o1,u1,u2.trans N,v.perm l,∅,C,o.1.trans iz,λ_=>o.2⟩⟩
   .exact aI ⟨_,rfl,rfl,iZ,⟨c,_,d,H,o1,O,N,v,∅,hf2,iz,λ_=>nt⟩⟩
  have Ih:t1.led=(!d5 w):=B.1.trans qb;refine aq (K _ ?_);split
  .refine aq ?_;rw[hashByValue_scannable 8 (x:=.str x g) rfl];refine aI ?_;have hk:plainKind (.str x g)=aj:=rfl;rw[hk];simp only[Cg,if_false];refine bf (p {t1 with plain:=aj} (SetTable.fits_plain_off M) Ih rfl) λr s' ⟨m,Z,Y,e3,e4⟩=>?_;subst Z Y;exact aI (h m _ e3 e4)
  .rename_i J;refine aq (aI ?_);simp only[if_true];refine bf (p t1 M Ih (by simpa using J)) λr s' ⟨m,Z,Y,e3,e4⟩=>?_;subst Z Y;exact aI (h m _ e3 e4)
end
def met(val:Nat->Str)(i:Nat):List Str:=((cy i).map val).foldl jr []
theorem FP(val:Nat->Str)(i:Nat):met val (i+1)=jr (met val i) (val i):=by unfold met;rw[yb,Cb,List.foldl_append];rfl
theorem EI(val:Nat->Str){i:Nat}:∀{j:Nat},i<=j->(met val i).length<=(met val j).length
 |0,h=>by rw[show i=0 by lia];exact bv _
 |j+1,h=>by
  by_cases e:i=j+1
  .subst e;exact bv _
  .refine dr (EI val (j:=j) ∅) ?_;rw[FP];unfold jr;split
   .exact bv _
   .simp
section
variable{P:bb}{w:aS}{A:a9}{R:Result->ao->Prop}{I:ae}{c a:List ae}{G:Array GenState->Array GenState->Prop}{n:Nat}{d:Nat->ai->Prop}{St:Nat->ao->Prop}
theorem En(W:WalksS P w A.in1 I c a G n d St)(S:ae)(C:S∉c){J:Nat->aD->Prop}(H:∀i h j,J i h->(∀b o,b∉a->h.get? b=aa o->j.get? b=aa o)->J i j)(L:∀(i:Nat) (v:ai) (s:ao) (E:ai->ao->Prop) (Q:Bool->ao->Prop),i<n->d i v->J i s.heap->(∀j t b,s.toks<=t->j1 S s.heap j->J (i+1) j->Q b {s with heap:=j,toks:=t})->ax (aA P w) A.in1 (setAdd S v) Q E s):∀(k i:Nat) (s:ao),n-i=k->i<=n->St i s->J i s.heap -> (∀f,Moved (S::a) G s f->J n f.heap->R (.ok (.ret .none)) f)->j3 (aA P w) A (.builtin "set.update.loop" ⟨[.ref S,.ref I],[]⟩) R s:=by
 have T:S∉a:=λh=>C (W.sub _ h);have F:∀b∈a,b∈S::a:=λb g=>jv _ g;intro k
 induction k with
 |zero=>
  intro i s N O z x y;obtain rfl:i=n:=∅
  refine uv RX ?_;rw[yf HK _];show ax _ A.in1 (oK (.ref I) >>= _) _ _ s;refine aq (W.done s _ _ z λf q=>?_);show ax _ A.in1 (ret Value.none) _ _ f;exact aI (y f (q.mono F) (H _ _ _ x λb o g e=>q.heap b o g e))
 |succ k M=>
  intro i s N O z x y;have B:i<n:=∅
  refine uv RX ?_;rw[yf HK _];show ax _ A.in1 (oK (.ref I) >>= _) _ _ s;refine aq (W.item i s _ _ B z λv f X l q=>?_);show ax _ A.in1 (holding [v] (setAdd S v) >>= _) _ _ f;refine aq (mU (L i v f _ _ B X (H _ _ _ x λb o g e=>q.heap b o g e) λj t b D m K=>?_));refine aI ⟨Ch HK _,M (i+1) _ ∅ B (W.frame _ f _ _ l D λb g o e=>?_) K λu p r=>?_⟩
  .rw[m.2 b (λh:b=S=>C (by rw[<-h];exact g))];exact e
  .refine y u (Moved.trans W.gtrans ((q.mono F).then_heap D λb o g e=>?_) p) r;rw[m.2 b (λh:b=S=>g (by rw[h];exact mM))];exact e
end
section
variable{P:bb}{w:aS}{A:a9}{E:ai->ao->Prop}{s:ao}
theorem Ma(a:ai){Q:ai->ao->Prop} (h:ju P w (s.heap.push {cls:=.type "set",dict:=ac,data:=.set #[] 0 (.fresh 0 0 (!d5 w))}) s.heap.objs.size [] -> Q (.ref s.heap.objs.size) {s with heap:=s.heap.push {cls:=.type "set",dict:=ac,data:=.set #[] 0 (.fresh 0 0 (!d5 w))}}):j3 (aA P w) A (.call (.builtin "set.__new__") ⟨[.type "set",a],[]⟩) (wants Q E) s:=by
 refine codeAny_of_tree ?_;show ax _ A.in1 (do HL "set.__new__" ⟨[.type "set",a],[]⟩;again (.builtin "set.__new__" ⟨[.type "set",a],[]⟩)) _ _ s;refine aq (wpAny_of_eq (PySem.F.newCall_set_1 a) (aI ⟨Ch F.plain_set_new _,uv F.entry_set_new ?_⟩));rw[yf F.plain_set_new _];unfold Builtin.«set.__new__» Builtin.Frozenset.newClass;have i:=sub_set_self;obtain⟨j,g,d,c,f⟩:=s;dsimp only
 wp_walk
 refine rO (aI ?_);dsimp only;simp only[newObj];refine aq (wpAny_alloc (aI ?_));refine aI (h ⟨#[],0,_,[],cD _ rfl,.nil,Cf _,λe b=>by simp at b,by decide,rfl,rfl,λh=>absurd rfl h⟩)
end
end L2
set_option maxHeartbeats 8000000
namespace L2
theorem IQ:entryFor table "set.__iter__"=aa Builtin.«frozenset.__iter__»:=entryFor_alias (id':="frozenset.__iter__") (by kernel_rfl) rfl (by decide +kernel) (by kernel_rfl)
theorem D8:Slot "set_iterator" "__next__" "set_iterator.__next__" :=
 .of (owner:="set_iterator") (n:="__next__") (by rw[typeLookup_type,builtinLookup_eq_fast];kernel_rfl) (by decide +kernel) (by decide +kernel) (by decide +kernel) (by first|exact .inl (by decide +kernel)|exact .inr (by decide +kernel)) (by rw[isSubtype_type];kernel_rfl)
theorem Ml:entryFor table "set_iterator.__next__"=aa Builtin.«set_iterator.__next__»:=entryFor_of_fast (by kernel_rfl)
theorem Np(a:ai):argsOk "set_iterator.__next__" ⟨[a],[]⟩:=by unfold argsOk;kernel_rfl
theorem CL:Slot "set_iterator" "__iter__" "set_iterator.__iter__" :=
 .of (owner:="set_iterator") (n:="__iter__") (by rw[typeLookup_type,builtinLookup_eq_fast];kernel_rfl) (by decide +kernel) (by decide +kernel) (by decide +kernel) (by first|exact .inl (by decide +kernel)|exact .inr (by decide +kernel)) (by rw[isSubtype_type];kernel_rfl)
theorem No:entryFor table "set_iterator.__iter__"=aa Builtin.«dict_keyiterator.__iter__»:=entryFor_alias (id':="dict_keyiterator.__iter__") (by kernel_rfl) rfl (by decide +kernel) (by kernel_rfl)
theorem Iv(a:ai):argsOk "set_iterator.__iter__" ⟨[a],[]⟩:=by unfold argsOk;kernel_rfl
def iH(first:ai)(i:Nat)(a:ae)(n b:Nat):Obj:={cls:=.type "set_iterator",data:=.fields #[first,.int i 0,.ref a,.int n 0,.int b 0]}
section
variable{P:bb}{w:aS}{A:a9}{E:ai->ao->Prop}{s:ao}
theorem u8{I a:ae}{first:ai}{i n d:Nat}{Q:ai->ao->Prop}(h:s.heap.get? I=aa (iH first i a n d))(c:Q (.ref I) s):ax (aA P w) A (oM (.ref I)) Q E s:=by
 have b:s.TypeIs (.ref I) "set_iterator":=⟨_,h,rfl⟩
 refine wpAny_pyIter_slot b CL (mV CL b No ?_ (Iv _));show ax _ _ (ret (.ref I)) _ _ s;exact aI ⟨_,rfl,"set_iterator",_,b,D8.lookup,c⟩
theorem pi{I a:ae}{first:ai}{i:Nat}{f:Array (Int×ai)}{g:Nat}{t:jB}{Q:Option ai->ao->Prop}(n:s.heap.get? a=aa {cls:=.type "set",dict:=ac,data:=.set f g t})(m:t.fits f.size=ah)(l:s.heap.get? I=aa (iH first i a f.size g))(h:ax (aA P w) A.in1 (if let .int slot _:=first then do
    match <-m_ a slot.toNat (i:Int).toNat (g:Int).toNat with
    |some (x,next)=>do
     nc (.ref I) 0 (dj next)
     nc (.ref I) 1 (dj ((i:Int)+1))
     ret x
    |none=>do nc (.ref I) 2 .none;raiseNew (<-newExc (.type "StopIteration") [])
   else do
    let aa places <-seqItems? first|unsupported "internal:set_iterator"
    match places[(i:Int).toNat]? with
    |some (.int d _)=>do
     let x <-setNextDrawn a d.toNat (g:Int).toNat
     nc (.ref I) 1 (dj ((i:Int)+1))
     ret x
    |some _=>unsupported "internal:set_iterator"
    |none=>do nc (.ref I) 0 (dj 0);nc (.ref I) 2 .none;raiseNew (<-newExc (.type "StopIteration") []))
   (λc b=>∃r,c=.done (.ret r)/\Q (aa r) b) (λe b=>ax (aA P w) A (do if <-isInstance e (.type "StopIteration")then pure ac else throw e) Q E b) s) :
  ax (aA P w) A (oK (.ref I)) Q E s:=by
 have j:s.TypeIs (.ref I) "set_iterator":=⟨_,l,rfl⟩
 unfold oK;refine aq (wpAny_attempt (rA (name:=oO "__next__") j D8 (mV D8 j Ml ?_ (Np _))));unfold Builtin.«set_iterator.__next__» slotArgs;refine aq (aI ?_);refine aq (wpAny_fieldsOf l rfl ?_);show ax _ _ (setEntries a >>= _) _ _ s;refine aq (wpAny_setEntries_of n rfl m ?_);have u:(((f.size:Nat):Int) != ((f.size:Nat):Int))=aj:=by simp
 rw[u];simp only[Cg,if_false];refine dw ?_ (λc b q=>?_) (λe b q=>q) (Q:=λc b=>∃r,c=.done (.ret r)/\Q (aa r) b) (E:=λe b=>ax (aA P w) A (do if <-isInstance e (.type "StopIteration")then pure ac else throw e) Q E b)
 .exact h
 .obtain⟨r,p,o⟩:=q;exact⟨r,p,aI o⟩
end
theorem Bk{a:Type}:∀{l:List a}{i:Nat} (h:i<l.length),(l[i]::l.eraseIdx i).Perm l
 |[],i,h=>by simp at h
 |x::r,0,h=>by simp
 |x::r,i+1,h=>by have q:=Bk (l:=r) (i:=i) (by simpa using h);simp only[List.getElem_cons_succ,List.eraseIdx_cons_succ];exact(List.Perm.swap x _ _).trans (List.Perm.cons x q)
theorem Ev{d:Type}(next:Nat->Nat):∀(b k:Nat) (a:List d) (out:Array d),b=a.length->(pickOrder.go next b k a out).toList.Perm (out.toList++a)
 |0,k,a,out,h=>by have:a=[]:=pY h.symm;subst this;simp[pickOrder.go]
 |b+1,k,a,out,h=>by
  have c:next k % a.length<a.length:=Nat.mod_lt _ ∅
  unfold pickOrder.go;rw[eI c];dsimp only;have f:=Ev next b (k+1) (a.eraseIdx (next k % a.length)) (out.push a[next k % a.length]) (by rw[List.length_eraseIdx,if_pos c];lia)
  refine f.trans ?_;rw[Array.toList_push,HD];exact List.Perm.append_left _ (Bk c)
theorem Em{a:Type}(next:Nat->Nat)(xs:Array a):(uw next xs).toList.Perm xs.toList:=by
 have:=Ev next xs.size 0 xs.toList #[] (by simp)
 simpa[uw]using this
section
variable{P:bb}{w:aS}{A:a9}{E:ai->ao->Prop}{s:ao}
theorem OE{a:Source}{n:Nat}{Q:Nat->ao->Prop}(b:n≠0)(h:∀k d,k<n->Q k {s with drawn:=d}):ax (aA P w) A (choose a n) Q E s:=λc p hΓ=>by unfold choose;rw[Sem.wp_choose];refine⟨b,?_⟩;exact h _ _ (Nat.mod_lt _ (Nat.pos_of_ne_zero b))
theorem Er{c:Type}:∀(n:Nat) (xs:List c) (s:ao) (Q:List c->ao->Prop),n=xs.length->(∀a d,a.Perm xs->Q a {s with drawn:=d})->ax (aA P w) A (drawOrder n xs) Q E s
 |0,[],s,Q,_,h=>by unfold drawOrder;exact aI (h [] s.drawn (Cf _))
 |0,x::xs,s,Q,hn,h=>by simp at hn
 |n+1,[],s,Q,hn,h=>by simp at hn
 |n+1,x::xs,s,Q,hn,h=>by unfold drawOrder;refine aq (OE (by simp) λk d b=>?_);rw[eI b];dsimp only;refine aq (Er n ((x::xs).eraseIdx k) _ _ (by rw[List.length_eraseIdx,if_pos b];lia) λa g f=>?_);refine aI (h _ g ?_);exact(List.Perm.cons _ f).trans (Bk b)
theorem vg{Q:Option ai->ao->Prop}{R:Fin->ao->Prop}(f:A.handled=ac)(g:∀c,(∀b o,s.heap.get? b=aa o->c.get? b=aa o)->Q ac {s with heap:=c}):ax (aA P w) A.in1 (do raiseNew (<-newExc (.type "StopIteration") [])) R (λe d=>ax (aA P w) A (do if <-isInstance e (.type "StopIteration")then pure ac else throw e) Q E d) s:=by
 refine aq ?_;simp only[newExc,newTuple];refine aq (iU ?_ (by size_fits));refine aq (m:=Ci _ _) (wpAny_of_eq (a:=Value.none) (by first|rfl | (simp only[Ci];rfl)) ?_);refine iU ?_ (by size_fits);simp only[raiseNew];refine aq (wpAny_handled ?_);rw[show A.in1.handled=ac from f];refine aq (aI (wpAny_throw ?_));refine aq (HM (T:="StopIteration") (b:=ah) ⟨_,cD _ rfl,rfl⟩ isSubtype_stop ?_);exact aI (g _ λb o e=>bp _ (bp _ e))
theorem AO{I a:ae}{first d:ai}{i n f:Nat}{Q:Unit->ao->Prop}(c:s.heap.get? I=aa (iH first i a n f))(h:∀b,j1 I s.heap b->b.get? I=aa (iH d i a n f)->Q () {s with heap:=b}):ax (aA P w) A (nc (.ref I) 0 d) Q E s:=by refine oR c rfl (by simp[iH]) (h _ (rN ..) ?_);rw[oQ _ c (by rfl)];rfl
theorem zI{I a:ae}{first:ai}{i n d:Nat}{Q:Unit->ao->Prop}(c:s.heap.get? I=aa (iH first i a n d))(h:∀b,j1 I s.heap b->b.get? I=aa (iH first (i+1) a n d)->Q () {s with heap:=b}):ax (aA P w) A (nc (.ref I) 1 (dj ((i:Int)+1))) Q E s:=by refine oR c rfl (by simp[iH]) (h _ (rN ..) ?_);rw[oQ _ c (by rfl)];rfl
theorem vZ{I a:ae}{first:ai}{i n d:Nat}{Q:Unit->ao->Prop}(c:s.heap.get? I=aa (iH first i a n d))(h:∀b,j1 I s.heap b->(∃o,b.get? I=aa o)->Q () {s with heap:=b}):ax (aA P w) A (nc (.ref I) 2 .none) Q E s:=by refine oR c rfl (by simp[iH]) (h _ (rN ..) ⟨_,oQ _ c (by rfl)⟩)
abbrev pE(a:Array (Int×ai))(b:Nat)(t:jB):Obj:={cls:=.type "set",dict:=ac,data:=.set a b t}
theorem Of{I a:ae}{d:Array (Int×ai)}{g:Nat}{t:jB}(x:a≠I)(n:t.fits d.size=ah)(f:d5 w=ah)(C:A.handled=ac):Walks P w A I [I,a] [I] d.size (λi v=>((uw (w.params.setOrder a g) d).toList.map (·.2))[i]?=aa v) (λi h=>h.get? I=aa (iH (dj 0) i a d.size g)/\h.get? a=aa (pE d g t)):=by
 have hsz:(uw (w.params.setOrder a g) d).size=d.size:=by have:=(Em (w.params.setOrder a g) d).length_eq;simpa using this
 have j:∀(s:ao) (i:Nat) (Q:Option (ai×Nat)->ao->Prop) (E:ai->ao->Prop),s.heap.get? a=aa (pE d g t) ->
   Q (((uw (w.params.setOrder a g) d)[i]?).map λe=>(e.2,0)) s->ax (aA P w) A.in1 (m_ a (0:Int).toNat (i:Int).toNat (g:Int).toNat) Q E s:=λs i Q E u B=>by
  unfold m_;refine aq (rL u rfl n ?_);unfold yg;refine aq (aq (rO (aI ?_)));show ax _ _ (if d5 w=ah then _ else _) _ _ s;rw[if_pos f];simp only[je,bne_self_eq_false,Cg,if_false];unfold setWalk;refine aq (aq (rL u rfl n ?_));unfold yg;refine aq (aq (rO (aI ?_)));show ax _ _ (if d5 w=ah then _ else _) _ _ s;rw[if_pos f];refine aq (rO (aI (aI ?_)));exact B
 refine⟨λb f=>by simp at f;simp[f],λi h H c k=>⟨k I (by simp) _ c.1,k a (by simp) _ c.2⟩,λi s Q E G c l=>?_,λs Q E c l=>?_,λi s Q E c l=>u8 c.1 l⟩
 .refine pi c.2 n c.1 ?_;refine aq (j s i _ _ c.2 ?_);have y:i<(uw (w.params.setOrder a g) d).size:=∅
  rw[Cj y];dsimp only[yh];refine aq (AO c.1 λq m F=>?_);refine aq (zI (s:={s with heap:=q}) F λp r D=>?_);refine aI ⟨_,rfl,l _ p s.toks ?_ ⟨D,?_⟩ λb o f e=>?_⟩
  .rw[iT];simp[Cj y]
  .exact(r.2 a x).trans ((m.2 a x).trans c.2)
  .exact(r.2 b (by simpa using f)).trans ((m.2 b (by simpa using f)).trans e)
 .refine pi c.2 n c.1 ?_;refine aq (j s d.size _ _ c.2 ?_);rw[Array.getElem?_eq_none ∅];dsimp only[Option.map_none];refine aq (vZ c.1 λq m _=>?_);exact vg (s:={s with heap:=q}) C λp z=>l p s.toks λb o f e=>z b o ((m.2 b (by simpa using f)).trans e)
theorem RB{I a T:ae}{f:Array (Int×ai)}{J:Nat}{t:jB}{c:List Nat}(cR:a≠I)(Z:T≠I)(C:t.fits f.size=ah)(G:c.Perm (cy f.size))(Y:A.handled=ac):Walks P w A I [I,a,T] [I] f.size (λi v=>(c.filterMap λj=>(f[j]?).map (·.2))[i]?=aa v) (λi h=>h.get? I=aa (iH (.ref T) i a f.size J)/\h.get? a=aa (pE f J t)/\h.get? T=aa {cls:=.type "tuple",data:=.seq (c.map λ(k:Nat)=>dj k).toArray}):=by
 have L:c.length=f.size:=by simpa using G.length_eq
 have p:∀j∈c,j<f.size:=λj B=>by simpa using G.mem_iff.mp B
 have fm:∀(l:List Nat),(∀j∈l,j<f.size)->∀(i j:Nat),l[i]?=aa j->∃e:Int×ai,f[j]?=aa e/\(l.filterMap λj=>(f[j]?).map (·.2))[i]?=aa e.2:=by
  intro l
  induction l with
  |nil=>intro _ i j h;simp at h
  |cons x r N=>
   intro H i j h;have S:x<f.size:=H x (mM ..);have F:f[x]?=aa f[x]:=Cj S;cases i with
   |zero=>simp at h;subst h;exact⟨_,F,by rw[pQ,F];rfl⟩
   |succ i=>obtain⟨e,z,y⟩:=N (λj B=>H j (jv _ B)) i j (by simpa using h);exact⟨e,z,by rw[pQ,F];simpa using y⟩
 have g:∀(s:ao) (Q:Option (Array ai)->ao->Prop) (E:ai->ao->Prop),s.heap.get? T=aa {cls:=.type "tuple",data:=.seq (c.map λ(k:Nat)=>dj k).toArray}->Q (aa (c.map λ(k:Nat)=>dj k).toArray) s->ax (aA P w) A.in1 (seqItems? (.ref T)) Q E s:=λs Q E W X=>by exact rP W rfl X
 refine⟨λb m=>by simp at m;simp[m],λi h h' d k=>⟨k I (by simp) _ d.1,k a (by simp) _ d.2.1,k T (by simp) _ d.2.2⟩,λi s Q E hi d q=>?_,λs Q E d q=>?_,λi s Q E d q=>u8 d.1 q⟩
 .refine pi d.2.1 C d.1 ?_;refine aq (g s _ _ d.2.2 ?_);have K:i<c.length:=∅
  have u:((c.map λ(k:Nat)=>dj k).toArray)[(i:Int).toNat]?=aa (dj (c[i]:Nat)):=by simp[K]
  dsimp only;rw[u];obtain⟨e,z,y⟩:=fm c p i c[i] (eI K);show ax _ _ (setNextDrawn a _ _ >>= _) _ _ s;refine aq ?_;unfold setNextDrawn;refine aq (rL d.2.1 rfl C ?_);simp only[je,bne_self_eq_false,Cg,if_false];rw[z];refine aI ?_;refine aq (zI d.1 λD n e2=>?_);refine aI ⟨_,rfl,q _ D s.toks y ⟨e2,(n.2 a cR).trans d.2.1,(n.2 T Z).trans d.2.2⟩ λb o m e=>(n.2 b (by simpa using m)).trans e⟩
 .refine pi d.2.1 C d.1 ?_;refine aq (g s _ _ d.2.2 ?_);have u:((c.map λ(k:Nat)=>dj k).toArray)[(f.size:Int).toNat]?=ac:=by simp[L]
  dsimp only;rw[u];refine aq (AO d.1 λh1 O u=>?_);refine aq (vZ (s:={s with heap:=h1}) u λD n _=>?_);exact vg (s:={s with heap:=D}) Y λh3 M=>q h3 s.toks λb o m e=>M b o ((n.2 b (by simpa using m)).trans ((O.2 b (by simpa using m)).trans e))
theorem JJ(j k:Nat):RY #[j] k=if j<k then 1 else 0:=by
 unfold RY;simp only[cO,eR,m8];unfold HN;simp;split
 .rename_i h;unfold HN;simp
 .unfold HN;simp
theorem J6{I a:ae}{g:Array (Int×ai)}{n:Nat}{t:jB}(L:a≠I)(u:t.fits g.size=ah)(f:d5 w=aj)(N:t.led=ah)(m:g.size=1)(S:A.handled=ac):Walks P w A I [I,a] [I] 1 (λi v=>(g.toList.map (·.2))[i]?=aa v) (λi h=>h.get? I=aa (iH (dj (if i=0 then 0 else((t.place.getD 0 0:Nat):Int)+1)) i a g.size n)/\h.get? a=aa (pE g n t)):=by
 have z:t.place.size=1:=by simp only[SetTable.fits,fI,beq_iff_eq]at u;lia
 obtain⟨j,H⟩:=Array.size_eq_one_iff.mp z;have K:((t.place.getD 0 0:Nat):Int)=(j:Int):=by rw[H];rfl
 obtain⟨e,J⟩:=Array.size_eq_one_iff.mp m;have l:∀(s:ao) (d:Nat) (i:Nat) (Q:Option (ai×Nat)->ao->Prop) (E:ai->ao->Prop),s.heap.get? a=aa (pE g n t) ->
   Q (if j<d then ac else aa (e.2,j+1)) s->ax (aA P w) A.in1 (m_ a d i n) Q E s:=λs d i Q E T r=>by
  unfold m_;refine aq (rL T rfl u ?_);unfold yg;refine aq (aq (rO (aI ?_)));show ax _ _ (if d5 w=ah then _ else _) _ _ s;rw[if_neg (by rw[f];decide)];refine yj (λB=>absurd (show(!t.plain&&decide (g.size > 1))=ah from B) (by rw[m];simp)) (λ_=>?_);refine aq ?_;refine dw (Q:=λ_ F=>F=s) (E:=E) ?_ (λ_ F y=>?_) (λ_ _ x=>x)
  .refine yj (λB=>absurd (show(!t.led&&!g.isEmpty)=ah from B) (by rw[N];simp)) (λ_=>aI rfl)
  .subst y;rw[H,JJ,J];by_cases M:j<d
   .rw[if_pos M]at r ⊢;exact aI r
   .rw[if_neg M]at r ⊢;exact aI r
 refine⟨λb f=>by simp at f;simp[f],λi h Y c k=>⟨k I (by simp) _ c.1,k a (by simp) _ c.2⟩,λi s Q E X c p=>?_,λs Q E c p=>?_,λi s Q E c p=>u8 c.1 p⟩
 .obtain rfl:i=0:=∅
  refine pi c.2 u c.1 ?_;show ax _ _ (m_ a (0:Int).toNat ((0:Nat):Int).toNat (n:Int).toNat >>= _) _ _ s;simp only[je,Int.toNat_zero];refine aq (l s 0 0 _ _ c.2 ?_);rw[if_neg (Nat.not_lt_zero j)];dsimp only;refine aq (AO c.1 λm q D=>?_);refine aq (zI (s:={s with heap:=m}) D λC G W=>?_);refine aI ⟨_,rfl,p _ C s.toks ?_ ⟨?_,?_⟩ λb o f e=>?_⟩
  .rw[J];rfl
  .rw[W,if_neg (by decide),K];rfl
  .exact(G.2 a L).trans ((q.2 a L).trans c.2)
  .exact(G.2 b (by simpa using f)).trans ((q.2 b (by simpa using f)).trans e)
 .refine pi c.2 u c.1 ?_;rw[if_neg (by decide),K];show ax _ _ (m_ a ((j:Int)+1).toNat ((1:Nat):Int).toNat (n:Int).toNat >>= _) _ _ s;have D:((j:Int)+1).toNat=j+1:=∅
  rw[D,je,je];refine aq (l s (j+1) 1 _ _ c.2 ?_);rw[if_pos (jw j)];dsimp only;refine aq (vZ c.1 λm q _=>?_);exact vg (s:={s with heap:=m}) S λC O=>p C s.toks λb o f e=>O b o ((q.2 b (by simpa using f)).trans e)
theorem Fx:∀{a:List ai}{b:List Str} (i:Nat) (v:ai),gK a b->a[i]?=aa v->∃t,v=.str (b.getD i kH) t
 |_,_,i,v,.nil,h=>by simp at h
 |_,_,0,v,.cons y t _,h=>by simp at h;exact⟨t,by rw[<-h];rfl⟩
 |_,_,i+1,v,.cons y t hr,h=>by simp only[List.getElem?_cons_succ]at h;obtain⟨c,e⟩:=Fx i v hr h;exact⟨c,by rw[e];rfl⟩
theorem O7{h:aD}{o:Obj}{l:ae}{a:Array ai}(x:h.IsTuple l a):(h.push o).IsTuple l a:=let ⟨ob,e,r⟩:=x;⟨ob,bp _ e,r⟩
set_option maxRecDepth 100000 in
theorem Ry{l:ae}{a:Array ai}{Q:ai->ao->Prop}(hh:A.handled=ac)(z:s.heap.IsList l a\/s.heap.IsTuple l a){J:Nat->aD->Prop}(hJ:∀i h d,J i h->(∀b o,b<=s.heap.objs.size->h.get? b=aa o->d.get? b=aa o)->J i d) (T:J 0 (s.heap.push {cls:=.type "set",dict:=ac,data:=.set #[] 0 (.fresh 0 0 (!d5 w))}))(kN:∀(i:Nat) (v:ai) (f:ao) (E:ai->ao->Prop) (Q:Bool->ao->Prop),i<a.size->a[i]?=aa v->J i f.heap->(∀d j b,f.toks<=j->j1 s.heap.objs.size f.heap d->J (i+1) d->Q b {f with heap:=d,toks:=j})->ax (aA P w) A.in1.in1.in1 (setAdd s.heap.objs.size v) Q E f)(h:∀(d:aD) (j:Nat),J a.size d->(∀b o,b<s.heap.objs.size->s.heap.get? b=aa o->d.get? b=aa o)->Q (.ref s.heap.objs.size) {s with heap:=d,toks:=j}):ax (aA P w) A (call (.type "set") [.ref l]) Q E s:=by
 obtain⟨c,tl,hmro⟩:=F.called_set.mro;have L:=F.called_set.made;have kP:=F.called_set.sub;refine ro (codeAny_of_tree ?_);show ax _ _ (callAny (.type "set") _) _ _ _;refine aI ⟨Code.quiet_builtin _ (by decide +kernel),uv F.entry_type_call ?_⟩;rw[Around.under_plain (weight_type_call_type "set" [.ref l] []) rfl];have h1:=F.called_set.notType;have h2:=F.called_set.canCreate;have hct:=PySem.F.typeCall_set_1 (.ref l)
 repeat any_goals (first|assumption|wp_step)
 refine mR (Ma (P:=P) (w:=w) (.ref l) (E:=E) (Q:=λn f=>n=.ref s.heap.objs.size/\f={s with heap:=s.heap.push {cls:=.type "set",dict:=ac,data:=.set #[] 0 (.fresh 0 0 (!d5 w))}}/\True) λS0=>⟨rfl,rfl,trivial⟩) λr f K=>?_;cases r with
 |error e=>exact K
 |ok fl=>
  cases fl with
  |ret n=>
   obtain⟨rfl,rfl,S0⟩:=K;have hS:=cD (h:=s.heap) (o:=({cls:=.type "set",dict:=ac,data:=.set #[] 0 (.fresh 0 0 (!d5 w))}:Obj));have O:(s.heap.push {cls:=.type "set",dict:=ac,data:=.set #[] 0 (.fresh 0 0 (!d5 w))}).get? s.heap.objs.size=aa {cls:=.type "set",dict:=ac,data:=.set #[] 0 (.fresh 0 0 (!d5 w))}:=cD _ rfl;have hT:Shared.TypeIs {s with heap:=s.heap.push {cls:=.type "set",dict:=ac,data:=.set #[] 0 (.fresh 0 0 (!d5 w))}} (.ref s.heap.objs.size) "set":=⟨_,O,rfl⟩
   have hli:=F.called_set.init.lookup;have hbi:=F.called_set.init.bind (.ref s.heap.objs.size)
   repeat any_goals (first|assumption|wp_step)
   refine mR (codeAny_call_builtin (R:=wants (λr Z=>r=.none/\∃d j,Z={s with heap:=d,toks:=j}/\J a.size d /\ (∀b o,b<s.heap.objs.size->s.heap.get? b=aa o->d.get? b=aa o)) E) F.called_set.init.plain F.entry_set_init (check_set_init_1 hT ?_)) λr2 Z m=>?_
   .rcases z with z|z
    all_goals
     obtain⟨⟨ocls,G,H,u⟩,oY,Y,x,oZ⟩:=z;simp only at Y oZ;subst Y;subst oZ;have t:=bp ({cls:=.type "set",dict:=ac,data:=.set #[] 0 (.fresh 0 0 (!d5 w))}:Obj) oY;have hsls:=PySem.F.sub_list_set;have hslf:=PySem.F.sub_list_frozenset;have cR:(Value.type "list" == Value.type "dict")=aj:=by decide
     have hsl2:=PySem.F.sub_tuple_set;have hsl3:=PySem.F.sub_tuple_frozenset;have uI:(Value.type "tuple" == Value.type "dict")=aj:=by decide
     unfold Builtin.«set.__init__» noKeywords Builtin.Frozenset.updateFrom;generalize S:oM=PI
     wp_walk
     subst S
     first|refine Ca ⟨_,t,rfl,x,rfl⟩ (aq (wpAny_runValue ?_))|refine Ck ⟨_,t,rfl,x,rfl⟩ (aq (wpAny_runValue ?_))
     have p:l<s.heap.objs.size:=bL oY;have q:A.in1.in1.in1.handled=ac:=by simp[hh]
     have g:(s.heap.push {cls:=.type "set",dict:=ac,data:=.set #[] 0 (.fresh 0 0 (!d5 w))}).objs.size=s.heap.objs.size+1:=lL ..;have Im:l≠(s.heap.push {cls:=.type "set",dict:=ac,data:=.set #[] 0 (.fresh 0 0 (!d5 w))}).objs.size:=by rw[g];exact cZ (lM p)
     have X:s.heap.objs.size∉[(s.heap.push {cls:=.type "set",dict:=ac,data:=.set #[] 0 (.fresh 0 0 (!d5 w))}).objs.size,l]:=by rw[g];simp only[bV,jD,fe,or_false,not_or];exact⟨cZ (jw _),jc p⟩
     first|refine En (J:=J) (Walks.list q _ l Im a).toS s.heap.objs.size X ?_ ?_ (a.size-0) 0 _ ∅ (jd _) ⟨⟨_,cD _ rfl,rfl,rfl⟩,Heap.IsList.push ⟨_,t,rfl,x,rfl⟩ _⟩ ?_ ?_|refine En (J:=J) (Walks.tuple q _ l Im a).toS s.heap.objs.size X ?_ ?_ (a.size-0) 0 _ ∅ (jd _) ⟨⟨_,cD _ rfl,rfl,rfl⟩,O7 ⟨_,t,rfl,x,rfl⟩⟩ ?_ ?_
     .exact λi h d N k=>hJ i h d N λb o B e=>k b o (by rw[g];simp only[jD];exact cZ (Nat.lt_succ_of_le B)) e
     .exact λi v f E Q hi hv N hq=>kN i v f E Q hi hv N hq
     .exact hJ 0 _ _ T λb o _ e=>bp _ e
     intro s' y I;obtain⟨d,g',d',C,D⟩:=s';obtain rfl:g'=s.gens:=y.gens;obtain rfl:d'=s.drawn:=y.drawn;obtain rfl:D=s.os:=y.os;show ax _ _ _ _ _ _;refine aI ?_;show ax _ _ (ret Value.none) _ _ _;refine aI ⟨rfl,d,C,rfl,I,λb o B e=>y.heap b o ?_ (bp _ (bp _ e))⟩;rw[g];simp only[bV,jD,fe,or_false,not_or];exact⟨cZ B,cZ (lM B)⟩
   .cases r2 with
    |error e=>exact m
    |ok W=>
     cases W with
     |ret r=>
      obtain⟨rfl,d,j,rfl,I,M⟩:=m
      repeat any_goals (first|assumption|wp_step)
      exact h _ _ I M
     |_=>exact m.elim
  |_=>exact K.elim
theorem M4{l:ae}{a:Array ai}{c:List Str}{Q:ai->ao->Prop}(y:A.handled=ac)(u:s.heap.IsList l a\/s.heap.IsTuple l a)(x:gK a.toList c)(B:(met (λi=>c.getD i kH) a.size).length<4000)(h:∀(d:aD) (n:Nat),ju P w d s.heap.objs.size (met (λi=>c.getD i kH) a.size)->(∀b o,b<s.heap.objs.size->s.heap.get? b=aa o->d.get? b=aa o)->Q (.ref s.heap.objs.size) {s with heap:=d,toks:=n}):ax (aA P w) A (call (.type "set") [.ref l]) Q E s:=by
 refine Ry y u (J:=λi h=>ju P w h s.heap.objs.size (met (λi=>c.getD i kH) i)) (λi h d S k=>S.at λo e=>k _ o (bv _) e)
  ⟨#[],0,_,[],cD _ rfl,.nil,Cf _,λe z=>by simp at z,by decide,rfl,rfl,λh=>absurd rfl h⟩ (λi v j E Q g r S q=>?_) h
 obtain⟨t,rfl⟩:=Fx i v x (by rw[Array.getElem?_toList];exact r);unfold setAdd;refine mU ?_;have p:(jC P w).is (c.getD i kH) (.str (c.getD i kH) t)=ah:=by show ue _ (.str _ t)=ah;simp[ue]
 refine aq ((jC P w).pyHash (k:=c.getD i kH) p ?_);refine Ka (s:={j with toks:=j.toks+1}) S (B9 (EI _ (pP g)) B) λd b f m=>?_;rw[<-FP (λi=>c.getD i kH)]at m;exact q d _ b (ya _) f m
end
theorem GC{n:Nat}(h:n<=4096):n<bq:=B9 h (by decide)
theorem Ph:typeLookup (.type "set") "__len__"=pure (aa (.builtin "set.__len__")):=F.slot_set_len.lookup
section
variable{P:bb}{w:aS}{A:a9}{E:ai->ao->Prop}{s:ao}
def sS(w:aS)(h:aD)(a:ae)(b:Array (Int×ai)):Prop:=∃(c:Nat) (t:jB),h.get? a=aa {cls:=.type "set",dict:=ac,data:=.set b c t}/\b.size<4090/\t.fits b.size=ah/\t.led=(!d5 w)/\(b.size≠0->t.plain=aj)
theorem sS.at{w:aS}{h h':aD}{a:ae}{b:Array (Int×ai)}(S:sS w h a b)(k:∀o,h.get? a=aa o->h'.get? a=aa o):sS w h' a b:=by obtain⟨c,t,e,r⟩:=S;exact⟨c,t,k _ e,r⟩
theorem ju.e{h:aD}{a:ae}{ks:List Str}(S:ju P w h a ks):∃b ss,sS w h a b/\gK (b.toList.map (·.2)) ss/\ss.Perm ks:=by
 obtain⟨b,m,t,ss,g,d,c,j,hsz,i,f,o⟩:=S.ex;refine⟨b,ss,⟨m,t,g,hsz,i,f,λl=>o λz=>l ?_⟩,d,c⟩;have n:=c.length_eq;have p:ss.length=b.size:=by rw[<-d.strs];simp
 rw[z,m8]at n;lia
structure Fl(P:bb)(w:aS)(s s':ao)(a I:ae)(es:Array (Int×ai))(fp:List ae)(n:Nat)(Pv:Nat->ai->Prop)(St:Nat->aD->Prop):Prop where
 wk:∀A:a9,A.handled=ac->Walks P w A I fp [I] n Pv St
 st:St 0 s'.heap
 old:∀b o,s.heap.get? b=aa o->s'.heap.get? b=aa o
 new:s.heap.objs.size<=I
 lt:∀b∈fp,b<s'.heap.objs.size
 rest:s'={s with heap:=s'.heap,drawn:=s'.drawn}
 ord:∀a_:Array ai,ItemsOf Pv a_ n->a_.toList.Perm (es.toList.map (·.2))
 len:n<4090
 fps:∀b∈fp,b=a\/s.heap.objs.size<=b
theorem wD{l:List ai}{a:Array ai}{n:Nat}(c:l.length=n)(h:ItemsOf (λi v=>l[i]?=aa v) a n):a.toList=l:=by
 refine HP λi=>?_;by_cases b:i<n
 .have:i<a.size:=by rw[h.1];exact b
  have q:=h.2 i a[i] (Cj this);rw[q];simp[this]
 .rw[ng (by rw[xU,h.1];lia),ng ∅]
theorem Kr{I a:ae}{d:Array (Int×ai)}{j:Nat}{t:jB}(L:a≠I)(u:t.fits d.size=ah)(g:d5 w=aj)(n:d.size=0)(F:A.handled=ac):Walks P w A I [I,a] [I] 0 (λi v=>(d.toList.map (·.2))[i]?=aa v) (λi h=>h.get? I=aa (iH (dj 0) 0 a d.size j)/\h.get? a=aa (pE d j t)):=by
 have y:d=#[]:=Array.eq_empty_of_size_eq_zero n;have l:∀(s:ao) (f:Nat) (i:Nat) (Q:Option (ai×Nat)->ao->Prop) (E:ai->ao->Prop),s.heap.get? a=aa (pE d j t) ->
   Q ac s->ax (aA P w) A.in1 (m_ a f i j) Q E s:=λs f i Q E G C=>by
  unfold m_;refine aq (rL G rfl u ?_);unfold yg;refine aq (aq (rO (aI ?_)));show ax _ _ (if d5 w=ah then _ else _) _ _ s;rw[if_neg (by rw[g];decide)];refine yj (λq=>absurd (show(!t.plain&&decide (d.size > 1))=ah from q) (by rw[n];simp)) (λ_=>?_);refine aq ?_;refine dw (Q:=λ_ r=>r=s) (E:=E) ?_ (λ_ r p=>?_) (λ_ _ x=>x)
  .refine yj (λq=>absurd (show(!t.led&&!d.isEmpty)=ah from q) (by rw[y];simp)) (λ_=>aI rfl)
  .subst p;rw[y];have J:∀k:Nat,(#[]:Array (Int×ai))[k]?=ac:=λk=>by simp
   dsimp only;rw[J];exact aI C
 refine⟨λb g=>by simp at g;simp[g],λi h K c k=>⟨k I (by simp) _ c.1,k a (by simp) _ c.2⟩,λi s Q E D c m=>absurd D (Nat.not_lt_zero i),λs Q E c m=>?_,λi s Q E c m=>u8 c.1 m⟩;refine pi c.2 u c.1 ?_;show ax _ _ (m_ a (0:Int).toNat ((0:Nat):Int).toNat (j:Int).toNat >>= _) _ _ s;simp only[je,Int.toNat_zero];refine aq (l s 0 0 _ _ c.2 ?_);dsimp only;refine aq (vZ c.1 λn B _=>?_);exact vg (s:={s with heap:=n}) F λH z=>m H s.toks λb o g e=>z b o ((B.2 b (by simpa using g)).trans e)
theorem MF{a:ae}{g:Array (Int×ai)}{Q:ai->ao->Prop}(S:sS w s.heap a g)(h:∀x I C n D St,Fl P w s x a I g C n D St->Q (.ref I) x):ax (aA P w) A (oM (.ref a)) Q E s:=by
 obtain⟨M,t,l,hsz,p,qb,dR⟩:=S;have Y:s.TypeIs (.ref a) "set":=⟨_,l,rfl⟩
 have jQ:=bL l;refine wpAny_pyIter_slot Y F.slot_set_iter (mV F.slot_set_iter Y IQ ?_ (F.args_set_iter_1 _));unfold Builtin.«frozenset.__iter__» Builtin.Frozenset.slot0 slotArgs Builtin.Frozenset.addrOf Builtin.Frozenset.sizeOf;refine aq (aI ?_);refine aq (aq (wpAny_setEntries_of l rfl p (aI ?_)));unfold setDrawn;refine aq (aq (rL l rfl p ?_));unfold yg;refine aq (aq (rO (aI ?_)));refine aI ?_;have i:∀(first:ai) (u:ao) (C:List ae) (n:Nat) (D:Nat->ai->Prop) (St:Nat->aD->Prop),u.heap.get? a=aa {cls:=.type "set",dict:=ac,data:=.set g M t} ->
   Fl P w s {u with heap:=u.heap.push (iH first 0 a g.size M)} a u.heap.objs.size g C n D St ->
   ax (aA P w) A.in1 (do
    let e <-setEpoch a
    let f <-newFields "set_iterator" [first,dj 0,Value.ref a,dj (g.size:Nat),dj (e:Nat)]
    ret f) (λi x=>∃v,i=Fin.done (Flow.ret v)/\∃Z r,x.TypeIs v Z/\typeLookup (Value.type Z) (oO "__next__")=pure (aa r)/\Q v x) E u:=λfirst u C n D St ha W=>by
  refine aq (wpAny_setEpoch_of ha rfl p ?_);refine aq (iU ?_);exact aI ⟨_,rfl,"set_iterator",_,⟨_,cD _ rfl,rfl⟩,D8.lookup,h _ _ C n D St W⟩
 refine yj (λK=>?_) (λK=>?_)
 .have H:(!d5 w&&(!t.plain&&decide (g.size > 1)))=ah:=K;refine aq (Er g.size (cy g.size) s _ (by simp) λG d J=>?_);refine aq (wpAny_newTuple ?_ (hsz:=by rw[c0,J.length_eq,Cc];exact pP (GC ∅)));refine i _ _ _ _ _ _ (bp _ l) ⟨λO q=>RB (T:=s.heap.objs.size) (cZ (by rw[j8];exact lM jQ)) (cZ (by rw[j8];exact jw _)) p J q,⟨cD _ rfl,?_,?_⟩,?_,?_,?_,rfl,?_,hsz,?_⟩
  .exact bp _ (bp _ l)
  .exact bp _ (cD _ rfl)
  .exact λb o e=>bp _ (bp _ e)
  .rw[j8];exact ya _
  .intro b c;simp only[bV,fe,or_false]at c;rw[j8,j8];rcases c with rfl|rfl|rfl
   .rw[j8];exact jw _
   .exact lM (lM jQ)
   .exact lM (jw _)
  .intro N m;have e0:(G.filterMap λj=>(g[j]?).map (·.2))=(G.filterMap λj=>g[j]?).map (·.2):=by rw[List.map_filterMap]
   have y:(G.filterMap λj=>g[j]?).Perm g.toList:=by have:=J.filterMap λj=>g[j]?;rwa[filterMap_getElem?_range]at this
   rw[e0]at m;rw[wD (by rw[c0,y.length_eq];simp) m];exact y.map _
  .intro b c;simp only[bV,fe,or_false]at c;rcases c with rfl|rfl|rfl
   .rw[j8];exact .inr (ya _)
   .exact .inl rfl
   .exact .inr (bv _)
 .have H:¬(!d5 w&&(!t.plain&&decide (g.size > 1)))=ah:=K;refine aq (aI ?_);cases c:d5 w with
  |true=>
   refine i _ _ _ _ _ _ l ⟨λO q=>Of (cZ jQ) p c q,⟨cD _ rfl,bp _ l⟩,λb o e=>bp _ e,bv _,?_,rfl,?_,hsz,λb c=>?_⟩
   .intro b c;simp only[bV,fe,or_false]at c;rw[j8];rcases c with rfl|rfl
    .exact jw _
    .exact lM jQ
   .intro N m;have y:=Em (w.params.setOrder a M) g;rw[wD (by rw[c0,y.length_eq];simp) m];exact y.map _
   .simp only[bV,fe,or_false]at c;exact c.elim (λz=>.inr (mQ z.symm)) .inl
  |false=>
   have L:g.size=1\/g.size=0:=by
    by_cases X:g.size=0
    .exact .inr X
    .rw[c,dR X]at H;simp at H;lia
   rcases L with B|B
   .refine i _ _ _ _ _ _ l ⟨λO q=>J6 (cZ jQ) p c (by rw[qb,c];rfl) B q,⟨cD _ rfl,bp _ l⟩,λb o e=>bp _ e,bv _,?_,rfl,?_,by decide,λb c=>?_⟩
    .intro b c;simp only[bV,fe,or_false]at c;rw[j8];rcases c with rfl|rfl
     .exact jw _
     .exact lM jQ
    .intro N m;rw[wD (by simp[B]) m]
    .simp only[bV,fe,or_false]at c;exact c.elim (λz=>.inr (mQ z.symm)) .inl
   .refine i _ _ _ _ _ _ l ⟨λO q=>Kr (cZ jQ) p c B q,⟨cD _ rfl,bp _ l⟩,λb o e=>bp _ e,bv _,?_,rfl,?_,by decide,λb c=>?_⟩
    .intro b c;simp only[bV,fe,or_false]at c;rw[j8];rcases c with rfl|rfl
     .exact jw _
     .exact lM jQ
    .intro N m;rw[wD (by simp[B]) m]
    .simp only[bV,fe,or_false]at c;exact c.elim (λz=>.inr (mQ z.symm)) .inl
theorem Ji{a:ae}{p:Array (Int×ai)}{Q:List ai->ao->Prop}(K:A.handled=ac)(S:sS w s.heap a p)(h:∀(d:ao) (G:List ai),G.Perm (p.toList.map (·.2))->(∀b o,s.heap.get? b=aa o->d.heap.get? b=aa o)->d.gens=s.gens->d.os=s.os->Q G d):ax (aA P w) A (collect (.ref a)) Q E s:=by
 obtain⟨L,t,J,O,_⟩:=id S;have jQ:=bL J;unfold collect;refine aq (wpAny_runValue (uv F.entry_proto_collect ?_));rw[yf F.plain_proto_collect _];show ax _ A.in1 (newList [] >>= λl=>again (.builtin "list.__iadd__" ⟨[l,.ref a],[]⟩)) _ _ s;refine aq (iU ?_);refine aI ⟨Ch F.plain_list_iadd _,uv F.entry_list_iadd ?_⟩;rw[yf F.plain_list_iadd _];show ax _ A.in1 (Builtin.List.listExtendWith (.ref s.heap.objs.size) (.ref a) (.ref s.heap.objs.size)) _ _ _;unfold Builtin.List.listExtendWith;have m:∀x:ao,x.heap.get? a=aa {cls:=.type "set",dict:=ac,data:=.set p L t}->x.TypeIs (.ref a) "set":=λx e=>⟨_,e,rfl⟩
 have g:(s.heap.push {cls:=.type "list",data:=.seq ([]:List ai).toArray}).get? a=aa {cls:=.type "set",dict:=ac,data:=.set p L t}:=bp _ J;refine aq (uk (m _ g) ?_);have Y:Builtin.List.listSameRef (.ref s.heap.objs.size) (.ref a)=aj:=by have:¬(s.heap.objs.size=a):=jc jQ;simp[Builtin.List.listSameRef,this]
 rw[if_neg (by rw[Y];decide)];refine aq (MF (S.at λo e=>bp _ e) λv I Z n Pv St W=>?_);have y:=W.old a _ g;refine aq (mU ?_);unfold Builtin.List.listLengthHint;refine aq (wpAny_specialOf (m _ y) Ph ?_)
 wp_delta
 refine aq (HM (T:="set") (b:=ah) (m _ y) (by rw[isSubtype_type];kernel_rfl) ?_);show ax _ A.in1 (typeOf (Value.ref a) >>= _) _ _ _;refine aq (uk (T:="set") (m _ y) ?_);refine aI ?_;rw[if_pos (by decide)];refine aq (uu ?_);have X:(s.heap.push {cls:=.type "list",data:=.seq ([]:List ai).toArray}).get? s.heap.objs.size=aa {cls:=.type "list",data:=.seq ([]:List ai).toArray}:=cD _ rfl;have j:=W.old _ _ X;unfold Builtin.List.listTouch;refine aq (aq (listUpdate_at j rfl ?_ (by decide) (by show 1<=bq+1;decide)));have i:=get?_update_seq j (λa:Array ai=>a.push Value.none);refine listUpdate_at i rfl ?_ (by show 1<=bq;decide) (by show 0<=bq+1;decide);have D:=get?_update_seq i (λa:Array ai=>a.pop);have M:s.heap.objs.size∉Z:=λz=>by
  rcases W.fps _ z with q|q
  .exact absurd jQ (by rw[<-q];exact fW _)
  .rw[j8]at q;exact absurd (jw _) (Nat.not_lt.mpr q)
 have H:∀b o,b≠s.heap.objs.size->v.heap.get? b=aa o->(((v.heap.update s.heap.objs.size (ul λa=>a.push Value.none)).update s.heap.objs.size (ul λa=>a.pop))).get? b=aa o:=λb o f e=>by rw[Heap.get?_update_ne _ _ _ _ f,Heap.get?_update_ne _ _ _ _ f];exact e
 have u:St 0 (((v.heap.update s.heap.objs.size (ul λa=>a.push Value.none)).update s.heap.objs.size (ul λa=>a.pop))):=(W.wk A.in1 K).frame 0 _ _ W.st λb f o e=>H b o (λz=>M (z ▸ f)) e;refine aI ⟨Ch F.plain_extend_loop _,codeAny_extend_loopS (W.wk A.in1 K).toS (pP (GC (by have:=W.len;lia))) _ M _ n 0 _ _ _ rfl (jd _) u D (ItemsOf.nil _) λd c c' B C N=>?_⟩;show ax _ A (load s.heap.objs.size >>= _) _ _ d;refine aq (wpAny_load C ?_);refine aI (h d c.toList (W.ord c N) (λb o e=>?_) ?_ ?_)
 .have r:=bL e;refine B.heap b o (λf=>?_) (H b o (cZ r) (W.old b o (bp _ e)));rcases bV.mp f with z|z
  .exact absurd r (by rw[z];exact fW _)
  .rw[jD.mp z]at r;have:=W.new;rw[j8]at this;exact absurd r (Nat.not_lt.mpr (Nat.le_of_succ_le this))
 .rw[B.gens,W.rest]
 .rw[B.os,W.rest]
theorem M3{a:ae}{ks:List Str}{Q:List ai->ao->Prop}(q:A.handled=ac)(S:ju P w s.heap a ks)(h:∀(c:ao) (d:List ai) (f:List Str),gK d f->f.Perm ks->d.length<4090->(∀b o,s.heap.get? b=aa o->c.heap.get? b=aa o)->c.gens=s.gens->c.os=s.os->Q d c):ax (aA P w) A (collect (.ref a)) Q E s:=by
 obtain⟨t,f,S,r,p⟩:=S.e;have n:t.size<4090:=by obtain⟨_,_,_,z,_⟩:=S;exact z
 refine Ji q S λc d pv m l j=>?_;obtain⟨u,i,g⟩:=zH pv r;exact h c d u i (g.trans p) (by have:=pv.length_eq;simp at this;lia) m l j
theorem Mt{a:ae}{ks:List Str}{Q:List ai->ao->Prop}(f:A.handled=ac)(S:ju P w s.heap a ks)(g:ks≠[])(h:∀(c:ao) (d:List ai) (ss:List Str),gK d ss->ss.Perm ks->d.length<4090->(∀b o,s.heap.get? b=aa o->c.heap.get? b=aa o)->c.gens=s.gens->c.os=s.os->Q d c):ax (aA P w) A (collect (.ref a)) Q E s:=M3 f S h
end
def fk(a:List Tx):List Tx:=a.foldl (λks x=>if x∈ks then ks else ks++[x]) []
theorem Do(b:List Tx):met (λi=>(b.map tS).getD i kH) b.length=(fk b).map tS:=by
 have d:∀(l:List Tx) (a:List Tx),(l.map tS).foldl jr (a.map tS)=(l.foldl (λks x=>if x∈ks then ks else ks++[x]) a).map tS:=by
  intro l
  induction l with
  |nil=>intro a;rfl
  |cons x r g=>
   intro a;rw[gH,rF,rF];have:jr (a.map tS) (tS x)=(if x∈a then a else a++[x]).map tS:=by
    unfold jr;have f:tS x∈a.map tS↔x∈a:=by rw[eJ];exact⟨λ⟨y,j,e⟩=>by rw[<-vS e];exact j,λh=>⟨x,h,rfl⟩⟩
    by_cases h:x∈a
    .rw[if_pos h,if_pos (f.mpr h)]
    .rw[if_neg h,if_neg (λz=>h (f.mp z)),Cb];rfl
   rw[this,g]
 have e:(cy b.length).map (λi=>(b.map tS).getD i kH)=b.map tS:=by
  refine HP λi=>?_;rw[iT];by_cases c:i<b.length
  .rw[HI c];simp[c]
  .rw[ng (by simpa using c),ng (by simpa using c)];rfl
 unfold met;rw[e];exact d b []
theorem E_(l c:List Tx):(c.Nodup->(l.foldl (λks x=>if x∈ks then ks else ks++[x]) c).Nodup)/\∀x,x∈l.foldl (λks x=>if x∈ks then ks else ks++[x]) c↔x∈c\/x∈l:=by
 induction l generalizing c with
 |nil=>exact⟨λh=>h,λx=>by simp⟩
 |cons y r g=>
  rw[rF];obtain⟨m,j⟩:=g (if y∈c then c else c++[y]);refine⟨λh=>m ?_,λx=>?_⟩
  .split
   .exact h
   .rename_i d;rw[List.nodup_append];exact⟨h,by simp,λa i b f=>by simp at f;subst f;exact λe=>d (e ▸ i)⟩
  .rw[j x,bV];split
   .rename_i d;constructor
    .rintro(h|h)
     .exact .inl h
     .exact .inr (.inr h)
    .rintro(h|rfl|h)
     .exact .inl h
     .exact .inl d
     .exact .inr h
   .rw[oJ,jD,or_assoc]
theorem Rb(l:List Tx):(fk l).Nodup:=(E_ l []).1 List.nodup_nil
theorem s_(l:List Tx)(x:Tx):x∈fk l↔x∈l:=by rw[fk,(E_ l []).2 x];simp
theorem OY(l:List Tx):(fk l).length<=l.length:=by
 have b:∀(l a:List Tx),(l.foldl (λks x=>if x∈ks then ks else ks++[x]) a).length<=a.length+l.length:=by
  intro l
  induction l with
  |nil=>intro a;simp
  |cons x r c=>intro a;rw[rF];refine dr (c _) ?_;split <;> simp <;> lia
 simpa[fk]using b l []
section
variable{X:Cx}
def o9(X:Cx)(a:ae)(b:List Tx):HO:=.ext λh=>ju X.prog X.w h a (b.map tS)
theorem LO(z:X.calm=ah):eV X (.type "set") (λxs H Q=>∃(p:ae) (c:List Tx),xs=[.ref p]/\cu X.K H p (df c)/\(fk c).length<4000/\∀a,H a=ac->Q (.ref a) (upd H a (o9 X a (fk c)))):=by
 intro L s B H xs C Q I r h;obtain⟨p,c,rfl,x,f,q⟩:=h;obtain⟨u,rfl,l⟩:=vals1 r;cases l;obtain⟨d,g,v,E⟩:=I.list x;have y:=g.length;rw[tN]at y;refine M4 (P:=X.prog) (w:=X.w) (I.ok.hd z) (.inl v.isList) (by simpa using yM g) (by rw[cO,show d.length=c.length by lia,Do,c0];exact f) λA j S k=>?_;have i:ju X.prog X.w A s.heap.objs.size ((fk c).map tS):=by
  have e:d.toArray.size=c.length:=by rw[cO];lia
  rw[e,Do]at S;exact S
 refine⟨.ref s.heap.objs.size,_,I.laid (t':=j) (o:=o9 X s.heap.objs.size (fk c)) (λb o e=>k b o (bL e) e) (bv _) ?_,rfl,q _ I.fresh⟩;obtain⟨J,K,t,D,e,_⟩:=i.ex;exact⟨i,⟨_,e⟩,λG F n m=>n.at m⟩
theorem Jp(x:X.calm=ah):eV X (.builtin "sorted") (λxs H Q=>∃(p:ae) (a:List Tx),xs=[.ref p]/\H p=aa (o9 X p a)/\a≠[]/\a.length<64/\∀l,H l=ac->Q (.ref l) (upd H l (.lst (df (bG a))))):=by
 intro E s i H xs G Q I r h;obtain⟨p,a,rfl,v,C,o,q⟩:=h;obtain⟨u,rfl,m⟩:=vals1 r;cases m;obtain⟨S,_,_⟩:=(show dA X.prog X.w H s.heap p (o9 X p a)from I.hok p _ v)
 refine Ey (Mt (u_ (I.ok.hd x)) S (by cases a with|nil=>exact absurd rfl C|cons=>simp) λj F ss f d M k A z=>?_);obtain⟨c,g',d',t',n⟩:=j;obtain rfl:g'=s.gens:=A;obtain rfl:n=s.os:=z;have g:Inv X E i H {s with heap:=c,drawn:=d',toks:=t'}:=by have:=Inv.call (ch:=[]) I (g':=s.gens) (d':=d') (t':=t') (Un.kept (fs:=fg X.stack) (ex:=[]) k) (I.hok.kept k) I.bare (λb y=>absurd y (by simp));exact this
 refine⟨ss,f,by have K:=f.length;have B:=d.length_eq;rw[c0]at B;lia,λJ out L e t w b1 b2 D=>?_⟩;exact⟨.ref _,_,Inv.sorted (s1:={s with heap:=c,drawn:=d',toks:=t'}) (ss:=a.map tS) g rfl o t w b1 (b2.trans d) D,rfl,q _ g.fresh⟩
end
structure bZ(K:aw)(mg:Str->Option ai)(x:Str)(st:aT):Prop where
 ex:∃f fd,mg x=aa (.ref f)/\mn K x x st f fd
theorem FK{H:Hp}{p:ae}{o:HO}(h:H p=ac):Same H (upd H p o):=λb u q=>by rw[bT (ml q h)];exact q
theorem AS{a:Type}{xs:List a}{k:Int}(b:0<=k)(h:k.toNat<xs.length):dU xs k=aa xs[k.toNat]:=by
 have e:((k.toNat:Nat):Int)=k:=∅
 have q:=tK (xs:=xs) (j:=k.toNat) (v:=xs[k.toNat]) (by simp[h]);rwa[e]at q
def Ec(N:List Str)(d a:dZ)(x:Str)(c:List Str)(b:List Nat):Bool :=
 decide (a.kind=.function)&&a.names.all (λy=>(decide (y.2≠.cell)||decide (a.names.lookup y.1=aa .cell))&&(decide (y.2≠.local)||decide (a.names.lookup y.1=aa .local))&&(decide (y.2≠.free)||decide (d.names.lookup y.1=aa .cell)||decide (d.names.lookup y.1=aa .free)))
 && (decide (a.names.lookup x=aa .local)||decide (a.names.lookup x=aa .cell))&&decide c.Nodup&&decide (c.head?=aa x)&&decide (c.length=b.length+1)&&(b.zip c.tail).all λp=>(decide (N[p.1]?=aa p.2)&&decide (a.names.lookup p.2=aa .free))||(decide (N.length<=p.1)&&decide (a.names.lookup p.2=aa .local))
theorem jo.of{X:Cx}{a:dZ}{x:Str}{N':List Str}{cap:List Nat}(N:List Str)(f:dZ)(l:X.N=N)(c:X.env.scope=f)(h:Ec N f a x N' cap=ah):jo X a x N' cap:=by
 subst l c;simp only[Ec,fI,decide_eq_true_eq,j7,Ce]at h;obtain⟨⟨⟨⟨⟨⟨r,d⟩,q⟩,p⟩,o⟩,n⟩,m⟩:=h;refine⟨r,λy b e=>(d y b).1.1.elim (λz=>absurd e z) λz=>z,λy b e=>?_,q,λy b e=>?_,p,o,n,λi j y t s=>?_⟩
 .rcases(d y b).1.2 with z|z
  .exact absurd e z
  .exact z
 .rcases(d y b).2 with(z|z)|z
  .exact absurd e z
  .exact .inl z
  .exact .inr z
 .have g:(j,y)∈cap.zip N'.tail:=by
   refine List.mem_iff_getElem?.mpr ⟨i,?_⟩;rw[List.getElem?_zip_eq_some];refine⟨s,?_⟩;rw[<-List.drop_one,List.getElem?_drop,Nat.add_comm];exact t
  exact m _ g
end L2
namespace Pu
open L2
abbrev St:=L2.St
inductive PV where
 |non|bl (b:Bool)|int (i:Int)|str (x:Tx)|tup (xs:List PV)|lst (xs:List PV)|raw (v:V)|exc (c:ai)
def mo(a:ae)(c:ai):HO:=.ext λh=>∃o b,h.get? a=aa o/\o.cls=c/\o.data=.fields b/\o.dict=ac
def bS:Nat:=1000000
theorem mx:bS<=bq:=by rw[j2];decide
def cH:HO->Prop
 |.lst _=>True
 |.dK _=>True
 |.dT _=>True
 |.dN _=>True
 |.ins _ _ _=>True
 |.own _=>True
 |_=>False
mutual
def bg(K:aw)(H:Hp)(F:ae->Prop):PV->V->Prop
 |.non,v=>v=.non
 |.bl b,v=>v=.bl b
 |.int i,v=>v=.int i
 |.str x,v=>v=tV x/\x.length<=bS
 |.tup xs,v=>∃a d,v=.ref a/\H a=aa (.tup d)/\Reps K H F xs d
 |.lst xs,v=>∃a d,v=.ref a/\Rd H a (.lst d)/\F a/\Reps K H F xs d
 |.raw u,v=>v=u
 |.exc c,v=>∃a,v=.ref a/\H a=aa (mo a c)
def Reps(K:aw)(H:Hp)(F:ae->Prop):List PV->List V->Prop
 |[],a=>a=[]
 |x::xs,a=>∃v r,a=v::r/\bg K H F x v/\Reps K H F xs r
end
section
variable{K:aw}{H b:Hp}{F c:ae->Prop}
mutual
theorem bg.mono(i:∀a,F a->c a)(g:∀a xs,F a->Rd H a (.lst xs)->Rd b a (.lst xs))(f:∀a o,H a=aa o->¬cH o->b a=aa o):∀(x:PV) (v:V),bg K H F x v->bg K b c x v
 |.non,_,h=>h
 |.bl _,_,h=>h
 |.int _,_,h=>h
 |.str _,_,h=>h
 |.raw _,_,h=>h
 |.exc _,_,⟨a,e,h⟩=>⟨a,e,f a _ h id⟩
 |.tup xs,_,⟨a,d,e,l,j⟩=>⟨a,d,e,f a _ l id,Reps.mono i g f xs d j⟩
 |.lst xs,_,⟨a,d,e,l,m,j⟩=>⟨a,d,e,g a d m l,i a m,Reps.mono i g f xs d j⟩
theorem Reps.mono(i:∀a,F a->c a)(g:∀a xs,F a->Rd H a (.lst xs)->Rd b a (.lst xs))(f:∀a o,H a=aa o->¬cH o->b a=aa o):∀(xs:List PV) (d:List V),Reps K H F xs d->Reps K b c xs d
 |[],_,h=>h
 |x::xs,_,⟨v,r,e,l,j⟩=>⟨v,r,e,bg.mono i g f x v l,Reps.mono i g f xs r j⟩
end
theorem Reps.len:∀{xs:List PV}{vs:List V},Reps K H F xs vs->vs.length=xs.length
 |[],_,h=>by rw[show _=[] from h];rfl
 |_::_,_,⟨_,_,e,_,a⟩=>by rw[e,eR,eR,Reps.len a]
theorem Reps.get:∀{xs:List PV}{c:List V}{i:Nat}{x:PV},Reps K H F xs c->xs[i]?=aa x->∃v,c[i]?=aa v/\bg K H F x v
 |[],_,_,_,_,e=>by simp at e
 |x::xs,_,0,y,⟨v,r,e,h1,_⟩,q=>by simp at q;subst q;subst e;exact⟨v,rfl,h1⟩
 |x::xs,_,i+1,y,⟨v,r,e,_,h2⟩,q=>by obtain⟨w,a,b⟩:=Reps.get (i:=i) (x:=y) h2 (by simpa using q);subst e;exact⟨w,by simpa using a,b⟩
theorem Reps.back:∀{xs:List PV}{c:List V}{i:Nat}{v:V},Reps K H F xs c->c[i]?=aa v->∃x,xs[i]?=aa x/\bg K H F x v
 |[],_,_,_,h,e=>by rw[show _=[] from h]at e;simp at e
 |x::xs,_,0,y,⟨v,r,e,h1,_⟩,q=>by subst e;simp at q;subst q;exact⟨x,rfl,h1⟩
 |x::xs,_,i+1,y,⟨v,r,e,_,h2⟩,q=>by subst e;obtain⟨w,a,b⟩:=Reps.back (i:=i) (v:=y) h2 (by simpa using q);exact⟨w,by simpa using a,b⟩
theorem Reps.app:∀{xs a:List PV}{vs b:List V},Reps K H F xs vs->Reps K H F a b->Reps K H F (xs++a) (vs++b)
 |[],_,_,_,h,g=>by rw[show _=[] from h];exact g
 |x::xs,_,_,_,⟨v,r,e,d,c⟩,g=>by subst e;exact⟨v,_,rfl,d,Reps.app c g⟩
theorem Reps.one{x:PV}{v:V}(h:bg K H F x v):Reps K H F [x] [v]:=⟨v,[],rfl,h,rfl⟩
theorem Reps.drop:∀(n:Nat) {xs:List PV}{a:List V},Reps K H F xs a->Reps K H F (xs.drop n) (a.drop n)
 |0,_,_,h=>h
 |_+1,[],_,h=>by rw[show _=[] from h];rfl
 |n+1,_::_,_,⟨_,_,e,_,h2⟩=>by subst e;exact Reps.drop n h2
theorem Reps.take:∀(n:Nat) {xs:List PV}{a:List V},Reps K H F xs a->Reps K H F (xs.take n) (a.take n)
 |0,_,_,_=>by rw[List.take_zero,List.take_zero];rfl
 |_+1,[],_,h=>by rw[show _=[] from h];rfl
 |n+1,_::_,_,⟨v,_,e,h1,h2⟩=>by subst e;exact⟨v,_,rfl,h1,Reps.take n h2⟩
end
structure bC(O O' F F':ae->Prop)(H H':Hp):Prop where
 fro:∀a,F a->F' a
 keep:∀b o,H b=aa o->¬O b->H' b=aa o
 there:∀b o,H b=aa o->∃o',H' b=aa o'
 fnew:∀a,F' a->F a\/H a=ac\/O a
 onew:∀a,O' a->O a\/H a=ac
theorem bC.refl(O F:ae->Prop)(H:Hp):bC O O F F H H:=⟨λ_ h=>h,λ_ _ h _=>h,λ_ o h=>⟨o,h⟩,λ_ h=>.inl h,λ_ h=>.inl h⟩
theorem bC.trans{O i f F m l:ae->Prop}{H d j:Hp}(g:bC O i F m H d)(k:bC i f m l d j):bC O f F l H j where
 fro:=λa h=>k.fro a (g.fro a h)
 keep:=λb o h n=>k.keep b o (g.keep b o h n) λz=>(g.onew b z).elim n λq=>by rw[q]at h;cases h
 there:=λb o h=>let ⟨o',c⟩:=g.there b o h;k.there b o' c
 fnew:=λa h=>by
  have back:d a=ac->H a=ac\/O a:=λz=>by
   cases q:H a with
   |none=>exact .inl rfl
   |some o=>obtain⟨o',c⟩:=g.there a o q;rw[z]at c;cases c
  rcases k.fnew a h with z|z|z
  .exact g.fnew a z
  .exact .inr (back z)
  .exact .inr ((g.onew a z).symm)
 onew:=λa h=>by
  rcases k.onew a h with z|z
  .exact g.onew a z
  .cases q:H a with
   |none=>exact .inr rfl
   |some o=>obtain⟨o',c⟩:=g.there a o q;rw[z]at c;cases c
def mi(O F:ae->Prop)(H:Hp):Prop:=∀b,O b->¬F b/\∃o,H b=aa o/\cH o
section
variable{K:aw}{O d F c:ae->Prop}{H b:Hp}
theorem bC.imm(g:bC O d F c H b)(f:mi O F H){a:ae}{o:HO}(h:H a=aa o)(n:¬cH o):b a=aa o :=
 g.keep _ _ h λz=>by
  obtain⟨_,l,i,j⟩:=f a z;rw[h]at i;cases i;exact n j
theorem bC.lst(g:bC O d F c H b)(f:mi O F H){a:ae}{xs:List V}(i:F a)(h:Rd H a (.lst xs)):Rd b a (.lst xs):=by
 have no:¬O a:=λz=>(f a z).1 i;rcases h with h|⟨o,h⟩
 .exact .inl (g.keep _ _ h no)
 .exact .inr ⟨o,g.keep _ _ h no⟩
theorem bg.grow(g:bC O d F c H b)(f:mi O F H){x:PV}{v:V}(h:bg K H F x v):bg K b c x v:=bg.mono g.fro (λ_ _ a q=>g.lst f a q) (λ_ _ q n=>g.imm f q n) x v h
theorem Reps.grow(g:bC O d F c H b)(f:mi O F H){x:List PV}{v:List V}(h:Reps K H F x v):Reps K b c x v:=Reps.mono g.fro (λ_ _ a q=>g.lst f a q) (λ_ _ q n=>g.imm f q n) x v h
end
theorem _root_.L2.Same.rd{H b:Hp}{a:ae}{u:HO}(e:Same H b)(h:Rd H a u):Rd b a u:=h.elim (λz=>.inl (e _ _ z)) λ⟨o,z⟩=>.inr ⟨o,e _ _ z⟩
structure Al(F F':ae->Prop)(H H':Hp):Prop where
 fro:∀a,F a->F' a
 same:Same H H'
 fnew:∀a,F' a->F a\/(H a=ac/\∃o,H' a=aa o)
theorem Al.refl(F:ae->Prop)(H:Hp):Al F F H H:=⟨λ_ h=>h,Same.refl H,λ_ h=>.inl h⟩
theorem Al.grow{F d O:ae->Prop}{H c:Hp}(a:Al F d H c):bC O O F d H c :=⟨a.fro,λb o h _=>a.same b o h,λb o h=>⟨o,a.same b o h⟩,λb h=>(a.fnew b h).imp id λz=>.inl z.1,λ_ h=>.inl h⟩
theorem Al.rep{K:aw}{F c:ae->Prop}{H b:Hp}(a:Al F c H b){x:PV}{v:V}(h:bg K H F x v):bg K b c x v:=bg.mono a.fro (λ_ _ _ q=>a.same.rd q) (λ_ _ q _=>a.same _ _ q) x v h
theorem Al.reps{K:aw}{F c:ae->Prop}{H b:Hp}(a:Al F c H b){x:List PV}{v:List V}(h:Reps K H F x v):Reps K b c x v:=Reps.mono a.fro (λ_ _ _ q=>a.same.rd q) (λ_ _ q _=>a.same _ _ q) x v h
theorem Al.trans{F i g:ae->Prop}{H f d:Hp}(a:Al F i H f)(b:Al i g f d):Al F g H d :=
 ⟨λc h=>b.fro c (a.fro c h),a.same.trans b.same,λc h=>by
  rcases b.fnew c h with z|⟨z,w⟩
  .rcases a.fnew c z with y|⟨y,o,q⟩
   .exact .inl y
   .exact .inr ⟨y,o,b.same _ _ q⟩
  .exact .inr ⟨a.same.free z,w⟩⟩
theorem Al.new{F:ae->Prop}{H:Hp}{l:ae}{o:HO}(h:H l=ac):Al F (λa=>F a\/a=l) H (upd H l o) :=⟨λ_ h=>.inl h,FK h,λa z=>z.imp id λe=>by subst e;exact⟨h,o,cI⟩⟩
theorem Al.new0{F:ae->Prop}{H:Hp}{l:ae}{o:HO}(h:H l=ac):Al F F H (upd H l o):=⟨λ_ h=>h,FK h,λa z=>.inl z⟩
inductive PO where
 |lst (xs:List PV)|dK (kvs:List (aX×PV))|lls (jH:List (List PV))|ins (C:ae) (fs:List (Str×PV))|dT (kvs:List (List aX×PV))|dN (kvs:List ((Tx×List Tx)×PV))|inl (C:ae) (fs:List (Str×PV)) (y:Str) (xs:List PV)
def iI:PO->Bool
 |.lls _=>aj
 |.inl ..=>aj
 |_=>ah
inductive Slot where
 |none|val (v:PV)|own (o:PO)
abbrev af:=List Slot
def iw(K:aw)(H:Hp)(F:ae->Prop)(a:List (aX×PV))(b:List (aX×V)):Prop:=kG (λ(p:aX×PV) (q:aX×V)=>p.1=q.1/\bg K H F p.2 q.2) a b
def i6(K:aw)(H:Hp)(F:ae->Prop)(fs:List (Str×PV))(a:List (Str×V)):Prop:=kG (λ(p:Str×PV) (q:Str×V)=>p.1=q.1/\bg K H F p.2 q.2) fs a
def w_(K:aw)(H:Hp)(F:ae->Prop)(a:List (List aX×PV))(b:List (List aX×V)):Prop:=kG (λ(p:List aX×PV) (q:List aX×V)=>p.1=q.1/\bg K H F p.2 q.2) a b
def nS(k:Tx×List Tx):Str×List Str:=(tS k.1,k.2.map tS)
def wG(K:aw)(H:Hp)(F:ae->Prop)(a:List ((Tx×List Tx)×PV))(b:List ((Str×List Str)×V)):Prop:=kG (λ(p:(Tx×List Tx)×PV) (q:(Str×List Str)×V)=>nS p.1=q.1/\bg K H F p.2 q.2) a b
def xA(K:aw)(H:Hp)(F:ae->Prop)(c:List (List PV))(d:List ae):Prop:=kG (λ(xs:List PV) (b:ae)=>∃a,H b=aa (.lst a)/\Reps K H F xs a) c d
def eL(K:aw)(H:Hp)(F:ae->Prop)(i:PO)(a:ae)(S:ae->Prop):Prop :=
 match i with
 |.lst xs=>(∃vs,H a=aa (.lst vs)/\Reps K H F xs vs)/\∀b,S b↔b=a
 |.dK f=>(∃d,H a=aa (.dK d)/\iw K H F f d)/\∀b,S b↔b=a
 |.lls j=>∃g,H a=aa (.lst (g.map .ref))/\xA K H F j g/\g.Nodup/\a∉g/\∀b,S b↔b=a\/b∈g
 |.ins C fs=>(∃h d,H a=aa (.ins C h d)/\i6 K H F fs d)/\∀b,S b↔b=a
 |.dT f=>(∃d,H a=aa (.dT d)/\w_ K H F f d)/\∀b,S b↔b=a
 |.dN f=>(∃d,H a=aa (.dN d)/\wG K H F f d)/\∀b,S b↔b=a
 |.inl C fs y xs=>∃h d b vs,H a=aa (.ins C h (d++[(y,.ref b)]))/\i6 K H F fs d/\fs.lookup y=ac/\H b=aa (.lst vs)/\Reps K H F xs vs/\a≠b/\∀c,S c↔c=a\/c=b
structure aP(K:aw)(F:ae->Prop)(S:Nat->ae->Prop)(ε:af)(σ:St)(H:Hp):Prop where
 len:ε.length=σ.length
 ex:∀a,F a->∃o,H a=aa o
 val:∀(i:Nat) (pv:PV),ε[i]?=aa (.val pv)->∃v,σ[i]?=aa (aa v)/\bg K H F pv v
 own:∀(i:Nat) (po:PO),ε[i]?=aa (.own po)->∃a,σ[i]?=aa (aa (.ref a))/\eL K H F po a (S i)
 foot:∀(i:Nat) (b:ae),S i b->(∃po,ε[i]?=aa (.own po))/\¬F b/\∃o,H b=aa o/\cH o
 dist:∀(i j:Nat) (b:ae),S i b->S j b->i=j
def U(S:Nat->ae->Prop)(b:ae):Prop:=∃i,S i b
section
variable{K:aw}{F f:ae->Prop}{S:Nat->ae->Prop}{j:af}{g:St}{H d:Hp}
theorem aP.fit(r:aP K F S j g H):mi (U S) F H:=λb ⟨i,h⟩=>(r.foot i b h).2
theorem iw.mono{a:List (aX×PV)}{b:List (aX×V)}(i:∀x v,bg K H F x v->bg K d f x v)(h:iw K H F a b):iw K d f a b:=by
 unfold iw at h ⊢
 induction h with
 |nil=>exact .nil
 |cons r _ c=>exact .cons ⟨r.1,i _ _ r.2⟩ c
theorem i6.mono{fs:List (Str×PV)}{a:List (Str×V)}(c:∀x v,bg K H F x v->bg K d f x v)(h:i6 K H F fs a):i6 K d f fs a:=by
 unfold i6 at h ⊢
 induction h with
 |nil=>exact .nil
 |cons r _ b=>exact .cons ⟨r.1,c _ _ r.2⟩ b
theorem w_.mono{a:List (List aX×PV)}{b:List (List aX×V)}(i:∀x v,bg K H F x v->bg K d f x v)(h:w_ K H F a b):w_ K d f a b:=by
 unfold w_ at h ⊢
 induction h with
 |nil=>exact .nil
 |cons r _ c=>exact .cons ⟨r.1,i _ _ r.2⟩ c
theorem wG.mono{a:List ((Tx×List Tx)×PV)}{b:List ((Str×List Str)×V)}(i:∀x v,bg K H F x v->bg K d f x v)(h:wG K H F a b):wG K d f a b:=by
 unfold wG at h ⊢
 induction h with
 |nil=>exact .nil
 |cons r _ c=>exact .cons ⟨r.1,i _ _ r.2⟩ c
theorem xA.mono{c:List (List PV)}{a:List ae}(m:∀x v,Reps K H F x v->Reps K d f x v)(i:∀b o,b∈a->H b=aa o->d b=aa o)(h:xA K H F c a):xA K d f c a:=by
 unfold xA at h ⊢
 induction h with
 |nil=>exact .nil
 |cons r _ n=>obtain⟨l,s,q⟩:=r;exact .cons ⟨l,i _ _ (by simp) s,m _ _ q⟩ (n λb o p=>i b o (by simp[p]))
theorem eL.mono{s:PO}{a:ae}{u:ae->Prop}(m:∀x v,bg K H F x v->bg K d f x v)(r:∀x v,Reps K H F x v->Reps K d f x v)(i:∀b o,u b->H b=aa o->d b=aa o)(h:eL K H F s a u):eL K d f s a u:=by
 cases s with
 |lst xs=>obtain⟨⟨p,e,q⟩,w⟩:=h;exact⟨⟨p,i a _ ((w a).mpr rfl) e,r _ _ q⟩,w⟩
 |dK l=>obtain⟨⟨c,e,q⟩,w⟩:=h;exact⟨⟨c,i a _ ((w a).mpr rfl) e,q.mono m⟩,w⟩
 |lls J=>obtain⟨I,e,q,D,B,w⟩:=h;exact⟨I,i a _ ((w a).mpr (.inl rfl)) e,q.mono r λb o E=>i b o ((w b).mpr (.inr E)),D,B,w⟩
 |ins C fs=>obtain⟨⟨t,c,e,q⟩,w⟩:=h;exact⟨⟨t,c,i a _ ((w a).mpr rfl) e,q.mono m⟩,w⟩
 |dT l=>obtain⟨⟨c,e,q⟩,w⟩:=h;exact⟨⟨c,i a _ ((w a).mpr rfl) e,q.mono m⟩,w⟩
 |dN l=>obtain⟨⟨c,e,q⟩,w⟩:=h;exact⟨⟨c,i a _ ((w a).mpr rfl) e,q.mono m⟩,w⟩
 |inl C fs y xs=>obtain⟨t,c,b,p,e,q,n,G,z,A,w⟩:=h;exact⟨t,c,b,p,i a _ ((w a).mpr (.inl rfl)) e,q.mono m,n,i b _ ((w b).mpr (.inr rfl)) G,r _ _ z,A,w⟩
theorem aP.al(r:aP K F S j g H)(a:Al F f H d):aP K f S j g d where
 len:=r.len
 ex:=λb h=>(a.fnew b h).elim (λz=>let ⟨o,q⟩:=r.ex b z;⟨o,a.same _ _ q⟩) λz=>z.2
 val:=λi pv e=>let ⟨v,m,l⟩:=r.val i pv e;⟨v,m,a.rep l⟩
 own:=λi p e=>let ⟨b,m,l⟩:=r.own i p e;⟨b,m,l.mono (λ_ _ q=>a.rep q) (λ_ _ q=>a.reps q) λc o _ q=>a.same _ _ q⟩
 foot:=λi b h=>by
  obtain⟨m,l,o,n,s⟩:=r.foot i b h;refine⟨m,λz=>?_,o,a.same _ _ n,s⟩;rcases a.fnew b z with y|⟨y,_⟩
  .exact l y
  .rw[n]at y;cases y
 dist:=r.dist
end
inductive R(α:Type) where
 |ok (a:α) (ε:af)|er (c:ai) (ε:af)|no
def R.bind{d b:Type}(r:R d)(k:d->af->R b):R b:=match r with
 |.ok a ε=>k a ε
 |.er c ε=>.er c ε
 |.no=>.no
def aR{b:Type}(o:Option b)(ε:af):R b:=match o with
 |some a=>.ok a ε
 |none=>.no
@[simp] theorem R.bind_ok{b c:Type}(a:b)(ε:af)(k:b->af->R c):(R.ok a ε).bind k=k a ε:=rfl
@[simp] theorem R.bind_er{b d:Type}(c:ai)(a:af)(k:b->af->R d):(R.er c a:R b).bind k=.er c a:=rfl
@[simp] theorem R.bind_no{a b:Type}(k:a->af->R b):(R.no:R a).bind k=.no:=rfl
@[simp] theorem dY{c:Type}(a:c)(b:af):aR (aa a) b=.ok a b:=rfl
@[simp] theorem SK{b:Type}(a:af):aR (ac:Option b) a=.no:=rfl
def Ok(K:aw)(E:XK)(h:St)(F:ae->Prop)(S:Nat->ae->Prop)(H:Hp){i:Type}(r:R i)(C:i->af->(ae->Prop)->(Nat->ae->Prop)->Hp->Prop):Prop:=match r with
 |.ok a b=>∀g f d,aP K g f b h d->bC (U S) (U f) F g H d->C a b g f d
 |.er c b=>∀x g f d,aP K g f b h d->bC (U S) (U f) F g H d->E c x d
 |.no=>False
section
variable{K:aw}{E:XK}{b:St}{F:ae->Prop}{S:Nat->ae->Prop}{H:Hp}{d i:Type}{C C':d->af->(ae->Prop)->(Nat->ae->Prop)->Hp->Prop}{D:i->af->(ae->Prop)->(Nat->ae->Prop)->Hp->Prop}
theorem Ok.imp{r:R d}(h:Ok K E b F S H r C)(f:∀a j n l m,aP K n l j b m->bC (U S) (U l) F n H m->C a j n l m->C' a j n l m):Ok K E b F S H r C':=by
 cases r with
 |ok a j=>exact λn l m r g=>f a j n l m r g (h n l m r g)
 |er c j=>exact h
 |no=>exact h
theorem Ok.from{r:R i}{q:ae->Prop}{o:Nat->ae->Prop}{p:Hp}(h:Ok K E b F S H r D)(g:bC (U S) (U o) F q H p):Ok K E b q o p r D:=by
 cases r with
 |ok a f=>exact λn l m j g'=>h n l m j (g.trans g')
 |er c f=>exact λx n l m j g'=>h x n l m j (g.trans g')
 |no=>exact h
theorem Ok.bind{r:R d}{k:d->af->R i}(h:Ok K E b F S H (r.bind k) D):Ok K E b F S H r (λa ε1 m j l=>Ok K E b m j l (k a ε1) D):=by
 cases r with
 |ok a f=>exact λp n o r g=>Ok.from h g
 |er c f=>exact h
 |no=>exact h
end
structure Bx(p:Prop):Prop where
 run:p
def ig(X:Cx)(e:az):TE:=λa H Q=>Bx (∀b s,Inv X b a H s->ax (aA X.prog X.w) X.A (aQ e X.env) (EP X b a Q) X.xe s)
def yW(X:Cx)(e:az):TT:=λa H Q=>Bx (∀b s,Inv X b a H s->ax (aA X.prog X.w) X.A (mO e X.env (aQ e X.env)) (TP X b a Q) X.xe s)
def wpS(X:Cx)(c:aT):TS:=λD b H=>Bx (∀a s,Inv X a b H s->ax (aA X.prog X.w) X.A (exec c X.env) (SP X a D) X.xe s)
def pj(X:Cx)(c:List aT):TS:=λD b H=>Bx (∀a s,Inv X a b H s->ax (aA X.prog X.w) X.A (execs c X.env) (SP X a D) X.xe s)
section
variable{X:Cx}{e:az}{b:aT}{a:List aT}
theorem ce:PE X e (ig X e):=λc s _ _ _ I h=>h.run c s I
theorem oh:PT X e (yW X e):=λc s _ _ _ I h=>h.run c s I
theorem Ef:PS X b (wpS X b):=λc s _ _ _ I h=>h.run c s I
theorem tL:lA X a (pj X a):=λc s _ _ _ I h=>h.run c s I
theorem cz{t:TE}(h:PE X e t){c:St}{H:Hp}{Q:VK}(q:t c H Q):ig X e c H Q:=⟨λd s I=>h d s c H Q I q⟩
theorem xu{t:TT}(h:PT X e t){c:St}{H:Hp}{Q:Bool->Hp->Prop}(q:t c H Q):yW X e c H Q:=⟨λd s I=>h d s c H Q I q⟩
theorem i7{t:TS}(h:PS X b t){c:St}{H:Hp}{D:lr}(q:t D c H):wpS X b D c H:=⟨λd s I=>h d s c H D I q⟩
theorem AZ{t:TS}(h:lA X a t){c:St}{H:Hp}{D:lr}(q:t D c H):pj X a D c H:=⟨λd s I=>h d s c H D I q⟩
end
def DE(X:Cx)(E:XK)(e:az)(d:af->R PV):Prop :=
 ∀F S b a H Q,aP X.K F S b a H->Ok X.K E a F S H (d b) (λpv _ f _ c=>∀v,bg X.K c f pv v->Q v c)->ig X e a H Q
def DN(X:Cx)(E:XK)(e:az)(d:af->R PO):Prop :=
 ∀F S g c H Q,aP X.K F S g c H->Ok X.K E c F S H (d g) (λj _ i l f=>∀a h,eL X.K f i j a h->(∀b,h b->H b=ac/\¬i b/\¬U l b/\∃o,f b=aa o/\cH o)->Q (.ref a) f)->ig X e c H Q
def DT(X:Cx)(E:XK)(e:az)(d:af->R Bool):Prop :=
 ∀F S c a H Q,aP X.K F S c a H->Ok X.K E a F S H (d c) (λb _ _ _ f=>Q b f)->yW X e a H Q
end Pu
namespace Pu
open L2
section
variable{X:Cx}{E:XK}{a b c:az}{da db n:af->R PV}{pos:Pos}
def dC(pv:PV):af->R PV:=λε=>.ok pv ε
theorem aE{i j pos}:DE X E (.Constant (.int i) j pos) (dC (.int i)):=λF S f d H Q r h=>cz Q4 (h F S H r (bC.refl ..) _ rfl)
theorem gB{i j pos}:DE X E (.Constant (.bool i) j pos) (dC (.bl i)):=λF S f d H Q r h=>cz N3 (h F S H r (bC.refl ..) _ rfl)
theorem l0{j pos}:DE X E (.Constant .none j pos) (dC .non):=λF S f d H Q r h=>cz Oh (h F S H r (bC.refl ..) _ rfl)
theorem cN(l:Tx){x:Str}{j pos}(d:x=tS l:=by decide +kernel)(f:l.length<=bS:=by decide):DE X E (.Constant (.str x) j pos) (dC (.str l)):=λF S i g H Q r h=>cz M0 (h F S H r (bC.refl ..) _ (by rw[d];exact⟨rfl,f⟩))
def dV(i:Nat):af->R PV:=λε=>match ε[i]? with
 |some (.val pv)=>.ok pv ε
 |_=>.no
theorem am(i:Nat){x:Str}{pos:Pos}(g:X.N[i]?=aa x:=by rfl)(d:f_ X.env.scope x:=by eq_refl)(f:(x==("__debug__":Str))=aj:=by decide)(m:(x==("__classdict__":Str))=aj:=by decide):DE X E (.Name x pos) (dV i):=λF S q o H Q r h=>by
 unfold dV at h;split at h
 .rename_i p e;obtain⟨v,l,j⟩:=r.val i p e;exact cz (ij g d f m) ⟨v,l,h F S H r (bC.refl ..) v j⟩
 .exact h.elim
theorem tT{x:Str}{i:Int}{pos:Pos}(h:∃t,X.mg x=aa (.int i t))(d:Gl X x:=by rfl)(f:(x==("__debug__":Str))=aj:=by decide):DE X E (.Name x pos) (dC (.int i)):=λF S j g H Q r q=>by obtain⟨t,e⟩:=h;exact cz (AC (v:=.int i) d e ⟨t,rfl⟩ f) (q F S H r (bC.refl ..) _ rfl)
theorem Bi{x:Str}{l:Tx}{pos:Pos}(h:∃t,X.mg x=aa (.str (tS l) t))(f:Gl X x:=by rfl)(d:l.length<=bS:=by decide)(g:(x==("__debug__":Str))=aj:=by decide):DE X E (.Name x pos) (dC (.str l)):=λF S j i H Q r q=>by obtain⟨t,e⟩:=h;exact cz (AC (v:=tV l) f e ⟨t,rfl⟩ g) (q F S H r (bC.refl ..) _ ⟨rfl,d⟩)
def P2(K:aw)(r:R2)(f:PV->PV->Option PV):Prop:=∀(F:ae->Prop) (H:Hp) (x y:PV) (v u:V) (Q:VK) (pv:PV),bg K H F x v->bg K H F y u->f x y=aa pv->(∀w g d,Al F g H d->bg K d g pv w->Q w d)->r v u H Q
def d2(f:PV->PV->Option PV)(da db:af->R PV):af->R PV:=λε=>(da ε).bind λx ε1=>(db ε1).bind λy d=>aR (f x y) d
theorem xg{r:R2}{f:PV->PV->Option PV}(D:P2 X.K r f)(I:DE X E a da)(G:DE X E b db){F:ae->Prop}{S:Nat->ae->Prop}{l:af}{d:St}{H:Hp}{Q:VK}(B:aP X.K F S l d H)(h:Ok X.K E d F S H (d2 f da db l) (λpv _ q _ i=>∀v,bg X.K i q pv v->Q v i)):ig X a d H λx p=>ig X b d p λy o=>r x y o Q:=by
 refine I F S l d H _ B ((Ok.bind h).imp λx j O M p s P J v z=>?_);refine G O M j d p _ s ((Ok.bind J).imp λy t N L o C K g u A=>?_);cases e:f x y with
 |none=>rw[e]at g;exact g.elim
 |some pv=>rw[e]at g;exact D N o x y v u Q pv (z.grow K s.fit) A e λw q i al m=>g q L i (C.al al) al.grow w m
theorem bB{d:Operator}{r:R2}{f:PV->PV->Option PV}(j:bR X (gu d) r)(i:P2 X.K r f)(m:DE X E a da)(l:DE X E b db):DE X E (.BinOp a d b pos) (d2 f da db):=λF S p o H Q g h=>cz (Iz j ce ce) (xg i m l g h)
theorem pJ{d:CmpOp}{r:R2}{f:PV->PV->Option PV}(j:bR X (d_ d) r)(i:P2 X.K r f)(o:DE X E a da)(m:DE X E b db)(l:BV d b=aj):DE X E (.Compare a [d] [b] pos) (d2 f da db):=λF S q p H Q g h=>cz (Pr j ce ce l) (xg i o m g h)
def lZ:PV->Option Bool
 |.bl b=>aa b
 |_=>ac
def dB(d:af->R PV):af->R Bool:=λε=>(d ε).bind λx ε1=>aR (lZ x) ε1
theorem GI{K:aw}{H:Hp}{F:ae->Prop}{x:PV}{v:V}{k:Bool}(h:bg K H F x v)(e:lZ x=aa k):v=.bl k:=by
 cases x <;> simp[lZ]at e;subst e;exact h
theorem vk{F:ae->Prop}{S:Nat->ae->Prop}{j:af}{i:St}{H:Hp}{Q:Bool->Hp->Prop}{d:af->R PV}(h:Ok X.K E i F S H (dB d j) (λk _ _ _ g=>Q k g)):Ok X.K E i F S H (d j) (λpv _ s _ g=>∀v,bg X.K g s pv v->∃k,v=.bl k/\Q k g):=by
 refine(Ok.bind h).imp λx l r p q o t f v m=>?_;cases e:lZ x with
 |none=>rw[e]at f;exact f.elim
 |some k=>rw[e]at f;exact⟨k,GI m e,f r p q o (bC.refl ..)⟩
theorem cX{d:CmpOp}{r:R2}{f:PV->PV->Option PV}(j:bR X (d_ d) r)(i:P2 X.K r f)(o:DE X E a da)(m:DE X E b db)(l:BV d b=aj):DT X E (.Compare a [d] [b] pos) (dB (d2 f da db)):=λF S s q H Q g h=>xu (LL j ce ce l) (xg (Q:=λx p=>∃k,x=.bl k/\Q k p) i o m g (vk h))
theorem gZ{e:az}{d:af->R PV}(m:DE X E e d)(l:∀f,mO e X.env f=(do let v <-f;standAt e.pos;holding [v] (truthy v)):=by intro _;rfl):DT X E e (dB d):=λF S i g H Q j h=>xu (Pz ce l) (m F S i g H _ j (vk h))
def fL(f g:PV->PV->Option PV)(da db n:af->R PV):af->R PV:=λε=>(da ε).bind λx i=>(db i).bind λy d=>(aR ((f x y).bind lZ) d).bind λk d=>
 match k with
 |true=>(n d).bind λz h=>aR (g y z) h
 |false=>.ok (.bl aj) d
theorem Gv{r M:R2}{f g:PV->PV->Option PV}(hp:P2 X.K r f)(lS:P2 X.K M g)(ha:DE X E a da)(hb:DE X E b db)(hc:DE X E c n){F:ae->Prop}{S:Nat->ae->Prop}{t:af}{j:St}{H:Hp}{Q:VK}(Z:aP X.K F S t j H)(h:Ok X.K E j F S H (fL f g da db n t) (λpv _ l _ i=>∀v,bg X.K i l pv v->Q v i)):zw r M (ig X a) (ig X b) (ig X c) j H Q:=by
 refine ha F S t j H _ Z ((Ok.bind h).imp λx s F1 S1 H1 L g1 h1 v Y=>?_);refine hb F1 S1 s j H1 _ L ((Ok.bind h1).imp λy m O J N r2 g2 d u K=>?_);cases e:f x y with
 |none=>rw[e]at d;exact d.elim
 |some pv=>
  rw[e]at d;refine hp O N x y v u _ pv (Y.grow g2 L.fit) K e λw l i al B=>?_;cases I:lZ pv with
  |none=>rw[g9,I]at d;exact d.elim
  |some k=>
   rw[g9,I]at d;refine⟨k,GI B I,?_⟩;have D:=r2.al al;cases k with
   |false=>exact nQ (Ok.from d al.grow l J i D (bC.refl ..) _ rfl)
   |true=>
    have h3:Ok X.K E j O J N ((n m).bind λz q=>aR (g y z) q) (λpv _ l _ i=>∀v,bg X.K i l pv v->Q v i):=d;refine oj (hc l J m j i _ D ((Ok.bind (Ok.from h3 al.grow)).imp λz P F4 S4 H4 r4 g4 p W C=>?_));cases G:g y z with
    |none=>rw[G]at p;exact p.elim
    |some pz=>rw[G]at p;exact lS F4 H4 y z u W Q pz ((al.rep K).grow g4 D.fit) C G λT F5 H5 o A=>p F5 S4 H5 (r4.al o) o.grow T A
theorem GP{i d:CmpOp}{r j:R2}{f g:PV->PV->Option PV}(q:bR X (d_ i) r)(o:bR X (d_ d) j)(p:P2 X.K r f)(m:P2 X.K j g)(v:DE X E a da)(u:DE X E b db)(t:DE X E c n)(s:lastMarks [i,d] [b,c]=aj:=by with_unfolding_all rfl):DE X E (.Compare a [i,d] [b,c] pos) (fL f g da db n):=λF S x w H Q l h=>cz (Od q o ce ce ce s) (Gv p m v u t l h)
theorem sI{i d:CmpOp}{r j:R2}{f g:PV->PV->Option PV}(q:bR X (d_ i) r)(o:bR X (d_ d) j)(p:P2 X.K r f)(m:P2 X.K j g)(v:DE X E a da)(u:DE X E b db)(t:DE X E c n)(s:lastMarks [i,d] [b,c]=aj:=by with_unfolding_all rfl):DT X E (.Compare a [i,d] [b,c] pos) (dB (fL f g da db n)):=λF S z y H Q l h=>xu (OM q o ce ce ce s) (Gv (Q:=λx w=>∃k,x=.bl k/\Q k w) p m v u t l (vk h))
variable{m o:af->R Bool}{rest:List az}
def DW(X:Cx)(E:XK)(e:az)(d:af->R Bool):Prop:=∀F S g f H Q,aP X.K F S g f H->Ok X.K E f F S H (d g) (λb _ _ _ i=>Q b i)->∀(h:Sem ai) ag s,Inv X ag f H s->ax (aA X.prog X.w) X.A (mO e X.env h) (TP X ag f Q) X.xe s
def K2(X:Cx)(e:az):TT:=λd H Q=>∀(f:Sem ai) ag s,Inv X ag d H s->ax (aA X.prog X.w) X.A (mO e X.env f) (TP X ag d Q) X.xe s
theorem Gx{e:az}:PW X e (K2 X e):=λd f s _ _ _ I h=>h d f s I
theorem DW.dt{e:az}{d:af->R Bool}(h:DW X E e d):DT X E e d:=λF S ε f H Q g q=>⟨λi s I=>h F S ε f H Q g q _ i s I⟩
def gw(m o:af->R Bool):af->R Bool:=λε=>(m ε).bind λk d=>match k with
 |true=>o d
 |false=>.ok aj d
def dz(m o:af->R Bool):af->R Bool:=λε=>(m ε).bind λk d=>match k with
 |true=>.ok ah d
 |false=>o d
def cS(m:af->R Bool):af->R Bool:=λε=>(m ε).bind λk d=>.ok (!k) d
theorem va(h:DT X E a m):DW X E (.BoolOp .And [a] pos) m:=λF S f d H Q g q i j s I=>N2 oh i j s d H Q I (h F S f d H Q g q)
theorem nJ(h:DT X E a m):DW X E (.BoolOp .Or [a] pos) m:=λF S f d H Q g q i j s I=>MG oh i j s d H Q I (h F S f d H Q g q)
theorem sW(u:DT X E a m)(t:DW X E (.BoolOp .And (b::rest) pos) o):DW X E (.BoolOp .And (a::b::rest) pos) (gw m o):=λF S p d H Q r q v w s I=>by
 refine Ms oh Gx v w s d H Q I (u F S p d H _ r ((Ok.bind q).imp λk f l i j g x h=>?_));cases k with
 |true=>exact oj (t l i f d j Q g h)
 |false=>exact nQ (h l i j g (bC.refl ..))
theorem jK(u:DT X E a m)(t:DW X E (.BoolOp .Or (b::rest) pos) o):DW X E (.BoolOp .Or (a::b::rest) pos) (dz m o):=λF S p d H Q r q v w s I=>by
 refine Oc oh Gx v w s d H Q I (u F S p d H _ r ((Ok.bind q).imp λk f l i j g x h=>?_));cases k with
 |true=>exact oj (h l i j g (bC.refl ..))
 |false=>exact nQ (t l i f d j Q g h)
theorem gP(j:DT X E a m):DT X E (.UnaryOp .Not a pos) (cS m):=λF S g d H Q h q=>xu (KD oh) (j F S g d H _ h ((Ok.bind q).imp λk f s p r i t l=>l s p r i (bC.refl ..)))
def jJ(da db:af->R PV):af->R PV:=λε=>(dB da ε).bind λk d=>match k with
 |true=>db d
 |false=>.ok (.bl aj) d
def Ft(da db:af->R PV):af->R PV:=λε=>(dB da ε).bind λk d=>match k with
 |true=>.ok (.bl ah) d
 |false=>db d
def xf(da:af->R PV):af->R PV:=λε=>(dB da ε).bind λk d=>.ok (.bl (!k)) d
theorem Gw{d:af->R PV}{r:Type}{D:r->af->(ae->Prop)->(Nat->ae->Prop)->Hp->Prop}{k:Bool->af->R r}{F:ae->Prop}{S:Nat->ae->Prop}{q:af}{p:St}{H:Hp}{P:Bool->Hp->Prop}(h:Ok X.K E p F S H ((dB d q).bind k) D) (f:∀c g l j i,aP X.K l j g p i->bC (U S) (U j) F l H i->Ok X.K E p l j i (k c g) D->P c i):Ok X.K E p F S H (d q) (λpv _ y _ s=>∀v,bg X.K s y pv v->∃c,v=.bl c/\P c s):=by have u:=(Ok.bind h).imp (C':=λc g l j i=>P c i) λc g l j i t x w=>f c g l j i t x w;exact vk u
theorem sr{op}{d:af->R PV}(h:DE X E a d):DE X E (.BoolOp op [a] pos) d:=λF S g f H Q i q=>cz (LA ce) (h F S g f H Q i q)
theorem pG(t:DE X E a da)(s:DE X E (.BoolOp .And (b::rest) pos) db):DE X E (.BoolOp .And (a::b::rest) pos) (jJ da db):=λF S p f H Q r q=>by
 refine cz (IP ce ce) (t F S p f H _ r (Gw q λk d l i j g u h=>?_));cases k with
 |true=>exact oj (s l i d f j Q g h)
 |false=>exact nQ (h l i j g (bC.refl ..) _ rfl)
theorem Pw(j:DE X E a da):DE X E (.UnaryOp .Not a pos) (xf da):=λF S g d H Q h q=>cz (Qe ce) (j F S g d H _ h (Gw q λk f s p r i t l=>l s p r i (bC.refl ..) _ rfl))
def br{d:Type}(t:af->R Bool)(da db:af->R d):af->R d:=λε=>(t ε).bind λk ε1=>match k with
 |true=>da ε1
 |false=>db ε1
theorem Fk(s:DT X E c m)(u:DE X E a da)(t:DE X E b db):DE X E (.IfExp c a b pos) (br m da db):=λF S p f H Q r q=>by
 refine cz (Mw oh ce ce) (s F S p f H _ r ((Ok.bind q).imp λk d l i j g v h=>?_));cases k with
 |true=>exact oj (u l i d f j Q g h)
 |false=>exact nQ (t l i d f j Q g h)
def P1(K:aw)(r:V->Hp->VK->Prop)(f:PV->Option PV):Prop:=∀(F:ae->Prop) (H:Hp) (x:PV) (v:V) (Q:VK) (pv:PV),bg K H F x v->f x=aa pv->(∀w g d,Al F g H d->bg K d g pv w->Q w d)->r v H Q
def d1(f:PV->Option PV)(da:af->R PV):af->R PV:=λε=>(da ε).bind λx d=>aR (f x) d
theorem Oo{r:V->Hp->VK->Prop}{f:PV->Option PV}(z:P1 X.K r f)(A:DE X E a da){F:ae->Prop}{S:Nat->ae->Prop}{j:af}{d:St}{H:Hp}{Q:VK}(u:aP X.K F S j d H)(h:Ok X.K E d F S H (d1 f da j) (λpv _ q _ i=>∀v,bg X.K i q pv v->Q v i)):ig X a d H λx p=>r x p Q:=by
 refine A F S j d H _ u ((Ok.bind h).imp λx s C B p y D g v t=>?_);cases e:f x with
 |none=>rw[e]at g;exact g.elim
 |some pv=>rw[e]at g;exact z C p x v Q pv t e λw q i al l=>g q B i (y.al al) al.grow w l
theorem qM{d:UnaryOp}{r:V->Hp->VK->Prop}{f:PV->Option PV}(j:xM X (unaryOp d) r)(i:P1 X.K r f)(l:DE X E a da):DE X E (.UnaryOp d a pos) (d1 f da):=λF S q p H Q g h=>cz (P3 j ce) (Oo i l g h)
end
def o8(X:Cx)(d:List az):TA:=λb H Q=>Bx (∀a c s,Inv X c b H s->ax (aA X.prog X.w) X.A (spliced (cJ a (aL d X.env))) (AP X c b Q) X.xe s)
def DA(X:Cx)(E:XK)(h:List az)(d:af->R (List PV)):Prop :=
 ∀F S c a H Q,aP X.K F S c a H->Ok X.K E a F S H (d c) (λb _ i _ g=>∀f,Reps X.K g i b f->Q f g)->o8 X h a H Q
section
variable{X:Cx}{E:XK}{a b c e:az}{j:List az}{da db D d:af->R PV}{m:af->R (List PV)}{pos:Pos}
theorem gk{j:List az}:PA X j (o8 X j):=λpos f s _ _ _ I h=>h.run pos f s I
theorem pd{t:TA}(h:PA X j t){f:St}{H:Hp}{Q:List V->Hp->Prop}(q:t f H Q):o8 X j f H Q:=⟨λpos g s I=>h pos g s f H Q I q⟩
def au:af->R (List PV):=λε=>.ok [] ε
def ak(d:af->R PV)(m:af->R (List PV)):af->R (List PV):=λε=>(d ε).bind λx ε1=>(m ε1).bind λxs f=>.ok (x::xs) f
theorem aG:DA X E [] au:=λF S i g H Q f h=>pd lq (h F S H f (bC.refl ..) _ rfl)
theorem MZ(u:DE X E e d)(t:DA X E j m)(s:aL (e::j) X.env=(aj,aQ e X.env)::aL j X.env:=by rfl):DA X E (e::j) (ak d m):=λF S n g H Q q h=>by refine pd (jp ce gk s) (u F S n g H _ q ((Ok.bind h).imp λx f K C I i L z v p=>?_));refine t K C f g I _ i ((Ok.bind z).imp λxs l J B G r A y o w=>?_);exact y J B G r (bC.refl ..) _ ⟨v,o,rfl,p.grow A i.fit,w⟩
theorem aP.more{K:aw}{F N:ae->Prop}{S:Nat->ae->Prop}{p:af}{n:St}{H:Hp}(r:aP K F S p n H)(s:∀b,N b->¬U S b/\∃o,H b=aa o):aP K (λb=>F b\/N b) S p n H:=by
 have mono:∀x v,bg K H F x v->bg K H (λb=>F b\/N b) x v:=bg.mono (λ_ h=>.inl h) (λ_ _ _ q=>q) (λ_ _ q _=>q);have f:∀x v,Reps K H F x v->Reps K H (λb=>F b\/N b) x v:=Reps.mono (λ_ h=>.inl h) (λ_ _ _ q=>q) (λ_ _ q _=>q);refine⟨r.len,λb h=>h.elim (r.ex b) λz=>(s b z).2,λi pv e=>?_,λi t e=>?_,λi b h=>?_,r.dist⟩
 .obtain⟨v,l,g⟩:=r.val i pv e;exact⟨v,l,mono _ _ g⟩
 .obtain⟨v,l,g⟩:=r.own i t e;exact⟨v,l,g.mono mono f λ_ _ _ z=>z⟩
 .obtain⟨l,g,u⟩:=r.foot i b h;exact⟨l,λz=>z.elim g λw=>(s b w).1 ⟨i,h⟩,u⟩
def vD:PO->Option PV
 |.lst xs=>aa (.lst xs)
 |_=>ac
def dF(d:af->R PO):af->R PV:=λε=>(d ε).bind λf ε1=>aR (vD f) ε1
theorem DN.de{d:af->R PO}(h:DN X E e d):DE X E e (dF d):=λF S ε s H Q x q=>by
 unfold dF at q;refine h F S ε s H Q x ?_;cases i:d ε with
 |no=>rw[i]at q;exact q.elim
 |er c u=>rw[i]at q;exact q
 |ok B t=>
  rw[i]at q;intro N l n A g a r G p;cases B with
  |dK f=>exact q.elim
  |lls O=>exact q.elim
  |ins C fs=>exact q.elim
  |dT f=>exact q.elim
  |dN f=>exact q.elim
  |inl C fs y xs=>exact q.elim
  |lst xs=>
   have L:∀b,r b->¬U l b/\∃o,n b=aa o:=λb z=>let ⟨_,_,x3,o,x4,_⟩:=p b z;⟨x3,o,x4⟩
   obtain⟨⟨v,J,I⟩,K⟩:=G;have M:bC (U S) (U l) F (λb=>N b\/r b) H n:=⟨λb z=>.inl (g.fro b z),g.keep,g.there,λb z=>z.elim (g.fnew b) λw=>.inr (.inl (p b w).1),g.onew⟩
   exact q _ l n (A.more L) M _ ⟨a,v,rfl,.inl J,.inr ((K a).mpr rfl),Reps.mono (λ_ z=>.inl z) (λ_ _ _ z=>z) (λ_ _ z _=>z) _ _ I⟩
def cF(xs:List PV):Option PV:=if xs.length<=1000 then aa (.tup xs)else ac
def bY(xs:List PV):Option PO:=if xs.length<=1000 then aa (.lst xs)else ac
def dL{g:Type}(f:List PV->Option g)(m:af->R (List PV)):af->R g:=λε=>(m ε).bind λxs ε1=>aR (f xs) ε1
def PL(K:aw)(r:List V->Hp->VK->Prop)(f:List PV->Option PV):Prop:=∀(F:ae->Prop) (H:Hp) (xs:List PV) (h:List V) (Q:VK) (pv:PV),Reps K H F xs h->f xs=aa pv->(∀w i g,Al F i H g->bg K g i pv w->Q w g)->r h H Q
def mh(K:aw)(r:List V->Hp->VK->Prop)(f:List PV->Option PO):Prop:=∀(F:ae->Prop) (H:Hp) (xs:List PV) (i:List V) (Q:VK) (l:PO),(∀a,F a->∃o,H a=aa o)->Reps K H F xs i->f xs=aa l ->
 (∀a h g n,Al F h H g->eL K g h l a n->(∀b,n b->H b=ac/\¬h b/\∃o,g b=aa o/\cH o)->Q (.ref a) g)->r i H Q
theorem AL{r:List V->Hp->VK->Prop}{f:List PV->Option PV}(y:PL X.K r f)(z:DA X E j m){F:ae->Prop}{S:Nat->ae->Prop}{n:af}{g:St}{H:Hp}{Q:VK}(u:aP X.K F S n g H)(h:Ok X.K E g F S H (dL f m n) (λpv _ q _ l=>∀v,bg X.K l q pv v->Q v l)):o8 X j g H λxs p=>r xs p Q:=by
 refine z F S n g H _ u ((Ok.bind h).imp λxs s C B p x G i t A=>?_);cases e:f xs with
 |none=>rw[e]at i;exact i.elim
 |some pv=>rw[e]at i;exact y C p xs t Q pv A e λw q l al o=>i q B l (x.al al) al.grow w o
theorem iG{O i F l:ae->Prop}{H f:Hp}(g:bC O i F l H f){b:ae}(h:f b=ac):H b=ac:=by
 cases q:H b with
 |none=>rfl
 |some o=>obtain⟨o',e⟩:=g.there b o q;rw[h]at e;cases e
theorem wp{r:List V->Hp->VK->Prop}{f:List PV->Option PO}(L:mh X.K r f)(M:DA X E j m){F:ae->Prop}{S:Nat->ae->Prop}{s:af}{l:St}{H:Hp}{Q:VK}(J:aP X.K F S s l H)(h:Ok X.K E l F S H (dL f m s) (λu _ q W g=>∀a p,eL X.K g q u a p->(∀b,p b->H b=ac/\¬q b/\¬U W b/\∃o,g b=aa o/\cH o)->Q (.ref a) g)):o8 X j l H λxs v=>r xs v Q:=by
 refine M F S s l H _ J ((Ok.bind h).imp λxs A Y T v t O n I N=>?_);cases e:f xs with
 |none=>rw[e]at n;exact n.elim
 |some u=>
  rw[e]at n;refine L Y v xs I Q u t.ex N e λa q g p al K P=>n q T g (t.al al) al.grow a p K λb z=>?_;obtain⟨x,G,o,C,B⟩:=P b z;refine⟨iG O x,G,λ⟨i,w⟩=>?_,o,C,B⟩;obtain⟨_,_,Z,y,_⟩:=t.foot i b w;rw[x]at y;cases y
theorem zZ{n:Nat}(h:n<=1000):n<=bq:=pP (AX h)
theorem L4{K:aw}:PL K (λxs H Q=>xs.length<=bq/\∀p,H p=ac->Q (.ref p) (upd H p (.tup xs))) cF:=λF H xs h Q pv f e q=>by
 unfold cF at e;split at e
 .cases e;refine⟨by rw[f.len];exact zZ (by assumption),λp g=>q _ F _ (Al.new0 g) ⟨p,h,rfl,cI,(Al.new0 g).reps f⟩⟩
 .cases e
theorem vR{K:aw}{F:ae->Prop}{H:Hp}{l:ae}{xs:List PV}{f:List V}(h:H l=ac)(g:Reps K H F xs f):eL K (upd H l (.lst f)) F (.lst xs) l (λb=>b=l):=⟨⟨f,cI,(Al.new0 h).reps g⟩,λb=>Iff.rfl⟩
theorem wn{F:ae->Prop}{H:Hp}{l:ae}{o:HO}(g:H l=ac)(i:∀a,F a->∃o,H a=aa o)(h:cH o):∀b,b=l->H b=ac/\¬F b/\∃f,(upd H l o) b=aa f/\cH f:=λb z=>by
 subst z;exact⟨g,(λw=>by obtain⟨o,q⟩:=i b w;rw[g]at q;cases q),o,cI,h⟩
theorem Qw{K:aw}:mh K (λxs H Q=>xs.length<=bq/\∀p,H p=ac->Q (.ref p) (upd H p (.lst xs))) bY:=λF H xs i Q l h g e q=>by
 unfold bY at e;split at e
 .cases e;exact⟨by rw[g.len];exact zZ (by assumption),λp f=>q p F _ _ (Al.new0 f) (vR f g) (wn f h trivial)⟩
 .cases e
theorem fK{x1}(h:DA X E j m):DE X E (.Tuple j x1 pos) (dL cF m):=λF S i g H Q f q=>cz (Ku gk) (AL L4 h f q)
theorem qy(h:DA X E j m):DN X E (.List j pos) (dL bY m):=λF S i g H Q f q=>cz (QP gk) (wp Qw h f q)
theorem gh(h:DA X E j m):DE X E (.List j pos) (dF (dL bY m)):=(qy h).de
variable{x:Str}{p:Pos}{A T:String}{r:List V->Hp->VK->Prop}{f:List PV->Option PV}{B:List PV->Option PO}
theorem bM(t:eV X (.builtin A) r)(i:PL X.K r f)(n:X.mg x=ac)(h:d9 x=aa (.builtin A))(u:DA X E (e::j) m)(o:Gl X x:=by rfl)(l:x≠"__name__":=by decide)(v:(x==("__debug__":Str))=aj:=by decide)(s:aL (e::j) X.env=(aj,aQ e X.env)::aL j X.env:=by rfl) (w:(cJ pos (aL j X.env)).any (·.1)=aj:=by rfl):DE X E (.Call (.Name x p) (e::j) [] pos) (dL f m):=λF S z y H Q g q=>cz (rh t o n h gk l v s w) (AL i u g q)
theorem zh(t:eV X (.builtin A) r)(i:mh X.K r B)(n:X.mg x=ac)(h:d9 x=aa (.builtin A))(u:DA X E (e::j) m)(o:Gl X x:=by rfl)(l:x≠"__name__":=by decide)(v:(x==("__debug__":Str))=aj:=by decide)(s:aL (e::j) X.env=(aj,aQ e X.env)::aL j X.env:=by rfl) (w:(cJ pos (aL j X.env)).any (·.1)=aj:=by rfl):DN X E (.Call (.Name x p) (e::j) [] pos) (dL B m):=λF S z y H Q g q=>cz (rh t o n h gk l v s w) (wp i u g q)
theorem xF(t:eV X (.type T) r)(i:PL X.K r f)(n:X.mg x=ac)(h:d9 x=aa (.type T))(u:DA X E (e::j) m)(o:Gl X x:=by rfl)(l:x≠"__name__":=by decide)(v:(x==("__debug__":Str))=aj:=by decide)(s:aL (e::j) X.env=(aj,aQ e X.env)::aL j X.env:=by rfl) (w:(cJ pos (aL j X.env)).any (·.1)=aj:=by rfl):DE X E (.Call (.Name x p) (e::j) [] pos) (dL f m):=λF S z y H Q g q=>cz (A3 t o n h gk l v s w) (AL i u g q)
theorem v_(t:eV X (.type T) r)(i:mh X.K r B)(n:X.mg x=ac)(h:d9 x=aa (.type T))(u:DA X E (e::j) m)(o:Gl X x:=by rfl)(l:x≠"__name__":=by decide)(v:(x==("__debug__":Str))=aj:=by decide)(s:aL (e::j) X.env=(aj,aQ e X.env)::aL j X.env:=by rfl) (w:(cJ pos (aL j X.env)).any (·.1)=aj:=by rfl):DN X E (.Call (.Name x p) (e::j) [] pos) (dL B m):=λF S z y H Q g q=>cz (A3 t o n h gk l v s w) (wp i u g q)
theorem eh{r:R2}{f:PV->PV->Option PV}(l:lW X r)(n:P2 X.K r f)(q:DE X E a da)(o:DE X E b db)(i:Aw b:=by exact λ_ _=>rfl):DE X E (.Subscript a b pos) (d2 f da db):=λF S t s H Q g h=>cz (Mi l ce ce i) (xg n q o g h)
def AI(X:Cx)(e:Option az):TO:=λg H Q=>Bx (∀h s,Inv X h g H s->ax (aA X.prog X.w) X.A (evalPart e X.env) (λu l=>∃o i,Inv X h g i l/\jz u o/\Q o i) X.xe s)
theorem yV{o:Option az}:L2.PO X o (AI X o):=λg s _ _ _ I h=>h.run g s I
theorem GR{o:Option az}{t:TO}(h:L2.PO X o t){g:St}{H:Hp}{Q:Option Int->Hp->Prop}(q:t g H Q):AI X o g H Q:=⟨λi s I=>h i s g H Q I q⟩
def DO(X:Cx)(E:XK)(e:Option az)(d:af->R (Option Int)):Prop:=∀F S h g H Q,aP X.K F S h g H->Ok X.K E g F S H (d h) (λo _ _ _ i=>Q o i)->AI X e g H Q
def b8:af->R (Option Int):=λε=>.ok ac ε
def pI:PV->Option Int
 |.int i=>aa i
 |_=>ac
def bA(d:af->R PV):af->R (Option Int):=λε=>(d ε).bind λx ε1=>aR ((pI x).map aa) ε1
theorem io:DO X E ac b8:=λF S l i H Q g h=>GR Mb (h F S H g (bC.refl ..))
theorem eX(u:DE X E e d):DO X E (aa e) (bA d):=λF S o l H Q s h=>by
 refine GR (NW ce) (u F S o l H _ s ((Ok.bind h).imp λx n z w y t C g v q=>?_));cases x <;> first|exact(show False from g).elim|skip
 rename_i i;exact⟨i,q,g z w y t (bC.refl ..)⟩
def bN{i:Type}(f:PV->Option Int->Option Int->Option i)(d:af->R PV)(o n:af->R (Option Int)):af->R i:=λε=>(d ε).bind λx ε1=>(o ε1).bind λl h=>(n h).bind λu g=>aR (f x l u) g
def At(K:aw)(r:V->Option Int->Option Int->Hp->VK->Prop)(f:PV->Option Int->Option Int->Option PV):Prop:=∀(F:ae->Prop) (H:Hp) (x:PV) (h i:Option Int) (v:V) (Q:VK) (pv:PV),bg K H F x v->f x h i=aa pv->(∀w l g,Al F l H g->bg K g l pv w->Q w g)->r v h i H Q
theorem gn{r:V->Option Int->Option Int->Hp->VK->Prop}{f:PV->Option Int->Option Int->Option PV}{z C:Option az}{I G:af->R (Option Int)}{O:Pos}(W:kn X r)(Y:At X.K r f)(he:DE X E e d)(Z:DO X E z I)(P:DO X E C G):DE X E (.Subscript e (.Slice z C ac O) pos) (bN f d I G):=λF S K i H Q M h=>by
 refine cz (M7 W ce yV yV) (he F S K i H _ M ((Ok.bind h).imp λx o F1 S1 H1 y g1 h1 v L=>?_));refine Z F1 S1 o i H1 _ y ((Ok.bind h1).imp λl n F2 S2 H2 t g2 h2=>?_);refine P F2 S2 n i H2 _ t ((Ok.bind h2).imp λu J F3 S3 H3 N g3 g=>?_);cases s:f x l u with
 |none=>rw[s]at g;exact g.elim
 |some pv=>rw[s]at g;exact Y F3 H3 x l u v Q pv ((L.grow g2 y.fit).grow g3 t.fit) s λw F' H' al q=>g F' S3 H' (N.al al) al.grow w q
end
inductive aJ where
 |next|ret (s:Slot)|brk|cont
def fU(K:aw)(H:Hp)(F:ae->Prop)(s:Slot)(v:V)(c:ae->Prop):Prop:=match s with
 |.val pv=>bg K H F pv v/\∀b,¬c b
 |.own d=>∃a,v=.ref a/\eL K H F d a c
 |.none=>False
def iD(b:List Nat)(c a:St):Prop:=∀i∈b,a[i]?=c[i]?
theorem iD.refl(a:List Nat)(b:St):iD a b b:=λ_ _=>rfl
theorem iD.trans{c:List Nat}{g f d:St}(a:iD c g f)(b:iD c f d):iD c g d:=λi h=>(b i h).trans (a i h)
theorem iD.set{a:List Nat}{b:St}{i:Nat}{x:Option V}(h:i∉a):iD a b (b.set i x):=λj c=>by rw[eP (by rintro rfl;exact h c)]
def xk(f:ae->Prop)(c:Nat->ae->Prop)(d:Hp)(a:ae->Prop):Prop:=∀b,a b->¬f b/\¬U c b/\∃o,d b=aa o/\cH o
def i9(K:aw)(E:XK)(i:List Nat)(j:St)(F:ae->Prop)(S:Nat->ae->Prop)(H:Hp)(r:R aJ)(D:lr):Prop:=match r with
 |.ok .next f=>∀g h a d,aP K g h f a d->bC (U S) (U h) F g H d->iD i j a->D.nx a d
 |.ok .brk f=>∀g h a d,aP K g h f a d->bC (U S) (U h) F g H d->iD i j a->D.bk a d
 |.ok .cont f=>∀g h a d,aP K g h f a d->bC (U S) (U h) F g H d->iD i j a->D.ct a d
 |.ok (.ret s) f=>∀v g h a d l,aP K g h f a d->bC (U S) (λb=>U h b\/l b) F g H d->iD i j a->fU K d g s v l->xk g h d l->D.rt v d
 |.er c f=>∀x g h a d,aP K g h f a d->bC (U S) (U h) F g H d->iD i j a->E c x d
 |.no=>False
def DS(X:Cx)(E:XK)(b:List Nat)(f:aT)(d:af->R aJ):Prop:=∀F S c a H D,aP X.K F S c a H->i9 X.K E b a F S H (d c) D->wpS X f D a H
def f9(X:Cx)(E:XK)(b:List Nat)(f:List aT)(d:af->R aJ):Prop:=∀F S c a H D,aP X.K F S c a H->i9 X.K E b a F S H (d c) D->pj X f D a H
section
variable{K:aw}{E:XK}{b:List Nat}{d i:St}{F m:ae->Prop}{S j:Nat->ae->Prop}{H l:Hp}{D:lr}
theorem i9.from{r:R aJ}(h:i9 K E b d F S H r D)(g:bC (U S) (U j) F m H l)(p:iD b d i):i9 K E b i m j l r D:=by
 cases r with
 |no=>exact h
 |er c u=>exact λx t o a q n g' p'=>h x t o a q n (g.trans g') (p.trans p')
 |ok f u=>
  cases f with
  |next=>exact λt o a q n g' p'=>h t o a q n (g.trans g') (p.trans p')
  |brk=>exact λt o a q n g' p'=>h t o a q n (g.trans g') (p.trans p')
  |cont=>exact λt o a q n g' p'=>h t o a q n (g.trans g') (p.trans p')
  |ret s=>exact λv t o a q w n g' p'=>h v t o a q w n (g.trans g') (p.trans p')
theorem i9.bindE{o:Type}{r:R o}{k:o->af->R aJ}(h:i9 K E b d F S H (r.bind k) D):Ok K E d F S H r (λa f m j l=>i9 K E b d m j l (k a f) D):=by
 cases r with
 |no=>exact h
 |er c g=>exact λx t q s p n=>h x t q d s p n (iD.refl _ _)
 |ok a g=>exact λt q s p n=>h.from n (iD.refl _ _)
end
section
variable{X:Cx}{E:XK}{pin:List Nat}{l:aT}{rest:List aT}{d d1 d2:af->R aJ}{e:az}{de:af->R PV}{pos:Pos}
def bH:af->R aJ:=λε=>.ok .next ε
theorem dE:f9 X E pin [] bH:=λF S c a H D b h=>AZ Kf (h F S a H b (bC.refl ..) (iD.refl _ _))
def aF(d1 d2:af->R aJ):af->R aJ:=λε=>match d1 ε with
 |.ok .next ε1=>d2 ε1
 |r=>r
theorem ba(t:DS X E pin l d1)(q:f9 X E pin rest d2):f9 X E pin (l::rest) (aF d1 d2):=λF S i m H D n h=>by
 refine AZ (IZ Ef tL) (t F S i m H {D with nx:=pj X rest D} n ?_);unfold aF at h;split at h
 .rename_i g v;rw[v];exact λy w b x o u p=>q y w g b x D o (h.from u p)
 .rename_i r j;generalize d1 i=r1 at h j;cases r1 with
  |no=>exact h
  |er c a=>exact h
  |ok f a=>
   cases f with
   |next=>exact absurd rfl (j a)
   |brk=>exact h
   |cont=>exact h
   |ret s=>exact h
theorem bd(f:DS X E pin l d1):f9 X E pin [l] d1:=λF S b a H D c h=>AZ (J_ Ef) (f F S b a H D c h)
def xw(f:aJ):af->R aJ:=λε=>.ok f ε
def GG(d:af->R PV):af->R aJ:=λε=>(d ε).bind λ_ a=>.ok .next a
def bc(d:af->R PV):af->R aJ:=λε=>(d ε).bind λx a=>.ok (.ret (.val x)) a
theorem bC.cup{O c F i:ae->Prop}{H f:Hp}(g:bC O c F i H f):bC O (λb=>c b\/False) F i H f:=⟨g.fro,g.keep,g.there,g.fnew,λa h=>h.elim (g.onew a) eT⟩
theorem cB(j:DE X E e de):DS X E pin (.Return (aa e) pos) (bc de):=λF S c a H D g h=>i7 (vE ce) (j F S c a H _ g (h.bindE.imp λx b p n o i q m v f=>m v p n a o (λ_=>False) i (bC.refl ..).cup (iD.refl _ _) ⟨f,λ_ z=>z⟩ λ_ z=>z.elim))
theorem QT:DS X E pin (.Return ac pos) (xw (.ret (.val .non))):=λF S c a H D b h=>i7 Rj (h _ F S a H (λ_=>False) b (bC.refl ..).cup (iD.refl _ _) ⟨rfl,λ_ z=>z⟩ λ_ z=>z.elim)
def nG(d:af->R PO):af->R aJ:=λε=>(d ε).bind λx a=>.ok (.ret (.own x)) a
theorem EL{dn:af->R PO}(t:DN X E e dn):DS X E pin (.Return (aa e) pos) (nG dn):=λF S j g H D p h=>by
 refine i7 (vE ce) (t F S j g H _ p ?_);unfold nG at h;cases i:dn j with
 |no=>rw[i]at h;exact h.elim
 |er c o=>rw[i]at h;exact λx I A C r u=>h x I A g C r u (iD.refl _ _)
 |ok J n=>rw[i]at h;intro G y B q f a v s m;exact h _ G y g B v q ⟨f.fro,f.keep,f.there,f.fnew,λb z=>z.elim (f.onew b) λw=>.inr (m b w).1⟩ (iD.refl _ _) ⟨a,rfl,s⟩ λb z=>let ⟨_,x2,x3,x4⟩:=m b z;⟨x2,x3,x4⟩
def qS(i:Nat):af->R aJ:=λa=>match a[i]? with
 |some (.own b)=>.ok (.ret (.own b)) (a.set i .none)
 |_=>.no
theorem aP.drop{K:aw}{F:ae->Prop}{S:Nat->ae->Prop}{ε:af}{n:St}{H:Hp}(r:aP K F S ε n H)(i:Nat):aP K F (λj b=>S j b/\j≠i) (ε.set i .none) n H:=by
 have no:∀{j s},(ε.set i .none)[j]?=aa s->s≠.none->j≠i/\ε[j]?=aa s:=λ{j s} e q=>by
  by_cases c:i=j
  .subst c;by_cases t:i<ε.length
   .rw[gq t]at e;exact absurd (eG e).symm q
   .rw[ng (by rw[iV];lia)]at e;cases e
  .rw[eP c]at e;exact⟨eO c,e⟩
 refine⟨by rw[iV];exact r.len,r.ex,λj pv e=>r.val j pv (no e (by intro z;cases z)).2,λj f e=>?_,λj b h=>?_,λj k b m g=>r.dist j k b m.1 g.1⟩
 .obtain⟨c,e⟩:=no e (by intro z;cases z);obtain⟨a,m,g⟩:=r.own j f e;have u:(λb=>S j b/\j≠i)=S j:=by funext b;simp[c]
  exact⟨a,m,by rw[u];exact g⟩
 .obtain⟨⟨f,p⟩,o⟩:=r.foot j b h.1;exact⟨⟨f,by rw[eP (eO h.2)];exact p⟩,o⟩
theorem FE(i:Nat){x:Str}{p:Pos}(s:X.N[i]?=aa x:=by rfl)(n:f_ X.env.scope x:=by eq_refl)(r:(x==("__debug__":Str))=aj:=by decide)(u:(x==("__classdict__":Str))=aj:=by decide):DS X E pin (.Return (aa (.Name x p)) pos) (qS i):=λF S v f H D c h=>by
 unfold qS at h;split at h
 .rename_i g e;obtain⟨a,t,m⟩:=c.own i g e;refine i7 (vE (ij s n r u)) ⟨_,t,h _ F (λj b=>S j b/\j≠i) f H (S i) (c.drop i) ⟨λ_ z=>z,λ_ _ z _=>z,λ_ o z=>⟨o,z⟩,λ_ z=>.inl z,λb z=>?_⟩ (iD.refl _ _) ⟨a,rfl,m⟩ λb z=>?_⟩
  .rcases z with⟨j,z,_⟩|z
   .exact .inl ⟨j,z⟩
   .exact .inl ⟨i,z⟩
  .exact⟨(c.foot i b z).2.1,λ⟨j,w,q⟩=>q (c.dist j i b w z),(c.foot i b z).2.2⟩
 .exact h.elim
theorem aP.set{K:aw}{F:ae->Prop}{S:Nat->ae->Prop}{f:af}{m:St}{H:Hp}{i:Nat}{pv:PV}{v:V}(r:aP K F S f m H)(h:bg K H F pv v):aP K F (λj b=>S j b/\j≠i) (f.set i (.val pv)) (m.set i (aa v)) H:=by
 have s:=r.drop i;have len:(f.set i (.val pv)).length=(m.set i (aa v)).length:=by rw[iV,iV];exact r.len
 refine⟨len,r.ex,λj p e=>?_,λj n e=>?_,λj b h=>?_,s.dist⟩
 .by_cases c:i=j
  .subst c;have g:i<f.length:=by have:=(dW.mp e).1;rw[iV]at this;exact this
   rw[gq g]at e;cases e;exact⟨v,gq (by rw[<-r.len];exact g),h⟩
  .rw[eP c]at e;obtain⟨w,q,o⟩:=r.val j p e;exact⟨w,by rw[eP c];exact q,o⟩
 .have c:i≠j:=by
   rintro rfl;have g:i<f.length:=by have:=(dW.mp e).1;rw[iV]at this;exact this
   rw[gq g]at e;cases e
  rw[eP c]at e;obtain⟨a,q,o⟩:=r.own j n e;have x:(λb=>S j b/\j≠i)=S j:=by funext b;simp[eO c]
  exact⟨a,by rw[eP c];exact q,by rw[x];exact o⟩
 .obtain⟨⟨n,t⟩,u⟩:=s.foot j b h;refine⟨⟨n,?_⟩,u⟩;rw[eP (eO h.2)]at t ⊢;exact t
theorem bC.less{S:Nat->ae->Prop}{F:ae->Prop}{H:Hp}(i:Nat):bC (U S) (U λj b=>S j b/\j≠i) F F H H:=⟨λ_ z=>z,λ_ _ z _=>z,λ_ o z=>⟨o,z⟩,λ_ z=>.inl z,λb ⟨j,z⟩=>.inl ⟨j,z.1⟩⟩
theorem aP.setOwn{K:aw}{F:ae->Prop}{S:Nat->ae->Prop}{q:af}{v:St}{H:Hp}{i:Nat}{s:PO}{a:ae}{n:ae->Prop}(r:aP K F S q v H)(o:i<q.length)(h:eL K H F s a n)(t:xk F S H n):aP K F (λj b=>(S j b/\j≠i)\/(j=i/\n b)) (q.set i (.own s)) (v.set i (aa (.ref a))) H:=by
 have z:=r.drop i;refine⟨by rw[iV,iV];exact r.len,r.ex,λj p e=>?_,λj g e=>?_,λj b h=>?_,λj k b f c=>?_⟩
 .have m:i≠j:=by rintro rfl;rw[gq o]at e;cases e
  rw[eP m]at e;obtain⟨w,f,c⟩:=r.val j p e;exact⟨w,by rw[eP m];exact f,c⟩
 .by_cases m:i=j
  .subst m;rw[gq o]at e;cases e;have u:(λb=>(S i b/\i≠i)\/(i=i/\n b))=n:=by funext b;simp
   exact⟨a,gq (by rw[<-r.len];exact o),by rw[u];exact h⟩
  .rw[eP m]at e;obtain⟨B,f,c⟩:=r.own j g e;have u:(λb=>(S j b/\j≠i)\/(j=i/\n b))=S j:=by funext b;simp[eO m]
   exact⟨B,by rw[eP m];exact f,by rw[u];exact c⟩
 .rcases h with h|⟨rfl,h⟩
  .obtain⟨⟨g,x⟩,A⟩:=z.foot j b h;refine⟨⟨g,?_⟩,A⟩;rw[eP (eO h.2)]at x ⊢;exact x
  .obtain⟨x1,C,y⟩:=t b h;exact⟨⟨s,gq o⟩,x1,y⟩
 .rcases f with f|⟨rfl,f⟩ <;> rcases c with c|⟨rfl,c⟩
  .exact r.dist j k b f.1 c.1
  .exact absurd ⟨j,f.1⟩ (t b c).2.1
  .exact absurd ⟨k,c.1⟩ (t b f).2.1
  .rfl
def bz(i:Nat)(d:af->R PV):af->R aJ:=λε=>(d ε).bind λx ε1=>.ok .next (ε1.set i (.val x))
theorem c8(i:Nat){x:Str}{p:Pos}(t:X.N.Nodup)(s:DE X E e de)(o:i∉pin:=by decide)(q:X.N[i]?=aa x:=by rfl)(m:Loc X.env.scope x:=by first|exact Or.inl rfl|exact Or.inr rfl)(n:lJ e (aa (.Name x p)) pos.line X.env=pure aj:=by rfl)(r:X.fn x=ah\/X.env.scope.names.lookup x=aa .local:=by first|exact .inl rfl|exact .inr rfl):DS X E pin (.Assign [.Name x p] e pos) (bz i de):=λF S c a H D g h=>i7 (GM t q m ce n r) (s F S c a H _ g (h.bindE.imp λx b y A w j z u v f=>u y _ _ w (j.set f) (bC.less i) (iD.set o)))
def i8(i:Nat)(d:af->R PO):af->R aJ:=λε=>(d ε).bind λx a=>if i<a.length then .ok .next (a.set i (.own x))else .no
theorem pC(i:Nat){x:Str}{p:Pos}{dn:af->R PO}(J:X.N.Nodup)(I:DN X E e dn)(B:i∉pin:=by decide)(C:X.N[i]?=aa x:=by rfl)(y:Loc X.env.scope x:=by first|exact Or.inl rfl|exact Or.inr rfl)(A:lJ e (aa (.Name x p)) pos.line X.env=pure aj:=by rfl)(G:X.fn x=ah\/X.env.scope.names.lookup x=aa .local:=by first|exact .inl rfl|exact .inr rfl):DS X E pin (.Assign [.Name x p] e pos) (i8 i dn):=λF S q o H D t h=>by
 refine i7 (GM J C y ce A G) (I F S q o H _ t ?_);unfold i8 at h;cases n:dn q with
 |no=>rw[n]at h;exact h.elim
 |er c s=>rw[n]at h;exact λx P L N v K=>h x P L o N v K (iD.refl _ _)
 |ok Q g=>
  rw[n]at h;simp only[R.bind_ok]at h;intro O W M u f a T w r;by_cases m:i<g.length
  .rw[if_pos m]at h;refine h O _ _ M (u.setOwn m w λb z=>(r b z).2) ⟨f.fro,f.keep,f.there,f.fnew,λb ⟨j,z⟩=>?_⟩ (iD.set B);rcases z with z|⟨_,z⟩
   .exact f.onew b ⟨j,z.1⟩
   .exact .inr (r b z).1
  .rw[if_neg m]at h;exact h.elim
theorem dJ{c:az}{a b:List aT}{t:af->R Bool}(r:DT X E c t)(u:f9 X E pin a d1)(s:f9 X E pin b d2):DS X E pin (.If c a b pos) (br t d1 d2):=λF S p g H D q h=>by
 refine i7 (Q0 oh tL tL) (r F S p g H _ q (h.bindE.imp λk f o m n i v j=>?_));cases k with
 |true=>exact oj (u o m f g n D i j)
 |false=>exact nQ (s o m f g n D i j)
def mv:af->R aJ:=λ_=>.no
theorem oB{a:List aT}:f9 X E pin a mv:=λ_ _ _ _ _ _ _ h=>h.elim
def eu(r:R aJ):R aJ:=match r with
 |.er _ _=>.no
 |r=>r
theorem mj(h:DS X.nox E0 pin l d):DS X E pin l (λa=>eu (d a)):=λF S a b H D i q=>Bx.mk λm s I=>by
 have q:i9 X.K E pin b F S H (eu (d a)) D:=q;have j:i9 X.K E0 pin b F S H (d a) D:=by
  cases e:d a with
  |no=>rw[e]at q;exact q
  |er c g=>rw[e]at q;exact q.elim
  |ok f g=>rw[e]at q;cases f <;> exact q
 exact dw ((h F S a b H D i j).run m s (I.wish _)) (λ_ _ z=>z.unwish) λ_ _ z=>z.elim
def oF(X:Cx)(f a:az):TI:=λb H h=>Bx (∀c s,Inv X c b H s->ax (aA X.prog X.w) X.A (aQ a X.env) (λv g=>ax (aA X.prog X.w) X.A (oM v) (vt X c b f h) X.xe g) X.xe s)
theorem BG{b a:az}:PI X b a (oF X b a):=λc s _ _ _ I h=>h.run c s I
theorem Eg{f a:az}{t:TI}(h:PI X f a t){b:St}{H:Hp}{c:It->Hp->Prop}(q:t b H c):oF X f a b H c:=⟨λg s I=>h g s b H c I q⟩
def DI(X:Cx)(E:XK)(q a:az)(d:af->R (List PV)):Prop:=∀F S m c H n,aP X.K F S m c H ->
 Ok X.K E c F S H (d m) (λg _ p r i=>∀J f o,Reps X.K i p g f->f.length<=bq->Walk J f o->(∀h j b,bC (U r) (U h) p j i b->o b)->n J i)->oF X q a c H n
def gF(i:Nat)(db:af->R aJ):List PV->af->R aJ
 |[],b=>.ok .next b
 |x::xs,b=>match db (b.set i (.val x))with
  |.ok .next a=>gF i db xs a
  |.ok .cont a=>gF i db xs a
  |.ok .brk a=>.ok .next a
  |r=>r
def dm(i:Nat)(a:af->R (List PV))(db:af->R aJ):af->R aJ:=λε=>(a ε).bind λxs ε1=>gF i db xs ε1
theorem kj(i:Nat){x:Str}{p:Pos}{o:az}{r:List aT}{di:af->R (List PV)}{C:af->R aJ}(O:PassesOwn (aA X.prog X.w) X.A X.env X.xe)(hc:X.calm=ah)(hN:X.N.Nodup)(hi:DI X E (.Name x p) o di)(hb:f9 X E pin r C)(hp:i∉pin:=by decide) (A:X.N[i]?=aa x:=by rfl) (P:Loc X.env.scope x:=by first|exact Or.inl rfl|exact Or.inr rfl) (hs:∀x,rn o X.env x=pure x:=by intro _;rfl)(hf:X.fn x=ah\/X.env.scope.names.lookup x=aa .local:=by first|exact .inl rfl|exact .inr rfl):DS X E pin (.For (.Name x p) o r [] pos) (dm i di C):=λF S ε σ H D rl h=>by
 refine i7 (M9 O hc BG (xP hN A P hf) tL hs) (hi F S ε σ H _ rl (h.bindE.imp λxs I F1 S1 H1 Z g1 h1 J vs RR Y hz hw y=>?_));refine O8 hw (λk a n=>∃t u m,aP X.K t u m a n/\bC (U S1) (U u) F1 t H1 n/\i9 X.K E pin a t u n (gF i C (xs.drop k) m) D) ⟨F1,S1,I,Z,bC.refl ..,h1⟩ (λk a n _ ⟨t,u,m,_,g,_⟩=>y u t n g) ?_ ?_
 .rintro k v a n hv ⟨t,u,m,M,B,q⟩;obtain⟨x,A,rx⟩:=Y.back hv;have hk:k<xs.length:=(dW.mp A).1;have ed:xs.drop k=x::xs.drop (k+1):=by rw[HQ hk];congr 1;exact(dW.mp A).2
  rw[ed]at q;have K:=rx.grow B Z.fit;have r2:=M.set (i:=i) K;have Q:bC (U u) (U λj b=>u j b/\j≠i) t t n n:=bC.less i;show pj X r _ (a.set i (aa v)) n;refine hb t _ _ _ n _ r2 ?_;unfold gF at q;have q:=q.from Q (iD.set (x:=aa v) hp);cases e:C (m.set i (.val x))with
  |no=>rw[e]at q;exact q
  |er c w=>rw[e]at q;exact q
  |ok f w=>
   rw[e]at q;cases f with
   |next=>exact λW T G H3 L z N=>⟨W,T,w,L,(B.trans Q).trans z,q.from z N⟩
   |cont=>exact λW T G H3 L z N=>⟨W,T,w,L,(B.trans Q).trans z,q.from z N⟩
   |brk=>exact q
   |ret s=>exact q
 .rintro a n ⟨t,u,m,M,B,q⟩;have P:vs.length=xs.length:=Y.len;rw[P,HR]at q;exact q t u a n M (bC.refl ..) (iD.refl _ _)
end
def wY(K:aw)(E:XK)(i:List V)(F:ae->Prop)(S:Nat->ae->Prop)(H:Hp)(r:R Slot)(Q:VK):Prop:=match r with
 |.ok s h=>∀v d f a g,aP K d f h (i.map aa) a->bC (U S) (λb=>U f b\/g b) F d H a->fU K a d s v g->xk d f a g->(∀b,g b->H b=ac)->Q v a
 |.er c h=>∀x d f a,aP K d f h (i.map aa) a->bC (U S) (U f) F d H a->E c x a
 |.no=>False
def bi(K:aw)(g:af->R Slot):Sp:=λvs H Q E=>∃F S a,aP K F S a (vs.map aa) H/\wY K E vs F S H (g a) Q
structure b_(CX:eY)(P:bb)(w:aS)(K:aw)(mg:Str->Option ai)(base:aD)(x:Str)(k:Nat)(ps:List Str)(sp:Sp):Prop where
 ex:∃f fd,mg x=aa (.ref f)/\fR P w K mg base CX k f fd ps sp/\Binds K fd ps []/\iS K (.ref f)=ah
def back:af->af->Option af
 |[],_=>aa []
 |.own _::a,.own c::b=>(back a b).map (.own c::·)
 |.own _::_,_=>ac
 |s::a,_::b=>(back a b).map (s::·)
 |_::_,[]=>ac
theorem wj:∀{a c b:af},back a c=aa b->b.length=a.length/\∀(i:Nat) (s:Slot),b[i]?=aa s->(∃g f,a[i]?=aa (.own g)/\c[i]?=aa (.own f)/\s=.own f)\/(a[i]?=aa s/\∀g,s≠.own g)
 |[],_,b,h=>by cases h;exact⟨rfl,λi s e=>by simp at e⟩
 |.own g::a,.own f::c,b,h=>by
  unfold back at h;cases e:back a c with
  |none=>rw[e]at h;cases h
  |some r=>
   rw[e]at h;cases h;obtain⟨l,q⟩:=wj e;refine⟨by simp[l],λi s d=>?_⟩;cases i with
   |zero=>simp at d;subst d;exact .inl ⟨g,f,rfl,rfl,rfl⟩
   |succ i=>simpa using q i s (by simpa using d)
 |.own g::a,.none::c,b,h=>by cases h
 |.own g::a,.val _::c,b,h=>by cases h
 |.own g::a,[],b,h=>by cases h
 |.none::a,[],b,h=>by cases h
 |.val _::a,[],b,h=>by cases h
 |.none::a,x::c,b,h=>by
  have h:(back a c).map (Slot.none::·)=aa b:=by unfold back at h;cases x <;> exact h
  cases e:back a c with
  |none=>rw[e]at h;cases h
  |some r=>
   rw[e]at h;cases h;obtain⟨l,q⟩:=wj e;refine⟨by simp[l],λi s d=>?_⟩;cases i with
   |zero=>simp at d;subst d;exact .inr ⟨rfl,λ_ z=>by cases z⟩
   |succ i=>simpa using q i s (by simpa using d)
 |.val pv::a,x::c,b,h=>by
  have h:(back a c).map (Slot.val pv::·)=aa b:=by unfold back at h;cases x <;> exact h
  cases e:back a c with
  |none=>rw[e]at h;cases h
  |some r=>
   rw[e]at h;cases h;obtain⟨l,q⟩:=wj e;refine⟨by simp[l],λi s d=>?_⟩;cases i with
   |zero=>simp at d;subst d;exact .inr ⟨rfl,λ_ z=>by cases z⟩
   |succ i=>simpa using q i s (by simpa using d)
def bj(n:Nat)(d:af->R aJ):af->R Slot:=λf=>match d (f++a8 n .none)with
 |.ok (.ret r) a=>(aR (back f a) []).bind λb _=>.ok r b
 |.ok .next a=>(aR (back f a) []).bind λb _=>.ok (.val .non) b
 |.er c a=>(aR (back f a) []).bind λb _=>.er c b
 |_=>.no
section
variable{K:aw}{F u:ae->Prop}{S o:Nat->ae->Prop}{c l m:af}{f:St}{H t:Hp}{d:List V}
theorem aP.start(r:aP K F S c (d.map aa) H)(n:Nat):aP K F S (c++a8 n .none) (d.map aa++a8 n ac) H:=by
 have x:c.length=(d.map aa).length:=r.len;have no:∀{j:Nat}{s:Slot},(c++a8 n Slot.none)[j]?=aa s->s≠.none->c[j]?=aa s:=λ{j s} e w=>by
  by_cases y:j<c.length
  .rw[iy y]at e;exact e
  .rw[mT ∅,List.getElem?_replicate]at e;split at e
   .exact absurd (eG e).symm w
   .cases e
 have up:∀{j:Nat}{v:Option V},(d.map aa)[j]?=aa v->(d.map aa++a8 n ac)[j]?=aa v:=λ{j v} e=>by rw[iy (dW.mp e).1];exact e
 refine⟨by simp[x],r.ex,λj pv e=>?_,λj a e=>?_,λj b h=>?_,r.dist⟩
 .obtain⟨v,i,g⟩:=r.val j pv (no e (by intro z;cases z));exact⟨v,up i,g⟩
 .obtain⟨v,i,g⟩:=r.own j a (no e (by intro z;cases z));exact⟨v,up i,g⟩
 .obtain⟨⟨a,q⟩,p⟩:=r.foot j b h;exact⟨⟨a,by rw[iy (dW.mp q).1];exact q⟩,p⟩
theorem Ek{i:PO}{a:ae}{n:ae->Prop}(h:eL K H F i a n)(j:iI i=ah):∀b,n b↔b=a:=by
 cases i with
 |lst xs=>exact h.2
 |dK g=>exact h.2
 |lls p=>cases j
 |ins C fs=>exact h.2
 |dT g=>exact h.2
 |dN g=>exact h.2
 |inl C fs y xs=>cases j
theorem Mc{g:PO}{a:ae}{i:ae->Prop}(h:eL K H F g a i):i a:=by
 cases g with
 |lst xs=>exact(h.2 a).mpr rfl
 |dK b=>exact(h.2 a).mpr rfl
 |lls j=>obtain⟨n,_,_,_,_,w⟩:=h;exact(w a).mpr (.inl rfl)
 |ins C fs=>exact(h.2 a).mpr rfl
 |dT b=>exact(h.2 a).mpr rfl
 |dN b=>exact(h.2 a).mpr rfl
 |inl C fs y xs=>obtain⟨_,_,_,_,_,_,_,_,_,_,w⟩:=h;exact(w a).mpr (.inl rfl)
theorem aP.back{X:ae->Prop}{C:List Nat}{n:Nat}(B:aP K F S c (d.map aa) H)(r:aP K u o l f t)(g:bC (U S) X F u H t)(p:iD C (d.map aa++a8 n ac) f)(P:∀(i:Nat) (s:PO),c[i]?=aa (.own s)->i∈C)(Q:back c l=aa m):∃A,aP K u A m (d.map aa) t/\(∀b,U A b->U o b)/\((∀(i:Nat) (s:PO),c[i]?=aa (.own s)->iI s=ah)->∀b,U S b->U A b):=by
 obtain⟨L,E⟩:=wj Q;have inj:∀(i:Nat) (s:PO),c[i]?=aa (.own s)->∃a,(d.map aa)[i]?=aa (aa (.ref a))/\f[i]?=aa (aa (.ref a))/\eL K H F s a (S i):=λi s e=>by obtain⟨a,x,y⟩:=B.own i s e;refine⟨a,x,?_,y⟩;rw[p i (P i s e),iy (dW.mp x).1];exact x
 have bk:∀(i:Nat) (s:PO),c[i]?=aa (.own s)->∃w,m[i]?=aa (.own w)/\l[i]?=aa (.own w):=λi s e=>by
  have M:i<m.length:=by rw[L];exact(dW.mp e).1
  rcases E i m[i] (by simp[M])with⟨p1,p2,q1,q2,q3⟩|⟨q1,q2⟩
  .exact⟨p2,by rw[eI M,q3],q2⟩
  .rw[e]at q1;exact absurd (eG q1).symm (q2 s)
 refine⟨λi b=>o i b/\∃s,c[i]?=aa (.own s),⟨by rw[L];exact B.len,r.ex,λi pv e=>?_,λi s e=>?_,λi b h=>?_,λi j b x y=>r.dist i j b x.1 y.1⟩,λb ⟨i,h⟩=>⟨i,h.1⟩,λO b ⟨i,h⟩=>?_⟩
 .rcases E i _ e with⟨_,_,_,_,z⟩|⟨q1,_⟩
  .cases z
  .obtain⟨v,x,y⟩:=B.val i pv q1;exact⟨v,x,y.grow g B.fit⟩
 .rcases E i _ e with⟨p1,p2,q1,q2,q3⟩|⟨_,q2⟩
  .cases q3;obtain⟨a,x,y,N⟩:=inj i p1 q1;obtain⟨W,D,G⟩:=r.own i s q2;rw[y]at D;cases D;refine⟨a,x,?_⟩;have T:(λb=>o i b/\∃s,c[i]?=aa (.own s))=o i:=by funext b;exact propext ⟨λz=>z.1,λz=>⟨z,p1,q1⟩⟩
   rw[T];exact G
  .exact absurd rfl (q2 s)
 .obtain⟨s,q⟩:=h.2;obtain⟨w,J,I⟩:=bk i s q;exact⟨⟨w,J⟩,(r.foot i b h.1).2⟩
 .obtain⟨⟨s,q⟩,_⟩:=B.foot i b h;obtain⟨a,x,y,N⟩:=inj i s q;obtain⟨w,J,I⟩:=bk i s q;obtain⟨W,D,G⟩:=r.own i w I;rw[y]at D;cases D;have e:b=a:=(Ek N (O i s q) b).mp h;exact⟨i,e ▸ Mc G,s,q⟩
end
theorem wV{K:aw}{E:XK}{a:List V}{F:ae->Prop}{S:Nat->ae->Prop}{H:Hp}{r:R Slot}{Q:VK}(h:wY K E a F S H r Q):r≠.no:=λz=>by rw[z]at h;exact h
theorem Df{K:aw}{g:af->R Slot}{m:Nat}(f:∀a,g a≠.no->a.length=m):∀b H Q E,bi K g b H Q E->b.length=m:=λb H Q E ⟨F,S,a,c,ok⟩=>by have:=f a (wV ok);have d:=c.len;rw[c0]at d;lia
theorem GW{X:Cx}{E:XK}{t:List aT}{N P:List Str}{s:List V}{H:Hp}{Q:VK}{n:Nat}{g:af->R Slot}{d:af->R aJ}{y:List Nat}(hn:N.length=P.length+n)(bW:∀a,g a≠.no->a.length=P.length) (Z:∀a,g a≠.no->∀(i:Nat) po,a[i]?=aa (.own po)->i∈y) (Y:∀a p m,g a=.ok p m->(∃pv,p=.val pv)\/∀(i:Nat) po,a[i]?=aa (.own po)->iI po=ah) (hg:∀a,g a≠.no->bj n d a=g a)(hb:f9 X E y t d) (gL:bi X.K g s H Q E):pj X t {nx:=λ_ l=>Q .non l,rt:=Q} (L2.start N s) H:=by
 obtain⟨F,S,a,K,ok⟩:=gL;have hl:=bW a (wV ok);have h2:=K.len;rw[c0]at h2;have es:L2.start N s=s.map aa++a8 n ac:=by unfold L2.start;rw[show N.length-s.length=n by lia]
 rw[es];refine hb F S _ _ H _ (K.start n) ?_;have W:=Z a (wV ok);have O:=hg a (wV ok);have J:=Y a;rw[<-O]at ok J;unfold bj at ok J;generalize d (a++a8 n .none)=r at ok J ⊢;cases r with
 |no=>exact ok
 |er c h=>
  intro x q B j l C f D;have ok:wY X.K E s F S H ((aR (back a h) []).bind λm _=>.er c m) Q:=ok;cases e:back a h with
  |none=>rw[e]at ok;exact ok.elim
  |some m=>rw[e]at ok;obtain⟨A,u,o,_⟩:=K.back C f D W e;exact ok x q A l u ⟨f.fro,f.keep,f.there,f.fnew,λb z=>f.onew b (o b z)⟩
 |ok fl h=>
  have G:∀(p:Slot),(∀m,back a h=aa m->(∃pv,p=.val pv)\/∀(i:Nat) po,a[i]?=aa (.own po)->iI po=ah)->wY X.K E s F S H ((aR (back a h) []).bind λm _=>.ok p m) Q->∀(v:V) q B j l I,aP X.K q B h j l->bC (U S) (λb=>U B b\/I b) F q H l->iD y (s.map aa++a8 n ac) j->fU X.K l q p v I->xk q B l I->Q v l:=by
   intro p M ok v q B j l I C f D T L;cases e:back a h with
   |none=>rw[e]at ok;exact ok.elim
   |some m=>
    rw[e]at ok;obtain⟨A,u,o,up⟩:=K.back C f D W e;refine ok v q A l I u ⟨f.fro,f.keep,f.there,f.fnew,λb z=>f.onew b (z.imp (o b) id)⟩ T (λb z=>⟨(L b z).1,λw=>(L b z).2.1 (o b w),(L b z).2.2⟩) λb z=>?_;rcases M m e with⟨pv,rfl⟩|hf
    .exact absurd z (T.2 b)
    rcases f.onew b (.inr z)with w|w
    .exact absurd (o b (up hf b w)) (L b z).2.1
    .exact w
  cases fl with
  |brk=>exact ok.elim
  |cont=>exact ok.elim
  |ret p=>exact G p (λm e=>J p m (by show(aR (back a h) []).bind _=_;rw[e];rfl)) ok
  |next=>exact λq B j l C f D=>G (.val .non) (λ_ _=>.inl ⟨_,rfl⟩) ok .non q B j l (λ_=>False) C ⟨f.fro,f.keep,f.there,f.fnew,λb z=>z.elim (f.onew b) eT⟩ D ⟨rfl,λ_ z=>z⟩ λ_ z=>z.elim
theorem Jv{f:ae}{p:fF}{C:eY}{P:bb}{w:aS}{K:aw}{u:Str->Option ai}{j:aD}{x b:Str}{h:aT}{N l:List Str}{k n:Nat}{g:af->R Slot}{d:af->R aJ}{m:List Nat}(Y:mn K x b h f p)(X:bK N l (aO h))(L:N.length=l.length+n)(hb:∀(kV o t:ai) (z:Option ae) (B v:ai) (q:List ai),q.length=l.length->fG (fX x b (gR h) (d7 h) (aO h) .none kV o t z B v) ⟨q,[]⟩=pure (l.zip q))(y:∀c,g c≠.no->c.length=l.length) (I:∀c,g c≠.no->∀(i:Nat) po,c[i]?=aa (.own po)->i∈m) (F:∀c r W,g c=.ok r W->(∃pv,r=.val pv)\/∀(i:Nat) po,c[i]?=aa (.own po)->iI po=ah) (M:∀c,g c≠.no->bj n d c=g c)(S:∀(A:a9) (a:List Env) (s:ao) (H:Hp) (E:XK),cT k (A.deeper (g8 b (aO h) s.heap.objs.size f p.code))->f9 (gS C P w K u j N b (aO h) f p.code A a s H E) E m (d7 h) d):fR P w K u j C (k+1) f p l (bi K g):=by obtain⟨oc,od,kV,o,t,z,B,v,D,rfl,G,T⟩:=Y.ex;exact IR G T X (Df y) λA a s H Z Q E J O=>⟨_,tL,GW L y I F M (S A a s H E J) O⟩
theorem E3{f:ae}{t:fF}{z:eY}{P:bb}{w:aS}{K:aw}{v:Str->Option ai}{l:aD}{x b:Str}{j:aT}{N m:List Str}{k n:Nat}{g:af->R Slot}{d:af->R aJ}{p:List Nat}(O:mn K x b j f t)(M:bK N m (aO j))(C:N.length=m.length+n)(F:∀(kV u B:ai) (L:Option ae) (q I:ai) (r:List ai),r.length=m.length->fG (fX x b (gR j) (d7 j) (aO j) .none kV u B L q I) ⟨r,[]⟩=pure (m.zip r))(J:∀c,g c≠.no->c.length=m.length) (y:∀c,g c≠.no->∀(i:Nat) o,c[i]?=aa (.own o)->i∈p/\iI o=ah) (D:∀c,g c≠.no->bj n d c=g c)(G:∀(f:ae) (q:ai) (A:a9) (a:List Env) (s:ao) (H:Hp) (E:XK),cT k (A.deeper (g8 b (aO j) s.heap.objs.size f q))->f9 (gS z P w K v l N b (aO j) f q A a s H E) E p (d7 j) d):fR P w K v l z (k+1) f t m (bi K g):=Jv O M C F J (λc h i o e=>(y c h i o e).1) (λc Q S h=>.inr λi o e=>(y c (by rw[h];exact nofun) i o e).2) D λA a s H E=>G f t.code A a s H E
theorem Rz{u:eY}{P:bb}{w:aS}{K:aw}{p:Str->Option ai}{c:aD}{x:Str}{b:aT}{N j:List Str}{k n:Nat}{g:af->R Slot}{d:af->R aJ}{l:List Nat}(D:bZ K p x b)(M:bK N j (aO b))(z:N.length=j.length+n)(t:∀(kV q v:ai) (L:Option ae) (m I:ai) (o:List ai),o.length=j.length->fG (fX x x (gR b) (d7 b) (aO b) .none kV q v L m I) ⟨o,[]⟩=pure (j.zip o))(J:∀a,g a≠.no->a.length=j.length) (y:∀a,g a≠.no->∀(i:Nat) po,a[i]?=aa (.own po)->i∈l/\iI po=ah) (C:∀a,g a≠.no->bj n d a=g a)(G:∀(f:ae) (m:ai) (A:a9) (h:List Env) (s:ao) (H:Hp) (E:XK),cT k (A.deeper (g8 x (aO b) s.heap.objs.size f m))->f9 (gS u P w K p c N x (aO b) f m A h s H E) E l (d7 b) d):b_ u P w K p c x (k+1) j (bi K g):=by obtain⟨f,F,B,r⟩:=D.ex;exact⟨f,F,B,E3 r M z t J y C G,r.binds t,r.kp⟩
abbrev bO:=Sum PV Nat
def eZ(K:aw)(a:St)(F:ae->Prop)(H:Hp):List bO->List V->Prop
 |[],vs=>vs=[]
 |.inl pv::b,vs=>∃v r,vs=v::r/\bg K H F pv v/\eZ K a F H b r
 |.inr i::b,vs=>∃v r,vs=v::r/\a[i]?=aa (aa v)/\eZ K a F H b r
def DG(X:Cx)(E:XK)(f:List az)(d:af->R (List bO)):Prop :=
 ∀F S b a H Q,aP X.K F S b a H->Ok X.K E a F S H (d b) (λg _ h _ c=>∀vs,eZ X.K a h c g vs->Q vs c)->o8 X f a H Q
section
variable{X:Cx}{E:XK}{e:az}{b:List az}{de:af->R PV}{c:af->R (List bO)}{f:Pos}
def aW:af->R (List bO):=λε=>.ok [] ε
def gV(d:af->R PV)(c:af->R (List bO)):af->R (List bO):=λε=>(d ε).bind λx ε1=>(c ε1).bind λxs a=>.ok (.inl x::xs) a
def gO(i:Nat)(c:af->R (List bO)):af->R (List bO):=λε=>match ε[i]? with
 |some (.own _)=>(c ε).bind λxs a=>.ok (.inr i::xs) a
 |_=>.no
theorem aZ:DG X E [] aW:=λF S g d H Q a h=>pd lq (h F S H a (bC.refl ..) _ rfl)
theorem Kh(r:DE X E e de)(q:DG X E b c)(p:aL (e::b) X.env=(aj,aQ e X.env)::aL b X.env:=by rfl):DG X E (e::b) (gV de c):=λF S j d H Q n h=>by refine pd (jp ce gk p) (r F S j d H _ n ((Ok.bind h).imp λx a D z B g G u v m=>?_));refine q D z a d B _ g ((Ok.bind u).imp λxs i C y A o w t l s=>?_);exact t C y A o (bC.refl ..) _ ⟨v,l,rfl,m.grow w g.fit,s⟩
theorem et(i:Nat){x:Str}{p:Pos}(t:DG X E b c)(w:X.N[i]?=aa x:=by rfl)(r:f_ X.env.scope x:=by eq_refl)(u:(x==("__debug__":Str))=aj:=by decide)(z:(x==("__classdict__":Str))=aj:=by decide) (s:aL (.Name x p::b) X.env=(aj,aQ (.Name x p) X.env)::aL b X.env:=by rfl):DG X E (.Name x p::b) (gO i c):=λF S m j H Q d h=>by
 unfold gO at h;split at h
 .rename_i q e;obtain⟨a,g,_⟩:=d.own i q e;refine pd (jp (ij w r u z) gk s) ⟨_,g,t F S m j H _ d ((Ok.bind h).imp λxs l C A B o D y n v=>?_)⟩;exact y C A B o (bC.refl ..) _ ⟨_,n,rfl,g,v⟩
 .exact h.elim
end
def cb(ε:af):List bO->Option af
 |[]=>aa []
 |.inl pv::a=>(cb ε a).map (.val pv::·)
 |.inr i::a=>match ε[i]? with
  |some (.own b)=>(cb ε a).map (.own b::·)
  |_=>ac
def cQ:af->List bO->af->af
 |ε,.inl _::b,_::a=>cQ ε b a
 |ε,.inr i::b,s::a=>cQ (ε.set i s) b a
 |ε,_,_=>ε
def bF:List bO->List Nat
 |[]=>[]
 |.inl _::as=>bF as
 |.inr i::as=>i::bF as
theorem EJ:∀{as:List bO}{i:Nat},i∈bF as↔∃k:Nat,as[k]?=aa (.inr i)
 |[],i=>by simp[bF]
 |.inl _::as,i=>by
  unfold bF;rw[EJ];constructor
  .rintro⟨k,h⟩;exact⟨k+1,by simpa using h⟩
  .rintro⟨k,h⟩;cases k with
   |zero=>simp at h
   |succ k=>exact⟨k,by simpa using h⟩
 |.inr j::as,i=>by
  unfold bF;rw[bV,EJ];constructor
  .rintro(rfl|⟨k,h⟩)
   .exact⟨0,rfl⟩
   .exact⟨k+1,by simpa using h⟩
  .rintro⟨k,h⟩;cases k with
   |zero=>simp at h;exact .inl h.symm
   |succ k=>exact .inr ⟨k,by simpa using h⟩
theorem wJ{d:af}:∀{a:List bO}{c:af},cb d a=aa c->c.length=a.length/\∀(k:Nat) (s:Slot),c[k]?=aa s->(∃pv,a[k]?=aa (.inl pv)/\s=.val pv)\/∃i f,a[k]?=aa (.inr i)/\d[i]?=aa (.own f)/\s=.own f
 |[],c,h=>by cases h;exact⟨rfl,λk s e=>by simp at e⟩
 |.inl pv::a,c,h=>by
  unfold cb at h;cases e:cb d a with
  |none=>rw[e]at h;cases h
  |some r=>
   rw[e]at h;cases h;obtain⟨l,q⟩:=wJ e;refine⟨by simp[l],λk s b=>?_⟩;cases k with
   |zero=>simp at b;exact .inl ⟨pv,rfl,b.symm⟩
   |succ k=>simpa using q k s (by simpa using b)
 |.inr i::a,c,h=>by
  unfold cb at h;split at h
  .rename_i f g;cases e:cb d a with
   |none=>rw[e]at h;cases h
   |some r=>
    rw[e]at h;cases h;obtain⟨l,q⟩:=wJ e;refine⟨by simp[l],λk s b=>?_⟩;cases k with
    |zero=>simp at b;exact .inr ⟨i,f,rfl,g,b.symm⟩
    |succ k=>simpa using q k s (by simpa using b)
  .cases h
theorem vC:∀(c:List bO) (a b:af),(cQ a c b).length=a.length
 |[],a,b=>by cases b <;> rfl
 |.inl _::c,a,[]=>rfl
 |.inr _::c,a,[]=>rfl
 |.inl _::c,a,s::b=>vC c a b
 |.inr i::c,a,s::b=>by show(cQ (a.set i s) c b).length=_;rw[vC,iV]
theorem qZ:∀(a:List bO) (b c:af) (j:Nat),j∉bF a->(cQ b a c)[j]?=b[j]?
 |[],b,c,j,_=>by cases c <;> rfl
 |.inl _::a,b,[],j,_=>rfl
 |.inr _::a,b,[],j,_=>rfl
 |.inl _::a,b,s::c,j,h=>qZ a b c j h
 |.inr i::a,b,s::c,j,h=>by
  have d:¬(j=i\/j∈bF a):=by simpa[bF]using h
  show(cQ (b.set i s) a c)[j]?=_;rw[qZ a _ c j λz=>d (.inr z),eP λz=>d (.inl z.symm)]
theorem sk:∀(a:List bO) (b c:af) (j k:Nat) (s:Slot),(bF a).Nodup->j<b.length->a[k]?=aa (.inr j)->c[k]?=aa s->(cQ b a c)[j]?=aa s
 |[],b,c,j,k,s,_,_,h,_=>by simp at h
 |_::a,b,[],j,k,s,_,_,_,h=>by simp at h
 |.inl _::a,b,t::c,j,0,s,_,_,h,_=>by simp at h
 |.inl _::a,b,t::c,j,k+1,s,nd,hj,h,g=>sk a b c j k s nd hj (by simpa using h) (by simpa using g)
 |.inr i::a,b,t::c,j,0,s,nd,hj,h,g=>by simp at h g;subst h g;have d:i∉bF a:=(mS.mp nd).1;show(cQ (b.set i t) a c)[i]?=_;rw[qZ a _ c i d,gq hj]
 |.inr i::a,b,t::c,j,k+1,s,nd,hj,h,g=>sk a (b.set i t) c j k s (mS.mp nd).2 (by rw[iV];exact hj) (by simpa using h) (by simpa using g)
theorem eZ.len{K:aw}{b:St}{F:ae->Prop}{H:Hp}:∀{a:List bO}{vs:List V},eZ K b F H a vs->vs.length=a.length
 |[],_,h=>by rw[show _=[] from h];rfl
 |.inl _::a,_,⟨v,r,e,_,h⟩=>by rw[e,eR,eR,eZ.len h]
 |.inr _::a,_,⟨v,r,e,_,h⟩=>by rw[e,eR,eR,eZ.len h]
theorem eZ.val{K:aw}{c:St}{F:ae->Prop}{H:Hp}:∀{as:List bO}{vs:List V}{k:Nat}{pv:PV},eZ K c F H as vs->as[k]?=aa (.inl pv)->∃v,vs[k]?=aa v/\bg K H F pv v
 |[],_,k,_,_,e=>by simp at e
 |.inl x::as,_,0,pv,⟨v,r,e,h,_⟩,q=>by simp at q;subst q e;exact⟨v,rfl,h⟩
 |.inr _::as,_,0,pv,_,q=>by simp at q
 |.inl x::as,_,k+1,pv,⟨v,r,e,_,h⟩,q=>by obtain⟨w,a,b⟩:=eZ.val (k:=k) h (by simpa using q);subst e;exact⟨w,by simpa using a,b⟩
 |.inr x::as,_,k+1,pv,⟨v,r,e,_,h⟩,q=>by obtain⟨w,a,b⟩:=eZ.val (k:=k) h (by simpa using q);subst e;exact⟨w,by simpa using a,b⟩
theorem eZ.own{K:aw}{c:St}{F:ae->Prop}{H:Hp}:∀{as:List bO}{vs:List V}{k i:Nat},eZ K c F H as vs->as[k]?=aa (.inr i)->∃v,vs[k]?=aa v/\c[i]?=aa (aa v)
 |[],_,k,_,_,e=>by simp at e
 |.inr x::as,_,0,pv,⟨v,r,e,h,_⟩,q=>by simp at q;subst q e;exact⟨v,rfl,h⟩
 |.inl _::as,_,0,pv,_,q=>by simp at q
 |.inl x::as,_,k+1,pv,⟨v,r,e,_,h⟩,q=>by obtain⟨w,a,b⟩:=eZ.own (k:=k) h (by simpa using q);subst e;exact⟨w,by simpa using a,b⟩
 |.inr x::as,_,k+1,pv,⟨v,r,e,_,h⟩,q=>by obtain⟨w,a,b⟩:=eZ.own (k:=k) h (by simpa using q);subst e;exact⟨w,by simpa using a,b⟩
section
variable{K:aw}{F y:ae->Prop}{S m:Nat->ae->Prop}{c s f:af}{t:St}{H u:Hp}{as:List bO}{d:List V}
def jU(as:List bO)(S:Nat->ae->Prop)(k:Nat)(b:ae):Prop:=∃i,as[k]?=aa (.inr i)/\S i b
theorem wu(b:ae)(h:U (jU as S) b):U S b:=let ⟨_,i,_,h⟩:=h;⟨i,h⟩
theorem xG:∀{as:List bO}{i k l:Nat},(bF as).Nodup->as[k]?=aa (.inr i)->as[l]?=aa (.inr i)->k=l
 |[],_,_,_,_,h,_=>by simp at h
 |.inl _::as,i,0,_,_,h,_=>by simp at h
 |.inl _::as,i,_,0,_,_,h=>by simp at h
 |.inl _::as,i,k+1,l+1,nd,h1,h2=>by rw[xG (as:=as) (i:=i) (k:=k) (l:=l) nd (by simpa using h1) (by simpa using h2)]
 |.inr j::as,i,0,0,_,_,_=>rfl
 |.inr j::as,i,0,l+1,nd,h1,h2=>by simp at h1;subst h1;exact absurd (EJ.mpr ⟨l,by simpa using h2⟩) (mS.mp nd).1
 |.inr j::as,i,k+1,0,nd,h1,h2=>by simp at h2;subst h2;exact absurd (EJ.mpr ⟨k,by simpa using h1⟩) (mS.mp nd).1
 |.inr j::as,i,k+1,l+1,nd,h1,h2=>by rw[xG (as:=as) (i:=i) (k:=k) (l:=l) (mS.mp nd).2 (by simpa using h1) (by simpa using h2)]
theorem aP.cal(r:aP K F S c t H)(B:eZ K t F H as d)(I:cb c as=aa s)(G:(bF as).Nodup):aP K F (jU as S) s (d.map aa) H:=by
 obtain⟨D,A⟩:=wJ I;have up:∀{k:Nat}{v:V},d[k]?=aa v->(d.map aa)[k]?=aa (aa v):=λ{k v} e=>by rw[iT,e];rfl
 refine⟨by rw[D,c0,B.len],r.ex,λk pv e=>?_,λk C e=>?_,λk b h=>?_,λk l b g o=>?_⟩
 .rcases A k _ e with⟨p,q1,n⟩|⟨_,_,_,_,z⟩
  .cases n;obtain⟨v,x,w⟩:=B.val q1;exact⟨v,up x,w⟩
  .cases z
 .rcases A k _ e with⟨_,_,z⟩|⟨i,p,q1,n,q3⟩
  .cases z
  .cases q3;obtain⟨v,x,w⟩:=B.own q1;obtain⟨a,b1,b2⟩:=r.own i C n;rw[w]at b1;cases b1;have J:jU as S k=S i:=by
    funext b;exact propext ⟨λ⟨j,g,o⟩=>by rw[q1]at g;cases g;exact o,λh=>⟨i,q1,h⟩⟩
   exact⟨a,up x,by rw[J];exact b2⟩
 .obtain⟨i,g,o⟩:=h;obtain⟨⟨C,q⟩,n⟩:=r.foot i b o;have E:k<s.length:=by rw[D];exact(dW.mp g).1
  refine⟨?_,n⟩;rcases A k s[k] (by simp[E])with⟨_,z,_⟩|⟨j,p,z1,z2,z3⟩
  .rw[g]at z;cases z
  .exact⟨p,by rw[eI E,z3]⟩
 .obtain⟨i,x,w⟩:=g;obtain⟨j,b1,b2⟩:=o;have:=r.dist i j b w b2;subst this;exact xG G x b1
theorem aP.called{O':ae->Prop}(r:aP K F S c t H)(ha:eZ K t F H as d)(hs:cb c as=aa s)(P:(bF as).Nodup)(N:aP K y m f (d.map aa) u)(g:bC (U (jU as S)) O' F y H u)(hO:∀b,U m b->O' b)(L:∀(k:Nat) i,as[k]?=aa (.inr i)->∃C,f[k]?=aa (.own C)):∃Y,aP K y Y (cQ c as f) t u/\bC (U S) (U Y) F y H u/\∀b,U Y b->U m b\/U S b:=by
 have up:∀{k:Nat}{v:V},(d.map aa)[k]?=aa (aa v)->d[k]?=aa v:=λ{k v} e=>by
  rw[iT]at e;cases q:d[k]? with
  |none=>rw[q]at e;cases e
  |some x=>rw[q]at e;cases e;rfl
 have fit:mi (U (jU as S)) F H:=λb h=>r.fit b (wu b h);have J:∀i C,c[i]?=aa (.own C)->i<c.length:=λi C e=>(dW.mp e).1;have lt:∀(k:Nat) i,as[k]?=aa (.inr i)->i<c.length:=λk i e=>by
  obtain⟨hl,hg⟩:=wJ hs;have D:k<s.length:=by rw[hl];exact(dW.mp e).1
  rcases hg k s[k] (by simp[D])with⟨_,z,_⟩|⟨j,p,z1,z2,z3⟩
  .rw[e]at z;cases z
  .rw[e]at z1;cases z1;exact J _ _ z2
 refine⟨λj b=>(∃k:Nat,as[k]?=aa (.inr j)/\m k b)\/(j∉bF as/\S j b),⟨by rw[vC];exact r.len,N.ex,λj pv e=>?_,λj C e=>?_,λj b h=>?_,λi j b A B=>?_⟩,⟨g.fro,λb o e n=>g.keep b o e λz=>n (wu b z),g.there,λa z=>(g.fnew a z).imp id λw=>w.imp id (wu a),λb ⟨j,z⟩=>?_⟩,λb ⟨j,z⟩=>?_⟩
 .by_cases G:j∈bF as
  .obtain⟨k,D⟩:=EJ.mp G;obtain⟨C,q⟩:=L k j D;rw[sk as c f j k _ P (lt k j D) D q]at e;cases e
  .rw[qZ as c f j G]at e;obtain⟨v,A,B⟩:=r.val j pv e;exact⟨v,A,B.grow g fit⟩
 .by_cases G:j∈bF as
  .obtain⟨k,D⟩:=EJ.mp G;obtain⟨po',q⟩:=L k j D;rw[sk as c f j k _ P (lt k j D) D q]at e;cases e;obtain⟨a,A,B⟩:=N.own k C q;obtain⟨v,Q,X⟩:=ha.own D;rw[up A]at Q;cases Q;have W:(λb=>(∃k:Nat,as[k]?=aa (.inr j)/\m k b)\/(j∉bF as/\S j b))=m k:=by
    funext b;refine propext ⟨λz=>?_,λz=>.inl ⟨k,D,z⟩⟩;rcases z with⟨l,z1,z2⟩|⟨z,_⟩
    .rw[xG P D z1];exact z2
    .exact absurd G z
   exact⟨a,X,by rw[W];exact B⟩
  .rw[qZ as c f j G]at e;obtain⟨a,A,B⟩:=r.own j C e;have W:(λb=>(∃k:Nat,as[k]?=aa (.inr j)/\m k b)\/(j∉bF as/\S j b))=S j:=by
    funext b;refine propext ⟨λz=>?_,λz=>.inr ⟨G,z⟩⟩;rcases z with⟨l,z1,z2⟩|⟨_,z⟩
    .exact absurd (EJ.mpr ⟨l,z1⟩) G
    .exact z
   have h3:eL K u y C a (S j):=by refine B.mono (λ_ _ q=>q.grow g fit) (λ_ _ q=>q.grow g fit) λb o z q=>g.keep b o q λ⟨l,i,M,I⟩=>?_;have:=r.dist i j b I z;subst this;exact G (EJ.mpr ⟨l,M⟩)
   exact⟨a,A,by rw[W];exact h3⟩
 .rcases h with⟨k,A,B⟩|⟨A,B⟩
  .obtain⟨⟨C,q⟩,T⟩:=N.foot k b B;exact⟨⟨C,sk as c f j k _ P (lt k j A) A q⟩,T⟩
  .obtain⟨⟨C,q⟩,T,o,O,q4⟩:=r.foot j b B;have no:¬U (jU as S) b:=λ⟨l,i,M,I⟩=>by have:=r.dist i j b I B;subst this;exact A (EJ.mpr ⟨l,M⟩)
   refine⟨⟨C,by rw[qZ as c f j A];exact q⟩,λz=>?_,o,g.keep b o O no,q4⟩;rcases g.fnew b z with w|w|w
   .exact T w
   .rw[O]at w;cases w
   .exact no w
 .have E:∀{i j:Nat}{b:ae},(∃k:Nat,as[k]?=aa (.inr i)/\m k b)->(j∉bF as/\S j b)->False:=λ{i j b} ⟨k,M,I⟩ ⟨w3,Z⟩=>by
   obtain⟨_,_,o,O,_⟩:=r.foot j b Z;rcases g.onew b (hO b ⟨k,I⟩)with⟨l,i',z1,z2⟩|z
   .have:=r.dist i' j b z2 Z;subst this;exact w3 (EJ.mpr ⟨l,z1⟩)
   .rw[O]at z;cases z
  rcases A with A|A <;> rcases B with B|B
  .obtain⟨k,Q,X⟩:=A;obtain⟨l,b1,b2⟩:=B;have:=N.dist k l b X b2;subst this;rw[Q]at b1;cases b1;rfl
  .exact(E A B).elim
  .exact(E B A).elim
  .exact r.dist i j b A.2 B.2
 .rcases z with⟨k,_,z⟩|⟨_,z⟩
  .rcases g.onew b (hO b ⟨k,z⟩)with w|w
   .exact .inl (wu b w)
   .exact .inr w
  .exact .inl ⟨j,z⟩
 .rcases z with⟨k,_,z⟩|⟨_,z⟩
  .exact .inl ⟨k,z⟩
  .exact .inr ⟨j,z⟩
end
def DR(X:Cx)(E:XK)(e:az)(d:af->R Slot):Prop :=
 ∀F S f a H Q,aP X.K F S f a H->Ok X.K E a F S H (d f) (λs _ h i c=>∀v g,fU X.K c h s v g->(∀b,g b->H b=ac/\¬h b/\¬U i b/\∃o,c b=aa o/\cH o)->Q v c)->ig X e a H Q
def cC:List bO->af->Bool
 |[],_=>ah
 |.inl _::as,_::ss=>cC as ss
 |.inr _::as,.own _::ss=>cC as ss
 |_,_=>aj
theorem jS:∀{as:List bO}{ss:af},cC as ss=ah->∀(k:Nat) i,as[k]?=aa (.inr i)->∃a,ss[k]?=aa (.own a)
 |[],_,_,k,i,h=>by simp at h
 |.inl _::as,s::ss,q,0,i,h=>by simp at h
 |.inl _::as,s::ss,q,k+1,i,h=>by simpa using jS (as:=as) (ss:=ss) (by unfold cC at q;exact q) k i (by simpa using h)
 |.inr _::as,.own a::ss,q,0,i,h=>⟨a,rfl⟩
 |.inr _::as,.own a::ss,q,k+1,i,h=>by simpa using jS (as:=as) (ss:=ss) (by unfold cC at q;exact q) k i (by simpa using h)
 |.inr _::as,.val _::ss,q,k,i,h=>by cases q
 |.inr _::as,.none::ss,q,k,i,h=>by cases q
 |.inl _::as,[],q,k,i,h=>by cases q
 |.inr _::as,[],q,k,i,h=>by cases q
def cn{d:Type}(ε:af)(b:List bO)(r:R d):R d:=match r with
 |.ok s a=>if cC b a then .ok s (cQ ε b a)else .no
 |.er c a=>if cC b a then .er c (cQ ε b a)else .no
 |.no=>.no
def aC(g:af->R Slot)(c:af->R (List bO)):af->R Slot:=λε=>(c ε).bind λa ε1=>(aR (if(bF a).Nodup then cb ε1 a else ac) ε1).bind λb ε1=>cn ε1 a (g b)
section
variable{m:eY}{X:Cx}{E:XK}{pin:List Nat}{e:az}{j:List az}{l:af->R (List bO)}{pos:Pos}{x:Str}{k:Nat}{n:List Str}{g:af->R Slot}{p:Pos}{d:af->R Slot}
theorem F9{K:aw}{F0 t:ae->Prop}{S0 C:Nat->ae->Prop}{a:af}{G:St}{H r:Hp}{c:List bO}{Z:List V}{Q:VK}(A:aP K t C a G r)(g1:bC (U S0) (U C) F0 t H r)(P:eZ K G t r c Z)(q:Ok K E G t C r ((aR (if(bF c).Nodup then cb a c else ac) a).bind λD a=>cn a c (g D)) λs _ u W h=>∀v F,fU K h u s v F->(∀b,F b->H b=ac/\¬u b/\¬U W b/\∃o,h b=aa o/\cH o)->Q v h):bi K g Z r Q E:=by
 have q:=Ok.bind q;by_cases B:(bF c).Nodup
 .rw[if_pos B]at q;cases j:cb a c with
  |none=>rw[j]at q;exact q.elim
  |some D=>
   rw[j]at q;have q:=q t C r A (bC.refl ..);dsimp only at q;refine⟨t,jU c C,D,A.cal P j B,?_⟩;cases O:g D with
   |no=>rw[O]at q;exact q.elim
   |er cv S=>
    rw[O]at q;intro y u W h J N;unfold cn at q;dsimp only at q;by_cases f:cC c S=ah
    .rw[if_pos f]at q;obtain⟨T,I,M,_⟩:=A.called P j B J N (λ_ z=>z) (jS f);exact q y u T h I M
    .rw[if_neg f]at q;exact q.elim
   |ok s S=>
    rw[O]at q;intro v u W h F J N rv L fr;unfold cn at q;dsimp only at q;by_cases f:cC c S=ah
    .rw[if_pos f]at q;obtain⟨T,I,M,u2⟩:=A.called P j B J N (λ_ z=>.inl z) (jS f);refine q u T h I M v F rv λb z=>⟨iG g1 (fr b z),(L b z).1,λw=>?_,(L b z).2.2⟩
     rcases u2 b w with w|⟨i,w⟩
     .exact(L b z).2.1 w
     .obtain⟨_,_,o,Y,_⟩:=A.foot i b w;rw[fr b z]at Y;cases Y
    .rw[if_neg f]at q;exact q.elim
 .rw[if_neg B]at q;exact q.elim
theorem bh(c:b_ m X.prog X.w X.K X.mg X.base x k n (bi X.K g))(t:cT k X.A)(s:qO m X E)(A:DG X E (e::j) l)(w:Gl X x:=by rfl)(y:(x==("__debug__":Str))=aj:=by decide) (C:aL (e::j) X.env=(aj,aQ e X.env)::aL j X.env:=by rfl) (B:(cJ pos (aL j X.env)).any (·.1)=aj:=by rfl):DR X E (.Call (.Name x p) (e::j) [] pos) (aC g l):=λF S i a H Q o h=>by obtain⟨f,K,u,I,z,v⟩:=c.ex;refine cz (DZ I t w u v z .nil s gk y C B) (A F S i a H _ o ((Ok.bind h).imp λL b O M N r D q J G=>?_));rw[gI];exact F9 r D G q
def q_:Slot->Option PV
 |.val pv=>aa pv
 |.own (.lst xs)=>aa (.lst xs)
 |_=>ac
def aM(d:af->R Slot):af->R PV:=λε=>(d ε).bind λs ε1=>aR (q_ s) ε1
def AM:Slot->Option PO
 |.own a=>aa a
 |_=>ac
def pw(d:af->R Slot):af->R PO:=λε=>(d ε).bind λs a=>aR (AM s) a
theorem DR.dn(h:DR X E e d):DN X E e (pw d):=λF S f i H Q u q=>by
 unfold pw at q;refine h F S f i H Q u ?_;cases b:d f with
 |no=>rw[b]at q;exact q.elim
 |er c r=>rw[b]at q;exact q
 |ok s o=>
  rw[b]at q;cases s with
  |none=>exact q.elim
  |val pv=>exact q.elim
  |own I=>intro G C D w z v B t A;obtain⟨a,rfl,y⟩:=t;exact q G C D w z a B y A
theorem DR.de(h:DR X E e d):DE X E e (aM d):=λF S ε f H Q i q=>by
 unfold aM at q;cases b:d ε with
 |no=>rw[b]at q;exact q.elim
 |er c r=>refine h F S ε f H Q i ?_;rw[b]at q ⊢;exact q
 |ok s o=>
  cases s with
  |none=>rw[b]at q;exact q.elim
  |val pv=>refine h F S ε f H Q i ?_;rw[b]at q ⊢;exact λD A B u z v J t I=>q D A B u z v t.1
  |own w=>
   refine h.dn.de F S ε f H Q i ?_;unfold dF pw;rw[b]at q ⊢;cases w with
   |lst xs=>exact q
   |dK a=>exact q
   |lls G=>exact q
   |ins C fs=>exact q
   |dT a=>exact q
   |dN a=>exact q
   |inl C fs y xs=>exact q
def ff(d:af->R Slot):af->R aJ:=λε=>(d ε).bind λs a=>.ok (.ret s) a
theorem nH(C:DR X E e d):DS X E pin (.Return (aa e) pos) (ff d):=λF S o f H D y h=>by
 refine i7 (vE ce) (C F S o f H _ y ?_);unfold ff at h;cases i:d o with
 |no=>rw[i]at h;exact h.elim
 |er c t=>rw[i]at h;exact λx O K M B G=>h x O K f M B G (iD.refl _ _)
 |ok s r=>rw[i]at h;intro N J L A a v I u q;exact h v N J f L I A ⟨a.fro,a.keep,a.there,a.fnew,λb z=>z.elim (a.onew b) λw=>.inr (q b w).1⟩ (iD.refl _ _) u λb z=>(q b z).2
def fE(d:af->R Slot):af->R aJ:=λε=>(d ε).bind λ_ a=>.ok .next a
theorem jj(q:DR X E e d)(o:lJ e ac pos.line X.env=pure aj:=by rfl):DS X E pin (.Expr e pos) (fE d):=λF S c a H D f h=>i7 (Ax ce o) (q F S c a H _ f (h.bindE.imp λx b u s t i y r v A w z=>r u s a t i (bC.refl ..) (iD.refl _ _)))
end
def dD(ε:af):List Nat->Option (List bO)
 |[]=>aa []
 |j::cap=>match ε[j]? with
  |some (.val pv)=>(dD ε cap).map (.inl pv::·)
  |some (.own _)=>(dD ε cap).map (.inr j::·)
  |_=>ac
def dq{b:Type}(cap:List Nat)(d:af->R b)(x:PV):af->R b:=λε=>(aR (dD ε cap) ε).bind λa _=>(aR (if(bF a).Nodup then cb ε (.inl x::a)else ac) ε).bind λc _=>cn ε (.inl x::a) (d c)
def bu{a:Type}(r:R a):R a:=match r with
 |.er _ _=>.no
 |r=>r
def ku(cap:List Nat)(dt:af->R Bool)(de:af->R PV):List PV->List PV->af->R (List PV)
 |[],b,ε=>.ok b ε
 |x::xs,b,ε=>(bu (dq cap dt x ε)).bind λk a=>match k with
  |true=>(bu (dq cap de x a)).bind λy c=>ku cap dt de xs (b++[y]) c
  |false=>ku cap dt de xs b a
def cU(cap:List Nat)(c:af->R (List PV))(dt:af->R Bool)(de:af->R PV):af->R PO:=λε=>(c ε).bind λxs ε1=>(ku cap dt de xs [] ε1).bind λb a=>.ok (.lst b) a
theorem vd{K:aw}{F:ae->Prop}{S:Nat->ae->Prop}{f:af}{d:St}{H:Hp}(r:aP K F S f d H):∀{b:List Nat}{i:List bO},dD f b=aa i->∃c,eZ K d F H i c/\fj d b=c.map aa
 |[],i,h=>by cases h;exact⟨[],rfl,rfl⟩
 |j::b,i,h=>by
  unfold dD at h;split at h
  .rename_i pv e;cases q:dD f b with
   |none=>rw[q]at h;cases h
   |some bs=>
    rw[q]at h;cases h;obtain⟨c,m,l⟩:=vd r q;obtain⟨v,g,n⟩:=r.val j pv e;refine⟨v::c,⟨v,c,rfl,n,m⟩,?_⟩;show(d[j]?).join::fj d b=_;rw[g,l];rfl
  .rename_i o e;cases q:dD f b with
   |none=>rw[q]at h;cases h
   |some bs=>
    rw[q]at h;cases h;obtain⟨c,m,l⟩:=vd r q;obtain⟨a,g,n⟩:=r.own j o e;refine⟨.ref a::c,⟨_,c,rfl,g,m⟩,?_⟩;show(d[j]?).join::fj d b=_;rw[g,l];rfl
  .cases h
theorem Dg{K:aw}{E:XK}{F:ae->Prop}{S:Nat->ae->Prop}{s:af}{f:St}{H:Hp}{G:Type}{b:List Nat}{d:af->R G}{x:PV}{v:V}{C:G->af->(ae->Prop)->(Nat->ae->Prop)->Hp->Prop}(r:aP K F S s f H) (N:bg K H F x v) (h:Ok K E f F S H (bu (dq b d x s)) C):∃L l,aP K F L l (aa v::fj f b) H/\Ok K E0 (aa v::fj f b) F L H (d l) (λa _ q _ p=>∃j u,aP K q u j f p/\bC (U S) (U u) F q H p/\C a j q u p):=by
 unfold dq at h;cases B:dD s b with
 |none=>rw[B]at h;exact h.elim
 |some g=>
  rw[B]at h;simp only[dY,R.bind_ok]at h;by_cases y:(bF g).Nodup
  .rw[if_pos y]at h;cases t:cb s (.inl x::g)with
   |none=>rw[t]at h;exact h.elim
   |some l=>
    rw[t]at h;simp only[dY,R.bind_ok]at h;obtain⟨w,T,Q⟩:=vd r B;have o:eZ K f F H (.inl x::g) (v::w):=⟨v,w,rfl,N,T⟩
    have n:aa v::fj f b=(v::w).map aa:=by rw[Q];rfl
    have m:(bF (.inl x::g)).Nodup:=y;refine⟨jU (.inl x::g) S,l,by rw[n];exact r.cal o t m,?_⟩;rw[n];cases A:d l with
    |no=>rw[A]at h;exact h.elim
    |er c D=>
     rw[A]at h;unfold cn at h;dsimp only at h;by_cases i:cC (.inl x::g) D=ah
     .rw[if_pos i]at h;exact h.elim
     .rw[if_neg i]at h;exact h.elim
    |ok a D=>
     rw[A]at h;intro q u p O P;unfold cn at h;dsimp only at h;by_cases i:cC (.inl x::g) D=ah
     .rw[if_pos i]at h;obtain⟨M,I,J,_⟩:=r.called o t m O P (λ_ z=>z) (jS i);exact⟨_,M,I,J,h q M p I J⟩
     .rw[if_neg i]at h;exact h.elim
  .rw[if_neg y]at h;exact h.elim
def qN(X:Cx)(a:List az):TT:=λb H Q=>Bx (∀d s,Inv X d b H s->ax (aA X.prog X.w) X.A (forIn a ah λc r=>if r=ah then do let ok <-mO c X.env (aQ c X.env);pure (ForInStep.yield ok)else pure (ForInStep.yield r)) (TP X d b Q) X.xe s)
def DF(X:Cx)(E:XK)(c:List az)(d:af->R Bool):Prop:=∀F S f a H Q,aP X.K F S f a H->Ok X.K E a F S H (d f) (λb _ _ _ g=>Q b g)->qN X c a H Q
def cA:af->R Bool:=λε=>.ok ah ε
theorem jL{X:Cx}{E:XK}:DF X E [] cA:=λF S d a H Q b h=>⟨λc s I=>L3 c s a H Q I (h F S H b (bC.refl ..))⟩
theorem NB{X:Cx}{E:XK}{c:az}{d:af->R Bool}(h:DT X E c d):DF X E [c] d:=λF S b a H Q f q=>⟨λg s I=>RJ oh g s a H Q I (h F S b a H Q f q)⟩
theorem Ok.bindB{K:aw}{E:XK}{b:St}{F s:ae->Prop}{S n:Nat->ae->Prop}{H p:Hp}{j i:Type}{D:i->af->(ae->Prop)->(Nat->ae->Prop)->Hp->Prop}{r:R j}{k:j->af->R i}(h:Ok K E b F S H (r.bind k) D)(g:bC (U S) (U n) F s H p):Ok K E b s n p r (λa d _ _ _=>Ok K E b F S H (k a d) D):=by
 cases r with
 |no=>exact h
 |er c f=>exact λx t o q l m=>h x t o q l (g.trans m)
 |ok a f=>exact λt o q l m=>h
section
variable{X:Cx}{E:XK}{c:dZ}{x:Str}{N':List Str}{cap:List Nat}
theorem bC.stay{O a F d:ae->Prop}{H b:Hp}(g:bC O a F d H b){l:ae}{o:HO}(e:H l=aa o)(n:¬O l)(f:¬F l):b l=aa o/\¬d l/\¬a l :=
 ⟨g.keep l o e n,λz=>(g.fnew l z).elim f λw=>w.elim (λq=>by rw[e]at q;cases q) n,λz=>(g.onew l z).elim n λq=>by rw[e]at q;cases q⟩
theorem aP.lay{K:aw}{F:ae->Prop}{S:Nat->ae->Prop}{h:af}{g:St}{H:Hp}{l:ae}{o o':HO}(r:aP K F S h g H)(u:H l=aa o)(no:cH o)(t:¬F l)(nS:¬U S l):bC (λb=>U S b\/b=l) (U S) F F H (L2.upd H l o')/\mi (λb=>U S b\/b=l) F H/\aP K F S h g (L2.upd H l o'):=by
 have d:bC (λb=>U S b\/b=l) (U S) F F H (L2.upd H l o'):=⟨λ_ z=>z,λb o e n=>by rw[bT λz=>n (.inr z)];exact e,λb o e=>by
  by_cases i:b=l
  .subst i;exact⟨_,cI⟩
  .exact⟨o,by rw[bT i];exact e⟩,λ_ z=>.inl z,λ_ z=>.inl (.inl z)⟩
 have f:mi (λb=>U S b\/b=l) F H:=λb z=>by
  rcases z with z|rfl
  .exact r.fit b z
  .exact⟨t,_,u,no⟩
 refine⟨d,f,r.len,λb z=>let ⟨o,q⟩:=r.ex b z;d.there b o q,λj pv e=>?_,λj s e=>?_,λj b z=>?_,r.dist⟩
 .obtain⟨w,x1,a⟩:=r.val j pv e;exact⟨w,x1,a.grow d f⟩
 .obtain⟨w,x1,a⟩:=r.own j s e;refine⟨w,x1,a.mono (λ_ _ q=>q.grow d f) (λ_ _ q=>q.grow d f) λb o z q=>?_⟩;rw[bT (by rintro rfl;exact nS ⟨j,z⟩)];exact q
 .obtain⟨x1,a,o,p,m⟩:=r.foot j b z;exact⟨x1,a,o,by rw[bT (by rintro rfl;exact nS ⟨j,z⟩)];exact p,m⟩
theorem bC.lay{O d F h:ae->Prop}{H f:Hp}{l:ae}{o':HO}(g:bC O d F h H f)(a:H l=ac):bC O d F h H (L2.upd f l o'):=by
 refine⟨g.fro,λb o e n=>?_,λb o e=>?_,g.fnew,g.onew⟩
 .rw[bT (by rintro rfl;rw[a]at e;cases e)];exact g.keep b o e n
 .obtain⟨i,q⟩:=g.there b o e;exact⟨i,by rw[bT (by rintro rfl;rw[a]at e;cases e)];exact q⟩
theorem MY{elt w:az}{px:Pos}{ifs:List az}{di:af->R (List PV)}{dt:af->R Bool}{de:af->R PV}(hi:DI X E (.Name x px) w di)(ht:∀C d f r p,DF (bX X c N' C d f r p) E0 ifs dt) (he:∀C d f r p,DE (bX X c N' C d f r p) E0 elt de){F:ae->Prop}{S:Nat->ae->Prop}{ε:af}{j:St}{H:Hp}{Q:VK} (rl:aP X.K F S ε j H) (h:Ok X.K E j F S H (cU cap di dt de ε) (λpo _ s K g=>∀a Sa,eL X.K g s po a Sa->(∀b,Sa b->H b=ac/\¬s b/\¬U K b/\∃o,g b=aa o/\cH o)->Q (.ref a) g)):G1 (oF X (.Name x px) w) (λj H Q=>∀C d f r p,qN (bX X c N' C d f r p) ifs j H Q) (λj H Q=>∀C d f r p,ig (bX X c N' C d f r p) elt j H Q) cap j H Q:=by
 refine hi F S ε j H _ rl ((Ok.bind h).imp λxs ε1 M S1 H1 r1 g1 h1 J vs RR rs hz hw keep l hl=>?_);have h1:=h1.bind;have hvl:vs.length=xs.length:=rs.len;have a0:Al M M H1 (upd H1 l (.lst [])):=Al.new0 hl;have nF1:¬M l:=λz=>by obtain⟨o,q⟩:=r1.ex l z;rw[hl]at q;cases q
 have nS1:¬U S1 l:=λ⟨i,z⟩=>by obtain⟨_,_,o,q,_⟩:=r1.foot i l z;rw[hl]at q;cases q
 have hH:H l=ac:=iG g1 hl;refine⟨λi m B g=>m=xs.length-i/\i<=xs.length/\∃s K W O,aP X.K s K W j g/\bC (U S1) (U K) M s H1 g/\g l=aa (.lst B)/\¬s l/\¬U K l/\Reps X.K g s O B/\B.length<=i /\ Ok X.K E j M S1 H1 (ku cap dt de (xs.drop i) O W) (λys' t P S2 L=>Ok X.K E j P S2 L (R.ok (PO.lst ys') t) (λpo _ s K g=>∀a Sa,eL X.K g s po a Sa->(∀b,Sa b->H b=ac/\¬s b/\¬U K b/\∃o,g b=aa o/\cH o)->Q (.ref a) g)),⟨_,rfl,jd _,M,S1,ε1,[],r1.al a0,a0.grow,cI,nF1,nS1,rfl,bv _,h1⟩,?_⟩;rintro i m B L ⟨rfl,hi,P,S2,t,O,N,I,el,nF2,nS2,n,hyl,q2⟩;have RH:=keep S2 P L I;by_cases bU:i<xs.length
 .obtain⟨v,hv⟩:∃v,vs[i]?=aa v:=⟨_,eI ∅⟩
  obtain⟨go,yl⟩:=(hw L RH i).1 v hv;refine .inr ⟨go,λv' g y=>⟨[aa v'],rfl,rfl,?_⟩⟩;obtain⟨e1,e2⟩:=yl v' g y;subst e1 e2;obtain⟨Z,hx,rx⟩:=rs.back hv;have ed:xs.drop i=Z::xs.drop (i+1):=by rw[HQ bU];congr 1;exact(dW.mp hx).2
  rw[ed]at q2;have Y:=rx.grow I r1.fit;have q3:=Ok.bindB q2 I;obtain⟨Sb,ss,rb,okb⟩:=Dg N Y q3;intro C d f r p;refine ht C d f r p P Sb ss _ g _ rb (okb.imp λb _ F3 _ H3 _ _ ⟨T,S3,r3,G,q4⟩=>?_);obtain⟨el3,nF3,nS3⟩:=G.stay el nS2 nF2;cases b with
  |false=>exact nQ ⟨_,∅,rfl,bU,F3,S3,T,O,r3,I.trans G,el3,nF3,nS3,n.grow G N.fit,∅,q4⟩
  |true=>refine oj ?_;have q5:Ok X.K E j M S1 H1 ((bu (dq cap de Z T)).bind λy t=>ku cap dt de (xs.drop (i+1)) (O++[y]) t) _:=q4;obtain⟨Sc,sc,rc,okc⟩:=Dg r3 (Y.grow G N.fit) (Ok.bindB q5 (I.trans G));intro C d f r p;refine he C d f r p F3 Sc sc _ H3 _ rc (okc.imp λy _ F4 _ H4 _ _ ⟨ε4,S4,r4,g4,q6⟩ u ru=>?_);obtain⟨el4,nF4,nS4⟩:=g4.stay el3 nS3 nF3;have D:=(n.grow G N.fit).grow g4 r3.fit;obtain⟨gl,A,r5⟩:=r4.lay (o':=.lst (B++[u])) el4 trivial nF4 nS4;have g5:=((I.trans G).trans g4).lay (o':=.lst (B++[u])) hl;refine⟨el4,?_,_,∅,rfl,bU,F4,S4,ε4,O++[y],r5,g5,cI,nF4,nS4,(D.grow gl A).app (.one (ru.grow gl A)),by simp;lia,q6⟩;lia
 .have e:i=xs.length:=∅
  subst e;refine .inl ⟨(hw L RH _).2 hvl.symm,?_⟩;rw[HR]at q2;exact q2 P S2 L N I P S2 L N (bC.refl ..) l (λb=>b=l) ⟨⟨B,el,n⟩,λb=>Iff.rfl⟩ λb z=>by subst z;exact⟨hH,nF2,nS2,_,el,trivial⟩
theorem jI{j d:az}{m pos:Pos}{i:List az}{o:af->R (List PV)}{dt:af->R Bool}{de:af->R PV}(B:jo X c x N' cap)(v:X.calm=ah)(t:DI X E (.Name x m) d o)(q:∀C a b g f,DF (bX X c N' C a b g f) E0 i dt) (u:∀C a b g f,DE (bX X c N' C a b g f) E0 j de) (r:∀x,rn d X.env x=pure x:=by intro _;rfl):DN X E (.ListComp j [⟨.Name x m,d,i,0⟩] c pos) (cU cap o dt de):=λF S w l H Q p h=>cz (MN (wi:=oF X (.Name x m) d) (ts:=λl H Q=>∀C a b g f,qN (bX X c N' C a b g f) i l H Q) (te:=λl H Q=>∀C a b g f,ig (bX X c N' C a b g f) j l H Q) (pos:=pos) B v BG (λC a b g f n s l H Q I h=>(h C a b g f).run n s I) (λC a b g f n s l H Q I h=>(h C a b g f).run n s I) r) (MY t q u p h)
end
theorem KF(x y:Tx):tS x++tS y=tS (x++y):=by
 show(⟨x.toArray++y.toArray⟩:Str)=⟨(x++y).toArray⟩
 simp
def aU:PV->PV->Option PV
 |.int i,.int j=>aa (.int (i+j))
 |.str x,.str y=>if(x++y).length<=bS then aa (.str (x++y))else ac
 |.tup xs,.tup ys=>if xs≠[]/\ys≠[]/\xs.length+ys.length<=1000 then aa (.tup (xs++ys))else ac
 |.lst xs,.lst ys=>if xs.length+ys.length<=bS then aa (.lst (xs++ys))else ac
 |_,_=>ac
def fz:PV->PV->Option PV
 |.int i,.int j=>aa (.int (i-j))
 |_,_=>ac
def oz(i:Int):Bool:=decide (-(2^64)<i/\i<2^64)
def eM:PV->PV->Option PV
 |.int i,.int j=>if oz i||oz j then aa (.int (i*j))else ac
 |.str x,.int j=>if 0<=j/\j<=100/\x.length<=100 then aa (.str (a8 j.toNat x).flatten)else ac
 |_,_=>ac
def gx:PV->PV->Option PV
 |.int i,.int j=>if 0<j then aa (.int (i % j))else ac
 |_,_=>ac
def il:PV->Option PV
 |.int i=>aa (.int (-i))
 |_=>ac
def Fc:R2:=λx y H Q=>∃l b xs a,x=.ref l/\y=.ref b/\Rd H l (.lst xs)/\Rd H b (.lst a)/\xs.length+a.length<=bq/\∀p,H p=ac->Q (.ref p) (upd H p (.lst (xs++a)))
def vT(K:aw):R2:=λx y H Q=>((k7 λi j=>V.int (i+j)) x y H Q\/∃i j,x=.str i/\y=.str j/\i.length+j.length<=bq/\Q (.str (i++j)) H)\/(D5 K x y H Q\/Fc x y H Q)
def Fu:R2:=λx y H Q=>rI AJ (λi j=>.int (i*j)) x y H Q\/∃(z:Tx) (n:Nat),x=tV z/\y=.int n/\n<=100/\z.length<=100/\Q (tV (a8 n z).flatten) H
section
variable{X:Cx}{K:aw}
theorem ma:P2 K (k7 λi j=>.int (i-j)) fz:=λF H x y v u Q pv b a e q=>by
 unfold fz at e;split at e
 .cases e;exact⟨_,_,b,a,q _ F H (Al.refl ..) rfl⟩
 .cases e
theorem uc:P2 K (rI (λ_ j=>0<j) λi j=>.int (i % j)) gx:=λF H x y v u Q pv b a e q=>by
 unfold gx at e;split at e
 .split at e
  .cases e;exact⟨_,_,b,a,by assumption,q _ F H (Al.refl ..) rfl⟩
  .cases e
 .cases e
theorem re:P1 K (rU λi=>.int (-i)) il:=λF H x v Q pv a e q=>by
 unfold il at e;split at e
 .cases e;exact⟨_,a,q _ F H (Al.refl ..) rfl⟩
 .cases e
theorem A1{c:List (ae×Obj)}{b:St}{H:Hp}{s:ao}{l:ae}{xs:List V}(I:Inv X c b H s)(h:Rd H l (.lst xs)):∃(a:List ai) (n:Nat),bI xs a/\s.heap.get? l=aa {cls:=.type "list",data:=.seq a.toArray n}/\xs.length<=bq:=by obtain⟨z,a,n,r,e⟩:=h.ok I.hok;exact⟨a,n,r,e,z⟩
theorem Lx:bR X (gu .Add) Fc:=by
 intro B s p H x y v u Q I i g h;obtain⟨l,b,xs,t,rfl,rfl,f,j,A,q⟩:=h;cases i;cases g;obtain⟨c,n,r,e,_⟩:=A1 I f;obtain⟨a,w,d,o,_⟩:=A1 I j;have f:=r.length;have z:=d.length;refine PySem.P.add_list e o ?_ (by rw[cO,cO];lia);have m:c.toArray++a.toArray=(c++a).toArray:=by simp
 rw[m];exact⟨.ref _,_,I.lnew (t':=s.toks) (r.append d) (by rw[dy];lia),rfl,q _ I.fresh⟩
theorem cW:bR X (gu .Add) (vT X.K):=(SJ.or Lh).or (SC.or Lx)
theorem cV:P2 K (vT K) aU:=λF H x y v u Q pv l j e q=>by
 unfold aU at e;split at e
 .cases e;exact .inl (.inl ⟨_,_,l,j,q _ F H (Al.refl ..) rfl⟩)
 .rename_i x y;split at e
  .rename_i c;cases e;refine .inl (.inr ⟨_,_,l.1,j.1,?_,?_⟩)
   .rw[jP,jP];rw[dy]at c;exact dr c mx
   .exact q _ F H (Al.refl ..) ⟨by rw[KF];rfl,c⟩
  .cases e
 .rename_i xs s;split at e
  .rename_i c;cases e;obtain⟨a,n,rfl,r,f⟩:=l;obtain⟨b,m,rfl,o,d⟩:=j;have h:=f.len;have g:=d.len;refine .inr (.inl ⟨a,b,n,m,rfl,rfl,cG.of r,cG.of o,λz=>c.1 (by rw[z]at h;exact pY h.symm),by rw[h,g];exact zZ c.2.2,λz=>absurd (by rw[z]at g;exact pY g.symm) c.2.1,λ_ p i=>?_⟩);exact q _ F _ (Al.new0 i) ⟨p,_,rfl,cI,(Al.new0 i).reps (f.app d)⟩
  .cases e
 .rename_i xs s;split at e
  .rename_i c;cases e;obtain⟨a,n,rfl,r,w,f⟩:=l;obtain⟨b,m,rfl,o,t,d⟩:=j;have h:=f.len;have g:=d.len;refine .inr (.inr ⟨a,b,n,m,rfl,rfl,r,o,by rw[h,g];exact dr c mx,λp i=>?_⟩);exact q _ _ _ (Al.new i) ⟨p,_,rfl,.inl cI,.inr rfl,(Al.new i).reps (f.app d)⟩
  .cases e
 .cases e
theorem n9:bR X (gu .Mult) Fu:=Su.or Ob
theorem nU:P2 K Fu eM:=λF H x y v u Q pv b a e q=>by
 unfold eM at e;split at e
 .rename_i i j;split at e
  .rename_i h;cases e;refine .inl ⟨_,_,b,a,?_,q _ F H (Al.refl ..) rfl⟩;rw[Ce]at h;exact h.imp of_decide_eq_true of_decide_eq_true
  .cases e
 .rename_i x j;split at e
  .rename_i h;cases e;refine .inr ⟨x,j.toNat,b.1,?_,∅,h.2.2,q _ F H (Al.refl ..) ⟨rfl,?_⟩⟩
   .rw[show u=V.int j from a];congr 1;lia
   .rw[wl];have c:j.toNat<=100:=∅
    exact dr (ut c h.2.2) (by decide)
  .cases e
 .cases e
def bx(f:Int->Int->Bool):PV->PV->Option PV
 |.int i,.int j=>aa (.bl (f i j))
 |_,_=>ac
theorem eC{f:Int->Int->Bool}:P2 K (k7 λi j=>.bl (f i j)) (bx f):=λF H x y v u Q pv b a e q=>by
 unfold bx at e;split at e
 .cases e;exact⟨_,_,b,a,q _ F H (Al.refl ..) rfl⟩
 .cases e
def dS:PV->Option V
 |.non=>aa .non
 |.bl b=>aa (.bl b)
 |.int i=>aa (.int i)
 |.str x=>aa (tV x)
 |_=>ac
theorem jl{H:Hp}{F:ae->Prop}{x:PV}{v w:V}(r:bg K H F x v)(e:dS x=aa w):v=w:=by
 cases x <;> simp[dS]at e <;> subst e
 .exact r
 .exact r
 .exact r
 .exact r.1
theorem sq{x:PV}{w:V}(e:dS x=aa w):gf w=ah:=by
 cases x <;> simp[dS]at e <;> subst e <;> rfl
mutual
def cp:PV->PV->Option Bool
 |.tup xs,y=>match y with
  |.tup a=>fq xs a
  |_=>ac
 |.lst xs,y=>match y with
  |.lst a=>fq xs a
  |_=>ac
 |.non,y=>(dS y).map (fh .non)
 |.bl b,y=>(dS y).map (fh (.bl b))
 |.int i,y=>(dS y).map (fh (.int i))
 |.str x,y=>(dS y).map (fh (tV x))
 |.raw _,_=>ac
 |.exc _,_=>ac
def fq:List PV->List PV->Option Bool
 |[],c=>aa c.isEmpty
 |x::xs,c=>match c with
  |[]=>aa aj
  |y::c=>(cp x y).bind λa=>(fq xs c).map λb=>a&&b
end
mutual
def dep:PV->Nat
 |.tup xs=>fN xs+1
 |.lst xs=>fN xs+1
 |_=>0
def fN:List PV->Nat
 |[]=>0
 |x::xs=>max (dep x) (fN xs)
end
theorem G7{H:Hp}{d a:Nat}{x y:V}{k:Bool}(h:ii K H d x y k)(l:d<=a):ii K H a x y k:=λX g i b s u v A I f c j=>h X g i b s u v A I f c ∅
theorem wC{H:Hp}{F:ae->Prop}{w:V}{y:PV}{u:V}{k:Bool}{d:Nat}(b:gf w=ah)(e:(dS y).map (fh w)=aa k)(a:bg K H F y u):ii K H d w u k:=by
 cases q:dS y with
 |none=>rw[q]at e;cases e
 |some z=>
  rw[q]at e;cases e;rw[jl a q];exact Du b (sq q)
theorem JG{H:Hp}{a:ae}{xs b:List V}(h:Rd H a (.lst xs))(g:Rd H a (.lst b)):xs=b:=by
 rcases h with h|⟨o,h⟩ <;> rcases g with g|⟨c,g⟩ <;> rw[h]at g <;> cases g <;> rfl
theorem Rp{a:Bool}{e:Nat->Bool}{n m:Nat}:fQ (λj=>if j=0 then a else e (j-1)) (n+1) (m+1)=(a&&fQ e n m):=by
 unfold fQ;rw[show min (n+1) (m+1)=min n m+1 by lia,B_,mW,pX,if_pos rfl,Bool.and_assoc];congr 1;congr 1
 .simp
mutual
theorem zV{H:Hp}{F:ae->Prop}:∀(x y:PV) {v:V}{k:Bool},cp x y=aa k->bg K H F x v->bg K H F y v->k=ah
 |.tup xs,y,v,k,e,d,c=>by
  unfold cp at e;split at e
  .obtain⟨a,m,rfl,i,f⟩:=d;obtain⟨b,l,j,g,h⟩:=c;cases j;rw[i]at g;cases g;exact AT xs _ e f h
  .cases e
 |.lst xs,y,v,k,e,d,c=>by
  unfold cp at e;split at e
  .obtain⟨a,m,rfl,i,_,f⟩:=d;obtain⟨b,l,j,g,_,h⟩:=c;cases j;rw[JG i g]at f;exact AT xs _ e f h
  .cases e
 |.non,y,v,k,e,d,c=>by
  unfold cp at e;cases q:dS y with
  |none=>rw[q]at e;cases e
  |some z=>rw[q]at e;cases e;rw[<-jl c q,show v=V.non from d];rfl
 |.bl b,y,v,k,e,d,c=>by
  unfold cp at e;cases q:dS y with
  |none=>rw[q]at e;cases e
  |some z=>rw[q]at e;cases e;rw[<-jl c q,show v=V.bl b from d];exact beq_self_eq_true b
 |.int b,y,v,k,e,d,c=>by
  unfold cp at e;cases q:dS y with
  |none=>rw[q]at e;cases e
  |some z=>rw[q]at e;cases e;rw[<-jl c q,show v=V.int b from d];exact beq_self_eq_true b
 |.str b,y,v,k,e,d,c=>by
  unfold cp at e;cases q:dS y with
  |none=>rw[q]at e;cases e
  |some z=>rw[q]at e;cases e;rw[<-jl c q,show v=tV b from d.1];exact beq_self_eq_true (tS b)
 |.raw _,_,_,_,e,_,_=>by unfold cp at e;cases e
 |.exc _,_,_,_,e,_,_=>by unfold cp at e;cases e
theorem AT{H:Hp}{F:ae->Prop}:∀(xs c:List PV) {d:List V}{k:Bool},fq xs c=aa k->Reps K H F xs d->Reps K H F c d->k=ah
 |[],c,d,k,e,h,f=>by
  unfold fq at e;rw[show d=[] from h]at f;have:=f.len;cases c with
  |nil=>cases e;rfl
  |cons=>simp at this
 |x::xs,c,d,k,e,h,f=>by
  unfold fq at e;obtain⟨v,r,rfl,l,j⟩:=h;cases c with
  |nil=>have:=f.len;simp at this
  |cons y c=>
   obtain⟨p,q,o,n,m⟩:=f;cases o;simp only at e;cases g:cp x y with
   |none=>rw[g]at e;cases e
   |some a=>
    cases i:fq xs c with
    |none=>rw[g,i]at e;cases e
    |some b=>
     rw[g,i]at e;cases e;rw[zV x y g l n,AT xs c i j m];rfl
end
mutual
theorem RN{H:Hp}{F:ae->Prop}:∀(x y:PV) {v u:V}{k:Bool},cp x y=aa k->bg K H F x v->bg K H F y u->ii K H (dep x) v u k
 |.tup xs,y,v,u,k,e,d,c=>by
  have o:=e;unfold cp at e;split at e
  .rename_i h;obtain⟨a,q,rfl,n,j⟩:=id d;obtain⟨b,p,rfl,m,i⟩:=id c;by_cases g:a=b
   .subst g;rw[zV _ _ o d c];exact De
   .obtain⟨f,l,rfl⟩:=tF xs h e j i;unfold dep;exact KW (cG.of n) (cG.of m) g l
  .cases e
 |.lst xs,y,v,u,k,e,d,c=>by
  have o:=e;unfold cp at e;split at e
  .rename_i h;obtain⟨a,q,rfl,n,_,j⟩:=id d;obtain⟨b,p,rfl,m,_,i⟩:=id c;by_cases g:a=b
   .subst g;rw[zV _ _ o d c];exact De
   .obtain⟨f,l,rfl⟩:=tF xs h e j i;unfold dep;exact IN (.inl n) (.inl m) g l
  .cases e
 |.non,y,v,u,k,e,d,c=>by unfold cp at e;rw[show v=V.non from d];exact wC rfl e c
 |.bl b,y,v,u,k,e,d,c=>by unfold cp at e;rw[show v=V.bl b from d];exact wC rfl e c
 |.int b,y,v,u,k,e,d,c=>by unfold cp at e;rw[show v=V.int b from d];exact wC rfl e c
 |.str b,y,v,u,k,e,d,c=>by unfold cp at e;rw[show v=tV b from d.1];exact wC rfl e c
 |.raw _,_,_,_,_,e,_,_=>by unfold cp at e;cases e
 |.exc _,_,_,_,_,e,_,_=>by unfold cp at e;cases e
theorem tF{H:Hp}{F:ae->Prop}:∀(xs c:List PV) {d g:List V}{k:Bool},fq xs c=aa k->Reps K H F xs d->Reps K H F c g -> ∃f:Nat->Bool,(∀(j:Nat) x y,d[j]?=aa x->g[j]?=aa y->ii K H (fN xs) x y (f j))/\k=fQ f d.length g.length
 |[],c,d,g,k,e,m,i=>by
  unfold fq at e;rw[show d=[] from m];refine⟨λ_=>ah,λj x y h=>by simp at h,?_⟩;have:=i.len;cases e;unfold fQ;cases c with
  |nil=>simp at this;simp[this]
  |cons=>rw[this];simp
 |x::xs,c,d,g,k,e,m,i=>by
  unfold fq at e;obtain⟨v,r,rfl,z,w⟩:=m;cases c with
  |nil=>
   cases e;rw[show g=[] from i];exact⟨λ_=>ah,λj x y _ h=>by simp at h,by simp[fQ]⟩
  |cons y c=>
   obtain⟨u,C,rfl,B,A⟩:=i;simp only at e;cases l:cp x y with
   |none=>rw[l]at e;cases e
   |some a=>
    cases n:fq xs c with
    |none=>rw[l,n]at e;cases e
    |some b=>
     rw[l,n]at e;cases e;obtain⟨f,t,rfl⟩:=tF xs c n w A;refine⟨λj=>if j=0 then a else f (j-1),λj p q s o=>?_,by rw[eR,eR,Rp]⟩;cases j with
     |zero=>simp at s o;subst s o;show ii K H _ _ _ (if(0:Nat)=0 then a else f (0-1));rw[if_pos rfl];exact G7 (RN x y l z B) (by unfold fN;exact Nat.le_max_left _ _)
     |succ j=>show ii K H _ _ _ (if j+1=0 then a else f (j+1-1));rw[if_neg ∅];exact G7 (t j p q (by simpa using s) (by simpa using o)) (show fN xs<=max (dep x) (fN xs)from Nat.le_max_right _ _)
end
def eqT(neg:Bool)(x y:PV):Option PV:=match dS x,dS y with
 |some v,aa u=>if pB v u then aa (.bl (neg^^decide (v=u)))else ac
 |none,ac=>if dep x<=8 then(cp x y).map λk=>.bl (neg^^k)else ac
 |_,_=>ac
def xa(K:aw):R2:=λx y H Q=>Fg x y H Q\/sQ K aj x y H Q
def C_(K:aw):R2:=λx y H Q=>EA x y H Q\/sQ K ah x y H Q
theorem lB(a:X.A.units+64<cLine):bR X (d_ .Eq) (xa X.K):=SF.or (CY a)
theorem iE(a:X.A.units+64<cLine):bR X (d_ .NotEq) (C_ X.K):=SU.or (OL a)
theorem Gu{H:Hp}{F:ae->Prop}{x y:PV}{v u:V}{k:Bool}{Q:VK}{neg:Bool}(g:dS x=ac)(e:cp x y=aa k)(w:dep x<=8)(t:bg K H F x v)(s:bg K H F y u)(q:Q (.bl (neg^^k)) H):sQ K neg v u H Q:=by
 have c:∀{d:Bool},k=d->Q (.bl (if neg=ah then !d else d)) H:=λ{d} z=>by subst z;cases neg <;> simpa using q
 cases x with
 |tup xs=>
  unfold cp at e;split at e
  .rename_i h;obtain⟨a,j,rfl,p,m⟩:=t;obtain⟨b,i,rfl,o,l⟩:=s;obtain⟨f,n,r⟩:=tF xs h e m l;unfold dep at w;exact⟨a,b,j,i,fN xs,f,rfl,rfl,.inr ⟨cG.of p,cG.of o⟩,∅,n,c r⟩
  .cases e
 |lst xs=>
  unfold cp at e;split at e
  .rename_i h;obtain⟨a,j,rfl,p,_,m⟩:=t;obtain⟨b,i,rfl,o,_,l⟩:=s;obtain⟨f,n,r⟩:=tF xs h e m l;unfold dep at w;exact⟨a,b,j,i,fN xs,f,rfl,rfl,.inl ⟨.inl p,.inl o⟩,∅,n,c r⟩
  .cases e
 |raw _=>unfold cp at e;cases e
 |exc _=>unfold cp at e;cases e
 |non=>cases g
 |bl _=>cases g
 |int _=>cases g
 |str _=>cases g
theorem lh:P2 K (xa K) (eqT aj):=λF H x y v u Q pv g f e q=>by
 unfold eqT at e;split at e
 .rename_i a b d h;split at e
  .rename_i i;cases e;rw[jl g d,jl f h];refine .inl ⟨i,?_⟩;have:=q (.bl (decide (a=b))) F H (Al.refl ..) (by simp[bg]);exact this
  .cases e
 .rename_i d h;split at e
  .rename_i j;cases c:cp x y with
   |none=>rw[c]at e;cases e
   |some k=>
    rw[c]at e;cases e;exact .inr (Gu (neg:=aj) d c j g f (q _ F H (Al.refl ..) rfl))
  .cases e
 .cases e
theorem iM:P2 K (C_ K) (eqT ah):=λF H x y v u Q pv g f e q=>by
 unfold eqT at e;split at e
 .rename_i a b d h;split at e
  .rename_i i;cases e;rw[jl g d,jl f h];refine .inl ⟨i,?_⟩;have:=q (.bl (!decide (a=b))) F H (Al.refl ..) (by simp[bg]);exact this
  .cases e
 .rename_i d h;split at e
  .rename_i j;cases c:cp x y with
   |none=>rw[c]at e;cases e
   |some k=>
    rw[c]at e;cases e;exact .inr (Gu (neg:=ah) d c j g f (q _ F H (Al.refl ..) rfl))
  .cases e
 .cases e
end
end Pu
namespace Pu
open L2
section
variable{X:Cx}{K:aw}
def u9(i j:Tx):Bool:=!(Hg (tS j) (tS i) 0 (tS j).length 1).isEmpty
def jW:List PV->Option (List V)
 |[]=>aa []
 |x::xs=>(dS x).bind λv=>(jW xs).map λr=>v::r
theorem vp{H:Hp}{F:ae->Prop}:∀{xs:List PV}{c a:List V},Reps K H F xs c->jW xs=aa a->c=a/\a.all gf=ah
 |[],_,_,r,e=>by cases e;exact⟨r,rfl⟩
 |x::xs,_,a,⟨v,r,rfl,f,d⟩,e=>by
  unfold jW at e;cases q:dS x with
  |none=>rw[q]at e;cases e
  |some w=>
   cases b:jW xs with
   |none=>rw[q,b]at e;cases e
   |some i=>
    rw[q,b]at e;cases e;obtain⟨h,g⟩:=vp d b;exact⟨by rw[jl f q,h],by rw[mW,sq q,g];rfl⟩
def kb(neg:Bool):PV->PV->Option PV
 |.str x,.str y=>aa (.bl (neg^^u9 x y))
 |x,.lst a=>(dS x).bind λv=>(jW a).map λb=>.bl (neg^^sZ v b)
 |x,.tup a=>(dS x).bind λv=>(jW a).map λb=>.bl (neg^^sZ v b)
 |_,_=>ac
def GO(K:aw):R2:=λx y H Q=>(∃i j,x=.str i/\y=.str j/\Q (.bl (!(Hg j i 0 j.length 1).isEmpty)) H)\/Aj K aj x y H Q
theorem Gq:bR X (d_ .In) (GO X.K):=Sy.or Qk
theorem D6{H:Hp}{F:ae->Prop}{x:PV}{c:List PV}{v:V}{p:ae}{b:List V}{Q:VK}{neg:Bool}{pv:PV}(g:bg K H F x v)(i:cu K H p b\/cG K H p b)(h:Reps K H F c b)(e:((dS x).bind λv=>(jW c).map λf=>PV.bl (neg^^sZ v f))=aa pv) (q:∀w,bg K H F pv w->Q w H):Aj K neg v (.ref p) H Q:=by
 cases a:dS x with
 |none=>rw[a]at e;cases e
 |some w=>
  cases d:jW c with
  |none=>rw[a,d]at e;cases e
  |some f=>
   rw[a,d]at e;cases e;obtain⟨rfl,j⟩:=vp h d;rw[jl g a];refine⟨p,b,rfl,i,sq a,j,?_⟩;have:=q _ rfl;cases neg <;> simpa using this
theorem CO:P2 K (GO K) (kb aj):=λF H x y v u Q pv d c e q=>by
 unfold kb at e;split at e
 .cases e;exact .inl ⟨_,_,d.1,c.1,by have:=q _ F H (Al.refl ..) rfl;simpa[u9]using this⟩
 .obtain⟨a,h,rfl,g,_,f⟩:=c;exact .inr (D6 (neg:=aj) d (.inl (.inl g)) f e λw b=>q w F H (Al.refl ..) b)
 .obtain⟨a,h,rfl,g,f⟩:=c;exact .inr (D6 (neg:=aj) d (.inr (cG.of g)) f e λw b=>q w F H (Al.refl ..) b)
 .cases e
def aY:List PV->Option PV
 |[.str x]=>aa (.int x.length)
 |[.lst xs]=>aa (.int xs.length)
 |[.tup xs]=>aa (.int xs.length)
 |_=>ac
theorem gy{H:Hp}{F:ae->Prop}{x:PV}{a:List V}(r:Reps K H F [x] a):∃v,a=[v]/\bg K H F x v:=by obtain⟨v,b,rfl,d,c⟩:=r;rw[show b=[] from c];exact⟨v,rfl,d⟩
theorem dQ:PL K (λxs H Q=>∃x n,xs=[x]/\DP K x H n/\Q (.int n) H) aY:=λF H xs h Q pv c e q=>by
 unfold aY at e;split at e
 .cases e;obtain⟨v,rfl,g⟩:=gy c;rw[g.1];exact⟨_,_,rfl,⟨by rw[jP];exact dr g.2 mx,rfl⟩,by rw[jP];exact q _ F H (Al.refl ..) rfl⟩
 .cases e;obtain⟨v,rfl,a,b,rfl,f,_,d⟩:=gy c;exact⟨_,_,rfl,.inl ⟨b,.inl f,rfl⟩,by rw[d.len];exact q _ F H (Al.refl ..) rfl⟩
 .cases e;obtain⟨v,rfl,a,b,rfl,f,d⟩:=gy c;exact⟨_,_,rfl,.inr ⟨b,cG.of f,rfl⟩,by rw[d.len];exact q _ F H (Al.refl ..) rfl⟩
 .cases e
def lw:List PV->Option PO
 |[.lst xs]=>aa (.lst xs)
 |[.tup xs]=>aa (.lst xs)
 |_=>ac
theorem wB:mh K (λxs H Q=>∃p c,xs=[.ref p]/\(cu K H p c\/cG K H p c)/\∀l,H l=ac->Q (.ref l) (upd H l (.lst c))) lw:=λF H xs j Q m i h e q=>by
 unfold lw at e;split at e
 .cases e;obtain⟨v,rfl,a,d,rfl,g,_,f⟩:=gy h;exact⟨a,d,rfl,.inl (.inl g),λl b=>q l F _ _ (Al.new0 b) (vR b f) (wn b i trivial)⟩
 .cases e;obtain⟨v,rfl,a,d,rfl,g,f⟩:=gy h;exact⟨a,d,rfl,.inr (cG.of g),λl b=>q l F _ _ (Al.new0 b) (vR b f) (wn b i trivial)⟩
 .cases e
def lu:List PV->Option PV
 |[.lst xs]=>aa (.tup xs)
 |[.tup xs]=>aa (.tup xs)
 |_=>ac
theorem w6:PL K (λxs H Q=>∃p d,xs=[.ref p]/\((cu K H p d/\∀l,H l=ac->Q (.ref l) (upd H l (.tup d)))\/(cG K H p d/\Q (.ref p) H))) lu:=λF H xs i Q pv g e q=>by
 unfold lu at e;split at e
 .cases e;obtain⟨v,rfl,a,b,rfl,c,_,f⟩:=gy g;exact⟨a,b,rfl,.inl ⟨.inl c,λl h=>q _ F _ (Al.new0 h) ⟨l,b,rfl,cI,(Al.new0 h).reps f⟩⟩⟩
 .cases e;obtain⟨v,rfl,a,b,rfl,c,f⟩:=gy g;exact⟨a,b,rfl,.inr ⟨cG.of c,q _ F H (Al.refl ..) ⟨a,b,rfl,c,f⟩⟩⟩
 .cases e
def fu:List PV->Option (List Tx)
 |[]=>aa []
 |.str x::xs=>(fu xs).map (x::·)
 |_=>ac
def ap(ls:List Tx):List PV:=ls.map .str
theorem o_(a:List Tx):fu (ap a)=aa a:=by
 induction a with
 |nil=>rfl
 |cons x a b=>show(fu (ap a)).map (x::·)=_;rw[b];rfl
theorem sv:∀{xs:List PV}{a:List Tx},fu xs=aa a->xs=ap a
 |[],a,e=>by cases e;rfl
 |.str x::xs,a,e=>by
  unfold fu at e;cases q:fu xs with
  |none=>rw[q]at e;cases e
  |some r=>rw[q]at e;cases e;rw[sv q];rfl
 |.non::_,_,e=>by cases e
 |.bl _::_,_,e=>by cases e
 |.int _::_,_,e=>by cases e
 |.tup _::_,_,e=>by cases e
 |.lst _::_,_,e=>by cases e
 |.raw _::_,_,e=>by cases e
 |.exc _::_,_,e=>by cases e
theorem Sv{H:Hp}{F:ae->Prop}:∀{a:List Tx}{b:List V},Reps K H F (ap a) b↔b=df a/\∀x∈a,x.length<=bS
 |[],b=>by simp[ap,Reps,df]
 |x::a,b=>by
  show(∃v r,b=v::r/\(v=tV x/\x.length<=bS)/\Reps K H F (ap a) r)↔_;constructor
  .rintro⟨v,r,rfl,⟨rfl,f⟩,h2⟩;obtain⟨rfl,d⟩:=Sv.mp h2;exact⟨rfl,λy c=>by
    rcases bV.mp c with rfl|c
    .exact f
    .exact d y c⟩
  .rintro⟨rfl,h⟩;exact⟨tV x,df a,rfl,⟨rfl,h x (by simp)⟩,Sv.mpr ⟨rfl,λy c=>h y (by simp[c])⟩⟩
def jV:List PV->Option PO
 |[.lst xs]=>(fu xs).bind λa=>if a.length<64 then aa (.lst (ap (bG a)))else ac
 |[.tup xs]=>(fu xs).bind λa=>if a.length<64 then aa (.lst (ap (bG a)))else ac
 |_=>ac
theorem sO:mh K (λxs H Q=>∃(p:ae) (b:List Tx),xs=[.ref p]/\(cu K H p (df b)\/cG K H p (df b))/\b.length<64/\∀l,H l=ac->Q (.ref l) (upd H l (.lst (df (bG b))))) jV:=λF H xs w Q n u m e q=>by
 have f:∀{g:List PV}{c:List V}{a:ae},((fu g).bind λb=>if b.length<64 then aa (PO.lst (ap (bG b)))else ac)=aa n->Reps K H F g c->(cu K H a c\/cG K H a c) ->
   ∃(p:ae) (b:List Tx),[V.ref a]=[.ref p]/\(cu K H p (df b)\/cG K H p (df b))/\b.length<64/\∀l,H l=ac->Q (.ref l) (upd H l (.lst (df (bG b)))):=λ{g c a} e d s=>by
  cases h:fu g with
  |none=>rw[h]at e;cases e
  |some b=>
   rw[h]at e;simp only[g9]at e;split at e
   .rename_i o;cases e;rw[sv h]at d;obtain⟨rfl,t⟩:=Sv.mp d;refine⟨a,b,rfl,s,o,λl i=>q l F _ _ (Al.new0 i) (vR i (Sv.mpr ⟨rfl,λx r=>t x ((nI b).mem_iff.mp r)⟩)) (wn i u trivial)⟩
   .cases e
 unfold jV at e;split at e
 .obtain⟨v,rfl,a,c,rfl,j,_,d⟩:=gy m;exact f e d (.inl (.inl j))
 .obtain⟨v,rfl,a,c,rfl,j,d⟩:=gy m;exact f e d (.inr (cG.of j))
 .cases e
def lY:List PV->Option (List Bool)
 |[]=>aa []
 |.bl b::xs=>(lY xs).map (b::·)
 |_=>ac
theorem EV{H:Hp}{F:ae->Prop}:∀{xs:List PV}{a:List V}{bs:List Bool},Reps K H F xs a->lY xs=aa bs->a=bs.map V.bl
 |[],_,_,r,e=>by cases e;exact r
 |.bl b::xs,_,bs,⟨v,r,rfl,d,c⟩,e=>by
  unfold lY at e;cases q:lY xs with
  |none=>rw[q]at e;cases e
  |some f=>rw[q]at e;cases e;rw[EV c q,show v=V.bl b from d];rfl
 |.non::_,_,_,_,e=>by cases e
 |.str _::_,_,_,_,e=>by cases e
 |.int _::_,_,_,_,e=>by cases e
 |.tup _::_,_,_,_,e=>by cases e
 |.lst _::_,_,_,_,e=>by cases e
 |.raw _::_,_,_,_,e=>by cases e
 |.exc _::_,_,_,_,e=>by cases e
def mB:List PV->Option PV
 |[.lst xs]=>(lY xs).map λbs=>.bl (bs.all id)
 |_=>ac
theorem xR:PL K (λxs H Q=>∃(p:ae) (bs:List Bool),xs=[.ref p]/\cu K H p (bs.map V.bl)/\Q (.bl (bs.all id)) H) mB:=λF H xs h Q pv f e q=>by
 unfold mB at e;split at e
 .rename_i d;cases b:lY d with
  |none=>rw[b]at e;cases e
  |some bs=>
   rw[b]at e;cases e;obtain⟨v,rfl,a,i,rfl,c,_,g⟩:=gy f;rw[EV g b]at c;exact⟨a,bs,rfl,.inl c,q _ F H (Al.refl ..) rfl⟩
 .cases e
def oE:PV->Option String
 |.non=>aa "NoneType"
 |.bl _=>aa "bool"
 |.int _=>aa "int"
 |.str _=>aa "str"
 |.tup _=>aa "tuple"
 |.lst _=>aa "list"
 |_=>ac
def bQ:List PV->Option PV
 |[x,.raw (.ty T)]=>(oE x).bind λt=>(cK [] (.type t) (.type T)).map λb=>.bl b
 |_=>ac
theorem iC:eV X (.builtin "isinstance") (λxs H Q=>∃x t T b,xs=[x,.ty T]/\ix X.K H x (.type t)/\cK X.K (.type t) (.type T)=aa b/\Q (.bl b) H):=by
 intro l s g H xs i Q I r h;obtain⟨x,t,T,b,rfl,ty,e,q⟩:=h;cases r with
 |cons f d=>
  cases d with
  |cons c a=>
   cases a;cases c;exact LU I f ty e λj=>⟨.bl b,H,I.tok _,rfl,q⟩
theorem MC{H:Hp}{F:ae->Prop}{x:PV}{v:V}{t:String}(r:bg K H F x v)(e:oE x=aa t):ix K H v (.type t):=by
 cases x with
 |non=>cases e;rw[show v=V.non from r];exact .non
 |bl b=>cases e;rw[show v=V.bl b from r];exact .bl b
 |int b=>cases e;rw[show v=V.int b from r];exact .int b
 |str b=>cases e;rw[show v=tV b from r.1];exact .str _
 |tup xs=>cases e;obtain⟨a,d,rfl,c,_⟩:=r;exact .tup c
 |lst xs=>
  cases e;obtain⟨a,d,rfl,c,_⟩:=r;rcases c with c|⟨o,c⟩
  .exact .lst c
  .exact .frz c
 |raw _=>cases e
 |exc _=>cases e
theorem iJ:PL K (λxs H Q=>∃x t T b,xs=[x,.ty T]/\ix K H x (.type t)/\cK K (.type t) (.type T)=aa b/\Q (.bl b) H) bQ:=λF H xs i Q pv d e q=>by
 unfold bQ at e;split at e
 .rename_i x T;cases a:oE x with
  |none=>rw[a]at e;cases e
  |some t=>
   cases c:cK [] (.type t) (.type T)with
   |none=>rw[a,g9,c]at e;cases e
   |some b=>
    rw[a,g9,c]at e;cases e;obtain⟨v,j,rfl,h,g⟩:=d;obtain⟨u,rfl,f⟩:=gy g;rw[show u=V.ty T from f];exact⟨v,t,T,b,rfl,MC h a,c,q _ F H (Al.refl ..) rfl⟩
 .cases e
theorem iF{E:XK}{x:Str}{T:String}{f:Pos}(c:X.mg x=ac)(a:d9 x=aa (.type T))(d:Gl X x:=by rfl)(b:x≠"__name__":=by decide)(g:(x==("__debug__":Str))=aj:=by decide):DE X E (.Name x f) (dC (.raw (.ty T))):=λF S i h H Q r q=>cz (Mr (v:=.ty T) d c a rfl b g) (q F S H r (bC.refl ..) _ rfl)
def bE:PV->PV->Option PV
 |.lst xs,.int i=>dU xs i
 |.tup xs,.int i=>dU xs i
 |.str x,.int i=>(dU x i).map λc=>.str [c]
 |_,_=>ac
theorem Dk{H:Hp}{F:ae->Prop}{xs:List PV}{a:List V}{i:Int}{x:PV}(r:Reps K H F xs a)(e:dU xs i=aa x):∃v,dU a i=aa v/\bg K H F x v:=by
 unfold dU at e ⊢;rw[r.len];cases q:nX xs.length i with
 |none=>rw[q]at e;cases e
 |some j=>rw[q]at e;exact r.get e
theorem eF:P2 K (Go K) bE:=λF H x y v u Q pv b f e q=>by
 unfold bE at e;split at e
 .rename_i xs i;obtain⟨a,d,rfl,j,_,g⟩:=b;obtain⟨w,m,l⟩:=Dk g e;exact .inl ⟨a,d,i,w,rfl,f,.inl j,m,q _ F H (Al.refl ..) l⟩
 .rename_i xs i;obtain⟨a,d,rfl,j,g⟩:=b;obtain⟨w,m,l⟩:=Dk g e;exact .inr (.inl ⟨a,d,i,w,rfl,f,cG.of j,m,q _ F H (Al.refl ..) l⟩)
 .rename_i x i;cases h:dU x i with
  |none=>rw[h]at e;cases e
  |some c=>
   rw[h]at e;cases e;rw[b.1];exact .inr (.inr ⟨_,i,c,rfl,f,by rw[jP];exact dr b.2 mx,by rw[kB];exact h,q _ F H (Al.refl ..) ⟨rfl,by show 1<=bS;decide⟩⟩)
 .cases e
def cE{a:Type}(xs:List a)(b c:Option Int):List a:=(xs.drop (HT.sIx xs.length 0 b)).take (HT.sIx xs.length xs.length c-HT.sIx xs.length 0 b)
theorem Ff{a:Type}(xs:List a)(b c:Option Int):(cE xs b c).length<=xs.length:=by unfold cE;rw[jy,kL];lia
def b7:PV->Option Int->Option Int->Option PV
 |.str x,a,b=>aa (.str (cE x a b))
 |.lst xs,a,b=>aa (.lst (cE xs a b))
 |.tup xs,a,b=>if HT.sIx xs.length 0 a=0/\HT.sIx xs.length xs.length b=xs.length then ac else aa (.tup (cE xs a b))
 |_,_,_=>ac
def v7(K:aw):V->Option Int->Option Int->Hp->VK->Prop:=λx a b H Q=>EZ x a b H Q\/(EE K x a b H Q\/FV K x a b H Q)
theorem iu:kn X (v7 X.K):=Sq.or (Sw.or LK)
theorem DJ{H:Hp}{F:ae->Prop}{xs:List PV}{a:List V}(r:Reps K H F xs a)(b c:Option Int):Reps K H F (cE xs b c) (nN a b c):=by unfold cE nN;rw[r.len];exact(r.drop _).take _
theorem gX:At K (v7 K) b7:=λF H x h i v Q pv b e q=>by
 unfold b7 at e;split at e
 .cases e;rw[b.1];refine .inl ⟨_,rfl,by rw[jP];exact dr b.2 mx,?_⟩;refine q _ F H (Al.refl ..) ⟨?_,dr (Ff ..) b.2⟩;unfold lg cE;rw[jP,kB];rfl
 .cases e;obtain⟨a,f,rfl,g,_,d⟩:=b;exact .inr (.inl ⟨a,f,rfl,.inl g,λp c=>q _ _ _ (Al.new c) ⟨p,_,rfl,.inl cI,.inr rfl,(Al.new c).reps (DJ d h i)⟩⟩)
 .split at e
  .cases e
  .rename_i j;cases e;obtain⟨a,f,rfl,g,d⟩:=b;exact .inr (.inr ⟨a,f,rfl,cG.of g,by rw[d.len];exact j,λp c=>q _ _ _ (Al.new0 c) ⟨p,_,rfl,cI,(Al.new0 c).reps (DJ d h i)⟩⟩)
 .cases e
variable{E:XK}{g l a b:az}{d:af->R PV}{m:af->R (List PV)}{p f:Pos}
def ox:PV->Option (List PV)
 |.lst xs=>aa xs
 |.tup xs=>aa xs
 |.str x=>aa (x.map λc=>.str [c])
 |_=>ac
def cL(d:af->R PV):af->R (List PV):=λε=>(d ε).bind λx c=>aR (ox x) c
theorem Es{H:Hp}{F:ae->Prop}:∀(x:Tx),Reps K H F (x.map λc=>PV.str [c]) (x.map sg)
 |[]=>rfl
 |c::x=>⟨sg c,x.map sg,rfl,⟨rfl,by show 1<=bS;decide⟩,Es x⟩
theorem j0(he:DE X E l d):DI X E g l (cL d):=λF S ε Z H Rr rl h=>Bx.mk λag s I=>by
 have w:=he F S ε Z H (λv r=>∃B D u x,aP X.K B D u Z r/\bg X.K r B x v/\Ok X.K E Z B D r (aR (ox x) u) (λpvs _ F' S' H'=>∀J L RR,Reps X.K H' F' pvs L->L.length<=bq->Walk J L RR->(∀S'' F'' Y,bC (U S') (U S'') F' F'' H' Y->RR Y)->Rr J H')) rl
  ((Ok.bind h).imp λx u B D r G g1 q v N=>⟨B,D,u,x,G,N,q⟩)
 refine bf (w.run ag s I) λv c ⟨x,r,y,rx,B,D,u,pv,G,N,q⟩=>?_;cases pv with
 |lst xs=>
  obtain⟨a,M,rfl,C,hF,ra⟩:=N;cases rx;obtain⟨O,rr,pp,P⟩:=y.list (.inl C);refine Ca pp.isList ?_;refine⟨c.heap.objs.size,[c.heap.objs.size],_,_,r,rfl,y.kept (t':=c.toks) λb o e=>bp _ e,Nt a _,⟨_,cD _ rfl,rfl,rfl⟩,λb T=>?_,q B D r G (bC.refl ..) (zg X.K a) M (λH=>cu X.K H a M) ra P NN λS2 F2 H2 g2=>.inl (g2.lst G.fit hF C)⟩;have e:b=c.heap.objs.size:=by simpa using T
  subst e;exact y.fpOk (bv _) (y.hok.fresh (bv _))
 |tup xs=>
  obtain⟨a,M,rfl,C,ra⟩:=N;cases rx;obtain⟨O,rr,pp,P⟩:=y.tuple (cG.of C);refine Ck (show c.heap.IsTuple a O.toArray from pp) ?_;refine⟨c.heap.objs.size,[c.heap.objs.size],_,_,r,rfl,y.kept (t':=c.toks) λb o e=>bp _ e,Qg a _,⟨_,cD _ rfl,rfl,rfl⟩,λb T=>?_,q B D r G (bC.refl ..) (AN X.K a) M (λH=>cG X.K H a M) ra P Jh λS2 F2 H2 g2=>cG.of (g2.imm G.fit C id)⟩;have e:b=c.heap.objs.size:=by simpa using T
  subst e;exact y.fpOk (bv _) (y.hok.fresh (bv _))
 |str z=>
  obtain⟨rfl,P⟩:=N;obtain⟨t,rfl⟩:=rx;have qq:Rr (t8 (tS z)) r:=q B D r G (bC.refl ..) (t8 (tS z)) (z.map sg) (λ_=>True) (Es z) (by rw[c0];exact dr P mx) (by have:=Oq (z:=tS z);rw[kB]at this;exact this) λ_ _ _ _=>trivial;have W:∀(n:String) (j:Nat->aD->Prop),(∀i h,j i h->∃o n L,h.get? c.heap.objs.size=aa o/\o.cls=.type n/\o.data=.fields L /\ ["enumerate","zip","dict_itemiterator","dict_reverseitemiterator","odict_iterator","itertools.zip_longest","itertools.pairwise"].contains n=aj) ->
    (∀(A:a9) (i:Nat) (s:ao) (Q:ai->ao->Prop) (E:ai->ao->Prop),j i s.heap->Q (.ref c.heap.objs.size) s->ax (aA X.prog X.w) A (oM (.ref c.heap.objs.size)) Q E s) ->
    (∀A:a9,A.handled=ac->Walks X.prog X.w A c.heap.objs.size [c.heap.objs.size] [c.heap.objs.size] (tS z).cps.size (SignAt (tS z)) j) ->
    j 0 (c.heap.push {cls:=.type n,data:=.fields #[.str (tS z) t,.int 0 0]}) ->
    vt X ag Z g Rr (.ref c.heap.objs.size) {c with heap:=c.heap.push {cls:=.type n,data:=.fields #[.str (tS z) t,.int 0 0]}}:=λn j q h2 h3 h4=>by
   refine⟨c.heap.objs.size,[c.heap.objs.size],j,t8 (tS z),r,rfl,y.kept (t':=c.toks) λb o e=>bp _ e,PY q h2 h3,h4,λb T=>?_,qq⟩;have e:b=c.heap.objs.size:=by simpa using T
   subst e;exact y.fpOk (bv _) (y.hok.fresh (bv _))
  cases C:(tS z).cps.all (· < 128)
  .refine wpAny_pyIter_wide C (W "str_iterator" (λi h=>h.IsStrIter c.heap.objs.size "str_iterator" (tS z) t i) (λi h ⟨o,e1,e2,e3⟩=>⟨o,_,_,e1,e2,e3,by decide⟩) (λA i s Q E st h=>wpAny_pyIter_striter_wide st h) (λA' hA=>Walks.strWide hA _ (tS z) t) ⟨_,cD _ rfl,rfl,rfl⟩)
  .refine wpAny_pyIter_ascii C (W "str_ascii_iterator" (λi h=>h.IsStrIter c.heap.objs.size "str_ascii_iterator" (tS z) t i) (λi h ⟨o,e1,e2,e3⟩=>⟨o,_,_,e1,e2,e3,by decide⟩) (λA i s Q E st h=>wpAny_pyIter_striter_ascii st h) (λA' hA=>Walks.strAscii hA _ (tS z) t) ⟨_,cD _ rfl,rfl,rfl⟩)
 |non=>exact(show False from q).elim
 |bl _=>exact(show False from q).elim
 |int _=>exact(show False from q).elim
 |raw _=>exact(show False from q).elim
 |exc _=>exact(show False from q).elim
def cf(c:Int)(n:Nat):List PV:=(cy n).map λi=>PV.int (c+(i:Nat))
theorem Dt{H:Hp}{F:ae->Prop}(c:Int)(n:Nat):Reps K H F (cf c n) (qF c n):=by
 unfold cf qF
 induction (cy n)with
 |nil=>rfl
 |cons x xs h=>exact⟨_,_,rfl,rfl,h⟩
def dX:List PV->Option (List PV)
 |[.int j]=>if j<=1000000/\-1000000<=j then aa (cf 0 j.toNat)else ac
 |_=>ac
def v9:List PV->Option (List PV)
 |[.int i,.int j]=>if j<=1000000/\-1000000<=j/\i<=1000000/\-1000000<=i then aa (cf i (j-i).toNat)else ac
 |_=>ac
theorem k_(u:X.mg "range"=ac)(x:DA X E [a] m)(w:Gl X "range":=by rfl)(t:aL [a] X.env=[(aj,aQ a X.env)]:=by rfl):DI X E g (.Call (.Name "range" p) [a] [] f) (dL dX m):=λF S o i H I r h=>by
 refine Eg (Rn w u gk t) (x F S o i H _ r ((Ok.bind h).imp λxs n B z A s G c C y=>?_));unfold dX at c;split at c
 .rename_i j;split at c
  .rename_i D;obtain⟨v,rfl,q⟩:=gy y;refine⟨j,by rw[show v=V.int j from q],∅,∅,c B z A s (bC.refl ..) _ _ _ (Dt 0 j.toNat) (by rw[vK,j2];lia) Ez λ_ _ _ _=>trivial⟩
  .exact c.elim
 .exact c.elim
theorem MW(x:X.mg "range"=ac)(z:DA X E [a,b] m)(y:Gl X "range":=by rfl)(w:aL [a,b] X.env=[(aj,aQ a X.env),(aj,aQ b X.env)]:=by rfl)(t:aL [b] X.env=[(aj,aQ b X.env)]:=by rfl):DI X E g (.Call (.Name "range" p) [a,b] [] f) (dL v9 m):=λF S q n H P r h=>by
 refine Eg (LH y x gk w t) (z F S q n H _ r ((Ok.bind h).imp λxs o J G I s O c L A=>?_));unfold v9 at c;split at c
 .rename_i i j;split at c
  .rename_i N;obtain⟨v,M,rfl,D,C⟩:=A;obtain⟨u,rfl,B⟩:=gy C;refine⟨i,j,by rw[show v=V.int i from D,show u=V.int j from B],⟨∅,∅,∅,∅⟩,c J G I s (bC.refl ..) _ _ _ (Dt i (j-i).toNat) (by rw[vK,j2];lia) Ez λ_ _ _ _=>trivial⟩
  .exact c.elim
 .exact c.elim
end
section
variable{K:aw}{F:ae->Prop}{S:Nat->ae->Prop}{f:af}{l:St}{H:Hp}{i:Nat}{p m:List PV}{d:List V}{a:ae}
theorem aP.lstAt(r:aP K F S f l H)(e:f[i]?=aa (.own (.lst p))):∃a c,l[i]?=aa (aa (.ref a))/\H a=aa (.lst c)/\Reps K H F p c/\S i a/\∀b,S i b->b=a:=by obtain⟨a,o,⟨c,n,j⟩,g⟩:=r.own i _ e;exact⟨a,c,o,n,j,(g a).mpr rfl,λb h=>(g b).mp h⟩
theorem aP.upd(r:aP K F S f l H)(e:f[i]?=aa (.own (.lst p)))(D:l[i]?=aa (aa (.ref a)))(h:Reps K H F m d):aP K F S (f.set i (.own (.lst m))) l (upd H a (.lst d))/\bC (U S) (U S) F F H (upd H a (.lst d)):=by
 obtain⟨M,vs,E,L,J,x,B⟩:=r.lstAt e;rw[D]at E;cases E;have A:i<f.length:=(dW.mp e).1;have g:bC (U S) (U S) F F H (L2.upd H a (.lst d)):=⟨λ_ z=>z,λb o q n=>by rw[bT (by rintro rfl;exact n ⟨i,x⟩)];exact q,λb o q=>by
  by_cases C:b=a
  .subst C;exact⟨_,cI⟩
  .exact⟨o,by rw[bT C];exact q⟩,λ_ z=>.inl z,λ_ z=>.inl z⟩
 refine⟨⟨by rw[iV];exact r.len,λb z=>let ⟨o,q⟩:=r.ex b z;g.there b o q,λj pv q=>?_,λj y q=>?_,λj b z=>?_,r.dist⟩,g⟩
 .have s:i≠j:=by rintro rfl;rw[gq A]at q;cases q
  rw[eP s]at q;obtain⟨v,u,t⟩:=r.val j pv q;exact⟨v,u,t.grow g r.fit⟩
 .by_cases s:i=j
  .subst s;rw[gq A]at q;cases q;exact⟨a,D,⟨d,cI,h.grow g r.fit⟩,λb=>⟨B b,λz=>by rw[z];exact x⟩⟩
  .rw[eP s]at q;obtain⟨c,u,t⟩:=r.own j y q;refine⟨c,u,t.mono (λ_ _ z=>z.grow g r.fit) (λ_ _ z=>z.grow g r.fit) λb o z w=>?_⟩;rw[bT (by rintro rfl;exact s (r.dist i j b x z))];exact w
 .obtain⟨⟨y,u⟩,t,o,I,G⟩:=r.foot j b z;by_cases s:i=j
  .subst s;rw[B b z];exact⟨⟨_,gq A⟩,by rw[<-B b z];exact t,_,cI,trivial⟩
  .exact⟨⟨y,by rw[eP s];exact u⟩,t,o,by rw[bT (by rintro rfl;exact s (r.dist i j b x z))];exact I,G⟩
end
section
variable{X:Cx}{E:XK}{pin:List Nat}{e b:az}{de db:af->R PV}{d:Pos}
def fJ(ε:af)(i:Nat):Option (List PV):=match ε[i]? with
 |some (.own (.lst xs))=>aa xs
 |_=>ac
theorem jY{a:af}{i:Nat}{xs:List PV}(h:fJ a i=aa xs):a[i]?=aa (.own (.lst xs)):=by
 unfold fJ at h;split at h
 .cases h;assumption
 .cases h
def ln(i:Nat)(de:af->R PV):af->R aJ:=λε=>(aR (fJ ε i) ε).bind λ_ ε=>(de ε).bind λy a=>(aR (fJ a i) a).bind λxs a=>if xs.length<bS then .ok .next (a.set i (.own (.lst (xs++[y]))))else .no
theorem wy(i:Nat){x:Str}{p f c:Pos}(M:DE X E e de)(P:X.N[i]?=aa x:=by rfl)(J:f_ X.env.scope x:=by eq_refl)(N:(x==("__debug__":Str))=aj:=by decide)(cj:(x==("__classdict__":Str))=aj:=by decide) (Y:j4 (.Name x p) "append" X.env (aQ (.Name x p) X.env)=aQ (.Name x p) X.env:=by rfl)(W:((cJ c (aL [e] X.env)).all (λx=>!x.1)&&(mX c (mY [] X.env)).all (λx=>x.1.isSome)&&decide ([e].length+([]:List jA).length+(if([]:List jA).isEmpty then 0 else 1)<30))=ah:=by rfl)(T:(f.endLine == c.line)=ah:=by rfl) (w:aL [e] X.env=(aj,aQ e X.env)::aL [] X.env:=by rfl) (Q:(cJ c (aL [] X.env)).any (·.1)=aj:=by rfl)(K:lJ (.Call (.Attribute (.Name x p) "append" f) [e] [] c) ac d.line X.env=pure aj:=by rfl):DS X E pin (.Expr (.Call (.Attribute (.Name x p) "append" f) [e] [] c) d) (ln i de):=λF S r o H D s h=>by
 unfold ln at h;cases n:fJ r i with
 |none=>rw[n]at h;exact h.elim
 |some z=>
  rw[n]at h;simp only[dY,R.bind_ok]at h;obtain⟨a,A,m,O,_,_,_⟩:=s.lstAt (jY n);refine i7 (Ax (tQ Cm PySem.F.slot_list_append PySem.F.type_list_append Fa (ij P J N cj) (jp ce lq w) Y W T w Q) K) ⟨.ref a,m,.inl ⟨rfl,_,cu.of O⟩,?_⟩;refine M F S r o H _ s (h.bindE.imp λy l F1 S1 H1 u g1 q v C=>?_);cases j:fJ l i with
  |none=>rw[j]at q;exact q.elim
  |some xs=>
   rw[j]at q;simp only[dY,R.bind_ok]at q;obtain⟨a',B,g,I,t,_,_⟩:=u.lstAt (jY j);rw[m]at g;cases g;split at q
   .rename_i L;obtain⟨G,Z⟩:=u.upd (jY j) m (t.app (.one C));exact⟨a,B,v,rfl,rfl,I,by rw[t.len];exact g6 L mx,q F1 S1 o _ G Z (iD.refl _ _)⟩
   .exact q.elim
def Nm:V->List V->Hp->VK->Prop:=λx c H Q=>∃l b xs a,x=.ref l/\c=[.ref b]/\H l=aa (.lst xs)/\Rd H b (.lst a)/\xs.length+a.length<=bq/\Q .non (L2.upd H l (.lst (xs++a)))
theorem NY:xN X "list.extend" Nm:=by
 intro L s A H x C v D Q I j m h;obtain⟨l,b,xs,B,rfl,rfl,i,t,J,q⟩:=h;cases j;obtain⟨u,rfl,o⟩:=m.one;cases o;obtain⟨z,c,n,r,K,e⟩:=I.lstM i;obtain⟨a,p,g,w,_⟩:=A1 I t;have G:=g.length;have f:c.toArray.size+a.toArray.size<=bq:=by rw[cO,cO];lia
 have y:¬(!c.toArray.isEmpty&&x_ (c.toArray.size+a.toArray.size))=ah:=by rw[Py f,ye];exact eQ
 refine mZ F.slot_list_extend ⟨_,e,rfl⟩ F.entry_list_extend (F.args_list_extend_2 _ _)
  (AutoSeq1.list_extend_list_list_0 l c.toArray n b a.toArray p y (by rw[cO];lia) ∅) ⟨e,w,?_⟩
 refine⟨.non,_,I.lset (its':=c++a) i e (by simp) (r.append g) ?_,rfl,q⟩;rw[dy];lia
def AF(i:Nat)(de:af->R PV):af->R aJ:=λc=>(aR (fJ c i) c).bind λ_ c=>(de c).bind λy a=>(aR (fJ a i) a).bind λxs a=>match y with
 |.lst f=>if xs.length+f.length<=bS then .ok .next (a.set i (.own (.lst (xs++f))))else .no
 |_=>.no
theorem Mp(i:Nat){x:Str}{p g f:Pos}(P:DE X E e de)(Y:X.N[i]?=aa x:=by rfl)(M:f_ X.env.scope x:=by eq_refl)(Q:(x==("__debug__":Str))=aj:=by decide)(cj:(x==("__classdict__":Str))=aj:=by decide) (h1:j4 (.Name x p) "extend" X.env (aQ (.Name x p) X.env)=aQ (.Name x p) X.env:=by rfl)(h2:((cJ f (aL [e] X.env)).all (λx=>!x.1)&&(mX f (mY [] X.env)).all (λx=>x.1.isSome)&&decide ([e].length+([]:List jA).length+(if([]:List jA).isEmpty then 0 else 1)<30))=ah:=by rfl)(h3:(g.endLine == f.line)=ah:=by rfl) (A:aL [e] X.env=(aj,aQ e X.env)::aL [] X.env:=by rfl) (Z:(cJ f (aL [] X.env)).any (·.1)=aj:=by rfl)(N:lJ (.Call (.Attribute (.Name x p) "extend" g) [e] [] f) ac d.line X.env=pure aj:=by rfl):DS X E pin (.Expr (.Call (.Attribute (.Name x p) "extend" g) [e] [] f) d) (AF i de):=λF S s r H D t h=>by
 unfold AF at h;cases o:fJ s i with
 |none=>rw[o]at h;exact h.elim
 |some B=>
  rw[o]at h;simp only[dY,R.bind_ok]at h;obtain⟨a,C,n,W,_,_,_⟩:=t.lstAt (jY o);refine i7 (Ax (tQ Cm PySem.F.slot_list_extend PySem.F.type_list_extend NY (ij Y M Q cj) (jp ce lq A) h1 h2 h3 A Z) N) ⟨.ref a,n,.inl ⟨rfl,_,cu.of W⟩,?_⟩;refine P F S s r H _ t (h.bindE.imp λy m F1 S1 H1 z g1 q v J=>?_);cases l:fJ m i with
  |none=>rw[l]at q;exact q.elim
  |some xs=>
   rw[l]at q;simp only[dY,R.bind_ok]at q;obtain⟨a',G,j,L,w,_,_⟩:=z.lstAt (jY l);rw[n]at j;cases j;split at q
   .rename_i ys;split at q
    .rename_i O;obtain⟨c,I,rfl,T,_,u⟩:=J;obtain⟨K,g2⟩:=z.upd (jY l) n (w.app u);exact⟨a,c,G,I,rfl,rfl,L,T,by rw[w.len,u.len];exact dr O mx,q F1 S1 r _ K g2 (iD.refl _ _)⟩
    .exact q.elim
   .exact q.elim
end
mutual
def imm:PV->Bool
 |.lst _=>aj
 |.tup xs=>mq xs
 |_=>ah
def mq:List PV->Bool
 |[]=>ah
 |x::xs=>imm x&&mq xs
end
mutual
theorem bg.imm{K:aw}{H:Hp}{F g:ae->Prop}:∀(x:PV) {v:V},imm x=ah->bg K H F x v->bg K H g x v
 |.non,_,_,h=>h
 |.bl _,_,_,h=>h
 |.int _,_,_,h=>h
 |.str _,_,_,h=>h
 |.raw _,_,_,h=>h
 |.exc _,_,_,h=>h
 |.lst _,_,e,_=>by simp[Pu.imm]at e
 |.tup xs,_,e,⟨a,b,f,d,c⟩=>⟨a,b,f,d,Reps.imm xs (by simpa[Pu.imm]using e) c⟩
theorem Reps.imm{K:aw}{H:Hp}{F g:ae->Prop}:∀(xs:List PV) {a:List V},mq xs=ah->Reps K H F xs a->Reps K H g xs a
 |[],_,_,h=>h
 |x::xs,_,e,⟨v,r,f,d,c⟩=>by
  have b:imm x=ah/\mq xs=ah:=by simpa[mq]using e
  exact⟨v,r,f,bg.imm x b.1 d,Reps.imm xs b.2 c⟩
end
section
variable{K:aw}{F:ae->Prop}{S:Nat->ae->Prop}{d:af}{c:St}{H:Hp}{i:Nat}{f:List PV}
theorem aP.look(r:aP K F S d c H)(e:d[i]?=aa (.own (.lst f))):∃a,c[i]?=aa (aa (.ref a))/\¬F a/\bg K H (λb=>F b\/b=a) (.lst f) (.ref a)/\(∀b,F b\/b=a->∃o,H b=aa o) /\ (∀{h g},Al (λb=>F b\/b=a) h H g->Al F (λb=>h b/\b≠a) H g):=by
 obtain⟨a,m,q,l,p,n,s⟩:=r.lstAt e;have j:¬F a:=(r.foot i a n).2.1;refine⟨a,q,j,⟨a,m,rfl,.inl l,.inr rfl,Reps.mono (λ_ z=>.inl z) (λ_ _ _ z=>z) (λ_ _ z _=>z) _ _ p⟩,λb z=>z.elim (r.ex b) λz=>by rw[z];exact⟨_,l⟩,λ{h g} al=>⟨λb z=>⟨al.fro b (.inl z),by rintro rfl;exact j z⟩,al.same,λb z=>?_⟩⟩;rcases al.fnew b z.1 with(w|w)|w
 .exact .inl w
 .exact absurd w z.2
 .exact .inr w
end
section
variable{X:Cx}{E:XK}{e b:az}{de db:af->R PV}{d p:Pos}{x y:Str}{l T:String}{r:List V->Hp->VK->Prop}{f:List PV->Option PV}{g:List PV->Option PO}
def sP(o:Option PV):Option PV:=o.bind λv=>if imm v then aa v else ac
theorem IW{o:Option PV}{v:PV}(h:sP o=aa v):o=aa v/\imm v=ah:=by
 cases o with
 |none=>cases h
 |some w=>
  have h:(if imm w then aa w else ac)=aa v:=h;split at h
  .cases h;exact⟨rfl,by assumption⟩
  .cases h
def A5:PO->Bool
 |.lst xs=>mq xs
 |_=>aj
def kA{a:Type}(f:List PV->Option a)(i:Nat):af->R a:=λε=>(aR (fJ ε i) ε).bind λxs ε=>aR (f [.lst xs]) ε
theorem Rk{F:ae->Prop}{S:Nat->ae->Prop}{m:af}{j:St}{H:Hp}{Q:VK}{i:Nat}(A:PL X.K r f)(s:aP X.K F S m j H)(h:Ok X.K E j F S H (kA (λxs=>sP (f xs)) i m) (λpv _ u _ c=>∀v,bg X.K c u pv v->Q v c)):∃a,j[i]?=aa (aa (.ref a))/\r [.ref a] H Q:=by
 unfold kA at h;cases q:fJ m i with
 |none=>rw[q]at h;exact h.elim
 |some xs=>
  rw[q]at h;simp only[dY,R.bind_ok]at h;obtain⟨a,C,I,z,B,t⟩:=s.look (jY q);refine⟨a,C,?_⟩;cases o:sP (f [.lst xs])with
  |none=>rw[o]at h;exact h.elim
  |some pv=>rw[o]at h;obtain⟨G,D⟩:=IW o;exact A _ H [.lst xs] [.ref a] Q pv (.one z) G λw u c al n=>h _ S c (s.al (t al)) (t al).grow w (bg.imm pv D n)
theorem OU(i:Nat)(z:eV X (.builtin l) r)(s:PL X.K r f)(u:X.mg x=ac)(n:d9 x=aa (.builtin l))(A:X.N[i]?=aa y:=by rfl)(m:f_ X.env.scope y:=by eq_refl)(w:(y==("__debug__":Str))=aj:=by decide) (G:(y==("__classdict__":Str))=aj:=by decide) (v:Gl X x:=by rfl) (t:x≠"__name__":=by decide) (B:(x==("__debug__":Str))=aj:=by decide) {c:Pos}(h:aL [.Name y c] X.env=(aj,aQ (.Name y c) X.env)::aL [] X.env:=by rfl) (D:(cJ d (aL [] X.env)).any (·.1)=aj:=by rfl):DE X E (.Call (.Name x p) [.Name y c] [] d) (kA (λxs=>sP (f xs)) i):=λF S J I H Q j q=>by obtain⟨a,C,o⟩:=Rk s j q;exact cz (rh z v u n (jp (ij A m w G) lq h) t B h D) ⟨_,C,o⟩
def qV(o:Option PO):Option PO:=o.bind λv=>if A5 v then aa v else ac
theorem P4{F:ae->Prop}{S:Nat->ae->Prop}{s:af}{q:St}{H:Hp}{Q:VK}{i:Nat}(hp:mh X.K r g)(v:aP X.K F S s q H)(h:Ok X.K E q F S H (kA (λxs=>qV (g xs)) i s) (λA _ I S' n=>∀a t,eL X.K n I A a t->(∀b,t b->H b=ac/\¬I b/\¬U S' b/\∃o,n b=aa o/\cH o)->Q (.ref a) n)):∃a,q[i]?=aa (aa (.ref a))/\r [.ref a] H Q:=by
 unfold kA at h;cases G:fJ s i with
 |none=>rw[G]at h;exact h.elim
 |some xs=>
  rw[G]at h;simp only[dY,R.bind_ok]at h;obtain⟨a,ea,nF,W,B,L⟩:=v.look (jY G);refine⟨a,ea,?_⟩;cases D:g [.lst xs]with
  |none=>rw[D]at h;exact h.elim
  |some A=>
   rw[D]at h;cases A with
   |dK m=>exact h.elim
   |lls jH=>exact h.elim
   |ins C fs=>exact h.elim
   |dT m=>exact h.elim
   |dN m=>exact h.elim
   |inl C fs y xs=>exact h.elim
   |lst u=>
    have h:Ok X.K E q F S H (aR (if mq u then aa (PO.lst u)else ac) s) _:=h;split at h
    .rename_i hi;refine hp _ H [.lst xs] [.ref a] Q _ B (.one W) D λc I n t al Y fr=>h _ S n (v.al (L al)) (L al).grow c t ?_ λb z=>?_
     .obtain⟨⟨P,o1,o2⟩,Z⟩:=Y;exact⟨⟨P,o1,Reps.imm u hi o2⟩,Z⟩
     .obtain⟨J,O,o,N,M⟩:=fr b z;refine⟨J,λw=>O w.1,λ⟨j,w⟩=>?_,o,N,M⟩;obtain⟨_,_,o',K,_⟩:=v.foot j b w;rw[J]at K;cases K
    .exact h.elim
theorem FH(i:Nat)(z:eV X (.builtin l) r)(s:mh X.K r g)(u:X.mg x=ac)(n:d9 x=aa (.builtin l))(A:X.N[i]?=aa y:=by rfl)(m:f_ X.env.scope y:=by eq_refl)(w:(y==("__debug__":Str))=aj:=by decide) (G:(y==("__classdict__":Str))=aj:=by decide) (v:Gl X x:=by rfl) (t:x≠"__name__":=by decide) (B:(x==("__debug__":Str))=aj:=by decide) {c:Pos}(h:aL [.Name y c] X.env=(aj,aQ (.Name y c) X.env)::aL [] X.env:=by rfl) (D:(cJ d (aL [] X.env)).any (·.1)=aj:=by rfl):DN X E (.Call (.Name x p) [.Name y c] [] d) (kA (λxs=>qV (g xs)) i):=λF S J I H Q j q=>by obtain⟨a,C,o⟩:=P4 s j q;exact cz (rh z v u n (jp (ij A m w G) lq h) t B h D) ⟨_,C,o⟩
end
end Pu
namespace Pu
open L2
def kq(h:aD)(e T:ae)(c g:ai):Prop:=∃a b f d,h.get? e=aa a/\a.cls=c/\(a.data=.fields b/\a.dict=ac)/\b[1]?=aa (.ref T)/\T≠e/\h.get? T=aa f/\f.data=.fields d/\d[3]?=aa g
def Made(h:aD)(e:ae)(c:ai):Prop:=∃a b,h.get? e=aa a/\a.cls=c/\(a.data=.fields b/\a.dict=ac)/\b[1]?=aa .none
structure Kp(fs:List ae)(X:ae->Prop)(h h':aD):Prop where
 keep:∀b o,h.get? b=aa o->b∉fs->¬X b->h'.get? b=aa o
 slot:∀b o,h.get? b=aa o->b∈fs->¬X b->∃sl,h'.get? b=aa {o with slots:=sl}
 there:∀b o,h.get? b=aa o->∃o',h'.get? b=aa o'
theorem Kp.trans{fs:List ae}{X Y:ae->Prop}{h g f:aD}(a:Kp fs X h g)(b:Kp fs Y g f):Kp fs (λc=>X c\/Y c) h f where
 keep:=λc o e n x=>b.keep c o (a.keep c o e n λz=>x (.inl z)) n λz=>x (.inr z)
 slot:=λc o e n x=>by obtain⟨l,j⟩:=a.slot c o e n λz=>x (.inl z);obtain⟨d,i⟩:=b.slot c _ j n λz=>x (.inr z);exact⟨d,i⟩
 there:=λc o e=>let ⟨o',e'⟩:=a.there c o e;b.there c o' e'
theorem Kp.imp{fs d:List ae}{X Y:ae->Prop}{h j:aD}(a:Kp fs X h j)(f:∀b,b∈fs->b∈d)(g:∀b o,h.get? b=aa o->X b->Y b):Kp d Y h j where
 keep:=λc o e n x=>a.keep c o e (λz=>n (f c z)) λz=>x (g c o e z)
 slot:=λc o e n x=>by
  by_cases i:c∈fs
  .exact a.slot c o e i λz=>x (g c o e z)
  .exact⟨o.slots,a.keep c o e i λz=>x (g c o e z)⟩
 there:=a.there
theorem LP(f:Array ai->Array ai)(o:Obj):(nh f o).dict=o.dict:=by
 obtain⟨c,d,dt,a⟩:=o;cases dt <;> rfl
section
variable{M:Model}{A:a9}{E:ai->ao->Prop}{s:ao}
theorem El{z:aD}{l:Env}{g:List Env}{L e:ae}{w:Obj}{G:Array ai}{B:ai}{R_:Bool}{Q:Unit->ao->Prop}(lR:A.frames=aa (l::g)) (P:s.heap.FunFrames z (l::g)) (hf:l.frame=aa L) (S:s.heap.get? e=aa w) (I:w.data=.fields G) (Z:w.dict=ac) (v:1<G.size)(h:∀K T,Kp (fg (l::g)) (λb=>b=e) s.heap K->kq K e T w.cls .none->s.heap.objs.size<=T->Q () {s with heap:=K}):ax M A (do let a <-frameOf l;let t <-entryPlaceOf L R_;let b <-EntryCells.newEntry B a .none (dj L) .none t;nc (.ref e) 1 b) (λ_ Y=>ax M A (ym (.ref e) ac) Q E Y) E s:=by
 have y:e∉(l::g).filterMap (·.frame):=λhm=>by obtain⟨_,o,F,X⟩:=P.mem hm;rw[S]at F;injection F with F;subst F;exact X G I
 refine aq (wpAny_frameOf_fun lR P hf λc d=>?_);refine aq (wpAny_entryPlaceOf λt W=>?_);unfold EntryCells.newEntry newFields;refine aq (iU ?_ (W.sizeOk5 _ _ _ _ _));have p:c.get? e=aa w:=(d.2.1 e y).trans S;have n:=bp (h:=c) {cls:=.type "traceback",dict:=ac,data:=.fields ([B,.ref L,.none,dj L,.none]++(if t.isEmpty then a8 6 Value.none else t)).toArray} p;refine oR n I v ?_;have C:c.objs.size≠e:=jc (bL p);have j:=pZ I (·.setIfInBounds 1 (Value.ref c.objs.size));have i:=oQ (nh (·.setIfInBounds 1 (Value.ref c.objs.size))) n (yo j);have r:=(pV (c.push {cls:=.type "traceback",dict:=ac,data:=.fields ([B,.ref L,.none,dj L,.none]++(if t.isEmpty then a8 6 Value.none else t)).toArray}) (nh (·.setIfInBounds 1 (Value.ref c.objs.size))) (eO C)).trans (cD c rfl);unfold ym;refine aq (gJ i j (x:=.ref c.objs.size) (by simp[v]) ?_);rw[if_pos (show(Value.ref c.objs.size != Value.none)=ah from by simp)];refine oR r rfl (by simp only[cO,dy,eR,m8] <;> lia) (h _ c.objs.size ?_ ?_ ?_)
 .have m:∀b o,b≠e->c.get? b=aa o ->
    (((c.push {cls:=.type "traceback",dict:=ac,data:=.fields ([B,.ref L,.none,dj L,.none]++(if t.isEmpty then a8 6 Value.none else t)).toArray}).update e (nh (·.setIfInBounds 1 (Value.ref c.objs.size)))).update c.objs.size (nh (·.setIfInBounds 3 ((ac:Option ae).elim Value.none λf=>dj f)))).get? b=aa o:=λb o D u=>by
   have J:c.objs.size≠b:=jc (bL u);rw[pV _ _ J,pV _ _ (eO D)];exact bp _ u
  refine⟨λb o u O H=>m b o H ((d.2.1 b O).trans u),λb o u O H=>?_,λb o u=>?_⟩
  .obtain⟨N,q⟩:=d.2.2 b o u;exact⟨N,m b _ H q⟩
  .by_cases D:b=e
   .subst D;exact⟨_,(pV _ _ C).trans i⟩
   .obtain⟨N,q⟩:=d.2.2 b o u;exact⟨_,m b _ D q⟩
 .refine⟨_,_,_,_,(pV _ _ C).trans i,Obj.cls_mapFields _ _,⟨j,by rw[LP];exact Z⟩,by simp[v],C,oQ _ r (yo (pZ rfl _)),pZ rfl _,by first | (simp;done) | (rcases W with rfl|⟨_,_,_,_,_,_,_,rfl⟩ <;> simp)⟩
 .exact mQ d.1.symm
theorem Oy{f:aD}{d:Env}{a:List Env}{L e:ae}{c:ai}{Q:Unit->ao->Prop}(o:A.frames=aa (d::a))(q:s.heap.FunFrames f (d::a))(i:d.frame=aa L)(p:Made s.heap e c)(h:∀g T,Kp (fg (d::a)) (λb=>b=e) s.heap g->kq g e T c .none->s.heap.objs.size<=T->Q () {s with heap:=g}):ax M A (leaving d (.ref e)) Q E s:=by obtain⟨u,t,j,r,⟨l,n⟩,m⟩:=p;subst r;unfold leaving noteFrame;simp only[i];refine aq (aq (gJ j l m ?_));rw[if_neg (by decide)];exact El o q i j l n (uo.mp m).1 h
theorem Fo{l:aD}{g:Env}{outer:List Env}{L e T:ae}{c:ai}{Q:Unit->ao->Prop}(G:A.frames=aa (g::outer))(K:s.heap.FunFrames l (g::outer))(t:g.frame=aa L)(I:kq s.heap e T c .none)(h:∀j T',Kp (fg (g::outer)) (λb=>b=e\/b=T) s.heap j->kq j e T' c .none->s.heap.objs.size<=T'->Q () {s with heap:=j}):ax M A (noteFrame (.ref e) g) (λ_ B=>ax M A (ym (.ref e) ac) Q E B) E s:=by
 obtain⟨P,r,S,y,u,F,⟨v,C⟩,x,D,n,m,w⟩:=I;subst F;unfold noteFrame;simp only[t];refine aq (gJ u v x ?_);rw[if_pos (show(Value.ref T != Value.none)=ah from by simp)];refine aq (gJ n m w ?_);rw[if_neg (show ¬((Value.none == dj L)=ah)from by simp[dj])];refine aq (oR n m (uo.mp w).1 ?_);have a:∀b,b≠T->(s.heap.update T (nh (·.setIfInBounds 3 Value.none))).get? b=s.heap.get? b:=λb d=>pV _ _ (eO d);have f:∀b o,s.heap.get? b=aa o->(∀r,o.data≠.fields r)->b≠T:=λb o d p q=>by rw[q,n]at d;injection d with d;subst d;exact p y m
 refine El G (K.of_keeps λb o d p=>⟨o,(a b (f b o d p)).trans d,rfl⟩) t ((a e (eO D)).trans u) v C (uo.mp x).1 λj T' k N J=>?_;have H:Kp (fg (g::outer)) (λb=>b=T) s.heap (s.heap.update T (nh (·.setIfInBounds 3 Value.none))):=by
  refine⟨λb o d _ i=>(a b i).trans d,λb o d _ i=>⟨o.slots,(a b i).trans d⟩,λb o d=>?_⟩;by_cases i:b=T
  .subst i;exact⟨_,oQ _ n (yo (pZ m _))⟩
  .exact⟨o,(a b i).trans d⟩
 refine h j T' ((H.trans k).imp (λ_ z=>z) λb o _ z=>z.symm) N ?_;have O:(s.heap.update T (nh (·.setIfInBounds 3 Value.none))).objs.size<=T':=J;rwa[Heap.size_update]at O
theorem Qv{f:aD}{d:Env}{a:List Env}{L e T:ae}{c:ai}{Q:Unit->ao->Prop}(j:A.frames=aa (d::a))(m:s.heap.FunFrames f (d::a))(n:d.frame=aa L)(l:kq s.heap e T c .none)(h:∀g i,Kp (fg (d::a)) (λb=>b=e\/b=T) s.heap g->kq g e i c .none->s.heap.objs.size<=i->Q () {s with heap:=g}):ax M A (leaving d (.ref e)) Q E s:=by unfold leaving;exact aq (Fo j m n l h)
theorem Qf{e T:ae}{c C:ai}{Q:Unit->ao->Prop}(z:kq s.heap e T c C)(h:∀l,Kp [] (λb=>b=T) s.heap l->kq l e T c .none->Q () {s with heap:=l}):ax M A (ym (.ref e) ac) Q E s:=by
 obtain⟨x,u,D,v,n,y,⟨p,w⟩,r,m,q,j,B⟩:=z;have t:3<v.size:=(uo.mp B).1;have a:∀b,b≠T->(s.heap.update T (nh (·.setIfInBounds 3 ((ac:Option ae).elim Value.none λf=>dj f)))).get? b=s.heap.get? b:=λb g=>pV _ _ (eO g);have d:=oQ (nh (·.setIfInBounds 3 ((ac:Option ae).elim Value.none λf=>dj f))) q (yo (pZ j _));unfold ym;refine aq (gJ n p r ?_);rw[if_pos (show(Value.ref T != Value.none)=ah from by simp)];refine oR q j t (h _ ⟨λb o g _ i=>(a b i).trans g,λb o g _ i=>⟨o.slots,(a b i).trans g⟩,λb o g=>?_⟩ ⟨x,u,_,_,(a e (eO m)).trans n,y,⟨p,w⟩,r,m,d,pZ j _,by simp[t]⟩);by_cases i:b=T
 .subst i;exact⟨_,d⟩
 .exact⟨o,(a b i).trans g⟩
end
def bD(P:bb)(w:aS):eY:=λb H s E e s'=>∃(a T:ae) (c:ai) (d:Hp),e=.ref a/\s'.os=s.os/\mL s'.gens/\Un (fg b) [] H d s.heap s'.heap/\c7 P w d s'.heap/\kq s'.heap a T c .none /\
 (s.heap.get? a=ac/\s.heap.get? T=ac/\d a=ac/\d T=ac)/\E c ac d
theorem IM{P:bb}{w:aS}{H:Hp}{h:aD}{a:ae}{o:HO}(x:dA P w H h a o):∃u,h.get? a=aa u:=by
 cases o with
 |lst xs=>obtain⟨_,_,_,_,e⟩:=x;exact⟨_,e⟩
 |tup xs=>obtain⟨_,_,_,⟨o,e,_⟩,_⟩:=x;exact⟨_,e⟩
 |dK b=>obtain⟨_,_,_,_,o,_,_,e,_⟩:=x;exact⟨_,e⟩
 |dT b=>obtain⟨_,_,_,_,o,_,_,e,_⟩:=x;exact⟨_,e⟩
 |dN b=>obtain⟨_,_,_,_,o,_,_,e,_⟩:=x;exact⟨_,e⟩
 |set S n=>obtain⟨o,_,_,_,e,_⟩:=x;exact⟨_,e⟩
 |ins C l fs=>obtain⟨_,_,_,e,_⟩:=x;exact⟨_,e⟩
 |own y=>exact x
 |xd fs=>obtain⟨_,⟨_,_,_,e,_⟩,_⟩:=x;exact⟨_,e⟩
 |rng i j=>obtain⟨_,_,_,e⟩:=x;exact⟨_,e⟩
 |frz g u=>obtain⟨e,_⟩:=x;exact⟨_,e⟩
 |tbl d=>obtain⟨_,e,_⟩:=x;exact⟨_,e⟩
 |met f y=>exact⟨_,x⟩
 |ext c=>obtain⟨_,e,_⟩:=x;exact e
theorem K5{P:bb}{w:aS}{H:Hp}{h:aD}{a:ae}(x:c7 P w H h)(e:h.get? a=ac):H a=ac:=by
 cases q:H a with
 |none=>rfl
 |some u=>obtain⟨o,z⟩:=IM (x a u q);rw[e]at z;cases z
theorem q8{fs:List ae}{H c:Hp}{h b:aD}{a:ae}(u:Un fs [] H c h b)(e:b.get? a=ac):h.get? a=ac:=by
 cases q:h.get? a with
 |none=>rfl
 |some o=>obtain⟨d,z⟩:=u.there a o q (by simp);rw[e]at z;cases z
theorem Bb{fs a:List ae}{H p:Hp}{h l j:aD}{X:ae->Prop}(u:Un fs [] H p h l)(k:Kp a X l j)(r:∀b o,h.get? b=aa o->b∈a->b∈fs)(i:∀b o,h.get? b=aa o->¬X b):Un fs [] H p h j where
 keep:=λb o e n f c=>k.keep b o (u.keep b o e n f c) (λz=>f (r b o e z)) (i b o e)
 slot:=λb o e n f c=>by
  obtain⟨q,m⟩:=u.slot b o e n f c;by_cases d:b∈a
  .obtain⟨g,s⟩:=k.slot b _ m d (i b o e);exact⟨g,s⟩
  .exact⟨q,k.keep b _ m d (i b o e)⟩
 free:=u.free
 there:=λb o e c=>let ⟨o',e'⟩:=u.there b o e c;k.there b o' e'
 tups:=u.tups
 frzs:=u.frzs
 tbls:=u.tbls
theorem Ak{P:bb}{w:aS}{fs:List ae}{H:Hp}{h d:aD}{X:ae->Prop}(x:c7 P w H h)(k:Kp fs X h d)(f:∀b∈fs,H b=ac)(g:∀b,X b->H b=ac):c7 P w H d:=λb u e=>
 (x b u e).stay (λc v a q=>k.keep c v q (λz=>by
   have:=f c z;rcases a with rfl|a
   .rw[e]at this;cases this
   .rw[a]at this;cases this) λz=>by
   have:=g c z;rcases a with rfl|a
   .rw[e]at this;cases this
   .rw[a]at this;cases this) (λ_ q=>q) λ_ _ q=>q
section
variable{P:bb}{w:aS}{K:aw}{n:Str->Option ai}{l:aD}{N:List Str}{j:Str}{g:dZ}{f:ae}{p:ai}{A:a9}{i:List Env}{d:ao}{m:Hp}{E:XK}
theorem bw:qO (bD P w) (gS (bD P w) P w K n l N j g f p A i d m E) E:=λag X H s e s' I h=>by
 obtain⟨a,T,c,W,rfl,G,J,un,y,O,⟨Q,S,F,Z⟩,M⟩:=h;have r:=I.call' (s':=s') (ch:=[]) G un y J (λb z=>absurd z (by simp));refine Qv (L:=d.heap.objs.size) I.ok.frames r.stack rfl O λY D k B x=>?_;have MK:(gS (bD P w) P w K n l N j g f p A i d m E).ex=[]:=rfl;have u:d.heap.get? a=ac:=q8 I.base Q;have C:d.heap.get? T=ac:=q8 I.base S;have v:d.heap.get? D=ac:=q8 r.base (BO x);have t:∀b o,d.heap.get? b=aa o->b≠a/\b≠T:=λb o e=>⟨(by rintro rfl;rw[u]at e;cases e),(by rintro rfl;rw[C]at e;cases e)⟩
 refine⟨a,D,c,W,rfl,r.os,r.bare,Bb r.base k (λb o e z=>?_) (λb o e z=>z.elim (t b o e).1 (t b o e).2),Ak r.hok k r.stkFree (λb z=>by rcases z with rfl|rfl <;> assumption),B,⟨u,v,F,r.hok.fresh x⟩,M⟩;rcases bV.mp (I.stkSub b z)with q|q
 .exact absurd (bL e) (by rw[q];exact fW _)
 .exact q
end
section
variable{X:Cx}{E:XK}{pin:List Nat}{e:az}{de:af->R PV}{x:Str}{C:ae}{i:List ai}{d f B:String}{l g j:Pos}
def CI(X:Cx)(E:XK):Prop:=∀(n:List (ae×Obj)) (m:St) (H:Hp) (s:ao) (a:ae) (c:ai) (h:aD),Inv X n m H s->(∀b o,s.heap.get? b=aa o->h.get? b=aa o)->Made h a c->s.heap.get? a=ac->(E c ac H)->X.xe (.ref a) {s with heap:=h}
def ke(c:ai)(de:af->R PV):af->R aJ:=λb=>(de b).bind λ_ a=>.er c a
theorem NT{h c:aD}{e:ae}{a:ai}{b:List ai}(m:Heap.MadeExcOf h c e a b):Made c e a:=by obtain⟨t,n,_,_⟩:=m.there;exact⟨_,_,n,rfl,⟨rfl,rfl⟩,rfl⟩
theorem tD(hx:CI X E)(hc:X.calm=ah)(O:OwnCls x C i d X.mg X.base)(P:ExcBaseFacts B d f i)(he:DE X.nox E0 e de)(hg:Gl X x:=by rfl)(hd:(x==("__debug__":Str))=aj:=by decide)(L:aL [e] X.env=[(aj,aQ e X.env)]:=by rfl):DS X E pin (.Raise (aa (.Call (.Name x l) [e] [] g)) ac j) (ke (.ref C) (λt=>bu (de t))):=λF S t n H D Y q=>Bx.mk λM s I=>by
 obtain⟨Q,N,nm,Z,bs,hdct,sn,sub,ab,col,dd,k0,k1,k2,k3,k5,mN,hC,hN,G,T⟩:=O.obj;refine wpAny_Raise_call_subT (C:=C) (nm:=nm) (q:=Z) (N:=N) (bs:=bs) (bm:=Q) (hdct:=hdct) (sn:=sn) (sub:=sub) (ab:=ab) (col:=col) (dd:=dd) (k0:=k0) (k1:=k1) (k2:=k2) (k3:=k3) (k5:=k5)
  P (mN:=mN) (T.hasType P.hasBase) (I.ok.hd hc) (by rw[L];rfl) G (pL I hg O.bound ⟨rfl,?_⟩ hd)
 have q2:Ok X.K E0 n F S H (de t) (λ_ b r o p=>i9 X.K E pin n r o p (.er (.ref C) b) D):=by
  have q:i9 X.K E pin n F S H ((bu (de t)).bind λ_ b=>.er (.ref C) b) D:=q;cases J:de t with
  |no=>rw[J]at q;exact q.elim
  |er c y=>rw[J]at q;exact q.elim
  |ok v y=>rw[J]at q;exact λF' S' H' r' g'=>q.from g' (iD.refl _ _)
 rw[L];refine HC (dw (BY (dw ((he F S t n H (λv p=>∃r o b,aP X.K r o b n p/\i9 X.K E pin n r o p (.er (.ref C) b) D) Y (q2.imp λv b r o p K g1 h v' rv=>⟨r,o,b,K,h⟩)).run M s (I.wish _)) (λu W ⟨v,p,w,K,r,o,b,A,ok⟩=>?_) λ_ _ z=>z.elim)) (λ_ _ z=>z) λ_ _ z=>z);have w:=w.unwish;refine Hm ⟨rfl,(by show 1<=bq;decide),w.bk _ _ hC,hN.keeps w.bk,T.keeps w.bk,λh' a m=>?_⟩;exact hx M n p W a (.ref C) h' w m.keeps (NT m) m.new (ok ac r o n p A (bC.refl ..) (iD.refl _ _))
end
section
variable{P:bb}{w:aS}{K:aw}{m:Str->Option ai}{j:aD}{N:List Str}{i:Str}{g:dZ}{f:ae}{n:ai}{A:a9}{h:List Env}{d:ao}{l:Hp}{E:XK}
theorem sB:CI (gS (bD P w) P w K m j N i g f n A h d l E) E:=λJ C H s a c y I F D new G=>by
 have p:Inv _ J C H {s with heap:=y}:=I.kept (t':=s.toks) F;refine Oy (s:={s with heap:=y}) (L:=d.heap.objs.size) I.ok.frames p.stack rfl D λM B k v u=>?_;have r:d.heap.get? a=ac:=q8 I.base new;have t:d.heap.get? B=ac:=q8 p.base (BO u);have x:H a=ac:=K5 I.hok new;refine⟨a,B,c,H,rfl,p.os,p.bare,Bb p.base k (λb o e z=>?_) (λb o e z=>by rw[show b=a from z,r]at e;cases e),Ak p.hok k p.stkFree (λb z=>by rw[show b=a from z];exact x),v,⟨r,t,x,p.hok.fresh u⟩,G⟩;rcases bV.mp (I.stkSub b z)with q|q
 .exact absurd (bL e) (by rw[q];exact fW _)
 .exact q
end
section
variable{X:Cx}{f:List (ae×Obj)}{a:St}{H:Hp}{s:ao}
theorem Lo{M:Model}{A:a9}{E:ai->ao->Prop}{i:Nat}{x:Str}{v:V}{Q:Unit->ao->Prop}(I:Inv X f a H s)(hN:X.N.Nodup)(O:X.N[i]?=aa x)(C:X.env.scope.names.lookup x=aa .local)(K:a[i]?=aa (aa v))(h:∀s',Inv X f (a.set i ac) H s'->Q () s'):ax M A (unbindName X.env x) Q E s:=by
 obtain⟨m,L,N⟩:=id I.loc;have nq:(X.env.scope.kind == .class||(X.env.scope.kind == .module&&X.env.locals != X.env.globals))=aj:=by rw[I.ok.kind];rfl
 have r:i<a.length:=(dW.mp K).1;obtain⟨u,_,lk⟩:=N i x v O K (.inl C);have hm:m x=aa u:=by
  rcases lk with⟨_,z⟩|⟨z,_⟩
  .exact z
  .have z:X.env.scope.names.lookup x=aa .cell\/X.env.scope.names.lookup x=aa .free:=z;rcases z with z|z <;> rw[C]at z <;> cases z
 refine wpAny_unbindName_local C L hm nq λh' u' T l=>?_;obtain⟨oL,_,_,rY,_⟩:=id L;have up:∀b o,X.s₀.heap.get? b=aa o->h'.get? b=s.heap.get? b:=λb o e=>l.2 b (cZ (g6 (bL e) I.ok.above));refine h _ ⟨I.ok,I.os,I.bare,⟨λb o e n F g=>(up b o e).trans (I.base.keep b o e n F g),λb o e n F g=>?_,I.base.free,λb o e g=>?_,I.base.tups,I.base.frzs,I.base.tbls⟩,⟨_,T,λj y S P B e3=>?_⟩,λy c e=>?_,I.free,I.freeC,λp hp=>?_,λb Z e=>?_,by rw[iV];exact I.len⟩
 .obtain⟨W,q⟩:=I.base.slot b o e n F g;exact⟨W,(up b o e).trans q⟩
 .obtain⟨o',q⟩:=I.base.there b o e g;exact⟨o',(up b o e).trans q⟩
 .by_cases D:j=i
  .subst D;rw[gq r]at B;cases B
  .rw[eP (eO D)]at B;obtain⟨w,Y,q⟩:=N j y S P B e3;refine⟨w,Y,?_⟩;rcases q with⟨k,e⟩|⟨k,c,e,z⟩
   .have:y≠x:=λe=>D (za hN P (e ▸ O));exact .inl ⟨k,by simp[this,e]⟩
   .exact .inr ⟨k,c,e,z.sameBut l (I.cne y c e)⟩
 .obtain⟨G,z⟩:=I.cell y c e;exact⟨G,z.sameBut l (I.cne y c e)⟩
 .obtain⟨e,n,J,nf,d⟩:=I.pin p hp;exact⟨(l.2 p.1 J).trans e,n,J,nf,d⟩
 .refine(I.hok b Z e).stay (λc G t q=>(l.2 c ?_).trans q) (λ_ q=>q) λ_ _ q=>q;rintro rfl;rcases t with rfl|t
  .rw[I.free]at e;cases e
  .rw[I.free]at t;cases t
end
def XP(X:Cx)(g:List (ae×Obj))(d:St)(h:ai->Hp->Prop)(e:ai)(f:ao):Prop:=∃a b,Inv X g d b a/\bD X.prog X.w X.stack b a (λc _ i=>h c i) e f
def DX(X:Cx)(e:az)(d:af->R Slot):Prop :=
 ∀F S h a H Q (i:ai->Hp->Prop),aP X.K F S h a H->Ok X.K (λc _ f=>i c f) a F S H (d h) (λs _ l m f=>∀v j,fU X.K f l s v j->(∀b,j b->H b=ac/\¬l b/\¬U m b/\∃o,f b=aa o/\cH o)->Q v f) ->
  ∀g s,Inv X g a H s->ax (aA X.prog X.w) X.A (aQ e X.env) (EP X g a Q) (XP X g a i) s
section
variable{X:Cx}{e:az}{a:List az}{l:af->R (List bO)}{j:Pos}{x:Str}{k:Nat}{m:List Str}{g:af->R Slot}{p:Pos}{d:af->R Slot}
def eB(g:af->R Slot)(l:af->R (List bO)):af->R Slot:=λf=>(bu (l f)).bind λc b=>(aR (if(bF c).Nodup then cb b c else ac) b).bind λh b=>cn b c (g h)
theorem zo(c:b_ (bD X.prog X.w) X.prog X.w X.K X.mg X.base x k m (bi X.K g))(hr:cT k X.A)(ha:DG X.nox E0 (e::a) l)(hg:Gl X x:=by rfl)(hd:(x==("__debug__":Str))=aj:=by decide) (h1:aL (e::a) X.env=(aj,aQ e X.env)::aL a X.env:=by rfl) (h2:(cJ j (aL a X.env)).any (·.1)=aj:=by rfl):DX X (.Call (.Name x p) (e::a) [] j) (eB g l):=λF S ε M H Q XE rl h ag s I=>by
 obtain⟨f,fd,hm,Fn,hb,hk⟩:=c.ex;have q0:Ok X.K E0 M F S H (l ε) (λt n C D B=>Ok X.K (λc _ A=>XE c A) M C D B ((aR (if(bF t).Nodup then cb n t else ac) n).bind λN n=>cn n t (g N)) (λs _ E Y A=>∀v K,fU X.K A E s v K->(∀b,K b->H b=ac/\¬E b/\¬U Y b/\∃o,A b=aa o/\cH o)->Q v A)):=by
  unfold eB at h;cases e0:l ε with
  |no=>rw[e0]at h;exact h.elim
  |er c ε'=>rw[e0]at h;exact h.elim
  |ok t n=>rw[e0]at h;exact λC D B G g1=>Ok.from h g1
 refine ui (pL I hg hm ?_ hd);have wa:=(ha F S ε M H (λO B=>∃C D n t,aP X.K C D n M B/\eZ X.K M C B t O/\(∀b,B b=ac->H b=ac)/\Ok X.K (λc _ A=>XE c A) M C D B ((aR (if(bF t).Nodup then cb n t else ac) n).bind λN n=>cn n t (g N)) (λs _ E Y A=>∀v K,fU X.K A E s v K->(∀b,K b->H b=ac/\¬E b/\¬U Y b/\∃o,A b=aa o/\cH o)->Q v A)) rl (q0.imp λt n C D B G g1 q O W=>⟨C,D,n,t,G,W,λb z=>iG g1 z,q⟩)).run j ag s (I.wish _);refine xZ (h₀:=X.base) I.ok.mod.kin hk (dw wa (λZ s1 ⟨O,B,L,r,C,D,n,t,G,W,fb,q⟩=>⟨L.unwish.kIn,?_⟩) λ_ _ z=>z.elim) h1 h2;have L:=L.unwish;have q:=Ok.bind q;by_cases P:(bF t).Nodup
 .rw[if_pos P]at q;cases a:cb n t with
  |none=>rw[a]at q;exact q.elim
  |some N=>
   rw[a]at q;have q:=q C D B G (bC.refl ..);dsimp only at q;have gL:bi X.K g O B Q (λc _ A=>XE c A):=by
    refine⟨C,jU t D,N,G.cal W a P,?_⟩;cases eg:g N with
    |no=>rw[eg]at q;exact q.elim
    |er cv aN=>
     rw[eg]at q;intro y E Y A r' g';unfold cn at q;dsimp only at q;by_cases J:cC t aN=ah
     .rw[if_pos J]at q;obtain⟨S2,r2,g2,_⟩:=G.called W a P r' g' (λ_ z=>z) (jS J);exact q ac E S2 A r2 g2
     .rw[if_neg J]at q;exact q.elim
    |ok sl aN=>
     rw[eg]at q;intro v E Y A K r' g' rv lo fr;unfold cn at q;dsimp only at q;by_cases J:cC t aN=ah
     .rw[if_pos J]at q;obtain⟨S2,r2,g2,u2⟩:=G.called W a P r' g' (λ_ z=>.inl z) (jS J);refine q E S2 A r2 g2 v K rv λb z=>⟨fb b (fr b z),(lo b z).1,λw=>?_,(lo b z).2.2⟩
      rcases u2 b w with w|⟨i,w⟩
      .exact(lo b z).2.1 w
      .obtain⟨_,_,o,y1,_⟩:=G.foot i b w;rw[fr b z]at y1;cases y1
     .rw[if_neg J]at q;exact q.elim
   have hl:Z.length=m.length:=by rw[<-r.length];exact Fn.len _ _ _ _ gL
   refine ro (mR (Fn.run X.A X.stack s1 B ⟨Z,[]⟩ Z O Q _ hr L.env0 (by have:=hb s1 Z L.kIn (by rw[gI];exact hl);rwa[gI]at this) r gL) λrr s' T=>?_);cases rr with
   |error er=>exact⟨s1,B,L,T⟩
   |ok fl=>
    cases fl with
    |ret u=>exact L.after T
    |next=>exact eT T
    |brk=>exact eT T
    |cont=>exact eT T
 .rw[if_neg P]at q;exact q.elim
end
abbrev hand(X:Cx)(a:ae):Cx:={X with A:=X.A.mark (aa (.ref a)),calm:=aj,xe:=λ_ _=>False}
section
variable{X:Cx}{c:List (ae×Obj)}{b:St}{H:Hp}{s:ao}{a:ae}
theorem Inv.hand(I:Inv X c b H s)(d:(X.A.mark (aa (.ref a))).frames=X.A.frames:=by rfl):Inv (Pu.hand X a) c b H s :=
 ⟨⟨I.ok.mod,I.ok.kind,I.ok.glob,I.ok.blt,I.ok.above,I.ok.inj,I.ok.has,I.ok.cab,(λz=>by cases z),d.trans I.ok.frames,I.ok.stk,I.ok.exf,I.ok.bs,I.ok.bsz,I.ok.noex,I.ok.exfs,I.ok.funs,I.ok.frf,I.ok.tab⟩,I.os,I.bare,I.base,I.loc,I.cell,I.free,I.freeC,I.pin,I.hok,I.len⟩
theorem Inv.unhand(I:Inv (Pu.hand X a) c b H s)(ok:X.Ok):Inv X c b H s:=⟨ok,I.os,I.bare,I.base,I.loc,I.cell,I.free,I.freeC,I.pin,I.hok,I.len⟩
end
def Under(h:aD)(D:ae)(c:ai):Prop:=∃C g N j q bs b i d s f r p o n m l a,c=.ref C/\h.get? C=aa (Cn j q C N bs g b i d s f r p o n m l a)/\(Value.ref C::g).contains (.ref D)=ah
def qW(h:aD)(D:ae):Prop:=∃f N i q bs b g c r d p o n m l j a,h.get? D=aa (Cn i q D N bs f b g c r d p o n m l j a)/\f.contains (.type "BaseException")=ah
theorem Under.keeps{h d:aD}{D:ae}{c:ai}(x:Under h D c)(k:∀b o,h.get? b=aa o->d.get? b=aa o):Under d D c:=by obtain⟨C,bm,N,nm,q,bs,hdct,sn,sub,ab,col,dd,k0,k1,k2,k3,k5,a,e,g,f⟩:=x;exact⟨C,bm,N,nm,q,bs,hdct,sn,sub,ab,col,dd,k0,k1,k2,k3,k5,a,e,k _ _ g,f⟩
theorem qW.keeps{h c:aD}{D:ae}(x:qW h D)(k:∀b o,h.get? b=aa o->c.get? b=aa o):qW c D:=by obtain⟨bm,N,nm,q,bs,hdct,sn,sub,ab,col,dd,k0,k1,k2,k3,k5,a,f,d⟩:=x;exact⟨bm,N,nm,q,bs,hdct,sn,sub,ab,col,dd,k0,k1,k2,k3,k5,a,k _ _ f,d⟩
theorem JN{M:Model}{A:a9}{E:ai->ao->Prop}{s:ao}{e D:ae}{o:Obj}{c:ai}{Q:Bool->ao->Prop}(J:Under s.heap D c)(b:qW s.heap D)(L:s.heap.get? e=aa o)(y:o.cls=c)(K:Q ah s):ax M A (excMatches (.ref e) (.ref D)) Q E s:=by
 obtain⟨C,bm,N,nm,q,bs,p,X,w,ab,S,dd,k0,k1,k2,k3,k5,i,rfl,r,v⟩:=J;obtain⟨m,N',z,Y,T,j,x,n,W,u,P,I,H,G,F,B,a,b,O⟩:=b;obtain⟨h,g,d,t,Z⟩:=s;have l:(Value.ref D::m).contains (.type "BaseException")=ah:=by rw[List.contains_cons,O,Bool.or_true]
 have f:=tc_notTuple;unfold excMatches
 repeat (first | (with_reducible refine HS L ?_;rw[y])|with_reducible refine HS r ?_|with_reducible refine HS b ?_ | (with_reducible refine wpAny_isSubtype_exc r ?_;rw[v]) | (with_reducible refine wpAny_isSubtype_exc b ?_;rw[l])|wp_step)
 exact K
def qP(i:Nat)(b:ai->Bool)(g:af->R Slot)(h:af->R aJ):af->R aJ:=λε=>match g ε with
 |.ok s a=>.ok (.ret s) a
 |.er c a=>if b c=ah/\i<a.length then(match h (a.set i (.val (.exc c)))with
  |.ok f d=>(match d[i]? with
   |some (.val _)=>.ok f (d.set i .none)
   |_=>.no)
  |_=>.no)else .no
 |.no=>.no
section
variable{X:Cx}{E:XK}{pin:List Nat}{e:az}{t:af->R Slot}{x:af->R aJ}{G J C B:Pos}{A n:Str}{D:ae}{l:List aT}{m:aT}{g:ai->Bool}
theorem aP.unset{K:aw}{F:ae->Prop}{S:Nat->ae->Prop}{a:af}{h:St}{H:Hp}{i:Nat}(r:aP K F S a h H):aP K F (λj b=>S j b/\j≠i) (a.set i .none) (h.set i ac) H:=by
 have c:=r.drop i;have o:∀{j:Nat}{s:Slot},(a.set i .none)[j]?=aa s->s≠.none->j≠i:=λ{j s} e q z=>by
  subst z;by_cases u:j<a.length
  .rw[gq u]at e;exact q (eG e).symm
  .rw[ng (by rw[iV];lia)]at e;cases e
 refine⟨by rw[iV,iV];exact r.len,r.ex,λj pv e=>?_,λj p e=>?_,c.foot,c.dist⟩
 .obtain⟨v,f,d⟩:=c.val j pv e;exact⟨v,by rw[eP (eO (o e (by intro z;cases z)))];exact f,d⟩
 .obtain⟨v,f,d⟩:=c.own j p e;exact⟨v,by rw[eP (eO (o e (by intro z;cases z)))];exact f,d⟩
theorem Qx{P:bb}{w:aS}{H:Hp}{h:aD}{a T:ae}{c I:ai}(ok:c7 P w H h)(j:H a=ac)(f:kq h a T c I):c7 P w (upd H a (mo a c)) h:=λb u q=>by
 by_cases r:b=a
 .subst r;rw[cI]at q;cases q;obtain⟨i,v,_,_,p,F,y,_⟩:=f;exact⟨⟨i,v,p,F,y⟩,⟨i,p⟩,λO N ⟨o,s,M,L,K⟩ k=>⟨o,s,k o M,L,K⟩⟩
 .rw[bT r]at q;exact(ok b u q).stay (λ_ _ _ z=>z) (λd z=>by rw[bT (ml z j)];exact z) λd xs z=>by rw[bT (ml z j)];exact z
def ua(X:Cx)(r:List aT)(d:af->R Slot):Prop :=
 ∀F S i a H Q (j:ai->Hp->Prop),aP X.K F S i a H->Ok X.K (λc _ f=>j c f) a F S H (d i) (λs _ q y f=>∀v p,fU X.K f q s v p->(∀b,p b->H b=ac/\¬q b/\¬U y b/\∃o,f b=aa o/\cH o)->Q v f) ->
  ∀h s,Inv X h a H s->ax (aA X.prog X.w) X.A (execs r X.env) (λw s'=>∃u,w=.ret u/\EP X h a Q u s') (XP X h a j) s
theorem tW(d:DX X e t):ua X [.Return (aa e) G] t:=λF S b a H Q i c h f s I=>BQ (wpAny_Return_some (dw (d F S b a H Q i c h f s I) (λu j q=>⟨u,rfl,q⟩) λ_ _ q=>q))
theorem KQ{ss:List aT}(i:Nat)(hN:X.N.Nodup)(hx:ua X ss t)(hD:X.mg A=aa (.ref D))(hE:qW X.base D)(hcg:∀c,g c=ah->Under X.base D c)(hh:∀a,f9 (hand X a) E0 pin (m::l) x)(lS:i∉pin:=by decide) (hi:X.N[i]?=aa n:=by rfl) (hl:X.env.scope.names.lookup n=aa .local:=by rfl) (hg:Gl X A:=by rfl) (hd:(A==("__debug__":Str))=aj:=by decide) (eK:X.stack=X.env::X.outer:=by rfl) (hfm:X.env.frame=aa X.env.locals:=by rfl) (hf:X.fn n=ah\/X.env.scope.names.lookup n=aa .local:=by first|exact .inl rfl|exact .inr rfl):DS X E pin (.Try ss [.ExceptHandler (aa (.Name A J)) (aa n) (m::l) C] [] [] B) (qP i g t x):=λF S ε σ H Dn rl q=>Bx.mk λag s I=>by
 refine wpAny_Try_except ?_;have body:=hx F S ε σ H (λv r=>Dn.rt v r) (λc r=>∃K P M,aP X.K K P M σ r/\bC (U S) (U P) F K H r/\g c=ah/\i<M.length/\i9 X.K E pin σ F S H (match x (M.set i (.val (.exc c)))with
  |.ok f ε2=>(match ε2[i]? with
   |some (.val _)=>.ok f (ε2.set i .none)
   |_=>.no)
  |_=>.no) Dn) rl (by
  unfold qP at q;cases e0:t ε with
  |no=>rw[e0]at q;exact q.elim
  |ok sl M=>rw[e0]at q;intro K P r r' N v Sr rv fr;exact q v K P σ r Sr r' ⟨N.fro,N.keep,N.there,N.fnew,λb z=>z.elim (N.onew b) λw=>.inr (fr b w).1⟩ (iD.refl _ _) rv λb z=>(fr b z).2
  |er c M=>
   rw[e0]at q;intro y K P r r' N;dsimp only at q;by_cases hc:g c=ah/\i<M.length
   .rw[if_pos hc]at q;exact⟨K,P,M,r',N,hc.1,hc.2,q⟩
   .rw[if_neg hc]at q;exact q.elim) ag s I
 refine dw body (λfl W ⟨u,efl,v,Z,I1,r1,q1⟩=>?_) λev W xp=>?_
 .subst efl;exact⟨v,σ,Z,I1,r1,q1⟩
 obtain⟨s0,H0,I0,a,T,c,Z,rfl,ho,hg1,un,hok,fl,⟨fa,fT,na,nT⟩,F1,S1,ε1,rl1,g1,hcc,bU,h⟩:=xp;have I1:=I0.call' (s':=W) (ch:=[]) ho un hok hg1 (λb z=>absurd z (by simp));have kpI:∀{h2:aD}{Y:ae->Prop}{T':ae},Kp (fg X.stack) Y W.heap h2->(∀b o,s0.heap.get? b=aa o->¬Y b)->(∀b,Y b->Z b=ac)->kq h2 a T' c .none->∀tk,Inv X ag σ (upd Z a (mo a c)) {W with heap:=h2,toks:=tk}:=λ{h2 Y T'} k hY1 hY2 f2 tk=>by
  refine I0.call' (s':={W with heap:=h2,toks:=tk}) (ch:=[]) ho ?_ (Qx (Ak hok k (λb hb=>I1.stkFree b hb) hY2) na f2) hg1 (λb z=>absurd z (by simp));have u2:=Bb un k (λb o _ z=>z) hY1;have na':∀b o,Z b=aa o->b≠a:=λb o e=>ml e na;refine⟨u2.keep,u2.slot,λb o e n hx=>?_,u2.there,λb xs e=>?_,λb o u e=>?_,λb ps e=>?_⟩
  .rw[bT (by rintro rfl;rw[fa]at e;cases e)];exact u2.free b o e n hx
  .have:=u2.tups b xs e;rw[bT (na' b _ this)];exact this
  .have:=u2.frzs b o u e;rw[bT (na' b _ this)];exact this
  .have:=u2.tbls b ps e;rw[bT (na' b _ this)];exact this
 have H1T:∀b,b=a\/b=T->Z b=ac:=λb z=>by rcases z with rfl|rfl <;> assumption
 have old1:∀b o,s0.heap.get? b=aa o->¬(b=a\/b=T):=λb o e z=>by
  rcases z with rfl|rfl
  .rw[fa]at e;cases e
  .rw[fT]at e;cases e
 refine Fo (outer:=X.outer) (by rw[I0.ok.frames,eK]) (by rw[<-eK];exact I1.stack) hfm fl λh2 T' k fl2 fT'=>?_;rw[<-eK]at k;have I2:=kpI k old1 H1T fl2 W.toks;refine wpAny_handleBy_cons (codeAny_handlers_test ?_) (by intro z;cases z);have I2h:Inv (hand X a) ag σ (upd Z a (mo a c)) {W with heap:=h2}:=Inv.hand I2;refine pL (X:=hand X a) I2h hg hD ?_ hd;obtain⟨oe,vs,oT,ts,he2,Sj,_⟩:=id fl2;refine JN (s:={W with heap:=h2}) ((hcg c hcc).keeps I2.bk) (hE.keeps I2.bk) he2 Sj ?_;show j3 _ _ _ _ _;refine codeAny_handlers_suite_as (Qf (s:={W with heap:=h2}) fl2 λh3 k3 fl3=>?_);have k':Kp (fg X.stack) (λb=>(b=a\/b=T)\/b=T') W.heap h3:=k.trans (k3.imp (λb z=>by simp at z) λb o _ z=>z);have I3:=kpI (T':=T') k' (λb o e z=>by
  rcases z with z|rfl
  .exact old1 b o e z
  .rw[q8 un (BO fT')]at e;cases e) (λb z=>by
  rcases z with z|rfl
  .exact H1T b z
  .exact I1.hok.fresh fT') fl3 W.toks
 have I3h:Inv (hand X a) ag σ (upd Z a (mo a c)) {W with heap:=h3}:=Inv.hand I3;refine wH (X:=hand X a) (v:=.ref a) I3h hN hi (.inl hl) rfl (λs4 I4=>?_) hf;have al:Al F1 F1 Z (upd Z a (mo a c)):=Al.new0 na;have r2:=rl1.al al;have r3:=r2.set (i:=i) (pv:=.exc c) (v:=.ref a) ⟨a,rfl,cI⟩;have g3:bC (U S) (U λj b=>S1 j b/\j≠i) F F1 H (upd Z a (mo a c)):=(g1.trans al.grow).trans (bC.less i);have less:∀{P:Nat->ae->Prop}{K:ae->Prop}{r:Hp},bC (U P) (U λj b=>P j b/\j≠i) K K r r:=λ{P K r}=>bC.less i;have pn:∀{d:St},iD pin (σ.set i (aa (.ref a))) d->iD pin σ (d.set i ac):=λ{d} p=>((iD.set lS).trans p).trans (iD.set lS);have okd:i9 (hand X a).K E0 pin (σ.set i (aa (.ref a))) F1 (λj b=>S1 j b/\j≠i) (upd Z a (mo a c)) (x (ε1.set i (.val (.exc c)))) {nx:=λd r=>Dn.nx (d.set i ac) r,rt:=Dn.rt,bk:=λd r=>Dn.bk (d.set i ac) r,ct:=λd r=>Dn.ct (d.set i ac) r}:=by
  cases ed:x (ε1.set i (.val (.exc c)))with
  |no=>rw[ed]at h;exact h.elim
  |er c' ε2=>rw[ed]at h;exact h.elim
  |ok f ε2=>
   rw[ed]at h;dsimp only at h;split at h
   .cases f with
    |next=>exact λK P d r r' N p'=>h K _ _ r r'.unset ((g3.trans N).trans less) (pn p')
    |brk=>exact λK P d r r' N p'=>h K _ _ r r'.unset ((g3.trans N).trans less) (pn p')
    |cont=>exact λK P d r r' N p'=>h K _ _ r r'.unset ((g3.trans N).trans less) (pn p')
    |ret sl=>
     intro v K P d r Sr r' N p' rv lo;refine h v K _ _ r Sr r'.unset ?_ (pn p') rv λb z=>⟨(lo b z).1,λ⟨j,w⟩=>(lo b z).2.1 ⟨j,w.1⟩,(lo b z).2.2⟩
     have gg:=g3.trans N;exact⟨gg.fro,gg.keep,gg.there,gg.fnew,λb z=>gg.onew b (z.imp (λ⟨j,w⟩=>⟨j,w.1⟩) id)⟩
   .exact h.elim
 refine dw ((hh a F1 _ _ _ _ _ r3 okd).run ag s4 I4) (λf s5 sp=>?_) λ_ _ z=>z.elim;have O:∀{L:St}{H5:Hp}{Q:Unit->ao->Prop},Inv (hand X a) ag L H5 s5->(∀s6,Inv X ag (L.set i ac) H5 s6->Q () s6)->ax (aA X.prog X.w) X.A (do bindName X.env n .none;unbindBehindTheSuite X.env n C) Q X.xe s5:=λ{L H5 Q} I5 hQ=>by
  have I5':=Inv.unhand I5 I0.ok;refine aq (wpAny_bindName (wH (v:=.non) I5' hN hi (.inl hl) rfl (λs6 I6=>?_) hf));unfold unbindBehindTheSuite;refine wpAny_onRaise ?_;have hiσ:i<L.length:=by rw[I5'.len];exact(dW.mp hi).1
  refine Lo I6 hN hi hl (gq hiσ) λs7 I7=>hQ s7 ?_;rw[List.set_set]at I7;exact I7
 cases f with
 |next=>obtain⟨L,H5,I5,q5⟩:=sp;exact O I5 λs6 I6=>⟨_,H5,I6,q5⟩
 |brk=>obtain⟨L,H5,I5,q5⟩:=sp;exact O I5 λs6 I6=>⟨_,H5,I6,q5⟩
 |cont=>obtain⟨L,H5,I5,q5⟩:=sp;exact O I5 λs6 I6=>⟨_,H5,I6,q5⟩
 |ret u=>obtain⟨v,L,H5,I5,rv,q5⟩:=sp;exact O I5 λs6 I6=>⟨v,_,H5,I6,rv,q5⟩
end
structure jT(k:Nat)(A:a9):Prop where
 dp:A.depth+3*k+5<recursionLimit
 un:A.units+16*k+200<cLine
theorem cT.hand{k:Nat}{A:a9}{v:Option ai}(r:cT k A):jT k (A.mark v):=⟨r.dp,r.un⟩
theorem jT.mono{j k:Nat}{A:a9}(r:jT k A)(h:j<=k):jT j A:=⟨by have:=r.dp;lia,by have:=r.un;lia⟩
theorem jT.deeper{k:Nat}{A:a9}(r:jT (k+1) A)(a:Env):jT k (A.deeper a) :=⟨by have:=r.dp;show A.depth+1+3*k+5<_;lia,by have:=r.un;show A.units+3+16*k+200<_;lia⟩
theorem jT.units{k:Nat}{A:a9}(r:jT k A):A.units+64<cLine:=by have:=r.un;lia
def t7(P:bb)(w:aS)(K:aw)(g:Str->Option ai)(d:aD)(N:List Str)(c:Str)(a:dZ)(f:ae)(h:ai)(A:a9)(b:List Env)(s:ao)(H:Hp):Cx :=
 {(gS zT P w K g d N c a f h A b s H E0)with calm:=aj,xe:=λ_ _=>False}
structure zx(P:bb)(w:aS)(K:aw)(mg:Str->Option ai)(base:aD)(k:Nat)(f:ae)(fd:fF)(ps:List Str)(sp:Sp):Prop where
 len:∀vs H Q E,sp vs H Q E->vs.length=ps.length
 run:∀(A:a9) (outer:List Env) (s:ao) (H:Hp) (args:Args) (us:List ai) (vs:List V) (Q:VK),jT k A->nV P w K mg base A outer s H->BindsTo s fd args (ps.zip us)->bI vs us->sp vs H Q E0 ->
  j3 (aA P w) A (.call (.ref f) args) (CR zT outer P w H s Q E0) s
structure vL(P:bb)(w:aS)(K:aw)(mg:Str->Option ai)(base:aD)(x:Str)(k:Nat)(ps:List Str)(sp:Sp):Prop where
 ex:∃f fd,mg x=aa (.ref f)/\zx P w K mg base k f fd ps sp/\Binds K fd ps []/\iS K (.ref f)=ah
theorem Lw{P:bb}{w:aS}{K:aw}{D:Str->Option ai}{h:aD}{k:Nat}{f:ae}{t g:Str}{i:Arguments}{l:List aT}{a:dZ}{dV kV L pm B ct oc:ai}{an od:Option ae}{Y:Array (Option ai)}{N M:List Str}{O:Sp} (lk:K.lookup f=aa ⟨oc,od,.func (fX t g i l a dV kV L pm an B ct),Y⟩) (cj:pS K B g=ah) (S:bK N M a)(len:∀p H Q E,O p H Q E->p.length=M.length)(fP:∀(A:a9) (c:List Env) (s:ao) (H:Hp) (p:List V) (Q:VK),jT k (A.deeper (g8 g a s.heap.objs.size f B))->O p H Q E0 -> pj (t7 P w K D h N g a f B A c s H) l {nx:=λ_ C=>Q .non C,rt:=Q} (L2.start N p) H):zx P w K D h (k+1) f (fX t g i l a dV kV L pm an B ct) M O:=by
 refine⟨len,λA c s H args us p Q hr j hb r gL=>?_⟩;have hl:=len _ _ _ _ gL;have KX:K.In s.heap:=j.mod.kin.keeps λb o e=>(j.bs b o e).1;have Z:s.heap.NoLimit:=j.mod.nolimit.keeps λb o e=>(j.bs b o e).1;have Cw:∀y∈M.zip us,a.names.lookup y.1=aa .local\/(a.names.lookup y.1=aa .cell/\((fH (s.heap.objs.size+1) a.names []).lookup y.1).isSome=ah):=λ⟨n,v⟩ hy=>(S.par n (x6 hy).1).imp id λq=>⟨q,Hn _ _ _ (.inl q)⟩
 refine codeAny_call_function (by have:=hr.dp;lia) (KX _ _ lk) rfl S.co S.gen rfl (PySem.W.codeRec_of KX cj) (hb _ _ _ _ ?_);refine wpAny_newFunctionEnv_cells S.kind Cw λenv he T x=>?_;subst he;refine⟨Z.keeps x.toInCall.keep,codeAny_func ?_⟩;have e1:nV P w K D h {A with handled:=ac} c s H:=⟨j.frames,j.mod,j.bs,j.bsz,j.funs,j.frf,j.hok,j.bare,j.tab⟩
 have d:Inv (gS zT P w K D h N g a f B {A with handled:=ac} c s H E0) [] (L2.start N p) H T:=EO S rfl e1 hl r x;have I:Inv (t7 P w K D h N g a f B A c s H) [] (L2.start N p) H T :=
  ⟨⟨d.ok.mod,d.ok.kind,d.ok.glob,d.ok.blt,d.ok.above,d.ok.inj,d.ok.has,d.ok.cab,(λz=>by cases z),Around.frames_deeper j.frames,d.ok.stk,d.ok.exf,d.ok.bs,d.ok.bsz,d.ok.noex,d.ok.exfs,d.ok.funs,d.ok.frf,d.ok.tab⟩,d.os,d.bare,d.base,d.loc,d.cell,d.free,d.freeC,d.pin,d.hok,d.len⟩
 refine dw ((fP A c s H p Q (hr.deeper _) gL).run [] T I) (λfl W F=>?_) λe W F=>F.elim;have G:∀{m:St}{C:Hp}{v:V}{u:ai},Inv (t7 P w K D h N g a f B A c s H) [] m C W->RelV v u->Q v C->CE c P w H s Q u W:=λ{m C v u} J X q=>⟨v,C,J.os,J.bare,J.base,J.hok,X,q⟩
 cases fl with
 |ret u=>obtain⟨v,m,C,J,X,q⟩:=F;exact G J X q
 |next=>obtain⟨m,C,J,q⟩:=F;exact G (v:=V.non) (u:=Value.none) J rfl q
 |brk=>obtain⟨_,_,_,q⟩:=F;exact eT q
 |cont=>obtain⟨_,_,_,q⟩:=F;exact eT q
theorem Iu{P:bb}{w:aS}{K:aw}{t:Str->Option ai}{j:aD}{x:Str}{c:aT}{N l:List Str}{k n:Nat}{g:af->R Slot}{d:af->R aJ}{p:List Nat}(D:bZ K t x c)(X:bK N l (aO c))(I:N.length=l.length+n)(M:∀(kV q v:ai) (C:Option ae) (o z:ai) (r:List ai),r.length=l.length->fG (fX x x (gR c) (d7 c) (aO c) .none kV q v C o z) ⟨r,[]⟩=pure (l.zip r))(B:∀b,g b≠.no->b.length=l.length) (y:∀b,g b≠.no->∀(i:Nat) m,b[i]?=aa (.own m)->i∈p/\iI m=ah) (L:∀b,g b≠.no->bj n d b=g b)(T:∀(f:ae) (o:ai) (A:a9) (a:List Env) (s:ao) (H:Hp),jT k (A.deeper (g8 x (aO c) s.heap.objs.size f o))->f9 (t7 P w K t j N x (aO c) f o A a s H) E0 p (d7 c) d):vL P w K t j x (k+1) l (bi K g):=by obtain⟨f,S,J,u⟩:=D.ex;refine⟨f,S,J,?_,u.binds M,u.kp⟩;obtain⟨oc,od,kV,q,v,C,o,z,E,rfl,F,W⟩:=u.ex;exact Lw F W X (Df B) λA a s H Y Q G O=>GW I B (λb h i m e=>(y b h i m e).1) (λb Z aN h=>.inr λi m e=>(y b (by rw[h];exact nofun) i m e).2) L (T f o A a s H G) O
section
variable{X:Cx}{E:XK}{e:az}{d:List az}{j:af->R (List bO)}{b:Pos}{x:Str}{k:Nat}{i:List Str}{g:af->R Slot}{p:Pos}
theorem OK{f:ae}{y:fF}{v:Sp}{t:TA}(z:zx X.prog X.w X.K X.mg X.base k f y i v)(B:jT k X.A)(G:Gl X x)(C:X.mg x=aa (.ref f))(F:iS X.K (.ref f)=ah)(L:Binds X.K y i [])(M:PA X (e::d) t) (K:(x==("__debug__":Str))=aj) (J:aL (e::d) X.env=(aj,aQ e X.env)::aL d X.env) (O:(cJ b (aL d X.env)).any (·.1)=aj):PE X (.Call (.Name x p) (e::d) [] b) (λm H Q=>t m H λn o=>v n o Q E0):=λP s m H Q I h=>by
 refine ui (pL I G C ?_ K);refine xZ (h₀:=X.base) I.ok.mod.kin F (bf (M b P s m H _ I h) λc w ⟨n,o,l,r,q⟩=>⟨l.kIn,?_⟩) J O;have D:c.length=i.length:=by rw[<-r.length];exact z.len _ _ _ _ q
 refine ro (mR (z.run X.A X.stack w o ⟨c,[]⟩ c n Q B l.env0 (by have:=L w c l.kIn (by rw[gI];exact D);rwa[gI]at this) r q) λA S a=>?_);cases A with
 |error er=>exact(show False from a).elim
 |ok N=>
  cases N with
  |ret u=>exact l.after a
  |next=>exact eT a
  |brk=>exact eT a
  |cont=>exact eT a
theorem Is{n m:Type}{K:aw}{E o:XK}{c:St}{F:ae->Prop}{S:Nat->ae->Prop}{H:Hp}{C:m->af->(ae->Prop)->(Nat->ae->Prop)->Hp->Prop}{r:R n}{f:n->af->R m}(h:Ok K E c F S H (bu (r.bind f)) C):Ok K E c F S H r λa l F S H=>Ok K o c F S H (f a l) C:=by
 cases r with
 |ok a l=>
  intro v t u s q;have h:Ok K E c F S H (bu (f a l)) C:=h;cases e:f a l with
  |ok=>rw[e]at h;exact Ok.from (E:=o) h q
  |_=>rw[e]at h;exact h.elim
 |_=>exact h.elim
theorem Nw(c:vL X.prog X.w X.K X.mg X.base x k i (bi X.K g))(r:jT k X.A)(y:DG X E (e::d) j)(u:Gl X x:=by rfl)(v:(x==("__debug__":Str))=aj:=by decide) (A:aL (e::d) X.env=(aj,aQ e X.env)::aL d X.env:=by rfl) (z:(cJ b (aL d X.env)).any (·.1)=aj:=by rfl):DR X E (.Call (.Name x p) (e::d) [] b) (λa=>bu (aC g j a)):=λF S a l H Q n h=>by obtain⟨f,I,s,D,w,t⟩:=c.ex;exact cz (OK D r u s t w gk v A z) (y F S a l H _ n ((Is h).imp λJ m M K L o B q G C=>F9 o B C q))
end
structure oi(K:aw)(C:ae):Prop where
 ga:g7 K (.ref C) "__getattribute__"=aa (aa (.builtin "BaseException.__getattribute__"))
 gt:g7 K (.ref C) "__getattr__"=aa ac
 cl:g7 K (.ref C) "__class__"=aa (aa (.builtin "object.__class__"))
 gs:Hl K (.builtin "object.__class__") "__get__"=aa (aa (.builtin "getset_descriptor.__get__"))
 tk:PySem.W.takesIn K (.builtin "object.__class__")=aa ah
 ob:xY K C (.type "object")=aa ah
 be:xY K C (.type "BaseException")=aa ah
 cs:(Co K C).isSome=ah
section
variable{b:bb}{w:aS}{A:a9}{E:ai->ao->Prop}{K:aw}{h:aD}{g:Array GenState}{d:Drawn}{t:Nat}{c:OsState}{a C:ae}{o:Obj}
theorem Qb{M:Model}{f:ai}{Q:Unit->ao->Prop}(X:K.In h)(k:oi K C)(I:uh h a o C ac)(j:Q () ⟨h,g,d,t,c⟩):ax M A (HL "BaseException.__getattribute__" ⟨[.ref a,f],[]⟩) Q E ⟨h,g,d,t,c⟩:=by
 have l:builtinKind "BaseException.__getattribute__"=aa .slot:=by decide +kernel
 have m:splitId "BaseException.__getattribute__"=aa ("BaseException","__getattribute__"):=by decide +kernel
 have p:=F.args_bexc_ga (.ref a) f;have n:=I.type (M:=M);have i:=PySem.W.looks_mroIn (M:=M) X k.be;simp only[HL,l,m];refine aq ?_
 .unfold isInstance
  repeat (first|with_reducible refine aq (n.at ?_)|with_reducible refine i.at ?_|with_reducible refine aq (i.at ?_)|wp_step)
  exact j
theorem Ox{i:Tok}{Q:Fin->ao->Prop}(X:K.In h)(k:oi K C)(I:uh h a o C ac)(j:Q (.done (.ret (.ref C))) ⟨h,g,d,t,c⟩):ax (aA b w) A (Builtin.«object.__getattribute__» ⟨[.ref a,.str "__class__" i],[]⟩) Q E ⟨h,g,d,t,c⟩:=by
 have q:=I.type (M:=aA b w);have l:PySem.W.findObj K C ac "__class__"=aa (.bind (.builtin "getset_descriptor.__get__") (.builtin "object.__class__")):=by obtain⟨u,m⟩:=BZ.mp k.cs;unfold PySem.W.findObj;rw[m,g9,k.cl,g9];simp[k.gs,k.tk]
 have p:=PySem.W.looks_find (M:=aA b w) X I l;have n:j3 (aA b w) A (.call (.builtin "getset_descriptor.__get__") ⟨[.builtin "object.__class__",.ref a,.ref C],[]⟩) (λr f=>r=.ok (.ret (.ref C))/\f=⟨h,g,d,t,c⟩) ⟨h,g,d,t,c⟩:=PySem.W.class_get (s:=⟨h,g,d,t,c⟩) X I k.ob ⟨rfl,rfl⟩;refine aq (aI (aq (aI (aq (q.at (aq (p.at ?_)))))));show ax _ _ (do ret (<-holding [Value.builtin "object.__class__"] (call (.builtin "getset_descriptor.__get__") [.builtin "object.__class__",.ref a,.ref C]))) _ _ _;refine aq (mU (ro (mR n λr f z=>?_)));obtain⟨rfl,rfl⟩:=z;exact aI j
theorem Jk{l:Tok}{Q:ai->ao->Prop}(X:K.In h)(k:oi K C)(I:uh h a o C ac)(q:Q (.ref C) ⟨h,g,d,t,c⟩):ax (aA b w) A (getAttrBy (.ref a) (.str "__class__" l) aj) Q E ⟨h,g,d,t,c⟩:=by
 have p:=I.type (M:=aA b w);have n:=Hk (M:=aA b w) X k.ga;have f:=Hk (M:=aA b w) X k.gt;have j:(Value.builtin "BaseException.__getattribute__" == Value.builtin "object.__getattribute__")=aj:=by decide +kernel
 have i:(onTheHeap (Value.ref C)&&Value.builtin "BaseException.__getattribute__" == Value.builtin "object.__getattribute__")=aj:=by rw[j];rfl
 unfold getAttrBy;refine mU (aq (p.at (aq (n.at ?_))));dsimp only;rw[i];rw[if_neg (by decide)];have f3:=F.attr_ValueError.ga.bind (.ref a);have m:(aj&&onTheHeap (Value.builtin "BaseException.__getattribute__"))=aj:=rfl
 repeat (any_goals (first|assumption|with_reducible refine f.at ?_|with_reducible refine aq (f.at ?_)|wp_step))
 refine codeAny_call_builtin F.attr_ValueError.ga.plain F.entry_bexc_ga (Qb X k I (Ox X k I ?_))
 repeat (any_goals (first|assumption|wp_step))
theorem Iw{Q:Option ai->ao->Prop}(X:K.In h)(k:oi K C)(I:uh h a o C ac)(f:Q (aa (.ref C)) ⟨h,g,d,t+1,c⟩):ax (aA b w) A (getAttr? (.ref a) "__class__") Q E ⟨h,g,d,t,c⟩:=by
 unfold getAttr? getAttrBy?
 repeat (any_goals (first|assumption|with_reducible apply Jk X k I|wp_step))
theorem Ln(k:oi K C):PySem.W.KitX K (.ref a) (.ref C) (λh=>∃o,uh h a o C ac) where
 ty:=λ_ _ _ ⟨o,I⟩=>I.type
 it:=λ_ _ X _=>by
  obtain⟨x,f⟩:=BZ.mp k.cs;unfold Co at f;split at f
  .rename_i y v m i l;intro J G H D r q;unfold isType loadHead;exact aq (wpAny_loadPart (r _ _ (X _ _ l)) (aI q))
  .cases f
 ne:=λh p F u n B X j=>by
  obtain⟨x,f⟩:=BZ.mp k.cs;refine yq.mpr λq=>?_;have e:C=p:=Value.ref.inj (beq_iff_eq.mp q);subst e;unfold Co at f;split at f
  .rename_i y v m i l;have z:=(X _ _ l).symm.trans j;cases z
  .cases f
 ca:=λ{_ _ _ _ _ s} X I q=>by obtain⟨o,I⟩:=I;obtain⟨h,g,d,t,c⟩:=s;exact Iw X k I q
end
def wF:V->Option ai
 |.ref D=>aa (.ref D)
 |.ty T=>aa (.type T)
 |_=>ac
theorem JK{v:V}{u a:ai}(e:wF v=aa u)(r:RelV v a):a=u:=by
 cases v <;> simp[wF]at e <;> subst e <;> exact r
section
variable{X:Cx}{K:aw}
def Hc(K:aw):List V->Hp->VK->Prop:=λxs H Q=>∃a C D u b,xs=[.ref a,D]/\H a=aa (mo a (.ref C))/\oi K C/\wF D=aa u/\cK K (.ref C) u=aa b/\Q (.bl b) H
theorem Sn:eV X (.builtin "isinstance") (Hc X.K):=by
 intro A s v H xs x Q I r h;obtain⟨a,C,D,u,b,rfl,j,k,i,e,q⟩:=h;cases r with
 |cons g f=>
  cases f with
  |cons d c=>
   cases c;cases g;have t:=JK i d;subst t;obtain⟨⟨o,w,p,n,m,l⟩,_,_⟩:=I.hok a _ j;refine kI (Ln (a:=a) k) I.kIn ⟨o,p,n,?_,?_⟩ e (by intro z;cases z) λy=>⟨.bl b,H,I.tok _,rfl,q⟩
   .unfold PySem.W.notCls;rw[m]
   .rw[l];trivial
def k8(tab:ai->V->Option Bool):List PV->Option PV
 |[.exc c,.raw D]=>(tab c D).map .bl
 |xs=>bQ xs
def EN(K:aw):List V->Hp->VK->Prop:=λxs H Q=>Hc K xs H Q\/∃x t T b,xs=[x,.ty T]/\ix K H x (.type t)/\cK K (.type t) (.type T)=aa b/\Q (.bl b) H
theorem ot:eV X (.builtin "isinstance") (EN X.K):=Sn.or iC
def zP(K:aw)(tab:ai->V->Option Bool):Prop:=∀c D b,tab c D=aa b->∃C u,c=.ref C/\oi K C/\wF D=aa u/\cK K (.ref C) u=aa b
theorem n6{tab:ai->V->Option Bool}(i:zP K tab):PL K (EN K) (k8 tab):=λF H xs g Q pv f e q=>by
 unfold k8 at e;split at e
 .rename_i c D;cases d:tab c D with
  |none=>rw[d]at e;cases e
  |some b=>
   rw[d]at e;cases e;obtain⟨C,u,rfl,k,h,j⟩:=i c D b d;obtain⟨v,o,rfl,⟨a,rfl,l⟩,n⟩:=f;obtain⟨v2,rfl,m⟩:=gy n;rw[show v2=D from m];exact .inl ⟨a,C,D,u,b,rfl,l,k,h,j,q _ F H (Al.refl ..) rfl⟩
 .exact .inr (iJ F H _ g Q pv f e q)
theorem oq{E:XK}{x:Str}{D:ae}{d:Pos}(a:X.mg x=aa (.ref D))(b:Gl X x:=by rfl)(c:(x==("__debug__":Str))=aj:=by decide):DE X E (.Name x d) (dC (.raw (.ref D))):=λF S g f H Q r q=>cz (AC (v:=.ref D) b a rfl c) (q F S H r (bC.refl ..) _ rfl)
variable{E:XK}{e:az}{de:af->R PV}{d:Pos}{y:Str}
def zY(xs:List PV)(y:PV):Option PV:=(dS y).bind λv=>(jW xs).map λa=>.int (a.countP λz=>fh z v)
def AU(xs:List PV)(y:PV):Option PV:=(dS y).bind λv=>(jW xs).bind λa=>(a.findIdx? λz=>fh z v).map λj=>.int j
def qJ(f:List PV->PV->Option PV)(i:Nat)(de:af->R PV):af->R PV:=λb=>(aR (fJ b i) b).bind λ_ b=>(de b).bind λk a=>(aR (fJ a i) a).bind λxs a=>aR (f xs k) a
theorem K3(i:Nat){p c b:Pos}(M:DE X E e de)(P:X.N[i]?=aa y:=by rfl)(J:f_ X.env.scope y:=by eq_refl)(N:(y==("__debug__":Str))=aj:=by decide)(cj:(y==("__classdict__":Str))=aj:=by decide) (Z:j4 (.Name y p) "count" X.env (aQ (.Name y p) X.env)=aQ (.Name y p) X.env:=by rfl)(Y:((cJ b (aL [e] X.env)).all (λx=>!x.1)&&(mX b (mY [] X.env)).all (λx=>x.1.isSome)&&decide ([e].length+([]:List jA).length+(if([]:List jA).isEmpty then 0 else 1)<30))=ah:=by rfl)(W:(c.endLine == b.line)=ah:=by rfl) (t:aL [e] X.env=(aj,aQ e X.env)::aL [] X.env:=by rfl) (T:(cJ b (aL [] X.env)).any (·.1)=aj:=by rfl):DE X E (.Call (.Attribute (.Name y p) "count" c) [e] [] b) (qJ zY i de):=λF S o z H Q r h=>by
 unfold qJ at h;cases n:fJ o i with
 |none=>rw[n]at h;exact h.elim
 |some A=>
  rw[n]at h;simp only[dY,R.bind_ok]at h;obtain⟨a,B,u,O,_,_,_⟩:=r.lstAt (jY n);refine cz (tQ Cm PySem.F.slot_list_count PySem.F.type_list_count Lf (ij P J N cj) (jp ce lq t) Z Y W t T) ⟨.ref a,u,.inl ⟨rfl,_,cu.of O⟩,?_⟩;refine M F S o z H _ r ((Ok.bind h).imp λk j F1 S1 H1 s g1 q v D=>?_);cases m:fJ j i with
  |none=>rw[m]at q;exact q.elim
  |some xs=>
   rw[m]at q;simp only[dY,R.bind_ok]at q;obtain⟨a',C,g,I,G,_,_⟩:=s.lstAt (jY m);rw[u]at g;cases g;unfold zY at q;cases f:dS k with
   |none=>rw[f]at q;exact q.elim
   |some w=>
    cases l:jW xs with
    |none=>rw[f,l]at q;exact q.elim
    |some ws=>rw[f,l]at q;obtain⟨rfl,L⟩:=vp G l;rw[jl D f];exact⟨a,C,w,rfl,rfl,I,sq f,L,q F1 S1 H1 s (bC.refl ..) _ rfl⟩
theorem JE(i:Nat){p c b:Pos}(he:DE X E e de)(hN:X.N[i]?=aa y:=by rfl)(W:f_ X.env.scope y:=by eq_refl)(hd:(y==("__debug__":Str))=aj:=by decide)(cj:(y==("__classdict__":Str))=aj:=by decide) (h1:j4 (.Name y p) "index" X.env (aQ (.Name y p) X.env)=aQ (.Name y p) X.env:=by rfl)(h2:((cJ b (aL [e] X.env)).all (λx=>!x.1)&&(mX b (mY [] X.env)).all (λx=>x.1.isSome)&&decide ([e].length+([]:List jA).length+(if([]:List jA).isEmpty then 0 else 1)<30))=ah:=by rfl)(h3:(c.endLine == b.line)=ah:=by rfl) (D:aL [e] X.env=(aj,aQ e X.env)::aL [] X.env:=by rfl) (h5:(cJ b (aL [] X.env)).any (·.1)=aj:=by rfl):DE X E (.Call (.Attribute (.Name y p) "index" c) [e] [] b) (qJ AU i de):=λF S u I H Q A h=>by
 unfold qJ at h;cases t:fJ u i with
 |none=>rw[t]at h;exact h.elim
 |some J=>
  rw[t]at h;simp only[dY,R.bind_ok]at h;obtain⟨a,M,G,ha,_,_,_⟩:=A.lstAt (jY t);refine cz (tQ Cm PySem.F.slot_list_index PySem.F.type_list_index Oj (ij hN W hd cj) (jp ce lq D) h1 h2 h3 D h5) ⟨.ref a,G,.inl ⟨rfl,_,cu.of ha⟩,?_⟩;refine he F S u I H _ A ((Ok.bind h).imp λk r F1 S1 H1 B g1 q v O=>?_);cases s:fJ r i with
  |none=>rw[s]at q;exact q.elim
  |some xs=>
   rw[s]at q;simp only[dY,R.bind_ok]at q;obtain⟨a',N,l,T,P,_,_⟩:=B.lstAt (jY s);rw[G]at l;cases l;unfold AU at q;cases f:dS k with
   |none=>rw[f]at q;exact q.elim
   |some w=>
    cases o:jW xs with
    |none=>rw[f,o]at q;exact q.elim
    |some L=>
     cases n:L.findIdx? λz=>fh z w with
     |none=>rw[f,o]at q;simp only[g9]at q;rw[n]at q;exact q.elim
     |some j=>
      rw[f,o]at q;simp only[g9]at q;rw[n]at q;obtain⟨rfl,Z⟩:=vp P o;rw[jl O f];rw[RV]at n;obtain⟨C,h6,h7⟩:=n;refine⟨a,N,w,j,rfl,rfl,T,sq f,Z,C,λz g=>?_,λm z Y g=>?_,q F1 S1 H1 B (bC.refl ..) _ rfl⟩
      .rw[eI C]at g;cases g;exact h6
      .have:=h7 m Y;rw[eI ∅]at g;cases g;simpa using this
end
def h_(g:Tx):List Tx->Tx
 |[]=>[]
 |[x]=>x
 |x::y::r=>x++g++h_ g (y::r)
theorem CU(a b:Tx):tS (a++b)=tS a++tS b:=by apply Str.ext';simp[tS,Str.cps_append]
theorem Fj(g:Tx):∀a:List Tx,Str.join (tS g) (a.map tS)=tS (h_ g a)
 |[]=>rfl
 |[x]=>rfl
 |x::y::r=>by show tS x++tS g++Str.join (tS g) ((y::r).map tS)=tS (x++g++h_ g (y::r));rw[Fj g (y::r),CU,CU]
theorem FY(g:Tx)(a:List Tx):Txt.join (tS g) (a.map tS)=tS (h_ g a):=by unfold Txt.join;rw[StrLaws.glued_eq_join,Fj]
theorem Dh(c:Nat)(x:Tx):u9 [c] x=x.contains c:=by unfold u9;have:=StrLaws.found_one (tS x) c;rw[kB]at this;rw[show(tS [c])=⟨#[c]⟩from rfl,this];simp[List.contains_eq_mem]
theorem Bp:∀{b:List Tx}{a:List ai},bI (df b) a->gK a (b.map tS)
 |[],_,r=>by cases r;exact .nil
 |x::b,_,r=>by
  cases r with
  |cons d c=>obtain⟨t,rfl⟩:=d;exact .cons _ t (Bp c)
section
variable{X:Cx}{K:aw}
def mI(g:Tx)(a:List Tx):Nat:=(a.map jx).sum+a.length*g.length
theorem E7(g:Tx):∀a,(h_ g a).length<=mI g a
 |[]=>jd _
 |[x]=>by simp[h_,mI]
 |x::y::r=>by have h:=E7 g (y::r);show(x++g++h_ g (y::r)).length<=_;generalize h_ g (y::r)=z at h;unfold mI at *;simp only[dy,gH,List.sum_cons,eR,Nat.add_mul]at *;lia
def zJ(K:aw):V->List V->Hp->VK->Prop:=λx xs H Q=>∃g p a,x=tV g/\xs=[.ref p]/\(cu K H p (df a)\/cG K H p (df a))/\mI g a<=bS/\Q (tV (h_ g a)) H
theorem KB:ud X "str.join" (zJ X.K):=by
 intro A s y H x xs v z Q I m o h;obtain⟨g,p,b,rfl,rfl,d,w,q⟩:=h;obtain⟨t,rfl⟩:=m;obtain⟨u,rfl,n⟩:=vals1 o;cases n;have c:((b.map tS).map (·.length)).sum+(b.map tS).length*(tS g).length<=16777216:=by
  have e:((b.map tS).map (·.length))=b.map jx:=by rw[eU];exact kM λa _=>jP a
  rw[e,c0,jP];unfold mI bS at w;lia
 rcases d with d|d
 .obtain⟨l,i,j,r⟩:=I.list d;exact join_list j.isList (by simpa using Bp i) c λf k=>⟨tV (h_ g b),H,I.tok _,(by rw[FY];exact⟨f,rfl⟩),q⟩
 .obtain⟨l,i,j,r⟩:=I.tuple d;exact join_tuple j (by simpa using Bp i) c λf k=>⟨tV (h_ g b),H,I.tok _,(by rw[FY];exact⟨f,rfl⟩),q⟩
def PM(K:aw)(r:V->List V->Hp->VK->Prop)(f:Tx->List PV->Option PV):Prop:=∀(F:ae->Prop) (H:Hp) (x:Tx) (xs:List PV) (b:List V) (Q:VK) (pv:PV),x.length<=bS->Reps K H F xs b->f x xs=aa pv->(∀w c a,Al F c H a->bg K a c pv w->Q w a)->r (tV x) b H Q
def mC:PV->Option Tx
 |.str x=>aa x
 |_=>ac
def vW(f:Tx->List PV->Option PV)(d:af->R PV)(l:af->R (List PV)):af->R PV:=λε=>(d ε).bind λx a=>(aR (mC x) a).bind λy a=>(l a).bind λc b=>aR (f y c) b
variable{E:XK}{o e:az}{j:List az}{d:af->R PV}{l:af->R (List PV)}{c:Str}{i b:Pos}{m:String}{r:V->List V->Hp->VK->Prop}{f:Tx->List PV->Option PV}
theorem Mu(n:PySem.Slot "str" c m)(O:typeOf (.builtin m)=pure (.type "method_descriptor"))(Z:ud X m r)(W:PM X.K r f)(Y:DE X E o d)(ha:DA X E (e::j) l)(N:j4 o c X.env (aQ o X.env)=aQ o X.env:=by rfl)(CA:((cJ b (aL (e::j) X.env)).all (λx=>!x.1)&&(mX b (mY [] X.env)).all (λx=>x.1.isSome)&&decide ((e::j).length+([]:List jA).length+(if([]:List jA).isEmpty then 0 else 1)<30))=ah:=by rfl)(M:(i.endLine == b.line)=ah:=by rfl) (T:aL (e::j) X.env=(aj,aQ e X.env)::aL j X.env:=by rfl) (Cv:(cJ b (aL j X.env)).any (·.1)=aj:=by rfl):DE X E (.Call (.Attribute o c i) (e::j) [] b) (vW f d l):=λF S B s H Q I h=>by
 refine cz (tQ PySem.F.plainAttrs_str n O Z ce gk N CA M T Cv) (Y F S B s H _ I ((Ok.bind h).imp λx g A u z L g1 q v G=>?_));cases x <;> first|exact(show False from q).elim|skip
 rename_i y;obtain⟨rfl,P⟩:=G;refine⟨rfl,?_⟩;have q:Ok X.K E s A u z ((l g).bind λC a=>aR (f y C) a) _:=q;refine ha A u g s z _ L ((Ok.bind q).imp λxs a F2 S2 H2 J g2 p D hV=>?_);cases e:f y xs with
 |none=>rw[e]at p;exact p.elim
 |some pv=>rw[e]at p;exact W F2 H2 y xs D Q pv P hV e λw F' H' al t=>p F' S2 H' (J.al al) al.grow w t
def sK(g:Tx):List PV->Option PV
 |[.lst xs]=>(fu xs).bind λa=>if mI g a<=bS then aa (.str (h_ g a))else ac
 |[.tup xs]=>(fu xs).bind λa=>if mI g a<=bS then aa (.str (h_ g a))else ac
 |_=>ac
theorem Ny:PM K (zJ K) sK:=λF H g xs C Q pv D y e q=>by
 have t:∀(u:List PV) (p:ae) (h:List V),Reps K H F u h->(cu K H p h\/cG K H p h)->((fu u).bind λs=>if mI g s<=bS then aa (PV.str (h_ g s))else ac)=aa pv->zJ K (tV g) [.ref p] H Q:=λu p h n B e=>by
  cases w:fu u with
  |none=>rw[w]at e;cases e
  |some s=>
   rw[w,g9]at e;split at e
   .rename_i z;cases e;have A:=(Sv.mp (sv w ▸ n)).1;subst A;exact⟨g,p,s,rfl,rfl,B,z,q _ F H (Al.refl ..) ⟨rfl,dr (E7 g s) z⟩⟩
   .cases e
 unfold sK at e;split at e
 .obtain⟨v,rfl,a,h,rfl,x,_,n⟩:=gy y;exact t _ a h n (.inl (.inl x)) e
 .obtain⟨v,rfl,a,h,rfl,x,n⟩:=gy y;exact t _ a h n (.inr (cG.of x)) e
 .cases e
end
theorem Ra:fillsNumberSlot (.type "tuple") "mul"=pure aj :=PySem.fillsNumberSlot_seq (id:="tuple.__mul__") (r:=aa (.builtin "tuple.__rmul__")) F.slot_tuple_mul.lookup (by decide +kernel) F.slot_tuple_rmul.lookup (by decide +kernel)
theorem N8:seqRepeat? (.type "tuple")=pure (aa (.builtin "tuple.__mul__")):=by unfold seqRepeat?;rw[PySem.seqSlot_of (T:="tuple") (name:="__mul__") (id:="tuple.__mul__") F.slot_tuple_mul.lookup (by decide +kernel),PySem.seqSlot_of (T:="tuple") (name:="__rmul__") (id:="tuple.__rmul__") F.slot_tuple_rmul.lookup (by decide +kernel)];rfl
theorem RD(a:Int)(t:Tok)(l:ae)(b:Array ai)(n:Nat)(i:Option ae)(f:Array (Option ai)):Meets (Builtin.«int.__rmul__» ⟨[.int a t,.ref l],[]⟩) (λ_ R s=>s.heap.get? l=aa {cls:=.type "tuple",dict:=i,data:=.seq b n,slots:=f}/\R (.ok (.ret Value.notImplemented)) s) :=.of_wp λc w A R s h=>by obtain⟨o,g,d,j,m⟩:=s;obtain⟨p,h⟩:=h;wp_walk;exact⟨_,rfl,h⟩
theorem Mn(l:ae)(a:Array ai)(n:Nat)(j:Option ae)(c:Array (Option ai))(x:Int)(u:Tok)(i:(decide (x < -(2^63))||decide (x ≥ 2^63))=aj)(y:(a.isEmpty||x == 1)=aj)(v:(decide (x<=0)||a.isEmpty)=aj)(f:¬(a.size*x > (2^63-1) / 8))(t:Builtin.Tuple.tupleTooMany (a.size*x)=aj)(r:((a8 x.toNat a).foldl (·++·) #[]).size<=bq):Meets (Builtin.«tuple.__mul__» ⟨[.ref l,.int x u],[]⟩) (λ_ R s=>s.heap.get? l=aa {cls:=.type "tuple",dict:=j,data:=.seq a n,slots:=c}/\R (.ok (.ret (.ref s.heap.objs.size))) {s with heap:=s.heap.push {cls:=.type "tuple",data:=.seq ((a8 x.toNat a).foldl (·++·) #[])}}) :=
 .of_wp λb w A R s h=>by
  obtain⟨p,g,d,m,o⟩:=s;obtain⟨q,h⟩:=h
  wp_walk
  refine Cp (decide_eq_false (by rw[i];exact eQ)) ?_
  wp_walk
  refine Cp (decide_eq_false f) ?_
  wp_walk
  exact⟨_,rfl,h⟩
section
variable{X:Cx}{K:aw}
def wO(K:aw):R2:=λx y H Q=>∃a k xs,x=.ref a/\y=.int k/\cG K H a xs/\xs≠[]/\2<=k/\k<=1000/\xs.length<=1000/\∀p,H p=ac->Q (.ref p) (upd H p (.tup (a8 k.toNat xs).flatten))
theorem RI:bR X (gu .Mult) (wO X.K):=by
 intro ag s S H x y v u Q I D C h;obtain⟨l,k,xs,rfl,rfl,L,P,Z,M,G,q⟩:=h;cases D;obtain⟨t,rfl⟩:=C;obtain⟨a,r,E,_⟩:=I.tuple L;obtain⟨⟨O,m,p,d⟩,c,i,n,g⟩:=id E;simp only at i g;subst i g;have Y:=r.length;have A:a≠[]:=λz=>P (r.nil_iff.mp z);have j:List.foldl (λx1 w=>x1++w) #[] (a8 k.toNat a.toArray)=(a8 k.toNat a).flatten.toArray:=by have:=foldl_rep a k.toNat [];rw[lN]at this;exact this
 have f:a.toArray.isEmpty=aj:=by cases a with|nil=>exact absurd rfl A|cons=>rfl
 have N:(k == 1)=aj:=by rw[beq_eq_false_iff_ne];lia
 have CD:a.toArray.size*k<=1000000:=by
  rw[cO];have J:(a.length:Int)<=1000:=∅
  have:=Int.mul_le_mul J M ∅ ∅;lia
 refine HU (T:="tuple") (U:="int") (by decide) ⟨_,c,rfl⟩ (λB=>rE B k t) Ra F.fills_int_mul ux N8 F.slot_int_index.lookup
  (mZ ux (rE s k t) HV (HW _ _) (RD k t l a.toArray n m d) ⟨c,rfl,⟨_,c,rfl⟩,mZ RZ ⟨_,c,rfl⟩ F.entry_tuple_mul (F.args_tuple_mul_2 _ _) (Mn l a.toArray n m d k t ?_ ?_ ?_ ?_ ?_ ?_) ⟨c,?_⟩⟩)
 .rw[decide_eq_false ∅,decide_eq_false ∅];rfl
 .rw[f,N];rfl
 .rw[f,decide_eq_false ∅];rfl
 .lia
 .unfold Builtin.Tuple.tupleTooMany;exact decide_eq_false (by rw[j2];lia)
 .rw[j,cO,wl,j2];have:=ut (show k.toNat<=1000 by lia) (show a.length<=1000 by lia);lia
 .rw[j];refine⟨.ref s.heap.objs.size,_,I.laid (t':=s.toks) (o:=.tup (a8 k.toNat xs).flatten) (λb W q=>bp _ q) (bv _) ?_,rfl,q _ (I.hok.fresh (bv _))⟩;refine⟨?_,_,r.rep k.toNat,Hd.new _ _⟩;rw[wl,j2];have:=ut (show k.toNat<=1000 by lia) G;lia
theorem _root_.Pu.Reps.rep{H:Hp}{F:ae->Prop}{xs:List PV}{a:List V}(r:Reps K H F xs a):∀n:Nat,Reps K H F (a8 n xs).flatten (a8 n a).flatten
 |0=>rfl
 |n+1=>by rw[j5,j5,oP,oP];exact r.app (r.rep n)
def zE:PV->PV->Option PV
 |.tup xs,.int k=>if xs≠[]/\2<=k/\k<=1000/\xs.length<=1000 then aa (.tup (a8 k.toNat xs).flatten)else ac
 |_,_=>ac
theorem Rc:P2 K (wO K) zE:=λF H x y v u Q pv i g e q=>by
 unfold zE at e;split at e
 .split at e
  .rename_i xs k h;cases e;obtain⟨a,f,rfl,j,b⟩:=i;have d:=b.len;exact⟨a,k,f,rfl,g,cG.of j,(λz=>h.1 (by rw[z]at d;exact pY d.symm)),h.2.1,h.2.2.1,∅,λp c=>q _ F _ (Al.new0 c) ⟨p,_,rfl,cI,(Al.new0 c).reps (b.rep _)⟩⟩
  .cases e
 .cases e
end
def gc(a:List Nat):Nat->af->Bool
 |_,[]=>ah
 |i,.own c::b=>a.contains i&&iI c&&gc a (i+1) b
 |i,_::b=>gc a (i+1) b
theorem qr{c:List Nat}:∀{b:af}{k:Nat},gc c k b=ah->∀(i:Nat) a,b[i]?=aa (.own a)->k+i∈c/\iI a=ah
 |[],_,_,i,a,e=>by simp at e
 |.own q::b,k,h,0,a,e=>by simp only[List.getElem?_cons_zero,Option.some.injEq,Slot.own.injEq]at e;subst e;simp only[gc,fI]at h;exact⟨by simpa using h.1.1,h.1.2⟩
 |.own q::b,k,h,i+1,a,e=>by simp only[gc,fI]at h;have:=qr (k:=k+1) h.2 i a (by simpa using e);rwa[HX,Nat.add_assoc]at this
 |.val q::b,k,h,0,a,e=>by simp at e
 |.none::b,k,h,0,a,e=>by simp at e
 |.val q::b,k,h,i+1,a,e=>by have:=qr (k:=k+1) (by simpa[gc]using h) i a (by simpa using e);rwa[HX,Nat.add_assoc]at this
 |.none::b,k,h,i+1,a,e=>by have:=qr (k:=k+1) (by simpa[gc]using h) i a (by simpa using e);rwa[HX,Nat.add_assoc]at this
def bn(len:Nat)(b:List Nat)(g:af->R Slot):af->R Slot:=λa=>if a.length=len/\gc b 0 a=ah then g a else .no
theorem cr{q:eY}{P:bb}{w:aS}{K:aw}{o:Str->Option ai}{g:aD}{x:Str}{c:aT}{N b:List Str}{k n:Nat}{d:af->R aJ}{pin:List Nat}(D:bZ K o x c)(F:bK N b (aO c))(u:N.length=b.length+n)(v:∀(kV p t:ai) (C:Option ae) (l B:ai) (m:List ai),m.length=b.length->fG (fX x x (gR c) (d7 c) (aO c) .none kV p t C l B) ⟨m,[]⟩=pure (b.zip m))(y:∀(f:ae) (l:ai) (A:a9) (j:List Env) (s:ao) (H:Hp) (E:XK),cT k (A.deeper (g8 x (aO c) s.heap.objs.size f l))->f9 (gS q P w K o g N x (aO c) f l A j s H E) E pin (d7 c) d):b_ q P w K o g x (k+1) b (bi K (bn b.length pin (bj n d))):=by
 have no:∀{a},bn b.length pin (bj n d) a≠.no->a.length=b.length/\gc pin 0 a=ah:=λ{a} h=>by
  unfold bn at h;by_cases z:a.length=b.length/\gc pin 0 a=ah
  .exact z
  .rw[if_neg z]at h;exact absurd rfl h
 exact Rz D F u v (λa h=>(no h).1) (λa h i r e=>by have:=qr (no h).2 i r e;rwa[Cq]at this) (λa h=>by unfold bn;rw[if_pos (no h)]) y
theorem zW{f:ae}{r:fF}{t:eY}{P:bb}{w:aS}{K:aw}{q:Str->Option ai}{j:aD}{x a:Str}{g:aT}{N c:List Str}{k n:Nat}{d:af->R aJ}{pin:List Nat}(I:mn K x a g f r)(G:bK N c (aO g))(y:N.length=c.length+n)(B:∀(kV p v:ai) (F:Option ae) (m D:ai) (o:List ai),o.length=c.length->fG (fX x a (gR g) (d7 g) (aO g) .none kV p v F m D) ⟨o,[]⟩=pure (c.zip o))(C:∀(f:ae) (m:ai) (A:a9) (l:List Env) (s:ao) (H:Hp) (E:XK),cT k (A.deeper (g8 a (aO g) s.heap.objs.size f m))->f9 (gS t P w K q j N a (aO g) f m A l s H E) E pin (d7 g) d):fR P w K q j t (k+1) f r c (bi K (bn c.length pin (bj n d))):=by
 have no:∀{b},bn c.length pin (bj n d) b≠.no->b.length=c.length/\gc pin 0 b=ah:=λ{b} h=>by
  unfold bn at h;by_cases z:b.length=c.length/\gc pin 0 b=ah
  .exact z
  .rw[if_neg z]at h;exact absurd rfl h
 exact E3 I G y B (λb h=>(no h).1) (λb h i u e=>by have:=qr (no h).2 i u e;rwa[Cq]at this) (λb h=>by unfold bn;rw[if_pos (no h)]) C
theorem Ky{P:bb}{w:aS}{K:aw}{o:Str->Option ai}{g:aD}{x:Str}{c:aT}{N b:List Str}{k n:Nat}{d:af->R aJ}{pin:List Nat}(D:bZ K o x c)(C:bK N b (aO c))(t:N.length=b.length+n)(u:∀(kV p r:ai) (B:Option ae) (l y:ai) (m:List ai),m.length=b.length->fG (fX x x (gR c) (d7 c) (aO c) .none kV p r B l y) ⟨m,[]⟩=pure (b.zip m))(v:∀(f:ae) (l:ai) (A:a9) (j:List Env) (s:ao) (H:Hp),jT k (A.deeper (g8 x (aO c) s.heap.objs.size f l))->f9 (t7 P w K o g N x (aO c) f l A j s H) E0 pin (d7 c) d):vL P w K o g x (k+1) b (bi K (bn b.length pin (bj n d))):=by
 have no:∀{a},bn b.length pin (bj n d) a≠.no->a.length=b.length/\gc pin 0 a=ah:=λ{a} h=>by
  unfold bn at h;by_cases z:a.length=b.length/\gc pin 0 a=ah
  .exact z
  .rw[if_neg z]at h;exact absurd rfl h
 exact Iu D C t u (λa h=>(no h).1) (λa h i q e=>by have:=qr (no h).2 i q e;rwa[Cq]at this) (λa h=>by unfold bn;rw[if_pos (no h)]) v
theorem GH{P:List ai->Prop}(h:∀a,P [a])(c:List ai)(d:c.length=1):P c:=by
 cases c with
 |nil=>cases d
 |cons a r=>cases r with
  |nil=>exact h a
  |cons b r=>cases d
theorem GX{P:List ai->Prop}(h:∀a b,P [a,b])(c:List ai)(d:c.length=2):P c:=by
 cases c with
 |nil=>cases d
 |cons a r=>exact GH (P:=λr=>P (a::r)) (h a) r (Cr d)
theorem D4{P:List ai->Prop}(h:∀a b c,P [a,b,c])(d:List ai)(f:d.length=3):P d:=by
 cases d with
 |nil=>cases f
 |cons a r=>exact GX (P:=λr=>P (a::r)) (h a) r (Cr f)
theorem QI{P:List ai->Prop}(h:∀a b c d,P [a,b,c,d])(f:List ai)(g:f.length=4):P f:=by
 cases f with
 |nil=>cases g
 |cons a r=>exact D4 (P:=λr=>P (a::r)) (h a) r (Cr g)
theorem SH{d:fF}{c:List Str}(h:∀a,fG d ⟨[a],[]⟩=pure (c.zip [a]))(b:List ai)(f:b.length=1):fG d ⟨b,[]⟩=pure (c.zip b):=GH (P:=λb=>fG d ⟨b,[]⟩=pure (c.zip b)) h b f
theorem So{f:fF}{d:List Str}(h:∀a b,fG f ⟨[a,b],[]⟩=pure (d.zip [a,b]))(c:List ai)(g:c.length=2):fG f ⟨c,[]⟩=pure (d.zip c):=GX (P:=λc=>fG f ⟨c,[]⟩=pure (d.zip c)) h c g
theorem SD{g:fF}{f:List Str}(h:∀a b c,fG g ⟨[a,b,c],[]⟩=pure (f.zip [a,b,c]))(d:List ai)(i:d.length=3):fG g ⟨d,[]⟩=pure (f.zip d):=D4 (P:=λd=>fG g ⟨d,[]⟩=pure (f.zip d)) h d i
theorem SS{i:fF}{g:List Str}(h:∀a b c d,fG i ⟨[a,b,c,d],[]⟩=pure (g.zip [a,b,c,d]))(f:List ai)(j:f.length=4):fG i ⟨f,[]⟩=pure (g.zip f):=QI (P:=λf=>fG i ⟨f,[]⟩=pure (g.zip f)) h f j
theorem iR{P:bb}{w:aS}{X:Cx}:qO (bD P w) X E0:=λ_ _ _ _ _ _ _ h=>by obtain⟨a,T,c,b,_,_,_,_,_,_,_,z⟩:=h;exact z.elim
theorem dI:d9 "len"=aa (.builtin "len"):=by decide +kernel
theorem xE:d9 "all"=aa (.builtin "all"):=by decide +kernel
theorem Oa:d9 "any"=aa (.builtin "any"):=by decide +kernel
theorem qL:d9 "sorted"=aa (.builtin "sorted"):=by decide +kernel
theorem fo:d9 "isinstance"=aa (.builtin "isinstance"):=by decide +kernel
theorem AD:d9 "int"=aa (.type "int"):=by decide +kernel
theorem FA:d9 "bool"=aa (.type "bool"):=by decide +kernel
theorem Ab:d9 "str"=aa (.type "str"):=by decide +kernel
theorem vG:d9 "list"=aa (.type "list"):=by decide +kernel
theorem li:d9 "tuple"=aa (.type "tuple"):=by decide +kernel
theorem My:d9 "set"=aa (.type "set"):=by decide +kernel
theorem PD:d9 "ValueError"=aa (.type "ValueError"):=by decide +kernel
def om:az->Bool
 |.Starred _ _=>ah
 |_=>aj
theorem lX{e:az}{b:List az}{a:Env}(h:om e=aj):aL (e::b) a=(aj,aQ e a)::aL b a:=by
 cases e <;> first|rfl|cases h
section
variable{X:Cx}{E:XK}{e:az}{a:List az}{d:af->R PV}{b:af->R (List PV)}{c:af->R (List bO)}
theorem ar(g:DE X E e d)(f:DA X E a b)(h:om e=aj:=by rfl):DA X E (e::a) (ak d b):=MZ g f (lX h)
theorem ay(g:DE X E e d)(f:DG X E a c)(h:om e=aj:=by rfl):DG X E (e::a) (gV d c):=Kh g f (lX h)
end
def tt:List ai:=[.type "ValueError",.type "Exception",.type "BaseException",.type "object"]
theorem Bh{K:aw}{h:aD}{C:ae}{B:List ai}{nw:String}(X:K.In h)(q:oS K C B nw=ah):∃i N v p bs D j a F c E A z y x w g,h.get? C=aa (Cn v p C N bs i D j a F c E A z y x w nw)/\h.Ns N g/\g "__init__"=ac/\OwnTail h B i:=by
 unfold oS at q;split at q
 case h_2=>cases q
 case h_1 d0 cdata slots look=>
  split at q
  case h_2=>cases q
  case h_1 C2 tl s0 s1 s2 s3 nn s5 em es=>
   rw[fI,fI,fI,fI,fI]at q;obtain⟨⟨⟨⟨⟨u,t⟩,f⟩,s⟩,b⟩,r⟩:=q;have o:=beq_iff_eq.mp u;have n:=beq_iff_eq.mp t;have d:=beq_iff_eq.mp r;subst o n;cases cdata;dsimp only at em f b d;subst em;have m:=Bool.not_eq_true' _ |>.mp f
   subst m;have l:slots=#[s0,s1,s2,s3,aa (.builtin nn),s5]:=by cases slots;exact congrArg Array.mk es
   subst l;exact⟨tl,_,_,_,_,_,_,_,_,_,d0,s0,s1,s2,s3,s5,_,X _ _ look,Heap.Ns.of_isNs (PySem.W.isNs_of_in X b),PySem.W.nsMap_none_of_in X b d,PySem.W.tail_of_in X s⟩
theorem zr{K:aw}{h:aD}{a:Str->Option ai}{x:Str}{C:ae}{B:List ai}{nw:String}(X:K.In h)(e:a x=aa (.ref C))(q:oS K C B nw=ah):OwnCls x C B nw a h:=⟨e,Bh X q⟩
theorem Qj{K:aw}{h:aD}{C:ae}{nw:String}(X:K.In h)(q:oS K C tt nw=ah):qW h C:=by obtain⟨p,N,f,d,bs,n,c,a,r,b,o,m,l,j,i,g,s,e,_,_,t⟩:=Bh X q;exact⟨p,N,f,d,bs,n,c,a,r,b,o,m,l,j,i,g,nw,e,t.hasType rfl⟩
def subB(K:aw)(D C:ae):Bool:=match K.lookup C with
 |some ⟨_,_,.cls a,_⟩=>a.mro.contains (.ref D)
 |_=>aj
theorem KY{K:aw}{h:aD}{C D:ae}{B:List ai}{nw:String}(X:K.In h)(q:oS K C B nw=ah)(s:subB K D C=ah):Under h D (.ref C):=by
 obtain⟨r,N,g,f,bs,o,d,a,t,c,p,n,m,l,j,i,x,e,_⟩:=Bh X q;refine⟨C,r,N,g,f,bs,o,d,a,t,c,p,n,m,l,j,i,nw,rfl,e,?_⟩;unfold subB at s;split at s
 .rename_i w v y u look;have b:=X _ _ look;rw[e]at b;unfold Cn at b;cases b;exact s
 .cases s
def wq(K:aw)(C:ae):Bool :=
 g7 K (.ref C) "__getattribute__" == aa (aa (.builtin "BaseException.__getattribute__"))&&g7 K (.ref C) "__getattr__" == aa ac&&g7 K (.ref C) "__class__" == aa (aa (.builtin "object.__class__")) &&
 Hl K (.builtin "object.__class__") "__get__" == aa (aa (.builtin "getset_descriptor.__get__"))&&PySem.W.takesIn K (.builtin "object.__class__") == aa ah&&xY K C (.type "object") == aa ah&&xY K C (.type "BaseException") == aa ah&&(Co K C).isSome
theorem D9{K:aw}{C:ae}(h:wq K C=ah):oi K C:=by simp only[wq,fI,beq_iff_eq]at h;obtain⟨⟨⟨⟨⟨⟨⟨j,i⟩,g⟩,f⟩,d⟩,c⟩,b⟩,a⟩:=h;exact⟨j,i,g,f,d,c,b,a⟩
def yH(K:aw):Bool:=K.all λp=>match p.2.cls with
 |.type t=>t != "list"
 |_=>ah
theorem Gm{a:ae}{o:Obj}:∀{K:aw},K.lookup a=aa o->(a,o)∈K
 |[],e=>by cases e
 | (b,u)::K,e=>by
  rw[jf]at e;cases q:a == b with
  |true=>rw[q]at e;cases e;rw[beq_iff_eq.mp q];exact mM ..
  |false=>rw[q]at e;exact jv _ (Gm e)
theorem EY{K:aw}{H:Hp}{F:ae->Prop}:∀a:List Int,Reps K H F (a.map .int) (a.map V.int)
 |[]=>rfl
 |x::a=>⟨.int x,a.map V.int,rfl,rfl,EY a⟩
theorem PZ{K:aw}{H:Hp}{a:ae}{xs:List V}(h:yH K=ah)(s:cu K H a xs):Rd H a (.lst xs):=by
 rcases s with s|⟨o,c,n,b,d,_⟩
 .exact s
 .have:=j7.mp h _ (Gm b);rw[d]at this;simp at this
theorem QE{K:aw}{g:af->R Slot}{H:Hp}{a:ae}{c:List Int}{E:XK}(d:Rd H a (.lst (c.map V.int)))(h:g [.val (.lst (c.map .int))]=.ok (.val (.bl ah)) [.val (.lst (c.map .int))]):bi K g [.ref a] H (λv _=>v=.bl ah) E:=by
 refine⟨λb=>b=a,λ_ _=>False,[.val (.lst (c.map .int))],⟨rfl,λb e=>?_,λi pv e=>?_,λi l e=>?_,λi b z=>z.elim,λi j b z=>z.elim⟩,?_⟩
 .subst e;rcases d with d|⟨o,d⟩ <;> exact⟨_,d⟩
 .cases i with
  |zero=>cases e;exact⟨_,rfl,a,_,rfl,d,rfl,EY c⟩
  |succ i=>simp at e
 .cases i with
  |zero=>cases e
  |succ i=>simp at e
 .rw[h];exact λv q n p m _ _ f _ _=>f.1
theorem SM{K:aw}{x:Str}{i:Int}{t:Tok}(e:c5 K cq x=aa (aa (.int i t))):∃t,c5 K cq x=aa (aa (.int i t)):=⟨t,e⟩
theorem SI{K:aw}{x:Str}{l:Tx}{t:Tok}(e:c5 K cq x=aa (aa (.str (tS l) t))):∃t,c5 K cq x=aa (aa (.str (tS l) t)):=⟨t,e⟩
def ci(K:aw)(x:Str)(a:aT):Prop:=∃f oc g kV h d j b i c,c5 K cq x=aa (aa (.ref f))/\K.lookup f=aa ⟨oc,g,.func (fX x x (gR a) (d7 a) (aO a) .none kV h d j b i),c⟩/\pS K b x=ah/\iS K (.ref f)=ah
theorem Sm{K:aw}{x:Str}{b:aT}{f:ae}{oc kV j h d m:ai}{i n:Option ae}{g:Array (Option ai)}(a:c5 K cq x=aa (aa (.ref f)))(l:K.lookup f=aa ⟨oc,i,.func (fX x x (gR b) (d7 b) (aO b) .none kV j h n d m),g⟩)(c:pS K d x=ah) (k:iS K (.ref f)=ah):ci K x b:=⟨f,oc,i,kV,j,h,n,d,m,g,a,l,c,k⟩
theorem ci.at{K:aw}{h:aD}{g:Str->Option ai}{x:Str}{b:aT}(d:ci K x b)(X:K.In h)(G:h.Ns cq g):bZ K g x b:=by obtain⟨f,oc,m,kV,n,j,p,o,ct,i,a,l,c,k⟩:=d;exact⟨f,_,g_ X G a,wS l c k⟩
def mf(a:List (aX×PV))(k:aX):Option PV:=(a.find? λb=>decide (b.1=k)).map (·.2)
def qo(a:List (aX×PV))(k:aX)(v:PV):List (aX×PV):=if(a.any λb=>decide (b.1=k))=ah then a.map (λb=>if b.1=k then(b.1,v)else b)else a++[(k,v)]
def kg:PV->Option aX
 |.int i=>aa (.inl i)
 |.str x=>aa (.inr (tS x))
 |_=>ac
section
variable{K:aw}{F:ae->Prop}{S:Nat->ae->Prop}{ε:af}{l:St}{H:Hp}{i:Nat}{d:List (aX×PV)}{f:List (aX×V)}{a:ae}
theorem Bd{x:PV}{v:V}{k:aX}(r:bg K H F x v)(e:kg x=aa k):v=kV k:=by
 cases x <;> simp[kg]at e
 .subst e;exact r
 .subst e;exact r.1
theorem iw.len(h:iw K H F d f):f.length=d.length:=by
 unfold iw at h
 induction h with
 |nil=>rfl
 |cons _ _ b=>simp[b]
theorem iw.val(h:iw K H F d f)(k:aX):(∃x v,mf d k=aa x/\jq f k=aa v/\bg K H F x v)\/(mf d k=ac/\jq f k=ac):=by
 unfold iw at h
 induction h with
 |nil=>exact .inr ⟨rfl,rfl⟩
 |@cons p q ps qs r _ ih=>
  by_cases e:p.1=k
  .refine .inl ⟨p.2,q.2,by simp[mf,j6,e],?_,r.2⟩;rw[wM (by rw[<-r.1];exact e)]
  .have b:¬q.1=k:=by rw[<-r.1];exact e
   rw[wb b];have:mf (p::ps) k=mf ps k:=by simp[mf,j6,e]
   rw[this];exact ih
theorem iw.any(h:iw K H F d f)(k:aX):(d.any λb=>decide (b.1=k))=f.any λb=>decide (b.1=k):=by
 unfold iw at h
 induction h with
 |nil=>rfl
 |cons r _ c=>rw[pU,pU,c,r.1]
theorem iw.put(h:iw K H F d f)(k:aX){x:PV}{v:V}(r:bg K H F x v):iw K H F (qo d k x) (ja f k v):=by
 unfold qo ja;rw[h.any k];split
 .rename_i b;clear b;unfold iw at h ⊢
  induction h with
  |nil=>exact .nil
  |@cons p q ps qs r1 _ ih=>
   refine .cons ?_ ih;dsimp only;by_cases e:p.1=k
   .rw[if_pos e,if_pos (by rw[<-r1.1];exact e)];exact⟨r1.1,r⟩
   .rw[if_neg e,if_neg (by rw[<-r1.1];exact e)];exact r1
 .exact Paired.snoc h ⟨rfl,r⟩
theorem aP.dkAt(r:aP K F S ε l H)(e:ε[i]?=aa (.own (.dK d))):∃a f,l[i]?=aa (aa (.ref a))/\H a=aa (.dK f)/\iw K H F d f/\S i a/\∀b,S i b->b=a:=by obtain⟨a,n,⟨g,m,j⟩,c⟩:=r.own i _ e;exact⟨a,g,n,m,j,(c a).mpr rfl,λb h=>(c b).mp h⟩
theorem aP.updO{p po':PO}{o':HO}(r:aP K F S ε l H)(e:ε[i]?=aa (.own p))(O:iI p=ah)(E:l[i]?=aa (aa (.ref a)))(N:cH o')(h:∀y,(∀x v,bg K H F x v->bg K y F x v)->(∀x v,Reps K H F x v->Reps K y F x v)->y a=aa o'->∀I:ae->Prop,(∀b,I b↔b=a)->eL K y F po' a I):aP K F S (ε.set i (.own po')) l (L2.upd H a o')/\bC (U S) (U S) F F H (L2.upd H a o'):=by
 obtain⟨P,G,M⟩:=r.own i p e;rw[E]at G;cases G;have s:=Ek M O;have B:S i a:=(s a).mpr rfl;have D:∀b,S i b->b=a:=λb z=>(s b).mp z;have A:i<ε.length:=(dW.mp e).1;have g:bC (U S) (U S) F F H (L2.upd H a o'):=⟨λ_ z=>z,λb o q n=>by rw[bT (by rintro rfl;exact n ⟨i,B⟩)];exact q,λb o q=>by
  by_cases C:b=a
  .subst C;exact⟨_,cI⟩
  .exact⟨o,by rw[bT C];exact q⟩,λ_ z=>.inl z,λ_ z=>.inl z⟩
 refine⟨⟨by rw[iV];exact r.len,λb z=>let ⟨o,q⟩:=r.ex b z;g.there b o q,λj pv q=>?_,λj p q=>?_,λj b z=>?_,r.dist⟩,g⟩
 .have m:i≠j:=by rintro rfl;rw[gq A]at q;cases q
  rw[eP m]at q;obtain⟨v,u,t⟩:=r.val j pv q;exact⟨v,u,t.grow g r.fit⟩
 .by_cases m:i=j
  .subst m;rw[gq A]at q;cases q;exact⟨a,E,h _ (λ_ _ z=>z.grow g r.fit) (λ_ _ z=>z.grow g r.fit) cI _ s⟩
  .rw[eP m]at q;obtain⟨c,u,t⟩:=r.own j p q;refine⟨c,u,t.mono (λ_ _ z=>z.grow g r.fit) (λ_ _ z=>z.grow g r.fit) λb o z w=>?_⟩;rw[bT (by rintro rfl;exact m (r.dist i j b B z))];exact w
 .obtain⟨⟨p,u⟩,t,o,L,J⟩:=r.foot j b z;by_cases m:i=j
  .subst m;rw[D b z];exact⟨⟨_,gq A⟩,by rw[<-D b z];exact t,_,cI,N⟩
  .exact⟨⟨p,by rw[eP m];exact u⟩,t,o,by rw[bT (by rintro rfl;exact m (r.dist i j b B z))];exact L,J⟩
end
def fA(b:af)(i:Nat):Option (List (aX×PV)):=match b[i]? with
 |some (.own (.dK a))=>aa a
 |_=>ac
theorem oy{b:af}{i:Nat}{a:List (aX×PV)}(h:fA b i=aa a):b[i]?=aa (.own (.dK a)):=by
 unfold fA at h;split at h
 .cases h;assumption
 .cases h
section
variable{X:Cx}{E:XK}{pin:List Nat}{e b c:az}{de db f:af->R PV}{d:Pos}
def sY:af->R PO:=λε=>.ok (.dK []) ε
theorem DB:DN X E (.Dict [] [] d) sY:=λF S l i H Q g h=>cz Le λp a=>by
 have al:Al F F H (upd H p (.dK [])):=Al.new0 a;refine h F S _ (g.al al) al.grow p (λb=>b=p) ⟨⟨[],cI,.nil⟩,λb=>Iff.rfl⟩ λb z=>?_;subst z;refine⟨a,λz=>?_,λ⟨j,z⟩=>?_,_,cI,trivial⟩
 .obtain⟨o,q⟩:=g.ex b z;rw[a]at q;cases q
 .obtain⟨_,_,o,q,_⟩:=g.foot j b z;rw[a]at q;cases q
def mG(i:Nat)(db:af->R PV):af->R PV:=λg=>(aR (fA g i) g).bind λ_ g=>(db g).bind λk a=>(aR (fA a i) a).bind λh a=>aR ((kg k).bind λk=>mf h k) a
theorem EF(i:Nat){y:Str}{z:Pos}(Z:X.A.units+64<cLine)(L:DE X E b db)(N:X.N[i]?=aa y:=by rfl)(G:f_ X.env.scope y:=by eq_refl)(K:(y==("__debug__":Str))=aj:=by decide) (O:(y==("__classdict__":Str))=aj:=by decide) (I:Au b:=by exact λ_ _=>rfl):DE X E (.Subscript (.Name y z) b d) (mG i db):=λF S o w H Q p h=>by
 unfold mG at h;cases n:fA o i with
 |none=>rw[n]at h;exact h.elim
 |some s=>
  rw[n]at h;simp only[dY,R.bind_ok]at h;obtain⟨a,A,t,_⟩:=p.dkAt (oy n);refine cz (IH ∅ (ij N G K O) ce I) ⟨.ref a,t,L F S o w H _ p ((Ok.bind h).imp λk j W P T r g1 q u B=>?_)⟩;cases m:fA j i with
  |none=>rw[m]at q;exact q.elim
  |some D=>
   rw[m]at q;simp only[dY,R.bind_ok]at q;obtain⟨a',Y,g,M,J,_⟩:=r.dkAt (oy m);rw[t]at g;cases g;cases l:kg k with
   |none=>rw[l]at q;exact q.elim
   |some C=>
    rw[l,g9]at q;rw[Bd B l];rcases J.val C with⟨x,v,h1,h2,h3⟩|⟨h1,h2⟩
    .rw[h1]at q;exact⟨a,v,rfl,by rw[<-h2];exact qx.k M,q W P T r (bC.refl ..) v h3⟩
    .rw[h1]at q;exact q.elim
def mE(i:Nat)(db f:af->R PV):af->R PV:=λg=>(aR (fA g i) g).bind λ_ g=>(db g).bind λk h=>(f h).bind λz a=>(aR (fA a i) a).bind λj a=>aR ((kg k).map λk=>(mf j k).getD z) a
theorem F6(i:Nat){y:Str}{j g:Pos}(hu:X.A.units+64<cLine)(hb:DE X E b db)(hc:DE X E c f)(hN:X.N[i]?=aa y:=by rfl)(iY:f_ X.env.scope y:=by eq_refl)(hd:(y==("__debug__":Str))=aj:=by decide) (cj:(y==("__classdict__":Str))=aj:=by decide)(l:j4 (.Name y j) "get" X.env (aQ (.Name y j) X.env)=aQ (.Name y j) X.env:=by rfl) (A:(g.endLine == d.line)=ah:=by rfl) (Z:om b=aj:=by rfl) (Y:om c=aj:=by rfl):DE X E (.Call (.Attribute (.Name y j) "get" g) [b,c] [] d) (mE i db f):=λF S I G H Q K h=>by
 have J:aL [b,c] X.env=[(aj,aQ b X.env),(aj,aQ c X.env)]:=by rw[lX Z,lX Y];rfl
 have m:M2 X (.Name y j) "get" g b c d:=⟨l,by rw[J];rfl,A,by rw[J];rfl⟩
 unfold mE at h;cases D:fA I i with
 |none=>rw[D]at h;exact h.elim
 |some L=>
  rw[D]at h;simp only[dY,R.bind_ok]at h;obtain⟨a,W,N,t,_⟩:=K.dkAt (oy D);refine cz (Lm ∅ (ij hN iY hd cj) ce ce m) ⟨.ref a,N,a,rfl,.inl ⟨_,.inl t⟩,hb F S I G H _ K ((Ok.bind h).imp λk p F1 S1 H1 r1 g1 q u ru=>?_)⟩;refine hc F1 S1 p G H1 _ r1 ((Ok.bind q).imp λz o T O P s g2 q w r=>?_);cases C:fA o i with
  |none=>rw[C]at q;exact q.elim
  |some kvs=>
   rw[C]at q;simp only[dY,R.bind_ok]at q;obtain⟨a',ws,n,M,hk,_⟩:=s.dkAt (oy C);rw[N]at n;cases n;cases B:kg k with
   |none=>rw[B]at q;exact q.elim
   |some ky=>
    rw[B,yh]at q;rw[Bd ru B];rcases hk.val ky with⟨x,v,l,h2,A⟩|⟨l,h2⟩
    .rw[l]at q;exact⟨aa v,by rw[<-h2];exact qx.k M,q T O P s (bC.refl ..) v A⟩
    .rw[l]at q;exact⟨ac,by rw[<-h2];exact qx.k M,q T O P s (bC.refl ..) w r⟩
def kY(i:Nat)(db de:af->R PV):af->R aJ:=λj=>(de j).bind λy g=>(aR (fA g i) g).bind λ_ g=>(db g).bind λk a=>(aR (fA a i) a).bind λh a=>(aR (kg k) a).bind λk a=>if h.length<bS then .ok .next (a.set i (.own (.dK (qo h k y))))else .no
theorem xy(i:Nat){y:Str}{G j:Pos}(hu:X.A.units+64<cLine)(hb:DE X E b db)(he:DE X E e de)(hN:X.N[i]?=aa y:=by rfl)(Y:f_ X.env.scope y:=by eq_refl)(hd:(y==("__debug__":Str))=aj:=by decide) (cj:(y==("__classdict__":Str))=aj:=by decide) (Z:lJ e (aa (.Subscript (.Name y G) b j)) d.line X.env=pure aj:=by rfl):DS X E pin (.Assign [.Subscript (.Name y G) b j] e d) (kY i db de):=λF S L o H D Q h=>by
 refine i7 (Kb ∅ (ij hN Y hd cj) ce ce Z) (he F S L o H _ Q (h.bindE.imp λy l F1 S1 H1 r g1 q v O=>?_));cases C:fA l i with
 |none=>rw[C]at q;exact q.elim
 |some J=>
  rw[C]at q;simp only[dY,R.bind_ok]at q;obtain⟨a,M,A,ha0,_⟩:=r.dkAt (oy C);refine⟨.ref a,A,hb F1 S1 l o H1 _ r (q.bindE.imp λk p F2 S2 H2 I g2 g u P=>?_)⟩;cases n:fA p i with
  |none=>rw[n]at g;exact g.elim
  |some t=>
   rw[n]at g;simp only[dY,R.bind_ok]at g;obtain⟨a',N,m,ha,K,_⟩:=I.dkAt (oy n);rw[A]at m;cases m;cases B:kg k with
   |none=>rw[B]at g;exact g.elim
   |some s=>
    rw[B]at g;simp only[dY,R.bind_ok]at g;split at g
    .rename_i hl;rw[Bd P B];have w:=K.put s (O.grow g2 r.fit);obtain⟨T,g3⟩:=I.updO (po':=.dK (qo t s y)) (o':=.dK (ja N s v)) (oy n) rfl A trivial λH' W m2 z Sa x=>⟨⟨_,z,w.mono W⟩,x⟩
     exact⟨a,_,rfl,BK.k ha (by rw[K.len];exact g6 hl mx),g F2 S2 o _ T g3 (iD.refl _ _)⟩
    .exact g.elim
end
section
variable{X:Cx}
def tG(a d:ae):HO:=.ext λh=>h.IsValuesView a d
theorem Nu:ud X "dict.values" (λx xs H Q=>∃d b,x=.ref d/\xs=[]/\H d=aa (.dK b)/\∀a,H a=ac->Q (.ref a) (upd H a (tG a d))):=by
 intro y s r H x xs v t Q I g i h;obtain⟨d,b,rfl,rfl,p,q⟩:=h;cases g;cases i.zero;obtain⟨z,n,f,j,c⟩:=AG I.hok p;refine call_meetsIn PySem.F.slot_dict_values c.typeIs PySem.F.entry_dict_values (PySem.F.args_dict_values_1 _) (meets_dict_values (im X.prog X.w) d n) ⟨⟨f,c⟩,?_⟩;refine⟨.ref s.heap.objs.size,_,I.laid (a:=s.heap.objs.size) (o:=tG s.heap.objs.size d) (t':=s.toks) (λ_ _ q=>bp _ q) (bv _) ?_,rfl,q _ I.fresh⟩;exact⟨⟨_,cD _ rfl,rfl,rfl⟩,⟨_,cD _ rfl⟩,λw u ⟨o,m,l⟩ k=>⟨o,k o m,l⟩⟩
theorem KV.at{a:List (aX×V)}{vs:List (aX×ai)}(r:KV a vs){i:Nat}{k:aX}{u:ai}(h:vs[i]?=aa (k,u)):∃v,a[i]?=aa (k,v)/\RelV v u:=by
 unfold KV at r
 induction r generalizing i with
 |nil=>simp at h
 |@cons p q ps qs r1 _ ih=>
  cases i with
  |zero=>simp at h;subst h;exact⟨p.2,by simp[show k=p.1 from r1.1.symm],r1.2⟩
  |succ i=>exact ih (by simpa using h)
def jZ(a:List (aX×V)):Option Bool:=match a with
 |[]=>aa aj
 | (_,.int i)::r=>(jZ r).map λb=>(decide (i≠0))||b
 |_=>ac
theorem EM:∀{a:List (aX×V)}{b:Bool},jZ a=aa b->(∀(i:Nat) k v,a[i]?=aa (k,v)->∃n,v=.int n)/\b=(cy a.length).any λi=>match a[i]? with|aa (_,.int n)=>decide (n≠0)|_=>aj
 |[],b,h=>by simp[jZ]at h;subst h;exact⟨by simp,rfl⟩
 | (k,.int n)::r,b,h=>by
  simp only[jZ,HE]at h;obtain⟨l,j,g⟩:=h;obtain⟨f,d⟩:=EM j;refine⟨λi c v e=>?_,?_⟩
  .cases i with
   |zero=>simp at e;exact⟨n,e.2.symm⟩
   |succ i=>exact f i c v (by simpa using e)
  .rw[eR,B_,pU,List.any_map,<-g,d];rfl
 | (_,.non)::_,_,h=>by simp[jZ]at h
 | (_,.bl _)::_,_,h=>by simp[jZ]at h
 | (_,.str _)::_,_,h=>by simp[jZ]at h
 | (_,.ref _)::_,_,h=>by simp[jZ]at h
 | (_,.ty _)::_,_,h=>by simp[jZ]at h
theorem Kn(O:X.calm=ah):eV X (.builtin "any") (λxs H Q=>∃(p d:ae) (a:List (aX×V)) (b:Bool),xs=[.ref p]/\H p=aa (tG p d)/\H d=aa (.dK a)/\jZ a=aa b/\Q (.bl b) H):=by
 intro Z s C H xs us Q I r h;obtain⟨p,d,a,b,rfl,m,N,S,q⟩:=h;obtain⟨u,rfl,E⟩:=vals1 r;cases E;obtain⟨l,_,_⟩:=(show dA X.prog X.w H s.heap p (tG p d)from I.hok p _ m)
 obtain⟨z,hs,j,g,Y⟩:=AG I.hok N;obtain⟨A,f⟩:=Y.dictAt;obtain⟨L,K⟩:=EM S;refine call_any_walk (wpAny_pyIter_values l f ?_);refine⟨s.heap.objs.size,_,_,_,_,_,λi=>match a[i]? with|aa (_,.int n)=>decide (n≠0)|_=>aj,rfl,Walks.dictValues (u_ (I.ok.hd O)) _ d (cZ f.lt_size) j A,⟨⟨_,cD _ rfl,rfl,rfl⟩,f.push _⟩,λi v s' Q' E' l y=>?_,λh' D k=>?_⟩
 .obtain⟨J,M⟩:=l;obtain⟨w,B,W⟩:=KV.at g M;obtain⟨n,rfl⟩:=L i J w B;obtain⟨t,rfl⟩:=W;dsimp only at y;rw[B]at y;exact PyProof.Rows.truthy_int (by rw[show(n != 0)=decide (n≠0) by by_cases z:n=0 <;> simp[z]];exact y)
 .have I1:Inv X Z C H {s with heap:=s.heap.push {cls:=.type "dict_valueiterator",data:=.fields #[.ref d,.int 0 0,.int j.length 0,.int A 0]},toks:=s.toks}:=I.kept (t':=s.toks) λb o e=>bp _ e;have T:(cy j.length).any (λi=>match a[i]? with|aa (_,.int n)=>decide (n≠0)|_=>aj)=b:=by rw[<-g.length];exact K.symm
  rw[T];exact⟨.bl _,H,Inv.turned (t':=D) I1 (it:=s.heap.objs.size) (λb o P e=>k b o (by simpa using P) e) I.fresh (jc I.lt) (.inr I.sz) (λx c e z=>by obtain⟨v,F⟩:=I.cell x c e;exact absurd F.lt (by rw[z];exact fW _)) (λG m z=>absurd (bL (I.pin G m).1) (by rw[z];exact fW _)),rfl,q⟩
end
section
variable{X:Cx}{E:XK}{pin:List Nat}{e b c:az}{de db G:af->R PV}{t:Pos}
def pF:List (aX×PV)->Option Bool
 |[]=>aa aj
 | (_,.int i)::r=>(pF r).map λb=>(decide (i≠0))||b
 |_=>ac
theorem OD{K:aw}{H:Hp}{F:ae->Prop}{a:List (aX×PV)}{d:List (aX×V)}{k:Bool}(h:iw K H F a d)(e:pF a=aa k):jZ d=aa k:=by
 unfold iw at h
 induction h generalizing k with
 |nil=>exact e
 |@cons p q C qs r _ ih=>
  obtain⟨l,pv⟩:=p;obtain⟨j,g⟩:=q;cases pv <;> simp only[pF,HE]at e <;> try cases e
  obtain⟨i,f⟩:=r;obtain rfl:g=V.int _:=f;rename_i h;simp only[jZ,ih h.1,yh];rw[<-h.2]
def ti(i:Nat):af->R PV:=λa=>(aR (fA a i) a).bind λd a=>aR ((pF d).map .bl) a
theorem ND(i:Nat){y:Str}{g p f d:Pos}(I:X.calm=ah)(A:X.mg "any"=ac)(J:X.N[i]?=aa y:=by rfl)(z:f_ X.env.scope y:=by eq_refl)(D:(y==("__debug__":Str))=aj:=by decide) (M:(y==("__classdict__":Str))=aj:=by decide) (C:Gl X "any":=by rfl)(x:j4 (.Name y g) "values" X.env (aQ (.Name y g) X.env)=aQ (.Name y g) X.env:=by rfl) (w:(f.endLine == d.line)=ah:=by rfl)(u:aL [.Call (.Attribute (.Name y g) "values" f) [] [] d] X.env=(aj,aQ (.Call (.Attribute (.Name y g) "values" f) [] [] d) X.env)::aL [] X.env:=by rfl) (L:(cJ t (aL [] X.env)).any (·.1)=aj:=by rfl):DE X E (.Call (.Name "any" p) [.Call (.Attribute (.Name y g) "values" f) [] [] d] [] t) (ti i):=λF S v O H Q s h=>by
 unfold ti at h;cases o:fA v i with
 |none=>rw[o]at h;exact h.elim
 |some l=>
  rw[o]at h;simp only[dY,R.bind_ok]at h;obtain⟨a,r,K,j,B,P,_⟩:=s.dkAt (oy o);cases n:pF l with
  |none=>rw[n]at h;exact h.elim
  |some k=>
   rw[n,yh]at h;refine cz (rh (Kn I) C A Oa (jp (KU PySem.F.plainAttrs_dict PySem.F.slot_dict_values PySem.F.type_dict_values Nu (ij J z D M) x w) lq u) (by decide) (by decide) u L) ⟨.ref a,K,.inr (.inr (.inl ⟨rfl,.inl ⟨_,j⟩⟩)),a,r,rfl,rfl,j,λq m=>?_⟩;have al:Al F F H (L2.upd H q (tG q a)):=Al.new0 m;have N:a≠q:=by rintro rfl;rw[j]at m;cases m
   exact⟨q,a,r,k,rfl,cI,by rw[bT N];exact j,OD B n,h F S _ (s.al al) al.grow _ rfl⟩
def vU(X:Cx)(E:XK)(m:List az)(d:af->R (PO×List bO)):Prop :=
 ∀F S i f H Q,aP X.K F S i f H->Ok X.K E f F S H (d i) (λp _ h n g=>∀a l j,eL X.K g h p.1 a l->(∀b,l b->H b=ac/\¬h b/\¬U n b/\∃o,g b=aa o/\cH o)->eZ X.K (f++[aa (.ref a)]) h g p.2 j->Q j g)->o8 X m f H Q
theorem eZ.app{K:aw}{g:St}{F:ae->Prop}{H:Hp}(d:St):∀{j:List bO}{vs:List V},eZ K g F H j vs->eZ K (g++d) F H j vs
 |[],_,h=>h
 |.inl _::_,_,⟨v,r,e,a,f⟩=>⟨v,r,e,a,f.app d⟩
 |.inr i::_,_,⟨v,r,e,a,f⟩=>⟨v,r,e,by rw[iy (dW.mp a).1];exact a,f.app d⟩
theorem eL.stay{K:aw}{O l F i:ae->Prop}{H h:Hp}{j:PO}{a:ae}{d:ae->Prop}(q:eL K H F j a d)(g:bC O l F i H h)(fit:mi O F H)(f:∀b,d b->¬F b/\¬O b/\∃o,H b=aa o/\cH o):eL K h i j a d/\∀b,d b->¬i b/\¬l b/\∃o,h b=aa o/\cH o:=by refine⟨q.mono (λ_ _ z=>z.grow g fit) (λ_ _ z=>z.grow g fit) λb o z w=>(g.stay w (f b z).2.1 (f b z).1).1,λb z=>?_⟩;obtain⟨r,l2,o,l3,l4⟩:=f b z;obtain⟨p,n,m⟩:=g.stay l3 l2 r;exact⟨n,m,o,p,l4⟩
variable{m:List az}{dn:af->R PO}{B:af->R (List bO)}{A:af->R (PO×List bO)}
def gN(dn:af->R PO)(B:af->R (List bO)):af->R (PO×List bO):=λf=>(dn f).bind λg d=>(B d).bind λh a=>.ok (g,.inr a.length::h) a
theorem Lk(w:DN X E e dn)(v:DG X E m B)(u:om e=aj:=by rfl):vU X E (e::m) (gN dn B):=λF S q i H Q r h=>by refine pd (jp ce gk (lX u)) (w F S q i H _ r ((Ok.bind h).imp λP d O K M n T y a I s o=>?_));refine v O K d i M _ n ((Ok.bind y).imp λW p N J L l C x j D=>?_);obtain⟨f,g⟩:=s.stay C n.fit λb z=>(o b z).2;refine x N J L l (bC.refl ..) a I (.ref a::j) f (λb z=>⟨(o b z).1,g b z⟩) ⟨.ref a,j,rfl,?_,D.app _⟩;rw[l.len,mT (bv _),yr];rfl
def qH(d:af->R PV)(A:af->R (PO×List bO)):af->R (PO×List bO):=λg=>(d g).bind λx f=>(A f).bind λp a=>.ok (p.1,.inl x::p.2) a
theorem C8(y:DE X E e de)(w:vU X E m A)(u:om e=aj:=by rfl):vU X E (e::m) (qH de A):=λF S l f H Q q h=>by refine pd (jp ce gk (lX u)) (y F S l f H _ q ((Ok.bind h).imp λx d W N P g J D v o=>?_));refine w W N d f P _ g ((Ok.bind D).imp λp j T M O r I C a L n s i K=>?_);exact C T M O r (bC.refl ..) a L _ s (λb z=>⟨iG J (i b z).1,(i b z).2⟩) ⟨v,n,rfl,o.grow I g.fit,K⟩
theorem aP.push{K:aw}{F:ae->Prop}{S:Nat->ae->Prop}{d:af}{x:St}{H:Hp}{u:PO}{a:ae}{Sa:ae->Prop}(r:aP K F S d x H)(y:eL K H F u a Sa)(w:∀b,Sa b->¬F b/\¬U S b/\∃o,H b=aa o/\cH o):aP K F (λj b=>S j b\/(j=d.length/\Sa b)) (d++[.own u]) (x++[aa (.ref a)]) H:=by
 have lt:∀j b,S j b->j<d.length:=λj b z=>by obtain⟨⟨p,q⟩,_⟩:=r.foot j b z;exact(dW.mp q).1
 refine⟨by simp[r.len],r.ex,λj pv q=>?_,λj p q=>?_,λj b z=>?_,λj k b g f=>?_⟩
 .by_cases h:j<d.length
  .rw[iy h]at q;obtain⟨v,s,i⟩:=r.val j pv q;exact⟨v,by rw[iy (by rw[<-r.len];exact h)];exact s,i⟩
  .rw[mT ∅]at q;cases l:j-d.length with
   |zero=>rw[l]at q;simp at q
   |succ n=>rw[l]at q;simp at q
 .by_cases h:j<d.length
  .rw[iy h]at q;obtain⟨v,s,i⟩:=r.own j p q;refine⟨v,by rw[iy (by rw[<-r.len];exact h)];exact s,?_⟩;have:(λb=>S j b\/(j=d.length/\Sa b))=S j:=by funext b;exact propext ⟨λz=>z.elim id λz=>absurd z.1 (cZ h),.inl⟩
   rw[this];exact i
  .rw[mT ∅]at q;cases l:j-d.length with
   |zero=>
    rw[l]at q;simp at q;subst q;have D:j=d.length:=∅
    subst D;refine⟨a,by rw[r.len,mT (bv _),yr];rfl,?_⟩;have:(λb=>S d.length b\/(d.length=d.length/\Sa b))=Sa:=by funext b;exact propext ⟨λz=>z.elim (λz=>absurd (lt _ _ z) (fW _)) (·.2),λz=>.inr ⟨rfl,z⟩⟩
    rw[this];exact y
   |succ n=>rw[l]at q;simp at q
 .rcases z with z|⟨rfl,z⟩
  .obtain⟨⟨p,q⟩,i⟩:=r.foot j b z;exact⟨⟨p,by rw[iy (lt j b z)];exact q⟩,i⟩
  .obtain⟨C,l2,l3⟩:=w b z;exact⟨⟨u,by rw[mT (bv _),yr];rfl⟩,C,l3⟩
 .rcases g with g|⟨rfl,g⟩ <;> rcases f with f|⟨rfl,f⟩
  .exact r.dist j k b g f
  .exact absurd ⟨j,g⟩ (w b f).2.1
  .exact absurd ⟨k,f⟩ (w b g).2.1
  .rfl
theorem aP.pop{K:aw}{F:ae->Prop}{S:Nat->ae->Prop}{ε:af}{l:Slot}{g:St}{u:Option V}{H:Hp}(r:aP K F S (ε++[l]) (g++[u]) H):aP K F (λj b=>S j b/\j<ε.length) ε g H:=by
 have len:ε.length=g.length:=by have:=r.len;simpa using this
 refine⟨len,r.ex,λj pv q=>?_,λj p q=>?_,λj b z=>?_,λj k b i h=>r.dist j k b i.1 h.1⟩
 .have a:=(dW.mp q).1;obtain⟨v,f,d⟩:=r.val j pv (by rw[iy a];exact q);exact⟨v,by rw[iy (by rw[<-len];exact a)]at f;exact f,d⟩
 .have a:=(dW.mp q).1;obtain⟨v,f,d⟩:=r.own j p (by rw[iy a];exact q);refine⟨v,by rw[iy (by rw[<-len];exact a)]at f;exact f,?_⟩;have:(λb=>S j b/\j<ε.length)=S j:=by funext b;simp[a]
  rw[this];exact d
 .obtain⟨⟨p,q⟩,d⟩:=r.foot j b z.1;exact⟨⟨p,by rw[iy z.2]at q;exact q⟩,d⟩
def ph{a:Type}:R a->R a
 |.ok s ε=>.ok s ε.dropLast
 |.er c ε=>.er c ε.dropLast
 |.no=>.no
def su(g:af->R Slot)(A:af->R (PO×List bO)):af->R Slot:=λd=>(A d).bind λp a=>(aR (if(bF p.2).Nodup then cb (a++[.own p.1]) p.2 else ac) a).bind λf a=>ph (cn (a++[.own p.1]) p.2 (g f))
theorem yU{ε:af}{n:Nat}(h:ε.length=n+1):∃l x,ε=l++[x]/\l.length=n:=by
 refine⟨ε.dropLast,ε.getLast (by intro z;rw[z]at h;cases h),(List.dropLast_concat_getLast _).symm,by rw[Cs,h];rfl⟩
theorem bC.pushed{K:aw}{F s:ae->Prop}{S i:Nat->ae->Prop}{f H p:Hp}{n:Nat}{h:ae->Prop}(g:bC (U λj b=>S j b\/(j=n/\h b)) (U i) F s H p){r:ae->Prop}{l:Nat->ae->Prop}(a:bC (U l) (U S) r F f H)(d:∀b,h b->f b=ac):bC (U l) (U λj b=>i j b/\j<n) r s f p where
 fro:=λb z=>g.fro b (a.fro b z)
 keep:=λb o q no=>g.keep b o (a.keep b o q no) λ⟨j,z⟩=>by
  rcases z with z|⟨_,z⟩
  .rcases a.onew b ⟨j,z⟩with w|w
   .exact no w
   .rw[w]at q;cases q
  .rw[d b z]at q;cases q
 there:=λb o q=>let ⟨o',q'⟩:=a.there b o q;g.there b o' q'
 fnew:=λb z=>by
  rcases g.fnew b z with w|w|⟨j,w|⟨_,w⟩⟩
  .exact a.fnew b w
  .exact .inr (.inl (iG a w))
  .exact .inr ((a.onew b ⟨j,w⟩).symm)
  .exact .inr (.inl (d b w))
 onew:=λb ⟨j,z,_⟩=>by
  rcases g.onew b ⟨j,z⟩with⟨k,w|⟨_,w⟩⟩|w
  .exact a.onew b ⟨k,w⟩
  .exact .inr (d b w)
  .exact .inr (iG a w)
variable{D:eY}{x:Str}{k:Nat}{C:List Str}{g:af->R Slot}{p:Pos}
theorem PJ(c:b_ D X.prog X.w X.K X.mg X.base x k C (bi X.K g))(hr:cT k X.A)(hx:qO D X E)(ha:vU X E (e::m) A)(hg:Gl X x:=by rfl)(hd:(x==("__debug__":Str))=aj:=by decide) (h1:aL (e::m) X.env=(aj,aQ e X.env)::aL m X.env:=by rfl) (h2:(cJ t (aL m X.env)).any (·.1)=aj:=by rfl):DR X E (.Call (.Name x p) (e::m) [] t) (su g A):=λF S ε T H Q rl h=>by
 obtain⟨f,fd,hm,Fn,hb,hk⟩:=c.ex;refine cz (DZ Fn hr hg hm hk hb .nil hx gk hd h1 h2) (ha F S ε T H _ rl ?_);unfold su at h;cases ed:A ε with
 |no=>rw[ed]at h;exact h.elim
 |er cv d=>rw[ed]at h;exact h
 |ok pa d=>
  obtain⟨O,q⟩:=pa;rw[ed]at h;simp only[R.bind_ok]at h;intro F1 S1 H1 r1 g1 a Sa vs ow Y P;dsimp only at h P ow;have N:=r1.push ow λb z=>(Y b z).2;by_cases J:(bF q).Nodup
  .rw[if_pos J]at h;cases m:cb (d++[.own O]) q with
   |none=>rw[m]at h;exact h.elim
   |some ss=>
    rw[m]at h;simp only[dY,R.bind_ok]at h;rw[gI];refine⟨F1,jU q _,ss,N.cal P m J,?_⟩;have len:∀n,(cQ (d++[.own O]) q n).length=d.length+1:=λn=>by rw[vC];simp
    cases eg:g ss with
    |no=>rw[eg]at h;exact h.elim
    |er cv n=>
     rw[eg]at h;intro y F' S' H' W g';unfold cn at h;dsimp only at h;by_cases u:cC q n=ah
     .rw[if_pos u]at h;obtain⟨S2,I,g2,_⟩:=N.called P m J W g' (λ_ z=>z) (jS u);obtain⟨l,sl,M,Z⟩:=yU (len n);rw[M]at I;have h:Ok X.K E T F S H (R.er cv (cQ (d++[.own O]) q n).dropLast:R Slot) _:=h;rw[M,HY]at h;have L:=bC.pushed (K:=X.K) g2 g1 λb z=>(Y b z).1;rw[<-Z]at L;exact h y F' _ H' I.pop L
     .rw[if_neg u]at h;exact h.elim
    |ok s n=>
     rw[eg]at h;intro v F' S' H' Sr W g' rv r fr;unfold cn at h;dsimp only at h;by_cases u:cC q n=ah
     .rw[if_pos u]at h;obtain⟨S2,I,g2,u2⟩:=N.called P m J W g' (λ_ z=>.inl z) (jS u);obtain⟨l,sl,M,Z⟩:=yU (len n);rw[M]at I;have h:Ok X.K E T F S H (R.ok s (cQ (d++[.own O]) q n).dropLast:R Slot) _:=h;rw[M,HY]at h;have L:=bC.pushed (K:=X.K) g2 g1 λb z=>(Y b z).1;rw[<-Z]at L;refine h F' _ H' I.pop L v Sr rv λb z=>⟨iG g1 (fr b z),(r b z).1,λ⟨j,w,_⟩=>?_,(r b z).2.2⟩
      rcases u2 b ⟨j,w⟩with w|⟨i,w⟩
      .exact(r b z).2.1 w
      .obtain⟨_,_,o,y1,_⟩:=N.foot i b w;rw[fr b z]at y1;cases y1
     .rw[if_neg u]at h;exact h.elim
  .rw[if_neg J]at h;exact h.elim
end
section
variable{X:Cx}{E:XK}{pin:List Nat}{e b c o:az}{de db j d:af->R PV}{i:af->R (List PV)}{g p q f:Pos}
def tm:List PV->Option PO
 |[.lst xs]=>(fu xs).bind λa=>if a≠[]/\(fk a).length<60 then aa (.lst (ap (bG (fk a))))else ac
 |_=>ac
def OJ(X:Cx)(r:List V->Hp->VK->Prop):List V->Hp->VK->Prop:=λxs H Q=>∃(p:ae) (h:List Tx),xs=[.ref p]/\cu X.K H p (df h)/\(fk h).length<4000/\∀a,H a=ac->r [.ref a] (upd H a (o9 X a (fk h))) Q
def K4(X:Cx):List V->Hp->VK->Prop:=λxs H Q=>∃(p:ae) (a:List Tx),xs=[.ref p]/\H p=aa (o9 X p a)/\a≠[]/\a.length<64/\∀l,H l=ac->Q (.ref l) (upd H l (.lst (df (bG a))))
theorem Ls{l:List Tx}(h:l≠[]):fk l≠[]:=λz=>by
 cases l with
 |nil=>exact h rfl
 |cons x r=>have:x∈fk (x::r):=(s_ _ _).mpr (by simp);rw[z]at this;simp at this
theorem JR:mh X.K (OJ X (K4 X)) tm:=λF H xs J Q L G u e q=>by
 unfold tm at e;split at e
 .obtain⟨v,rfl,a,K,rfl,D,_,t⟩:=gy u;obtain⟨n,I,s⟩:=Option.bind_eq_some_iff.mp e;rw[sv I]at t;obtain⟨rfl,A⟩:=Sv.mp t;split at s
  .rename_i B;cases s;refine⟨a,n,rfl,.inl D,∅,λb C=>⟨b,fk n,rfl,cI,Ls B.1,∅,λl h=>?_⟩⟩;have r:l≠b:=by rintro rfl;rw[cI]at h;cases h
   have m:H l=ac:=by rw[bT r]at h;exact h
   have al:Al F F H (upd (upd H b (o9 X b (fk n))) l (.lst (df (bG (fk n))))):=(Al.new0 C).trans (Al.new0 h);refine q l F _ (λc=>c=l) al ⟨⟨_,cI,Sv.mpr ⟨rfl,λx y=>A x ((s_ _ _).mp ((nI _).mem_iff.mp y))⟩⟩,λc=>Iff.rfl⟩ λc z=>?_;subst z;exact⟨m,λz=>Exists.elim (G _ z) (λo w=>by rw[m]at w;cases w),_,cI,trivial⟩
  .cases s
 .cases e
theorem MO(m:X.calm=ah)(t:DA X E [e] i)(r:X.mg "sorted"=ac)(a:X.mg "set"=ac)(s:Gl X "sorted":=by rfl)(l:Gl X "set":=by rfl)(h:om e=aj:=by rfl):DN X E (.Call (.Name "sorted" p) [.Call (.Name "set" q) [e] [] f] [] g) (dL tm i):=λF S w v H Q n u=>cz (rh (Jp m) s r qL (jp (A3 (LO m) l a My gk (by decide) (by decide) (lX h) rfl) lq (lX rfl)) (by decide) (by decide) (lX rfl) rfl) (wp JR t n u)
end
def i5:List Tx->Tx
 |[]=>[]
 |x::r=>r.foldl (λb y=>if y<b then y else b) x
theorem Jc(l:List Tx)(y:Tx)(h:l≠[]):i5 (l++[y])=if y<i5 l then y else i5 l:=by
 cases l with
 |nil=>exact absurd rfl h
 |cons x r=>show(r++[y]).foldl _ x=_;rw[List.foldl_append];rfl
theorem CV(a:Nat->Nat->Bool):∀k,rQ a k<=k
 |0=>bv _
 |k+1=>by
  unfold rQ;split
  .exact bv _
  .exact Nat.le_succ_of_le (CV a k)
theorem CG(a:List Tx):∀k,k<a.length->a[rQ (λi j=>decide (a.getD i []<a.getD j [])) k]?=aa (i5 (a.take (k+1)))
 |0,h=>by
  cases a with
  |nil=>cases h
  |cons x r=>simp[rQ,i5]
 |k+1,h=>by
  have b:=CG a k ∅;have e:a.take (k+1+1)=a.take (k+1)++[a[k+1]]:=by rw[List.take_succ_eq_append_getElem h]
  have g:=CV (λi j=>decide (a.getD i []<a.getD j [])) k;rw[e,Jc _ _ (by intro z;have:=congrArg jx z;rw[jy,m8]at this;lia)];unfold rQ;have f:a.getD (k+1) []=a[k+1]:=by simp[uq,h]
  have d:a.getD (rQ (λi j=>decide (a.getD i []<a.getD j [])) k) []=i5 (a.take (k+1)):=by rw[List.getD_eq_getElem?_getD,b];rfl
  rw[f,d];by_cases c:a[k+1]<i5 (a.take (k+1))
  .rw[if_pos (by simpa using c),if_pos c];simp[h]
  .rw[if_neg (by simpa using c),if_neg c];exact b
section
variable{X:Cx}
theorem zd{b:List Tx}{a:List ai}(r:bI (df b) a){i:Nat}{v:ai}(h:a.toArray[i]?=aa v):∃t,v=.str (tS (b.getD i [])) t:=by
 have d:=r.length;rw[tN]at d;have g:i<a.length:=by have:=(uo.mp h).1;simpa using this
 have e:(df b)[i]?=aa (tV (b.getD i [])):=by unfold df;rw[iT,eI ∅];simp[uq,eI (show i<b.length by lia)]
 obtain⟨u,c,f⟩:=r.get e;have:a[i]?=aa v:=by simpa using h
 rw[this]at c;cases c;exact f
theorem Dp(w:X.calm=ah):eV X (.builtin "min") (λxs H Q=>∃(p:ae) (a:List Tx),xs=[.ref p]/\cu X.K H p (df a)/\a≠[]/\Q (tV (i5 a)) H):=by
 intro S s A H xs Z Q I r h;obtain⟨p,a,rfl,J,P,q⟩:=h;obtain⟨u,rfl,D⟩:=vals1 r;cases D;obtain⟨d,l,m,hz⟩:=I.list J;have y:=l.length;rw[tN]at y;have hn:0<a.length:=by cases a with|nil=>exact absurd rfl P|cons=>simp
 refine call_min_walk (Ca m.isList ?_);have B:p≠s.heap.objs.size:=by obtain⟨o,f,_⟩:=m.isList;exact cZ (bL f)
 refine⟨s.heap.objs.size,_,_,_,_,_,λi j=>decide (a.getD i []<a.getD j []),rfl,Walks.list (u_ (I.ok.hd w)) s.heap.objs.size p B d.toArray,⟨⟨_,cD _ rfl,rfl,rfl⟩,?_⟩,?_,by rw[cO];lia,λi j Y W s' Q' E' M L O=>?_,λv h' C G k=>?_⟩
 .obtain⟨o,f,w,N⟩:=m.isList;exact⟨o,bp _ f,w,N⟩
 .intro b g;obtain⟨o,f,_⟩:=m.isList;have n:p<s.heap.objs.size:=bL f;have sz:∀o:Obj,(s.heap.push o).objs.size=s.heap.objs.size+1:=λo=>by simp[Heap.push]
  rcases bV.mp g with rfl|g
  .show _<(s.heap.push _).objs.size;rw[sz];exact jw _
  .rw[jD.mp g];show _<(s.heap.push _).objs.size;rw[sz];exact lM n
 .obtain⟨t,rfl⟩:=zd l M;obtain⟨t',rfl⟩:=zd l L;refine lt_str ?_;rw[kB,kB];exact O
 .obtain⟨t,rfl⟩:=zd l G;have e:a.getD (rQ (λi j=>decide (a.getD i []<a.getD j [])) (d.toArray.size-1)) []=i5 a:=by rw[cO,<-y,List.getD_eq_getElem?_getD,CG a _ ∅,show a.length-1+1=a.length by lia,List.take_length];rfl
  rw[e];have T:Inv X S A H {s with heap:=s.heap.push {cls:=.type "list_iterator",data:=.fields #[.ref p,.int 0 0]},toks:=s.toks}:=I.kept (t':=s.toks) λb o e=>bp _ e;exact⟨tV (i5 a),H,Inv.turned (t':=C) T (it:=s.heap.objs.size) (λb o g e=>k b o (by simpa using g) e) I.fresh (jc I.lt) (.inr I.sz) (λx c e z=>by obtain⟨v,E⟩:=I.cell x c e;exact absurd E.lt (by rw[z];exact fW _)) (λF K z=>absurd (bL (I.pin F K).1) (by rw[z];exact fW _)),⟨t,rfl⟩,q⟩
def pe:List PV->Option PV
 |[.lst xs]=>(fu xs).bind λa=>if a≠[] then aa (.str (i5 a))else ac
 |_=>ac
theorem Qc:∀{a:List Tx},a≠[]->i5 a∈a:=by
 have c:∀(r:List Tx) (x:Tx),r.foldl (λb y=>if y<b then y else b) x∈x::r:=by
  intro r
  induction r with
  |nil=>intro x;simp
  |cons y r d=>
   intro x;rw[rF];have:=d (if y<x then y else x);rcases bV.mp this with h|h
   .rw[h];split <;> simp
   .simp[h]
 intro a h;cases a with
 |nil=>exact absurd rfl h
 |cons x r=>exact c r x
theorem E4{K:aw}:PL K (λxs H Q=>∃(p:ae) (b:List Tx),xs=[.ref p]/\cu K H p (df b)/\b≠[]/\Q (tV (i5 b)) H) pe:=λF H xs l Q pv g e q=>by
 unfold pe at e;split at e
 .obtain⟨v,rfl,a,m,rfl,i,_,d⟩:=gy g;obtain⟨b,j,c⟩:=Option.bind_eq_some_iff.mp e;rw[sv j]at d;obtain⟨rfl,h⟩:=Sv.mp d;split at c
  .rename_i f;cases c;exact⟨a,b,rfl,.inl i,f,q _ F H (Al.refl ..) ⟨rfl,h _ (Qc f)⟩⟩
  .cases c
 .cases e
theorem CH:d9 "min"=aa (.builtin "min"):=by decide +kernel
def FO:List (aX×PV)->Option (List Tx)
 |[]=>aa []
 | (.inr k,_)::r=>(FO r).map (k.cps.toList::·)
 |_=>ac
def LZ(b:List (aX×PV)):Option PO:=(FO b).bind λa=>if a.length<64/\(∀x∈a,x.length<=bS)then aa (.lst (ap (bG a)))else ac
def Re(i:Nat):af->R PO:=λa=>(aR (fA a i) a).bind λb a=>aR (LZ b) a
end
end Pu
namespace L2
def Kc(b:KeyKind)(p:Keyed):Prop:=∃a,b.keyOf p.1=aa a
structure SB(kz:SortKind)(st:SortSt):Prop where
 kind:kindOf st=kz
 failed:failedOf st=ac
section
variable{c:KeyKind}{d:SortKind}
theorem Qy(a:Array Keyed)(i j:Nat):(a.extract i j).toList=(a.toList.drop i).take (j-i):=by simp[Array.toList_extract,List.extract_eq_take_drop]
variable{a b out:Array Keyed}{g f:Nat}
end
section
variable{c:KeyKind}{g:SortKind}
theorem MK(a:Array Keyed)(n:Nat):(a.extract 0 n).toList=a.toList.take n:=by rw[Qy];simp
variable{a b out:Array Keyed}{f d:Nat}
end
section
variable{b:KeyKind}{c:SortKind}
def AllK(b:KeyKind)(a:Array Keyed):Prop:=∀i (d:i<a.size),Kc b a[i]
end
theorem D_{a b:Type}{f g:a->Option b}:∀{l:List a},(∀k∈l,f k=g k)->l.filterMap f=l.filterMap g
 |[],_=>rfl
 |x::l,h=>by rw[pQ,pQ,h x (by simp),D_ λk c=>h k (by simp[c])]
theorem SW{b:Type}(l:List b):((cy l.length).map λk=>l.length-1-k).filterMap (λi=>l[i]?)=l.reverse:=by
 have h:∀k,k<l.length->l[l.length-1-k]?=l.reverse[k]?:=λk a=>by rw[List.getElem?_reverse a]
 have e:((cy l.length).map λk=>l.length-1-k).filterMap (λi=>l[i]?)=(cy l.length).filterMap λk=>l.reverse[k]?:=by rw[Hv];exact D_ λk a=>h k (xT.mp a)
 rw[e];have:=Ei l.reverse 0 l.length;simp only[Cq,List.map_id',yd]at this;rw[this,rJ (by simp)]
end L2
namespace Pu
open L2
theorem Kl(a:Int)(t:Tok)(l:ae)(b:Array ai)(n:Nat)(f:Array (Option ai)):Meets (Builtin.«int.__rmul__» ⟨[.int a t,.ref l],[]⟩) (λ_ R s=>s.heap.get? l=aa {cls:=.type "list",dict:=ac,data:=.seq b n,slots:=f}/\R (.ok (.ret Value.notImplemented)) s) :=.of_wp λc w A R s h=>by obtain⟨m,g,d,i,j⟩:=s;obtain⟨o,h⟩:=h;wp_walk;exact⟨_,rfl,h⟩
theorem Nk(l:ae)(a:Array ai)(n:Nat)(i:Array (Option ai))(x:Int)(u:Tok)(o:¬(!Builtin.List.listFitsIndex x)=ah)(m:¬a.size*x.toNat > (2^63-1) / 8)(j:¬x_ (a.size*x.toNat)=ah):Meets (Builtin.«list.__mul__» ⟨[.ref l,.int x u],[]⟩) (λ_ R s=>s.heap.get? l=aa {cls:=.type "list",dict:=ac,data:=.seq a n,slots:=i}/\R (.ok (.ret (Value.ref s.heap.objs.size))) {s with heap:=s.heap.push {cls:=Value.type "list",data:=Data.seq (List.foldl (λx1 f=>x1++f) #[] (a8 (if a.isEmpty=ah then 0 else x.toNat) a))},toks:=s.toks}) :=
 .of_wp λc w A R s h=>by
  obtain⟨r,g,d,p,q⟩:=s;obtain⟨t,h⟩:=h;have b:=PySem.AutoListH.joined_fits j
  wp_walk;refine Cp (decide_eq_false (Nat.not_lt.mpr b)) ?_;wp_walk;exact⟨_,rfl,h⟩
section
variable{X:Cx}{K:aw}
def FR(K:aw):R2:=λx y H Q=>∃a k xs,x=.ref a/\y=.int k/\cu K H a xs/\xs≠[]/\1<=k/\k<=1000/\xs.length<=1000/\∀p,H p=ac->Q (.ref p) (upd H p (.lst (a8 k.toNat xs).flatten))
theorem ze:bR X (gu .Mult) (FR X.K):=by
 intro Y s M H x y v u Q I B A h;obtain⟨l,k,xs,rfl,rfl,E,L,S,P,C,q⟩:=h;cases B;obtain⟨t,rfl⟩:=A;obtain⟨a,r,⟨⟨J,W,j,f⟩,n,c,i,d,g⟩,_⟩:=I.list E;simp only at i g d;subst i g d;have O:=r.length;have p:a≠[]:=λz=>L (r.nil_iff.mp z);have G:List.foldl (λx1 m=>x1++m) #[] (a8 k.toNat a.toArray)=(a8 k.toNat a).flatten.toArray:=by have:=foldl_rep a k.toNat [];rw[lN]at this;exact this
 have D:a.toArray.isEmpty=aj:=by cases a with|nil=>exact absurd rfl p|cons=>rfl
 have Z:a.toArray.size*k.toNat<=1000000:=by rw[cO];have:=ut (show a.length<=1000 by lia) (show k.toNat<=1000 by lia);lia
 refine HU (T:="list") (U:="int") (by decide) ⟨_,c,rfl⟩ (λw=>rE w k t) noFill_list_mul F.fills_int_mul ux repeat_list F.slot_int_index.lookup
  (mZ ux (rE s k t) HV (HW _ _) (Kl k t l a.toArray n f) ⟨c,rfl,⟨_,c,rfl⟩,mZ F.slot_list_mul ⟨_,c,rfl⟩ F.entry_list_mul (F.args_list_mul_2 _ _) (Nk l a.toArray n f k t ?_ ?_ ?_) ⟨c,?_⟩⟩)
 .unfold Builtin.List.listFitsIndex;rw[decide_eq_true (show -(2^63:Int)<=k by lia),decide_eq_true (show k<2^63 by lia)];decide
 .have:(1000000:Nat)<=(2^63-1) / 8:=by decide
  lia
 .unfold x_;rw[decide_eq_false (by rw[j2];lia)];decide
 .rw[D,if_neg (by decide),G];refine⟨.ref s.heap.objs.size,_,I.laid (t':=s.toks) (o:=.lst (a8 k.toNat xs).flatten) (λb N q=>bp _ q) (bv _) ?_,rfl,q _ (I.hok.fresh (bv _))⟩;refine⟨?_,_,_,r.rep k.toNat,cD _ rfl⟩;rw[wl,j2];have:=ut (show k.toNat<=1000 by lia) C;lia
def qI:PV->PV->Option PV
 |.lst xs,.int k=>if xs≠[]/\1<=k/\k<=1000/\xs.length<=1000 then aa (.lst (a8 k.toNat xs).flatten)else ac
 |_,_=>ac
theorem Bc:P2 K (FR K) qI:=λF H x y v u Q pv j i e q=>by
 unfold qI at e;split at e
 .split at e
  .rename_i xs k h;cases e;obtain⟨a,g,rfl,l,_,c⟩:=j;have f:=c.len;exact⟨a,k,g,rfl,i,.inl l,(λz=>h.1 (by rw[z]at f;exact pY f.symm)),h.2.1,h.2.2.1,∅,λp d=>q _ (λb=>F b\/b=p) _ (Al.new d) ⟨p,_,rfl,.inl cI,.inr rfl,(Al.new d).reps (c.rep _)⟩⟩
  .cases e
 .cases e
end
section
variable{X:Cx}{E:XK}{e g:az}{c:TE}{b:TO}{a f:Pos}{d:af->R PV}
theorem _root_.Pu.Reps.rev{K:aw}{H:Hp}{F:ae->Prop}:∀{xs:List PV}{i:List V},Reps K H F xs i->Reps K H F xs.reverse i.reverse
 |[],_,h=>by rw[show _=[] from h];rfl
 |x::xs,_,⟨v,r,e,l,j⟩=>by subst e;rw[B5,B5];exact j.rev.app (Reps.one l)
end
def tR(f:Str)(v:PV):List (Str×PV)->List (Str×PV)
 |[]=>[(f,v)]
 | (g,x)::r=>if g=f then(g,v)::r else(g,x)::tR f v r
section
variable{K:aw}{H:Hp}{F:ae->Prop}
theorem i6.look{f:Str}{pv:PV}{fs:List (Str×PV)}{a:List (Str×V)}(h:i6 K H F fs a)(e:fs.lookup f=aa pv):∃v,a.lookup f=aa v/\bg K H F pv v:=by
 unfold i6 at h
 induction h with
 |nil=>cases e
 |@cons p q ps qs r _ ih=>
  obtain⟨j,i⟩:=p;obtain⟨l,g⟩:=q;obtain⟨c,b⟩:=r;simp only at c b;subst c;rw[jf]at e ⊢;cases d:f == j with
  |true=>rw[d]at e;cases e;exact⟨g,rfl,b⟩
  |false=>rw[d]at e;exact ih e
theorem i6.miss{f:Str}{fs:List (Str×PV)}{a:List (Str×V)}(h:i6 K H F fs a)(e:fs.lookup f=ac):a.lookup f=ac:=by
 unfold i6 at h
 induction h with
 |nil=>rfl
 |@cons p q ps qs r _ ih=>
  obtain⟨i,g⟩:=p;obtain⟨l,j⟩:=q;obtain⟨b,d⟩:=r;simp only at b d;subst b;rw[jf]at e ⊢;cases c:f == i with
  |true=>rw[c]at e;cases e
  |false=>rw[c]at e;exact ih e
theorem i6.len{fs:List (Str×PV)}{a:List (Str×V)}(h:i6 K H F fs a):a.length=fs.length:=by
 unfold i6 at h
 induction h with
 |nil=>rfl
 |cons _ _ b=>simp[b]
theorem i6.put{f:Str}{y:PV}{v:V}{fs:List (Str×PV)}{a:List (Str×V)}(h:i6 K H F fs a)(r:bg K H F y v):i6 K H F (tR f y fs) (ge f v a):=by
 unfold i6 at h ⊢
 induction h with
 |nil=>exact .cons ⟨rfl,r⟩ .nil
 |@cons p q ps qs r' t ih=>
  obtain⟨j,d⟩:=p;obtain⟨i,g⟩:=q;obtain⟨c,b⟩:=r';simp only at c b;subst c;unfold tR ge;split
  .exact .cons ⟨rfl,r⟩ t
  .exact .cons ⟨rfl,b⟩ ih
end
def kl(a:af)(C:ae)(i:Nat):Option (List (Str×PV)):=match a[i]? with
 |some (.own (.ins D fs))=>if D=C then aa fs else ac
 |_=>ac
theorem vm{a:af}{C:ae}{i:Nat}{fs:List (Str×PV)}(h:kl a C i=aa fs):a[i]?=aa (.own (.ins C fs)):=by
 unfold kl at h;split at h
 .rename_i D c e;split at h
  .rename_i b;subst b;cases h;exact e
  .cases h
 .cases h
section
variable{X:Cx}{E:XK}{pin:List Nat}{e b:az}{f x:Str}{C:ae}{p g d:Pos}{j:af->R PV}
def zb(C:ae)(i:Nat)(f:Str):af->R PV:=λa=>(aR (kl a C i) a).bind λfs a=>aR (fs.lookup f) a
theorem Pg(i:Nat)(c:Cls X.K C)(n:kE X.K C f)(B:X.N[i]?=aa x:=by rfl)(u:f_ X.env.scope x:=by eq_refl)(y:(x==("__debug__":Str))=aj:=by decide)(I:(x==("__classdict__":Str))=aj:=by decide) (z:j4 (.Name x p) f X.env (aQ (.Name x p) X.env)=aQ (.Name x p) X.env:=by rfl):DE X E (.Attribute (.Name x p) f g) (zb C i f):=λF S r J H Q q h=>by
 unfold zb at h;cases o:kl r C i with
 |none=>rw[o]at h;exact h.elim
 |some fs=>
  rw[o]at h;simp only[dY,R.bind_ok]at h;obtain⟨a,D,⟨G,s,A,w⟩,_⟩:=q.own i _ (vm o);cases m:fs.lookup f with
  |none=>rw[m]at h;exact h.elim
  |some pv=>rw[m]at h;obtain⟨v,l,t⟩:=w.look m;exact cz (N6 (ij B u y I) z) ⟨.ref a,D,a,C,G,s,v,rfl,A,c,n,l,h F S H q (bC.refl ..) v t⟩
def zB(C:ae)(i:Nat)(f:Str)(j:af->R PV):af->R aJ:=λc=>(j c).bind λy a=>(aR (kl a C i) a).bind λfs a=>if fs.length<1000 then .ok .next (a.set i (.own (.ins C (tR f y fs))))else .no
theorem E1(i:Nat)(c:Cls X.K C)(n:kE X.K C f)(l:DE X E b j)(W:X.N[i]?=aa x:=by rfl)(N:f_ X.env.scope x:=by eq_refl)(Q:(x==("__debug__":Str))=aj:=by decide)(Z:(x==("__classdict__":Str))=aj:=by decide) (O:lJ b (aa (.Attribute (.Name x p) f d)) g.line X.env=pure aj:=by rfl):DS X E pin (.Assign [.Attribute (.Name x p) f d] b g) (zB C i f j):=λF S I u H D K h=>by
 refine i7 (JS (ij W N Q Z) ce O) (l F S I u H _ K (h.bindE.imp λy o F1 S1 H1 z g1 q v J=>?_));cases m:kl o C i with
 |none=>rw[m]at q;exact q.elim
 |some fs=>
  rw[m]at q;simp only[dY,R.bind_ok]at q;obtain⟨a,B,⟨G,w,T,A⟩,_⟩:=z.own i _ (vm m);split at q
  .rename_i P;have r:=A.put (f:=f) J;obtain⟨L,Y⟩:=z.updO (po':=.ins C (tR f y fs)) (o':=.ins C G (ge f v w)) (vm m) rfl B trivial λH' M m2 t Sa s=>⟨⟨_,_,t,r.mono M⟩,s⟩
   exact⟨.ref a,B,a,C,G,w,rfl,T,c,n,by rw[A.len];exact P,q F1 S1 u _ L Y (iD.refl _ _)⟩
  .exact q.elim
end
section
variable{X:Cx}{i:eY}{k:Nat}{f C:ae}{g:fF}{b:List Str}{d:Sp}{E:XK}{c:List (ae×Obj)}{a:St}{H:Hp}{s:ao}{Q:VK}{us:List ai}{vs:List V}
theorem Ha(F:fR X.prog X.w X.K X.mg X.base i k f g b d)(p:cT k X.A)(t:Binds X.K g b [])(I:Inv X c a H s)(r:bI vs us)(h:d vs H Q E):ax (aA X.prog X.w) X.A (call (.ref f) us) (EP X c a Q) (λe m=>∃l n,Inv X c a n l/\i X.stack n l E e m) s:=by
 have q:us.length=b.length:=by rw[<-r.length];exact F.len _ _ _ _ h
 refine ro (mR (F.run X.A X.stack s H ⟨us,[]⟩ us vs Q E p I.env0 (by have:=t s us I.kIn (by rw[gI];exact q);rwa[gI]at this) r h) λo m j=>?_);cases o with
 |error er=>exact⟨s,H,I,j⟩
 |ok v=>
  cases v with
  |ret u=>exact I.after j
  |next=>exact eT j
  |brk=>exact eT j
  |cont=>exact eT j
theorem PF(M:Mk X.K C f)(F:fR X.prog X.w X.K X.mg X.base i k f g b d)(z:cT (k+1) X.A)(B:Binds X.K g b [])(I:Inv X c a H s)(r:bI vs us)(h:∀x l,H x=ac->H l=ac->l≠x->d (.ref x::vs) (upd (upd H l (.own x)) x (.ins C l [])) (λv K=>v=.non/\Q (.ref x) K) E):ax (aA X.prog X.w) X.A (call (.ref C) us) (EP X c a Q) (λe o=>∃n t,Inv X c a t n/\i X.stack t n E e o) s:=by
 have q:=h (s.heap.objs.size+1) s.heap.objs.size (I.hok.fresh (ya _)) (I.hok.fresh (bv _)) (cZ (jw _));have m:=Inv.made (C:=C) I;have p:bI (V.ref (s.heap.objs.size+1)::vs) (Value.ref (s.heap.objs.size+1)::us):=.cons rfl r;have A:(Value.ref (s.heap.objs.size+1)::us++[]).length=b.length:=by have e:=p.length;rw[F.len _ _ _ _ q]at e;rw[gI];exact e.symm
 refine ro (QJ (f:=f) I.kIn M.makes M.init (beq_iff_eq.mp M.fn) (mR (F.run _ X.stack _ _ ⟨Value.ref (s.heap.objs.size+1)::us,[]⟩ (Value.ref (s.heap.objs.size+1)::us) _ _ E (z.make C us []) (m.env0.make C us []) (by have:=B _ (Value.ref (s.heap.objs.size+1)::us) m.kIn A;rwa[gI]at this) p q) λr o j=>?_));cases r with
 |error e=>exact⟨_,_,m,j⟩
 |ok D=>
  cases D with
  |ret u=>obtain⟨v,L,J,w,G,y⟩:=m.after j;subst G;exact⟨w,⟨V.ref (s.heap.objs.size+1),L,J,rfl,y⟩⟩
  |next=>exact eT j
  |brk=>exact eT j
  |cont=>exact eT j
end
def jR(ε:af)(a:List bO)(g:af->R Slot):R Slot:=(aR (if(bF a).Nodup then cb ε a else ac) ε).bind λb ε=>cn ε a (g b)
section
variable{K:aw}{E:XK}{F:ae->Prop}{S:Nat->ae->Prop}{ε:af}{a:St}{H:Hp}{d:List bO}{vs:List V}{g:af->R Slot}
theorem Ac{D:Slot->af->(ae->Prop)->(Nat->ae->Prop)->Hp->Prop}(r:aP K F S ε a H)(J:eZ K a F H d vs)(h:Ok K E a F S H (jR ε d g) D):bi K g vs H (λv f=>∃s m c l x,aP K c l m a f/\bC (U S) (U l) F c H f/\fU K f c s v x/\(∀b,x b->H b=ac/\¬c b/\¬U l b/\∃o,f b=aa o/\cH o)/\D s m c l f) E:=by
 unfold jR at h;have q:=Ok.bind h;by_cases n:(bF d).Nodup
 .rw[if_pos n]at q;cases p:cb ε d with
  |none=>rw[p]at q;exact q.elim
  |some N=>
   rw[p]at q;have q:=q F S H r (bC.refl ..);dsimp only at q;refine⟨F,jU d S,N,r.cal J p n,?_⟩;cases I:g N with
   |no=>rw[I]at q;exact q.elim
   |er T L=>
    rw[I]at q;intro y c l f B G;unfold cn at q;dsimp only at q;by_cases j:cC d L=ah
    .rw[if_pos j]at q;obtain⟨A,t,u,_⟩:=r.called J p n B G (λ_ z=>z) (jS j);exact q y c A f t u
    .rw[if_neg j]at q;exact q.elim
   |ok s L=>
    rw[I]at q;intro v c l f x B G Q C O;unfold cn at q;dsimp only at q;by_cases j:cC d L=ah
    .rw[if_pos j]at q;obtain⟨A,t,u,P⟩:=r.called J p n B G (λ_ z=>.inl z) (jS j);refine⟨s,_,c,A,x,t,u,Q,λb z=>⟨O b z,(C b z).1,λw=>?_,(C b z).2.2⟩,q c A f t u⟩;rcases P b w with w|⟨i,w⟩
     .exact(C b z).2.1 w
     .obtain⟨_,_,o,M,_⟩:=r.foot i b w;rw[O b z]at M;cases M
    .rw[if_neg j]at q;exact q.elim
 .rw[if_neg n]at q;exact q.elim
theorem AR{Q j:VK}(h:bi K g vs H Q E)(p:∀v b,Q v b->j v b):bi K g vs H j E:=by
 obtain⟨F,S,i,m,ok⟩:=h;refine⟨F,S,i,m,?_⟩;cases f:g i with
 |no=>rw[f]at ok;exact ok
 |er c s=>rw[f]at ok;exact ok
 |ok x s=>rw[f]at ok;exact λv w u b t n q l o r=>p v b (ok v w u b t n q l o r)
theorem eZ.al{i:ae->Prop}{f:Hp}(al:Al F i H f):∀{d:List bO}{vs:List V},eZ K a F H d vs->eZ K a i f d vs
 |[],_,h=>h
 |.inl _::_,_,⟨v,r,e,c,b⟩=>⟨v,r,e,al.rep c,eZ.al al b⟩
 |.inr _::_,_,⟨v,r,e,c,b⟩=>⟨v,r,e,c,eZ.al al b⟩
theorem MA{r:R Slot}{D:Slot->af->(ae->Prop)->(Nat->ae->Prop)->Hp->Prop}{z:ae->Prop}{x:Nat->ae->Prop}{t:Hp}{n:Nat}{Sa:ae->Prop}{u:Option V}(h:Ok K E a z x t (ph r) D)(v:bC (U x) (U S) z F t H)(w:∀b,Sa b->t b=ac)(B:a.length=n):Ok K E (a++[u]) F (λj b=>S j b\/(j=n/\Sa b)) H r (λq f m o i=>D q f.dropLast m (λj b=>o j b/\j<n) i):=by
 have cut:∀{f:af}{m:ae->Prop}{o:Nat->ae->Prop}{i:Hp},aP K m o f (a++[u]) i->aP K m (λj b=>o j b/\j<n) f.dropLast a i:=λ{f m o i} p=>by obtain⟨l,q,C,A⟩:=yU (n:=n) (ε:=f) (by rw[p.len];simp[B]);subst C;have:=p.pop;rw[A]at this;rw[HY];exact this
 cases r with
 |no=>exact h
 |er c f=>exact λy m o i p s=>h y m _ i (cut p) (bC.pushed (K:=K) s v w)
 |ok q f=>exact λm o i p s=>h m _ i (cut p) (bC.pushed (K:=K) s v w)
end
section
variable{X:Cx}{e:az}{t:List az}{A:af->R (List bO)}{x m:Str}{C N L:ae}{K J:Nat}{G E:fF}{D B:List Str}{y l:af->R Slot}{p g d i:Pos}
def rg(C:ae)(m:Str)(y l:af->R Slot)(A:af->R (List bO)):af->R Slot:=λε=>(bu (A ε)).bind λc b=>
 ph ((jR (b++[.own (.ins C [])]) (.inr b.length::c) y).bind λs a=>match s with
  |.val .non=>(aR (kl a C b.length) a).bind λfs a=>match fs.lookup m with
   |none=>jR a [.inr b.length] l
   |some _=>.no
  |_=>.no)
theorem NG{pl:Sem Bool}(c:Cls X.K C)(M:Mk X.K C N)(Fi:fR X.prog X.w X.K X.mg X.base (bD X.prog X.w) K N G D (bi X.K y))(hri:cT (K+1) X.A)(hbi:Binds X.K G D [])(hmt:ve X.K C m L) (Fm:fR X.prog X.w X.K X.mg X.base (bD X.prog X.w) J L E B (bi X.K l)) (hrm:cT J X.A) (uN:Binds X.K E B []) (hm:X.mg x=aa (.ref C)) (ha:DG X.nox E0 (e::t) A) (hg:Gl X x:=by rfl)(hd:(x==("__debug__":Str))=aj:=by decide) (h1:aL (e::t) X.env=(aj,aQ e X.env)::aL t X.env:=by rfl) (h2:(cJ g (aL t X.env)).any (·.1)=aj:=by rfl)(ht:aQ (.Call (.Attribute (.Call (.Name x p) (e::t) [] g) m i) [] [] d) X.env=(do
   let ov <-aQ (.Call (.Name x p) (e::t) [] g) X.env
   standAt i.atName
   let (f,first) <-holding [ov] (getMethod ov m pl)
   callWith d f first (cJ d (aL [] X.env)) (mX d (mY [] X.env))):=by rfl) :
  DX X (.Call (.Attribute (.Call (.Name x p) (e::t) [] g) m i) [] [] d) (rg C m y l A):=λF S ε Z H Q XE rl h ag s I=>by
 have q0:Ok X.K E0 Z F S H (A ε) (λas O Y S1 H1=>Ok X.K (λc _ W=>XE c W) Z Y S1 H1 (ph ((jR (O++[.own (.ins C [])]) (.inr O.length::as) y).bind λs P=>match s with
  |.val .non=>(aR (kl P C O.length) P).bind λfs P=>match fs.lookup m with
   |none=>jR P [.inr O.length] l
   |some _=>.no
  |_=>.no)) (λs _ F' S' W=>∀v Sr,fU X.K W F' s v Sr->(∀b,Sr b->H b=ac/\¬F' b/\¬U S' b/\∃o,W b=aa o/\cH o)->Q v W)):=by
  unfold rg at h;cases e0:A ε with
  |no=>rw[e0]at h;exact h.elim
  |er c ε'=>rw[e0]at h;exact h.elim
  |ok as O=>rw[e0]at h;exact λY S1 H1 r1 g1=>Ok.from h g1
 have wa:=(ha F S ε Z H (λvs H1=>∃Y S1 O as,aP X.K Y S1 O Z H1/\eZ X.K Z Y H1 as vs/\(∀b,H1 b=ac->H b=ac)/\Ok X.K (λc _ W=>XE c W) Z Y S1 H1 (ph ((jR (O++[.own (.ins C [])]) (.inr O.length::as) y).bind λs P=>match s with
  |.val .non=>(aR (kl P C O.length) P).bind λfs P=>match fs.lookup m with
   |none=>jR P [.inr O.length] l
   |some _=>.no
  |_=>.no)) (λs _ F' S' W=>∀v Sr,fU X.K W F' s v Sr->(∀b,Sr b->H b=ac/\¬F' b/\¬U S' b/\∃o,W b=aa o/\cH o)->Q v W)) rl
  (q0.imp λas O Y S1 H1 r1 g1 q vs av=>⟨Y,S1,O,as,r1,av,λb z=>iG g1 z,q⟩)).run g ag s (I.wish _)
 refine PySem.W.methodCall_KW (pl:=pl) (bf (Q:=EP X ag Z λv H2=>∃T n F0 F2 S2 P fs,v=.ref T/\Z.length=n/\aP X.K F2 S2 P (Z++[aa (.ref T)]) H2/\kl P C n=aa fs/\fs.lookup m=ac/\(∀b,H2 b=ac->H b=ac) /\ Ok X.K (λc _ W=>XE c W) (Z++[aa (.ref T)]) F2 S2 H2 (jR P [.inr n] l) (λsl ε' F' S' W=>∀v Sr,fU X.K W F' sl v Sr->(∀b,Sr b->H b=ac/\¬F' b/\¬U (λj b=>S' j b/\j<n) b/\∃o,W b=aa o/\cH o)->Q v W)/\F0=F) ?_ λu s1 ⟨v,H2,I2,rv,T,n,F0,F2,S2,P,fs,ev,hn,r2,eo,hl,fb,q,_⟩=>?_) ht
 .-- the instance is made
  refine ui (pL I hg hm ?_ hd);refine xZ (h₀:=X.base) I.ok.mod.kin M.kp (dw wa (λus s1 ⟨vs,H1,I1,r,Y,S1,O,as,r1,av,fb,q⟩=>⟨I1.unwish.kIn,?_⟩) λ_ _ z=>z.elim) h1 h2;have I1:=I1.unwish;refine PF M Fi hri hbi I1 r λT dx hx hdx cR=>?_;have al:Al Y Y H1 (L2.upd (L2.upd H1 dx (.own T)) T (.ins C dx [])):=(Al.new0 hdx).trans (Al.new0 (by rw[bT (eO cR)];exact hx));have nF:¬Y T:=λz=>by obtain⟨o,q⟩:=r1.ex T z;rw[hx]at q;cases q
  have nS:¬U S1 T:=λ⟨j,z⟩=>by obtain⟨_,_,o,q,_⟩:=r1.foot j T z;rw[hx]at q;cases q
  have ow:eL X.K (L2.upd (L2.upd H1 dx (.own T)) T (.ins C dx [])) Y (.ins C []) T (λb=>b=T):=⟨⟨dx,[],cI,.nil⟩,λb=>Iff.rfl⟩
  have rp:=(r1.al al).push ow λb z=>by subst z;exact⟨nF,nS,_,cI,trivial⟩
  have hn:Z.length=O.length:=r1.len.symm;have qp:=MA (u:=aa (.ref T)) (n:=O.length) (Sa:=λb=>b=T) q al.grow (λb z=>by subst z;exact hx) hn;have av2:eZ X.K (Z++[aa (.ref T)]) Y (L2.upd (L2.upd H1 dx (.own T)) T (.ins C dx [])) (.inr O.length::as) (.ref T::vs):=by
   refine⟨.ref T,vs,rfl,?_,eZ.app _ ?_⟩
   .rw[r1.len,mT (bv _),yr];rfl
   .exact eZ.al al av
  have sp:=Ac rp av2 (Ok.bind qp);refine AR sp λv H2 ⟨sl,P,F2,S2,Sr,r2,g2,rv,fr,q2⟩=>?_;cases sl with
  |none=>exact q2.elim
  |own po=>exact q2.elim
  |val pv=>
   cases pv with
   |non=>
    refine⟨rv.1,T,O.length,F,F2,S2,P,?_⟩;dsimp only at q2;cases eo:kl P C O.length with
    |none=>rw[eo]at q2;exact q2.elim
    |some fs=>
     rw[eo]at q2;simp only[dY,R.bind_ok]at q2;cases el:fs.lookup m with
     |some z=>rw[el]at q2;exact q2.elim
     |none=>rw[el]at q2;exact⟨fs,rfl,hn,r2,rfl,el,λb z=>fb b (al.same.free (iG g2 z)),q2.imp λsl ε' F' S' W r' g' hq v Sr rs lo=>hq v Sr rs λb z=>lo b z,rfl⟩
   |_=>exact q2.elim
 .-- the method
  subst ev;obtain rfl:u=Value.ref T:=rv;obtain⟨a,ea,⟨dx,ws,hH,hf⟩,_⟩:=r2.own n _ (vm eo);have exa:a=T:=by rw[<-hn,mT (bv _),yr]at ea;simpa using ea.symm
  subst exa;refine J1 I2 hH c hmt (hf.miss hl) ?_;have av:eZ X.K (Z++[aa (.ref a)]) F2 H2 [.inr n] [.ref a]:=⟨.ref a,[],rfl,ea,rfl⟩
  have sp:=Ac r2 av q;refine PySem.W.callWith_K0 (first:=[.ref a]) I2.kIn hmt.kp (Ha (us:=[.ref a]) (vs:=[.ref a]) Fm hrm uN I2 (.cons rfl .nil) (AR sp λv W ⟨sl,ε',F',S',Sr,r',g',rs,fr,hq⟩=>?_));exact hq v Sr rs λb z=>⟨fb b (fr b z).1,(fr b z).2.1,λ⟨j,w,_⟩=>(fr b z).2.2.1 ⟨j,w⟩,(fr b z).2.2.2⟩
end
structure BJ(CX:eY)(P:bb)(w:aS)(K:aw)(mg:Str->Option ai)(base:aD)(C:ae)(k:Nat)(ps:List Str)(sp:Sp):Prop where
 ex:∃f fd,Mk K C f/\fR P w K mg base CX k f fd ps sp/\Binds K fd ps []
structure Ai(CX:eY)(P:bb)(w:aS)(K:aw)(mg:Str->Option ai)(base:aD)(C:ae)(m:Str)(k:Nat)(ps:List Str)(sp:Sp):Prop where
 ex:∃f fd,ve K C m f/\fR P w K mg base CX k f fd ps sp/\Binds K fd ps []
def vQ(K:aw)(C:ae)(a:Str)(b:aT):Prop:=∃f c,Mk K C f/\mn K "__init__" a b f c
def vM(K:aw)(C:ae)(m a:Str)(b:aT):Prop:=∃f c,ve K C m f/\mn K m a b f c
theorem SA{K:aw}{C:ae}{a:Str}{b:aT}{f:ae}{oc kV o h d q:ai}{j r:Option ae}{g:Array (Option ai)}(m:PySem.W.makesIn K C=ah)(i:g7 K (.ref C) "__init__"=aa (aa (.ref f)))(n:xX K (.ref f)=ah)(p:iS K (.ref C)=ah)(l:K.lookup f=aa ⟨oc,j,.func (fX "__init__" a (gR b) (d7 b) (aO b) .none kV o h r d q),g⟩) (c:pS K d a=ah) (k:iS K (.ref f)=ah):vQ K C a b:=⟨f,_,⟨m,i,n,p⟩,wS l c k⟩
theorem SR{K:aw}{C:ae}{m a:Str}{b:aT}{f:ae}{oc kV o h d p:ai}{j q:Option ae}{g:Array (Option ai)}(i:g7 K (.ref C) m=aa (aa (.ref f)))(n:xX K (.ref f)=ah)(l:K.lookup f=aa ⟨oc,j,.func (fX m a (gR b) (d7 b) (aO b) .none kV o h q d p),g⟩) (c:pS K d a=ah) (k:iS K (.ref f)=ah):vM K C m a b:=⟨f,_,⟨i,n,k⟩,wS l c k⟩
section
variable{i:eY}{P:bb}{w:aS}{K:aw}{h:Str->Option ai}{c:aD}{C:ae}{m a:Str}{b:aT}{N g:List Str}{k n:Nat}{d:af->R aJ}{pin:List Nat}
theorem LC(D:vQ K C a b)(B:bK N g (aO b))(u:N.length=g.length+n)(q:∀(kV p t:ai) (z:Option ae) (l y:ai) (o:List ai),o.length=g.length->fG (fX "__init__" a (gR b) (d7 b) (aO b) .none kV p t z l y) ⟨o,[]⟩=pure (g.zip o))(x:∀(f:ae) (l:ai) (A:a9) (j:List Env) (s:ao) (H:Hp) (E:XK),cT k (A.deeper (g8 a (aO b) s.heap.objs.size f l))->f9 (gS i P w K h c N a (aO b) f l A j s H E) E pin (d7 b) d):BJ i P w K h c C (k+1) g (bi K (bn g.length pin (bj n d))):=by obtain⟨f,v,M,r⟩:=D;exact⟨f,v,M,zW r B u q x,r.binds q⟩
theorem Js(D:vM K C m a b)(B:bK N g (aO b))(u:N.length=g.length+n)(q:∀(kV p t:ai) (z:Option ae) (l y:ai) (o:List ai),o.length=g.length->fG (fX m a (gR b) (d7 b) (aO b) .none kV p t z l y) ⟨o,[]⟩=pure (g.zip o))(x:∀(f:ae) (l:ai) (A:a9) (j:List Env) (s:ao) (H:Hp) (E:XK),cT k (A.deeper (g8 a (aO b) s.heap.objs.size f l))->f9 (gS i P w K h c N a (aO b) f l A j s H E) E pin (d7 b) d):Ai i P w K h c C m (k+1) g (bi K (bn g.length pin (bj n d))):=by obtain⟨f,v,M,r⟩:=D;exact⟨f,v,M,zW r B u q x,r.binds q⟩
end
section
variable{X:Cx}{e:az}{g:List az}{q:af->R (List bO)}{x m:Str}{C:ae}{l j:Nat}{i h:List Str}{o n:af->R Slot}{p d a b:Pos}
theorem OS{pl:Sem Bool}(c:Cls X.K C)(z:BJ (bD X.prog X.w) X.prog X.w X.K X.mg X.base C l i (bi X.K o))(s:cT (l+1) X.A)(t:Ai (bD X.prog X.w) X.prog X.w X.K X.mg X.base C m j h (bi X.K n)) (r:cT j X.A) (y:X.mg x=aa (.ref C)) (D:DG X.nox E0 (e::g) q) (A:Gl X x:=by rfl)(B:(x==("__debug__":Str))=aj:=by decide) (F:aL (e::g) X.env=(aj,aQ e X.env)::aL g X.env:=by rfl) (E:(cJ d (aL g X.env)).any (·.1)=aj:=by rfl)(w:aQ (.Call (.Attribute (.Call (.Name x p) (e::g) [] d) m b) [] [] a) X.env=(do
   let ov <-aQ (.Call (.Name x p) (e::g) [] d) X.env
   standAt b.atName
   let (f,first) <-holding [ov] (getMethod ov m pl)
   callWith a f first (cJ a (aL [] X.env)) (mX a (mY [] X.env))):=by rfl) :
  DX X (.Call (.Attribute (.Call (.Name x p) (e::g) [] d) m b) [] [] a) (rg C m o n q):=by
 obtain⟨N,H,M,K,u⟩:=z.ex;obtain⟨L,G,I,J,v⟩:=t.ex;exact NG (pl:=pl) c M K s u I J r v y D A B F E w
end
end Pu
namespace Mx
def F5:Nat->Nat->Nat
 |0,x=>x
 |n+1,x=>F5 n (5*x+1)
end Mx
namespace L2
open Mx
section
variable{P:bb}{w:aS}{A:a9}{E:ai->ao->Prop}{s:ao}
structure Keyd(P:bb)(w:aS)(K:Type)[DecidableEq K] where
 is:aD->K->ai->Prop
 hash:K->Int
 room:a9->Prop
 keep:∀{h h':aD}{k:K}{v:ai},is h k v->(∀b o,h.get? b=aa o->o.cls=.type "tuple"->h'.get? b=aa o)->is h' k v
 ref:∀{h:aD}{k:K}{v:ai},is h k v->∃a o,v=.ref a/\h.get? a=aa o
 eqBool:∀{A:a9}{E:ai->ao->Prop}{s:ao}{x y:K}{u v:ai}{Q:Bool->ao->Prop},room A->is s.heap x u->is s.heap y v->Q (decide (x=y)) s->ax (aA P w) A (PySem.eqBool u v) Q E s
 quiet:∀{A:a9}{E:ai->ao->Prop}{s:ao}{k:K}{v:ai}{Q:Bool->ao->Prop},is s.heap k v->Q ah s->ax (aA P w) A (eqIsQuiet 8 v) Q E s
 cls:∀{A:a9}{E:ai->ao->Prop}{s:ao}{k:K}{v:ai}{Q:Bool->ao->Prop},is s.heap k v->Q aj s->ax (aA P w) A (ofAClassStatement 8 v) Q E s
 hbv:∀{A:a9}{E:ai->ao->Prop}{s:ao}{k:K}{v:ai}{Q:Bool->ao->Prop},is s.heap k v->Q aj s->ax (aA P w) A (hashByValue 8 v) Q E s
variable{K:Type}[DecidableEq K]{c:Keyd P w K}
end
section
open PySem.SeqAt
open PySem.AutoSeq1 (wpAny_loadPart')
open PySem.MeetsSeq PySem.MeetsSeq2 PySem.MeetsSeq3
end
section
variable{X:Cx}{l:List az}{k:Nat}{j:Pos}
def AV:V->Hp->St->Prop:=λv H a=>∃p x y,v=.ref p/\H p=aa (.tup [x,y])/\a=[aa x,aa y]
variable{f:dZ}{x y:Str}{g:List Str}{i:List Nat}
theorem IS{M L:Pos}(B:jo X f x g i)(O:X.calm=ah)(D:g[1]?=aa y)(J:f.names.lookup y=aa .local):∀C m o A z,PG (bX X f g C m o A z) (.Tuple [.Name x M,.Name y L] k j) λv w H Q=>∃E,E.length=1+1/\w.length=g.length/\AV v H E/\Q (E++w.drop (1+1)) H:=by
 intro C m o A z S s w H v u Q I r h;obtain⟨E,_,P,⟨p,a,b,rfl,N,rfl⟩,q⟩:=h;have T:Loc (bX X f g C m o A z).env.scope x:=B.loc.elim (λh=>.inl (um h)) (λh=>.inr (wc h));have W:(bX X f g C m o A z).fn x=ah\/(bX X f g C m o A z).env.scope.names.lookup x=aa .local:=B.loc.elim (λh=>.inr (um h)) (λh=>.inl (by show(f.names.lookup x == aa .cell)=ah;rw[h];rfl));have F:(bX X f g C m o A z).N[0]?=aa x:=by show g[0]?=aa x;rw[<-List.head?_eq_getElem?];exact B.hd
 have K:Q (((w.set 0 (aa a)).set 1 (aa b))) H:=by
  match w,P,q with
  |c::d::t,_,q=>exact q
  |[c],G,_=>rw[ng (by rw[<-G];simp)]at D;cases D
  |[],G,_=>rw[ng (by rw[<-G];simp)]at D;cases D
 refine Pk (X:=bX X f g C m o A z) (n:=2) O (G0 (xP (X:=bX X f g C m o A z) B.nd F T W) (G0 (xP (X:=bX X f g C m o A z) B.nd (show(bX X f g C m o A z).N[1]?=aa y from D) (.inl (um J)) (.inr (um J))) Pa)) rfl rfl S s w H _ u Q I r ⟨p,[a,b],rfl,cG.of N,rfl,a,[b],rfl,b,[],rfl,rfl,K⟩
end
section
variable{X:Cx}{a:dZ}{x y:Str}{c:List Str}{b:List Nat}
theorem JW{l f:az}{t r p pos:Pos}{k j:Nat}{i:List az}{wi:TI}{ts:TT}{te:TE}(B:jo X a x c (j::b))(u:X.calm=ah)(A:c[1]?=aa y)(F:a.names.lookup y=aa .local)(G:PI X (.Tuple [.Name x t,.Name y r] k p) f wi)(D:∀C d g o m,tI (bX X a c C d g o m) i ts) (J:∀C d g o m,PE (bX X a c C d g o m) l te) (E:∀x,rn f X.env x=pure x:=by intro _;rfl):PE X (.ListComp l [⟨.Tuple [.Name x t,.Name y r] k p,f,i,0⟩] a pos) (xJ wi AV 1 ts te (j::b)):=by intro N s L H Q I h;rw[eval_ListComp];exact Gj (use:=ac) B (by simp) u G (IS B u A F) D J E I h λK f3 v q=>by obtain⟨z,n,_⟩:=v.loc;exact⟨z,n,λM w=>⟨.ref _,_,K.unblock f3 v w,rfl,q⟩⟩
end
end L2
namespace Pu
open L2
def lx{f:Type}(b:List Nat)(d:af->R f)(x y:PV):af->R f:=λa=>(aR (dD a b) a).bind λc _=>(aR (if(bF c).Nodup then cb a (.inl x::.inl y::c)else ac) a).bind λg _=>cn a (.inl x::.inl y::c) (d g)
def nW(a:List Nat)(dt:af->R Bool)(de:af->R PV):List (PV×PV)->List PV->af->R (List PV)
 |[],c,f=>.ok c f
 |x::xs,c,f=>(bu (lx a dt x.1 x.2 f)).bind λk b=>match k with
  |true=>(bu (lx a de x.1 x.2 b)).bind λy d=>nW a dt de xs (c++[y]) d
  |false=>nW a dt de xs c b
def qQ(cap:List Nat)(d:af->R (List (PV×PV)))(dt:af->R Bool)(de:af->R PV):af->R PO:=λε=>(d ε).bind λxs b=>(nW cap dt de xs [] b).bind λc a=>.ok (.lst c) a
theorem DU{K:aw}{E:XK}{F:ae->Prop}{S:Nat->ae->Prop}{s:af}{f:St}{H:Hp}{J:Type}{b:List Nat}{d:af->R J}{x y:PV}{v w:V}{C:J->af->(ae->Prop)->(Nat->ae->Prop)->Hp->Prop}(r:aP K F S s f H) (Q:bg K H F x v) (P:bg K H F y w) (h:Ok K E f F S H (bu (lx b d x y s)) C):∃N l,aP K F N l (aa v::aa w::fj f b) H/\Ok K E0 (aa v::aa w::fj f b) F N H (d l) (λa _ q _ p=>∃j A,aP K q A j f p/\bC (U S) (U A) F q H p/\C a j q A p):=by
 unfold lx at h;cases G:dD s b with
 |none=>rw[G]at h;exact h.elim
 |some g=>
  rw[G]at h;simp only[dY,R.bind_ok]at h;by_cases B:(bF g).Nodup
  .rw[if_pos B]at h;cases u:cb s (.inl x::.inl y::g)with
   |none=>rw[u]at h;exact h.elim
   |some l=>
    rw[u]at h;simp only[dY,R.bind_ok]at h;obtain⟨t,Y,X⟩:=vd r G;have o:eZ K f F H (.inl x::.inl y::g) (v::w::t):=⟨v,w::t,rfl,Q,w,t,rfl,P,Y⟩
    have n:aa v::aa w::fj f b=(v::w::t).map aa:=by rw[X];rfl
    have m:(bF (.inl x::.inl y::g)).Nodup:=B;refine⟨jU (.inl x::.inl y::g) S,l,by rw[n];exact r.cal o u m,?_⟩;rw[n];cases D:d l with
    |no=>rw[D]at h;exact h.elim
    |er c I=>
     rw[D]at h;unfold cn at h;dsimp only at h;by_cases i:cC (.inl x::.inl y::g) I=ah
     .rw[if_pos i]at h;exact h.elim
     .rw[if_neg i]at h;exact h.elim
    |ok a I=>
     rw[D]at h;intro q A p T W;unfold cn at h;dsimp only at h;by_cases i:cC (.inl x::.inl y::g) I=ah
     .rw[if_pos i]at h;obtain⟨O,L,M,_⟩:=r.called o u m T W (λ_ z=>z) (jS i);exact⟨_,O,L,M,h q O p L M⟩
     .rw[if_neg i]at h;exact h.elim
  .rw[if_neg B]at h;exact h.elim
def GF(J:It)(b:List (V×V))(R:Hp->Prop):Prop :=
 ∀H,R H->∀i,(∀x,b[i]?=aa x->J.go i H/\∀v a,J.yld i H v a->∃p,v=.ref p/\a p=aa (.tup [x.1,x.2])/\(a=H\/(H p=ac/\a=upd H p (.tup [x.1,x.2]))))/\(i=b.length->J.stop i H)
def FT(K:aw)(H:Hp)(F:ae->Prop)(b:List (PV×PV))(a:List (V×V)):Prop:=Reps K H F (b.map (·.1)) (a.map (·.1))/\Reps K H F (b.map (·.2)) (a.map (·.2))
def As(X:Cx)(E:XK)(o a:az)(d:af->R (List (PV×PV))):Prop:=∀F S j c H l,aP X.K F S j c H ->
 Ok X.K E c F S H (d j) (λp _ n q h=>∀J f m,FT X.K h n p f->f.length<=bq->GF J f m->(∀g i b,bC (U q) (U g) n i h b->m b)->l J h)->oF X o a c H l
section
variable{X:Cx}{E:XK}{c:dZ}{x y:Str}{N':List Str}{cap:List Nat}
theorem J2{Y I:az}{tg:az}{W:List az}{j:Nat}{di:af->R (List (PV×PV))}{dt:af->R Bool}{de:af->R PV}(hi:As X E tg I di)(ht:∀C d f g n,DF (bX X c N' C d f g n) E0 W dt) (he:∀C d f g n,DE (bX X c N' C d f g n) E0 Y de){F:ae->Prop}{S:Nat->ae->Prop}{ε:af}{r:St}{H:Hp}{Q:VK} (rl:aP X.K F S ε r H) (h:Ok X.K E r F S H (qQ cap di dt de ε) (λpo _ w S' s=>∀a Sa,eL X.K s w po a Sa->(∀b,Sa b->H b=ac/\¬w b/\¬U S' b/\∃o,s b=aa o/\cH o)->Q (.ref a) s)):xJ (oF X tg I) AV 1 (λr H Q=>∀C d f g n,qN (bX X c N' C d f g n) W r H Q) (λr H Q=>∀C d f g n,ig (bX X c N' C d f g n) Y r H Q) (j::cap) r H Q:=by
 refine hi F S ε r H _ rl ((Ok.bind h).imp λxs ε1 N S1 H1 r1 g1 h1 J vs RR rs hz hw keep l hl=>?_);have h1:=h1.bind;have hvl:vs.length=xs.length:=by have:=rs.1.len;simpa using this
 have a0:Al N N H1 (upd H1 l (.lst [])):=Al.new0 hl;have nF1:¬N l:=λz=>by obtain⟨o,q⟩:=r1.ex l z;rw[hl]at q;cases q
 have nS1:¬U S1 l:=λ⟨i,z⟩=>by obtain⟨_,_,o,q,_⟩:=r1.foot i l z;rw[hl]at q;cases q
 have hH:H l=ac:=iG g1 hl;refine⟨λi m D s=>m=xs.length-i/\i<=xs.length/\∃w S' ε' a_,aP X.K w S' ε' r s/\bC (U S1) (U S') N w H1 s/\s l=aa (.lst D)/\¬w l/\¬U S' l/\Reps X.K s w a_ D/\D.length<=i /\ Ok X.K E r N S1 H1 (nW cap dt de (xs.drop i) a_ ε') (λys' A B S2 M=>Ok X.K E r B S2 M (R.ok (PO.lst ys') A) (λpo _ w S' s=>∀a Sa,eL X.K s w po a Sa->(∀b,Sa b->H b=ac/\¬w b/\¬U S' b/\∃o,s b=aa o/\cH o)->Q (.ref a) s)),⟨_,rfl,jd _,N,S1,ε1,[],r1.al a0,a0.grow,cI,nF1,nS1,rfl,bv _,h1⟩,?_⟩;rintro i m D H0 ⟨rfl,hi,B,S2,A,a_,r0,g0,Z,nF2,nS2,t,hyl,q2⟩;have RH:=keep S2 B H0 g0;by_cases bU:i<xs.length
 .obtain⟨v,hv⟩:∃v,vs[i]?=aa v:=⟨_,eI ∅⟩
  obtain⟨go,yl⟩:=(hw H0 RH i).1 v hv;refine .inr ⟨go,λv' M yy=>?_⟩;obtain⟨p,e1,e2,e3⟩:=yl v' M yy;subst e1;refine⟨[aa v.1,aa v.2],rfl,⟨p,_,_,rfl,e2,rfl⟩,?_⟩;have al:Al B B H0 M:=by
   rcases e3 with rfl|⟨e3,rfl⟩
   .exact Al.refl ..
   .exact Al.new0 e3
  have r2:=r0.al al;have g2:bC (U S1) (U S2) N B H1 M:=g0.trans al.grow;have el:M l=aa (.lst D):=al.same _ _ Z;have G:=al.reps t;show ∀C d f g n,qN (bX X c N' C d f g n) W (aa v.1::aa v.2::fj r cap) M _;obtain⟨T,hx,rx⟩:=rs.1.back (show(vs.map (·.1))[i]?=aa v.1 by rw[iT,hv];rfl);obtain⟨P,hy,ry⟩:=rs.2.back (show(vs.map (·.2))[i]?=aa v.2 by rw[iT,hv];rfl);have g:xs[i].1=T:=by rw[iT,eI bU]at hx;exact eG hx
  have ey:xs[i].2=P:=by rw[iT,eI bU]at hy;exact eG hy
  have ed:xs.drop i=(T,P)::xs.drop (i+1):=by rw[HQ bU];congr 1;exact Prod.ext g ey
  rw[ed]at q2;have rx2:=rx.grow g2 r1.fit;have ry2:=ry.grow g2 r1.fit;have q3:=Ok.bindB q2 g2;obtain⟨Sb,ss,rb,okb⟩:=DU r2 rx2 ry2 q3;intro C d f g n;refine ht C d f g n B Sb ss _ M _ rb (okb.imp λb _ F3 _ H3 _ _ ⟨ε3,S3,r3,K,q4⟩=>?_);obtain⟨el3,nF3,nS3⟩:=K.stay el nS2 nF2;cases b with
  |false=>exact nQ ⟨_,∅,rfl,bU,F3,S3,ε3,a_,r3,g2.trans K,el3,nF3,nS3,G.grow K r2.fit,∅,q4⟩
  |true=>refine oj ?_;have q5:Ok X.K E r N S1 H1 ((bu (lx cap de T P ε3)).bind λy A=>nW cap dt de (xs.drop (i+1)) (a_++[y]) A) _:=q4;obtain⟨Sc,sc,rc,okc⟩:=DU r3 (rx2.grow K r2.fit) (ry2.grow K r2.fit) (Ok.bindB q5 (g2.trans K));show ∀C d f g n,ig (bX X c N' C d f g n) Y (aa v.1::aa v.2::fj r cap) H3 _;intro C d f g n;refine he C d f g n F3 Sc sc _ H3 _ rc (okc.imp λy _ F4 _ H4 _ _ ⟨ε4,S4,r4,g4,q6⟩ u ru=>?_);obtain⟨el4,nF4,nS4⟩:=g4.stay el3 nS3 nF3;have O:=(G.grow K r2.fit).grow g4 r3.fit;obtain⟨gl,L,r5⟩:=r4.lay (o':=.lst (D++[u])) el4 trivial nF4 nS4;have g5:=((g2.trans K).trans g4).lay (o':=.lst (D++[u])) hl;refine⟨el4,?_,_,∅,rfl,bU,F4,S4,ε4,a_++[y],r5,g5,cI,nF4,nS4,(O.grow gl L).app (.one (ru.grow gl L)),by simp;lia,q6⟩;lia
 .have e:i=xs.length:=∅
  subst e;refine .inl ⟨(hw H0 RH _).2 hvl.symm,?_⟩;rw[HR]at q2;exact q2 B S2 H0 r0 g0 B S2 H0 r0 (bC.refl ..) l (λb=>b=l) ⟨⟨D,Z,t⟩,λb=>Iff.rfl⟩ λb z=>by subst z;exact⟨hH,nF2,nS2,_,Z,trivial⟩
theorem Og{l d:az}{p o n pos:Pos}{k j:Nat}{i:List az}{r:af->R (List (PV×PV))}{dt:af->R Bool}{de:af->R PV}(B:jo X c x N' (j::cap))(G:X.calm=ah)(A:As X E (.Tuple [.Name x p,.Name y o] k n) d r)(v:∀C a b g f,DF (bX X c N' C a b g f) E0 i dt) (D:∀C a b g f,DE (bX X c N' C a b g f) E0 l de) (u:N'[1]?=aa y:=by rfl) (z:c.names.lookup y=aa .local:=by rfl) (w:∀x,rn d X.env x=pure x:=by intro _;rfl):DN X E (.ListComp l [⟨.Tuple [.Name x p,.Name y o] k n,d,i,0⟩] c pos) (qQ cap r dt de):=λF S J m H Q t h=>cz (JW (wi:=oF X (.Tuple [.Name x p,.Name y o] k n) d) (ts:=λm H Q=>∀C a b g f,qN (bX X c N' C a b g f) i m H Q) (te:=λm H Q=>∀C a b g f,ig (bX X c N' C a b g f) l m H Q) (pos:=pos) B G u z BG (λC a b g f q s m H Q I h=>(h C a b g f).run q s I) (λC a b g f q s m H Q I h=>(h C a b g f).run q s I) w) (J2 A v D t h)
end
end Pu
namespace PySem
open PySem.AutoSeq1 (wpAny_loadPart')
section
variable{b:bb}{w:aS}{A:a9}{E:ai->ao->Prop}{s:ao}
theorem Dy{c t:ae}{i:Nat}{items}{x:ai}{Q:ai->ao->Prop}(a:s.heap.IsTupleIter c t i)(m:s.heap.IsTuple t items)(l:items[i]?=aa x)(p:∀g,g.IsTupleIter c t (i+1)->j1 c s.heap g->Q x {s with heap:=g}):ax (aA b w) A (uy (.ref c)) Q E s:=by obtain⟨o,f,n,d⟩:=id a;obtain⟨q,j,_,r,h⟩:=m;unfold uy;refine aq (rA (name:=oO "__next__") a.typeIs Ct (mV Ct a.typeIs F.entry_tuple_iterator_next ?_ (F.args_tuple_iterator_next_1 _)));show ax _ _ (field (.ref c) 0 >>= _) _ _ s;refine aq (gJ f d (x:=.ref t) rfl ?_);show ax _ _ (if(Value.ref t == Value.none)=ah then _ else _) _ _ s;rw[if_neg (show ¬((Value.ref t == Value.none)=ah)from eQ)];show ax _ _ (field (.ref c) 1 >>= _) _ _ s;refine aq (gJ f d (x:=.int i 0) rfl ?_);show ax _ _ (seqItems? (.ref t) >>= _) _ _ s;refine aq (rP j h ?_);simp only[je,l];refine aq (oR f d (by simp) (aI ⟨x,rfl,aI (p _ ?_ (rN ..))⟩));exact⟨_,oQ _ f (yo (pZ d _)),(Obj.cls_mapFields ..).trans n,by rw[pZ d];simp[dj]⟩
theorem Ep{d t:ae}{i:Nat}{items}{Q:ai->ao->Prop}(j:A.handled=ac)(c:s.heap.IsTupleIter d t i)(q:s.heap.IsTuple t items)(p:items[i]?=ac)(r:∀h e,Heap.ExtBut d s.heap h->(∃o,h.get? e=aa o/\o.cls=.type "StopIteration")->E (.ref e) {s with heap:=h}):ax (aA b w) A (uy (.ref d)) Q E s:=by
 obtain⟨o,f,y,g⟩:=id c;obtain⟨u,n,_,v,l⟩:=q;unfold uy;refine aq (rA (name:=oO "__next__") c.typeIs Ct (mV Ct c.typeIs F.entry_tuple_iterator_next ?_ (F.args_tuple_iterator_next_1 _)));show ax _ _ (field (.ref d) 0 >>= _) _ _ s;refine aq (gJ f g (x:=.ref t) rfl ?_);show ax _ _ (if(Value.ref t == Value.none)=ah then _ else _) _ _ s;rw[if_neg (show ¬((Value.ref t == Value.none)=ah)from eQ)];show ax _ _ (field (.ref d) 1 >>= _) _ _ s;refine aq (gJ f g (x:=.int i 0) rfl ?_);show ax _ _ (seqItems? (.ref t) >>= _) _ _ s;refine aq (rP n l ?_);simp only[je,p];refine aq (uu (aq (oR f g (by simp) ?_)));show ax _ _ (newExc (.type "StopIteration") [] >>= _) _ _ _;refine aq ?_;simp only[newExc,newTuple];refine aq (iU ?_ (by size_fits));refine aq (m:=Ci _ _) (wpAny_of_eq (a:=Value.none) (by first|rfl | (simp only[Ci];rfl)) ?_);refine iU ?_ (by size_fits);simp only[raiseNew];refine aq (wpAny_handled ?_)
 first|rw[show A.in1.handled=ac from j]|rw[j]
 refine aq (aI (wpAny_throw ?_));exact r _ _ (((rN ..).extBut.push _).push _) ⟨_,cD _ rfl,rfl⟩
end
end PySem
namespace Pu
open L2
abbrev Sz:=List aX
end Pu
namespace L2
theorem NM{P:bb}{w:aS}{A:a9}{E:ai->ao->Prop}{s:ao}{t b:ae}{f:List ai}{Q:ai->ao->Prop}(v:IsTup s.heap t #[])(x:IsTup s.heap b f.toArray)(h:Q (.ref b) s):ax (aA P w) A (gu .Add (.ref t) (.ref b)) Q E s:=by
 obtain⟨⟨z,y,p,r⟩,l,o,n,m⟩:=id v;obtain⟨⟨q,c,d,a⟩,j,i,u,g⟩:=id x;simp only at o m i g;subst o m i g;exact concat_meets ⟨_,l,rfl⟩ ⟨_,j,rfl⟩ Hq seq_tuple_add Hr Hs (Ht _ _)
  (tuple_addW0 t b #[] f.toArray n u y c r a rfl) ⟨l,j,h⟩
def A_(K:aw):R2:=λx y H Q=>∃a b c,x=.ref a/\y=.ref b/\cG K H a []/\cG K H b c/\Q (.ref b) H
theorem SQ{X:Cx}:bR X (gu .Add) (A_ X.K):=by
 intro t s o H x y v u Q I f d h;obtain⟨a,b,p,rfl,rfl,n,m,q⟩:=h;cases f;cases d;obtain⟨l,g,j,_⟩:=I.tuple n;obtain⟨c,r,i,_⟩:=I.tuple m;cases g;exact NM j i ⟨.ref b,H,I,rfl,q⟩
end L2
namespace Pu
open L2
theorem vx{X:Cx}:bR X (gu .Add) (λx y H Q=>A_ X.K x y H Q\/vT X.K x y H Q):=SQ.or cW
def i3:PV->PV->Option PV
 |.tup [],.tup a=>aa (.tup a)
 |.tup (x::xs),.tup []=>if xs.length<1000 then aa (.tup (x::xs))else ac
 |x,y=>aU x y
theorem vo{K:aw}:P2 K (λx y H Q=>A_ K x y H Q\/vT K x y H Q) i3:=λF H x y v u Q pv d c e q=>by
 unfold i3 at e;split at e
 .cases e;obtain⟨a,i,rfl,g,j⟩:=d;obtain⟨b,h,rfl,f,l⟩:=id c;rw[show i=[] from j]at g;exact .inl ⟨a,b,h,rfl,rfl,cG.of g,cG.of f,q _ F H (Al.refl ..) c⟩
 .split at e
  .rename_i n;cases e;obtain⟨a,i,rfl,g,j⟩:=id d;obtain⟨b,h,rfl,f,l⟩:=id c;rw[show h=[] from l]at f;have m:=j.len;refine .inr (.inr (.inl ⟨a,b,i,[],rfl,rfl,cG.of g,cG.of f,?_,?_,λ_=>q _ F H (Al.refl ..) d,λz=>absurd rfl z⟩))
   .rintro rfl;simp at m
   .rw[m,j2];simp;lia
  .cases e
 .exact .inr (cV F H _ _ v u Q pv d c e q)
section
variable{X:Cx}{e c P:az}{m:List az}{p a:List aT}{t:af->R Bool}{i d:af->R Slot}{n:af->R (List bO)}{Y:af->R PV}{k O N M:Nat}{w A y x:List Str}{g l W T:af->R Slot}{x1 D C:Str}{B j K J G L E:Pos}
def fV(t:af->R Bool)(i d:af->R Slot):af->R Slot:=λf=>(bu (t f)).bind λk b=>if k then i b else d b
theorem vY(ht:DT X.nox E0 c t)(h1:ua X a i)(h2:ua X p d):ua X (.If c a [] B::p) (fV t i d):=λF S ε σ H Q XE rl h ag s I=>by
 have q0:Ok X.K E0 σ F S H (t ε) (λk f F1 Z H1=>Ok X.K (λc _ r=>XE c r) σ F1 Z H1 (if k then i f else d f) (λs _ F' S' r=>∀v Sr,fU X.K r F' s v Sr->(∀b,Sr b->H b=ac/\¬F' b/\¬U S' b/\∃o,r b=aa o/\cH o)->Q v r)):=by
  unfold fV at h;cases e0:t ε with
  |no=>rw[e0]at h;exact h.elim
  |er c ε'=>rw[e0]at h;exact h.elim
  |ok k f=>rw[e0]at h;exact λF1 Z H1 r1 l=>Ok.from h l
 have wt:=(ht F S ε σ H (λk H1=>∃F1 Z f,aP X.K F1 Z f σ H1/\(∀b,H1 b=ac->H b=ac)/\Ok X.K (λc _ r=>XE c r) σ F1 Z H1 (if k then i f else d f) (λs _ F' S' r=>∀v Sr,fU X.K r F' s v Sr->(∀b,Sr b->H b=ac/\¬F' b/\¬U S' b/\∃o,r b=aa o/\cH o)->Q v r)) rl (q0.imp λk f F1 Z H1 r1 l q=>⟨F1,Z,f,r1,λb z=>iG l z,q⟩)).run ag s (I.wish _);refine BQ (wpAny_If (dw wt (λkk s1 ⟨H1,I1,F1,Z,f,r1,fb,q⟩=>?_) λ_ _ z=>z.elim));have I1:=I1.unwish;cases kk with
 |true=>refine dw (h1 F1 Z f σ H1 Q XE r1 (q.imp λsl ε' F' S' r r' g' hq v Sr rs fr=>hq v Sr rs λb z=>⟨fb b (fr b z).1,(fr b z).2⟩) ag s1 I1) (λfl s2 ⟨u,efl,z⟩=>?_) λ_ _ z=>z;subst efl;exact⟨u,rfl,z⟩
 |false=>refine BP ?_;exact h2 F1 Z f σ H1 Q XE r1 (q.imp λsl ε' F' S' r r' g' hq v Sr rs fr=>hq v Sr rs λb z=>⟨fb b (fr b z).1,(fr b z).2⟩) ag s1 I1
theorem IF{f:ae}{fd:fF}(Fn:fR X.prog X.w X.K X.mg X.base (bD X.prog X.w) k f fd w (bi X.K g))(hb:Binds X.K fd w [])(hk:iS X.K (.ref f)=ah)(hr:cT k X.A)(ha:DG X.nox E0 (e::m) n)(h1:aL (e::m) X.env=(aj,aQ e X.env)::aL m X.env) (h2:(cJ j (aL m X.env)).any (·.1)=aj):∀F S ε σ H Q (XE:ai->Hp->Prop),aP X.K F S ε σ H->Ok X.K (λc _ u=>XE c u) σ F S H (eB g n ε) (λs _ F' S' u=>∀v Sr,fU X.K u F' s v Sr->(∀b,Sr b->H b=ac/\¬F' b/\¬U S' b/\∃o,u b=aa o/\cH o)->Q v u) -> ∀ag s,Inv X ag σ H s->ax (aA X.prog X.w) X.A (callWith j (.ref f) [] (cJ j (aL (e::m) X.env)) (mX j (mY [] X.env))) (EP X ag σ Q) (XP X ag σ XE) s:=λF S ε σ H Q XE rl h ag s I=>by
 have q0:Ok X.K E0 σ F S H (n ε) (λas Z F1 S1 H1=>Ok X.K (λc _ u=>XE c u) σ F1 S1 H1 (jR Z as g) (λs _ F' S' u=>∀v Sr,fU X.K u F' s v Sr->(∀b,Sr b->H b=ac/\¬F' b/\¬U S' b/\∃o,u b=aa o/\cH o)->Q v u)):=by
  unfold eB at h;cases e0:n ε with
  |no=>rw[e0]at h;exact h.elim
  |er c ε'=>rw[e0]at h;exact h.elim
  |ok as Z=>rw[e0]at h;exact λF1 S1 H1 r1 l=>Ok.from h l
 have wa:=(ha F S ε σ H (λvs H1=>∃F1 S1 Z as,aP X.K F1 S1 Z σ H1/\eZ X.K σ F1 H1 as vs/\(∀b,H1 b=ac->H b=ac)/\Ok X.K (λc _ u=>XE c u) σ F1 S1 H1 (jR Z as g) (λs _ F' S' u=>∀v Sr,fU X.K u F' s v Sr->(∀b,Sr b->H b=ac/\¬F' b/\¬U S' b/\∃o,u b=aa o/\cH o)->Q v u)) rl (q0.imp λas Z F1 S1 H1 r1 l q vs av=>⟨F1,S1,Z,as,r1,av,λb z=>iG l z,q⟩)).run j ag s (I.wish _);refine xZ (h₀:=X.base) I.ok.mod.kin hk (dw wa (λus s1 ⟨vs,H1,I1,r,F1,S1,Z,as,r1,av,fb,q⟩=>⟨I1.unwish.kIn,?_⟩) λ_ _ z=>z.elim) h1 h2;exact Ha Fn hr hb I1.unwish r (AR (Ac r1 av q) λv u ⟨sl,ε',F',S',Sr,r',g',rs,fr,hq⟩=>hq v Sr rs λb z=>⟨fb b (fr b z).1,(fr b z).2⟩)
end
section
variable{X:Cx}{e c j i:az}{r:List az}{t:af->R Bool}{d a:af->R Slot}{u:af->R (List bO)}{k:Nat}{n:List Str}{g:af->R Slot}{x m:Str}{C:ae}{p f l:Pos}
theorem Eb(ht:DT X.nox E0 c t)(h1:DX X j d)(h2:DX X i a):DX X (.IfExp c j i f) (fV t d a):=λF S T G H Q O rl h ag s I=>by
 have q0:Ok X.K E0 G F S H (t T) (λk w D A B=>Ok X.K (λc _ y=>O c y) G D A B (if k then d w else a w) (λs _ J N y=>∀v E,fU X.K y J s v E->(∀b,E b->H b=ac/\¬J b/\¬U N b/\∃o,y b=aa o/\cH o)->Q v y)):=by
  unfold fV at h;cases e0:t T with
  |no=>rw[e0]at h;exact h.elim
  |er c K=>rw[e0]at h;exact h.elim
  |ok k w=>rw[e0]at h;exact λD A B L Z=>Ok.from h Z
 have wt:=(ht F S T G H (λk B=>∃D A w,aP X.K D A w G B/\(∀b,B b=ac->H b=ac)/\Ok X.K (λc _ y=>O c y) G D A B (if k then d w else a w) (λs _ J N y=>∀v E,fU X.K y J s v E->(∀b,E b->H b=ac/\¬J b/\¬U N b/\∃o,y b=aa o/\cH o)->Q v y)) rl (q0.imp λk w D A B L Z q=>⟨D,A,w,L,λb z=>iG Z z,q⟩)).run ag s (I.wish _);refine wpAny_IfExp (dw wt (λkk s1 ⟨B,P,D,A,w,L,fb,q⟩=>?_) λ_ _ z=>z.elim);have P:=P.unwish;cases kk with
 |true=>exact h1 D A w G B Q O L (q.imp λsl K J N y r' g' Y v E W M=>Y v E W λb z=>⟨fb b (M b z).1,(M b z).2⟩) ag s1 P
 |false=>exact h2 D A w G B Q O L (q.imp λsl K J N y r' g' Y v E W M=>Y v E W λb z=>⟨fb b (M b z).1,(M b z).2⟩) ag s1 P
end
end Pu
namespace HT
theorem getItem_tuple_whole{c:bb}{w:aS}{A:a9}{E:ai->ao->Prop}{s:ao}{t i:ae}{a:Array ai}{l j:ai}{b g:Option Int}{Q:ai->ao->Prop}(f:IsTup s.heap t a)(m:s.heap.IsSliceOf i l j .none)(q:jz l b)(p:jz j g)(x:sIx a.size 0 b=0) (v:sIx a.size a.size g=a.size) (h:Q (.ref t) s):ax (aA c w) A (kK (.ref t) (.ref i)) Q E s:=by
 obtain⟨r,u,o,y⟩:=id m;have n:s.TypeIs (.ref i) "slice":=⟨r,u,o⟩
 unfold kK
 try with_reducible refine mU ?_
 first|refine aq (aI ?_)|skip
 refine aq (Hw f.typeIs (by decide) ?_);refine aq (rA (name:=oO "__getitem__") f.typeIs uj (mV uj f.typeIs Hx ?_ (Hy _ _)));show ax _ _ (Hz (.ref t) >>= _) _ _ s;refine aq (tupleItemsOf_ f ?_);refine aq (uk n ?_);rw[if_pos (by decide)];refine aq (Gd m q p ?_);have d:(((sIx a.size 0 b:Nat):Int) == 0&&(1:Int) == 1&&(sIx a.size a.size g-sIx a.size 0 b) == a.size)=ah:=by rw[x,v];simp
 show ax _ _ (if(((sIx a.size 0 b:Nat):Int) == 0&&(1:Int) == 1&&(sIx a.size a.size g-sIx a.size 0 b) == a.size)=ah then _ else _) _ _ s;rw[if_pos d];unfold Builtin.Tuple.tupleIsExact;refine aq (aq (uk f.typeIs (aI ?_)));rw[if_pos (by decide)];exact aq (uu (aI ⟨_,rfl,aI h⟩))
end HT
namespace L2
def Bg(K:aw):V->Option Int->Option Int->Hp->VK->Prop:=λx b c H Q=>∃a xs,x=.ref a/\cG K H a xs/\HT.sIx xs.length 0 b=0/\HT.sIx xs.length xs.length c=xs.length/\Q (.ref a) H
theorem Ss{X:Cx}:kn X (Bg X.K):=by
 intro A s o H x v t p w z u Q I f l i g h;obtain⟨a,xs,rfl,j,n,m,q⟩:=h;cases f;obtain⟨b,r,c,y⟩:=I.tuple j;have d:b.toArray.size=xs.length:=by rw[cO];exact r.length.symm
 refine⟨"tuple",_,PyProof.Rows.slot_tuple_getitem.lookup,c.typeIs,?_⟩;exact HT.getItem_tuple_whole c l i g (by rw[d];exact n) (by rw[d];exact m) ⟨.ref a,H,I,rfl,q⟩
end L2
namespace Pu
open L2
def gG:PV->Option Int->Option Int->Option PV
 |.tup xs,a,b=>if HT.sIx xs.length 0 a=0/\HT.sIx xs.length xs.length b=xs.length then aa (.tup xs)else aa (.tup (cE xs a b))
 |x,a,b=>b7 x a b
theorem wo{X:Cx}:kn X (λx a b H Q=>Bg X.K x a b H Q\/v7 X.K x a b H Q):=Ss.or iu
theorem vc{K:aw}:At K (λx b c H Q=>Bg K x b c H Q\/v7 K x b c H Q) gG:=λF H x b c v Q pv d e q=>by
 cases x with
 |tup xs=>
  unfold gG at e;dsimp only at e;split at e
  .rename_i f;cases e;obtain⟨a,h,rfl,i,g⟩:=id d;exact .inl ⟨a,h,rfl,cG.of i,by rw[g.len];exact f.1,by rw[g.len];exact f.2,q _ F H (Al.refl ..) d⟩
  .rename_i f;exact .inr (gX F H _ b c v Q pv d ((if_neg f).trans e) q)
 |_=>exact .inr (gX F H _ b c v Q pv d e q)
end Pu
local macro_rules | `(⇑$x) => `(.val (.int $x))
local macro_rules | `(↥$x) => `(.val (.str $x))
namespace Sh
open L2 Pu
set_option genInjectivity false in
structure Ad where
 SlitError:ae
 NoText:ae
 NoWidth:ae
 NoView:ae
 NoWindow:ae
 Never:ae
 Full:ae
 Nothing:ae
 Unlike:ae
 NoPlace:ae
 NoLetters:ae
 BadText:ae
 Seeker:ae
 Slit:ae
def gE(a:Ad):List ae:=[a.NoText,a.NoWidth,a.NoView,a.NoWindow,a.Never,a.Full,a.Nothing,a.Unlike,a.NoPlace,a.NoLetters,a.BadText]
def kZ(a:Ad)(c:ai):Bool:=match c with
 |.ref x=>(gE a).contains x
 |_=>aj
def kr(a:Ad)(c:ai)(D:V):Option Bool:=match c,D with
 |.ref x,.ref d=>if(gE a).contains x&&(gE a).contains d then aa (x == d)else ac
 |.ref x,.ty T=>if(gE a).contains x&&T == "ValueError" then aa ah else ac
 |_,_=>ac
def yat(a:Ad):af->R aJ:=bc (dL mB (ak (dF (cU [1] (cL (dV 0)) (cA) (d2 (kb aj) (dV 0) (dV 1)))) (au)))
def tZ(a:Ad):af->R Slot:=bn 2 [] (bj 0 (yat a))
def yaz(a:Ad):af->R aJ:=bc (jJ (dL bQ (ak (dV 0) (ak (dC (.raw (.ty "int"))) (au)))) (xf (dL bQ (ak (dV 0) (ak (dC (.raw (.ty "bool"))) (au))))))
def jk(a:Ad):af->R Slot:=bn 1 [] (bj 0 (yaz a))
def yaA(a:Ad):af->R aJ:=bc (jJ (aM (aC (jk a) (gV (dV 0) (aW)))) (fL (bx λi j=>decide (i<=j)) (bx λi j=>decide (i<=j)) (dC (.int 1)) (dV 0) (dC (.int 4))))
def kD(a:Ad):af->R Slot:=bn 1 [] (bj 0 (yaA a))
def yaB(a:Ad):af->R aJ:=bc (jJ (dL bQ (ak (dV 0) (ak (dC (.raw (.ty "str"))) (au)))) (jJ (d2 (eqT aj) (dL aY (ak (dV 0) (au))) (dV 1)) (aM (aC (tZ a) (gV (dV 0) (gV (dV 2) (aW)))))))
def ou(a:Ad):af->R Slot:=bn 3 [] (bj 0 (yaB a))
def yal(a:Ad):af->R aJ:=aF (br (dz (cS (dB (dL bQ (ak (dV 0) (ak (dC (.raw (.ty "tuple"))) (au)))))) (cS (dB (fL (bx λi j=>decide (i<=j)) (bx λi j=>decide (i<=j)) (dC (.int 1)) (dL aY (ak (dV 0) (au))) (dC (.int 9)))))) (bc (dC (.bl aj))) (bH))
 (aF (br (cS (dB (dL mB (ak (dF (cU [1,2] (cL (dV 0)) (cA) (aM (aC (ou a) (gV (dV 0) (gV (dV 1) (gV (dV 2) (aW)))))))) (au))))) (bc (dC (.bl aj))) (bH))
 (bc (d2 (eqT aj) (dF (dL lw (ak (dV 0) (au)))) (dF (dL jV (ak (dV 0) (au)))))))
def lv(a:Ad):af->R Slot:=bn 3 [] (bj 0 (yal a))
def yay(a:Ad):af->R aJ:=aF (br (dz (cS (dB (dL bQ (ak (dV 0) (ak (dC (.raw (.ty "tuple"))) (au)))))) (dB (d2 (eqT ah) (dL aY (ak (dV 0) (au))) (dC (.int 2))))) (bc (dC (.bl aj))) (bH))
 (bc (jJ (aM (aC (kD a) (gV (d2 bE (dV 0) (dC (.int 0))) (aW)))) (aM (aC (lv a) (gV (d2 bE (dV 0) (dC (.int 1))) (gV (d2 bE (dV 0) (dC (.int 0))) (gV (dV 1) (aW))))))))
def iK(a:Ad):af->R Slot:=bn 2 [] (bj 0 (yay a))
def yax(a:Ad):af->R aJ:=ff (aC (iK a) (gV (dV 0) (gV (dC (.str [97,98,99])) (aW))))
def kt(a:Ad):af->R Slot:=bn 1 [] (bj 0 (yax a))
def yap(a:Ad):af->R aJ:=br (cS (dB (aM (aC (kt a) (gV (dV 0) (aW)))))) (ke (.ref a.NoView) (λb=>bu ((dC (.str [97,32,118,105,101,119,32,105,115,32,97,32,116,117,112,108,101,32,111,102,32,97,32,119,105,100,116,104,32,97,110,100,32,97,32,114,105,115,105,110,103,32,116,117,112,108,101,32,111,102,32,49,32,116,111,32,57,32,119,105,110,100,111,119,115])) b))) (bH)
def kh(a:Ad):af->R Slot:=bn 1 [] (bj 0 (yap a))
def yaZ(a:Ad):af->R aJ:=aF (br (cS (dB (fL (bx λi j=>decide (i<=j)) (bx λi j=>decide (i<=j)) (dC (.int 1)) (dL aY (ak (dV 1) (au))) (dC (.int 9))))) (ke (.ref a.NoView) (λb=>bu ((dC (.str [97,32,118,105,101,119,32,104,97,115,32,49,32,116,111,32,57,32,119,105,110,100,111,119,115])) b))) (bH))
 (bc (dL cF (ak (dV 0) (ak (dL lu (ak (dF (dL jV (ak (dV 1) (au)))) (au))) (au)))))
def oG(a:Ad):af->R Slot:=bn 2 [] (bj 0 (yaZ a))
def yar(a:Ad):af->R aJ:=aF (i8 1 (sY))
 (aF (λb=>eu (dm 2 (cL (dV 0)) (kY 1 (dV 2) (d2 aU (mE 1 (dV 2) (dC (.int 0))) (dC (.int 1)))) b))
 (qS 1))
def t_(a:Ad):af->R Slot:=bn 1 [] (bj 2 (yar a))
def yaj(a:Ad)(c:af->R Slot):af->R aJ:=aF (br (cS (dB (ti 2))) (aF (ln 3 (dV 0)) (xw (.ret (.val .non)))) (bH))
 (aF (bz 4 (bN b7 (dV 0) (bA (d2 aU (d2 fz (dL aY (ak (dV 0) (au))) (dV 1)) (dC (.int 1)))) (b8)))
 (λb=>eu (dm 5 (cL (dC (.str [97,98,99]))) (aF (bz 6 (d2 aU (dV 4) (dV 5)))
 (br (dB (d2 (bx λi j=>decide (j<i)) (mE 2 (dV 6) (dC (.int 0))) (dC (.int 0)))) (aF (kY 2 (dV 6) (d2 fz (mG 2 (dV 6)) (dC (.int 1))))
 (aF (fE (aC (c) (gV (d2 aU (dV 0) (dV 5)) (gV (dV 1) (gO 2 (gO 3 (aW)))))))
 (kY 2 (dV 6) (d2 aU (mG 2 (dV 6)) (dC (.int 1)))))) (bH))) b)))
def oA(a:Ad):Nat->af->R Slot
 |0=>bn 4 [2,3] (bj 3 mv)
 |k+1=>bn 4 [2,3] (bj 3 (yaj a (oA a k)))
def yaU(a:Ad):af->R aJ:=aF (fE (aC (kh a) (gV (dV 0) (aW))))
 (aF (bz 1 (d2 bE (dV 0) (dC (.int 0))))
 (aF (i8 2 (dL bY (au)))
 (aF (λb=>eu (dm 3 (cL (dF (dL tm (ak (dF (cU [] (cL (d2 bE (dV 0) (dC (.int 1)))) (cA) (bN b7 (dV 0) (b8) (bA (d1 il (dC (.int 1))))))) (au))))) (fE (su (oA a 12) (qH (dV 3) (qH (dV 1) (gN (pw (aC (t_ a) (gV (d2 bE (dV 0) (dC (.int 1))) (aW)))) (gO 2 (aW))))))) b))
 (qS 2))))
def iP(a:Ad):af->R Slot:=bn 1 [] (bj 3 (yaU a))
def yau(a:Ad):af->R aJ:=bc (dL aY (ak (aM (aC (iP a) (gV (dV 0) (aW)))) (au)))
def n5(a:Ad):af->R Slot:=bn 1 [] (bj 0 (yau a))
def yaE(a:Ad):af->R aJ:=aF (br (dB (d2 (bx λi j=>decide (i<j)) (dV 1) (dL aY (ak (dV 0) (au))))) (bc (d2 bE (dV 0) (dV 1))) (bH))
 (aF (br (dB (d2 (eqT aj) (dV 0) (dF (dL bY (au))))) (bc (dC (.int 0))) (bH))
 (bc (d2 aU (d2 eM (d2 bE (dV 0) (d2 gx (dV 1) (dL aY (ak (dV 0) (au))))) (dC (.int 31))) (dV 1))))
def qG(a:Ad):af->R Slot:=bn 2 [] (bj 0 (yaE a))
def yaw(a:Ad):af->R aJ:=bc (jJ (dL bQ (ak (dV 0) (ak (dC (.raw (.ty "str"))) (au)))) (jJ (fL (bx λi j=>decide (i<=j)) (bx λi j=>decide (i<=j)) (dC (.int 1)) (dL aY (ak (dV 0) (au))) (dV 1)) (aM (aC (tZ a) (gV (dV 0) (gV (dC (.str [97,98,99])) (aW)))))))
def i_(a:Ad):af->R Slot:=bn 2 [] (bj 0 (yaw a))
def yao(a:Ad):af->R aJ:=br (cS (dB (aM (aC (i_ a) (gV (dV 0) (gV (dC (.int 12)) (aW))))))) (ke (.ref a.NoText) (λb=>bu ((dC (.str [97,32,116,101,120,116,32,104,97,115,32,49,32,116,111,32,49,50,32,108,101,116,116,101,114,115,32,97,44,32,98,44,32,99])) b))) (bH)
def iq(a:Ad):af->R Slot:=bn 1 [] (bj 0 (yao a))
def yaq(a:Ad):af->R aJ:=br (cS (dB (aM (aC (kD a) (gV (dV 0) (aW)))))) (ke (.ref a.NoWidth) (λb=>bu ((dC (.str [97,32,119,105,100,116,104,32,105,115,32,97,32,119,104,111,108,101,32,110,117,109,98,101,114,32,102,114,111,109,32,49,32,116,111,32,52])) b))) (bH)
def iO(a:Ad):af->R Slot:=bn 1 [] (bj 0 (yaq a))
def yaQ(a:Ad):af->R aJ:=nG (cU [0,1] (dL dX (ak (d2 aU (d2 fz (dL aY (ak (dV 0) (au))) (dV 1)) (dC (.int 1))) (au))) (cA) (bN b7 (dV 1) (bA (dV 0)) (bA (d2 aU (dV 0) (dV 2)))))
def mJ(a:Ad):af->R Slot:=bn 2 [] (bj 0 (yaQ a))
def yaT(a:Ad):af->R aJ:=aF (fE (aC (iq a) (gV (dV 0) (aW))))
 (aF (fE (aC (iO a) (gV (dV 1) (aW))))
 (ff (aC (oG a) (gV (dV 1) (gV (aM (aC (mJ a) (gV (dV 0) (gV (dV 1) (aW))))) (aW))))))
def fD(a:Ad):af->R Slot:=bn 2 [] (bj 0 (yaT a))
def yaX(a:Ad):af->R aJ:=bc (bN b7 (d2 eM (dV 0) (dV 1)) (b8) (bA (d2 fz (d2 aU (dL aY (ak (dV 0) (au))) (dV 1)) (dC (.int 1)))))
def sF(a:Ad):af->R Slot:=bn 2 [] (bj 0 (yaX a))
def yaY(a:Ad):af->R aJ:=ff (aC (fD a) (gV (dV 0) (gV (dV 1) (aW))))
def mK(a:Ad):af->R Slot:=bn 2 [] (bj 0 (yaY a))
def yaV(a:Ad):af->R aJ:=aF (fE (aC (iq a) (gV (dV 0) (aW))))
 (bc (dL pe (ak (dF (cU [0] (dL dX (ak (dL aY (ak (dV 0) (au))) (au))) (cA) (d2 aU (bN b7 (dV 1) (bA (dV 0)) (b8)) (bN b7 (dV 1) (b8) (bA (dV 0)))))) (au))))
def mr(a:Ad):af->R Slot:=bn 1 [] (bj 0 (yaV a))
def yaW(a:Ad):af->R aJ:=nG (cU [0] (cL (aM (aC (iP a) (gV (aM (aC (fD a) (gV (dV 0) (gV (dV 1) (aW))))) (aW))))) (dB (d2 (eqT ah) (dV 0) (dV 1))) (dV 0))
def sm(a:Ad):af->R Slot:=bn 2 [] (bj 0 (yaW a))
def yak(a:Ad):af->R aJ:=aF (bz 3 (aM (aC (fD a) (gV (dV 0) (gV (dV 2) (aW))))))
 (bc (d2 (eqT aj) (dV 3) (aM (aC (fD a) (gV (dV 1) (gV (dV 2) (aW)))))))
def ka(a:Ad):af->R Slot:=bn 3 [] (bj 1 (yak a))
end Sh
namespace PySem
open PySem.AutoSeq1 (wpAny_loadPart')
theorem Heap.IsTupleIter.out{h b:aD}{z a t:ae}{i:Nat}(c:h.IsTupleIter a t i)(e:Heap.ExtBut z h b)(n:a≠z):b.IsTupleIter a t i:=let ⟨o,ho,r⟩:=c;⟨o,e a o n ho,r⟩
theorem Heap.IsTupleIter.by{h h':aD}{it t:ae}{i:Nat}(a:h.IsTupleIter it t i)(e:∀o,h.get? it=aa o->h'.get? it=aa o):h'.IsTupleIter it t i:=let ⟨o,ho,r⟩:=a;⟨o,e o ho,r⟩
section
variable{g:bb}{w:aS}{A:a9}{E:ai->ao->Prop}{s:ao}{z J O f d h l2:ae}{k:Nat}{j i:Array ai}{x y a b:ai}
theorem Qd{Q:Fin->ao->Prop}(H:IsZip s.heap z J O .none)(hJ:fY s.heap J (.ref f) (.ref d))(D:ZipApart z J O f d h l2)(hO:fY s.heap O a b)(h1:s.heap.IsTupleIter f h k)(h2:s.heap.IsTupleIter d l2 k)(lT:s.heap.IsTuple h j)(iz:s.heap.IsTuple l2 i)(hh:A.handled=ac)(hQ:∀x y,j[k]?=aa x->i[k]?=aa y->∀m,IsZip m z J O (dj s.heap.objs.size)->fY m O x y->m.IsTupleIter f h (k+1)->m.IsTupleIter d l2 (k+1)->fY m s.heap.objs.size x y->m.objs.size=s.heap.objs.size+1 -> (∀c o,c≠z->c≠O->c≠f->c≠d->s.heap.get? c=aa o->m.get? c=aa o)->Q (.done (.ret (.ref s.heap.objs.size))) {s with heap:=m})(hE:j[k]?=ac\/i[k]?=ac->∀m e,(∀c o,c≠z->c≠O->c≠f->c≠d->s.heap.get? c=aa o->m.get? c=aa o)->(∃o,m.get? e=aa o/\o.cls=.type "StopIteration")->E (.ref e) {s with heap:=m}):ax (aA g w) A (Builtin.«zip.__next__» ⟨[.ref z],[]⟩) Q E s:=by
 show ax _ _ (field (.ref z) 2 >>= _) _ _ _;refine aq (gJ H rfl (x:=.bool aj) rfl ?_);show ax _ _ (field (.ref z) 3 >>= _) _ _ _;refine aq (gJ H rfl (x:=.ref J) rfl ?_);refine aq (rP hJ rfl ?_);show ax _ _ (R6 (.ref z) >>= _) _ _ _;refine aq ?_;unfold R6;refine aq (gJ H rfl (x:=.none) rfl (aI ?_));simp only[if_true];refine aq (uu ?_);refine aq (gJ H rfl (x:=.ref O) rfl ?_);refine aq (yt H (by simp) λp1 C r=>?_);replace C:IsZip p1 z J O .ellipsis:=C;refine aq ?_;simp only[List.zipIdx_cons,List.zipIdx_nil,List.forIn_cons,List.forIn_nil];refine aq (aq (wpAny_onRaise ?_));show ax _ _ (uy (.ref f) >>= _) _ _ _;cases N:j[k]? with
 |none=>
  refine aq (Ep hh (h1.out r.extBut D.i1z) (lT.extBut r.extBut D.l1z) N λp2 e p ⟨oe,B,F⟩=>?_);have z2:IsZip p2 z J O .ellipsis:=p _ _ D.i1z.symm C;have ez:e≠z:=λx=>by subst x;rw[z2]at B;cases B;simp at F
  exact yt z2 (by simp) λZ _ n=>hE (.inl N) Z e (λc o t _ K _ q=>n.extBut _ _ t (p _ _ K (r.extBut _ _ t q))) ⟨oe,n.extBut _ _ ez B,F⟩
 |some x=>
  refine aq (Dy (h1.out r.extBut D.i1z) (lT.extBut r.extBut D.l1z) N λp2 t2 p=>aI ?_);have O2:fY p2 O a b:=p.extBut _ _ D.TOi1 (r.extBut _ _ D.TOz hO);refine aq (rP O2 rfl ?_);refine aq (wpAny_updateSeq_pair O2 λZ O3 n=>?_);replace O3:fY Z O x b:=O3;refine aq (wpAny_letGo (aI ?_));refine aq (aq (wpAny_onRaise ?_));show ax _ _ (uy (.ref d) >>= _) _ _ _;have u2:=((h2.out r.extBut D.i2z).out p.extBut D.i12.symm).out n.extBut D.TOi2.symm;have v2:=((iz.extBut r.extBut D.l2z).extBut p.extBut D.l2i1).extBut n.extBut D.l2TO;cases M:i[k]? with
  |none=>
   refine aq (Ep hh u2 v2 M λY e v ⟨oe,B,F⟩=>?_);have z4:IsZip Y z J O .ellipsis:=v _ _ D.i2z.symm (n.extBut _ _ D.TOz.symm (p.extBut _ _ D.i1z.symm C));have ez:e≠z:=λx=>by subst x;rw[z4]at B;cases B;simp at F
   exact yt z4 (by simp) λl _ u=>hE (.inr M) l e (λc o t P K c4 q=>u.extBut _ _ t (v _ _ c4 (n.extBut _ _ P (p.extBut _ _ K (r.extBut _ _ t q))))) ⟨oe,u.extBut _ _ ez B,F⟩
  |some y=>
   refine aq (Dy u2 v2 M λY t4 v=>aI ?_);have O4:fY Y O x b:=v.extBut _ _ D.TOi2 O3;refine aq (rP O4 rfl ?_);refine aq (wpAny_updateSeq_pair O4 λl S u=>?_);replace S:fY l O x y:=S;refine aq (wpAny_letGo (aI (aI ?_)));refine aq (rP S rfl ?_);refine aq (wpAny_newTuple ?_);have I:l.objs.size=s.heap.objs.size:=by rw[u.1,v.1,n.1,p.1,r.1]
   have z5:IsZip l z J O .ellipsis:=u.extBut _ _ D.TOz.symm (v.extBut _ _ D.i2z.symm (n.extBut _ _ D.TOz.symm (p.extBut _ _ D.i1z.symm C)));have zl:z<l.objs.size:=bL z5;show ax _ _ (R7 (.ref z) (.ref l.objs.size) >>= _) _ _ _;refine aq ?_;unfold R7;have z6:IsZip (l.push {cls:=.type "tuple",data:=.seq #[x,y]}) z J O .ellipsis:=bp _ z5;refine aq (yt z6 (by simp) λp7 T X=>?_);replace T:IsZip p7 z J O (dj l.objs.size):=T;refine yt T (by simp) λG L W=>?_;replace L:IsZip G z J O (dj l.objs.size):=L;have up:∀c o,c≠z->l.get? c=aa o->G.get? c=aa o:=λc o t e=>W.extBut _ _ t (X.extBut _ _ t (bp _ e));have T8:fY G l.objs.size x y:=W.extBut _ _ (jc zl) (X.extBut _ _ (jc zl) (cD _ rfl));have n8:G.objs.size=l.objs.size+1:=by rw[W.1,X.1,lL]
   rw[I]at L T8 n8;refine aI ?_;show Q (.done (.ret (.ref l.objs.size))) _;rw[I];exact hQ x y N M G L (up _ _ D.TOz S) ((((t2.out n.extBut D.TOi1.symm).out v.extBut D.i12).out u.extBut D.TOi1.symm).by λo e=>up _ o D.i1z e) ((t4.out u.extBut D.TOi2.symm).by λo e=>up _ o D.i2z e) T8 n8
    λc o t P K c4 e=>up c o t (u.extBut _ _ P (v.extBut _ _ c4 (n.extBut _ _ P (p.extBut _ _ K (r.extBut _ _ t e)))))
theorem Fp{Q:Option ai->ao->Prop}(v:A.handled=ac)(D:ZipApart z J O f d h l2)(m:IsZip s.heap z J O .none)(H:fY s.heap J (.ref f) (.ref d))(G:fY s.heap O a b)(L:s.heap.IsTupleIter f h k) (K:s.heap.IsTupleIter d l2 k) (p:s.heap.IsTuple h j) (r:s.heap.IsTuple l2 i)(C:∀x y,j[k]?=aa x->i[k]?=aa y->∀l,IsZip l z J O (dj s.heap.objs.size)->fY l O x y->l.IsTupleIter f h (k+1)->l.IsTupleIter d l2 (k+1)->fY l s.heap.objs.size x y->l.objs.size=s.heap.objs.size+1 -> (∀c o,c≠z->c≠O->c≠f->c≠d->s.heap.get? c=aa o->l.get? c=aa o)->Q (aa (.ref s.heap.objs.size)) {s with heap:=l})(I:j[k]?=ac\/i[k]?=ac->∀l,(∀c o,c≠z->c≠O->c≠f->c≠d->s.heap.get? c=aa o->l.get? c=aa o)->Q ac {s with heap:=l}):ax (aA g w) A (oK (.ref z)) Q E s:=by
 have n:s.TypeIs (.ref z) "zip":=⟨_,m,rfl⟩
 unfold oK;refine aq (wpAny_attempt (rA (name:=oO "__next__") n F.slot_zip_next (mV F.slot_zip_next n F.entry_zip_next (Qd m H D G L K p r v (λx y N M l a1 Z Y X W S P=>⟨_,rfl,aI (C x y N M l a1 Z Y X W S P)⟩) λu l e q ⟨o,t,B⟩=>?_) (F.args_zip_next_1 _))));exact aq (HM (T:="StopIteration") (b:=ah) ⟨o,t,B⟩ isSubtype_stop (aI (I u _ q)))
end
abbrev wd(h:aD)(a:ae):aD:=h.push {cls:=.type "tuple_iterator",data:=.fields #[.ref a,.int 0 0]}
abbrev xt(h:aD)(a l2:ae):aD:=(wd h a).push {cls:=.type "tuple_iterator",data:=.fields #[.ref l2,.int 0 0]}
abbrev wx(h:aD)(a l2:ae):aD:=(xt h a l2).push {cls:=.type "tuple",data:=.seq #[.ref h.objs.size,.ref (wd h a).objs.size]}
abbrev wK(h:aD)(a l2:ae):aD:=(wx h a l2).push {cls:=.type "tuple",data:=.seq #[.none,.none]}
abbrev qw(h:aD)(a l2:ae):aD:=(wK h a l2).push {cls:=.type "zip",data:=.fields #[.none,.bool aj,.bool aj,.ref (xt h a l2).objs.size,.ref (wx h a l2).objs.size]}
theorem Lj(a l2:ae)(xs f:Array ai):Meets (Builtin.«zip.__new__» ⟨[.type "zip",.ref a,.ref l2],[]⟩) (λ_ R s=>s.heap.IsTuple a xs/\s.heap.IsTuple l2 f /\ R (.ok (.ret (.ref (wK s.heap a l2).objs.size))) {s with heap:=qw s.heap a l2}) :=
 .of_wp λj w A R s h=>by
  obtain⟨m,g,d,i,l⟩:=s;obtain⟨n,p,h⟩:=h;have q:=sub_zip;have c:Heap.IsTuple (Shared.heap ⟨m,g,d,i,l⟩) a xs:=n;have b:Heap.IsTuple (Shared.heap ⟨m.push {cls:=.type "tuple_iterator",data:=.fields #[.ref a,.int 0 0]},g,d,i,l⟩) l2 f:=let ⟨o,e,r⟩:=p;⟨o,bp _ e,r⟩
  wp_walk using Ck c,Ck b
  exact⟨_,rfl,h⟩
section
variable{a:bb}{w:aS}{A:a9}{E:ai->ao->Prop}{s:ao}
theorem Md{b l2:ae}{xs n:Array ai}{Q:ai->ao->Prop}(t:s.heap.IsTuple b xs)(u:s.heap.IsTuple l2 n)(h:∀d,IsZip d (s.heap.objs.size+4) (s.heap.objs.size+2) (s.heap.objs.size+3) .none->fY d (s.heap.objs.size+2) (.ref s.heap.objs.size) (.ref (s.heap.objs.size+1)) -> fY d (s.heap.objs.size+3) .none .none->d.IsTupleIter s.heap.objs.size b 0->d.IsTupleIter (s.heap.objs.size+1) l2 0 -> (∀c o,s.heap.get? c=aa o->d.get? c=aa o)->Q (.ref (s.heap.objs.size+4)) {s with heap:=d}):ax (aA a w) A (call (.type "zip") [.ref b,.ref l2]) Q E s:=by
 refine callType_new F.called_zip (by decide) (F.typeCall_zip_2 _ _) (F.newCall_zip_2 _ _) (λj=>F.args_object_init_3 j _ _) F.entry_zip_new
  (Lj b l2 xs n) ⟨t,u,?_⟩
 have i:(wd s.heap b).objs.size=s.heap.objs.size+1:=lL ..;have g:(xt s.heap b l2).objs.size=s.heap.objs.size+2:=by rw[lL,i]
 have f:(wx s.heap b l2).objs.size=s.heap.objs.size+3:=by rw[lL,g]
 have m:(wK s.heap b l2).objs.size=s.heap.objs.size+4:=by rw[lL,f]
 have l:(qw s.heap b l2).get? (wK s.heap b l2).objs.size=aa _:=cD _ rfl;have p:(qw s.heap b l2).get? (wx s.heap b l2).objs.size=aa _:=bp _ (cD _ rfl);have q:(qw s.heap b l2).get? (xt s.heap b l2).objs.size=aa _:=bp _ (bp _ (cD _ rfl));have r:(qw s.heap b l2).get? (wd s.heap b).objs.size=aa _:=bp _ (bp _ (bp _ (cD _ rfl)));have v:(qw s.heap b l2).get? s.heap.objs.size=aa _:=bp _ (bp _ (bp _ (bp _ (cD _ rfl))));show _/\_;rw[g,f,m]at l;rw[i,g]at q;rw[f]at p;rw[i]at r;rw[m];exact⟨⟨_,l,rfl⟩,h _ l q p ⟨_,v,rfl,rfl⟩ ⟨_,r,rfl,rfl⟩ λc o x=>bp _ (bp _ (bp _ (bp _ (bp _ x))))⟩
end
end PySem
namespace L2
def vV(a b:ae):It :=⟨λi H=>∃xs c x y,H a=aa (.tup xs)/\H b=aa (.tup c)/\xs[i]?=aa x/\c[i]?=aa y,λi H v d=>∃p x y,H p=ac/\v=.ref p/\d=upd H p (.tup [x,y])/\(∀xs,H a=aa (.tup xs)->xs[i]?=aa x)/\∀c,H b=aa (.tup c)->c[i]?=aa y,λi H=>∃xs c,H a=aa (.tup xs)/\H b=aa (.tup c)/\(xs.length<=i\/c.length<=i)⟩
theorem Gb{h:aD}{z J O s r q l2:ae}{a b:ai}{k:Nat}{xs A:Array ai}(i:IsZip h z J O .none)(u:fY h J (.ref s) (.ref r))(t:fY h O a b)(I:h.IsTupleIter s q k)(H:h.IsTupleIter r l2 k)(C:h.IsTuple q xs)(B:h.IsTuple l2 A)(G:J≠O)(F:s≠r)(E:q≠O)(D:l2≠O):ZipApart z J O s r q l2:=by
 have f:∀{c d:ae}{x w:Obj},h.get? c=aa x->h.get? d=aa w->x.cls≠w.cls->c≠d:=λK y n z=>n (by subst z;rw[K]at y;cases y;rfl);obtain⟨x1,o,l,_⟩:=I;obtain⟨N,m,j,_⟩:=H;obtain⟨M,b1,d1,_⟩:=C;obtain⟨L,b2,d2,_⟩:=B;have p:Value.type "tuple"≠Value.type "zip":=by decide
 have v:Value.type "tuple_iterator"≠Value.type "zip":=by decide
 have g:Value.type "tuple"≠Value.type "tuple_iterator":=by decide
 exact⟨f u i p,f t i p,f o i (by rw[l];exact v),f m i (by rw[j];exact v),G,f u o (by rw[l];exact g),f u m (by rw[j];exact g),f t o (by rw[l];exact g),f t m (by rw[j];exact g),F,
  f b1 i (by rw[d1];exact p),E,f b1 o (by rw[d1,l];exact g),f b1 m (by rw[d1,j];exact g),f b2 i (by rw[d2];exact p),D,f b2 o (by rw[d2,l];exact g),f b2 m (by rw[d2,j];exact g)⟩
def Km(z J O d c f l2:ae)(i:Nat)(h:aD):Prop:=IsZip h z J O .none/\fY h J (.ref d) (.ref c)/\(∃a b,fY h O a b)/\h.IsTupleIter d f i/\h.IsTupleIter c l2 i
theorem OH{P:bb}{w:aS}{K:aw}{es:List az}{k:Nat}{pos:Pos}(a b z J O C B:ae)(n1:J≠O)(n2:C≠B):qC P w K (.Tuple es k pos) (vV a b) [z,J,O,C,B] z (Km z J O C B a b) where
 mem:=by simp
 obj:=λi h ⟨F,t,⟨_,_,G⟩,A,L⟩ c m=>by
  simp only[bV,fe,or_false]at m;rcases m with rfl|rfl|rfl|rfl|rfl
  .exact⟨_,F,λv z=>by cases z⟩
  .exact⟨_,t,λv z=>by cases z⟩
  .exact⟨_,G,λv z=>by cases z⟩
  .obtain⟨o,e,c,d⟩:=A;exact⟨o,e,λv z=>by rw[d]at z;cases z⟩
  .obtain⟨o,e,c,d⟩:=L;exact⟨o,e,λv z=>by rw[d]at z;cases z⟩
 keep:=λi h h' ⟨F,t,⟨x,y,G⟩,A,L⟩ k=>⟨k z (by simp) _ F,k J (by simp) _ t,⟨x,y,k O (by simp) _ G⟩,A.by λo e=>k C (by simp) o e,L.by λo e=>k B (by simp) o e⟩
 item:=by
  intro X hP hw hK T i ag s σ H E I N Z hg;subst hP hw hK;obtain⟨F,t,⟨oa,ob,G⟩,A,L⟩:=Z;obtain⟨xs,ys,x,y,W,Y,j,hy⟩:=hg;obtain⟨g,S,p1,_⟩:=I.tuple (cG.of W);obtain⟨f,Q,p2,_⟩:=I.tuple (cG.of Y);obtain⟨u1,hu1,ru1⟩:=S.get j;obtain⟨u2,hu2,ru2⟩:=Q.get hy;have nO:∀c v,H c=aa v->c≠O:=λc v e q=>by rw[q,(N O (by simp)).1]at e;cases e
  have D:=Gb F t G A L p1 p2 n1 n2 (nO _ _ W) (nO _ _ Y);refine Fp (by show X.A.in1.handled=ac;exact I.ok.hd T) D F t G A L p1 p2 (λv1 v2 e1 e2 h' u5 hO' t1 t2 hT hsz kp=>⟨_,rfl,?_⟩) λl=>by
   rcases l with l|l
   .rw[show g.toArray[i]?=aa u1 by simpa using hu1]at l;cases l
   .rw[show f.toArray[i]?=aa u2 by simpa using hu2]at l;cases l
  have ev1:v1=u1:=by
   have q:g[i]?=aa v1:=by simpa using e1
   rw[hu1]at q;exact(eG q).symm
  have ev2:v2=u2:=by
   have q:f[i]?=aa v2:=by simpa using e2
   rw[hu2]at q;exact(eG q).symm
  subst ev1 ev2;refine wpAny_letOwnedTupleGo_zip (s:={s with heap:=h'}) u5 λh2 hz2 sb=>?_;have hpz:s.heap.objs.size≠z:=jc (bL F);have hT2:fY h2 s.heap.objs.size v1 v2:=(sb.2 _ hpz).trans hT;have kp2:∀c o,c≠z->c≠O->c≠C->c≠B->s.heap.get? c=aa o->h2.get? c=aa o:=λc o c1 c2 c3 c4 q=>(sb.2 c c1).trans (kp c o c1 c2 c3 c4 q);have fr:=I.fresh;have l:∀b u,H b=aa u->b≠s.heap.objs.size:=λb u q z=>by rw[z,fr]at q;cases q
  have T1:=t1.by λo q=>(sb.2 C D.i1z).trans q;have T2:=t2.by λo q=>(sb.2 B D.i2z).trans q;have O2:fY h2 O v1 v2:=(sb.2 O D.TOz).trans hO';have M:∀b o,b∉[z,J,O,C,B]->s.heap.get? b=aa o->h2.get? b=aa o:=λb o j q=>kp2 b o (λz=>j (by simp[z])) (λz=>j (by simp[z])) (λz=>j (by simp[z])) (λz=>j (by simp[z])) q;have I2:Inv X ag σ (upd H s.heap.objs.size (.tup [x,y])) {s with heap:=h2}:=by
   refine I.call' (ch:=[z,J,O,C,B]) rfl ⟨λb o q n _ p=>M b o p q,λb o q n _ p=>⟨o.slots,M b o p q⟩,λb o q n _=>by rw[bT (cZ (bL q))];exact n,λb o q p=>⟨o,M b o p q⟩,λb ys q=>by rw[bT (l b _ q)];exact q,λb o u q=>by rw[bT (l b _ q)];exact q,λb ps q=>by rw[bT (l b _ q)];exact q⟩ (λb v q=>?_) I.bare λb m=>?_
   .by_cases m:b=s.heap.objs.size
    .subst m;rw[cI]at q;cases q;exact⟨by show 2<=bq;decide,[v1,v2],.cons ru1 (.cons ru2 .nil),⟨_,hT2,rfl,_,rfl⟩,_,hT2,rfl⟩
    .rw[bT m]at q;refine(I.hok b v q).stay (λc o T r=>?_) (λc r=>by rw[bT (l c _ r)];exact r) λc ys r=>by rw[bT (l c _ r)];exact r
     have nn:H c≠ac:=by rcases T with z|z <;> (first | (rw[<-z,q];simp) | (rw[z,q];simp) | (rw[z];simp))
     exact M c o (λhm=>nn (N c hm).1) r
   .obtain⟨f0,f1,f2,f3,f4,f5⟩:=N b m;exact⟨f3,f1,f4,f5⟩
  refine⟨.ref s.heap.objs.size,_,I2,rfl,⟨s.heap.objs.size,x,y,fr,rfl,rfl,λzs e=>by rw[W]at e;cases e;exact j,λzs e=>by rw[Y]at e;cases e;exact hy⟩,⟨hz2,kp2 _ _ D.TIz D.TITO D.TIi1 D.TIi2 t,⟨_,_,O2⟩,T1,T2⟩,λb m=>?_⟩;have cR:b≠s.heap.objs.size:=λq=>by
   simp only[bV,fe,or_false]at m;rcases m with c|c|c|c|c
   .exact hpz (q ▸ c)
   .exact jc (bL t) (q ▸ c)
   .exact jc (bL G) (q ▸ c)
   .obtain⟨_,e,_⟩:=A;exact jc (bL e) (q ▸ c)
   .obtain⟨_,e,_⟩:=L;exact jc (bL e) (q ▸ c)
  rw[bT cR];exact(N b m).1
 done:=by
  intro X hP hw hK T i ag s σ H E I N Z hg;subst hP hw hK;obtain⟨F,t,⟨oa,ob,G⟩,A,L⟩:=Z;obtain⟨xs,ys,W,Y,j⟩:=hg;obtain⟨g,S,p1,_⟩:=I.tuple (cG.of W);obtain⟨f,Q,p2,_⟩:=I.tuple (cG.of Y);have nO:∀c v,H c=aa v->c≠O:=λc v e q=>by rw[q,(N O (by simp)).1]at e;cases e
  have D:=Gb F t G A L p1 p2 n1 n2 (nO _ _ W) (nO _ _ Y);have l1:=S.length;have l2:=Q.length;refine Fp (by show X.A.in1.handled=ac;exact I.ok.hd T) D F t G A L p1 p2 (λv1 v2 e1 e2=>?_) λ_ h' kp=>⟨rfl,?_⟩
  .have g1:=(dW.mp (show g[i]?=aa v1 by simpa using e1)).1;have g2:=(dW.mp (show f[i]?=aa v2 by simpa using e2)).1;exact absurd j ∅
  .have M:∀b o,b∉[z,J,O,C,B]->s.heap.get? b=aa o->h'.get? b=aa o:=λb o j q=>kp b o (λz=>j (by simp[z])) (λz=>j (by simp[z])) (λz=>j (by simp[z])) (λz=>j (by simp[z])) q;refine I.call' (ch:=[z,J,O,C,B]) rfl ⟨λb o q n _ p=>M b o p q,λb o q n _ p=>⟨o.slots,M b o p q⟩,λ_ _ _ n _=>n,λb o q p=>⟨o,M b o p q⟩,λ_ _ q=>q,λ_ _ _ q=>q,λ_ _ q=>q⟩ (λb v q=>?_) I.bare λb m=>?_
   .refine(I.hok b v q).stay (λc o T r=>?_) (λ_ r=>r) λ_ _ r=>r;have nn:H c≠ac:=by rcases T with z|z <;> (first | (rw[<-z,q];simp) | (rw[z,q];simp) | (rw[z];simp))
    exact M c o (λhm=>nn (N c hm).1) r
   .obtain⟨f0,f1,f2,f3,f4,f5⟩:=N b m;exact⟨f3,f1,f4,f5⟩
 self:=λ_ _ _ _ _ Z h=>wpAny_pyIter_zip Z.1 h
section
variable{X:Cx}{d:List az}{k:Nat}{c:Pos}
def Jb(j:TA):TI:=λg H R=>j g H λi f=>∃a b xs h,i=[.ref a,.ref b]/\f a=aa (.tup xs)/\f b=aa (.tup h)/\(xs.length<=bq->R (vV a b) f)
theorem QW{e g:az}{o:TA}{p i:Pos}(P:Gl X "zip")(O:X.mg "zip"=ac)(Q:PA X [e,g] o)(N:aL [e,g] X.env=[(aj,aQ e X.env),(aj,aQ g X.env)]:=by rfl)(r:aL [g] X.env=[(aj,aQ g X.env)]:=by rfl):PI X (.Tuple d k c) (.Call (.Name "zip" p) [e,g] [] i) (Jb o):=by
 intro y s n H R I h;refine Call_ (qY I P O (show d9 "zip"=aa (.type "zip") by decide +kernel) (BU (bf (Q i y s n H _ I h) λus f ⟨vs,z,l,G,J⟩=>?_) (by rw[N,r]) (by rw[r];rfl)));obtain⟨a,b,xs,ys,e,Y,W,q⟩:=J;subst e;obtain⟨u,u',rfl,F,m⟩:=vals2 G;cases F;cases m;obtain⟨v,E,L,A⟩:=l.tuple (cG.of Y);obtain⟨t,D,K,_⟩:=l.tuple (cG.of W);refine Md L K λx w T S C B M=>?_;refine wpAny_pyIter_zip (s:={f with heap:=x}) w ?_;have Z:Inv X y n z {f with heap:=x}:=l.kept (t':=f.toks) M;have lt:∀b∈[f.heap.objs.size+4,f.heap.objs.size+2,f.heap.objs.size+3,f.heap.objs.size,f.heap.objs.size+1],f.heap.objs.size<=b:=by intro b j;simp only[bV,fe,or_false]at j;rcases j with rfl|rfl|rfl|rfl|rfl <;> lia
 exact⟨f.heap.objs.size+4,[f.heap.objs.size+4,f.heap.objs.size+2,f.heap.objs.size+3,f.heap.objs.size,f.heap.objs.size+1],_,_,z,rfl,Z,OH a b _ _ _ _ _ (cZ (jw (f.heap.objs.size+2))) (cZ (jw f.heap.objs.size)),⟨w,T,⟨_,_,S⟩,C,B⟩,λb j=>l.fpOk (lt b j) (l.hok.fresh (lt b j)),q A⟩
end
end L2
namespace Pu
open L2
section
variable{X:Cx}{E:XK}
theorem KZ{a b:ae}{d c:List V}:GF (vV a b) (d.zip c) (λH=>H a=aa (.tup d)/\H b=aa (.tup c)):=λH h i=>
 ⟨λx m=>by
  obtain⟨l,j⟩:=List.getElem?_zip_eq_some.mp m;refine⟨⟨d,c,_,_,h.1,h.2,l,j⟩,λv y ⟨p,w,u,t,s,r,q,o⟩=>?_⟩;have g:=q d h.1;have f:=o c h.2;rw[l]at g;rw[j]at f;cases g;cases f;subst s r;exact⟨p,rfl,cI,.inr ⟨t,rfl⟩⟩,λn=>⟨d,c,h.1,h.2,by rw[List.length_zip]at n;lia⟩⟩
theorem ER{K:aw}{H:Hp}{F:ae->Prop}:∀{xs a:List PV}{c b:List V},Reps K H F xs c->Reps K H F a b->FT K H F (xs.zip a) (c.zip b)
 |[],_,_,_,h,_=>by rw[show _=[] from h];exact⟨rfl,rfl⟩
 |_::_,[],_,_,⟨_,_,e,_,_⟩,h=>by rw[show _=[] from h,e];exact⟨rfl,rfl⟩
 |x::xs,y::a,_,_,⟨v,r,e,m,l⟩,⟨d,o,n,g,f⟩=>by subst e n;obtain⟨j,i⟩:=ER l f;exact⟨⟨v,_,rfl,m,j⟩,⟨d,_,rfl,g,i⟩⟩
def qA(c:af->R (List PV)):af->R (List (PV×PV)):=λε=>(c ε).bind λx a=>match x with
 |[.tup xs,.tup b]=>.ok (xs.zip b) a
 |_=>.no
theorem P8{G:List az}{k:Nat}{t p i:Pos}{a b:az}{o:af->R (List PV)}(B:X.mg "zip"=ac)(c:DA X E [a,b] o)(C:Gl X "zip":=by rfl)(A:aL [a,b] X.env=[(aj,aQ a X.env),(aj,aQ b X.env)]:=by rfl)(y:aL [b] X.env=[(aj,aQ b X.env)]:=by rfl):As X E (.Tuple G k t) (.Call (.Name "zip" p) [a,b] [] i) (qA o):=λF S r l H M u h=>Bx.mk λK s I=>by
 refine QW C B gk A y K s l H M I (c F S r l H _ u ((Ok.bind h).imp λxs q O L N g W j Q D=>?_));split at j
 .rename_i xs P;obtain⟨v,_,rfl,⟨a,f,rfl,c,x⟩,T,_,e,⟨b,d,rfl,m,w⟩,J⟩:=D;cases J;subst e;refine⟨a,b,f,d,rfl,c,m,λz=>j O L N g (bC.refl ..) (vV a b) (f.zip d) (λH=>H a=aa (.tup f)/\H b=aa (.tup d)) (ER x w) (dr (by rw[List.length_zip];exact Nat.min_le_left ..) z) KZ λY F2 Z n=>⟨n.imm g.fit c id,n.imm g.fit m id⟩⟩
 .exact j.elim
end
end Pu
namespace HT
section
variable{a:bb}{w:aS}{A:a9}{E:ai->ao->Prop}{s:ao}
theorem JL(n:Nat):rq ((n:Int)-1) (-1) (-1)=n:=by unfold rq;simp;lia
theorem NQ{f:ae}{b:ai}{n:Nat}{Q:Int×Int×Nat->ao->Prop}(i:s.heap.IsSliceOf f .none .none b)(g:jz b (aa (-1)))(h:Q ((n:Int)-1,-1,n) s):ax (aA a w) A (B2 (.ref f) (pure (n:Int))) Q E s:=by obtain⟨l,d,j,c⟩:=id i;unfold B2 Builtin.Slice.sliceFields;refine aq (aq (gJ d c (x:=.none) rfl (aq (gJ d c (x:=.none) rfl (aq (gJ d c (x:=b) rfl (aI ?_)))))));refine aq (Bn g ?_);show ax _ _ (if((-1:Int) == 0)=ah then _ else _) _ _ s;rw[if_neg (by decide)];refine aq (B1 (aq (B1 (aq (aI ?_)))));show ax _ _ (pure ((n:Int)-1,(-1:Int),rq ((n:Int)-1) (-1) (-1))) _ _ s;rw[JL];exact aI h
theorem NE(xs:Array ai)(n:Nat)(c:n=xs.size):((cy n).filterMap λ(m:Nat)=>xs[((n:Int)-1+(m:Int) * -1).toNat]?).toArray=xs.toList.reverse.toArray:=by
 subst c;rw[<-L2.SW xs.toList,Hv,xU];congr 1;refine L2.D_ λk b=>?_;have b:=xT.mp b;have:((xs.size:Int)-1+(k:Int) * -1).toNat=xs.size-1-k:=∅
 rw[this];simp
theorem getItem_tuple_rev{t f:ae}{b:Array ai}{i:ai}{Q:ai->ao->Prop}(d:IsTup s.heap t b)(j:s.heap.IsSliceOf f .none .none i)(o:jz i (aa (-1)))(h:Q (.ref s.heap.objs.size) {s with heap:=s.heap.push {cls:=.type "tuple",data:=.seq b.toList.reverse.toArray}})(g:b.size<=bq):ax (aA a w) A (kK (.ref t) (.ref f)) Q E s:=by
 have c:sizeOk (.seq b.toList.reverse.toArray):=by show b.toList.reverse.toArray.size<=bq;simpa using g
 obtain⟨p,q,n,r⟩:=id j;have l:s.TypeIs (.ref f) "slice":=⟨p,q,n⟩
 unfold kK
 try with_reducible refine mU ?_
 first|refine aq (aI ?_)|skip
 refine aq (Hw d.typeIs (by decide) ?_);refine aq (rA (name:=oO "__getitem__") d.typeIs uj (mV uj d.typeIs Hx ?_ (Hy _ _)));show ax _ _ (Hz (.ref t) >>= _) _ _ s;refine aq (tupleItemsOf_ d ?_);refine aq (uk l ?_);rw[if_pos (by decide)];refine aq (NQ j o ?_);show ax _ _ (if(((b.size:Int)-1) == 0&&(-1:Int) == 1&&b.size == b.size)=ah then _ else _) _ _ s;rw[if_neg (by simp),NE b b.size rfl]
 first
  |exact aq (m:=pT _) (iU (aI ⟨_,rfl,aI h⟩) c)
  |exact aq (m:=pT _) (iU (aq (aI (aI ⟨_,rfl,aI h⟩))) c)
  |exact aq (aq (m:=pT _) (iU (aI (aI ⟨_,rfl,aI h⟩)) c))
  |exact aq (aq (m:=pT _) (iU (aI ⟨_,rfl,aI h⟩) c))
end
end HT
namespace Pu
open L2
section
variable{X:Cx}{E:XK}{e f:az}{i:TE}{g:TO}{c j:Pos}{d:af->R PV}
def Jr(K:aw)(i:TE)(g:TO):TE:=λh H Q=>i h H λx m=>g h m λl b=>∃a xs,x=.ref a/\l=aa (-1)/\cG K b a xs/\∀p,b p=ac->Q (.ref p) (upd b p (.tup xs.reverse))
theorem Qm(L:PE X e i)(J:L2.PO X (aa f) g):PE X (.Subscript e (.Slice ac ac (aa f) j) c) (Jr X.K i g):=by
 intro p s m H Q I h;refine Subscript_ (bf (L p s m H _ I h) λv z ⟨x,S,O,A,C⟩=>?_);refine wpAny_Slice ?_;rw[evalPart_none];refine aI (aI ?_);refine bf (J p z m S _ O C) λn l ⟨T,P,N,D,a,xs,t,M,K,B⟩=>?_;subst t M;cases A;have u:Inv X p m P {l with heap:=l.heap.push {cls:=.type "slice",data:=.fields #[.none,.none,n]}}:=N.kept (t':=l.toks) λb F q=>bp _ q;have y:Heap.IsSliceOf (l.heap.push {cls:=.type "slice",data:=.fields #[.none,.none,n]}) l.heap.objs.size .none .none n:=Heap.IsSliceOf.new ..;obtain⟨G,r,w,t⟩:=u.tuple K;have W:=r.length;show ax (aA X.prog X.w) X.A (B3 e (.Slice ac ac (aa f) j) (.ref a) (.ref l.heap.objs.size)) (EP X p m Q) X.xe {l with heap:=l.heap.push {cls:=.type "slice",data:=.fields #[.none,.none,n]}};refine tail_any (ops:=[.ref a,.ref l.heap.objs.size]) w.typeIs PyProof.Rows.slot_tuple_getitem.lookup ?_ (by with_unfolding_all rfl);refine HT.getItem_tuple_rev w y D ?_ (by rw[cO];lia);refine⟨.ref _,_,u.laid (t':=l.toks) (o:=.tup xs.reverse) (λb F q=>bp _ q) (bv _) ?_,rfl,B _ (u.hok.fresh (bv _))⟩;exact⟨by rw[List.length_reverse];exact t,_,r.reverse,Hd.new _ _⟩
def xI(d:af->R PV)(dk:af->R (Option Int)):af->R PV:=λh=>(d h).bind λx b=>(dk b).bind λk a=>match x,k with
 |.tup xs,aa (-1)=>.ok (.tup xs.reverse) a
 |_,_=>.no
theorem KH{dk:af->R (Option Int)}(B:DE X E e d)(A:DO X E (aa f) dk):DE X E (.Subscript e (.Slice ac ac (aa f) j) c) (xI d dk):=λF S s o H Q w h=>by
 refine cz (Qm ce yV) (B F S s o H _ w ((Ok.bind h).imp λx b M J K q N D v u=>?_));refine A M J b o K _ q ((Ok.bind D).imp λk r L I O z G n=>?_);have l:=u.grow G q.fit;split at n
 .obtain⟨a,t,rfl,C,y⟩:=l;refine⟨a,t,rfl,rfl,cG.of C,λp m=>?_⟩;exact n L I _ (z.al (Al.new0 m)) (Al.new0 m).grow _ ⟨p,_,rfl,cI,(Al.new0 m).reps y.rev⟩
 .exact n.elim
end
end Pu
namespace L2
open Mx
section
variable{X:Cx}
def Hb:R2:=λx y H Q=>∃s t:Tx,x=tV s/\y=tV t/\Q (.bl (decide (s<=t))) H
theorem LR:bR X (d_ .LtE) Hb:=by
 intro i s f H x y v u Q I d c h;obtain⟨a,b,rfl,rfl,q⟩:=h;obtain⟨t,rfl⟩:=d;obtain⟨g,rfl⟩:=c;refine PySem.P.le_str ?_;rw[kB,kB];have e:(!decide (b<a))=decide (a<=b):=by rw[ug];simp[List.not_lt]
 rw[e];exact⟨.bl _,H,I,rfl,q⟩
end
end L2
namespace Pu
open L2
section
variable{K:aw}
def qU:PV->PV->Option PV
 |.str x,.str y=>aa (.bl (decide (x<=y)))
 |_,_=>ac
theorem L6:P2 K Hb qU:=λF H x y v u Q pv b a e q=>by
 unfold qU at e;split at e
 .cases e;exact⟨_,_,b.1,a.1,q _ F H (Al.refl ..) rfl⟩
 .cases e
end
end Pu
namespace L2
theorem NJ(l:ae)(n:Nat)(f:Option ae)(b:Array (Option ai))(x:Int)(u:Tok)(c:(decide (x < -(2^63))||decide (x ≥ 2^63))=aj):Meets (Builtin.«tuple.__mul__» ⟨[.ref l,.int x u],[]⟩) (λ_ R s=>s.heap.get? l=aa {cls:=.type "tuple",dict:=f,data:=.seq #[] n,slots:=b}/\R (.ok (.ret (.ref l))) s) :=
 .of_wp λa w A R s h=>by
  obtain⟨m,g,d,i,j⟩:=s;obtain⟨o,h⟩:=h;have p:((#[]:Array ai).isEmpty||x == 1)=ah:=rfl
  wp_walk
  refine Cp (decide_eq_false (by rw[c];exact eQ)) ?_
  wp_walk
  exact⟨_,rfl,h⟩
section
variable{X:Cx}
def zQ(K:aw):R2:=λx y H Q=>∃a k,x=.ref a/\y=.int k/\cG K H a []/\2<=k/\k<=1000/\Q (.ref a) H
theorem Sx:bR X (gu .Mult) (zQ X.K):=by
 intro E s B H x y v u Q I o m h;obtain⟨l,k,rfl,rfl,w,D,C,q⟩:=h;cases o;obtain⟨t,rfl⟩:=m;obtain⟨b,r,p,_⟩:=I.tuple w;have A:b=[]:=pY r.length.symm;subst A;obtain⟨⟨z,g,i,c⟩,a,f,n,d⟩:=id p;simp only at f d;subst f d;refine HU (T:="tuple") (U:="int") (by decide) ⟨_,a,rfl⟩ (λj=>rE j k t) Pu.Ra F.fills_int_mul ux Pu.N8 F.slot_int_index.lookup
  (mZ ux (rE s k t) HV (HW _ _) (Pu.RD k t l #[] n g c) ⟨a,rfl,⟨_,a,rfl⟩,mZ RZ ⟨_,a,rfl⟩ F.entry_tuple_mul (F.args_tuple_mul_2 _ _) (NJ l n g c k t ?_) ⟨a,?_⟩⟩)
 .rw[decide_eq_false ∅,decide_eq_false ∅];rfl
 .exact⟨.ref l,H,I,rfl,q⟩
def y8(K:aw):R2:=λx y H Q=>∃a b c i n z d,x=.ref a/\y=.ref b/\H a=aa (.tup [.int i,.ref c])/\H c=aa (.tup d)/\H b=aa (.tup [.str z,.int n])/\Q (.bl aj) H
theorem PH(l:X.A.units+64<cLine):bR X (d_ .Eq) (y8 X.K):=by
 intro m s f H x y v u Q I r o h;obtain⟨a,b,c,i,n,z,G,rfl,rfl,F,D,E,q⟩:=h;refine CY l m s f H (.ref a) (.ref b) v u Q I r o ⟨a,b,_,_,0,λ_=>aj,rfl,rfl,.inr ⟨cG.of F,cG.of E⟩,∅,λj x y d g=>?_,q⟩
 match j with
 |0=>cases d;cases g;exact Du rfl rfl
 |1=>
  cases d;cases g;intro X J m f s u v A I B w l;cases B;obtain⟨t,rfl⟩:=w;obtain⟨C,_,p,_⟩:=I.tuple (cG.of D);exact .tuple_int _ _ p ∅
 |j+2=>simp at d
end
end L2
namespace Pu
open L2
section
variable{X:Cx}{K:aw}{E:XK}
def sH:PV->PV->Option PV
 |.tup [],.int k=>if 2<=k/\k<=1000 then aa (.tup [])else ac
 |x,y=>zE x y
theorem Nr:bR X (gu .Mult) (λx y H Q=>zQ X.K x y H Q\/wO X.K x y H Q):=Sx.or RI
theorem Ll:P2 K (λx y H Q=>zQ K x y H Q\/wO K x y H Q) sH:=λF H x y v u Q pv b c e q=>by
 unfold sH at e;split at e
 .split at e
  .rename_i k h;cases e;obtain⟨a,f,rfl,d,g⟩:=id b;rw[show f=[] from g]at d;exact .inl ⟨a,k,rfl,c,cG.of d,h.1,h.2,q _ F H (Al.refl ..) b⟩
  .cases e
 .exact .inr (Rc F H _ _ _ _ Q pv b c e q)
def o5:PV->PV->Option PV
 |.tup [.int _,.tup _],.tup [.str _,.int _]=>aa (.bl aj)
 |x,y=>eqT aj x y
theorem Gf(a:X.A.units+64<cLine):bR X (d_ .Eq) (λx y H Q=>y8 X.K x y H Q\/xa X.K x y H Q):=(PH a).or (lB a)
theorem FG:P2 K (λx y H Q=>y8 K x y H Q\/xa K x y H Q) o5:=λF H x y v u Q pv f d e q=>by
 unfold o5 at e;split at e
 .cases e;obtain⟨a,w,rfl,h,v1,_,rfl,r,v2,_,rfl,⟨c,i,rfl,p,_⟩,s⟩:=f;obtain⟨b,t,rfl,g,l,_,rfl,n,j,_,rfl,m,o⟩:=d;cases s;cases o;rw[show v1=V.int _ from r]at h;rw[show l=tV _ from n.1,show j=V.int _ from m]at g;exact .inl ⟨a,b,c,_,_,_,i,rfl,rfl,h,p,g,q _ F H (Al.refl ..) rfl⟩
 .exact .inr (lh F H _ _ _ _ Q pv f d e q)
def lG(c:List (af->R Slot))(d:af->R PV)(f:af->R (List bO)):af->R Slot:=λb=>(bu (d b)).bind λi a=>match i with
 |.int n=>match dU c n with
  |some g=>eB g f a
  |none=>.no
 |_=>.no
inductive lj(X:Cx):List az->List (af->R Slot)->List ae->Prop
 |nil:lj X [] [] []
 |cons {x:Str}{p:Pos}{k:Nat}{ps:List Str}{g:af->R Slot}{f:ae}{fd:fF}{xs:List az}{gs:List (af->R Slot)}{fs:List ae} (m:X.mg x=aa (.ref f)) (F:fR X.prog X.w X.K X.mg X.base (bD X.prog X.w) k f fd ps (bi X.K g)) (b:Binds X.K fd ps []) (kp:iS X.K (.ref f)=ah) (rm:cT k X.A) (hg:Gl X x) (hd:(x==("__debug__":Str))=aj) (r:lj X xs gs fs):lj X (.Name x p::xs) (g::gs) (f::fs)
theorem yG:∃fs,lj X [] [] fs:=⟨[],.nil⟩
theorem kc{x:Str}{p:Pos}{k:Nat}{h:List Str}{g:af->R Slot}{xs:List az}{a:List (af->R Slot)}(c:b_ (bD X.prog X.w) X.prog X.w X.K X.mg X.base x k h (bi X.K g))(d:cT k X.A)(r:∃fs,lj X xs a fs)(j:Gl X x:=by rfl)(l:(x==("__debug__":Str))=aj:=by decide):∃fs,lj X (.Name x p::xs) (g::a) fs:=by obtain⟨f,n,m,F,b,i⟩:=c.ex;obtain⟨fs,s⟩:=r;exact⟨f::fs,.cons m F b i d j l s⟩
def nY:List ae->af->R (List PV)
 |[]=>au
 |f::fs=>ak (dC (.raw (.ref f))) (nY fs)
theorem CZ(a:af):∀fs,nY fs a=.ok (fs.map λf=>.raw (.ref f)) a
 |[]=>rfl
 |f::fs=>by unfold nY ak;show(nY fs a).bind _=_;rw[CZ a fs];rfl
theorem lj.da{xs:List az}{f:List (af->R Slot)}{fs:List ae}(s:lj X xs f fs):DA X.nox E0 xs (nY fs):=by
 induction s with
 |nil=>exact aG
 |cons m F b h g c d r a=>exact ar (oq (X:=X.nox) m c d) a
theorem lj.at{xs:List az}{c:List (af->R Slot)}{fs:List ae}(s:lj X xs c fs):∀{j:Nat}{g:af->R Slot},c[j]?=aa g->∃f d k a,fs[j]?=aa f/\fR X.prog X.w X.K X.mg X.base (bD X.prog X.w) k f d a (bi X.K g)/\Binds X.K d a []/\iS X.K (.ref f)=ah/\cT k X.A:=by
 induction s with
 |nil=>intro j g h;simp at h
 |cons m F b l i o p r n=>
  intro j g h;cases j with
  |zero=>cases h;exact⟨_,_,_,_,rfl,F,b,l,i⟩
  |succ j=>exact n (by simpa using h)
theorem lj.len{xs:List az}{a:List (af->R Slot)}{fs:List ae}(s:lj X xs a fs):fs.length=a.length:=by
 induction s with
 |nil=>rfl
 |cons _ _ _ _ _ _ _ _ b=>simp[b]
theorem Ag{xs:List az}{d:List (af->R Slot)}{t:af->R PV}{A:af->R (List bO)}{x e:az}{r:List az}{P N q:Pos}(m:∃fs,lj X xs d fs)(hi:DE X.nox E0 x t)(ha:DG X.nox E0 (e::r) A)(hs:Aw x:=by exact λ_ _=>rfl)(hl:d.length<=1000:=by exact Nat.le_of_ble_eq_true rfl)(h1:aL (e::r) X.env=(aj,aQ e X.env)::aL r X.env:=by rfl) (h2:(cJ q (aL r X.env)).any (·.1)=aj:=by rfl):DX X (.Call (.Subscript (.List xs P) x N) (e::r) [] q) (lG d t A):=λF S p o H Q M rl h Z s I=>by
 obtain⟨fs,m⟩:=m;have hf:DE X.nox E0 (.Subscript (.List xs P) x N) (d2 bE (dF (dL bY (nY fs))) t):=eh eE eF (gh m.da) hi hs;unfold lG at h;cases y:t p with
 |no=>rw[y]at h;exact h.elim
 |er c G=>rw[y]at h;exact h.elim
 |ok i a=>
  rw[y]at h;cases i with
  |int n=>
   cases l:dU d n with
   |none=>replace h:Ok X.K (λc _ w=>M c w) o F S H (match dU d n with|aa g=>eB g A a|ac=>.no) _:=h;rw[l]at h;exact h.elim
   |some g=>
    replace h:Ok X.K (λc _ w=>M c w) o F S H (match dU d n with|aa g=>eB g A a|ac=>.no) _:=h;rw[l]at h;unfold dU at l;cases L:nX d.length n with
    |none=>rw[L]at l;cases l
    |some j=>
     rw[L]at l;obtain⟨f,fd,k,ps,ef,Fn,hb,hk,hr⟩:=m.at (show d[j]?=aa g from l)
     have hx:bE (.lst (fs.map λf=>.raw (.ref f))) (.int n)=aa (.raw (.ref f)):=by show dU (fs.map λf=>PV.raw (.ref f)) n=_;unfold dU;rw[c0,m.len,L];show(fs.map λf=>PV.raw (.ref f))[j]?=_;rw[iT,ef];rfl
     have hv:d2 bE (dF (dL bY (nY fs))) t p=.ok (.raw (.ref f)) a:=by unfold d2;rw[show dF (dL bY (nY fs)) p=.ok (.lst (fs.map λf=>.raw (.ref f))) p by unfold dF dL;rw[CZ,R.bind_ok,show bY (fs.map λf=>PV.raw (.ref f))=aa (.lst (fs.map λf=>.raw (.ref f)))from if_pos (by rw[c0,m.len];exact hl)];rfl,R.bind_ok,y,R.bind_ok,hx];rfl
     have wf:=(hf F S p o H (λv C=>v=.ref f/\∃D B,aP X.K D B a o C/\bC (U S) (U B) F D H C) rl (by rw[hv];exact λF' S' w O W v J=>⟨J,F',S',O,W⟩)).run Z s (I.wish _);refine aq (dw wf (λu s1 ⟨v,C,I1,J,ev,D,B,r1,T⟩=>?_) λ_ _ z=>z.elim);subst ev;obtain rfl:u=Value.ref f:=J;exact IF Fn hb hk hr ha h1 h2 D B a o C Q M r1 ((Ok.from h T).imp λsl G F' S' w O W hq v Sr rs Y=>hq v Sr rs λb z=>⟨iG T (Y b z).1,(Y b z).2⟩) Z s1 I1.unwish
  |_=>exact h.elim
end
end Pu
local macro_rules | `(tactic| simp! [$xs,*]) => `(tactic| simp [Pu.aF, Pu.br, Pu.dB, Pu.d2, Pu.d1, Pu.dV, Pu.dC, Pu.dL, Pu.dF, Pu.ak, Pu.au, Pu.bc, Pu.ff, Pu.bz, Pu.i8, Pu.aC, Pu.gV, Pu.gO, Pu.aW, Pu.cn, Pu.cC, Pu.bF, Pu.cb, Pu.cQ, Pu.R.bind, Pu.aR, Pu.bn, Pu.gc, Pu.bj, Pu.back, Pu.iI, Pu.lZ, Pu.pI, Pu.vD, Pu.q_, Pu.AM, Pu.aM, Pu.pw, Pu.bY, Pu.cF, Pu.bH, Pu.xw, Pu.fE, Pu.GG, Pu.cS, Pu.xf, Pu.gw, Pu.dz, Pu.jJ, Pu.Ft, Pu.fL, Pu.bx, Pu.fJ, Pu.ln, Pu.kA, Pu.sP, Pu.imm, Pu.qV, Pu.mq, a8, jx, $xs,*])
local macro_rules | `(tactic| and_intros) => `(tactic| (refine' Pu.Sm ?a ?l ?c ?k; (case a => k_is); (case l => k_is); (case c => k_is); (case k => k_is)))
namespace K01
open L2 Pu Sh
def cg(i:Nat):aT:=PySem.Challenge.pw_slitview_k01_views.main.body.getD i (.Pass ⟨0,0,0,0⟩)
def Ga(s:aT)(j:Nat):aT:=match s with
 |.ClassDef _ _ _ b _ _ _ _ _ _ _=>b.getD j (.Pass ⟨0,0,0,0⟩)
 |_=>.Pass ⟨0,0,0,0⟩
abbrev y_:aT:=cg 59
abbrev yP:aT:=cg 60
abbrev Ar:aT:=cg 61
abbrev Bt:aT:=cg 62
abbrev z9:aT:=cg 63
abbrev yR:aT:=cg 64
abbrev vJ:aT:=cg 15
abbrev Be:aT:=cg 17
abbrev BB:aT:=cg 23
abbrev zG:aT:=cg 16
abbrev BH:aT:=cg 18
abbrev BN:aT:=cg 24
abbrev zA:aT:=cg 27
abbrev v6:aT:=cg 26
abbrev zC:aT:=cg 28
abbrev yS:aT:=cg 33
abbrev A8:aT:=cg 19
abbrev vN:aT:=cg 20
abbrev AY:aT:=cg 21
abbrev AA:aT:=cg 22
abbrev BI:aT:=cg 25
abbrev zF:aT:=cg 46
abbrev zU:aT:=cg 67
abbrev zK:aT:=Ga (cg 57) 1
abbrev zu:aT:=Ga (cg 57) 0
abbrev xH:aT:=cg 34
abbrev AW:aT:=cg 55
abbrev zR:aT:=cg 49
abbrev zt:aT:=cg 48
abbrev xC:aT:=cg 50
abbrev Ae:aT:=cg 51
abbrev AH:aT:=cg 29
abbrev AB:aT:=cg 53
abbrev zy:aT:=cg 52
abbrev yQ:aT:=cg 38
abbrev BE:aT:=cg 41
abbrev Bo:aT:=cg 31
abbrev zj:aT:=cg 32
abbrev xl:aT:=cg 54
abbrev zD:aT:=cg 68
abbrev xO:aT:=cg 65
abbrev zz:aT:=cg 66
abbrev BF:aT:=cg 70
abbrev t9:aT:=cg 69
abbrev nD:aT:=cg 71
structure cc(K:aw)(mg:Str->Option ai)(base:aD)(a:Ad):Prop where
 yaE:bZ K mg "_law_cell_at" y_
 yaH:bZ K mg "_law_mixed" yP
 yaF:bZ K mg "_law_draw" Ar
 yaI:bZ K mg "_law_pick" Bt
 yaM:bZ K mg "_law_text" z9
 yaK:bZ K mg "_law_seen" yR
 yat:bZ K mg "has_only" vJ
 yaw:bZ K mg "is_text_up_to" Be
 yao:bZ K mg "check_text" BB
 yaz:bZ K mg "is_whole_number" zG
 yaA:bZ K mg "is_width" BH
 yaq:bZ K mg "check_width" BN
 yaZ:bZ K mg "view_of" zA
 yaQ:bZ K mg "pieces" v6
 yaT:bZ K mg "text_view" zC
 yak:bZ K mg "alike" yS
 yaB:bZ K mg "is_window" A8
 yal:bZ K mg "are_windows" vN
 yay:bZ K mg "is_view_with" AY
 yax:bZ K mg "is_view" AA
 yap:bZ K mg "check_view" BI
 yav:bZ K mg "is_bar" zF
 yaO:bZ K mg "_law_which" zU
 ybl:vM K a.Slit "windows" "Slit.windows" zK
 ya0:vQ K a.Slit "Slit.__init__" zu
 yaV:bZ K mg "turned" xH
 yaP:bZ K mg "least_width" AW
 yaj:bZ K mg "add_endings" zR
 yar:bZ K mg "counted" zt
 yaU:bZ K mg "texts" xC
 yau:bZ K mg "how_many" Ae
 yaX:bZ K mg "unrolled" AH
 yaS:bZ K mg "rings" AB
 yas:bZ K mg "first" zy
 yam:bZ K mg "balance" yQ
 yan:bZ K mg "bar" BE
 yaY:bZ K mg "view" Bo
 yaR:bZ K mg "ring_view" zj
 yaW:bZ K mg "twins" xl
 yaD:bZ K mg "_law_ask" zD
 yaJ:bZ K mg "_law_ring_seen" xO
 yaN:bZ K mg "_law_view" zz
 yaL:bZ K mg "_law_spoilt" BF
 yaG:bZ K mg "_law_is_view" t9
 yaC:bZ K mg "law" nD
 k_Slit:Cls K a.Slit
 ybg:kE K a.Slit "came"
 ybh:kE K a.Slit "width"
 ya1:mg "ValueError"=ac
 ya2:mg "all"=ac
 ya3:mg "any"=ac
 ya4:mg "bool"=ac
 ya5:mg "int"=ac
 ya6:mg "isinstance"=ac
 ya7:mg "len"=ac
 ya8:mg "list"=ac
 ya9:mg "min"=ac
 yba:mg "range"=ac
 ybb:mg "set"=ac
 ybc:mg "sorted"=ac
 ybd:mg "str"=ac
 ybe:mg "tuple"=ac
 ybf:mg "zip"=ac
 ybm:∃t,mg "LETTERS"=aa (.str (tS [97,98,99]) t)
 ybn:∃t,mg "MOST_LETTERS"=aa (.int 12 t)
 ybo:∃t,mg "MOST_WINDOWS"=aa (.int 9 t)
 ybp:∃t,mg "WIDEST"=aa (.int 4 t)
 yai:mg "SlitError"=aa (.ref a.SlitError)
 yac:mg "NoText"=aa (.ref a.NoText)
 yae:mg "NoWidth"=aa (.ref a.NoWidth)
 yad:mg "NoView"=aa (.ref a.NoView)
 yaf:mg "NoWindow"=aa (.ref a.NoWindow)
 yab:mg "Never"=aa (.ref a.Never)
 yaa:mg "Full"=aa (.ref a.Full)
 yag:mg "Nothing"=aa (.ref a.Nothing)
 yah:mg "Slit"=aa (.ref a.Slit)
 ybi:OwnCls "NoText" a.NoText [.type "ValueError",.type "Exception",.type "BaseException",.type "object"] "ValueError.__new__" mg base
 ybk:OwnCls "NoWidth" a.NoWidth [.type "ValueError",.type "Exception",.type "BaseException",.type "object"] "ValueError.__new__" mg base
 ybj:OwnCls "NoView" a.NoView [.type "ValueError",.type "Exception",.type "BaseException",.type "object"] "ValueError.__new__" mg base
 err_SlitError:qW base a.SlitError
 und:∀c,kZ a c=ah->Under base a.SlitError c
 tab:zP K (kr a)
section
variable{P:bb}{w:aS}{K:aw}{c:Str->Option ai}{b:aD}{a:Ad}
theorem OW:bK ["_law_script","_law_k"] ["_law_script","_law_k"] (aO y_):=by ac_nf
theorem Pe(G:cc K c b a):b_ (bD P w) P w K c b "_law_cell_at" 1 ["_law_script","_law_k"] (bi K (qG a)) :=
 cr (k:=0) (pin:=[]) G.yaE OW rfl (λ_ _ _ _ _ _ g i=>Pu.So (λ_ _=>rfl) g i) (λf j A d s H E h=>by exact
  (ba (dJ (cX qX eC (am 1) (bM dO dQ G.ya7 dI (ar (am 0) aG)) rfl) (bd (cB (eh eE eF (am 0) (am 1)))) dE)
  (ba (dJ (cX (lB h.units) lh (am 0) (gh aG) rfl) (bd (cB aE)) dE)
  (bd (cB (bB cW cV (bB n9 nU (eh eE eF (am 0) (bB sE uc (am 1) (bM dO dQ G.ya7 dI (ar (am 0) aG)))) aE) (am 1)))))))
def yaH(a:Ad):af->R aJ:=aF (bz 3 (d2 gx (d2 eM (d2 aU (d2 aU (aM (aC (qG a) (gV (dV 0) (gV (dV 1) (aW))))) (d2 eM (dC (.int 7919)) (dV 1))) (dC (.int 1))) (dC (.int 48271))) (dC (.int 2147483647))))
 (bc (d2 gx (d2 gx (d2 aU (d2 aU (d2 eM (dV 3) (dV 3)) (d2 eM (dC (.int 7)) (dV 3))) (dV 1)) (dC (.int 2147483629))) (dV 2)))
def xq(a:Ad):af->R Slot:=bn 3 [] (bj 1 (yaH a))
theorem NX:bK ["_law_script","_law_k","_law_many","_law_drawn"] ["_law_script","_law_k","_law_many"] (aO yP):=by ac_nf
theorem Ix(G:cc K c b a):b_ (bD P w) P w K c b "_law_mixed" 2 ["_law_script","_law_k","_law_many"] (bi K (xq a)) :=
 cr (k:=1) (pin:=[]) G.yaH NX rfl (λ_ _ _ _ _ _ g i=>Pu.SD (λ_ _ _=>rfl) g i) (λf j A d s H E h=>by exact
  (ba (c8 3 NX.nd (bB sE uc (bB n9 nU (bB cW cV (bB cW cV ((bh (Pe G) (h.mono (by decide)) bw (ay (am 0) (ay (am 1) aZ)))).de (bB n9 nU aE (am 1))) aE) aE) aE))
  (bd (cB (bB sE uc (bB sE uc (bB cW cV (bB cW cV (bB n9 nU (am 3) (am 3)) (bB n9 nU aE (am 3))) (am 1)) aE) (am 2))))))
def yaF(a:Ad):af->R aJ:=aF (ln 1 (dC (.int 0)))
 (ff (aC (xq a) (gV (dV 0) (gV (kA (λxs=>sP (aY xs)) 1) (gV (dV 2) (aW))))))
def d8(a:Ad):af->R Slot:=bn 3 [1] (bj 0 (yaF a))
theorem QU:bK ["_law_script","_law_town","_law_many"] ["_law_script","_law_town","_law_many"] (aO Ar):=by ac_nf
theorem k6(G:cc K c b a):b_ (bD P w) P w K c b "_law_draw" 3 ["_law_script","_law_town","_law_many"] (bi K (d8 a)) :=
 cr (k:=2) (pin:=[1]) G.yaF QU rfl (λ_ _ _ _ _ _ g i=>Pu.SD (λ_ _ _=>rfl) g i) (λf j A d s H E h=>by exact
  (ba (wy 1 aE)
  (bd (nH (bh (Ix G) (h.mono (by decide)) bw (ay (am 0) (ay (OU 1 dO dQ G.ya7 dI) (ay (am 2) aZ))))))))
def yaI(a:Ad):af->R aJ:=bc (d2 bE (dV 2) (aM (aC (d8 a) (gV (dV 0) (gO 1 (gV (dL aY (ak (dV 2) (au))) (aW)))))))
def gA(a:Ad):af->R Slot:=bn 3 [1] (bj 0 (yaI a))
theorem N1:bK ["_law_script","_law_town","_law_some"] ["_law_script","_law_town","_law_some"] (aO Bt):=by ac_nf
theorem pK(G:cc K c b a):b_ (bD P w) P w K c b "_law_pick" 4 ["_law_script","_law_town","_law_some"] (bi K (gA a)) :=
 cr (k:=3) (pin:=[1]) G.yaI N1 rfl (λ_ _ _ _ _ _ g i=>Pu.SD (λ_ _ _=>rfl) g i) (λf j A d s H E h=>by exact
  (bd (cB (eh eE eF (am 2) ((bh (k6 G) (h.mono (by decide)) bw (ay (am 0) (et 1 (ay (bM dO dQ G.ya7 dI (ar (am 2) aG)) aZ))))).de))))
def yaM(a:Ad):af->R aJ:=aF (bz 4 (aM (aC (gA a) (gV (dV 0) (gO 1 (gV (dF (dL bY (ak (dC (.int 1)) (ak (dC (.int 2)) (ak (dC (.int 2)) (ak (dC (.int 3)) (ak (dC (.int 3)) (ak (dC (.int 3)) (au))))))))) (aW)))))))
 (aF (bz 5 (dC (.str [])))
 (aF (λd=>eu (dm 6 (dL dX (ak (d2 aU (dV 2) (aM (aC (d8 a) (gV (dV 0) (gO 1 (gV (d2 aU (d2 fz (dV 3) (dV 2)) (dC (.int 1))) (aW))))))) (au))) (bz 5 (d2 aU (dV 5) (d2 bE (dC (.str [97,98,99])) (aM (aC (d8 a) (gV (dV 0) (gO 1 (gV (dV 4) (aW))))))))) d))
 (bc (dV 5))))
def qt(a:Ad):af->R Slot:=bn 4 [1] (bj 3 (yaM a))
theorem Rq:bK ["_law_script","_law_town","_law_low","_law_most","_law_few","_law_made","_law_k"] ["_law_script","_law_town","_law_low","_law_most"] (aO z9):=by ac_nf
theorem Ds(G:cc K c b a):b_ (bD P w) P w K c b "_law_text" 5 ["_law_script","_law_town","_law_low","_law_most"] (bi K (qt a)) :=
 cr (k:=4) (pin:=[1]) G.yaM Rq rfl (λ_ _ _ _ _ _ h i=>Pu.SS (λ_ _ _ _=>rfl) h i) (λf j A d s H E g=>by exact
  (ba (c8 4 Rq.nd ((bh (pK G) (g.mono (by decide)) bw (ay (am 0) (et 1 (ay (gh (ar aE (ar aE (ar aE (ar aE (ar aE (ar aE aG))))))) aZ))))).de)
  (ba (c8 5 Rq.nd (cN []))
  (ba (mj (kj 6 ni rfl Rq.nd (k_ G.yba (ar (bB cW cV (am 2) ((bh (k6 G) (g.mono (by decide)) iR (ay (am 0) (et 1 (ay (bB cW cV (bB l_ ma (am 3) (am 2)) aE) aZ))))).de) aG)) (bd (c8 5 Rq.nd (bB cW cV (am 5) (eh eE eF (cN [97,98,99]) ((bh (k6 G) (g.mono (by decide)) iR (ay (am 0) (et 1 (ay (am 4) aZ))))).de))))))
  (bd (cB (am 5)))))))
def yaK(a:Ad):af->R aJ:=aF (i8 2 (dL bY (au)))
 (aF (λd=>eu (dm 3 (dL dX (ak (dL aY (ak (dV 0) (au))) (au))) (br (dB (d2 (bx λi j=>decide (i<=j)) (d2 aU (dV 3) (dV 1)) (dL aY (ak (dV 0) (au))))) (ln 2 (bN b7 (dV 0) (bA (dV 3)) (bA (d2 aU (dV 3) (dV 1))))) (bH)) d))
 (bc (dL lu (ak (dF (kA (λxs=>qV (jV xs)) 2)) (au)))))
def qE(a:Ad):af->R Slot:=bn 2 [] (bj 2 (yaK a))
theorem Ql:bK ["_law_text_here","_law_width","_law_made","_law_at"] ["_law_text_here","_law_width"] (aO yR):=by ac_nf
theorem C4(G:cc K c b a):b_ (bD P w) P w K c b "_law_seen" 1 ["_law_text_here","_law_width"] (bi K (qE a)) :=
 cr (k:=0) (pin:=[]) G.yaK Ql rfl (λ_ _ _ _ _ _ g h=>Pu.So (λ_ _=>rfl) g h) (λf j A d s H E i=>by exact
  (ba (pC 2 Ql.nd (qy aG))
  (ba (mj (kj 3 ni rfl Ql.nd (k_ G.yba (ar (bM dO dQ G.ya7 dI (ar (am 0) aG)) aG)) (bd (dJ (cX iB eC (bB cW cV (am 3) (am 1)) (bM dO dQ G.ya7 dI (ar (am 0) aG)) rfl) (bd (wy 2 (gn iu gX (am 0) (eX (am 3)) (eX (bB cW cV (am 3) (am 1)))))) dE))))
  (bd (cB (xF wX w6 G.ybe li (ar (FH 2 sy sO G.ybc qL).de aG)))))))
theorem Ke:bK ["text","signs"] ["text","signs"] (aO vJ):=by ac_nf
theorem Fy(G:cc K c b a):b_ (bD P w) P w K c b "has_only" 1 ["text","signs"] (bi K (tZ a)) :=
 cr (k:=0) (pin:=[]) G.yat Ke rfl (λ_ _ _ _ _ _ i l=>Pu.So (λ_ _=>rfl) i l) (λf o A h s H E n=>by exact
  (bd (cB (bM (xj rfl) xR G.ya2 xE (ar (jI (cap:=[1]) (N':=["sign","signs"]) (jo.of ["text","signs"] (aO vJ) rfl rfl (by decide +kernel)) rfl (j0 (am 0)) (λC d g m j=>by exact jL) (λC d g m j=>by exact(pJ Gq CO (am 0) (am 1) rfl))).de aG)))))
theorem Jn:bK ["thing","most"] ["thing","most"] (aO Be):=by ac_nf
theorem Q5(G:cc K c b a):b_ (bD P w) P w K c b "is_text_up_to" 2 ["thing","most"] (bi K (i_ a)) :=
 cr (k:=1) (pin:=[]) G.yaw Jn rfl (λ_ _ _ _ _ _ g i=>Pu.So (λ_ _=>rfl) g i) (λf j A d s H E h=>by exact
  (bd (cB (pG (bM iC iJ G.ya6 fo (ar (am 0) (ar (iF G.ybd Ab) aG))) (pG (GP iB iB eC eC aE (bM dO dQ G.ya7 dI (ar (am 0) aG)) (am 1)) (sr ((bh (Fy G) (h.mono (by decide)) bw (ay (am 0) (ay (Bi G.ybm) aZ)))).de))))))
theorem NS:bK ["thing"] ["thing"] (aO BB):=by ac_nf
theorem xK(G:cc K c b a):b_ (bD P w) P w K c b "check_text" 3 ["thing"] (bi K (iq a)) :=
 cr (k:=2) (pin:=[]) G.yao NS rfl (λ_ _ _ _ _ _ g i=>Pu.SH (λ_=>rfl) g i) (λf j A d s H E h=>by exact
  (bd (dJ (gP (gZ ((bh (Q5 G) (h.mono (by decide)) bw (ay (am 0) (ay (tT G.ybn) aZ)))).de)) (bd (tD sB rfl G.ybi yu (cN [97,32,116,101,120,116,32,104,97,115,32,49,32,116,111,32,49,50,32,108,101,116,116,101,114,115,32,97,44,32,98,44,32,99]))) dE)))
theorem L7:bK ["thing"] ["thing"] (aO zG):=by ac_nf
theorem J3(G:cc K c b a):b_ (bD P w) P w K c b "is_whole_number" 1 ["thing"] (bi K (jk a)) :=
 cr (k:=0) (pin:=[]) G.yaz L7 rfl (λ_ _ _ _ _ _ g h=>Pu.SH (λ_=>rfl) g h) (λf j A d s H E i=>by exact
  (bd (cB (pG (bM iC iJ G.ya6 fo (ar (am 0) (ar (iF G.ya5 AD) aG))) (sr (Pw (bM iC iJ G.ya6 fo (ar (am 0) (ar (iF G.ya4 FA) aG)))))))))
theorem QC:bK ["thing"] ["thing"] (aO BH):=by ac_nf
theorem Ex(G:cc K c b a):b_ (bD P w) P w K c b "is_width" 2 ["thing"] (bi K (kD a)) :=
 cr (k:=1) (pin:=[]) G.yaA QC rfl (λ_ _ _ _ _ _ g i=>Pu.SH (λ_=>rfl) g i) (λf j A d s H E h=>by exact
  (bd (cB (pG ((bh (J3 G) (h.mono (by decide)) bw (ay (am 0) aZ))).de (sr (GP iB iB eC eC aE (am 0) (tT G.ybp)))))))
theorem IC:bK ["thing"] ["thing"] (aO BN):=by ac_nf
theorem Bq(G:cc K c b a):b_ (bD P w) P w K c b "check_width" 3 ["thing"] (bi K (iO a)) :=
 cr (k:=2) (pin:=[]) G.yaq IC rfl (λ_ _ _ _ _ _ g i=>Pu.SH (λ_=>rfl) g i) (λf j A d s H E h=>by exact
  (bd (dJ (gP (gZ ((bh (Ex G) (h.mono (by decide)) bw (ay (am 0) aZ))).de)) (bd (tD sB rfl G.ybk yu (cN [97,32,119,105,100,116,104,32,105,115,32,97,32,119,104,111,108,101,32,110,117,109,98,101,114,32,102,114,111,109,32,49,32,116,111,32,52]))) dE)))
theorem Qz:bK ["width","windows"] ["width","windows"] (aO zA):=by ac_nf
theorem DK(G:cc K c b a):b_ (bD P w) P w K c b "view_of" 1 ["width","windows"] (bi K (oG a)) :=
 cr (k:=0) (pin:=[]) G.yaZ Qz rfl (λ_ _ _ _ _ _ g h=>Pu.So (λ_ _=>rfl) g h) (λf j A d s H E i=>by exact
  (ba (dJ (gP (sI iB iB eC eC aE (bM dO dQ G.ya7 dI (ar (am 1) aG)) (tT G.ybo))) (bd (tD sB rfl G.ybj yu (cN [97,32,118,105,101,119,32,104,97,115,32,49,32,116,111,32,57,32,119,105,110,100,111,119,115]))) dE)
  (bd (cB (fK (ar (am 0) (ar (xF wX w6 G.ybe li (ar (zh sy sO G.ybc qL (ar (am 1) aG)).de aG)) aG)))))))
theorem Qu:bK ["text","length"] ["text","length"] (aO v6):=by ac_nf
theorem GS(G:cc K c b a):b_ (bD P w) P w K c b "pieces" 1 ["text","length"] (bi K (mJ a)) :=
 cr (k:=0) (pin:=[]) G.yaQ Qu rfl (λ_ _ _ _ _ _ i l=>Pu.So (λ_ _=>rfl) i l) (λf o A h s H E n=>by exact
  (bd (EL (jI (cap:=[0,1]) (N':=["place","text","length"]) (jo.of ["text","length"] (aO v6) rfl rfl (by decide +kernel)) rfl (k_ G.yba (ar (bB cW cV (bB l_ ma (bM dO dQ G.ya7 dI (ar (am 0) aG)) (am 1)) aE) aG)) (λC d g m j=>by exact jL) (λC d g m j=>by exact(gn iu gX (am 1) (eX (am 0)) (eX (bB cW cV (am 0) (am 2)))))))))
theorem Jt:bK ["text","width"] ["text","width"] (aO zC):=by ac_nf
theorem wN(G:cc K c b a):b_ (bD P w) P w K c b "text_view" 4 ["text","width"] (bi K (fD a)) :=
 cr (k:=3) (pin:=[]) G.yaT Jt rfl (λ_ _ _ _ _ _ h i=>Pu.So (λ_ _=>rfl) h i) (λf j A g s H E d=>by exact
  (ba (jj (bh (xK G) (d.mono (by decide)) bw (ay (am 0) aZ)))
  (ba (jj (bh (Bq G) (d.mono (by decide)) bw (ay (am 1) aZ)))
  (bd (nH (bh (DK G) (d.mono (by decide)) bw (ay (am 1) (ay ((bh (GS G) (d.mono (by decide)) bw (ay (am 0) (ay (am 1) aZ)))).de aZ))))))))
theorem LS:bK ["one","other","width","first_view"] ["one","other","width"] (aO yS):=by ac_nf
theorem FS(G:cc K c b a):b_ (bD P w) P w K c b "alike" 5 ["one","other","width"] (bi K (ka a)) :=
 cr (k:=4) (pin:=[]) G.yak LS rfl (λ_ _ _ _ _ _ h i=>Pu.SD (λ_ _ _=>rfl) h i) (λf j A d s H E g=>by exact
  (ba (c8 3 LS.nd ((bh (wN G) (g.mono (by decide)) bw (ay (am 0) (ay (am 2) aZ)))).de)
  (bd (cB (pJ (lB g.units) lh (am 3) ((bh (wN G) (g.mono (by decide)) bw (ay (am 1) (ay (am 2) aZ)))).de rfl)))))
theorem Ki:bK ["thing","width","signs"] ["thing","width","signs"] (aO A8):=by ac_nf
theorem LI(G:cc K c b a):b_ (bD P w) P w K c b "is_window" 2 ["thing","width","signs"] (bi K (ou a)) :=
 cr (k:=1) (pin:=[]) G.yaB Ki rfl (λ_ _ _ _ _ _ h i=>Pu.SD (λ_ _ _=>rfl) h i) (λf j A d s H E g=>by exact
  (bd (cB (pG (bM iC iJ G.ya6 fo (ar (am 0) (ar (iF G.ybd Ab) aG))) (pG (pJ (lB g.units) lh (bM dO dQ G.ya7 dI (ar (am 0) aG)) (am 1) rfl) (sr ((bh (Fy G) (g.mono (by decide)) bw (ay (am 0) (ay (am 2) aZ)))).de))))))
theorem PB:bK ["thing","width","signs"] ["thing","width","signs"] (aO vN):=by ac_nf
theorem MB(G:cc K c b a):b_ (bD P w) P w K c b "are_windows" 3 ["thing","width","signs"] (bi K (lv a)) :=
 cr (k:=2) (pin:=[]) G.yal PB rfl (λ_ _ _ _ _ _ j m=>Pu.SD (λ_ _ _=>rfl) j m) (λf o A h s H E i=>by exact
  (ba (dJ ((jK (gP (gZ (bM iC iJ G.ya6 fo (ar (am 0) (ar (iF G.ybe li) aG))))) (nJ (gP (sI iB iB eC eC aE (bM dO dQ G.ya7 dI (ar (am 0) aG)) (tT G.ybo)))))).dt (bd (cB gB)) dE)
  (ba (dJ (gP (gZ (bM (xj rfl) xR G.ya2 xE (ar (jI (cap:=[1,2]) (N':=["window","width","signs"]) (jo.of ["thing","width","signs"] (aO vN) rfl rfl (by decide +kernel)) rfl (j0 (am 0)) (λC d g n l=>by exact jL) (λC d g n l=>by exact((bh (LI G) (i.mono (by decide)) iR (ay (am 0) (ay (am 1) (ay (am 2) aZ))))).de)).de aG)))) (bd (cB gB)) dE)
  (bd (cB (pJ (lB i.units) lh (v_ xD wB G.ya8 vG (ar (am 0) aG)).de (zh sy sO G.ybc qL (ar (am 0) aG)).de rfl))))))
theorem IK:bK ["thing","signs"] ["thing","signs"] (aO AY):=by ac_nf
theorem Kj(G:cc K c b a):b_ (bD P w) P w K c b "is_view_with" 4 ["thing","signs"] (bi K (iK a)) :=
 cr (k:=3) (pin:=[]) G.yay IK rfl (λ_ _ _ _ _ _ h i=>Pu.So (λ_ _=>rfl) h i) (λf j A d s H E g=>by exact
  (ba (dJ ((jK (gP (gZ (bM iC iJ G.ya6 fo (ar (am 0) (ar (iF G.ybe li) aG))))) (nJ (cX (iE g.units) iM (bM dO dQ G.ya7 dI (ar (am 0) aG)) aE rfl)))).dt (bd (cB gB)) dE)
  (bd (cB (pG ((bh (Ex G) (g.mono (by decide)) bw (ay (eh eE eF (am 0) aE) aZ))).de (sr ((bh (MB G) (g.mono (by decide)) bw (ay (eh eE eF (am 0) aE) (ay (eh eE eF (am 0) aE) (ay (am 1) aZ))))).de))))))
theorem JI:bK ["thing"] ["thing"] (aO AA):=by ac_nf
theorem Px(G:cc K c b a):b_ (bD P w) P w K c b "is_view" 5 ["thing"] (bi K (kt a)) :=
 cr (k:=4) (pin:=[]) G.yax JI rfl (λ_ _ _ _ _ _ g i=>Pu.SH (λ_=>rfl) g i) (λf j A d s H E h=>by exact
  (bd (nH (bh (Kj G) (h.mono (by decide)) bw (ay (am 0) (ay (Bi G.ybm) aZ))))))
theorem Ru:bK ["thing"] ["thing"] (aO BI):=by ac_nf
theorem wZ(G:cc K c b a):b_ (bD P w) P w K c b "check_view" 6 ["thing"] (bi K (kh a)) :=
 cr (k:=5) (pin:=[]) G.yap Ru rfl (λ_ _ _ _ _ _ g i=>Pu.SH (λ_=>rfl) g i) (λf j A d s H E h=>by exact
  (bd (dJ (gP (gZ ((bh (Px G) (h.mono (by decide)) bw (ay (am 0) aZ))).de)) (bd (tD sB rfl G.ybj yu (cN [97,32,118,105,101,119,32,105,115,32,97,32,116,117,112,108,101,32,111,102,32,97,32,119,105,100,116,104,32,97,110,100,32,97,32,114,105,115,105,110,103,32,116,117,112,108,101,32,111,102,32,49,32,116,111,32,57,32,119,105,110,100,111,119,115]))) dE)))
def yav(a:Ad):af->R aJ:=aF (fE (aC (kh a) (gV (dV 0) (aW))))
 (mv)
def sL(a:Ad):af->R Slot:=bn 2 [] (bj 1 (yav a))
theorem RK:bK ["view","thing","windows"] ["view","thing"] (aO zF):=by ac_nf
theorem Nl(G:cc K c b a):b_ (bD P w) P w K c b "is_bar" 7 ["view","thing"] (bi K (sL a)) :=
 cr (k:=6) (pin:=[]) G.yav RK rfl (λ_ _ _ _ _ _ g i=>Pu.So (λ_ _=>rfl) g i) (λf j A d s H E h=>by exact
  (ba (jj (bh (wZ G) (h.mono (by decide)) bw (ay (am 0) aZ)))
  oB))
def yaO(a:Ad):af->R aJ:=aF (i8 1 (dL bY (ak (dL (k8 (kr a)) (ak (dV 0) (ak (dC (.raw (.ref a.NoText))) (au)))) (ak (dL (k8 (kr a)) (ak (dV 0) (ak (dC (.raw (.ref a.NoWidth))) (au)))) (ak (dL (k8 (kr a)) (ak (dV 0) (ak (dC (.raw (.ref a.NoView))) (au)))) (ak (dL (k8 (kr a)) (ak (dV 0) (ak (dC (.raw (.ref a.NoWindow))) (au)))) (au)))))))
 (aF (AF 1 (dF (dL bY (ak (dL (k8 (kr a)) (ak (dV 0) (ak (dC (.raw (.ref a.Never))) (au)))) (ak (dL (k8 (kr a)) (ak (dV 0) (ak (dC (.raw (.ref a.Full))) (au)))) (ak (dL (k8 (kr a)) (ak (dV 0) (ak (dC (.raw (.ref a.Nothing))) (au)))) (au)))))))
 (aF (br (dz (dB (d2 (eqT ah) (qJ zY 1 (dC (.bl ah))) (dC (.int 1)))) (cS (dB (dL (k8 (kr a)) (ak (dV 0) (ak (dC (.raw (.ty "ValueError"))) (au))))))) (bc (dL cF (ak (dC (.str [114,101,102,117,115,101,100])) (ak (d1 il (dC (.int 1))) (au))))) (bH))
 (bc (dL cF (ak (dC (.str [114,101,102,117,115,101,100])) (ak (qJ AU 1 (dC (.bl ah))) (au)))))))
def jX(a:Ad):af->R Slot:=bn 1 [] (bj 1 (yaO a))
theorem Kq:bK ["_law_e","_law_own"] ["_law_e"] (aO zU):=by ac_nf
theorem L8(G:cc K c b a):vL P w K c b "_law_which" 1 ["_law_e"] (bi K (jX a)) :=
 Ky (k:=0) (pin:=[]) G.yaO Kq rfl (λ_ _ _ _ _ _ g i=>Pu.SH (λ_=>rfl) g i) (λf j A d s H h=>by exact
  (ba (pC 1 Kq.nd (qy (ar (bM ot (n6 G.tab) G.ya6 fo (ar (am 0) (ar (oq G.yac) aG))) (ar (bM ot (n6 G.tab) G.ya6 fo (ar (am 0) (ar (oq G.yae) aG))) (ar (bM ot (n6 G.tab) G.ya6 fo (ar (am 0) (ar (oq G.yad) aG))) (ar (bM ot (n6 G.tab) G.ya6 fo (ar (am 0) (ar (oq G.yaf) aG))) aG))))))
  (ba (Mp 1 (gh (ar (bM ot (n6 G.tab) G.ya6 fo (ar (am 0) (ar (oq G.yab) aG))) (ar (bM ot (n6 G.tab) G.ya6 fo (ar (am 0) (ar (oq G.yaa) aG))) (ar (bM ot (n6 G.tab) G.ya6 fo (ar (am 0) (ar (oq G.yag) aG))) aG)))))
  (ba (dJ ((jK (cX (iE h.units) iM (K3 1 gB) aE rfl) (nJ (gP (gZ (bM ot (n6 G.tab) G.ya6 fo (ar (am 0) (ar (iF G.ya1 PD) aG)))))))).dt (bd (cB (fK (ar (cN [114,101,102,117,115,101,100]) (ar (qM qB re aE) aG))))) dE)
  (bd (cB (fK (ar (cN [114,101,102,117,115,101,100]) (ar (JE 1 gB) aG)))))))))
def JZ(a:Ad):af->R aJ:=bc (dF (dL lw (ak (zb a.Slit 0 "came") (au))))
def yI(a:Ad):af->R Slot:=bn 1 [0] (bj 0 (JZ a))
theorem QA:bK ["self"] ["self"] (aO zK):=by ac_nf
theorem ML(G:cc K c b a):Ai (bD P w) P w K c b a.Slit "windows" 1 ["self"] (bi K (yI a)) :=
 Js (k:=0) (pin:=[0]) G.ybl QA rfl (λ_ _ _ _ _ _ g h=>Pu.SH (λ_=>rfl) g h) (λf j A d s H E i=>by exact
  (bd (cB (v_ xD wB G.ya8 vG (ar (Pg 0 G.k_Slit G.ybg) aG)).de)))
def Av(a:Ad):af->R aJ:=aF (fE (aC (iO a) (gV (dV 1) (aW))))
 (aF (zB a.Slit 0 "width" (dV 1))
 (zB a.Slit 0 "came" (dF (dL bY (au)))))
def tY(a:Ad):af->R Slot:=bn 2 [0] (bj 0 (Av a))
theorem Pj:bK ["self","width"] ["self","width"] (aO zu):=by ac_nf
theorem N9(G:cc K c b a):BJ (bD P w) P w K c b a.Slit 4 ["self","width"] (bi K (tY a)) :=
 LC (k:=3) (pin:=[0]) G.ya0 Pj rfl (λ_ _ _ _ _ _ g i=>Pu.So (λ_ _=>rfl) g i) (λf j A d s H E h=>by exact
  (ba (jj (bh (Bq G) (h.mono (by decide)) bw (ay (am 1) aZ)))
  (ba (E1 0 G.k_Slit G.ybh (am 1))
  (bd (E1 0 G.k_Slit G.ybg (gh aG))))))
theorem LD:bK ["text"] ["text"] (aO xH):=by ac_nf
theorem Fe(G:cc K c b a):b_ (bD P w) P w K c b "turned" 4 ["text"] (bi K (mr a)) :=
 cr (k:=3) (pin:=[]) G.yaV LD rfl (λ_ _ _ _ _ _ i m=>Pu.SH (λ_=>rfl) i m) (λf o A h s H E l=>by exact
  (ba (jj (bh (xK G) (l.mono (by decide)) bw (ay (am 0) aZ)))
  (bd (cB (bM (Dp rfl) E4 G.ya9 CH (ar (jI (cap:=[0]) (N':=["place","text"]) (jo.of ["text"] (aO xH) rfl rfl (by decide +kernel)) rfl (k_ G.yba (ar (bM dO dQ G.ya7 dI (ar (am 0) aG)) aG)) (λC d g n j=>by exact jL) (λC d g n j=>by exact(bB cW cV (gn iu gX (am 1) (eX (am 0)) io) (gn iu gX (am 1) io (eX (am 0)))))).de aG))))))
def yaP(a:Ad):af->R aJ:=aF (fE (aC (iq a) (gV (dV 0) (aW))))
 (aF (br (dB (d2 (bx λi j=>decide (j<i)) (dL aY (ak (dV 0) (au))) (dC (.int 9)))) (ke (.ref a.NoView) (λd=>bu ((dC (.str [116,104,101,32,116,101,120,116,32,104,97,115,32,109,111,114,101,32,116,104,97,110,32,57,32,119,105,110,100,111,119,115,32,111,102,32,119,105,100,116,104,32,49])) d))) (bH))
 (mv))
def qz(a:Ad):af->R Slot:=bn 1 [] (bj 1 (yaP a))
theorem K8:bK ["text","width"] ["text"] (aO AW):=by ac_nf
theorem OZ(G:cc K c b a):b_ (bD P w) P w K c b "least_width" 4 ["text"] (bi K (qz a)) :=
 cr (k:=3) (pin:=[]) G.yaP K8 rfl (λ_ _ _ _ _ _ g i=>Pu.SH (λ_=>rfl) g i) (λf j A d s H E h=>by exact
  (ba (jj (bh (xK G) (h.mono (by decide)) bw (ay (am 0) aZ)))
  (ba (dJ (cX vX eC (bM dO dQ G.ya7 dI (ar (am 0) aG)) (tT G.ybo) rfl) (bd (tD sB rfl G.ybj yu (cN [116,104,101,32,116,101,120,116,32,104,97,115,32,109,111,114,101,32,116,104,97,110,32,57,32,119,105,110,100,111,119,115,32,111,102,32,119,105,100,116,104,32,49]))) dE)
  oB)))
theorem Dl:bK ["text","width","left","found","head","letter","window"] ["text","width","left","found"] (aO zR):=by ac_nf
theorem MV(G:cc K c b a)(m:Nat):b_ (bD P w) P w K c b "add_endings" (1+m) ["text","width","left","found"] (bi K (oA a m)):=by
 induction m with
 |zero=>exact cr (k:=0) (pin:=[2,3]) G.yaj Dl rfl (λ_ _ _ _ _ _ h i=>Pu.SS (λ_ _ _ _=>rfl) h i) (λf l A d s H E g=>oB)
 |succ m j=>exact cr (k:=1+m) (pin:=[2,3]) G.yaj Dl rfl (λ_ _ _ _ _ _ h i=>Pu.SS (λ_ _ _ _=>rfl) h i) (λf l A d s H E g=>by exact
  (ba (dJ (gP (gZ (ND 2 rfl G.ya3))) (ba (wy 3 (am 0))
  (bd QT)) dE)
  (ba (c8 4 Dl.nd (gn iu gX (am 0) (eX (bB cW cV (bB l_ ma (bM dO dQ G.ya7 dI (ar (am 0) aG)) (am 1)) aE)) io))
  (bd (mj (kj 5 ni rfl Dl.nd (j0 (Bi G.ybm)) (ba (c8 6 Dl.nd (bB cW cV (am 4) (am 5)))
  (bd (dJ (cX vX eC (F6 2 g.units (am 6) aE) aE rfl) (ba (xy 2 g.units (am 6) (bB l_ ma (EF 2 g.units (am 6)) aE))
  (ba (jj (bh j (g.mono ∅) iR (ay (bB cW cV (am 0) (am 5)) (ay (am 1) (et 2 (et 3 aZ))))))
  (bd (xy 2 g.units (am 6) (bB cW cV (EF 2 g.units (am 6)) aE))))) dE)))))))))
theorem Jo:bK ["windows","counts","window"] ["windows"] (aO zt):=by ac_nf
theorem KP(G:cc K c b a):b_ (bD P w) P w K c b "counted" 1 ["windows"] (bi K (t_ a)) :=
 cr (k:=0) (pin:=[]) G.yar Jo rfl (λ_ _ _ _ _ _ h i=>Pu.SH (λ_=>rfl) h i) (λf j A d s H E g=>by exact
  (ba (pC 1 Jo.nd (DB))
  (ba (mj (kj 2 ni rfl Jo.nd (j0 (am 0)) (bd (xy 1 g.units (am 2) (bB cW cV (F6 1 g.units (am 2) aE) aE)))))
  (bd (FE 1)))))
theorem Rx:bK ["view","width","found","head"] ["view"] (aO xC):=by ac_nf
theorem sw(G:cc K c b a):b_ (bD P w) P w K c b "texts" 14 ["view"] (bi K (iP a)) :=
 cr (k:=13) (pin:=[]) G.yaU Rx rfl (λ_ _ _ _ _ _ j m=>Pu.SH (λ_=>rfl) j m) (λf o A h s H E i=>by exact
  (ba (jj (bh (wZ G) (i.mono (by decide)) bw (ay (am 0) aZ)))
  (ba (c8 1 Rx.nd (eh eE eF (am 0) aE))
  (ba (pC 2 Rx.nd (qy aG))
  (ba (mj (kj 3 ni rfl Rx.nd (j0 (MO rfl (ar (jI (cap:=[]) (N':=["window"]) (jo.of ["view","width","found","head"] (aO xC) rfl rfl (by decide +kernel)) rfl (j0 (eh eE eF (am 0) aE)) (λC d g n l=>by exact jL) (λC d g n l=>by exact(gn iu gX (am 0) io (eX (qM qB re aE))))).de aG) G.ybc G.ybb).de) (bd (jj (PJ (MV G 12) (i.mono (by decide)) iR (C8 (am 3) (C8 (am 1) (Lk (((bh (KP G) (i.mono (by decide)) iR (ay (eh eE eF (am 0) aE) aZ))).dn) (et 2 aZ)))))))))
  (bd (FE 2)))))))
theorem Ov:bK ["view"] ["view"] (aO Ae):=by ac_nf
theorem Kx(G:cc K c b a):b_ (bD P w) P w K c b "how_many" 15 ["view"] (bi K (n5 a)) :=
 cr (k:=14) (pin:=[]) G.yau Ov rfl (λ_ _ _ _ _ _ g i=>Pu.SH (λ_=>rfl) g i) (λf j A d s H E h=>by exact
  (bd (cB (bM dO dQ G.ya7 dI (ar ((bh (sw G) (h.mono (by decide)) bw (ay (am 0) aZ))).de aG)))))
theorem Kv:bK ["ring","width"] ["ring","width"] (aO AH):=by ac_nf
theorem Eh(G:cc K c b a):b_ (bD P w) P w K c b "unrolled" 1 ["ring","width"] (bi K (sF a)) :=
 cr (k:=0) (pin:=[]) G.yaX Kv rfl (λ_ _ _ _ _ _ g h=>Pu.So (λ_ _=>rfl) g h) (λf j A d s H E i=>by exact
  (bd (cB (gn iu gX (bB n9 nU (am 0) (am 1)) io (eX (bB l_ ma (bB cW cV (bM dO dQ G.ya7 dI (ar (am 0) aG)) (am 1)) aE))))))
def yaS(a:Ad):af->R aJ:=aF (i8 1 (sY))
 (aF (dm 2 (cL (aM (aC (iP a) (gV (dV 0) (aW))))) (aF (bz 3 (bN b7 (dV 2) (b8) (bA (dL aY (ak (d2 bE (dV 0) (dC (.int 1))) (au))))))
 (br (dB (d2 (eqT aj) (aM (aC (sF a) (gV (dV 3) (gV (d2 bE (dV 0) (dC (.int 0))) (aW))))) (dV 2))) (kY 1 (aM (aC (mr a) (gV (dV 3) (aW)))) (dC (.bl ah))) (bH))))
 (mv))
def sJ(a:Ad):af->R Slot:=bn 1 [] (bj 3 (yaS a))
theorem Jy:bK ["view","found","text","ring"] ["view"] (aO AB):=by ac_nf
theorem O0(G:cc K c b a):b_ (bD P w) P w K c b "rings" 15 ["view"] (bi K (sJ a)) :=
 cr (k:=14) (pin:=[]) G.yaS Jy rfl (λ_ _ _ _ _ _ h i=>Pu.SH (λ_=>rfl) h i) (λf j A g s H E d=>by exact
  (ba (pC 1 Jy.nd (DB))
  (ba (kj 2 PassesOwn.leaving rfl Jy.nd (j0 ((bh (sw G) (d.mono (by decide)) bw (ay (am 0) aZ))).de) (ba (c8 3 Jy.nd (gn iu gX (am 2) io (eX (bM dO dQ G.ya7 dI (ar (eh eE eF (am 0) aE) aG)))))
  (bd (dJ (cX (lB d.units) lh ((bh (Eh G) (d.mono (by decide)) bw (ay (am 3) (ay (eh eE eF (am 0) aE) aZ)))).de (am 2) rfl) (bd (xy 1 d.units ((bh (Fe G) (d.mono (by decide)) bw (ay (am 3) aZ))).de gB)) dE))))
  oB)))
def yas(a:Ad):af->R aJ:=aF (bz 1 (aM (aC (iP a) (gV (dV 0) (aW)))))
 (mv)
def tU(a:Ad):af->R Slot:=bn 1 [] (bj 1 (yas a))
theorem Mh:bK ["view","rising"] ["view"] (aO zy):=by ac_nf
theorem QQ(G:cc K c b a):b_ (bD P w) P w K c b "first" 15 ["view"] (bi K (tU a)) :=
 cr (k:=14) (pin:=[]) G.yas Mh rfl (λ_ _ _ _ _ _ g i=>Pu.SH (λ_=>rfl) g i) (λf j A d s H E h=>by exact
  (ba (c8 1 Mh.nd ((bh (sw G) (h.mono (by decide)) bw (ay (am 0) aZ))).de)
  oB))
def yam(a:Ad):af->R aJ:=aF (fE (aC (kh a) (gV (dV 0) (aW))))
 (mv)
def sj(a:Ad):af->R Slot:=bn 1 [] (bj 1 (yam a))
theorem Rv:bK ["view","excess"] ["view"] (aO yQ):=by ac_nf
theorem Nq(G:cc K c b a):b_ (bD P w) P w K c b "balance" 7 ["view"] (bi K (sj a)) :=
 cr (k:=6) (pin:=[]) G.yam Rv rfl (λ_ _ _ _ _ _ g i=>Pu.SH (λ_=>rfl) g i) (λf j A d s H E h=>by exact
  (ba (jj (bh (wZ G) (h.mono (by decide)) bw (ay (am 0) aZ)))
  oB))
def yan(a:Ad):af->R aJ:=aF (fE (aC (kh a) (gV (dV 0) (aW))))
 (mv)
def sA(a:Ad):af->R Slot:=bn 1 [] (bj 0 (yan a))
theorem N4:bK ["view"] ["view"] (aO BE):=by ac_nf
theorem OI(G:cc K c b a):b_ (bD P w) P w K c b "bar" 7 ["view"] (bi K (sA a)) :=
 cr (k:=6) (pin:=[]) G.yan N4 rfl (λ_ _ _ _ _ _ g i=>Pu.SH (λ_=>rfl) g i) (λf j A d s H E h=>by exact
  (ba (jj (bh (wZ G) (h.mono (by decide)) bw (ay (am 0) aZ)))
  oB))
theorem PR:bK ["text","width"] ["text","width"] (aO Bo):=by ac_nf
theorem Qi(G:cc K c b a):b_ (bD P w) P w K c b "view" 5 ["text","width"] (bi K (mK a)) :=
 cr (k:=4) (pin:=[]) G.yaY PR rfl (λ_ _ _ _ _ _ g i=>Pu.So (λ_ _=>rfl) g i) (λf j A d s H E h=>by exact
  (bd (nH (bh (wN G) (h.mono (by decide)) bw (ay (am 0) (ay (am 1) aZ))))))
def yaR(a:Ad):af->R aJ:=aF (fE (aC (iq a) (gV (dV 0) (aW))))
 (aF (fE (aC (iO a) (gV (dV 1) (aW))))
 (ff (aC (oG a) (gV (dV 1) (gV (aM (aC (mJ a) (gV (aM (aC (sF a) (gV (dV 0) (gV (dV 1) (aW))))) (gV (dV 1) (aW))))) (aW))))))
def kC(a:Ad):af->R Slot:=bn 2 [] (bj 0 (yaR a))
theorem JB:bK ["text","width"] ["text","width"] (aO zj):=by ac_nf
theorem IU(G:cc K c b a):b_ (bD P w) P w K c b "ring_view" 4 ["text","width"] (bi K (kC a)) :=
 cr (k:=3) (pin:=[]) G.yaR JB rfl (λ_ _ _ _ _ _ h i=>Pu.So (λ_ _=>rfl) h i) (λf j A g s H E d=>by exact
  (ba (jj (bh (xK G) (d.mono (by decide)) bw (ay (am 0) aZ)))
  (ba (jj (bh (Bq G) (d.mono (by decide)) bw (ay (am 1) aZ)))
  (bd (nH (bh (DK G) (d.mono (by decide)) bw (ay (am 1) (ay ((bh (GS G) (d.mono (by decide)) bw (ay ((bh (Eh G) (d.mono (by decide)) bw (ay (am 0) (ay (am 1) aZ)))).de (ay (am 1) aZ)))).de aZ))))))))
theorem Nv:bK ["text","width"] ["text","width"] (aO xl):=by ac_nf
theorem IY(G:cc K c b a):b_ (bD P w) P w K c b "twins" 15 ["text","width"] (bi K (sm a)) :=
 cr (k:=14) (pin:=[]) G.yaW Nv rfl (λ_ _ _ _ _ _ j m=>Pu.So (λ_ _=>rfl) j m) (λf o A h s H E i=>by exact
  (bd (EL (jI (cap:=[0]) (N':=["other","text"]) (jo.of ["text","width"] (aO xl) rfl rfl (by decide +kernel)) rfl (j0 ((bh (sw G) (i.mono (by decide)) bw (ay ((bh (wN G) (i.mono (by decide)) bw (ay (am 0) (ay (am 1) aZ)))).de aZ))).de) (λC d g n l=>by exact NB (cX (iE i.units) iM (am 0) (am 1) rfl)) (λC d g n l=>by exact(am 0))))))
def yaD(a:Ad):af->R aJ:=qP 3 (kZ a) (fV (dB (d2 (bx λi j=>decide (i<j)) (dV 0) (dC (.int 4)))) (fV (dB (d2 (bx λi j=>decide (i<j)) (dV 0) (dC (.int 3)))) (lG [mK a,kC a,sm a] (dV 0) (gV (dV 1) (gV (dV 2) (aW)))) (eB (ka a) (gV (dV 1) (gV (dC (.str [97,98,99,97,98])) (gV (dV 2) (aW)))))) (fV (dB (d2 (eqT aj) (dV 0) (dC (.int 4)))) (eB (ka a) (gV (dC (.str [97,98,99,97,98])) (gV (dV 1) (gV (dV 2) (aW))))) (fV (dB (d2 (bx λi j=>decide (i<j)) (dV 0) (dC (.int 7)))) (lG [mr a,qz a] (d2 fz (dV 0) (dC (.int 5))) (gV (dV 1) (aW))) (fV (dB (d2 (bx λi j=>decide (i<j)) (dV 0) (dC (.int 13)))) (lG [iP a,n5 a,sJ a,tU a,sj a,sA a] (d2 fz (dV 0) (dC (.int 7))) (gV (dV 1) (aW))) (fV (dB (d2 (eqT aj) (dV 0) (dC (.int 13)))) (eB (sL a) (gV (dV 1) (gV (dV 2) (aW)))) (rg a.Slit "windows" (tY a) (yI a) (gV (dV 1) (aW)))))))) (ff (λε=>bu (aC (jX a) (gV (dV 3) (aW)) ε)))
def gW(a:Ad):af->R Slot:=bn 3 [] (bj 1 (yaD a))
theorem QF:bK ["_law_what","_law_one","_law_other","_law_e"] ["_law_what","_law_one","_law_other"] (aO zD):=by ac_nf
theorem kf(G:cc K c b a):b_ (bD P w) P w K c b "_law_ask" 16 ["_law_what","_law_one","_law_other"] (bi K (gW a)) :=
 cr (k:=15) (pin:=[]) G.yaD QF rfl (λ_ _ _ _ _ _ j l=>Pu.SD (λ_ _ _=>rfl) j l) (λf m A g s H E d=>by
  have h:=λi=>cT.hand (v:=aa (.ref i)) d;exact
  (bd (KQ 3 QF.nd (vY (cX qX eC (am 0) aE rfl) (tW (Eb (cX qX eC (am 0) aE rfl) (Ag (kc (Qi G) (d.mono (by decide)) (kc (IU G) (d.mono (by decide)) (kc (IY G) (d.mono (by decide)) yG))) (am 0) (ay (am 1) (ay (am 2) aZ))) (zo (FS G) (d.mono (by decide)) (ay (am 1) (ay (cN [97,98,99,97,98]) (ay (am 2) aZ)))))) (vY (cX (lB d.units) lh (am 0) aE rfl) (tW (zo (FS G) (d.mono (by decide)) (ay (cN [97,98,99,97,98]) (ay (am 1) (ay (am 2) aZ))))) (vY (cX qX eC (am 0) aE rfl) (tW (Ag (kc (Fe G) (d.mono (by decide)) (kc (OZ G) (d.mono (by decide)) yG)) (bB l_ ma (am 0) aE) (ay (am 1) aZ))) (vY (cX qX eC (am 0) aE rfl) (tW (Ag (kc (sw G) (d.mono (by decide)) (kc (Kx G) (d.mono (by decide)) (kc (O0 G) (d.mono (by decide)) (kc (QQ G) (d.mono (by decide)) (kc (Nq G) (d.mono (by decide)) (kc (OI G) (d.mono (by decide)) yG)))))) (bB l_ ma (am 0) aE) (ay (am 1) aZ))) (tW (Eb (cX (lB d.units) lh (am 0) aE rfl) (zo (Nl G) (d.mono (by decide)) (ay (am 1) (ay (am 2) aZ))) (OS G.k_Slit (N9 G) (d.mono (by decide)) (ML G) (d.mono (by decide)) G.yah (ay (am 1) aZ)))))))) G.yai G.err_SlitError G.und (λi=>by exact(bd (nH (Nw (L8 G) ((h i).mono (by decide)) (ay (am 3) aZ))))))))
def yaJ(a:Ad):af->R aJ:=aF (i8 2 (dL bY (au)))
 (aF (λε=>eu (dm 3 (dL dX (ak (dL aY (ak (dV 0) (au))) (au))) (ln 2 (vW sK (dC (.str [])) (ak (dF (cU [0,3] (dL dX (ak (dV 1) (au))) (cA) (d2 bE (dV 1) (d2 gx (d2 aU (dV 2) (dV 0)) (dL aY (ak (dV 1) (au))))))) (au)))) ε))
 (bc (dL lu (ak (dF (kA (λxs=>qV (jV xs)) 2)) (au)))))
def sN(a:Ad):af->R Slot:=bn 2 [] (bj 2 (yaJ a))
theorem Ol:bK ["_law_text_here","_law_width","_law_made","_law_at"] ["_law_text_here","_law_width"] (aO xO):=by ac_nf
theorem MU(G:cc K c b a):b_ (bD P w) P w K c b "_law_ring_seen" 1 ["_law_text_here","_law_width"] (bi K (sN a)) :=
 cr (k:=0) (pin:=[]) G.yaJ Ol rfl (λ_ _ _ _ _ _ i l=>Pu.So (λ_ _=>rfl) i l) (λf o A h s H E n=>by exact
  (ba (pC 2 Ol.nd (qy aG))
  (ba (mj (kj 3 ni rfl Ol.nd (k_ G.yba (ar (bM dO dQ G.ya7 dI (ar (am 0) aG)) aG)) (bd (wy 2 (Mu PySem.F.slot_str_join PySem.F.type_str_join KB Ny (cN []) (ar (jI (cap:=[0,3]) (N':=["_law_k","_law_text_here","_law_at"]) (jo.of ["_law_text_here","_law_width","_law_made","_law_at"] (aO xO) rfl rfl (by decide +kernel)) rfl (k_ G.yba (ar (am 1) aG)) (λC d g m j=>by exact jL) (λC d g m j=>by exact(eh eE eF (am 1) (bB sE uc (bB cW cV (am 2) (am 0)) (bM dO dQ G.ya7 dI (ar (am 1) aG)))))).de aG))))))
  (bd (cB (xF wX w6 G.ybe li (ar (FH 2 sy sO G.ybc qL).de aG)))))))
def yaN(a:Ad):af->R aJ:=aF (bz 3 (d2 aU (dC (.int 1)) (aM (aC (d8 a) (gV (dV 0) (gO 1 (gV (dC (.int 4)) (aW))))))))
 (aF (bz 4 (aM (aC (qt a) (gV (dV 0) (gO 1 (gV (dV 3) (gV (d2 fz (d2 aU (dV 3) (dV 2)) (dC (.int 1))) (aW))))))))
 (aF (bz 5 (dF (dL lw (ak (aM (aC (qE a) (gV (dV 4) (gV (dV 3) (aW))))) (au)))))
 (aF (λd=>eu (dm 6 (dL dX (ak (aM (aC (gA a) (gV (dV 0) (gO 1 (gV (dF (dL bY (ak (dC (.int 0)) (ak (dC (.int 0)) (ak (dC (.int 0)) (ak (dC (.int 1)) (ak (dC (.int 2)) (au)))))))) (aW)))))) (au))) (aF (bz 7 (aM (aC (d8 a) (gV (dV 0) (gO 1 (gV (d2 aU (dL aY (ak (dV 5) (au))) (dC (.int 1))) (aW)))))))
 (aF (bz 8 (dC (.str [])))
 (aF (dm 9 (dL dX (ak (dV 3) (au))) (bz 8 (d2 aU (dV 8) (d2 bE (dC (.str [97,98,99])) (aM (aC (d8 a) (gV (dV 0) (gO 1 (gV (dC (.int 3)) (aW))))))))))
 (bz 5 (d2 aU (d2 aU (bN b7 (dV 5) (b8) (bA (dV 7))) (aM (aC (gA a) (gV (dV 0) (gO 1 (gV (dF (dL bY (ak (dF (dL bY (ak (dV 8) (au)))) (ak (dF (dL bY (au))) (ak (d2 aU (dF (dL bY (ak (dV 8) (au)))) (bN b7 (dV 5) (bA (dV 7)) (bA (d2 aU (dV 7) (dC (.int 1)))))) (au)))))) (aW))))))) (bN b7 (dV 5) (bA (d2 aU (dV 7) (dC (.int 1)))) (b8))))))) d))
 (aF (bz 5 (bN b7 (dV 5) (b8) (bA (dV 2))))
 (aF (br (dB (d2 (eqT aj) (dV 5) (dF (dL bY (au))))) (bz 5 (dF (dL bY (ak (d2 eM (dC (.str [99])) (dV 3)) (au))))) (bH))
 (bc (dL cF (ak (dV 3) (ak (dL lu (ak (dF (dL jV (ak (dV 5) (au)))) (au))) (au))))))))))
def so(a:Ad):af->R Slot:=bn 3 [1] (bj 7 (yaN a))
theorem QD:bK ["_law_script","_law_town","_law_most","_law_width","_law_text_here","_law_windows","_law_k","_law_at","_law_new","_law_turn"] ["_law_script","_law_town","_law_most"] (aO zz):=by ac_nf
theorem PP(G:cc K c b a):b_ (bD P w) P w K c b "_law_view" 6 ["_law_script","_law_town","_law_most"] (bi K (so a)) :=
 cr (k:=5) (pin:=[1]) G.yaN QD rfl (λ_ _ _ _ _ _ h i=>Pu.SD (λ_ _ _=>rfl) h i) (λf j A g s H E d=>by exact
  (ba (c8 3 QD.nd (bB cW cV aE ((bh (k6 G) (d.mono (by decide)) bw (ay (am 0) (et 1 (ay aE aZ))))).de))
  (ba (c8 4 QD.nd ((bh (Ds G) (d.mono (by decide)) bw (ay (am 0) (et 1 (ay (am 3) (ay (bB l_ ma (bB cW cV (am 3) (am 2)) aE) aZ)))))).de)
  (ba (c8 5 QD.nd (v_ xD wB G.ya8 vG (ar ((bh (C4 G) (d.mono (by decide)) bw (ay (am 4) (ay (am 3) aZ)))).de aG)).de)
  (ba (mj (kj 6 ni rfl QD.nd (k_ G.yba (ar ((bh (pK G) (d.mono (by decide)) iR (ay (am 0) (et 1 (ay (gh (ar aE (ar aE (ar aE (ar aE (ar aE aG)))))) aZ))))).de aG)) (ba (c8 7 QD.nd ((bh (k6 G) (d.mono (by decide)) iR (ay (am 0) (et 1 (ay (bB cW cV (bM dO dQ G.ya7 dI (ar (am 5) aG)) aE) aZ))))).de)
  (ba (c8 8 QD.nd (cN []))
  (ba (kj 9 ni rfl QD.nd (k_ G.yba (ar (am 3) aG)) (bd (c8 8 QD.nd (bB cW cV (am 8) (eh eE eF (cN [97,98,99]) ((bh (k6 G) (d.mono (by decide)) iR (ay (am 0) (et 1 (ay aE aZ))))).de)))))
  (bd (c8 5 QD.nd (bB cW cV (bB cW cV (gn iu gX (am 5) io (eX (am 7))) ((bh (pK G) (d.mono (by decide)) iR (ay (am 0) (et 1 (ay (gh (ar (gh (ar (am 8) aG)) (ar (gh aG) (ar (bB cW cV (gh (ar (am 8) aG)) (gn iu gX (am 5) (eX (am 7)) (eX (bB cW cV (am 7) aE)))) aG)))) aZ))))).de) (gn iu gX (am 5) (eX (bB cW cV (am 7) aE)) io)))))))))
  (ba (c8 5 QD.nd (gn iu gX (am 5) io (eX (am 2))))
  (ba (dJ (cX (lB d.units) lh (am 5) (gh aG) rfl) (bd (c8 5 QD.nd (gh (ar (bB n9 nU (cN [99]) (am 3)) aG)))) dE)
  (bd (cB (fK (ar (am 3) (ar (xF wX w6 G.ybe li (ar (zh sy sO G.ybc qL (ar (am 5) aG)).de aG)) aG))))))))))))
def yaL(a:Ad)(d:af->R Slot):af->R aJ:=aF (bz 3 (aM (aC (d8 a) (gV (dV 0) (gO 1 (gV (dC (.int 8)) (aW)))))))
 (aF (br (gw (dB (dL bQ (ak (dV 2) (ak (dC (.raw (.ty "tuple"))) (au))))) (gw (dB (d2 (eqT ah) (dV 2) (dL cF (au)))) (dB (d2 (bx λi j=>decide (j<i)) (dV 3) (dC (.int 1)))))) (aF (bz 4 (aM (aC (d8 a) (gV (dV 0) (gO 1 (gV (dL aY (ak (dV 2) (au))) (aW)))))))
 (bc (d2 i3 (d2 i3 (bN gG (dV 2) (b8) (bA (dV 4))) (dL cF (ak (aM (aC (d) (gV (dV 0) (gO 1 (gV (d2 bE (dV 2) (dV 4)) (aW)))))) (au)))) (bN gG (dV 2) (bA (d2 i3 (dV 4) (dC (.int 1)))) (b8))))) (bH))
 (aF (br (gw (dB (dL bQ (ak (dV 2) (ak (dC (.raw (.ty "tuple"))) (au))))) (dB (d2 (eqT aj) (dV 3) (dC (.int 1))))) (ff (aC (gA a) (gV (dV 0) (gO 1 (gV (dF (dL bY (ak (dF (dL lw (ak (dV 2) (au)))) (ak (d2 sH (dV 2) (dC (.int 10))) (ak (bN gG (dV 2) (bA (dC (.int 1))) (b8)) (ak (xI (dV 2) (bA (d1 il (dC (.int 1))))) (ak (d2 i3 (dV 2) (bN gG (dV 2) (bA (d1 il (dC (.int 1)))) (b8))) (au)))))))) (aW)))))) (bH))
 (ff (aC (gA a) (gV (dV 0) (gO 1 (gV (dF (dL bY (ak (dC .non) (ak (dC (.bl ah)) (ak (dC (.str [49])) (ak (dC (.int 0)) (ak (dC (.int 1)) (ak (dC (.int 4)) (ak (dC (.int 5)) (ak (d1 il (dC (.int 1))) (ak (dL cF (au)) (ak (dC (.str [97])) (ak (dC (.str [97,98,99])) (ak (dC (.str [100])) (ak (dC (.str [97,98])) (ak (dC (.str [65])) (ak (dC (.str [])) (ak (dC (.int 2)) (au))))))))))))))))))) (aW))))))))
def mH(a:Ad):Nat->af->R Slot
 |0=>bn 3 [1] (bj 2 mv)
 |k+1=>bn 3 [1] (bj 2 (yaL a (mH a k)))
theorem Gp:bK ["_law_script","_law_town","_law_thing","_law_kind","_law_at"] ["_law_script","_law_town","_law_thing"] (aO BF):=by ac_nf
theorem OV(G:cc K c b a)(m:Nat):b_ (bD P w) P w K c b "_law_spoilt" (5+m) ["_law_script","_law_town","_law_thing"] (bi K (mH a m)):=by
 induction m with
 |zero=>exact cr (k:=4) (pin:=[1]) G.yaL Gp rfl (λ_ _ _ _ _ _ h i=>Pu.SD (λ_ _ _=>rfl) h i) (λf l A g s H E d=>oB)
 |succ m j=>exact cr (k:=5+m) (pin:=[1]) G.yaL Gp rfl (λ_ _ _ _ _ _ h i=>Pu.SD (λ_ _ _=>rfl) h i) (λf l A g s H E d=>by exact
  (ba (c8 3 Gp.nd ((bh (k6 G) (d.mono ∅) bw (ay (am 0) (et 1 (ay aE aZ))))).de)
  (ba (dJ ((sW (gZ (bM iC iJ G.ya6 fo (ar (am 2) (ar (iF G.ybe li) aG)))) (sW (cX (iE d.units) iM (am 2) (fK aG) rfl) (va (cX vX eC (am 3) aE rfl))))).dt (ba (c8 4 Gp.nd ((bh (k6 G) (d.mono ∅) bw (ay (am 0) (et 1 (ay (bM dO dQ G.ya7 dI (ar (am 2) aG)) aZ))))).de)
  (bd (cB (bB vx vo (bB vx vo (gn wo vc (am 2) io (eX (am 4))) (fK (ar ((bh j (d.mono ∅) bw (ay (am 0) (et 1 (ay (eh eE eF (am 2) (am 4)) aZ))))).de aG))) (gn wo vc (am 2) (eX (bB vx vo (am 4) aE)) io))))) dE)
  (ba (dJ ((sW (gZ (bM iC iJ G.ya6 fo (ar (am 2) (ar (iF G.ybe li) aG)))) (va (cX (lB d.units) lh (am 3) aE rfl)))).dt (bd (nH (bh (pK G) (d.mono ∅) bw (ay (am 0) (et 1 (ay (gh (ar (v_ xD wB G.ya8 vG (ar (am 2) aG)).de (ar (bB Nr Ll (am 2) aE) (ar (gn wo vc (am 2) (eX aE) io) (ar (KH (am 2) (eX (qM qB re aE))) (ar (bB vx vo (am 2) (gn wo vc (am 2) (eX (qM qB re aE)) io)) aG)))))) aZ)))))) dE)
  (bd (nH (bh (pK G) (d.mono ∅) bw (ay (am 0) (et 1 (ay (gh (ar l0 (ar gB (ar (cN [49]) (ar aE (ar aE (ar aE (ar aE (ar (qM qB re aE) (ar (fK aG) (ar (cN [97]) (ar (cN [97,98,99]) (ar (cN [100]) (ar (cN [97,98]) (ar (cN [65]) (ar (cN []) (ar aE aG))))))))))))))))) aZ))))))))))
def yaG(a:Ad):af->R aJ:=aF (br (dz (cS (dB (dL bQ (ak (dV 0) (ak (dC (.raw (.ty "tuple"))) (au)))))) (dz (dB (d2 (eqT ah) (dL aY (ak (dV 0) (au))) (dC (.int 2)))) (dz (cS (dB (dL bQ (ak (d2 bE (dV 0) (dC (.int 0))) (ak (dC (.raw (.ty "int"))) (au)))))) (dB (dL bQ (ak (d2 bE (dV 0) (dC (.int 0))) (ak (dC (.raw (.ty "bool"))) (au)))))))) (bc (dC (.bl aj))) (bH))
 (aF (br (dz (cS (dB (fL (bx λi j=>decide (i<=j)) (bx λi j=>decide (i<=j)) (dC (.int 1)) (d2 bE (dV 0) (dC (.int 0))) (dC (.int 4))))) (dz (cS (dB (dL bQ (ak (d2 bE (dV 0) (dC (.int 1))) (ak (dC (.raw (.ty "tuple"))) (au)))))) (cS (dB (fL (bx λi j=>decide (i<=j)) (bx λi j=>decide (i<=j)) (dC (.int 1)) (dL aY (ak (d2 bE (dV 0) (dC (.int 1))) (au))) (dC (.int 9))))))) (bc (dC (.bl aj))) (bH))
 (aF (λd=>eu (dm 1 (cL (d2 bE (dV 0) (dC (.int 1)))) (br (dz (cS (dB (dL bQ (ak (dV 1) (ak (dC (.raw (.ty "str"))) (au)))))) (dz (dB (d2 (eqT ah) (dL aY (ak (dV 1) (au))) (d2 bE (dV 0) (dC (.int 0))))) (cS (dB (dL mB (ak (dF (cU [] (cL (dV 1)) (cA) (d2 (kb aj) (dV 0) (dC (.str [97,98,99]))))) (au))))))) (bc (dC (.bl aj))) (bH)) d))
 (bc (dL mB (ak (dF (qQ [] (qA (ak (d2 bE (dV 0) (dC (.int 1))) (ak (bN b7 (d2 bE (dV 0) (dC (.int 1))) (bA (dC (.int 1))) (b8)) (au)))) (cA) (d2 qU (dV 0) (dV 1)))) (au))))))
def rk(a:Ad):af->R Slot:=bn 1 [] (bj 1 (yaG a))
theorem OC:bK ["_law_thing","_law_window"] ["_law_thing"] (aO t9):=by ac_nf
theorem JQ(G:cc K c b a):b_ (bD P w) P w K c b "_law_is_view" 1 ["_law_thing"] (bi K (rk a)) :=
 cr (k:=0) (pin:=[]) G.yaG OC rfl (λ_ _ _ _ _ _ n o=>Pu.SH (λ_=>rfl) n o) (λf p A i s H E m=>by exact
  (ba (dJ ((jK (gP (gZ (bM iC iJ G.ya6 fo (ar (am 0) (ar (iF G.ybe li) aG))))) (jK (cX (iE m.units) iM (bM dO dQ G.ya7 dI (ar (am 0) aG)) aE rfl) (jK (gP (gZ (bM iC iJ G.ya6 fo (ar (eh eE eF (am 0) aE) (ar (iF G.ya5 AD) aG))))) (nJ (gZ (bM iC iJ G.ya6 fo (ar (eh eE eF (am 0) aE) (ar (iF G.ya4 FA) aG))))))))).dt (bd (cB gB)) dE)
  (ba (dJ ((jK (gP (sI iB iB eC eC aE (eh eE eF (am 0) aE) aE)) (jK (gP (gZ (bM iC iJ G.ya6 fo (ar (eh eE eF (am 0) aE) (ar (iF G.ybe li) aG))))) (nJ (gP (sI iB iB eC eC aE (bM dO dQ G.ya7 dI (ar (eh eE eF (am 0) aE) aG)) aE)))))).dt (bd (cB gB)) dE)
  (ba (mj (kj 1 ni rfl OC.nd (j0 (eh eE eF (am 0) aE)) (bd (dJ ((jK (gP (gZ (bM iC iJ G.ya6 fo (ar (am 1) (ar (iF G.ybd Ab) aG))))) (jK (cX (iE m.units) iM (bM dO dQ G.ya7 dI (ar (am 1) aG)) (eh eE eF (am 0) aE) rfl) (nJ (gP (gZ (bM (xj rfl) xR G.ya2 xE (ar (jI (cap:=[]) (N':=["_law_sign"]) (jo.of ["_law_thing","_law_window"] (aO t9) rfl rfl (by decide +kernel)) rfl (j0 (am 1)) (λC d g l h=>by exact jL) (λC d g l h=>by exact(pJ Gq CO (am 0) (cN [97,98,99]) rfl))).de aG)))))))).dt (bd (cB gB)) dE))))
  (bd (cB (bM (xj rfl) xR G.ya2 xE (ar (Og (cap:=[]) (j:=2) (N':=["_law_one","_law_other"]) (jo.of ["_law_thing","_law_window"] (aO t9) rfl rfl (by decide +kernel)) rfl (P8 G.ybf (ar (eh eE eF (am 0) aE) (ar (gn iu gX (eh eE eF (am 0) aE) (eX aE) io) aG))) (λC d g l h=>by exact jL) (λC d g l h=>by exact(pJ LR L6 (am 0) (am 1) rfl))).de aG))))))))
def yaC(a:Ad):af->R aJ:=aF (i8 1 (dL bY (au)))
 (aF (bz 2 (d2 aU (dC (.int 1)) (aM (aC (d8 a) (gV (dV 0) (gO 1 (gV (dC (.int 4)) (aW))))))))
 (aF (bz 3 (aM (aC (qt a) (gV (dV 0) (gO 1 (gV (dC (.int 1)) (gV (dC (.int 12)) (aW))))))))
 (aF (bz 4 (d2 aU (d2 fz (dL aY (ak (dV 3) (au))) (dV 2)) (dC (.int 1))))
 (aF (bz 5 (br (dB (fL (bx λi j=>decide (i<=j)) (bx λi j=>decide (i<=j)) (dC (.int 1)) (dV 4) (dC (.int 9)))) (dL cF (ak (dV 2) (ak (aM (aC (qE a) (gV (dV 3) (gV (dV 2) (aW))))) (au)))) (dL cF (ak (dC (.str [114,101,102,117,115,101,100])) (ak (dC (.int 2)) (au))))))
 (aF (br (dz (dB (d2 (eqT ah) (aM (aC (gW a) (gV (dC (.int 0)) (gV (dV 3) (gV (dV 2) (aW)))))) (dV 5))) (gw (dB (d2 o5 (dV 5) (dL cF (ak (dC (.str [114,101,102,117,115,101,100])) (ak (dC (.int 2)) (au)))))) (dB (d2 (eqT ah) (aM (aC (gW a) (gV (dC (.int 2)) (gV (dV 3) (gV (dV 2) (aW)))))) (dV 5))))) (bc (dC (.bl aj))) (bH))
 (aF (bz 5 (br (dB (d2 (bx λi j=>decide (i<j)) (dL aY (ak (dV 3) (au))) (dC (.int 10)))) (dL cF (ak (dV 2) (ak (aM (aC (sN a) (gV (dV 3) (gV (dV 2) (aW))))) (au)))) (dL cF (ak (dC (.str [114,101,102,117,115,101,100])) (ak (dC (.int 2)) (au))))))
 (aF (bz 6 (dL pe (ak (dF (cU [3] (dL dX (ak (dL aY (ak (dV 3) (au))) (au))) (cA) (d2 aU (bN b7 (dV 1) (bA (dV 0)) (b8)) (bN b7 (dV 1) (b8) (bA (dV 0)))))) (au))))
 (aF (br (dz (dB (d2 (eqT ah) (aM (aC (gW a) (gV (dC (.int 1)) (gV (dV 3) (gV (dV 2) (aW)))))) (dV 5))) (dB (d2 (eqT ah) (aM (aC (gW a) (gV (dC (.int 5)) (gV (dV 3) (gV (dC .non) (aW)))))) (dV 6)))) (bc (dC (.bl aj))) (bH))
 (aF (br (gw (dB (d2 (bx λi j=>decide (j<i)) (dL aY (ak (dV 3) (au))) (dC (.int 9)))) (dB (d2 (eqT ah) (aM (aC (gW a) (gV (dC (.int 6)) (gV (dV 3) (gV (dC .non) (aW)))))) (dL cF (ak (dC (.str [114,101,102,117,115,101,100])) (ak (dC (.int 2)) (au))))))) (bc (dC (.bl aj))) (bH))
 (aF (bz 7 (aM (aC (gA a) (gV (dV 0) (gO 1 (gV (dF (dL bY (ak (dC .non) (ak (dC (.str [])) (ak (dC (.str [97,98,99,100])) (ak (d2 eM (dC (.str [97])) (dC (.int 13))) (ak (dC (.int 1)) (ak (dL cF (ak (dC (.str [97])) (au))) (ak (dC (.str [97,66])) (au)))))))))) (aW)))))))
 (aF (br (dB (d2 (eqT ah) (dF (cU [7] (cL (dL cF (ak (dC (.int 0)) (ak (dC (.int 1)) (ak (dC (.int 2)) (ak (dC (.int 3)) (ak (dC (.int 5)) (ak (dC (.int 6)) (au))))))))) (cA) (aM (aC (gW a) (gV (dV 0) (gV (dV 1) (gV (dC .non) (aW)))))))) (d2 qI (dF (dL bY (ak (dL cF (ak (dC (.str [114,101,102,117,115,101,100])) (ak (dC (.int 0)) (au)))) (au)))) (dC (.int 6))))) (bc (dC (.bl aj))) (bH))
 (aF (br (dB (d2 (eqT ah) (aM (aC (gW a) (gV (dC (.int 4)) (gV (dV 7) (gV (dC (.int 2)) (aW)))))) (dL cF (ak (dC (.str [114,101,102,117,115,101,100])) (ak (dC (.int 0)) (au)))))) (bc (dC (.bl aj))) (bH))
 (aF (bz 8 (aM (aC (gA a) (gV (dV 0) (gO 1 (gV (dF (dL bY (ak (dC (.int 0)) (ak (dC (.int 5)) (ak (dC .non) (ak (dC (.bl ah)) (ak (dC (.str [49])) (ak (d1 il (dC (.int 1))) (au))))))))) (aW)))))))
 (aF (br (dB (d2 (eqT ah) (dF (cU [3,8] (cL (dL cF (ak (dC (.int 0)) (ak (dC (.int 1)) (ak (dC (.int 2)) (ak (dC (.int 3)) (ak (dC (.int 4)) (au)))))))) (cA) (aM (aC (gW a) (gV (dV 0) (gV (dV 1) (gV (dV 2) (aW)))))))) (d2 qI (dF (dL bY (ak (dL cF (ak (dC (.str [114,101,102,117,115,101,100])) (ak (dC (.int 1)) (au)))) (au)))) (dC (.int 5))))) (bc (dC (.bl aj))) (bH))
 (aF (br (dB (d2 (eqT ah) (aM (aC (gW a) (gV (dC (.int 14)) (gV (dV 8) (gV (dC .non) (aW)))))) (dL cF (ak (dC (.str [114,101,102,117,115,101,100])) (ak (dC (.int 1)) (au)))))) (bc (dC (.bl aj))) (bH))
 (aF (bz 9 (aM (aC (so a) (gV (dV 0) (gO 1 (gV (dC (.int 9)) (aW)))))))
 (aF (λd=>eu (dm 10 (dL dX (ak (d2 aU (dC (.int 1)) (aM (aC (d8 a) (gV (dV 0) (gO 1 (gV (dC (.int 2)) (aW))))))) (au))) (bz 9 (aM (aC (mH a 6) (gV (dV 0) (gO 1 (gV (dV 9) (aW))))))) d))
 (aF (br (dB (aM (aC (rk a) (gV (dV 9) (aW))))) (bc (dL bQ (ak (aM (aC (gW a) (gV (dC (.int 8)) (gV (dV 9) (gV (dC .non) (aW)))))) (ak (dC (.raw (.ty "int"))) (au))))) (bH))
 (bc (d2 o5 (dF (cU [9] (dL v9 (ak (dC (.int 7)) (ak (dC (.int 14)) (au)))) (cA) (aM (aC (gW a) (gV (dV 0) (gV (dV 1) (gV (dC .non) (aW)))))))) (d2 qI (dF (dL bY (ak (dL cF (ak (dC (.str [114,101,102,117,115,101,100])) (ak (dC (.int 2)) (au)))) (au)))) (dC (.int 7)))))))))))))))))))))))
def sG(a:Ad):af->R Slot:=bn 1 [] (bj 10 (yaC a))
theorem NC:bK ["_law_script","_law_town","_law_width","_law_text_here","_law_many","_law_due","_law_least","_law_odd","_law_none","_law_bad","_law_k"] ["_law_script"] (aO nD):=by ac_nf
theorem Nh(G:cc K c b a){f:ae}{m:fF}(p:mn K "law" "law" nD f m):fR P w K c b (bD P w) 17 f m ["_law_script"] (bi K (sG a)) :=
 zW (k:=16) (pin:=[]) p NC rfl (λ_ _ _ _ _ _ n o=>Pu.SH (λ_=>rfl) n o) (λf q A l s H E d=>by exact
  (ba (pC 1 NC.nd (qy aG))
  (ba (c8 2 NC.nd (bB cW cV aE ((bh (k6 G) (d.mono (by decide)) bw (ay (am 0) (et 1 (ay aE aZ))))).de))
  (ba (c8 3 NC.nd ((bh (Ds G) (d.mono (by decide)) bw (ay (am 0) (et 1 (ay aE (ay aE aZ)))))).de)
  (ba (c8 4 NC.nd (bB cW cV (bB l_ ma (bM dO dQ G.ya7 dI (ar (am 3) aG)) (am 2)) aE))
  (ba (c8 5 NC.nd (Fk (sI iB iB eC eC aE (am 4) aE) (fK (ar (am 2) (ar ((bh (C4 G) (d.mono (by decide)) bw (ay (am 3) (ay (am 2) aZ)))).de aG))) (fK (ar (cN [114,101,102,117,115,101,100]) (ar aE aG)))))
  (ba (dJ ((jK (cX (iE d.units) iM ((bh (kf G) (d.mono (by decide)) bw (ay aE (ay (am 3) (ay (am 2) aZ))))).de (am 5) rfl) (nJ ((sW (cX (Gf d.units) FG (am 5) (fK (ar (cN [114,101,102,117,115,101,100]) (ar aE aG))) rfl) (va (cX (iE d.units) iM ((bh (kf G) (d.mono (by decide)) bw (ay aE (ay (am 3) (ay (am 2) aZ))))).de (am 5) rfl)))).dt))).dt (bd (cB gB)) dE)
  (ba (c8 5 NC.nd (Fk (cX qX eC (bM dO dQ G.ya7 dI (ar (am 3) aG)) aE rfl) (fK (ar (am 2) (ar ((bh (MU G) (d.mono (by decide)) bw (ay (am 3) (ay (am 2) aZ)))).de aG))) (fK (ar (cN [114,101,102,117,115,101,100]) (ar aE aG)))))
  (ba (c8 6 NC.nd (bM (Dp rfl) E4 G.ya9 CH (ar (jI (cap:=[3]) (N':=["_law_at","_law_text_here"]) (jo.of ["_law_script","_law_town","_law_width","_law_text_here","_law_many","_law_due","_law_least","_law_odd","_law_none","_law_bad","_law_k"] (aO nD) rfl rfl (by decide +kernel)) rfl (k_ G.yba (ar (bM dO dQ G.ya7 dI (ar (am 3) aG)) aG)) (λC g h j i=>by exact jL) (λC g h j i=>by exact(bB cW cV (gn iu gX (am 1) (eX (am 0)) io) (gn iu gX (am 1) io (eX (am 0)))))).de aG)))
  (ba (dJ ((jK (cX (iE d.units) iM ((bh (kf G) (d.mono (by decide)) bw (ay aE (ay (am 3) (ay (am 2) aZ))))).de (am 5) rfl) (nJ (cX (iE d.units) iM ((bh (kf G) (d.mono (by decide)) bw (ay aE (ay (am 3) (ay l0 aZ))))).de (am 6) rfl)))).dt (bd (cB gB)) dE)
  (ba (dJ ((sW (cX vX eC (bM dO dQ G.ya7 dI (ar (am 3) aG)) aE rfl) (va (cX (iE d.units) iM ((bh (kf G) (d.mono (by decide)) bw (ay aE (ay (am 3) (ay l0 aZ))))).de (fK (ar (cN [114,101,102,117,115,101,100]) (ar aE aG))) rfl)))).dt (bd (cB gB)) dE)
  (ba (c8 7 NC.nd ((bh (pK G) (d.mono (by decide)) bw (ay (am 0) (et 1 (ay (gh (ar l0 (ar (cN []) (ar (cN [97,98,99,100]) (ar (bB n9 nU (cN [97]) aE) (ar aE (ar (fK (ar (cN [97]) aG)) (ar (cN [97,66]) aG)))))))) aZ))))).de)
  (ba (dJ (cX (iE d.units) iM (jI (cap:=[7]) (N':=["_law_what","_law_odd"]) (jo.of ["_law_script","_law_town","_law_width","_law_text_here","_law_many","_law_due","_law_least","_law_odd","_law_none","_law_bad","_law_k"] (aO nD) rfl rfl (by decide +kernel)) rfl (j0 (fK (ar aE (ar aE (ar aE (ar aE (ar aE (ar aE aG)))))))) (λC g h j i=>by exact jL) (λC g h j i=>by exact((bh (kf G) (d.mono (by decide)) iR (ay (am 0) (ay (am 1) (ay l0 aZ))))).de)).de (bB ze Bc (gh (ar (fK (ar (cN [114,101,102,117,115,101,100]) (ar aE aG))) aG)) aE) rfl) (bd (cB gB)) dE)
  (ba (dJ (cX (iE d.units) iM ((bh (kf G) (d.mono (by decide)) bw (ay aE (ay (am 7) (ay aE aZ))))).de (fK (ar (cN [114,101,102,117,115,101,100]) (ar aE aG))) rfl) (bd (cB gB)) dE)
  (ba (c8 8 NC.nd ((bh (pK G) (d.mono (by decide)) bw (ay (am 0) (et 1 (ay (gh (ar aE (ar aE (ar l0 (ar gB (ar (cN [49]) (ar (qM qB re aE) aG))))))) aZ))))).de)
  (ba (dJ (cX (iE d.units) iM (jI (cap:=[3,8]) (N':=["_law_what","_law_text_here","_law_none"]) (jo.of ["_law_script","_law_town","_law_width","_law_text_here","_law_many","_law_due","_law_least","_law_odd","_law_none","_law_bad","_law_k"] (aO nD) rfl rfl (by decide +kernel)) rfl (j0 (fK (ar aE (ar aE (ar aE (ar aE (ar aE aG))))))) (λC g h j i=>by exact jL) (λC g h j i=>by exact((bh (kf G) (d.mono (by decide)) iR (ay (am 0) (ay (am 1) (ay (am 2) aZ))))).de)).de (bB ze Bc (gh (ar (fK (ar (cN [114,101,102,117,115,101,100]) (ar aE aG))) aG)) aE) rfl) (bd (cB gB)) dE)
  (ba (dJ (cX (iE d.units) iM ((bh (kf G) (d.mono (by decide)) bw (ay aE (ay (am 8) (ay l0 aZ))))).de (fK (ar (cN [114,101,102,117,115,101,100]) (ar aE aG))) rfl) (bd (cB gB)) dE)
  (ba (c8 9 NC.nd ((bh (PP G) (d.mono (by decide)) bw (ay (am 0) (et 1 (ay aE aZ))))).de)
  (ba (mj (kj 10 ni rfl NC.nd (k_ G.yba (ar (bB cW cV aE ((bh (k6 G) (d.mono (by decide)) iR (ay (am 0) (et 1 (ay aE aZ))))).de) aG)) (bd (c8 9 NC.nd ((bh (OV G 6) (d.mono (by decide)) iR (ay (am 0) (et 1 (ay (am 9) aZ))))).de))))
  (ba (dJ (gZ ((bh (JQ G) (d.mono (by decide)) bw (ay (am 9) aZ))).de) (bd (cB (bM iC iJ G.ya6 fo (ar ((bh (kf G) (d.mono (by decide)) bw (ay aE (ay (am 9) (ay l0 aZ))))).de (ar (iF G.ya5 AD) aG))))) dE)
  (bd (cB (pJ (Gf d.units) FG (jI (cap:=[9]) (N':=["_law_what","_law_bad"]) (jo.of ["_law_script","_law_town","_law_width","_law_text_here","_law_many","_law_due","_law_least","_law_odd","_law_none","_law_bad","_law_k"] (aO nD) rfl rfl (by decide +kernel)) rfl (MW G.yba (ar aE (ar aE aG))) (λC g h j i=>by exact jL) (λC g h j i=>by exact((bh (kf G) (d.mono (by decide)) iR (ay (am 0) (ay (am 1) (ay l0 aZ))))).de)).de (bB ze Bc (gh (ar (fK (ar (cN [114,101,102,117,115,101,100]) (ar aE aG))) aG)) aE) rfl)))))))))))))))))))))))
end
end K01
namespace Mx
open L2 Pu
def bo:Tx:=[97,98,99]
def eA:Nat->List Tx
 |0=>[[]]
 |k+1=>bo.flatMap λc=>(eA k).map (c::·)
theorem tE:∀(k:Nat) (x:Tx),x∈eA k↔x.length=k/\∀c∈x,c∈bo
 |0,x=>by
  simp only[eA,jD];constructor
  .rintro rfl;simp
  .rintro⟨h,_⟩;exact HZ.mp h
 |k+1,x=>by
  simp only[eA,List.mem_flatMap,eJ];constructor
  .rintro⟨c,i,y,g,rfl⟩;obtain⟨f,b⟩:=(tE k y).mp g;refine⟨by simp[f],λd a=>?_⟩;rcases bV.mp a with rfl|a
   .exact i
   .exact b d a
  .rintro⟨f,b⟩;cases x with
   |nil=>cases f
   |cons c y=>exact⟨c,b c (by simp),y,(tE k y).mpr ⟨Cr f,λd a=>b d (by simp[a])⟩,rfl⟩
theorem GK:∀k:Nat,(eA k).length=3^k
 |0=>rfl
 |k+1=>by simp only[eA,bo,uz,H_,dy,c0,GK k,m8,Nat.pow_succ];lia
theorem Nf(i j:Nat):eA (i+j)=(eA i).flatMap λh=>(eA j).map (h++·):=by
 induction i with
 |zero=>simp[eA]
 |succ i a=>rw[show i+1+j=(i+j)+1 by lia];simp only[eA,a,List.flatMap_assoc,List.map_flatMap,List.flatMap_map,eU,Function.comp_def,List.cons_append]
theorem Ba:∀k:Nat,(eA k).Pairwise (λa b=>a<b)
 |0=>by simp[eA]
 |k+1=>by
  simp only[eA];rw[List.pairwise_flatMap];refine⟨λc _=>?_,?_⟩
  .rw[List.pairwise_map];exact(Ba k).imp λh=>List.cons_lt_cons_iff.mpr (.inr ⟨rfl,h⟩)
  .have:bo.Pairwise (λa b=>a<b):=by decide
   refine this.imp λh=>?_;intro x f y d;obtain⟨i,_,rfl⟩:=eJ.mp f;obtain⟨g,_,rfl⟩:=eJ.mp d;exact List.cons_lt_cons_iff.mpr (.inl h)
theorem IJ{a b:Tx}(h:a<b):dP a b=ah:=by simp only[dP,decide_eq_true_eq];exact List.le_of_lt h
theorem Jl(k:Nat):(eA k).Pairwise (λa b=>dP a b=ah):=(Ba k).imp IJ
theorem M6(k:Nat):(eA k).Nodup:=(Ba k).imp λh z=>by subst z;exact List.lt_irrefl _ h
def cx(z:Tx)(w:Nat):List Tx:=((cy z.length).filter λi=>decide (i+w<=z.length)).map λi=>(z.drop i).take w
theorem Fb(w L:Nat):∀m:Nat,(cy m).filter (λi=>decide (i+w<=L))=cy (min m (L+1-w))
 |0=>by simp
 |m+1=>by
  rw[yb,List.filter_append,Fb w L m];by_cases h:m+w<=L
  .rw[show min m (L+1-w)=m by lia,show min (m+1) (L+1-w)=m+1 by lia,yb];simp[h]
  .rw[show min (m+1) (L+1-w)=min m (L+1-w) by lia];simp[h]
theorem wU(z:Tx)(w:Nat)(a:1<=w):cx z w=(cy (z.length+1-w)).map λi=>(z.drop i).take w:=by unfold cx;rw[Fb,show min z.length (z.length+1-w)=z.length+1-w by lia]
def nw(w:Nat)(t:Tx):Tx->List Tx
 |[]=>[]
 |c::s=>(t.drop (t.length+1-w)++[c])::nw w (t++[c]) s
theorem Gy(w:Nat)(b:1<=w):∀(s t:Tx),w<=t.length+1->nw w t s=(cy s.length).map λi=>((t++s).drop (t.length+1-w+i)).take w
 |[],t,_=>by simp[nw]
 |c::s,t,h=>by
  rw[nw,Gy w b s (t++[c]) (by simp;lia),eR,B_,gH,eU];congr 1
  .show _=((t++c::s).drop (t.length+1-w)).take w;rw[RU ∅,List.take_append];have a:(t.drop (t.length+1-w)).length=w-1:=by rw[kL];lia
   rw[a,rJ (by rw[a];lia),show w-(w-1)=1 by lia];rfl
  .refine kM λi _=>?_;simp only[uA];rw[dy,pW,show t.length+1+1-w+i=t.length+1-w+Nat.succ i by lia];simp
theorem Dv{w:Nat}(a:1<=w){h s:Tx}(b:h.length=w-1):cx (h++s) w=nw w h s:=by rw[wU _ _ a,Gy w a s h ∅,dy,show h.length+s.length+1-w=s.length by lia];refine kM λi _=>?_;rw[show h.length+1-w+i=i by lia]
theorem Ld{z:Tx}{w:Nat}{x:Tx}(a:x∈cx z w):x.length=w/\∀c∈x,c∈z:=by simp only[cx,eJ,xS,xT,decide_eq_true_eq]at a;obtain⟨i,⟨_,h⟩,rfl⟩:=a;exact⟨by rw[jy,kL];lia,λc b=>uB (p6 b)⟩
def gU(w:Nat):Nat->Tx->List Tx->List Tx
 |0,t,_=>[t]
 |r+1,t,q=>bo.flatMap λc=>if t.drop (t.length+1-w)++[c]∈q then gU w r (t++[c]) (q.erase (t.drop (t.length+1-w)++[c]))else []
theorem C1(w:Nat):∀(r:Nat) (t:Tx) (q:List Tx),q.length=r->gU w r t q=((eA r).filter λs=>(nw w t s).isPerm q).map (t++·)
 |0,t,q,hq=>by have:q=[]:=HZ.mp hq;subst this;simp[gU,eA,nw,List.isPerm]
 |r+1,t,q,hq=>by
  simp only[gU,eA,List.filter_flatMap,List.map_flatMap];congr 1;funext c;rw[List.filter_map,eU];by_cases h:t.drop (t.length+1-w)++[c]∈q
  .rw[if_pos h,C1 w r (t++[c]) _ (by rw[List.length_erase_of_mem h,hq];rfl)];have e:((λs=>(nw w t s).isPerm q) ∘ λx=>c::x)=λs=>(nw w (t++[c]) s).isPerm (q.erase (t.drop (t.length+1-w)++[c])):=by funext s;show(q.contains (t.drop (t.length+1-w)++[c])&&(nw w (t++[c]) s).isPerm (q.erase (t.drop (t.length+1-w)++[c])))=_;rw[Ia.mpr h,ur]
   rw[e];refine kM λs _=>?_;simp
  .rw[if_neg h];have e:((λs=>(nw w t s).isPerm q) ∘ λx=>c::x)=λ_=>aj:=by
    funext s;show(q.contains (t.drop (t.length+1-w)++[c])&&(nw w (t++[c]) s).isPerm (q.erase (t.drop (t.length+1-w)++[c])))=_;have:q.contains (t.drop (t.length+1-w)++[c])=aj:=by rw[yq];intro z;exact h (Ia.mp z)
    rw[this,BS]
   rw[e];simp
def ko(w:Nat)(a:List Tx):List Tx:=(bG (fk (a.map p9))).flatMap λh=>gU w a.length h a
theorem NH{a b:Type}{l:List a}{f:a->List b}(p:a->Bool)(h:∀x∈l,p x=aj->f x=[]):l.flatMap f=(l.filter p).flatMap f:=by
 induction l with
 |nil=>rfl
 |cons x l c=>
  rw[uz,c λy d=>h y (by simp[d]),yv];cases e:p x with
  |true=>simp
  |false=>rw[h x (by simp) e];simp
theorem P0{w:Nat}{a:List Tx}(g:1<=w)(C:1<=a.length)(j:∀x∈a,x.length=w/\∀c∈x,c∈bo):ko w a=(eA (w-1+a.length)).filter λz=>(cx z w).isPerm a:=by
 rw[Nf,List.filter_flatMap];have A:(λh=>((eA a.length).map (h++·)).filter λz=>(cx z w).isPerm a)=λh=>((eA a.length).filter λs=>(cx (h++s) w).isPerm a).map (h++·):=by funext h;rw[List.filter_map];rfl
 rw[A,NH (λh=>decide (h∈a.map p9))]
 .have v:(eA (w-1)).filter (λh=>decide (h∈a.map p9))=bG (fk (a.map p9)):=by
   refine A4 ?_ ((Jl (w-1)).filter _);refine(List.perm_ext_iff_of_nodup ((M6 (w-1)).filter _) (Rb _)).mpr λx=>?_;rw[xS,decide_eq_true_eq,s_,tE];refine⟨λh=>h.2,λh=>⟨?_,h⟩⟩;obtain⟨y,d,rfl⟩:=eJ.mp h;obtain⟨t,r⟩:=j y d;exact⟨by rw[Cs,t],λc q=>r c ((List.dropLast_sublist _).mem q)⟩
  rw[v];unfold ko;have:∀l:List Tx,(∀h∈l,h.length=w-1)->l.flatMap (λh=>gU w a.length h a)=l.flatMap λh=>((eA a.length).filter λs=>(cx (h++s) w).isPerm a).map (h++·):=by
   intro l
   induction l with
   |nil=>intro _;rfl
   |cons h l n=>
    intro b;rw[uz,uz,n λy d=>b y (by simp[d]),C1 w _ h a rfl];have u:(λs=>(nw w h s).isPerm a)=λs=>(cx (h++s) w).isPerm a:=by funext s;rw[Dv g (b h (by simp))]
    rw[u]
  refine this _ λh b=>?_;have p:=(s_ _ _).mp ((nI _).mem_iff.mp b);obtain⟨y,d,rfl⟩:=eJ.mp p;rw[Cs,(j y d).1]
 .intro h b i;have B:=((tE _ h).mp b).1;rw[List.map_eq_nil_iff,List.filter_eq_nil_iff];intro s o f;have m:=((tE _ s).mp o).1;rw[Dv g B,List.isPerm_iff]at f;cases s with
  |nil=>rw[m8]at m;lia
  |cons c s=>rw[nw,show h.length+1-w=0 by lia,yd]at f;have:h++[c]∈a:=f.mem_iff.mp (by simp);rw[decide_eq_false_iff_not]at i;exact i (eJ.mpr ⟨_,this,by simp⟩)
def unD(w:Nat)(a:List Tx)(t:Tx):Bool:=(cx t w).all λx=>decide ((cx t w).count x<=a.count x)
end Mx
namespace Sh
open L2 Pu Mx
theorem eD{a:Type}{f:List PV->Option a}{b:af->R (List PV)}{ε ε1:af}{xs:List PV}{v:a}(h:b ε=.ok xs ε1)(c:f xs=aa v):dL f b ε=.ok v ε1:=by unfold dL;rw[h];show aR (f xs) ε1=_;rw[c];rfl
theorem c6{d:af->R PV}{b:af->R (List PV)}{ε ε1 a:af}{x:PV}{xs:List PV}(h:d ε=.ok x ε1)(c:b ε1=.ok xs a):ak d b ε=.ok (x::xs) a:=by unfold ak;rw[h];show(b ε1).bind _=_;rw[c];rfl
theorem d4{ε:af}:au ε=.ok [] ε:=rfl
theorem bJ(pv:PV)(ε:af):dC pv ε=.ok pv ε:=rfl
theorem cP{f:PV->PV->Option PV}{da db:af->R PV}{ε b a:af}{x y z:PV}(h:da ε=.ok x b)(d:db b=.ok y a)(c:f x y=aa z):d2 f da db ε=.ok z a:=by unfold d2;rw[h];show(db b).bind _=_;rw[d];show aR (f x y) a=_;rw[c];rfl
section
theorem An{ls:List Tx}(h:ls.length<64):jV [.lst (ap ls)]=aa (.lst (ap (bG ls))):=by show(fu (ap ls)).bind _=_;rw[o_,g9,if_pos h]
end
section
variable{a:Ad}
abbrev bP(ns:List Int):Slot:=.val (.lst (ns.map .int))
theorem GN(b:List Int)(k:Int)(d:0<=k)(h:k<b.length):∃v,dU (b.map PV.int) k=aa (.int v):=by
 have c:k.toNat<b.length:=∅
 refine⟨b[k.toNat],?_⟩;rw[AS d (by rw[c0];exact c)];simp
theorem zL(b:List Int):Pu.eqT aj (.lst (b.map .int)) (.lst [])=aa (.bl b.isEmpty):=by
 cases b with
 |nil=>rfl
 |cons x xs=>
  have d:∀l:List Int,fN (l.map .int)=0:=λl=>by induction l with|nil=>rfl|cons y l c=>simp[fN,dep,c]
  have:fN ((x::xs).map .int)=0:=d _;simp only[gH]at this;simp[Pu.eqT,dS,cp,fq,dep,this]
theorem mz(b:Bool)(i j:Int):Pu.eqT b (.int i) (.int j)=aa (.bl (b^^decide (i=j))):=by show(if pB (V.int i) (V.int j)then aa (PV.bl (b^^decide (V.int i=V.int j)))else ac)=_;have:pB (V.int i) (V.int j)=ah:=rfl;rw[if_pos this];simp
theorem Mo(b:Bool)(x y:Tx):Pu.eqT b (.str x) (.str y)=aa (.bl (b^^decide (x=y))):=by show(if pB (tV x) (tV y)then aa (PV.bl (b^^decide (tV x=tV y)))else ac)=_;have:pB (tV x) (tV y)=ah:=rfl;rw[if_pos this];have e:(tV x=tV y)=(x=y):=propext ⟨LV,λh=>by rw[h]⟩;simp only[e]
theorem Jz(b:List Int)(k:Int)(i:0<=k):∃v,qG a [bP b,⇑k]=.ok (⇑v) [bP b,⇑k]:=by
 by_cases h:k<b.length
 .obtain⟨v,c⟩:=GN b k i h;refine⟨v,?_⟩;simp![qG,yaE,aY,bE,c,h]
 .have e:=zL b;by_cases d:b=[]
  .subst d;refine⟨0,?_⟩;simp only[B6,Ib]at e;have j:¬k<0:=∅
   simp![qG,yaE,aY,bE,e,j]
  .have f:0<b.length:=by cases b with|nil=>exact absurd rfl d|cons=>simp
   obtain⟨v,c⟩:=GN b (k % b.length) (Int.emod_nonneg _ ∅) (Ic _ ∅);refine⟨v*31+k,?_⟩;have l:b.isEmpty=aj:=by cases b with|nil=>exact absurd rfl d|cons=>rfl
   rw[l]at e;have g:gx (.int k) (.int (b.length:Int))=aa (.int (k % b.length)):=by simp[gx];lia
   have m:eM (.int v) (.int 31)=aa (.int (v*31)):=by simp[eM,oz]
   simp![qG,yaE,aY,bE,h,e,g,c,m,aU]
theorem zO{c:Type}(b:List c)(v:Int)(f:0<=v)(g:v<b.length):∃x∈b,dU b v=aa x:=by
 have d:v.toNat<b.length:=∅
 exact⟨b[v.toNat],Cd _,AS f d⟩
theorem lz{n:Nat}(h:n<=1000000):dX [.int n]=aa (cf 0 n):=by show(if(n:Int)<=1000000/\-1000000<=(n:Int)then aa (cf 0 (n:Int).toNat)else ac)=_;rw[if_pos ⟨∅,∅⟩];simp
theorem tf{x y:Tx}(h:x.length+y.length<=bS):aU (.str x) (.str y)=aa (.str (x++y)):=by show(if(x++y).length<=bS then aa (PV.str (x++y))else ac)=_;rw[if_pos (by rw[dy];exact h)]
theorem b9{d1 d2:af->R aJ}{ε ε1:af}(h:d1 ε=.ok .next ε1):aF d1 d2 ε=d2 ε1:=by unfold aF;rw[h]
theorem ir{i:Nat}{d:af->R PV}{ε ε1:af}{x:PV}(h:d ε=.ok x ε1):bz i d ε=.ok .next (ε1.set i (.val x)):=by unfold bz;rw[h];rfl
theorem vH{i:Nat}{db:af->R aJ}{I:Nat->af->Prop}{N:Nat}(step:∀k c x,k<N->I k c->∃b,db (c.set i (.val x))=.ok .next b/\I (k+1) b):∀(xs:List PV) (k:Nat) (c:af),k+xs.length<=N->I k c->∃b,gF i db xs c=.ok .next b/\I (k+xs.length) b
 |[],k,c,_,h=>⟨c,rfl,h⟩
 |x::xs,k,c,f,h=>by simp only[eR]at f;obtain⟨ε1,m,j⟩:=step k c x ∅ h;obtain⟨d,l,g⟩:=vH step xs (k+1) ε1 ∅ j;refine⟨d,by unfold gF;rw[m];exact l,?_⟩;rw[eR,show k+(xs.length+1)=k+1+xs.length by lia];exact g
theorem ri{i:Nat}{db:af->R aJ}{I:List PV->af->Prop}(step:∀(x:PV) (r:List PV) ε,I (x::r) ε->∃b,db (ε.set i (.val x))=.ok .next b/\I r b):∀(xs:List PV) (ε:af),I xs ε->∃b,gF i db xs ε=.ok .next b/\I [] b
 |[],ε,h=>⟨ε,rfl,h⟩
 |x::xs,ε,h=>by obtain⟨d,l,g⟩:=step x xs ε h;obtain⟨c,j,f⟩:=ri step xs d g;exact⟨c,by unfold gF;rw[l];exact j,f⟩
theorem nP{cap:List Nat}{dt:af->R Bool}{de:af->R PV}{ε:af}(p:PV->Bool)(f:PV->PV):∀(xs:List PV),(∀x∈xs,bu (dq cap dt x ε)=.ok (p x) ε/\(p x=ah->bu (dq cap de x ε)=.ok (f x) ε))->∀b,ku cap dt de xs b ε=.ok (b++(xs.filter p).map f) ε
 |[],_,b=>by simp[ku]
 |x::xs,h,b=>by
  have g:=h x (by simp);have d:=nP p f xs (λy i=>h y (by simp[i]));unfold ku;rw[g.1];simp only[R.bind_ok];cases c:p x with
  |false=>simp only[d b,yv,c];simp
  |true=>simp only[g.2 c,R.bind_ok,d (b++[f x]),yv,c];simp
theorem EW{z:Tx}{i w:Nat}(h:i+w<=z.length):cE z (aa (i:Int)) (aa ((i:Int)+w))=(z.drop i).take w:=by
 unfold cE;have c:HT.sIx z.length 0 (aa (i:Int))=i:=by rw[HT.sIx_nat];lia
 have b:HT.sIx z.length z.length (aa ((i:Int)+w))=i+w:=by rw[show(i:Int)+w=((i+w:Nat):Int) by lia,HT.sIx_nat];lia
 rw[c,b,Nat.add_sub_cancel_left]
theorem CK{z:Tx}{w:Nat}:∀x∈cx z w,x.length=w/\∀c∈x,c∈z:=by intro x b;simp only[cx,eJ,xS,xT,decide_eq_true_eq]at b;obtain⟨i,⟨_,h⟩,rfl⟩:=b;exact⟨by rw[jy,kL];lia,λc d=>uB (p6 d)⟩
theorem P5{z:Tx}{w m:Nat}(c:1<=w)(f:w<=z.length)(d:z.length<=w+m):1<=(cx z w).length/\(cx z w).length<=m+1:=by
 unfold cx;rw[c0];have:∀n,((cy n).filter λi=>decide (i+w<=z.length)).length=min n (z.length+1-w):=by
  intro n
  induction n with
  |zero=>simp
  |succ n b=>
   rw[yb,List.filter_append,dy,b];by_cases h:n+w<=z.length
   .simp[List.filter,h];lia
   .simp[List.filter,h];lia
 rw[this];lia
structure Good(l:Tx)(w:Nat)(ls:List Tx):Prop where
 len:∀x∈ls,x.length=w
 abc:∀x∈ls,∀c∈x,c∈l
 some:1<=ls.length
 few:ls.length<=9
theorem Good.perm{l:Tx}{w:Nat}{c b:List Tx}(g:Good l w c)(p:b.Perm c):Good l w b:=⟨λx h=>g.len x (p.mem_iff.mp h),λx h=>g.abc x (p.mem_iff.mp h),by rw[p.length_eq];exact g.some,by rw[p.length_eq];exact g.few⟩
theorem gC(ls:List Tx):(ap ls).length=ls.length:=by simp[ap]
theorem EB(ls:List Tx):mq (ap ls)=ah:=by
 induction ls with
 |nil=>rfl
 |cons x ls b=>show(imm (.str x)&&mq (ap ls))=ah;rw[b];rfl
theorem xz(ls b:List Tx):ap ls++ap b=ap (ls++b):=by simp[ap]
theorem sU{b:Type}(xs:List b)(n:Nat):cE xs ac (aa (n:Int))=xs.take n:=by
 unfold cE;have c:HT.sIx xs.length 0 ac=0:=rfl;rw[c,HT.sIx_nat,yd,Nat.sub_zero];by_cases h:n<=xs.length
 .rw[Nat.min_eq_left h]
 .rw[Nat.min_eq_right ∅,rJ (bv _),rJ ∅]
theorem tq{b:Type}(xs:List b)(n:Nat):cE xs (aa (n:Int)) ac=xs.drop n:=by
 unfold cE;have c:HT.sIx xs.length xs.length ac=xs.length:=rfl;rw[c,HT.sIx_nat];by_cases h:n<=xs.length
 .rw[Nat.min_eq_left h,rJ (by rw[kL];lia)]
 .rw[Nat.min_eq_right ∅,List.drop_of_length_le ∅,List.drop_of_length_le ∅];simp
def Wn(w:Nat)(b:List Tx):Prop:=∀x∈b,x.length=w/\∀c∈x,c∈bo
theorem e_{t T:String}{b:Bool}{x:PV}(h:oE x=aa t)(e:cK [] (.type t) (.type T)=aa b):bQ [x,.raw (.ty T)]=aa (.bl b):=by show((oE x).bind λt=>(cK [] (.type t) (.type T)).map λb=>PV.bl b)=_;rw[h,g9,e];rfl
theorem Fz:cK [] (.type "int") (.type "int")=aa ah:=by decide +kernel
theorem Gr:cK [] (.type "int") (.type "bool")=aa aj:=by decide +kernel
theorem Ee:cK [] (.type "bool") (.type "int")=aa ah:=by decide +kernel
theorem G4:cK [] (.type "bool") (.type "bool")=aa ah:=by decide +kernel
theorem FN:cK [] (.type "str") (.type "int")=aa aj:=by decide +kernel
theorem qK:cK [] (.type "str") (.type "str")=aa ah:=by decide +kernel
theorem C0:cK [] (.type "int") (.type "str")=aa aj:=by decide +kernel
theorem pb:cK [] (.type "tuple") (.type "tuple")=aa ah:=by decide +kernel
theorem Om:cK [] (.type "int") (.type "tuple")=aa aj:=by decide +kernel
theorem J8(bs:List Bool):lY (bs.map .bl)=aa bs:=by
 induction bs with
 |nil=>rfl
 |cons b bs c=>show(lY (bs.map .bl)).map (b::·)=_;rw[c];rfl
theorem sT(bs:List Bool):mB [.lst (bs.map .bl)]=aa (.bl (bs.all id)):=by show(lY (bs.map .bl)).map _=_;rw[J8];rfl
theorem Ah(z s:Tx):tZ a [↥z,↥s]=.ok (.val (.bl (z.all s.contains))) [↥z,↥s]:=by
 have b:=nP (cap:=[1]) (dt:=cA) (de:=(d2 (kb aj) (dV 0) (dV 1))) (ε:=[↥z,↥s]) (λ_=>ah) (λx=>match x with|.str [c]=>.bl (s.contains c)|_=>.non) (z.map λc=>.str [c])
  (by
   intro x h;obtain⟨c,_,rfl⟩:=eJ.mp h;refine⟨by simp![dq,dD,bu,cA],λ_=>?_⟩;have g:kb aj (.str [c]) (.str s)=aa (.bl (s.contains c)):=by rw[<-Dh];simp[kb]
   simp![dq,dD,bu,g]) []
 have i:((z.map λc=>PV.str [c]).filter (λ_=>ah)).map (λx=>match x with|.str [c]=>PV.bl (s.contains c)|_=>.non)=(z.map s.contains).map .bl:=by rw[nj.mpr (by simp),eU,eU];rfl
 rw[lN,i]at b;have d:(z.map s.contains).all id=z.all s.contains:=by rw[pX];rfl
 generalize z.map s.contains=bs at b d;have f:=sT bs;rw[d]at f;simp![tZ,yat,cU,cL,ox,b,f]
def eW(w:Int)(s z:Tx):Bool:=decide ((z.length:Int)=w)&&z.all s.contains
theorem Dw(z s:Tx)(w:Int):ou a [↥z,⇑w,↥s]=.ok (.val (.bl (eW w s z))) [↥z,⇑w,↥s]:=by
 have d:bQ [.str z,.raw (.ty "str")]=aa (.bl ah):=e_ rfl qK;have f:=Ah (a:=a) z s;have c:aY [.str z]=aa (.int (z.length:Nat)):=rfl;have b:=mz aj (z.length:Nat) w;unfold eW;by_cases h:((z.length:Nat):Int)=w
 .simp only[h,decide_true,Bool.xor_true,Cu]at b;simp![ou,yaB,d,c,b,f,h]
 .simp only[h,decide_false,Bool.xor_false]at b;simp![ou,yaB,d,c,b,h]
theorem Dd(d c:List Tx):fq (ap d) (ap c)=aa (decide (d=c)):=by
 induction d generalizing c with
 |nil=>cases c <;> simp[ap,fq]
 |cons x d f=>
  cases c with
  |nil=>simp[ap,fq]
  |cons y c=>
   show(cp (.str x) (.str y)).bind (λa=>(fq (ap d) (ap c)).map λb=>a&&b)=_;rw[f];have:cp (.str x) (.str y)=aa (decide (x=y)):=by
    show aa (tS x == tS y)=_;by_cases h:x=y
    .subst h;simp
    .have:tS x≠tS y:=λz=>h (vS z);simp[h,this]
   rw[this];simp[rR]
theorem Dq(b:List Tx):fN (ap b)=0:=by
 induction b with
 |nil=>rfl
 |cons x b c=>show max (dep (.str x)) (fN (ap b))=0;rw[c];rfl
theorem GL(b:Bool)(c d:List Tx):Pu.eqT b (.lst (ap c)) (.lst (ap d))=aa (.bl (b^^decide (c=d))):=by show(if dep (.lst (ap c))<=8 then(fq (ap c) (ap d)).map (λk=>PV.bl (b^^k))else ac)=_;rw[if_pos (by show fN (ap c)+1<=8;rw[Dq];decide),Dd];rfl
theorem KA(b:List Tx)(w:Int)(s:Tx)(t:1<=b.length)(r:b.length<=9):lv a [.val (.tup (ap b)),⇑w,↥s]=.ok (.val (.bl (b.all (eW w s)&&decide (b=bG b)))) [.val (.tup (ap b)),⇑w,↥s]:=by
 have h:bQ [.tup (ap b),.raw (.ty "tuple")]=aa (.bl ah):=e_ rfl pb;have i:aY [.tup (ap b)]=aa (.int (b.length:Nat)):=by simp[aY,gC]
 have m:(1:Int)<=(b.length:Nat):=∅
 have l:((b.length:Nat):Int)<=9:=∅
 have d:=nP (cap:=[1,2]) (dt:=cA) (de:=(aM (aC (ou a) (gV (dV 0) (gV (dV 1) (gV (dV 2) (Pu.aW))))))) (ε:=[.val (.tup (ap b)),⇑w,↥s]) (λ_=>ah) (λx=>match x with|.str z=>.bl (eW w s z)|_=>.non) (ap b)
  (by intro x o;obtain⟨z,_,rfl⟩:=eJ.mp o;refine⟨by simp![dq,dD,bu,cA],λ_=>?_⟩;have p:=Dw (a:=a) z s w;simp![dq,dD,bu,p]) []
 have q:((ap b).filter (λ_=>ah)).map (λx=>match x with|.str z=>PV.bl (eW w s z)|_=>.non)=(b.map (eW w s)).map .bl:=by rw[nj.mpr (by simp)];unfold ap;rw[eU,eU];rfl
 rw[lN,q]at d;have g:(b.map (eW w s)).all id=b.all (eW w s):=by rw[pX];rfl
 generalize b.map (eW w s)=bs at d g;have f:=sT bs;have n:b.length<64:=∅
 have c:=GL aj b (bG b);cases j:b.all (eW w s)with
 |false=>rw[g,j]at f;simp![lv,yal,h,i,m,l,cU,cL,ox,d,f]
 |true=>rw[g,j]at f;simp only[Bool.false_xor]at c;simp![lv,yal,h,i,m,l,cU,cL,ox,d,f,lw,jV,o_,n,c]
theorem Rt(b:List Tx)(w:Int)(s:Tx)(h:b.length=0\/9<b.length):lv a [.val (.tup (ap b)),⇑w,↥s]=.ok (.val (.bl aj)) [.val (.tup (ap b)),⇑w,↥s]:=by
 have c:bQ [.tup (ap b),.raw (.ty "tuple")]=aa (.bl ah):=e_ rfl pb;have d:aY [.tup (ap b)]=aa (.int (b.length:Nat)):=by simp[aY,gC]
 by_cases f:(1:Int)<=(b.length:Nat)
 .have g:¬((b.length:Nat):Int)<=9:=∅
  simp![lv,yal,c,d,f,g]
 .simp![lv,yal,c,d,f]
theorem P_(i:Int):jk a [⇑i]=.ok (.val (.bl ah)) [⇑i]:=by have c:bQ [.int i,.raw (.ty "int")]=aa (.bl ah):=e_ rfl Fz;have b:bQ [.int i,.raw (.ty "bool")]=aa (.bl aj):=e_ rfl Gr;simp![jk,yaz,c,b]
theorem Kk(b:Bool):jk a [.val (.bl b)]=.ok (.val (.bl aj)) [.val (.bl b)]:=by have d:bQ [.bl b,.raw (.ty "int")]=aa (.bl ah):=e_ rfl Ee;have c:bQ [.bl b,.raw (.ty "bool")]=aa (.bl ah):=e_ rfl G4;simp![jk,yaz,d,c]
theorem K7(x:Tx):jk a [↥x]=.ok (.val (.bl aj)) [↥x]:=by have b:bQ [.str x,.raw (.ty "int")]=aa (.bl aj):=e_ rfl FN;simp![jk,yaz,b]
theorem nR(i:Int):kD a [⇑i]=.ok (.val (.bl (decide (1<=i/\i<=4)))) [⇑i]:=by
 have h:=P_ (a:=a) i;by_cases b:1<=i
 .by_cases c:i<=4
  .simp![kD,yaA,h,b,c]
  .simp![kD,yaA,h,b,c]
 .simp![kD,yaA,h,b]
theorem we{x:PV}(h:jk a [.val x]=.ok (.val (.bl aj)) [.val x]):kD a [.val x]=.ok (.val (.bl aj)) [.val x]:=by simp![kD,yaA,h]
def qm(s:Tx)(w:Int)(b:List Tx):Bool:=decide (1<=w/\w<=4)&&(decide (1<=b.length/\b.length<=9)&&(b.all (eW w s)&&decide (b=bG b)))
theorem RA(s:Tx)(w:Int)(b:List Tx):iK a [.val (.tup [.int w,.tup (ap b)]),↥s]=.ok (.val (.bl (qm s w b))) [.val (.tup [.int w,.tup (ap b)]),↥s]:=by
 have h:bQ [.tup [.int w,.tup (ap b)],.raw (.ty "tuple")]=aa (.bl ah):=e_ rfl pb;have l:aY [.tup [.int w,.tup (ap b)]]=aa (.int 2):=rfl;have f:=mz ah 2 2;simp only[decide_true,yw,yx]at f;have j:bE (.tup [.int w,.tup (ap b)]) (.int 0)=aa (.int w):=rfl;have i:bE (.tup [.int w,.tup (ap b)]) (.int 1)=aa (.tup (ap b)):=rfl;have d:=nR (a:=a) w;unfold qm;by_cases c:1<=w/\w<=4
 .rw[decide_eq_true c]at d ⊢;by_cases g:1<=b.length/\b.length<=9
  .have m:=KA (a:=a) b w s g.1 g.2;rw[decide_eq_true g];simp![iK,yay,h,l,f,j,i,d,m]
  .have m:=Rt (a:=a) b w s ∅;rw[decide_eq_false g];simp![iK,yay,h,l,f,j,i,d,m]
 .rw[decide_eq_false c]at d ⊢;simp![iK,yay,h,l,f,j,i,d]
abbrev vw(w:Int)(b:List Tx):Bool:=qm bo w b
theorem zN(w:Int)(b:List Tx):kt a [.val (.tup [.int w,.tup (ap b)])]=.ok (.val (.bl (vw w b))) [.val (.tup [.int w,.tup (ap b)])]:=by have c:=RA (a:=a) bo w b;simp only[bo]at c;simp![kt,yax,c];rfl
theorem PU{w:Int}{b:List Tx}(h:vw w b=ah):kh a [.val (.tup [.int w,.tup (ap b)])]=.ok (.val .non) [.val (.tup [.int w,.tup (ap b)])]:=by have c:=zN (a:=a) w b;rw[h]at c;simp![kh,yap,c]
theorem Good.vw{w:Nat}{d:List Tx}(g:Good bo w d)(n:1<=w)(m:w<=4)(h:d.Pairwise (λa b=>dP a b=ah)):vw w d=ah:=by
 have l:d.all (eW w bo)=ah:=by rw[j7];intro x f;unfold eW;rw[g.len x f,decide_eq_true rfl,ur,j7];intro c i;simpa using g.abc x f c i
 have j:decide (d=bG d)=ah:=decide_eq_true (Gg h).symm;show qm bo w d=ah;unfold qm;rw[l,j,decide_eq_true (show 1<=(w:Int)/\(w:Int)<=4 by lia),decide_eq_true (show 1<=d.length/\d.length<=9 from⟨g.some,g.few⟩)];rfl
theorem ES{x:PV}(h:iK a [.val x,↥bo]=.ok (.val (.bl aj)) [.val x,↥bo]):kt a [.val x]=.ok (.val (.bl aj)) [.val x]:=by simp only[bo]at h;simp![kt,yax,h]
theorem I_{x:PV}(h:kt a [.val x]=.ok (.val (.bl aj)) [.val x]):kh a [.val x]=.er (.ref a.NoView) [.val x]:=by simp![kh,yap,h,ke,bu]
theorem Iy(s:Tx){x:PV}{t:String}(h:oE x=aa t)(e:cK [] (.type t) (.type "tuple")=aa aj):iK a [.val x,↥s]=.ok (.val (.bl aj)) [.val x,↥s]:=by have b:=e_ (T:="tuple") h e;simp![iK,yay,b]
theorem zX(s:Tx){xs:List PV}(h:xs.length≠2):iK a [.val (.tup xs),↥s]=.ok (.val (.bl aj)) [.val (.tup xs),↥s]:=by
 have c:bQ [.tup xs,.raw (.ty "tuple")]=aa (.bl ah):=e_ rfl pb;have d:aY [.tup xs]=aa (.int (xs.length:Nat)):=rfl;have b:=mz ah (xs.length:Nat) 2;have:¬((xs.length:Nat):Int)=2:=∅
 simp only[this,decide_false,yw,Cu]at b;simp![iK,yay,c,d,b]
theorem yX(s:Tx){x y:PV}(h:kD a [.val x]=.ok (.val (.bl aj)) [.val x]):iK a [.val (.tup [x,y]),↥s]=.ok (.val (.bl aj)) [.val (.tup [x,y]),↥s]:=by have c:bQ [.tup [x,y],.raw (.ty "tuple")]=aa (.bl ah):=e_ rfl pb;have f:aY [.tup [x,y]]=aa (.int 2):=rfl;have b:=mz ah 2 2;simp only[decide_true,yw,yx]at b;have d:bE (.tup [x,y]) (.int 0)=aa x:=rfl;simp![iK,yay,c,f,b,d,h]
theorem N7(s:Tx){w:Int}{y:PV}(i:1<=w/\w<=4)(h:lv a [.val y,⇑w,↥s]=.ok (.val (.bl aj)) [.val y,⇑w,↥s]):iK a [.val (.tup [.int w,y]),↥s]=.ok (.val (.bl aj)) [.val (.tup [.int w,y]),↥s]:=by have d:bQ [.tup [.int w,y],.raw (.ty "tuple")]=aa (.bl ah):=e_ rfl pb;have j:aY [.tup [.int w,y]]=aa (.int 2):=rfl;have c:=mz ah 2 2;simp only[decide_true,yw,yx]at c;have g:bE (.tup [.int w,y]) (.int 0)=aa (.int w):=rfl;have f:bE (.tup [.int w,y]) (.int 1)=aa y:=rfl;have b:=nR (a:=a) w;rw[decide_eq_true i]at b;simp![iK,yay,d,j,c,g,f,b,h]
end
def cY(m:List (Tx×Int))(x:Tx):Option Int:=(m.find? λp=>decide (p.1=x)).map (·.2)
def dH(m:List (Tx×Int))(x:Tx)(n:Int):List (Tx×Int):=if(m.any λp=>decide (p.1=x))=ah then m.map (λp=>if p.1=x then(p.1,n)else p)else m++[(x,n)]
def dk(m:List (Tx×Int)):List (aX×PV):=m.map λp=>(Sum.inr (tS p.1),PV.int p.2)
theorem Bz(x y:Tx):((Sum.inr (tS x):aX)=Sum.inr (tS y))=(x=y):=propext ⟨λh=>vS (Sum.inr.inj h),λh=>by rw[h]⟩
theorem vn(m:List (Tx×Int))(x:Tx):mf (dk m) (Sum.inr (tS x))=(cY m x).map .int:=by
 induction m with
 |nil=>rfl
 |cons p m a=>
  show((List.find? _ ((Sum.inr (tS p.1),PV.int p.2)::dk m)).map (·.2))=_;unfold cY;rw[j6,j6];simp only[Bz];by_cases h:p.1=x
  .simp[h]
  .simp only[h,decide_false];exact a
theorem QY(m:List (Tx×Int))(x:Tx):((dk m).any λa=>decide (a.1=(Sum.inr (tS x):aX)))=m.any λp=>decide (p.1=x):=by unfold dk;rw[List.any_map];congr 1;funext p;simp only[uA,Bz]
theorem zv(m:List (Tx×Int))(x:Tx)(n:Int):qo (dk m) (Sum.inr (tS x)) (.int n)=dk (dH m x n):=by
 unfold qo dH;rw[QY];split
 .unfold dk;rw[eU,eU];refine kM λp _=>?_;simp only[uA,Bz];split <;> rfl
 .unfold dk;simp
theorem FJ(m:List (Tx×Int)):pF (dk m)=aa (m.any λp=>decide (p.2≠0)):=by
 induction m with
 |nil=>rfl
 |cons p m a=>show(pF (dk m)).map _=_;rw[a];simp
theorem y9{m:List (Tx×Int)}{x:Tx}(h:(m.any λp=>decide (p.1=x))=aj):cY m x=ac:=by unfold cY;rw[Option.map_eq_none_iff,List.find?_eq_none];intro p a;have:=Hh.mp h p a;simpa using this
theorem L9{m:List (Tx×Int)}{x y:Tx}{n:Int}(h:(m.any λp=>decide (p.1=x))=aj):cY (m++[(x,n)]) y=if y=x then aa n else cY m y:=by
 have a:=y9 h;unfold cY at a ⊢;rw[List.find?_append];by_cases e:y=x
 .subst e;rw[Option.map_eq_none_iff]at a;simp[a]
 .rw[if_neg e];have:¬x=y:=λz=>e z.symm;cases b:m.find? (λp=>decide (p.1=y))with
  |none=>simp[this]
  |some p=>simp
theorem Ju{m:List (Tx×Int)}{x y:Tx}{n:Int}:cY (m.map λp=>if p.1=x then(p.1,n)else p) y=(cY m y).map λz=>if y=x then n else z:=by
 induction m with
 |nil=>rfl
 |cons p m a=>
  unfold cY at a ⊢;rw[gH,j6,j6];by_cases h:p.1=x
  .rw[if_pos h];by_cases e:p.1=y
   .simp[e,show y=x from e.symm.trans h]
   .simp only[e,decide_false];exact a
  .rw[if_neg h];by_cases e:p.1=y
   .simp[e,show ¬y=x from λz=>h (e.trans z)]
   .simp only[e,decide_false];exact a
theorem Ri{m:List (Tx×Int)}{x:Tx}(h:(m.any λp=>decide (p.1=x))=ah):∃n,cY m x=aa n:=by
 unfold cY;cases a:m.find? (λp=>decide (p.1=x))with
 |none=>rw[List.find?_eq_none]at a;obtain⟨p,c,b⟩:=yz.mp h;exact absurd b (a p c)
 |some p=>exact⟨_,rfl⟩
theorem yN(m:List (Tx×Int))(x y:Tx)(n:Int):cY (dH m x n) y=if y=x then aa n else cY m y:=by
 unfold dH;by_cases h:(m.any λp=>decide (p.1=x))=ah
 .rw[if_pos h,Ju];by_cases e:y=x
  .subst e;obtain⟨k,a⟩:=Ri h;rw[a];simp
  .simp[e]
 .rw[if_neg h,L9 (yq.mpr h)]
structure n_(m:List (Tx×Int))(q:List Tx):Prop where
 nd:(m.map (·.1)).Nodup
 get:∀x,(cY m x).getD 0=(q.count x:Nat)
theorem n_.mem{m:List (Tx×Int)}{q:List Tx}(h:n_ m q){p:Tx×Int}(a:p∈m):cY m p.1=aa p.2:=by
 have b:=h.nd;clear h
 induction m with
 |nil=>cases a
 |cons r m c=>
  unfold cY;rw[j6];rcases bV.mp a with rfl|a
  .simp
  .rw[gH,mS]at b;have:¬r.1=p.1:=λz=>b.1 (eJ.mpr ⟨p,a,z.symm⟩);simp only[this,decide_false];exact c a b.2
theorem D3{m:List (Tx×Int)}{x:Tx}{n:Int}:(dH m x n).map (·.1)=if(m.any λp=>decide (p.1=x))=ah then m.map (·.1)else m.map (·.1)++[x]:=by
 unfold dH;split
 .rw[eU];refine kM λp _=>?_;simp only[uA];split <;> rfl
 .simp
theorem ED{m:List (Tx×Int)}{x:Tx}{n:Int}(h:(m.map (·.1)).Nodup):((dH m x n).map (·.1)).Nodup:=by
 rw[D3];split
 .exact h
 .rename_i f;rw[List.nodup_append];refine⟨h,by simp,λa g b c=>?_⟩;rw[jD]at c;subst c;rintro rfl;obtain⟨p,d,rfl⟩:=eJ.mp g;exact f (yz.mpr ⟨p,d,by simp⟩)
theorem n_.any{m:List (Tx×Int)}{q:List Tx}(h:n_ m q):(m.any λp=>decide (p.2≠0))=!q.isEmpty:=by
 cases q with
 |nil=>rw[Ib,yx,Hh];intro p b;have a:=h.get p.1;rw[h.mem b]at a;simpa using a
 |cons x q=>
  rw[List.isEmpty_cons,Cu,yz];have a:=h.get x;rw[List.count_cons_self]at a;cases e:m.find? (λp=>decide (p.1=x))with
  |none=>unfold cY at a;rw[e]at a;simp at a;lia
  |some p=>unfold cY at a;rw[e]at a;refine⟨p,List.mem_of_find?_eq_some e,?_⟩;simp at a;simp;lia
theorem n_.dec{m:List (Tx×Int)}{q:List Tx}(h:n_ m q){x:Tx}(i:x∈q):∃n,cY m x=aa n/\0<n/\n_ (dH m x (n-1)) (q.erase x)/\cY (dH m x (n-1)) x=aa (n-1)/\dH (dH m x (n-1)) x (n-1+1)=m:=by
 have a:=h.get x;have o:0<q.count x:=List.count_pos_iff.mpr i;cases e:cY m x with
 |none=>rw[e]at a;simp at a;lia
 |some n=>
  rw[e]at a;simp only[Ie]at a;refine⟨n,rfl,∅,⟨ED h.nd,λy=>?_⟩,by rw[yN,if_pos rfl],?_⟩
  .rw[yN];by_cases c:y=x
   .subst c;rw[if_pos rfl,List.count_erase_self];simp only[Ie];lia
   .rw[if_neg c,List.count_erase_of_ne (eO (eO c))];exact h.get y
  .have f:(m.any λp=>decide (p.1=x))=ah:=by
    cases z:(m.any λp=>decide (p.1=x))with
    |true=>rfl
    |false=>rw[y9 z]at e;cases e
   have j:((dH m x (n-1)).any λp=>decide (p.1=x))=ah:=by unfold dH;rw[if_pos f];obtain⟨p,d,b⟩:=yz.mp f;refine yz.mpr ⟨_,eJ.mpr ⟨p,d,rfl⟩,?_⟩;rw[decide_eq_true_eq]at b;rw[if_pos b];simpa using b
   have l:dH (dH m x (n-1)) x (n-1+1)=(m.map λp=>if p.1=x then(p.1,n-1)else p).map λp=>if p.1=x then(p.1,n-1+1)else p:=by show(if((dH m x (n-1)).any λp=>decide (p.1=x))=ah then _ else _)=_;rw[if_pos j];unfold dH;rw[if_pos f]
   rw[l,eU];have:∀p∈m,((λp:Tx×Int=>if p.1=x then(p.1,n-1+1)else p) ∘ λp:Tx×Int=>if p.1=x then(p.1,n-1)else p) p=p:=by
    intro p d;simp only[uA];by_cases c:p.1=x
    .rw[if_pos c,if_pos c];have g:=h.mem d;rw[c,e]at g;cases g;rw[show p.2-1+1=p.2 by lia]
    .rw[if_neg c,if_neg c]
   rw[kM this,List.map_id''];intro p;rfl
theorem n_.zero{m:List (Tx×Int)}{q:List Tx}(h:n_ m q){x:Tx}(a:x∉q):(cY m x).getD 0=0:=by rw[h.get,R8 a];rfl
section
variable{a:Ad}
theorem Qo(b:List Tx)(F:b.length<=100):∃m,n_ m b/\m.length<=b.length/\t_ a [.val (.tup (ap b))]=.ok (.own (.dK (dk m))) [.val (.tup (ap b))]:=by
 obtain⟨v,u,m,g,l,rfl,f,j,A⟩:=ri (i:=2) (db:=(kY 1 (dV 2) (d2 aU (mE 1 (dV 2) (dC (.int 0))) (dC (.int 1)))))
  (I:=λr h=>∃(m:List (Tx×Int)) (g:Slot) (l:List Tx),h=[.val (.tup (ap b)),.own (.dK (dk m)),g]/\n_ m l/\m.length<=l.length/\∃q,b=l++q/\r=ap q)
  (by
   rintro x r h ⟨m,g,l,rfl,f,j,q,d,p⟩;cases q with
   |nil=>cases p
   |cons y q=>
    have n:x::r=.str y::ap q:=p;simp only[rR]at n;obtain⟨rfl,rfl⟩:=n;have E:m.length<bS:=by have:=congrArg jx d;simp at this;unfold bS;lia
    refine⟨[.val (.tup (ap b)),.own (.dK (dk (dH m y ((cY m y).getD 0+1)))),↥y],?_,dH m y ((cY m y).getD 0+1),_,l++[y],rfl,⟨ED f.nd,λz=>?_⟩,?_,q,by rw[d];simp,rfl⟩
    .have o:=vn m y;have s:=zv m y ((cY m y).getD 0+1);have t:(dk m).length<bS:=by unfold dk;rw[c0];exact E
     have B:((cY m y).map PV.int).getD (.int 0)=.int ((cY m y).getD 0):=by cases cY m y <;> rfl
     generalize dk m=D at o s t;simp![kY,mE,fA,kg,o,B,aU,t,s]
    .rw[yN];by_cases c:z=y
     .subst c;rw[if_pos rfl,List.count_append,List.count_singleton_self];have:=f.get z;simp only[Ie];lia
     .rw[if_neg c,List.count_append,f.get z];have:[y].count z=0:=R8 (by simpa using c);rw[this];rfl
    .have:(dH m y ((cY m y).getD 0+1)).length<=m.length+1:=by
      unfold dH;split <;> simp
     rw[dy,pW];lia)
  (ap b) [.val (.tup (ap b)),.own (.dK (dk [])),.none] ⟨[],.none,[],rfl,⟨by simp,λx=>by simp[cY]⟩,by simp,b,by simp,rfl⟩
 obtain⟨q,d,w⟩:=A;have:q=[]:=by cases q with|nil=>rfl|cons=>cases w
 subst this;rw[gI]at d;subst d;refine⟨m,f,j,?_⟩;have C:dk []=[]:=rfl;rw[C]at u;simp![t_,yar,sY,dm,cL,ox,eu,u,qS]
theorem Oi{t:Tx}{w:Nat}(b:w<=t.length+1)(c:1<=w):b7 (.str t) (aa ((t.length:Int)-w+1)) ac=aa (.str (t.drop (t.length+1-w))):=by show aa (PV.str (cE t _ ac))=_;rw[show((t.length:Int)-w+1)=((t.length+1-w:Nat):Int) by lia,tq]
def pt(c:Nat):PV:=.str [c]
theorem E6(w:Nat)(W:1<=w):∀(r s:Nat) (t:Tx) (m:List (Tx×Int)) (q:List Tx) (b:List Tx),r<s->q.length=r->n_ m q->w<=t.length+1->t.length+r<=1000->m.length<=1000->b.length+(gU w r t q).length<=bS -> oA a s [↥t,⇑w,.own (.dK (dk m)),.own (.lst (ap b))]=.ok (.val .non) [↥t,⇑w,.own (.dK (dk m)),.own (.lst (ap (b++gU w r t q)))]
 |0,0,_,_,_,_,h,_,_,_,_,_,_=>absurd h ∅
 |r+1,0,_,_,_,_,h,_,_,_,_,_,_=>absurd h ∅
 |0,s+1,t,m,q,b,_,hq,hm,hw,ht,r_,hs=>by
  have Q:q=[]:=HZ.mp hq;subst Q;have d:=FJ m;rw[hm.any]at d;simp only[Ib,yx]at d;have hl:(ap b).length<bS:=by rw[gC];simp only[gU,pW]at hs;lia
  have e:ap (b++gU w 0 t [])=ap b++[.str t]:=by simp[ap,gU]
  rw[e];generalize dk m=D at d;generalize ap b=L at hl;simp![oA,yaj,ti,fA,d,hl]
 |r+1,s+1,t,m,q,b,hf,hq,hm,hw,ht,r_,hs=>by
  have cR:q.isEmpty=aj:=by cases q with|nil=>cases hq|cons=>rfl
  have d:=FJ m;rw[hm.any,cR]at d;simp only[Cu]at d;have C:=Oi (t:=t) hw W;have bU:aY [.str t]=aa (.int (t.length:Nat)):=rfl;have kP:fz (.int (t.length:Nat)) (.int w)=aa (.int ((t.length:Int)-w)):=rfl;have kN:aU (.int ((t.length:Int)-w)) (.int 1)=aa (.int ((t.length:Int)-w+1)):=rfl
  let H:=t.drop (t.length+1-w)
  let f:=λc=>if H++[c]∈q then gU w r (t++[c]) (q.erase (H++[c]))else []
  have hE:gU w (r+1) t q=bo.flatMap f:=rfl;have hH:H.length<=1000:=by simp only[H,kL];lia
  obtain⟨ε',v,K,J,p,rest,u,P,rfl⟩:=ri (i:=5) (db:=(aF (bz 6 (d2 aU (dV 4) (dV 5)))
 (br (dB (d2 (bx λi j=>decide (j<i)) (mE 2 (dV 6) (dC (.int 0))) (dC (.int 0)))) (aF (kY 2 (dV 6) (d2 fz (mG 2 (dV 6)) (dC (.int 1))))
 (aF (fE (aC (oA a s) (gV (d2 aU (dV 0) (dV 5)) (gV (dV 1) (gO 2 (gO 3 (Pu.aW)))))))
 (kY 2 (dV 6) (d2 aU (mG 2 (dV 6)) (dC (.int 1)))))) (bH))))
   (I:=λM T=>∃(K J:Slot) (p rest:Tx),bo=p++rest/\M=rest.map pt/\T=[↥t,⇑w,.own (.dK (dk m)),.own (.lst (ap (b++p.flatMap f))),↥H,K,J])
   (by
    rintro x M T ⟨K,J,p,rest,u,Z,rfl⟩;cases rest with
    |nil=>cases Z
    |cons c rest=>
     have Iq:x::M=pt c::rest.map pt:=Z;simp only[rR]at Iq;obtain⟨rfl,rfl⟩:=Iq;have A:aU (.str H) (.str [c])=aa (.str (H++[c])):=tf (by simp[bS];lia);have uY:aU (.str t) (.str [c])=aa (.str (t++[c])):=tf (by simp[bS];lia);have Se:b.length+(p.flatMap f).length+(f c).length<=bS:=by rw[hE,u,List.flatMap_append,uz,dy,dy]at hs;lia
     have Y:ap (b++(p++[c]).flatMap f)=ap ((b++p.flatMap f)++f c):=by simp
     by_cases E:H++[c]∈q
     .obtain⟨n,S,g2,g3,g4,g5⟩:=hm.dec E;have g:f c=gU w r (t++[c]) (q.erase (H++[c])):=if_pos E;have y:=E6 w W r s (t++[c]) (dH m (H++[c]) (n-1)) (q.erase (H++[c])) (b++p.flatMap f) ∅ (by rw[List.length_erase_of_mem E,hq];rfl) g3 (by simp;lia) (by simp;lia)
       (by
        have:(dH m (H++[c]) (n-1)).length=m.length:=by
         have:=congrArg jx (D3 (m:=m) (x:=H++[c]) (n:=n-1));have d:(m.any λp=>decide (p.1=H++[c]))=ah:=by
          cases z:(m.any λp=>decide (p.1=H++[c]))with
          |true=>rfl
          |false=>rw[y9 z]at S;cases S
         rw[if_pos d]at this;simpa using this
        lia)
       (by rw[<-g,dy];exact Se)
      rw[<-g]at y;have l:=vn m (H++[c]);rw[S]at l;have o:=zv m (H++[c]) (n-1);have F:=vn (dH m (H++[c]) (n-1)) (H++[c]);rw[g4]at F;have G:=zv (dH m (H++[c]) (n-1)) (H++[c]) (n-1+1);rw[g5,show n-1+1=n by lia]at G;have B:(dk m).length<bS:=by unfold dk;rw[c0];unfold bS;lia
      have X:(dk (dH m (H++[c]) (n-1))).length<bS:=by
       unfold dk;rw[c0];have:(dH m (H++[c]) (n-1)).length<=m.length+1:=by unfold dH;split <;> simp
       unfold bS;lia
      have gt:(0:Int)<n:=g2;refine⟨[↥t,⇑w,.own (.dK (dk m)),.own (.lst (ap (b++(p++[c]).flatMap f))),↥H,.val (.str [c]),↥(H++[c])],?_,_,_,p++[c],rest,by rw[u];simp,rfl,rfl⟩;rw[Y];have s1:fz (.int n) (.int 1)=aa (.int (n-1)):=rfl;have s2:aU (.int (n-1)) (.int 1)=aa (.int n):=by show aa (PV.int (n-1+1))=_;congr 2;lia
      simp only[yh]at l F;generalize dk m=D at l o G B;generalize dk (dH m (H++[c]) (n-1))=D2 at F o G y X;generalize ap (b++p.flatMap f)=L at y;generalize ap ((b++p.flatMap f)++f c)=L2 at y;clear_value H f;simp![pt,A,mE,mG,kY,fA,kg,l,gt,s1,B,o,uY,y,F,s2,X,G]
     .have g:f c=[]:=if_neg E;have N:=hm.zero E;have l:=vn m (H++[c]);have hg:((cY m (H++[c])).map PV.int).getD (.int 0)=.int 0:=by
       cases e:cY m (H++[c])with
       |none=>rfl
       |some k=>rw[e]at N;simp at N;subst N;rfl
      refine⟨[↥t,⇑w,.own (.dK (dk m)),.own (.lst (ap (b++(p++[c]).flatMap f))),↥H,.val (.str [c]),↥(H++[c])],?_,_,_,p++[c],rest,by rw[u];simp,rfl,rfl⟩;rw[Y,g,gI];generalize dk m=D at l;generalize ap (b++p.flatMap f)=L;clear_value H f;simp![pt,A,mE,fA,kg,l,hg])
   (bo.map pt) [↥t,⇑w,.own (.dK (dk m)),.own (.lst (ap (b++([]:Tx).flatMap f))),↥H,.none,.none] ⟨.none,.none,[],bo,by simp,rfl,rfl⟩
  have O:rest=[]:=by cases rest with|nil=>rfl|cons=>cases P
  subst O;rw[gI]at u;rw[hE];rw[<-u]at v;simp only[H_,gI]at v;have CF:ox (.str [97,98,99])=aa (bo.map pt):=rfl;have Sk:b7 (.str t) (aa ((t.length:Int)-w+1)) ac=aa (.str H):=C;generalize dk m=D at d v;generalize ap b=L at v;generalize ap (b++bo.flatMap f)=L2 at v;clear_value H f;simp![oA,yaj,ti,fA,d,bN,bA,b8,bU,kP,kN,Sk,eu,dm,cL,CF,v]
end
section
variable{a:Ad}
abbrev cM(w:Nat)(ls:List Tx):PV:=.tup [.int w,.tup (ap ls)]
theorem Nz{b:Type}(xs:List b):cE xs ac (aa (-1))=xs.dropLast:=by unfold cE;rw[show HT.sIx xs.length 0 ac=0 from rfl,yd,Nat.sub_zero,List.dropLast_eq_take];congr 1;show(HT.sIx xs.length xs.length (aa (-1)))=_;show(if(-1:Int)<0 then((-1:Int)+(xs.length:Int)).toNat else min (-1:Int).toNat xs.length)=_;rw[if_pos (by decide)];lia
theorem NO{w:Nat}{b:List Tx}(g:Good bo w b)(d:1<=w)(f:w<=4):(ko w b).length<=531441:=by rw[P0 d g.some λx c=>⟨g.len x c,g.abc x c⟩];refine dr (Ig _ _) ?_;rw[GK];exact dr (Nat.pow_le_pow_right (by decide) (show w-1+b.length<=12 by have:=g.few;lia)) (by decide)
theorem Je(V:PV)(d:List Tx)(w:Nat)(c b:Slot):ku [] cA (bN b7 (dV 0) b8 (bA (d1 il (dC (.int 1))))) (ap d) [] [.val V,⇑w,c,b]=.ok (ap (d.map p9)) [.val V,⇑w,c,b]:=by
 have i:=nP (cap:=[]) (dt:=cA) (de:=(bN b7 (dV 0) b8 (bA (d1 il (dC (.int 1)))))) (ε:=[.val V,⇑w,c,b]) (λ_=>ah) (λx=>match x with|.str z=>.str z.dropLast|_=>.non) (ap d)
  (by
   intro x f;obtain⟨z,_,rfl⟩:=eJ.mp f;refine⟨by simp![dq,dD,bu,cA],λ_=>?_⟩;have g:b7 (.str z) ac (aa (-1))=aa (.str z.dropLast):=by show aa (PV.str (cE z ac (aa (-1))))=_;rw[Nz]
   have h:il (.int 1)=aa (.int (-1)):=rfl;simp![dq,dD,bu,bN,b8,bA,h,g]) []
 rw[i,lN,nj.mpr (by simp)];unfold ap;rw[eU,eU];rfl
theorem QN{w:Nat}{c:List Tx}(g:Good bo w c)(u:1<=w)(H:w<=4)(X:c.Pairwise (λa b=>dP a b=ah)):iP a [.val (cM w c)]=.ok (.own (.lst (ap (ko w c)))) [.val (cM w c)]:=by
 have n:=PU (a:=a) (g.vw u H X);have A:bE (cM w c) (.int 0)=aa (.int w):=rfl;have o:bE (cM w c) (.int 1)=aa (.tup (ap c)):=rfl;obtain⟨m,E,M,l⟩:=Qo (a:=a) c (by have:=g.few;lia);have Q:m.length<=1000:=by have:=g.few;lia
 let hd:=bG (fk (c.map p9))
 have S:∀h∈hd,h.length=w-1:=λh N=>by have E:=(s_ _ _).mp ((nI _).mem_iff.mp N);obtain⟨y,W,rfl⟩:=eJ.mp E;rw[Cs,g.len y W]
 let f:=λh=>gU w c.length h c
 have O:ko w c=hd.flatMap f:=rfl;have F:=NO g u H;obtain⟨P,d,v,p,rest,q,C,rfl⟩:=ri (i:=3) (db:=(fE (su (oA a 12) (qH (dV 3) (qH (dV 1) (gN (pw (aC (t_ a) (gV (d2 bE (dV 0) (dC (.int 1))) (Pu.aW)))) (gO 2 (Pu.aW))))))))
  (I:=λr G=>∃(v:Slot) (p rest:List Tx),hd=p++rest/\r=ap rest/\G=[.val (cM w c),⇑w,.own (.lst (ap (p.flatMap f))),v])
  (by
   rintro x r G ⟨v,p,rest,q,K,rfl⟩;cases rest with
   |nil=>cases K
   |cons h rest=>
    have J:x::r=.str h::ap rest:=K;simp only[rR]at J;obtain⟨rfl,rfl⟩:=J;have N:h.length=w-1:=S h (by rw[q];simp);have t:=E6 (a:=a) w u c.length 12 h m c (p.flatMap f) (by have:=g.few;lia) rfl E ∅ (by have:=g.few;lia) Q (by rw[O,q,List.flatMap_append,uz,dy,dy]at F;show(p.flatMap f).length+(f h).length<=bS;unfold bS;lia);refine⟨[.val (cM w c),⇑w,.own (.lst (ap ((p++[h]).flatMap f))),↥h],?_,_,p++[h],rest,by rw[q];simp,rfl,rfl⟩;have Z:(p++[h]).flatMap f=p.flatMap f++gU w c.length h c:=by simp[f]
    rw[Z];generalize ap (p.flatMap f)=L at t;generalize ap (p.flatMap f++gU w c.length h c)=L2 at t;generalize dk m=D at t l;simp only[cM]at o ⊢;generalize ap c=T at l o;clear_value f hd;simp![su,qH,gN,ph,o,l,t])
  (ap hd) [.val (cM w c),⇑w,.own (.lst (ap (([]:List Tx).flatMap f))),.none] ⟨.none,[],hd,by simp,rfl,rfl⟩
 have B:rest=[]:=by cases rest with|nil=>rfl|cons=>cases C
 subst B;rw[gI]at q;rw[<-q,<-O]at d;simp only[H_]at d;have s:=Je (cM w c) c w (.own (.lst [])) .none;have j:tm [.lst (ap (c.map p9))]=aa (.lst (ap hd)):=by show(fu (ap _)).bind _=_;have h2:=g.few;rw[o_,g9,if_pos ⟨λz=>by have:=congrArg jx z;have:=g.some;simp at *;simp_all,B9 (OY _) (by rw[c0];lia)⟩]
 have e0:ap ([]:List Tx)=[]:=rfl;rw[e0]at d;generalize ap (ko w c)=L at d;generalize ap hd=D at d j;generalize ap (c.map p9)=D0 at s j;simp only[cM]at n A o s d ⊢;generalize Y:ap c=T at n A o s d;clear_value f hd;simp![iP,yaU,n,A,o,eu,dm,cL,ox,cU,s,j,d,qS]
theorem JT{w:Nat}{c:List Tx}(g:Good bo w c)(i:1<=w)(h:w<=4)(j:c.Pairwise (λa b=>dP a b=ah)):n5 a [.val (cM w c)]=.ok (⇑((ko w c).length:Nat)) [.val (cM w c)]:=by
 have d:=QN (a:=a) g i h j;have f:aY [.lst (ap (ko w c))]=aa (.int ((ko w c).length:Nat)):=by simp[aY,gC]
 generalize ap (ko w c)=L at d f;simp![n5,yau,d,f]
end
end Sh
namespace Mx
open L2 Pu
def gY(z:Tx)(i:Nat):Nat:=z.getD (i % z.length) 0
def fM(z:Tx)(w i:Nat):Tx:=(cy w).map λk=>gY z (i+k)
def cw(z:Tx)(w:Nat):List Tx:=(cy z.length).map (fM z w)
def jN(z:Tx)(w:Nat):Tx:=((a8 w z).flatten).take (z.length+w-1)
theorem LW{z:Tx}{i:Nat}(h:i<z.length):z[i]?=aa (gY z i):=by unfold gY;rw[Nat.mod_eq_of_lt h];simp[uq,h]
theorem JO(z:Tx)(i:Nat):gY z (z.length+i)=gY z i:=by unfold gY;rw[Nat.add_mod_left]
theorem GQ(z:Tx):∀(w i:Nat),i<w*z.length->(a8 w z).flatten[i]?=aa (gY z i)
 |0,i,h=>∅
 |w+1,i,h=>by
  rw[j5,oP];by_cases c:i<z.length
  .rw[iy c,LW c]
  .rw[mT ∅,GQ z w (i-z.length) (by rw[Nat.succ_mul]at h;lia)];congr 1;have:=JO z (i-z.length);rw[show z.length+(i-z.length)=i by lia]at this;exact this.symm
theorem EX(z:Tx)(w:Nat):(a8 w z).flatten.length=w*z.length:=by simp
theorem wE{z:Tx}{w:Nat}(c:1<=z.length)(b:1<=w):(jN z w).length=z.length+w-1:=by
 unfold jN;rw[jy,EX];obtain⟨n,a⟩:∃n,z.length=n+1:=⟨z.length-1,∅⟩
 obtain⟨v,rfl⟩:∃v,w=v+1:=⟨w-1,∅⟩
 rw[a,Nat.add_mul,Nat.mul_add];have:=jd (v*n);lia
theorem On{z:Tx}{w:Nat}(c:1<=z.length)(b:1<=w){i:Nat}(h:i<z.length+w-1):(jN z w)[i]?=aa (gY z i):=by have a:=wE c b;unfold jN at a ⊢;rw[jy,EX]at a;rw[Ho h,GQ z w i ∅]
theorem Dm{z:Tx}{w:Nat}(b:1<=z.length)(a:1<=w):cx (jN z w) w=cw z w:=by
 rw[wU _ _ a,wE b a,show z.length+w-1+1-w=z.length by lia];refine kM λi d=>?_;have d:i<z.length:=by simpa using d
 refine HP λk=>?_;unfold fM;by_cases c:k<w
 .rw[Ho c,List.getElem?_drop,On b a ∅,iT,HI c];rfl
 .rw[ng (by rw[jy];lia),ng (by simp;lia)]
def wT(i:Nat)(z:Tx):Tx:=z.drop i++z.take i
def og(z:Tx):List Tx:=(cy z.length).map λi=>wT i z
def lf(z:Tx):Tx:=i5 (og z)
theorem FW{z:Tx}(a:1<=z.length):og z≠[]:=by
 intro h;have:=congrArg jx h;simp[og]at this;rw[this]at a;cases a
def Pp(t:Tx)(w:Nat):List Tx:=(eA t.length).filter λz=>(cx z w).isPerm (cx t w)
end Mx
namespace Sh
open L2 Pu Mx
structure Vd where
 w:Nat
 ls:List Tx
def tx(v:Vd):List Tx:=ko v.w v.ls
section
variable{a:Ad}
theorem nA{z:Tx}(o:1<=z.length)(n:z.length<=12)(j:∀c∈z,c∈bo):iq a [↥z]=.ok (.val .non) [↥z]:=by
 have d:bQ [.str z,.raw (.ty "str")]=aa (.bl ah):=e_ rfl qK;have b:=Ah (a:=a) z bo;have f:z.all bo.contains=ah:=by rw[j7];intro c h;simpa using j c h
 rw[f]at b;simp only[bo]at b;have i:aY [.str z]=aa (.int (z.length:Nat)):=rfl;have m:(1:Int)<=(z.length:Nat):=∅
 have l:((z.length:Nat):Int)<=12:=∅
 have g:i_ a [↥z,⇑12]=.ok (.val (.bl ah)) [↥z,⇑12]:=by simp![i_,yaw,d,i,m,l,b]
 simp![iq,yao,g]
theorem xn{w:Nat}(c:1<=w)(b:w<=4):iO a [⇑w]=.ok (.val .non) [⇑w]:=by have h:=nR (a:=a) w;rw[decide_eq_true (show 1<=(w:Int)/\(w:Int)<=4 by lia)]at h;simp![iO,yaq,h]
def me(t:Tx)(v:Nat):List Tx:=(cy (t.length+1-v)).map λi=>(t.drop i).take v
theorem Ot(t:Tx)(v:Nat):(me t v).length=t.length+1-v:=by simp[me]
theorem JC{t:Tx}{w:Nat}(m:w<=t.length+1)(o:t.length<=60):mJ a [↥t,⇑w]=.ok (.own (.lst (ap (me t w)))) [↥t,⇑w]:=by
 have j:aY [.str t]=aa (.int (t.length:Nat)):=rfl;have h:fz (.int (t.length:Nat)) (.int w)=aa (.int ((t.length:Int)-w)):=rfl;have f:aU (.int ((t.length:Int)-w)) (.int 1)=aa (.int ((t.length+1-w:Nat):Int)):=by show aa (PV.int ((t.length:Int)-w+1))=_;congr 2;lia
 have c:dX [.int ((t.length+1-w:Nat):Int)]=aa (cf 0 (t.length+1-w)):=lz ∅;have b:=nP (cap:=[0,1]) (dt:=cA) (de:=(bN b7 (dV 1) (bA (dV 0)) (bA (d2 aU (dV 0) (dV 2))))) (ε:=[↥t,⇑w]) (λ_=>ah) (λx=>match x with|.int i=>.str (cE t (aa i) (aa (i+w)))|_=>.non) (cf 0 (t.length+1-w))
  (by intro x g;obtain⟨i,_,rfl⟩:=eJ.mp g;refine⟨by simp![dq,dD,bu,cA],λ_=>?_⟩;simp![dq,dD,bu,aU,bN,bA,b7]) []
 have l:((cf 0 (t.length+1-w)).filter (λ_=>ah)).map (λx=>match x with|.int i=>PV.str (cE t (aa i) (aa (i+w)))|_=>.non)=ap (me t w):=by
  rw[nj.mpr (by simp)];unfold cf ap me;rw[eU,eU];refine kM λi d=>?_;have d:i<t.length+1-w:=by simpa using d
  simp only[uA,rT];rw[EW ∅]
 rw[lN,l]at b;generalize ap (me t w)=T at b;generalize cf 0 (t.length+1-w)=RR at c b;generalize ((t.length+1-w:Nat):Int)=n at f c;simp![mJ,yaQ,nG,cU,j,h,f,c,b]
theorem D7{t:Tx}{w:Nat}(b:1<=w):me t w=cx t w:=(wU t w b).symm
theorem v8{t:Tx}{w:Nat}(b:1<=w)(c:w<=t.length+1)(d:t.length<=60):mJ a [↥t,⇑w]=.ok (.own (.lst (ap (cx t w)))) [↥t,⇑w]:=by rw[<-D7 b];exact JC c d
theorem Gn{w:Nat}{ls:List Tx}(h:1<=ls.length)(g:ls.length<=9):oG a [⇑w,.val (.lst (ap ls))]=.ok (.val (cM w (bG ls))) [⇑w,.val (.lst (ap ls))]:=by
 have c:aY [.lst (ap ls)]=aa (.int (ls.length:Nat)):=by simp[aY,gC]
 have f:(1:Int)<=(ls.length:Nat):=∅
 have d:((ls.length:Nat):Int)<=9:=∅
 have b:jV [.lst (ap ls)]=aa (.lst (ap (bG ls))):=An ∅;simp only[cM];generalize ap (bG ls)=T at b;generalize ap ls=B at c b;simp![oG,yaZ,c,f,d,b,lu]
structure Tv(t:Tx)(w:Nat):Prop where
 w1:1<=w
 w4:w<=4
 h1:w<=t.length
 h9:t.length+1<=w+9
 abc:∀c∈t,c∈bo
theorem Tv.good{t:Tx}{w:Nat}(h:Tv t w):Good bo w (cx t w):=by have d:=P5 (m:=8) h.w1 h.h1 (by have:=h.h9;lia);exact⟨λx b=>(CK x b).1,λx b c f=>h.abc c ((CK x b).2 c f),d.1,d.2⟩
theorem Db{t:Tx}{w:Nat}(h:Tv t w):fD a [↥t,⇑w]=.ok (.val (cM w (bG (cx t w)))) [↥t,⇑w]:=by have b1:=h.w1;have b2:=h.w4;have i:=h.h1;have g:=h.h9;have f:=nA (a:=a) (z:=t) ∅ ∅ h.abc;have d:=xn (a:=a) h.w1 h.w4;have c:=v8 (a:=a) (t:=t) h.w1 ∅ ∅;have b:=Gn (a:=a) (w:=w) (ls:=cx t w) h.good.some h.good.few;generalize cM w (bG (cx t w))=V at b;generalize ap (cx t w)=C at c b;simp![fD,yaT,f,d,c,b]
theorem D1{z:Tx}{w:Nat}(i:1<=w)(h:w<=4)(j:z.length<=60):sF a [↥z,⇑w]=.ok (↥(jN z w)) [↥z,⇑w]:=by
 have d:eM (.str z) (.int w)=aa (.str (a8 w z).flatten):=by show(if 0<=(w:Int)/\(w:Int)<=100/\z.length<=100 then aa (PV.str (a8 (w:Int).toNat z).flatten)else ac)=_;rw[if_pos ⟨∅,∅,∅⟩];rfl
 have f:aY [.str z]=aa (.int (z.length:Nat)):=rfl;have g:aU (.int (z.length:Nat)) (.int w)=aa (.int ((z.length:Int)+w)):=rfl;have c:fz (.int ((z.length:Int)+w)) (.int 1)=aa (.int ((z.length+w-1:Nat):Int)):=by show aa (PV.int ((z.length:Int)+w-1))=_;congr 2;lia
 have b:b7 (.str (a8 w z).flatten) ac (aa ((z.length+w-1:Nat):Int))=aa (.str (jN z w)):=by show aa (PV.str (cE _ ac (aa _)))=_;rw[sU];rfl
 generalize ((z.length+w-1:Nat):Int)=n at c b;generalize (a8 w z).flatten=F at d b;simp![sF,yaX,bN,b8,bA,d,f,g,c,b]
def qD(b c:Nat):List Nat:=List.range' b (c-b)
def part(t:Tx)(i j:Nat):Tx:=(t.drop i).take (j-i)
def gY(b:List Tx)(i:Nat):Tx:=b.getD i []
def Pi(t:Tx)(s e g l:Nat):Tx:=t.take s++part t g l++part t e g++part t s e++t.drop l
def Ps(t:Tx)(b:List Tx)(s g e:Nat):List Tx:=(qD (g+1) b.length).flatMap λl=>if gY b e=gY b l then [Pi t s e g l] else []
def L_(t:Tx)(b:List Tx)(s g:Nat):List Tx:=(qD (s+1) (g+1)).flatMap λe=>Ps t b s g e
end
section
variable{a:Ad}
def JD(t:Tx)(b:List Tx)(s:Nat):List Tx:=(qD (s+1) b.length).flatMap λg=>if gY b s=gY b g then L_ t b s g else []
def Oe(t:Tx)(b:List Tx):List Tx:=(qD 0 b.length).flatMap λs=>JD t b s
theorem aB{i:Nat}{ε:af}{v:PV}(h:ε[i]?=aa (.val v)):dV i ε=.ok v ε:=by unfold dV;rw[h]
theorem dG{d:af->R PV}{b:Bool}{ε c:af}(h:d ε=.ok (.bl b) c):dB d ε=.ok b c:=by unfold dB;rw[h];rfl
def ID(t:Tx)(m w:Nat):List Tx:=(qD 1 m).map λp=>jN ((t.take m).drop p++(t.take m).take p) w
def MJ(t:Tx)(b:List Tx)(w:Nat):List Tx:=if gY b 0=gY b (b.length-1)then ID t (b.length-1) w else []
def KG(t:Tx)(w:Nat):List Tx:=Oe t (me t (w-1))++MJ t (me t (w-1)) w
def Kd(t:Tx)(m:Nat):List Tx:=(qD 1 m).map λp=>part (a8 3 (t.take m)).flatten p (p+t.length)
def jQ(t:Tx)(b:List Tx):List Tx:=if gY b 0=gY b (b.length-1)then Kd t (b.length-1)else []
end
section
variable{v:Nat}
def oc(v:Nat)(M:List Tx)(y:Tx):Nat:=(M.map λx=>if x.take v=y then 1 else 0).sum
abbrev b2(p:Prop)[Decidable p]:Nat:=if p then 1 else 0
end
inductive WN(w:Nat):Nat->Tx->Tx->Prop
 |here (n:Nat) (t:Tx):WN w n t t
 |on {n:Nat}{t u z:Tx}:WN w n t u->z∈KG u w->WN w (n+1) t z
def Full(w:Nat)(t:Tx)(k:Nat):Prop:=∀z∈Pp t w,WN w k t z
abbrev ks(m:List (Tx×Int)):List Tx:=m.map (·.1)
def b1(p:Prop)[Decidable p]:Int:=if p then 1 else 0
def exc(a:List Tx)(y:Tx):Int:=(a.map λx=>b1 (x.dropLast=y)-b1 (x.tail=y)).sum
theorem Ew{cap:List Nat}{dt:af->R Bool}{de:af->R PV}{ε:af}(p:PV×PV->Bool)(f:PV×PV->PV):∀(xs:List (PV×PV)),(∀x∈xs,bu (lx cap dt x.1 x.2 ε)=.ok (p x) ε/\(p x=ah->bu (lx cap de x.1 x.2 ε)=.ok (f x) ε))->∀a,nW cap dt de xs a ε=.ok (a++(xs.filter p).map f) ε
 |[],_,a=>by simp[nW]
 |x::xs,h,a=>by
  have d:=h x (by simp);have c:=Ew p f xs (λy g=>h y (by simp[g]));unfold nW;rw[d.1,R.bind_ok];cases b:p x
  .rw[c a,yv,b];rfl
  .show(bu (lx cap de x.1 x.2 ε)).bind _=_;rw[d.2 b,R.bind_ok,c,yv,b];simp
section
variable{a:Ad}
def f2(a:Ad):af->R aJ:=bz 2 (dF (cU [1] (cL (dF (Re 1))) (dB (d2 (bx λi j=>decide (j<i)) (mG 1 (dV 0)) (dC (.int 0)))) (dV 0)))
def f3:af->R aJ:=br (dB (d2 (bx λi j=>decide (j<i)) (dL aY (ak (dV 2) (au))) (dC (.int 1)))) (bc (dL cF (ak (dC (.str [116,119,111])) (ak (d2 bE (dV 2) (dC (.int 0))) (ak (d2 bE (dV 2) (dC (.int 1))) (au)))))) (bH)
def f4:af->R aJ:=br (gw (dB (d2 (eqT aj) (dL aY (ak (dV 2) (au))) (dC (.int 1)))) (dB (d2 (bx λi j=>decide (j<i)) (mG 1 (d2 bE (dV 2) (dC (.int 0)))) (dC (.int 1))))) (bc (dL cF (ak (dC (.str [109,111,114,101])) (ak (d2 bE (dV 2) (dC (.int 0))) (au))))) (bH)
end
end Sh
namespace K01
open L2 Pu Mx Sh
section
variable{a:Ad}
theorem Ni(b:List Int)(k m:Int)(r:0<=k)(h:0<m):∃v,0<=v/\v<m/\xq a [bP b,⇑k,⇑m]=.ok (⇑v) [bP b,⇑k,⇑m]:=by
 obtain⟨c,q⟩:=Jz (a:=a) b k r;have s:0<=(c+7919*k+1)*48271 % 2147483647:=Int.emod_nonneg _ (by decide);have d1:(c+7919*k+1)*48271 % 2147483647<2147483647:=Ic _ (by decide);have p:eM (.int (c+7919*k+1)) (.int 48271)=aa (.int ((c+7919*k+1)*48271)):=by simp[eM,oz]
 have o:eM (.int 7919) (.int k)=aa (.int (7919*k)):=by simp[eM,oz]
 have g:gx (.int ((c+7919*k+1)*48271)) (.int 2147483647)=aa (.int ((c+7919*k+1)*48271 % 2147483647)):=by simp[gx]
 generalize (c+7919*k+1)*48271 % 2147483647=d at s d1 g;have i:oz d=ah:=by unfold oz;simp;lia
 have n:eM (.int d) (.int d)=aa (.int (d*d)):=by simp[eM,i]
 have l:eM (.int 7) (.int d)=aa (.int (7*d)):=by simp[eM,oz]
 have f:gx (.int (d*d+7*d+k)) (.int 2147483629)=aa (.int ((d*d+7*d+k) % 2147483629)):=by simp[gx]
 generalize (d*d+7*d+k) % 2147483629=d6 at f;have j:gx (.int d6) (.int m)=aa (.int (d6 % m)):=by simp[gx,h]
 refine⟨d6 % m,Int.emod_nonneg _ ∅,Ic _ h,?_⟩;simp![xq,yaH,q,p,o,g,n,l,f,j,aU]
theorem lC(ns:List Int)(xs:List PV)(m:Int)(d:0<m)(g:xs.length<=1000):∃v,0<=v/\v<m/\d8 a [bP ns,.own (.lst xs),⇑m]=.ok (⇑v) [bP ns,.own (.lst (xs++[.int 0])),⇑m]:=by
 obtain⟨v,b,v1,c⟩:=Ni (a:=a) ns ((xs.length:Int)+1) m ∅ d;refine⟨v,b,v1,?_⟩;have f:xs.length<bS:=by unfold bS;lia
 simp![d8,yaF,aY,f,c]
theorem pH(ns:List Int)(xs b:List PV)(f:xs.length<=1000)(i:0<b.length):∃x∈b,gA a [bP ns,.own (.lst xs),.val (.lst b)]=.ok (.val x) [bP ns,.own (.lst (xs++[.int 0])),.val (.lst b)]:=by obtain⟨v,c,v1,g⟩:=lC (a:=a) ns xs (b.length:Nat) ∅ f;obtain⟨x,h,d⟩:=zO b v c v1;refine⟨x,h,?_⟩;simp![gA,yaI,aY,bE,g,d]
theorem FD(ns:List Int)(xs:List PV)(g b:Nat)(J:g<=b)(Q:b<=100)(P:xs.length<=500):∃(z:Tx) (ys:List PV),g<=z.length/\z.length<=b/\(∀c∈z,c∈bo)/\ys.length<=xs.length+2+b /\ qt a [bP ns,.own (.lst xs),⇑g,⇑b]=.ok (↥z) [bP ns,.own (.lst ys),⇑g,⇑b]:=by
 obtain⟨f,t,G⟩:=pH (a:=a) ns xs [.int 1,.int 2,.int 2,.int 3,.int 3,.int 3] ∅ (by decide);obtain⟨h,rfl,L,T⟩:∃h:Int,f=.int h/\0<h/\h<=3:=by simp only[bV,fe,or_false]at t;rcases t with rfl|rfl|rfl|rfl|rfl|rfl <;> exact⟨_,rfl,by decide,by decide⟩
 obtain⟨m,O,M,j⟩:=lC (a:=a) ns (xs++[.int 0]) ((b:Int)-g+1) ∅ (by simp;lia);obtain⟨n,H⟩:∃n:Nat,(g:Int)+m=n:=⟨(g+m).toNat,∅⟩
 have F:dX [.int ((g:Int)+m)]=aa (cf 0 n):=by rw[H];exact lz ∅
 have W:(cf 0 n).length=n:=by simp[cf]
 obtain⟨w,u,ys,z,s6,rfl,s,D,l⟩:=vH (i:=6) (db:=bz 5 (d2 aU (dV 5) (d2 bE (dC (.str [97,98,99])) (aM (aC (d8 a) (gV (dV 0) (gO 1 (gV (dV 4) (Pu.aW)))))))))
  (I:=λk r=>∃ys z s6,r=[bP ns,.own (.lst ys),⇑g,⇑b,⇑h,↥z,s6]/\z.length=k/\ys.length<=xs.length+2+k/\∀c∈z,c∈bo) (N:=n)
  (by
   rintro k r x S ⟨ys,z,s6,rfl,s,D,l⟩;obtain⟨v,y,v1,E⟩:=lC (a:=a) ns ys h L ∅;obtain⟨c,K,A⟩:=zO bo v y (by simp[bo];lia);refine⟨[bP ns,.own (.lst (ys++[.int 0])),⇑g,⇑b,⇑h,↥(z++[c]),.val x],?_,ys++[.int 0],z++[c],.val x,rfl,by simp[s],by simp;lia,λd j=>?_⟩
   .have o:bE (.str [97,98,99]) (.int v)=aa (.str [c]):=by
     show(dU bo v).map _=_;rw[A];rfl
    have C:aU (.str z) (.str [c])=aa (.str (z++[c])):=tf (by simp[bS];lia);simp![E,o,C]
   .simp only[oJ,jD]at j;rcases j with j|rfl
    .exact l d j
    .exact K)
  (cf 0 n) 0 [bP ns,.own (.lst (xs++[.int 0]++[.int 0])),⇑g,⇑b,⇑h,.val (.str []),.none] ∅ ⟨xs++[.int 0]++[.int 0],[],.none,rfl,rfl,by simp,by simp⟩
 refine⟨z,ys,∅,∅,l,∅,?_⟩;have B:fz (.int b) (.int g)=aa (.int ((b:Int)-g)):=rfl;have q:aU (.int ((b:Int)-g)) (.int 1)=aa (.int ((b:Int)-g+1)):=rfl;have p:aU (.int g) (.int m)=aa (.int ((g:Int)+m)):=rfl;simp only[HD,List.cons_append,lN]at u;simp![qt,yaM,G,B,q,p,j,dm,F,eu,u]
theorem F_(z:Tx)(w:Nat)(D:z.length<=60):qE a [↥z,⇑w]=.ok (.val (.tup (ap (bG (cx z w))))) [↥z,⇑w]:=by
 have b:dX [.int (z.length:Nat)]=aa (cf 0 z.length):=lz ∅;have h:aY [.str z]=aa (.int (z.length:Nat)):=rfl
 let W:=λ(l:List Nat)=>((l.filter λi=>decide (i+w<=z.length)).map λi=>(z.drop i).take w)
 obtain⟨v,g,f,q,l,t,A,rfl⟩:=ri (i:=3) (db:=(br (dB (d2 (bx λi j=>decide (i<=j)) (d2 aU (dV 3) (dV 1)) (dL aY (ak (dV 0) (au))))) (ln 2 (bN b7 (dV 0) (bA (dV 3)) (bA (d2 aU (dV 3) (dV 1))))) (bH)))
  (I:=λr s=>∃(f:Slot) (q l:List Nat),cy z.length=l++q/\r=q.map (λ(i:Nat)=>PV.int (0+(i:Nat)))/\s=[↥z,⇑w,.own (.lst (ap (W l))),f])
  (by
   rintro x r s ⟨f,q,l,d,b,rfl⟩;cases q with
   |nil=>cases b
   |cons i q=>
    simp only[gH,rR]at b;obtain⟨rfl,rfl⟩:=b;have E:i<z.length:=by
     have:i∈cy z.length:=by rw[d];simp
     simpa using this
    have H:(W l).length<=60:=by
     have G:=Ig (λi=>decide (i+w<=z.length)) l;have F:l.length<=z.length:=by have:=congrArg jx d;simp at this;lia
     simp only[W,c0];lia
    by_cases c:i+w<=z.length
    .refine⟨[↥z,⇑w,.own (.lst (ap (W (l++[i])))),⇑(0+(i:Nat))],?_,_,q,l++[i],by rw[d];simp,rfl,rfl⟩;have e:W (l++[i])=W l++[(z.drop i).take w]:=by simp[W,c]
     have B:b7 (.str z) (aa (i:Int)) (aa ((i:Int)+w))=aa (.str ((z.drop i).take w)):=by show aa (PV.str (cE z _ _))=_;rw[EW c]
     have n:aU (.int i) (.int w)=aa (.int ((i:Int)+w)):=rfl;have p:(i:Int)+w<=(z.length:Nat):=∅
     have u:(ap (W l)).length<bS:=by rw[gC];unfold bS;lia
     rw[e,<-xz];simp only[rT];generalize ap (W l)=L at u;simp![n,h,p,bN,bA,B,u,ap]
    .refine⟨[↥z,⇑w,.own (.lst (ap (W (l++[i])))),⇑(0+(i:Nat))],?_,_,q,l++[i],by rw[d];simp,rfl,rfl⟩;have e:W (l++[i])=W l:=by simp[W,c]
     have n:aU (.int i) (.int w)=aa (.int ((i:Int)+w)):=rfl;have p:¬(i:Int)+w<=(z.length:Nat):=∅
     rw[e];simp only[rT];generalize ap (W l)=L;simp![n,h,p])
  (cf 0 z.length) [↥z,⇑w,.own (.lst (ap (W []))),.none] ⟨.none,cy z.length,[],by simp,rfl,rfl⟩
 have m:q=[]:=by cases q with|nil=>rfl|cons=>cases A
 subst m;rw[gI]at t;have C:W l=cx z w:=by rw[<-t];rfl
 have o:W []=[]:=rfl;have d:(cx z w).length<64:=by unfold cx;rw[c0];have:=Ig (λi=>decide (i+w<=z.length)) (cy z.length);rw[Cc]at this;lia
 rw[C,o]at g;simp only[ap,B6]at g;change gF 3 _ _ _=R.ok aJ.next [↥z,⇑w,.own (.lst (ap (cx z w))),f]at g;clear_value W;have y:=An (ls:=cx z w) ∅;simp[qE,yaK,aF,br,dB,d2,d1,dV,dC,dL,dF,ak,au,bc,ff,bz,i8,aC,gV,gO,Pu.aW,cn,cC,bF,cb,cQ,R.bind,aR,bn,gc,bj,back,iI,lZ,pI,vD,q_,AM,aM,pw,bY,cF,bH,xw,fE,GG,cS,xf,gw,dz,jJ,Ft,fL,bx,fJ,ln,kA,qV,a8,jx,h,b,dm,eu,g,y,lu,A5,EB]
theorem A6{xs b:List PV}(h:xs.length+b.length<=bS):aU (.lst xs) (.lst b)=aa (.lst (xs++b)):=by show(if xs.length+b.length<=bS then aa (PV.lst (xs++b))else ac)=_;rw[if_pos h]
theorem wA(b:List Tx)(c d:Option Int):cE (ap b) c d=ap (cE b c d):=by unfold cE ap;rw[c0,List.map_take,List.map_drop]
theorem IB{b:List Tx}{c d:Option Int}{x:Tx}(h:x∈cE b c d):x∈b:=uB (p6 h)
theorem Jf(g:List Int)(n m l j h p:Slot)(w:Nat)(G:w<=4)(xs:List PV)(H:xs.length<=500):∃(z:Tx) (b:List PV) (f:Slot),z.length=w/\(∀c∈z,c∈bo)/\b.length<=xs.length+w /\ gF 9 (bz 8 (d2 aU (dV 8) (d2 bE (dC (.str [97,98,99])) (aM (aC (d8 a) (gV (dV 0) (gO 1 (gV (dC (.int 3)) (Pu.aW))))))))) (cf 0 w) [bP g,.own (.lst xs),n,⇑w,m,l,j,h,.val (.str []),p]=.ok .next [bP g,.own (.lst b),n,⇑w,m,l,j,h,↥z,f]:=by
 have K:(cf 0 w).length=w:=by simp[cf]
 obtain⟨u,F,b,z,f,rfl,t,C,q⟩:=vH (i:=9) (db:=(bz 8 (d2 aU (dV 8) (d2 bE (dC (.str [97,98,99])) (aM (aC (d8 a) (gV (dV 0) (gO 1 (gV (dC (.int 3)) (Pu.aW))))))))))
  (I:=λk s=>∃b z f,s=[bP g,.own (.lst b),n,⇑w,m,l,j,h,↥z,f]/\z.length=k/\b.length<=xs.length+k/\∀c∈z,c∈bo) (N:=w)
  (by
   rintro k s x J ⟨b,z,f,rfl,t,C,q⟩;obtain⟨v,y,v1,D⟩:=lC (a:=a) g b 3 (by decide) ∅;obtain⟨c,E,A⟩:=zO bo v y (by simp[bo];lia);refine⟨[bP g,.own (.lst (b++[.int 0])),n,⇑w,m,l,j,h,↥(z++[c]),.val x],?_,b++[.int 0],z++[c],.val x,rfl,by simp[t],by simp;lia,λd o=>?_⟩
   .have r:bE (.str [97,98,99]) (.int v)=aa (.str [c]):=by
     show(dU bo v).map _=_;rw[A];rfl
    have B:aU (.str z) (.str [c])=aa (.str (z++[c])):=tf (by simp[bS];lia);simp![D,r,B]
   .simp only[oJ,jD]at o;rcases o with o|rfl
    .exact q d o
    .exact E)
  (cf 0 w) 0 [bP g,.own (.lst xs),n,⇑w,m,l,j,h,.val (.str []),p] ∅ ⟨xs,[],p,rfl,rfl,∅,by simp⟩
 exact⟨z,b,f,∅,q,∅,F⟩
theorem Wn.app{w:Nat}{c b:List Tx}(h:Wn w c)(g:Wn w b):Wn w (c++b):=λx d=>(oJ.mp d).elim (h x) (g x)
theorem Wn.cut{w:Nat}{b:List Tx}(h:Wn w b)(c f:Option Int):Wn w (cE b c f):=λx d=>h x (IB d)
theorem NK(ns:List Int)(xs:List PV)(g:xs.length<=60):∃(w:Nat) (d:List Tx) (ys:List PV),ys.length<=160/\1<=w/\w<=4/\Good bo w d/\d.Pairwise (λa b=>dP a b=ah) /\ so a [bP ns,.own (.lst xs),⇑9]=.ok (.val (cM w d)) [bP ns,.own (.lst ys),⇑9]:=by
 obtain⟨v,v0,v1,T⟩:=lC (a:=a) ns xs 4 (by decide) ∅;obtain⟨w,hw⟩:∃w:Nat,1+v=w:=⟨(1+v).toNat,∅⟩
 have w1:1<=w:=∅
 have w4:w<=4:=∅
 have Sl:aU (.int 1) (.int v)=aa (.int w):=by show aa (PV.int (1+v))=_;rw[hw]
 obtain⟨z,o,z1,z2,s,nz,hz⟩:=FD (a:=a) ns (xs++[.int 0]) w (w+8) ∅ ∅ (by simp;lia);have Ij:=F_ (a:=a) z w ∅;have g0:Wn w (bG (cx z w)):=λx g=>by obtain⟨q1,q2⟩:=Ld ((nI _).mem_iff.mp g);exact⟨q1,λc G=>s c (q2 c G)⟩
 have n0:(bG (cx z w)).length<=9:=by rw[FX,wU z w w1,c0,Cc];lia
 obtain⟨m,D,hp⟩:=pH (a:=a) ns o [.int 0,.int 0,.int 0,.int 1,.int 2] (by simp at nz;lia) (by decide);obtain⟨n,rfl,uI⟩:∃n:Nat,m=.int n/\n<=2:=by
  simp only[bV,fe,or_false]at D;rcases D with rfl|rfl|rfl|rfl|rfl
  .exact⟨0,rfl,by decide⟩
  .exact⟨0,rfl,by decide⟩
  .exact⟨0,rfl,by decide⟩
  .exact⟨1,rfl,by decide⟩
  .exact⟨2,rfl,by decide⟩
 have hr:dX [.int n]=aa (cf 0 n):=lz ∅;have Y:(cf 0 n).length=n:=by simp[cf]
 have W:dX [.int w]=aa (cf 0 w):=lz ∅;simp only[dy,pW]at nz;obtain⟨ε',e1,ys,d,s6,s7,s8,s9,rfl,r,hl,hy⟩:=vH (i:=6) (db:=(aF (bz 7 (aM (aC (d8 a) (gV (dV 0) (gO 1 (gV (d2 aU (dL aY (ak (dV 5) (au))) (dC (.int 1))) (Pu.aW)))))))
 (aF (bz 8 (dC (.str [])))
 (aF (dm 9 (dL dX (ak (dV 3) (au))) (bz 8 (d2 aU (dV 8) (d2 bE (dC (.str [97,98,99])) (aM (aC (d8 a) (gV (dV 0) (gO 1 (gV (dC (.int 3)) (Pu.aW))))))))))
 (bz 5 (d2 aU (d2 aU (bN b7 (dV 5) (b8) (bA (dV 7))) (aM (aC (gA a) (gV (dV 0) (gO 1 (gV (dF (dL bY (ak (dF (dL bY (ak (dV 8) (au)))) (ak (dF (dL bY (au))) (ak (d2 aU (dF (dL bY (ak (dV 8) (au)))) (bN b7 (dV 5) (bA (dV 7)) (bA (d2 aU (dV 7) (dC (.int 1)))))) (au)))))) (Pu.aW))))))) (bN b7 (dV 5) (bA (d2 aU (dV 7) (dC (.int 1)))) (b8))))))))
  (I:=λk ε=>∃(ys:List PV) (d:List Tx) (s6 s7 s8 s9:Slot),ε=[bP ns,.own (.lst ys),⇑9,⇑w,↥z,.val (.lst (ap d)),s6,s7,s8,s9]/\Wn w d/\d.length+1<=10*2^k/\ys.length<=o.length+1+10*k) (N:=n)
  (by
   rintro k ε x hk ⟨ys,d,s6,s7,s8,s9,rfl,r,hl,hy⟩;obtain⟨vi,v0,v1,T⟩:=lC (a:=a) ns ys ((d.length:Int)+1) ∅ ∅;obtain⟨v,rfl⟩:∃v:Nat,vi=v:=⟨vi.toNat,∅⟩
   have h40:10*2^k<=20:=by
    have:k=0\/k=1:=∅
    rcases this with rfl|rfl <;> decide
   obtain⟨t,O,ny,t1,t2,S,si⟩:=Jf (a:=a) ns (⇑9) (↥z) (.val (.lst (ap d))) (.val x) (⇑v) s9 w w4 (ys++[.int 0]) (by simp;lia);simp only[dy,pW]at S;have bW:aY [.lst (ap d)]=aa (.int (d.length:Nat)):=by simp[aY,gC]
   have Z:aU (.int (d.length:Nat)) (.int 1)=aa (.int ((d.length:Int)+1)):=rfl;have E:aU (.int v) (.int 1)=aa (.int ((v+1:Nat):Int)):=by show aa (PV.int ((v:Int)+1))=_;congr 2
   have c1:b7 (.lst (ap d)) ac (aa (v:Nat))=aa (.lst (ap (d.take v))):=by show aa (PV.lst (cE (ap d) _ _))=_;rw[wA,sU]
   have F:b7 (.lst (ap d)) (aa (v:Nat)) (aa ((v+1:Nat):Int))=aa (.lst (ap (cE d (aa (v:Nat)) (aa ((v+1:Nat):Int))))):=by show aa (PV.lst (cE (ap d) _ _))=_;rw[wA]
   have H:b7 (.lst (ap d)) (aa ((v+1:Nat):Int)) ac=aa (.lst (ap (d.drop (v+1)))):=by show aa (PV.lst (cE (ap d) _ _))=_;rw[wA,tq]
   have u:Wn w [t]:=λx g=>by rw[jD]at g;subst g;exact⟨t1,t2⟩
   obtain⟨j,hC2,l2,P⟩:∃j,cE d (aa (v:Nat)) (aa ((v+1:Nat):Int))=j/\j.length<=d.length/\Wn w j:=⟨_,rfl,Ff _ _ _,Wn.cut r _ _⟩
   rw[hC2]at F;have M:aU (.lst (ap [t])) (.lst (ap j))=aa (.lst (ap ([t]++j))):=by rw[A6 (by rw[gC,gC];simp only[pW];unfold bS;lia),xz]
   obtain⟨y,B,A⟩:=pH (a:=a) ns O [.lst (ap [t]),.lst (ap []),.lst (ap ([t]++j))] ∅ (by simp);obtain⟨f,rfl,wm,lm⟩:∃f:List Tx,y=.lst (ap f)/\Wn w f/\f.length<=1+d.length:=by
    simp only[bV,fe,or_false]at B;rcases B with rfl|rfl|rfl
    .exact⟨[t],rfl,u,by simp⟩
    .exact⟨[],rfl,λx g=>absurd g (by simp),by simp⟩
    .exact⟨[t]++j,rfl,Wn.app u P,by simp only[dy,pW];lia⟩
   have lt:=List.length_take_le v d;have ltd:(d.take v).length+(d.drop (v+1)).length<=d.length:=by rw[jy,kL];lia
   have K:aU (.lst (ap (d.take v))) (.lst (ap f))=aa (.lst (ap (d.take v++f))):=by rw[A6 (by rw[gC,gC];unfold bS;lia),xz]
   have J:aU (.lst (ap (d.take v++f))) (.lst (ap (d.drop (v+1))))=aa (.lst (ap (d.take v++f++d.drop (v+1)))):=by rw[A6 (by rw[gC,gC,dy];unfold bS;lia),xz]
   refine⟨[bP ns,.own (.lst (O++[.int 0])),⇑9,⇑w,↥z,.val (.lst (ap (d.take v++f++d.drop (v+1)))),.val x,⇑v,↥t,ny],?_,_,_,_,_,_,_,rfl,?_,?_,by simp;lia⟩
   .have t0:ap [t]=[.str t]:=rfl;have Q:ap []=[]:=rfl;rw[t0]at M A;rw[Q]at A;generalize ap (d.take v++f++d.drop (v+1))=R5 at J;generalize ap (d.take v++f)=R4 at K J;generalize ap (d.drop (v+1))=R3 at J H;generalize ap (d.take v)=R1 at K c1;generalize ap ([t]++j)=R2 at M A;generalize ap j=RC at M F;generalize ap f=RM at A K;generalize ap d=RL at bW c1 F H si;refine(b9 (ε1:=[bP ns,.own (.lst (ys++[.int 0])),⇑9,⇑w,↥z,.val (.lst RL),.val x,⇑v,s8,s9]) (by simp![bW,Z,T])).trans ?_;refine(b9 (ε1:=[bP ns,.own (.lst (ys++[.int 0])),⇑9,⇑w,↥z,.val (.lst RL),.val x,⇑v,.val (.str []),s9]) (by simp![])).trans ?_;refine(b9 (ε1:=[bP ns,.own (.lst O),⇑9,⇑w,↥z,.val (.lst RL),.val x,⇑v,↥t,ny]) ?_).trans ?_
    .simp only[dm,dL,ak,au,dV,List.getElem?_cons_succ,List.getElem?_cons_zero,R.bind_ok,W,dY];exact si
    .generalize ((v+1:Nat):Int)=vv at E F H;simp![bN,b8,bA,c1,E,F,M,A,K,H,J]
   .refine Wn.app (Wn.app (λx g=>r x (p6 g)) wm) (λx g=>r x (uB g))
   .rw[dy,dy,Nat.pow_succ];lia)
  (cf 0 n) 0 [bP ns,.own (.lst (o++[.int 0])),⇑9,⇑w,↥z,.val (.lst (ap (bG (cx z w)))),.none,.none,.none,.none] ∅ ⟨_,_,.none,.none,.none,.none,rfl,g0,∅,by simp⟩
 have hl40:d.length<=39:=by
  have:n=0\/n=1\/n=2:=∅
  rcases this with rfl|rfl|rfl <;> simp[cf]at hl <;> lia
 obtain⟨f,gm,p⟩:∃f:List Tx,Good bo w f/\(br (dB (d2 (Pu.eqT aj) (dV 5) (dF (dL bY (au))))) (bz 5 (dF (dL bY (ak (d2 eM (dC (.str [99])) (dV 3)) (au))))) (bH)) [bP ns,.own (.lst ys),⇑9,⇑w,↥z,.val (.lst (ap (d.take 9))),s6,s7,s8,s9] =
   .ok .next [bP ns,.own (.lst ys),⇑9,⇑w,↥z,.val (.lst (ap f)),s6,s7,s8,s9]:=by
  have l:=GL aj (d.take 9) [];have e0:ap []=[]:=rfl;rw[e0]at l;simp only[Bool.false_xor]at l;by_cases h:d.take 9=[]
  .refine⟨[(a8 w [99]).flatten],⟨λx g=>?_,λx g=>?_,by simp,by simp⟩,?_⟩
   .rw[jD]at g;subst g;simp
   .rw[jD]at g;subst g;intro c G;simp at G;rw[G.2];decide
   .rw[decide_eq_true h]at l;have D:eM (.str [99]) (.int w)=aa (.str (a8 w [99]).flatten):=by show(if 0<=(w:Int)/\(w:Int)<=100/\([99]:Tx).length<=100 then aa (PV.str (a8 (w:Int).toNat [99]).flatten)else ac)=_;rw[if_pos ⟨∅,∅,by simp⟩];rfl
    have e9:ap [(a8 w [99]).flatten]=[.str (a8 w [99]).flatten]:=rfl;rw[e9];generalize (a8 w [99]).flatten=C at D;generalize ap (d.take 9)=L at l;simp![l,D]
  .refine⟨d.take 9,⟨λx g=>(r x (p6 g)).1,λx g=>(r x (p6 g)).2,?_,by rw[jy];lia⟩,?_⟩
   .cases e:d.take 9 with
    |nil=>exact absurd e h
    |cons=>simp
   .rw[decide_eq_false h]at l;generalize ap (d.take 9)=L at l;simp![l]
 refine⟨w,bG f,ys,by rw[Y]at hy;lia,w1,w4,gm.perm (nI _),wW _,?_⟩;have kW:f.length<64:=by have:=gm.few;lia
 have kP:aU (.int w) (.int 9)=aa (.int ((w:Int)+9)):=rfl;have Ik:fz (.int ((w:Int)+9)) (.int 1)=aa (.int (((w+8:Nat)):Int)):=by show aa (PV.int ((w:Int)+9-1))=_;congr 2;lia
 have q:b7 (.lst (ap d)) ac (aa 9)=aa (.lst (ap (d.take 9))):=by show aa (PV.lst (cE (ap d) ac (aa ((9:Nat):Int))))=_;rw[wA,sU]
 have eK:jV [.lst (ap f)]=aa (.lst (ap (bG f))):=An ∅;have hb:yaN a [bP ns,.own (.lst xs),⇑9,.none,.none,.none,.none,.none,.none,.none]=.ok (.ret (.val (cM w (bG f)))) [bP ns,.own (.lst ys),⇑9,⇑w,↥z,.val (.lst (ap f)),s6,s7,s8,s9]:=by
  unfold yaN;generalize ap (bG (cx z w))=R0 at Ij e1;generalize ap (d.take 9)=R9 at q p;generalize ap d=RL at e1 q;generalize hRS:ap (bG f)=RS at eK;generalize ap f=RM at p eK;refine(b9 (ε1:=[bP ns,.own (.lst (xs++[.int 0])),⇑9,⇑w,.none,.none,.none,.none,.none,.none]) (by simp![T,Sl])).trans ?_;refine(b9 (ε1:=[bP ns,.own (.lst o),⇑9,⇑w,↥z,.none,.none,.none,.none,.none]) (by generalize ((w+8:Nat):Int)=w8 at Ik hz;simp![kP,Ik,hz])).trans ?_;refine(b9 (ε1:=[bP ns,.own (.lst o),⇑9,⇑w,↥z,.val (.lst R0),.none,.none,.none,.none]) (by simp![Ij,lw])).trans ?_;refine(b9 (ε1:=[bP ns,.own (.lst ys),⇑9,⇑w,↥z,.val (.lst RL),s6,s7,s8,s9]) ?_).trans ?_
  .have X:(dL dX (ak (aM (aC (gA a) (gV (dV 0) (gO 1 (gV (dF (dL bY (ak (dC (.int 0)) (ak (dC (.int 0)) (ak (dC (.int 0)) (ak (dC (.int 1)) (ak (dC (.int 2)) (au)))))))) (Pu.aW)))))) (au))) [bP ns,.own (.lst o),⇑9,⇑w,↥z,.val (.lst R0),.none,.none,.none,.none] =
     .ok (cf 0 n) [bP ns,.own (.lst (o++[.int 0])),⇑9,⇑w,↥z,.val (.lst R0),.none,.none,.none,.none]:=by simp![hp,hr]
   simp only[eu,dm];rw[X];simp only[R.bind_ok];rw[e1]
  refine(b9 (ε1:=[bP ns,.own (.lst ys),⇑9,⇑w,↥z,.val (.lst R9),s6,s7,s8,s9]) (by simp![bN,b8,bA,q])).trans ?_;refine(b9 p).trans ?_;simp only[cM,hRS];simp![eK,lu]
 simp[so,bn,gc,bj,a8,hb,back,iI,aR,R.bind]
end
section
variable{a:Ad}
def yJ:PV->Prop
 |.non=>True
 |.bl _=>True
 |.int _=>True
 |.str _=>True
 |_=>False
def Pl(m:Nat):Nat->PV->Prop
 |0,x=>yJ x
 |k+1,x=>match x with
  |.tup xs=>xs.length<=m/\∀y∈xs,Pl m k y
  |.lst xs=>xs.length<=m/\∀y∈xs,Pl m k y
  |x=>yJ x
def oH:PV->Bool
 |.tup _=>ah
 |_=>aj
def mC:PV->Bool
 |.str _=>ah
 |_=>aj
def By:PV->Bool
 |.int _=>ah
 |_=>aj
def tj:PV->Bool
 |.int _=>ah
 |.bl _=>ah
 |_=>aj
def xb:PV->Bool
 |.bl _=>ah
 |_=>aj
theorem Pl.kind{m k:Nat}{x:PV}(h:Pl m k x):∃t,oE x=aa t/\cK [] (.type t) (.type "tuple")=aa (oH x)/\cK [] (.type t) (.type "str")=aa (mC x)/\cK [] (.type t) (.type "int")=aa (tj x)/\cK [] (.type t) (.type "bool")=aa (xb x):=by
 cases x with
 |raw v=>cases k <;> exact h.elim
 |exc c=>cases k <;> exact h.elim
 |non=>exact⟨_,rfl,by decide +kernel,by decide +kernel,by decide +kernel,by decide +kernel⟩
 |bl b=>exact⟨_,rfl,by show cK [] (.type "bool") (.type "tuple")=aa aj;decide +kernel,by show cK [] (.type "bool") (.type "str")=aa aj;decide +kernel,Ee,G4⟩
 |int b=>exact⟨_,rfl,Om,C0,Fz,Gr⟩
 |str b=>exact⟨_,rfl,by show cK [] (.type "str") (.type "tuple")=aa aj;decide +kernel,qK,FN,by show cK [] (.type "str") (.type "bool")=aa aj;decide +kernel⟩
 |tup b=>exact⟨_,rfl,pb,by show cK [] (.type "tuple") (.type "str")=aa aj;decide +kernel,by show cK [] (.type "tuple") (.type "int")=aa aj;decide +kernel,by show cK [] (.type "tuple") (.type "bool")=aa aj;decide +kernel⟩
 |lst b=>exact⟨_,rfl,by show cK [] (.type "list") (.type "tuple")=aa aj;decide +kernel,by show cK [] (.type "list") (.type "str")=aa aj;decide +kernel,by show cK [] (.type "list") (.type "int")=aa aj;decide +kernel,by show cK [] (.type "list") (.type "bool")=aa aj;decide +kernel⟩
theorem xv{m k:Nat}{x:PV}(h:Pl m k x):bQ [x,.raw (.ty "tuple")]=aa (.bl (oH x)):=let ⟨_,e,h1,_⟩:=h.kind;e_ e h1
theorem EC{m k:Nat}{x:PV}(h:Pl m k x):bQ [x,.raw (.ty "str")]=aa (.bl (mC x)):=let ⟨_,e,_,h1,_⟩:=h.kind;e_ e h1
theorem A9{m k:Nat}{x:PV}(h:Pl m k x):bQ [x,.raw (.ty "int")]=aa (.bl (tj x)):=let ⟨_,e,_,_,h1,_⟩:=h.kind;e_ e h1
theorem C6{m k:Nat}{x:PV}(h:Pl m k x):bQ [x,.raw (.ty "bool")]=aa (.bl (xb x)):=let ⟨_,e,_,_,_,h1⟩:=h.kind;e_ e h1
theorem Pl.tup{m k:Nat}{xs:List PV}(h:Pl m k (.tup xs)):xs.length<=m/\∃j,k=j+1/\∀y∈xs,Pl m j y:=by
 cases k with
 |zero=>exact h.elim
 |succ j=>exact⟨h.1,j,rfl,h.2⟩
theorem iN{ε:af}{d:af->R PV}{x:PV}{T:String}{b:Bool}(c:d ε=.ok x ε)(h:bQ [x,.raw (.ty T)]=aa (.bl b)):dB (dL bQ (ak d (ak (dC (.raw (.ty T))) (au)))) ε=.ok b ε:=dG (eD (c6 c (c6 (bJ _ _) d4)) h)
theorem Bl{d:af->R Pu.PO}{ε ε1:af}{xs:List PV}(h:d ε=.ok (.lst xs) ε1):dF d ε=.ok (.lst xs) ε1:=by unfold dF;rw[h];rfl
theorem gb{g f:af->R Bool}{ε d c:af}{b:Bool}(i:g ε=.ok aj d)(h:f d=.ok b c):dz g f ε=.ok b c:=by unfold dz;rw[i];exact h
theorem oI{c f:af->R Bool}{ε b:af}(d:c ε=.ok ah b):dz c f ε=.ok ah b:=by unfold dz;rw[d];rfl
theorem not_of{c:af->R Bool}{ε d:af}{b:Bool}(h:c ε=.ok b d):cS c ε=.ok (!b) d:=by unfold cS;rw[h];rfl
theorem JX{d1 d2:af->R PV}{ε b:af}(h:d1 ε=.ok (.bl aj) b):jJ d1 d2 ε=.ok (.bl aj) b:=by unfold jJ;rw[dG h];rfl
theorem gT{d:Type}{c:af->R Bool}{d1 d2:af->R d}{ε b:af}(h:c ε=.ok ah b):br c d1 d2 ε=d1 b:=by unfold br;rw[h];rfl
theorem E9{f:Type}{c:af->R Bool}{d1 d2:af->R f}{d b:af}(h:c d=.ok aj b):br c d1 d2 d=d2 b:=by unfold br;rw[h];rfl
theorem iQ{c:af->R Bool}{d1:af->R aJ}{ε b:af}(h:c ε=.ok aj b):br c d1 bH ε=.ok .next b:=by unfold br;rw[h];rfl
theorem tJ{d:af->R PV}{ε b:af}{x:PV}(h:d ε=.ok x b):bc d ε=.ok (.ret (.val x)) b:=by unfold bc;rw[h];rfl
theorem jb{d1 d2:af->R aJ}{ε b:af}{s:Slot}(h:d1 ε=.ok (.ret s) b):aF d1 d2 ε=.ok (.ret s) b:=by unfold aF;rw[h]
theorem vq{D:af->R aJ}{n:Nat}{x y z pv:PV}{ε:af}(h:D (.val x::.val y::.val z::a8 n .none)=.ok (.ret (.val pv)) (.val x::.val y::.val z::ε)):bn 3 [] (bj n D) [.val x,.val y,.val z]=.ok (.val pv) [.val x,.val y,.val z]:=by unfold bn bj;rw[if_pos ⟨rfl,rfl⟩];rw[show D ([.val x,.val y,.val z]++a8 n .none)=_ from h];rfl
theorem FI{G:af->R Slot}{d:af->R PV}{b:af}{x r:PV}(f:d b=.ok x b)(c:G [.val x]=.ok (.val r) [.val x]):aM (aC G (gV d Pu.aW)) b=.ok r b:=by simp[aM,aC,gV,Pu.aW,f,c,R.bind,aR,cn,cC,bF,cb,cQ,q_]
theorem FM{G:af->R Slot}{d e:af->R PV}{b:af}{x y r:PV}(g:d b=.ok x b)(f:e b=.ok y b)(c:G [.val x,.val y]=.ok (.val r) [.val x,.val y]):aM (aC G (gV d (gV e Pu.aW))) b=.ok r b:=by simp[aM,aC,gV,Pu.aW,g,f,c,R.bind,aR,cn,cC,bF,cb,cQ,q_]
theorem fS{G:af->R Slot}{d e f:af->R PV}{ε:af}{x y z r:PV}(h:d ε=.ok x ε)(g:e ε=.ok y ε)(c:f ε=.ok z ε)(b:G [.val x,.val y,.val z]=.ok (.val r) [.val x,.val y,.val z]):aM (aC G (gV d (gV e (gV f Pu.aW)))) ε=.ok r ε:=by simp[aM,aC,gV,Pu.aW,h,g,c,b,R.bind,aR,cn,cC,bF,cb,cQ,q_]
theorem GE{G:af->R Slot}{d:af->R PV}{ε:af}{x r:PV}(c:d ε=.ok x ε)(b:G [.val x]=.ok (.val r) [.val x]):fE (aC G (gV d Pu.aW)) ε=.ok .next ε:=by simp[fE,aC,gV,Pu.aW,c,b,R.bind,aR,cn,cC,bF,cb,cQ]
theorem A0{cap:List Nat}{di:af->R (List PV)}{dt:af->R Bool}{de:af->R PV}{ε:af}{xs:List PV}(p:PV->Bool)(f:PV->PV)(b:di ε=.ok xs ε)(h:∀x∈xs,bu (dq cap dt x ε)=.ok (p x) ε/\(p x=ah->bu (dq cap de x ε)=.ok (f x) ε)):dF (cU cap di dt de) ε=.ok (.lst ((xs.filter p).map f)) ε:=by unfold dF cU;rw[b,R.bind_ok,nP p f xs h [],R.bind_ok,lN];rfl
theorem ET{b:Type}{d:af->R b}{x:PV}{ε:af}{r:b}(c:d [.val x]=.ok r [.val x]):bu (dq [] d x ε)=.ok r ε:=by simp[dq,dD,aR,R.bind,bF,cb,c,cn,cC,cQ,bu]
theorem iL{c:Type}{d:af->R c}{x y:PV}{j:Nat}{b:af}{r:c}(f:b[j]?=aa (.val y))(g:d [.val x,.val y]=.ok r [.val x,.val y]):bu (dq [j] d x b)=.ok r b:=by simp[dq,dD,f,aR,R.bind,bF,cb,g,cn,cC,cQ,bu]
theorem nZ{b:Type}{d:af->R b}{x y z:PV}{j k:Nat}{ε:af}{r:b}(f:ε[j]?=aa (.val y))(c:ε[k]?=aa (.val z))(g:d [.val x,.val y,.val z]=.ok r [.val x,.val y,.val z]):bu (dq [j,k] d x ε)=.ok r ε:=by simp[dq,dD,f,c,aR,R.bind,bF,cb,g,cn,cC,cQ,bu]
theorem pf{x:PV}(h:i_ a [.val x,⇑12]=.ok (.val (.bl aj)) [.val x,⇑12]):iq a [.val x]=.er (.ref a.NoText) [.val x]:=by simp![iq,yao,h,ke,bu]
theorem yZ{x:PV}{t:String}(h:oE x=aa t)(e:cK [] (.type t) (.type "str")=aa aj):i_ a [.val x,⇑12]=.ok (.val (.bl aj)) [.val x,⇑12]:=by have b:=e_ (T:="str") h e;simp![i_,yaw,b]
theorem GT{z:Tx}(h:z.length=0\/12<z.length):i_ a [↥z,⇑12]=.ok (.val (.bl aj)) [↥z,⇑12]:=by
 have b:bQ [.str z,.raw (.ty "str")]=aa (.bl ah):=e_ rfl qK;have c:aY [.str z]=aa (.int (z.length:Nat)):=rfl;by_cases d:(1:Int)<=(z.length:Nat)
 .have f:¬((z.length:Nat):Int)<=12:=∅
  simp![i_,yaw,b,c,d,f]
 .simp![i_,yaw,b,c,d]
theorem G_{z:Tx}(h:z.all bo.contains=aj):i_ a [↥z,⇑12]=.ok (.val (.bl aj)) [↥z,⇑12]:=by
 have b:bQ [.str z,.raw (.ty "str")]=aa (.bl ah):=e_ rfl qK;have c:aY [.str z]=aa (.int (z.length:Nat)):=rfl;have d:=Ah (a:=a) z bo;rw[h]at d;simp only[bo]at d;by_cases f:(1:Int)<=(z.length:Nat)
 .by_cases g:((z.length:Nat):Int)<=12
  .simp![i_,yaw,b,c,f,g,d]
  .simp![i_,yaw,b,c,f,g]
 .simp![i_,yaw,b,c,f]
theorem qu{x:PV}(h:kD a [.val x]=.ok (.val (.bl aj)) [.val x]):iO a [.val x]=.er (.ref a.NoWidth) [.val x]:=by simp![iO,yaq,h,ke,bu]
theorem Op:jk a [.val .non]=.ok (.val (.bl aj)) [.val .non]:=by have b:bQ [.non,.raw (.ty "int")]=aa (.bl aj):=e_ (t:="NoneType") rfl (by decide +kernel);simp![jk,yaz,b]
theorem Gi{w:Nat}{ls:List Tx}(h:ls.length=0\/9<ls.length):oG a [⇑w,.val (.lst (ap ls))]=.er (.ref a.NoView) [⇑w,.val (.lst (ap ls))]:=by
 have b:aY [.lst (ap ls)]=aa (.int (ls.length:Nat)):=by simp[aY,gC]
 by_cases c:(1:Int)<=(ls.length:Nat)
 .have d:¬((ls.length:Nat):Int)<=9:=∅
  generalize ap ls=L at b ⊢;generalize ((ls.length:Nat):Int)=n at b c d;simp![oG,yaZ,b,c,d,ke,bu]
 .generalize ap ls=L at b ⊢;generalize ((ls.length:Nat):Int)=n at b c;simp![oG,yaZ,b,c,ke,bu]
theorem JY{t:Tx}{w:Nat}(h:t.length+1<w)(g:w<=4):mJ a [↥t,⇑w]=.ok (.own (.lst (ap []))) [↥t,⇑w]:=by
 have f:aY [.str t]=aa (.int (t.length:Nat)):=rfl;have c:fz (.int (t.length:Nat)) (.int w)=aa (.int ((t.length:Int)-w)):=rfl;have b:aU (.int ((t.length:Int)-w)) (.int 1)=aa (.int ((t.length:Int)-w+1)):=rfl;have d:dX [.int ((t.length:Int)-w+1)]=aa []:=by show(if _ then aa (cf 0 _)else ac)=_;rw[if_pos ∅,show((t.length:Int)-w+1).toNat=0 by lia];rfl
 show _=R.ok (Slot.own (PO.lst [])) _;generalize (t.length:Int)-w+1=n at b d;generalize (t.length:Int)-w=m at c b;simp![mJ,yaQ,nG,cU,ku,f,c,b,d]
theorem NF{t:Tx}{w:Nat}(p:1<=t.length)(o:t.length<=12)(i:∀c∈t,c∈bo)(d:1<=w)(f:w<=4)(h:¬Tv t w):fD a [↥t,⇑w]=.er (.ref a.NoView) [↥t,⇑w]:=by
 have s:=nA (a:=a) p o i;have r:=xn (a:=a) d f;have u:t.length<w\/w+9<t.length+1:=by
  by_cases m:w<=t.length
  .by_cases l:t.length+1<=w+9
   .exact absurd ⟨d,f,m,l,i⟩ h
   .exact .inr ∅
  .exact .inl ∅
 obtain⟨b,g,n⟩:∃b:List Tx,mJ a [↥t,⇑w]=.ok (.own (.lst (ap b))) [↥t,⇑w]/\(b.length=0\/9<b.length):=by
  by_cases q:w<=t.length+1
  .refine⟨cx t w,v8 d q ∅,?_⟩;rw[<-D7 d,Ot];lia
  .exact⟨[],JY ∅ f,.inl rfl⟩
 have j:=Gi (a:=a) (w:=w) n;generalize ap b=L at g j;simp![fD,yaT,s,r,g,j]
theorem wR{x y:PV}(h:iq a [.val x]=.er (.ref a.NoText) [.val x]):fD a [.val x,.val y]=.er (.ref a.NoText) [.val x,.val y]:=by simp![fD,yaT,h]
theorem Gh{t:Tx}{y:PV}(f:1<=t.length)(d:t.length<=12)(b:∀c∈t,c∈bo)(h:iO a [.val y]=.er (.ref a.NoWidth) [.val y]):fD a [↥t,.val y]=.er (.ref a.NoWidth) [↥t,.val y]:=by have g:=nA (a:=a) f d b;simp![fD,yaT,g,h]
section
variable{x y o:PV}{c:ai}
theorem zM(h:fD a [.val x,.val y]=.er c [.val x,.val y]):mK a [.val x,.val y]=.er c [.val x,.val y]:=by simp![mK,yaY,h]
theorem Aa(h:fD a [.val x,.val y]=.er c [.val x,.val y]):ka a [.val x,.val o,.val y]=.er c [.val x,.val o,.val y]:=by simp![ka,yak,h]
theorem Pd{V:PV}(h:fD a [.val x,.val y]=.ok (.val V) [.val x,.val y])(b:fD a [.val o,.val y]=.er c [.val o,.val y]):ka a [.val x,.val o,.val y]=.er c [.val x,.val o,.val y]:=by simp![ka,yak,h,b]
end
theorem xi(z:Tx)(w:Nat):(cw z w).length=z.length:=by simp[cw]
theorem IT{z:Tx}{w:Nat}(b:1<=w)(h:w<=4)(d:1<=z.length)(m:z.length<=9)(l:∀c∈z,c∈bo):kC a [↥z,⇑w]=.ok (.val (cM w (bG (cw z w)))) [↥z,⇑w]:=by have o:=nA (a:=a) d ∅ l;have n:=xn (a:=a) b h;have i:=D1 (a:=a) (z:=z) b h ∅;have j:=wE d b;have f:=v8 (a:=a) (t:=jN z w) b ∅ ∅;rw[Dm d b]at f;have g:=Gn (a:=a) (w:=w) (ls:=cw z w) (by rw[xi];exact d) (by rw[xi];exact m);generalize cM w (bG (cw z w))=V at g;generalize ap (cw z w)=C at f g;generalize jN z w=u at i f;simp![kC,yaR,o,n,i,f,g]
theorem G9{z:Tx}(p:z.length<=60){cap:List Nat}{ε:af}(g:∀x:PV,(aR (dD ε cap) ε).bind (λb _=>(aR (if(bF b).Nodup then cb ε (.inl x::b)else ac) ε).bind λh _=>cn ε (.inl x::b) (R.ok (PV.non) h))=R.ok PV.non ε/\∀{c:Type} (d:af->R c) (y:c),d [.val x,↥z]=.ok y [.val x,↥z]->dq cap d x ε=.ok y ε):ku cap cA (d2 aU (bN b7 (dV 1) (bA (dV 0)) (b8)) (bN b7 (dV 1) (b8) (bA (dV 0)))) (cf 0 z.length) [] ε=.ok (ap (og z)) ε:=by
 have n:=nP (cap:=cap) (dt:=cA) (de:=(d2 aU (bN b7 (dV 1) (bA (dV 0)) (b8)) (bN b7 (dV 1) (b8) (bA (dV 0))))) (ε:=ε) (λ_=>ah) (λx=>match x with|.int i=>.str (wT i.toNat z)|_=>.non) (cf 0 z.length)
  (by
   intro x m;obtain⟨i,f,rfl⟩:=eJ.mp m;have f:i<z.length:=by simpa using f
   refine⟨by rw[(g _).2 cA ah rfl];rfl,λ_=>?_⟩;have l:b7 (.str z) (aa (i:Int)) ac=aa (.str (z.drop i)):=by show aa (PV.str (cE z _ _))=_;rw[tq]
   have j:b7 (.str z) ac (aa (i:Int))=aa (.str (z.take i)):=by show aa (PV.str (cE z _ _))=_;rw[sU]
   have o:aU (.str (z.drop i)) (.str (z.take i))=aa (.str (wT i z)):=tf (by rw[kL,jy];unfold bS;lia);rw[(g _).2 _ (.str (wT i z)) (by simp only[rT];simp![bN,b8,bA,l,j,o])];simp only[rT,je];rfl) []
 rw[n,lN,nj.mpr (by simp)];congr 1;unfold cf ap og;rw[eU,eU];refine kM λi _=>?_;simp
theorem J9{z:Tx}(i:1<=z.length)(m:z.length<=12)(l:∀c∈z,c∈bo):mr a [↥z]=.ok (↥(lf z)) [↥z]:=by
 have n:=nA (a:=a) i m l;have j:aY [.str z]=aa (.int (z.length:Nat)):=rfl;have f:dX [.int (z.length:Nat)]=aa (cf 0 z.length):=lz ∅;have b:=G9 (z:=z) ∅ (cap:=[0]) (ε:=[↥z]) (λx=>⟨by simp![dD],λd y h=>by simp![dq,dD,h]⟩);have g:pe [.lst (ap (og z))]=aa (.str (lf z)):=by show(fu (ap _)).bind _=_;rw[o_,g9,if_pos (FW i)];rfl
 generalize ap (og z)=T at b g;generalize cf 0 z.length=RR at f b;simp![mr,yaV,n,j,f,cU,b,g]
theorem join_ones(x:Tx):h_ [] (x.map λc=>[c])=x:=by
 induction x with
 |nil=>rfl
 |cons c x b=>
  cases x with
  |nil=>rfl
  |cons d x=>show [c]++[]++h_ [] ((d::x).map λc=>[c])=_;rw[b];rfl
theorem QV{x:Tx}(h:x.length<=100):sK [] [.lst (ap (x.map λc=>[c]))]=aa (.str x):=by
 show(fu (ap _)).bind _=_;rw[o_,g9,if_pos,join_ones];unfold mI bS;have:∀l:Tx,((l.map λc=>[c]).map jx).sum=l.length:=by
  intro l
  induction l with
  |nil=>rfl
  |cons c l b=>simp at b ⊢;lia
 rw[this];simp;lia
theorem Q1{z:Tx}{w:Nat}(Q:1<=z.length)(P:z.length<=60)(O:w<=4):sN a [↥z,⇑w]=.ok (.val (.tup (ap (bG (cw z w))))) [↥z,⇑w]:=by
 have y:dX [.int (z.length:Nat)]=aa (cf 0 z.length):=lz ∅;have g:dX [.int w]=aa (cf 0 w):=lz ∅;have v:aY [.str z]=aa (.int (z.length:Nat)):=rfl;obtain⟨E,d,n,q,l,A,F,rfl⟩:=ri (i:=3) (db:=(ln 2 (vW sK (dC (.str [])) (ak (dF (cU [0,3] (dL dX (ak (dV 1) (au))) (cA) (d2 bE (dV 1) (d2 gx (d2 aU (dV 2) (dV 0)) (dL aY (ak (dV 1) (au))))))) (au)))))
  (I:=λr ε=>∃(n:Slot) (q l:List Nat),cy z.length=l++q/\r=q.map (λ(i:Nat)=>PV.int (0+(i:Nat)))/\ε=[↥z,⇑w,.own (.lst (ap (l.map (fM z w)))),n])
  (by
   rintro x r ε ⟨n,q,l,B,o,rfl⟩;cases q with
   |nil=>cases o
   |cons i q=>
    simp only[gH,rR]at o;obtain⟨rfl,rfl⟩:=o;have S:l.length<=z.length:=by have:=congrArg jx B;simp at this;lia
    have j:=nP (cap:=[0,3]) (dt:=cA) (de:=(d2 bE (dV 1) (d2 gx (d2 aU (dV 2) (dV 0)) (dL aY (ak (dV 1) (au)))))) (ε:=[↥z,⇑w,.own (.lst (ap (l.map (fM z w)))),⇑i]) (λ_=>ah) (λx=>match x with|.int k=>.str [Mx.gY z (i+k.toNat)]|_=>.non) (cf 0 w)
     (by
      intro x f;obtain⟨k,_,rfl⟩:=eJ.mp f;refine⟨by simp![dq,dD,bu,cA],λ_=>?_⟩;have D:aU (.int i) (.int k)=aa (.int ((i+k:Nat):Int)):=by show aa (PV.int ((i:Int)+k))=_;congr 2
      have b:gx (.int ((i+k:Nat):Int)) (.int (z.length:Nat))=aa (.int (((i+k) % z.length:Nat):Int)):=by show(if(0:Int)<(z.length:Nat)then aa (PV.int (((i+k:Nat):Int) % (z.length:Nat)))else ac)=_;rw[if_pos ∅];congr 2
      have u:(i+k) % z.length<z.length:=Nat.mod_lt _ ∅;have f:bE (.str z) (.int (((i+k) % z.length:Nat):Int))=aa (.str [Mx.gY z (i+k)]):=by show(dU z _).map _=_;unfold Mx.gY;generalize (i+k) % z.length=m at u;rw[AS ∅ (by rw[je];exact u)];simp[uq,u]
      simp only[rT,je];generalize ap (l.map (fM z w))=L;generalize (((i+k) % z.length:Nat):Int)=m at b f;generalize ((i+k:Nat):Int)=ik at D b;generalize Mx.gY z (i+k)=c at f;simp![dq,dD,bu,v,D,b,f]) []
    have H:((cf 0 w).filter (λ_=>ah)).map (λx=>match x with|.int k=>PV.str [Mx.gY z (i+k.toNat)]|_=>.non)=ap ((fM z w i).map λc=>[c]):=by rw[nj.mpr (by simp)];unfold cf ap fM;rw[eU,eU,eU];refine kM λk _=>?_;simp
    rw[lN,H]at j;have G:(fM z w i).length=w:=by simp[fM]
    have s:=QV (x:=fM z w i) ∅;have b:(ap (l.map (fM z w))).length<bS:=by rw[gC,c0];unfold bS;lia
    refine⟨[↥z,⇑w,.own (.lst (ap ((l++[i]).map (fM z w)))),⇑(0+(i:Nat))],?_,_,q,l++[i],by rw[B];simp,rfl,rfl⟩;have M:ap ((l++[i]).map (fM z w))=ap (l.map (fM z w))++[.str (fM z w i)]:=by simp[ap]
    rw[M];simp only[rT];generalize ap ((fM z w i).map λc=>[c])=J at j s;generalize ap (l.map (fM z w))=L at j b;generalize fM z w i=W at s;generalize cf 0 w=RW at g j;simp![vW,Pu.mC,cU,g,j,s,b])
  (cf 0 z.length) [↥z,⇑w,.own (.lst (ap (([]:List Nat).map (fM z w)))),.none] ⟨.none,cy z.length,[],by simp,rfl,rfl⟩
 have p:q=[]:=by cases q with|nil=>rfl|cons=>cases F
 subst p;rw[gI]at A;rw[<-A]at d;have K:(cy z.length).map (fM z w)=cw z w:=rfl;rw[K]at d;have N:ap (([]:List Nat).map (fM z w))=[]:=rfl;rw[N]at d;have t:jV [.lst (ap (cw z w))]=aa (.lst (ap (bG (cw z w)))):=by show(fu (ap _)).bind _=_;rw[o_,g9,if_pos (by rw[xi];lia)]
 have h:=EB (bG (cw z w));generalize ap (bG (cw z w))=T at t h;generalize ap (cw z w)=C at d t;generalize cf 0 z.length=RR at y d;simp[sN,yaJ,aF,br,dB,d2,d1,dV,dC,dL,dF,ak,au,bc,ff,bz,i8,aC,gV,gO,Pu.aW,cn,cC,bF,cb,cQ,R.bind,aR,bn,gc,bj,back,iI,lZ,pI,vD,q_,AM,aM,pw,bY,cF,bH,xw,fE,GG,cS,xf,gw,dz,jJ,Ft,fL,bx,fJ,ln,kA,qV,a8,jx,v,y,dm,eu,d,t,A5,h,lu]
end
section
variable{a:Ad}
theorem vO{f g:Int->Int->Bool}{d1 d2 b:af->R PV}{ε:af}{i j l:Int}(m:d1 ε=.ok (.int i) ε)(d:d2 ε=.ok (.int j) ε)(c:b ε=.ok (.int l) ε):dB (fL (bx f) (bx g) d1 d2 b) ε=.ok (f i j&&g j l) ε:=by
 cases h:f i j <;> simp[dB,fL,m,d,c,R.bind,aR,bx,lZ,h]
theorem RG{i:Nat}{ε:af}{xs:List PV}(h:ε[i]?=aa (.val (.tup xs))):cL (dV i) ε=.ok xs ε:=by unfold cL;rw[aB h];rfl
theorem JA{m k:Nat}{x:PV}(h:Pl m k x):jk a [.val x]=.ok (.val (.bl (By x))) [.val x]:=by
 have c:=A9 h;have d:=C6 h;have e:By x=(tj x&&!xb x):=by cases x <;> rfl
 rw[e];generalize tj x=b at c ⊢;cases b <;> simp![jk,yaz,c,d]
def RE(x:PV):Prop:=∃(i:Int) (b:List Tx),x=.tup [.int i,.tup (ap b)]
theorem BD:∀{b:List PV},b.all mC=ah->∃c:List Tx,b=ap c
 |[],_=>⟨[],rfl⟩
 |z::b,h=>by
  rw[mW,fI]at h;obtain⟨c,rfl⟩:=BD h.2;cases z with
  |str t=>exact⟨t::c,rfl⟩
  |_=>exact absurd h.1 (by simp[mC])
def gD(w:Int):PV->Bool
 |.str z=>eW w bo z
 |_=>aj
theorem OG{m k:Nat}{x:PV}(h:Pl m k x)(w:Int):ou a [.val x,⇑w,↥bo]=.ok (.val (.bl (gD w x))) [.val x,⇑w,↥bo]:=by
 by_cases b:∃z,x=.str z
 .obtain⟨z,rfl⟩:=b;exact Dw z bo w
 .have e:mC x=aj/\gD w x=aj:=by cases x <;> first|exact⟨rfl,rfl⟩|exact absurd ⟨_,rfl⟩ b
  have c:=EC h;rw[e.1]at c;rw[e.2];exact vq (n:=0) (ε:=[]) (tJ (JX (eD (c6 (aB rfl) (c6 (bJ _ _) d4)) c)))
theorem Mg{m k:Nat}{x:PV}(c:Pl m k x)(t:¬∃f,x=.tup (ap f))(w:Int):lv a [.val x,⇑w,↥bo]=.ok (.val (.bl aj)) [.val x,⇑w,↥bo]:=by
 have g:=xv c;refine vq (n:=0) (ε:=[]) ?_;show yal a [.val x,⇑w,↥bo]=_;unfold yal;by_cases l:∃b,x=.tup b;rotate_left
 .have:oH x=aj:=by cases x <;> first|rfl|exact absurd ⟨_,rfl⟩ l
  rw[this]at g;exact jb ((gT (oI (not_of (iN (aB rfl) g)))).trans rfl)
 obtain⟨b,rfl⟩:=l;obtain⟨_,j,_,s⟩:=c.tup;have d:dz (cS (dB (dL bQ (ak (dV 0) (ak (dC (.raw (.ty "tuple"))) (au)))))) (cS (dB (fL (bx λi j=>decide (i<=j)) (bx λi j=>decide (i<=j)) (dC (.int 1)) (dL aY (ak (dV 0) (au))) (dC (.int 9))))) [.val (.tup b),⇑w,↥bo]=.ok (!(decide ((1:Int)<=b.length)&&decide ((b.length:Int)<=9))) [.val (.tup b),⇑w,↥bo] :=gb (not_of (iN (aB rfl) g)) (not_of (vO (bJ _ _) (eD (c6 (aB rfl) d4) rfl) (bJ _ _)));cases o:(!(decide ((1:Int)<=b.length)&&decide ((b.length:Int)<=9)))with
 |true=>rw[o]at d;exact jb ((gT d).trans rfl)
 |false=>
  rw[o]at d;have q:=A0 (ε:=[.val (.tup b),⇑w,↥bo]) (cap:=[1,2]) (di:=cL (dV 0)) (dt:=cA) (de:=aM (aC (ou a) (gV (dV 0) (gV (dV 1) (gV (dV 2) (Pu.aW)))))) (λ_=>ah) (λz=>.bl (gD w z)) (RG rfl) (λx c=>⟨nZ rfl rfl rfl,λ_=>nZ rfl rfl (fS (aB rfl) (aB rfl) (aB rfl) (OG (s x c) w))⟩);rw[nj.mpr (λ_ _=>rfl),show b.map (λz=>PV.bl (gD w z))=(b.map (gD w)).map PV.bl by rw[eU];rfl]at q;have p:=sT (b.map (gD w));have u:(b.map (gD w)).all id=aj:=by
   rw[pX,yq];intro h;have v:b.all mC=ah:=j7.mpr λz r=>by
    have:=j7.mp h z r;cases z <;> first|rfl|exact absurd this (by simp[gD])
   obtain⟨f,e⟩:=BD v;exact t ⟨f,by rw[e]⟩
  rw[u]at p;rw[b9 (iQ d)];exact jb ((gT (not_of (dG (eD (c6 q d4) p)))).trans rfl)
theorem qT{m k:Nat}{x:PV}(h:Pl m k x)(f:¬RE x):kt a [.val x]=.ok (.val (.bl aj)) [.val x]:=by
 refine ES ?_;by_cases n:∃d,x=.tup d;rotate_left
 .obtain⟨t,e,p,_⟩:=h.kind;have:oH x=aj:=by cases x <;> first|rfl|exact absurd ⟨_,rfl⟩ n
  rw[this]at p;exact Iy bo e p
 obtain⟨d,rfl⟩:=n;obtain⟨_,j,_,c⟩:=h.tup
 match d,c,f with
 |[],_,_=>exact zX bo (by simp)
 |[_],_,_=>exact zX bo (by simp)
 |_::_::_::_,_,_=>exact zX bo (by simp)
 |[b,q],c,f=>
  have g:=JA (a:=a) (c b (by simp));by_cases o:∃i,b=.int i;rotate_left
  .have:By b=aj:=by cases b <;> first|rfl|exact absurd ⟨_,rfl⟩ o
   rw[this]at g;exact yX bo (we g)
  obtain⟨i,rfl⟩:=o;by_cases l:1<=i/\i<=4
  .exact N7 bo l (Mg (c q (by simp)) (λ⟨r,e⟩=>f ⟨i,r,by rw[e]⟩) i)
  .have:=nR (a:=a) i;rw[decide_eq_false l]at this;exact yX bo this
theorem Eo(y:PV)(r:List PV):bE (.tup (y::r)) (.int 0)=aa y:=tK (j:=0) rfl
theorem IG(x y:PV)(r:List PV):bE (.tup (x::y::r)) (.int 1)=aa y:=tK (j:=1) rfl
def T0:af->R PV:=d2 bE (dV 0) (dC (.int 0))
def T1:af->R PV:=d2 bE (dV 0) (dC (.int 1))
def v1:af->R Bool:=dz (cS (dB (dL bQ (ak (dV 0) (ak (dC (.raw (.ty "tuple"))) (au)))))) (dz (dB (d2 (Pu.eqT ah) (dL aY (ak (dV 0) (au))) (dC (.int 2)))) (dz (cS (dB (dL bQ (ak T0 (ak (dC (.raw (.ty "int"))) (au)))))) (dB (dL bQ (ak T0 (ak (dC (.raw (.ty "bool"))) (au)))))))
def v2:af->R Bool:=dz (cS (dB (fL (bx λi j=>decide (i<=j)) (bx λi j=>decide (i<=j)) (dC (.int 1)) T0 (dC (.int 4))))) (dz (cS (dB (dL bQ (ak T1 (ak (dC (.raw (.ty "tuple"))) (au)))))) (cS (dB (fL (bx λi j=>decide (i<=j)) (bx λi j=>decide (i<=j)) (dC (.int 1)) (dL aY (ak T1 (au))) (dC (.int 9))))))
def v3:af->R Bool:=dz (cS (dB (dL bQ (ak (dV 1) (ak (dC (.raw (.ty "str"))) (au)))))) (dz (dB (d2 (Pu.eqT ah) (dL aY (ak (dV 1) (au))) T0)) (cS (dB (dL mB (ak (dF (cU [] (cL (dV 1)) (cA) (d2 (kb aj) (dV 0) (dC (.str [97,98,99]))))) (au))))))
def nK:af->R aJ:=br v3 (bc (dC (.bl aj))) (bH)
def v4:af->R PV:=dL mB (ak (dF (qQ [] (qA (ak T1 (ak (bN b7 T1 (bA (dC (.int 1))) (b8)) (au)))) (cA) (d2 qU (dV 0) (dV 1)))) (au))
theorem QR:yaG a=aF (br v1 (bc (dC (.bl aj))) (bH)) (aF (br v2 (bc (dC (.bl aj))) (bH)) (aF (λε=>eu (dm 1 (cL T1) nK ε)) (bc v4))):=rfl
theorem QL{ε:af}{z:Tx}{w:Int}(d:ε[1]?=aa (↥z))(m:T0 ε=.ok (.int w) ε):v3 ε=.ok (!(eW w bo z)) ε:=by
 have h:cS (dB (dL bQ (ak (dV 1) (ak (dC (.raw (.ty "str"))) (au))))) ε=.ok aj ε:=not_of (iN (aB d) (e_ rfl qK));have b:dB (d2 (Pu.eqT ah) (dL aY (ak (dV 1) (au))) T0) ε=.ok (!(decide ((z.length:Int)=w))) ε:=by refine dG (cP (eD (c6 (aB d) d4) (v:=.int (z.length:Nat)) rfl) m ?_);rw[mz,yw]
 have f:=A0 (ε:=ε) (cap:=[]) (di:=cL (dV 1)) (dt:=cA) (de:=(d2 (kb aj) (dV 0) (dC (.str [97,98,99])))) (xs:=z.map λc=>.str [c]) (λ_=>ah) (λx=>match x with|.str [c]=>.bl (bo.contains c)|_=>.non) (by unfold cL;rw[aB d];rfl) (λx j=>by
  obtain⟨c,_,rfl⟩:=eJ.mp j;have i:kb aj (.str [c]) (.str [97,98,99])=aa (.bl (bo.contains c)):=by rw[show bo.contains c=_ from rfl,<-Dh];simp[kb];rfl
  exact⟨ET rfl,λ_=>ET (cP (aB rfl) (bJ _ _) i)⟩)
 have l:((z.map λc=>PV.str [c]).filter (λ_=>ah)).map (λx=>match x with|.str [c]=>PV.bl (bo.contains c)|_=>.non)=(z.map bo.contains).map .bl:=by rw[nj.mpr (by simp),eU,eU];rfl
 rw[l]at f;have g:=sT (z.map bo.contains);rw[show(z.map bo.contains).all id=z.all bo.contains by rw[pX];rfl]at g;have n:=not_of (dG (eD (c6 f d4) g));unfold eW;by_cases c:(z.length:Int)=w
 .rw[decide_eq_true c]at b ⊢;rw[ur];exact gb h (gb b n)
 .rw[decide_eq_false c]at b ⊢;exact gb h (oI b)
theorem MP{x y:PV}{w:Int}{r:List PV}(h:x=.tup (.int w::r)){m k:Nat}(g:Pl m k y):nK [.val x,.val y]=if gD w y=ah then .ok .next [.val x,.val y] else .ok (.ret (.val (.bl aj))) [.val x,.val y]:=by
 have i:T0 [.val x,.val y]=.ok (.int w) [.val x,.val y]:=cP (aB rfl) (bJ _ _) (by rw[h];exact Eo _ _);unfold nK;by_cases d:∃z,y=.str z
 .obtain⟨z,rfl⟩:=d;have c:=QL (ε:=[.val x,↥z]) rfl i;cases b:eW w bo z with
  |true=>rw[b]at c;rw[show gD w (.str z)=ah from b,if_pos rfl];exact iQ c
  |false=>rw[b]at c;rw[show gD w (.str z)=aj from b,if_neg (by simp)];exact(gT c).trans rfl
 .have e:mC y=aj/\gD w y=aj:=by cases y <;> first|exact⟨rfl,rfl⟩|exact absurd ⟨_,rfl⟩ d
  have f:=EC g;rw[e.1]at f;rw[e.2,if_neg (by simp)];exact(gT (oI (not_of (iN (aB rfl) f)))).trans rfl
theorem CT{i:Nat}{db:af->R aJ}{p:PV->Bool}{ε:af}:∀(xs:List PV) (b:Slot),(∀x∈xs,db (ε.set i (.val x))=if p x=ah then .ok .next (ε.set i (.val x))else .ok (.ret (.val (.bl aj))) (ε.set i (.val x))) -> ∃s,gF i db xs (ε.set i b)=if xs.all p=ah then .ok .next (ε.set i s)else .ok (.ret (.val (.bl aj))) (ε.set i s)
 |[],b,_=>⟨b,rfl⟩
 |x::xs,b,h=>by
  have d:=h x (by simp);unfold gF;rw[List.set_set,mW];by_cases c:p x=ah
  .rw[if_pos c]at d;obtain⟨s,g⟩:=CT xs (.val x) λy f=>h y (by simp[f]);refine⟨s,?_⟩;rw[d,c,ur];exact g
  .rw[if_neg c]at d;refine⟨.val x,?_⟩;rw[d,if_neg (by simp[c])]
theorem BC:∀(f:List Tx),((f.zip f.tail).all λq=>decide (q.1<=q.2))=ah↔f.Pairwise (λa b=>dP a b=ah)
 |[]=>by simp
 |[x]=>by simp
 |x::y::r=>by
  have i:=BC (y::r);rw[show((x::y::r).zip (x::y::r).tail)=(x,y)::((y::r).zip (y::r).tail)from rfl,mW,fI,i];constructor
  .rintro⟨d,c⟩;refine .cons (λz g=>?_) c;rcases bV.mp g with rfl|g
   .exact d
   .exact zS x y z d ((HJ.mp c).1 z g)
  .intro h;obtain⟨d,c⟩:=HJ.mp h;exact⟨d y (by simp),c⟩
def Et:PV×PV->PV
 | (.str x,.str y)=>.bl (decide (x<=y))
 |_=>.non
theorem GA:∀(b qs:List Tx),(((ap b).zip (ap qs)).map Et)=((b.zip qs).map λq=>decide (q.1<=q.2)).map PV.bl
 |[],_=>by simp[ap]
 |_::_,[]=>by simp[ap]
 |p::b,q::qs=>by have:=GA b qs;unfold ap at this ⊢;rw[gH,gH,List.zip_cons_cons,gH,this];rfl
theorem FU{b:Type}{d:af->R b}{x y:PV}{ε:af}{r:b}(c:d [.val x,.val y]=.ok r [.val x,.val y]):bu (lx [] d x y ε)=.ok r ε:=by simp[lx,dD,aR,R.bind,bF,cb,c,cn,cC,cQ,bu]
theorem Nn{q:PV}{qs:List PV}:b7 (.tup (q::qs)) (aa 1) ac=aa (.tup qs):=by
 show(if HT.sIx (q::qs).length 0 (aa 1)=0/\HT.sIx (q::qs).length (q::qs).length ac=(q::qs).length then ac else aa (PV.tup (cE (q::qs) (aa 1) ac)))=_;have b:HT.sIx (q::qs).length 0 (aa 1)=1:=by show(if(1:Int)<0 then((1:Int)+((q::qs).length:Int)).toNat else min (1:Int).toNat (q::qs).length)=1;rw[if_neg (by decide)];simp
 rw[if_neg (by rw[b];simp)];congr 2;exact tq (q::qs) 1
theorem PN{ε:af}{c:List Tx}(d:1<=c.length)(f:T1 ε=.ok (.tup (ap c)) ε):v4 ε=.ok (.bl (decide (c=bG c))) ε:=by
 obtain⟨p,r,rfl⟩:∃p r,c=p::r:=by cases c with|nil=>simp at d|cons p r=>exact⟨p,r,rfl⟩
 have l:bN b7 T1 (bA (dC (.int 1))) (b8) ε=.ok (.tup (ap r)) ε:=by have:=Nn (q:=.str p) (qs:=ap r);unfold bN;rw[f];simp[R.bind,bA,dC,b8,pI,aR,show ap (p::r)=.str p::ap r from rfl,this]
 have m:qA (ak T1 (ak (bN b7 T1 (bA (dC (.int 1))) (b8)) (au))) ε=.ok ((ap (p::r)).zip (ap r)) ε:=by unfold qA;rw[c6 f (c6 l d4)];rfl
 have g:=Ew (cap:=[]) (dt:=cA) (de:=d2 qU (dV 0) (dV 1)) (ε:=ε) (λ_=>ah) Et ((ap (p::r)).zip (ap r)) (λx n=>by obtain⟨u,v⟩:=x;obtain⟨d,s⟩:=x6 n;obtain⟨i,_,rfl⟩:=eJ.mp d;obtain⟨j,_,rfl⟩:=eJ.mp s;exact⟨FU rfl,λ_=>FU rfl⟩) [];rw[nj.mpr (λ_ _=>rfl),GA,lN]at g;have o:dF (qQ [] (qA (ak T1 (ak (bN b7 T1 (bA (dC (.int 1))) (b8)) (au)))) (cA) (d2 qU (dV 0) (dV 1))) ε=.ok (.lst ((((p::r).zip r).map λq=>decide (q.1<=q.2)).map PV.bl)) ε:=by refine Bl ?_;unfold qQ;rw[m,R.bind_ok,g,R.bind_ok]
 have:=sT (((p::r).zip r).map λq=>decide (q.1<=q.2));rw[pX]at this;have e:(((p::r).zip r).all (id ∘ λq=>decide (q.1<=q.2)))=decide (p::r=bG (p::r)):=by
  by_cases h:(p::r).Pairwise (λa b=>dP a b=ah)
  .rw[decide_eq_true (Gg h).symm];exact(BC (p::r)).mpr h
  .rw[decide_eq_false (λq=>h (by rw[q];exact wW _)),yq];exact λq=>h ((BC (p::r)).mp q)
 rw[e]at this;exact eD (c6 o d4) this
theorem P7{D:af->R aJ}{n:Nat}{x pv:PV}{ε:af}(h:D (.val x::a8 n .none)=.ok (.ret (.val pv)) (.val x::ε)):bn 1 [] (bj n D) [.val x]=.ok (.val pv) [.val x]:=by unfold bn bj;rw[if_pos ⟨rfl,rfl⟩,show D ([.val x]++a8 n .none)=_ from h];rfl
theorem JU{r:R aJ}{f:aJ}{b:af}(h:r=.ok f b):eu r=.ok f b:=by rw[h];rfl
theorem Lg{m k:Nat}{x:PV}(t:Pl m k x):∃b,rk a [.val x]=.ok (.val (.bl b)) [.val x]/\kt a [.val x]=.ok (.val (.bl b)) [.val x]/\(b=ah->∃(i:Int) (c:List Tx),x=.tup [.int i,.tup (ap c)]/\vw i c=ah):=by
 have K:∀{b:Bool}{s:Slot},aF (br v1 (bc (dC (.bl aj))) (bH)) (aF (br v2 (bc (dC (.bl aj))) (bH)) (aF (λε=>eu (dm 1 (cL T1) nK ε)) (bc v4))) [.val x,.none]=.ok (.ret (.val (.bl b))) [.val x,s]->rk a [.val x]=.ok (.val (.bl b)) [.val x]:=λ{b s} h=>P7 (n:=1) (ε:=[s]) (by rw[QR];exact h);have no:∀{s:Slot},aF (br v1 (bc (dC (.bl aj))) (bH)) (aF (br v2 (bc (dC (.bl aj))) (bH)) (aF (λε=>eu (dm 1 (cL T1) nK ε)) (bc v4))) [.val x,.none]=.ok (.ret (.val (.bl aj))) [.val x,s]->kt a [.val x]=.ok (.val (.bl aj)) [.val x]->∃b,rk a [.val x]=.ok (.val (.bl b)) [.val x]/\kt a [.val x]=.ok (.val (.bl b)) [.val x]/\(b=ah->∃(i:Int) (c:List Tx),x=.tup [.int i,.tup (ap c)]/\vw i c=ah):=λh1 J=>⟨aj,K h1,J,λh=>by cases h⟩
 have P:=xv t;by_cases O:∃o,x=.tup o;rotate_left
 .have:oH x=aj:=by cases x <;> first|rfl|exact absurd ⟨_,rfl⟩ O
  rw[this]at P;exact no (jb ((gT (oI (not_of (iN (aB rfl) P)))).trans rfl)) (qT t λ⟨i,c,e⟩=>O ⟨_,e⟩)
 obtain⟨o,rfl⟩:=O;obtain⟨_,j,_,Y⟩:=t.tup;have M:cS (dB (dL bQ (ak (dV 0) (ak (dC (.raw (.ty "tuple"))) (au))))) [.val (.tup o),.none]=.ok aj [.val (.tup o),.none]:=not_of (iN (aB rfl) P);have l2:dB (d2 (Pu.eqT ah) (dL aY (ak (dV 0) (au))) (dC (.int 2))) [.val (.tup o),.none]=.ok (ah^^decide ((o.length:Int)=2)) [.val (.tup o),.none]:=dG (cP (eD (c6 (aB rfl) d4) rfl) (bJ _ _) (mz ah _ _));by_cases J:∃l g,o=[l,g]
 rotate_left
 .have hl:¬((o.length:Int)=2):=λe=>J (by
   match o,e with
   |[l,g],_=>exact⟨l,g,rfl⟩
   |[],e=>simp at e
   |[_],e=>simp at e
   |_::_::_::_,e=>simp at e;lia)
  rw[decide_eq_false hl]at l2;exact no (jb ((gT (gb M (oI l2))).trans rfl)) (qT t λ⟨i,c,e⟩=>J ⟨_,_,by injection e⟩)
 obtain⟨l,g,rfl⟩:=J;have X:=Y l (by simp);have W:=Y g (by simp);have A:∀{s},T0 [.val (.tup [l,g]),s]=.ok l [.val (.tup [l,g]),s]:=cP (aB rfl) (bJ _ _) (Eo _ _);have w:∀{s},T1 [.val (.tup [l,g]),s]=.ok g [.val (.tup [l,g]),s]:=cP (aB rfl) (bJ _ _) (IG _ _ _);have G:=A9 X;have T:=C6 X;by_cases v:∃i,l=.int i;rotate_left
 .refine no (s:=.none) (jb ((gT (gb M (gb l2 ?_))).trans rfl)) (qT t λ⟨i,c,e⟩=>v ⟨i,by injection e with e;injection e⟩);cases Q:tj l with
  |false=>rw[Q]at G;exact oI (not_of (iN A G))
  |true=>
   have:xb l=ah:=by cases l <;> first|rfl|exact absurd ⟨_,rfl⟩ v|cases Q
   rw[Q]at G;rw[this]at T;exact gb (not_of (iN A G)) (iN A T)
 obtain⟨i,rfl⟩:=v;have B:br v1 (bc (dC (.bl aj))) (bH) [.val (.tup [.int i,g]),.none]=.ok .next [.val (.tup [.int i,g]),.none]:=iQ (gb M (gb l2 (gb (not_of (iN A G)) (iN A T))));have F:cS (dB (fL (bx λi j=>decide (i<=j)) (bx λi j=>decide (i<=j)) (dC (.int 1)) T0 (dC (.int 4)))) [.val (.tup [.int i,g]),.none]=.ok (!(decide (1<=i)&&decide (i<=4))) [.val (.tup [.int i,g]),.none]:=not_of (vO (bJ _ _) A (bJ _ _));by_cases C:1<=i/\i<=4;rotate_left
 .have e:(!(decide (1<=i)&&decide (i<=4)))=ah:=by
   by_cases q:1<=i
   .rw[decide_eq_true q,decide_eq_false (λz=>C ⟨q,z⟩)];rfl
   .rw[decide_eq_false q];rfl
  rw[e]at F;refine no (s:=.none) (by rw[b9 B];exact jb ((gT (oI F)).trans rfl)) (ES (yX bo ?_));have:=nR (a:=a) i;rw[decide_eq_false C]at this;exact this
 rw[decide_eq_true C.1,decide_eq_true C.2]at F;have r:=xv W;by_cases N:∃d,g=.tup d;rotate_left
 .have:oH g=aj:=by cases g <;> first|rfl|exact absurd ⟨_,rfl⟩ N
  rw[this]at r;exact no (s:=.none) (by rw[b9 B];exact jb ((gT (gb F (oI (not_of (iN w r))))).trans rfl)) (qT t λ⟨i,c,e⟩=>N ⟨_,by injection e with e;injection e with _ e;injection e⟩)
 obtain⟨d,rfl⟩:=N;have L:cS (dB (fL (bx λi j=>decide (i<=j)) (bx λi j=>decide (i<=j)) (dC (.int 1)) (dL aY (ak T1 (au))) (dC (.int 9)))) [.val (.tup [.int i,.tup d]),.none]=.ok (!(decide ((1:Int)<=d.length)&&decide ((d.length:Int)<=9))) [.val (.tup [.int i,.tup d]),.none]:=not_of (vO (bJ _ _) (eD (c6 w d4) rfl) (bJ _ _));obtain⟨_,j',_,pq⟩:=W.tup;have f:∀c,d=ap c->vw i c=(decide (1<=i/\i<=4)&&(decide (1<=c.length/\c.length<=9)&&(c.all (eW i bo)&&decide (c=bG c)))):=λc _=>rfl;by_cases E:1<=d.length/\d.length<=9;rotate_left
 .have e:(!(decide ((1:Int)<=d.length)&&decide ((d.length:Int)<=9)))=ah:=by
   by_cases q:1<=d.length
   .rw[decide_eq_true ∅,decide_eq_false ∅];rfl
   .rw[decide_eq_false ∅];rfl
  rw[e]at L;refine no (s:=.none) (by rw[b9 B];exact jb ((gT (gb F (gb (not_of (iN w r)) L))).trans rfl)) ?_;by_cases D:∃c,d=ap c
  .obtain⟨c,rfl⟩:=D;rw[gC]at E;have:=zN (a:=a) i c;rw[f c rfl,decide_eq_false E,BS,ye]at this;exact this
  .exact qT t λ⟨i,c,e⟩=>D ⟨c,by injection e with e;injection e with _ e;injection e with e;injection e⟩
 rw[decide_eq_true ∅,decide_eq_true ∅]at L;have S:br v2 (bc (dC (.bl aj))) (bH) [.val (.tup [.int i,.tup d]),.none]=.ok .next [.val (.tup [.int i,.tup d]),.none]:=iQ (gb F (gb (not_of (iN w r)) L));obtain⟨s,si⟩:=CT (i:=1) (db:=nK) (p:=gD i) (ε:=[.val (.tup [.int i,.tup d]),.none]) d .none (λy hy=>MP rfl (pq y hy));have u:(λε=>eu (dm 1 (cL T1) nK ε)) [.val (.tup [.int i,.tup d]),.none]=if d.all (gD i)=ah then .ok .next [.val (.tup [.int i,.tup d]),s] else .ok (.ret (.val (.bl aj))) [.val (.tup [.int i,.tup d]),s]:=by
  have h:dm 1 (cL T1) nK [.val (.tup [.int i,.tup d]),.none]=if d.all (gD i)=ah then .ok .next [.val (.tup [.int i,.tup d]),s] else .ok (.ret (.val (.bl aj))) [.val (.tup [.int i,.tup d]),s]:=by unfold dm;rw[show cL T1 [.val (.tup [.int i,.tup d]),.none]=.ok d [.val (.tup [.int i,.tup d]),.none] by unfold cL;rw[w];rfl,R.bind_ok];exact si
  show eu _=_;rw[h];split <;> rfl
 by_cases D:∃c,d=ap c;rotate_left
 .have hf:¬d.all (gD i)=ah:=λh=>D (BD (j7.mpr λz Z=>by
   have:=j7.mp h z Z;cases z <;> first|rfl|exact absurd this (by simp[gD])))
  rw[if_neg hf]at u;exact no (s:=s) (by rw[b9 B,b9 S];exact jb u) (qT t λ⟨i,c,e⟩=>D ⟨c,by injection e with e;injection e with _ e;injection e with e;injection e⟩)
 obtain⟨c,rfl⟩:=D;rw[gC]at E;have rW:(ap c).all (gD i)=c.all (eW i bo):=by unfold ap;rw[pX];rfl
 rw[rW]at u;have H:=zN (a:=a) i c;by_cases I:c.all (eW i bo)=ah
 .rw[if_pos I]at u;rw[f c rfl,decide_eq_true C,decide_eq_true E,I]at H;simp only[ur]at H;refine⟨decide (c=bG c),K (s:=s) ?_,H,λh=>⟨i,c,rfl,?_⟩⟩
  .rw[b9 B,b9 S,b9 u];exact tJ (PN E.1 w)
  .rw[f c rfl,decide_eq_true C,decide_eq_true E,I,h];rfl
 .rw[if_neg I]at u;rw[f c rfl,show c.all (eW i bo)=aj by simpa using I,BS,ye,ye]at H;exact no (s:=s) (by rw[b9 B,b9 S];exact jb u) H
end
section
variable{a:Ad}
theorem jm{G:af->R Slot}{b:af}{d:af->R PV}{c v r:PV}{p p':Pu.PO}(i:b[0]?=aa (.val c))(h:b[1]?=aa (.own p))(g:d b=.ok v b)(f:G [.val c,.own p,.val v]=.ok (.val r) [.val c,.own p',.val v]):aC G (gV (dV 0) (gO 1 (gV d Pu.aW))) b=.ok (.val r) (b.set 1 (.own p')):=by simp[aC,gV,gO,Pu.aW,dV,i,h,g,f,R.bind,aR,cn,cC,bF,cb,cQ]
theorem K9{G:af->R Slot}{b:af}{d g:af->R PV}{c v f r:PV}{p p':Pu.PO}(m:b[0]?=aa (.val c))(l:b[1]?=aa (.own p))(j:d b=.ok v b)(h:g b=.ok f b)(i:G [.val c,.own p,.val v,.val f]=.ok (.val r) [.val c,.own p',.val v,.val f]):aC G (gV (dV 0) (gO 1 (gV d (gV g Pu.aW)))) b=.ok (.val r) (b.set 1 (.own p')):=by simp[aC,gV,gO,Pu.aW,dV,m,l,j,h,i,R.bind,aR,cn,cC,bF,cb,cQ]
theorem jM{d:af->R Slot}{c b:af}{r:PV}(h:d c=.ok (.val r) b):aM d c=.ok r b:=by unfold aM;rw[h];rfl
theorem C3{d:af->R Slot}{c b:af}{r:PV}(h:d c=.ok (.val r) b):ff d c=.ok (.ret (.val r)) b:=by unfold ff;rw[h];rfl
theorem nL{h g:af->R Bool}{f d c:af}{b:Bool}(j:h f=.ok ah d)(i:g d=.ok b c):gw h g f=.ok b c:=by unfold gw;rw[j];exact i
theorem sM{d g:af->R Bool}{c b:af}(f:d c=.ok aj b):gw d g c=.ok aj b:=by unfold gw;rw[f];rfl
theorem z_{m k:Nat}:∀{xs:List PV},(∀y∈xs,dep y<=k)->fN xs<=k
 |[],_=>jd _
 |x::xs,h=>by show max (dep x) (fN xs)<=k;exact Nat.max_le.mpr ⟨h x (by simp),z_ (m:=m) λy b=>h y (by simp[b])⟩
theorem Pl.dep{m:Nat}:∀{k:Nat}{x:PV},Pl m k x->Pu.dep x<=k
 |0,x,h=>by cases x <;> first|exact h.elim|exact bv _
 |k+1,x,h=>by
  cases x with
  |tup xs=>exact Nat.succ_le_succ (z_ (m:=m) λy b=>Pl.dep (h.2 y b))
  |lst xs=>exact Nat.succ_le_succ (z_ (m:=m) λy b=>Pl.dep (h.2 y b))
  |raw v=>exact h.elim
  |exc c=>exact h.elim
  |_=>exact jd _
theorem zL{b:Bool}{zs:List PV}(h:Pu.dep (.tup zs)<=8):Pu.eqT b (.tup zs) (.tup [])=aa (.bl (b^^zs.isEmpty)):=by
 show(if Pu.dep (.tup zs)<=8 then(fq zs []).map (λk=>PV.bl (b^^k))else ac)=_;rw[if_pos h];cases zs <;> rfl
theorem Pl.wide{m c:Nat}(h:m<=c):∀{k:Nat}{x:PV},Pl m k x->Pl c k x
 |0,_,q=>q
 |k+1,x,q=>by
  cases x with
  |tup xs=>exact⟨dr q.1 h,λy b=>Pl.wide h (q.2 y b)⟩
  |lst xs=>exact⟨dr q.1 h,λy b=>Pl.wide h (q.2 y b)⟩
  |_=>exact q
theorem Pl.up{m:Nat}:∀{k:Nat}{x:PV},Pl m k x->Pl m (k+1) x
 |0,x,q=>by cases x <;> first|exact q.elim|exact q
 |k+1,x,q=>by
  cases x with
  |tup xs=>exact⟨q.1,λy b=>Pl.up (q.2 y b)⟩
  |lst xs=>exact⟨q.1,λy b=>Pl.up (q.2 y b)⟩
  |_=>exact q
theorem Pl.one{m k:Nat}{x:PV}(h:Pl m 1 x):Pl m (k+1) x:=by
 induction k with
 |zero=>exact h
 |succ k b=>exact b.up
theorem OA{b:List PV}{c d:Option Int}:(cE b c d).length<=b.length/\∀y∈cE b c d,y∈b:=by unfold cE;refine⟨?_,λy f=>uB (p6 f)⟩;rw[jy,kL];lia
theorem FC(zs:List PV)(c d:Option Int):∃b,gG (.tup zs) c d=aa (.tup b)/\b.length<=zs.length/\∀y∈b,y∈zs:=by
 unfold gG;dsimp only;split
 .exact⟨zs,rfl,bv _,λ_ h=>h⟩
 .exact⟨_,rfl,OA⟩
theorem MH(zs:List PV)(j:Nat):gG (.tup zs) ac (aa (j:Nat))=aa (.tup (zs.take j)):=by
 unfold gG;dsimp only;split
 .rename_i h;have:zs.length<=j:=by have b:=h.2;change (if(j:Int)<0 then((j:Int)+(zs.length:Int)).toNat else min (j:Int).toNat zs.length)=zs.length at b;rw[if_neg ∅]at b;lia
  rw[rJ this]
 .rw[sU]
theorem Mq(zs:List PV)(j:Nat):gG (.tup zs) (aa (j:Nat)) ac=aa (.tup (zs.drop j)):=by
 unfold gG;dsimp only;split
 .rename_i h;have:j=0\/zs=[]:=by
   have b:=h.1;change (if(j:Int)<0 then((j:Int)+(zs.length:Int)).toNat else min (j:Int).toNat zs.length)=0 at b;rw[if_neg ∅]at b;cases zs with
   |nil=>exact .inr rfl
   |cons=>left;simp at b;lia
  rcases this with rfl|rfl <;> simp
 .rw[tq]
theorem yO{xs b:List PV}(h:xs.length+b.length<=1000):i3 (.tup xs) (.tup b)=aa (.tup (xs++b)):=by
 match xs,b with
 |[],b=>rfl
 |x::xs,[]=>show(if xs.length<1000 then aa (PV.tup (x::xs))else ac)=_;rw[if_pos (by simp at h;lia),gI]
 |x::xs,y::b=>show(if(x::xs)≠[]/\(y::b)≠[]/\(x::xs).length+(y::b).length<=1000 then aa (PV.tup ((x::xs)++(y::b)))else ac)=_;rw[if_pos ⟨by simp,by simp,h⟩]
def sR:List PV:=[.non,.bl ah,.str [49],.int 0,.int 1,.int 4,.int 5,.int (-1),.tup [],.str [97],.str [97,98,99],.str [100],.str [97,98],.str [65],.str [],.int 2]
theorem Ng:∀x∈sR,Pl 2 1 x:=by intro x b;unfold sR at b;simp only[bV,fe,or_false]at b;rcases b with rfl|rfl|rfl|rfl|rfl|rfl|rfl|rfl|rfl|rfl|rfl|rfl|rfl|rfl|rfl|rfl <;> simp[Pl,yJ]
theorem L5{zs:List PV}(h:zs.length<=100):sH (.tup zs) (.int 10)=aa (.tup (a8 10 zs).flatten):=by
 cases zs with
 |nil=>rfl
 |cons z zs=>show(if(z::zs)≠[]/\(2:Int)<=10/\(10:Int)<=1000/\(z::zs).length<=1000 then aa (PV.tup (a8 (10:Int).toNat (z::zs)).flatten)else ac)=_;rw[if_pos ⟨by simp,by decide,by decide,∅⟩];rfl
def sC:af->R Bool:=gw (dB (dL bQ (ak (dV 2) (ak (dC (.raw (.ty "tuple"))) (au))))) (gw (dB (d2 (Pu.eqT ah) (dV 2) (dL cF (au)))) (dB (d2 (bx λi j=>decide (j<i)) (dV 3) (dC (.int 1)))))
def Fw(b:af->R Slot):af->R PV:=d2 i3 (d2 i3 (bN gG (dV 2) (b8) (bA (dV 4))) (dL cF (ak (aM (aC (b) (gV (dV 0) (gO 1 (gV (d2 bE (dV 2) (dV 4)) (Pu.aW)))))) (au)))) (bN gG (dV 2) (bA (d2 i3 (dV 4) (dC (.int 1)))) (b8))
def xm:af->R Bool:=gw (dB (dL bQ (ak (dV 2) (ak (dC (.raw (.ty "tuple"))) (au))))) (dB (d2 (Pu.eqT aj) (dV 3) (dC (.int 1))))
def wI:af->R PV:=dF (dL bY (ak (dF (dL lw (ak (dV 2) (au)))) (ak (d2 sH (dV 2) (dC (.int 10))) (ak (bN gG (dV 2) (bA (dC (.int 1))) (b8)) (ak (xI (dV 2) (bA (d1 il (dC (.int 1))))) (ak (d2 i3 (dV 2) (bN gG (dV 2) (bA (d1 il (dC (.int 1)))) (b8))) (au)))))))
def AQ:af->R PV:=dF (dL bY (ak (dC .non) (ak (dC (.bl ah)) (ak (dC (.str [49])) (ak (dC (.int 0)) (ak (dC (.int 1)) (ak (dC (.int 4)) (ak (dC (.int 5)) (ak (d1 il (dC (.int 1))) (ak (dL cF (au)) (ak (dC (.str [97])) (ak (dC (.str [97,98,99])) (ak (dC (.str [100])) (ak (dC (.str [97,98])) (ak (dC (.str [65])) (ak (dC (.str [])) (ak (dC (.int 2)) (au))))))))))))))))))
theorem IL(b:af):AQ b=.ok (.lst sR) b:=rfl
theorem QG(b:af->R Slot):yaL a b=aF (bz 3 (aM (aC (d8 a) (gV (dV 0) (gO 1 (gV (dC (.int 8)) (Pu.aW))))))) (aF (br sC (aF (bz 4 (aM (aC (d8 a) (gV (dV 0) (gO 1 (gV (dL aY (ak (dV 2) (au))) (Pu.aW))))))) (bc (Fw b))) (bH)) (aF (br xm (ff (aC (gA a) (gV (dV 0) (gO 1 (gV wI (Pu.aW)))))) (bH)) (ff (aC (gA a) (gV (dV 0) (gO 1 (gV AQ (Pu.aW)))))))):=rfl
def SE(c:List Int)(b:List PV)(x:PV)(s3 s4:Slot):af:=[bP c,.own (.lst b),.val x,s3,s4]
theorem OR{f:af->R Slot}{c:List Int}{d b:List PV}{x r:PV}{s3 s4:Slot}(h:yaL a f (SE c d x .none .none)=.ok (.ret (.val r)) (SE c b x s3 s4)):bn 3 [1] (bj 2 (yaL a f)) [bP c,.own (.lst d),.val x]=.ok (.val r) [bP c,.own (.lst b),.val x]:=by unfold bn bj;rw[if_pos ⟨rfl,rfl⟩,show yaL a f ([bP c,.own (.lst d),.val x]++a8 2 .none)=_ from h];rfl
theorem xc(b:List Int){m:Nat}(hm:m<=100):∀(f k:Nat) (x:PV) (c:List PV),k<f->k<=7->Pl m k x->c.length+2*k<=500 -> ∃r d,mH a f [bP b,.own (.lst c),.val x]=.ok (.val r) [bP b,.own (.lst d),.val x]/\Pl (10*m+2) (k+1) r/\d.length<=c.length+2*(k+1)
 |0,_,_,_,hk,_,_,_=>absurd hk (Nat.not_lt_zero _)
 |f+1,k,x,c,hk,hk7,hx,g=>by
  obtain⟨v,v0,v1,hv⟩:=lC (a:=a) b c 8 (by decide) ∅;have S:bz 3 (aM (aC (d8 a) (gV (dV 0) (gO 1 (gV (dC (.int 8)) (Pu.aW)))))) (SE b c x .none .none)=.ok .next (SE b (c++[.int 0]) x (⇑v) .none):=ir (jM (jm rfl rfl (bJ _ _) hv));have hi:=xv hx;have t:∀{s3 s4 zs},dB (dL bQ (ak (dV 2) (ak (dC (.raw (.ty "tuple"))) (au)))) (SE b zs x s3 s4)=.ok (oH x) (SE b zs x s3 s4):=iN (aB rfl) hi;have I:∀{r d s3 s4},aF (br sC (aF (bz 4 (aM (aC (d8 a) (gV (dV 0) (gO 1 (gV (dL aY (ak (dV 2) (au))) (Pu.aW))))))) (bc (Fw (mH a f)))) (bH))
    (aF (br xm (ff (aC (gA a) (gV (dV 0) (gO 1 (gV wI (Pu.aW)))))) (bH))
    (ff (aC (gA a) (gV (dV 0) (gO 1 (gV AQ (Pu.aW))))))) (SE b (c++[.int 0]) x (⇑v) .none)=.ok (.ret (.val r)) (SE b d x s3 s4)->mH a (f+1) [bP b,.own (.lst c),.val x]=.ok (.val r) [bP b,.own (.lst d),.val x]:=λh=>OR (by rw[QG,b9 S];exact h)
  have p:sC (SE b (c++[.int 0]) x (⇑v) .none)=.ok aj (SE b (c++[.int 0]) x (⇑v) .none)->xm (SE b (c++[.int 0]) x (⇑v) .none)=.ok aj (SE b (c++[.int 0]) x (⇑v) .none)->∃r d,mH a (f+1) [bP b,.own (.lst c),.val x]=.ok (.val r) [bP b,.own (.lst d),.val x]/\Pl (10*m+2) (k+1) r/\d.length<=c.length+2*(k+1):=λo z=>by obtain⟨r,w,H⟩:=pH (a:=a) b (c++[.int 0]) sR (by simp;lia) (by simp[sR]);refine⟨r,c++[.int 0]++[.int 0],I (s3:=⇑v) (s4:=.none) ?_,((Ng r w).wide ∅).one,by simp;lia⟩;rw[b9 (iQ o),b9 (iQ z)];exact C3 (jm rfl rfl (IL _) H)
  by_cases K:∃zs,x=.tup zs;rotate_left
  .have:oH x=aj:=by cases x <;> first|rfl|exact absurd ⟨_,rfl⟩ K
   rw[this]at t;exact p (sM t) (sM t)
  obtain⟨zs,rfl⟩:=K;obtain⟨hzl,j,rfl,E⟩:=hx.tup;have hd:Pu.dep (.tup zs)<=8:=by have:=hx.dep;lia
  have C:dB (d2 (Pu.eqT ah) (dV 2) (dL cF (au))) (SE b (c++[.int 0]) (.tup zs) (⇑v) .none)=.ok (ah^^zs.isEmpty) (SE b (c++[.int 0]) (.tup zs) (⇑v) .none):=dG (cP (aB rfl) (eD (f:=cF) d4 rfl) (zL hd));have F:dB (d2 (bx λi j=>decide (j<i)) (dV 3) (dC (.int 1))) (SE b (c++[.int 0]) (.tup zs) (⇑v) .none)=.ok (decide (1<v)) (SE b (c++[.int 0]) (.tup zs) (⇑v) .none):=dG (cP (aB rfl) (bJ _ _) rfl);have L:dB (d2 (Pu.eqT aj) (dV 3) (dC (.int 1))) (SE b (c++[.int 0]) (.tup zs) (⇑v) .none)=.ok (aj^^decide (v=1)) (SE b (c++[.int 0]) (.tup zs) (⇑v) .none):=dG (cP (aB rfl) (bJ _ _) (mz aj v 1));rw[Bool.false_xor]at L;by_cases G:zs≠[]/\1<v
  .have D:(ah^^zs.isEmpty)=ah:=by cases zs with|nil=>exact absurd rfl G.1|cons=>rfl
   rw[D]at C;rw[decide_eq_true G.2]at F;have o:sC (SE b (c++[.int 0]) (.tup zs) (⇑v) .none)=.ok ah (SE b (c++[.int 0]) (.tup zs) (⇑v) .none):=nL t (nL C F);have zl:0<zs.length:=List.length_pos_iff.mpr G.1;obtain⟨v2,w0,w1,T⟩:=lC (a:=a) b (c++[.int 0]) (zs.length:Nat) ∅ (by simp;lia);obtain⟨n,rfl⟩:∃n:Nat,v2=n:=⟨v2.toNat,∅⟩
   have oU:bz 4 (aM (aC (d8 a) (gV (dV 0) (gO 1 (gV (dL aY (ak (dV 2) (au))) (Pu.aW)))))) (SE b (c++[.int 0]) (.tup zs) (⇑v) .none)=.ok .next (SE b (c++[.int 0]++[.int 0]) (.tup zs) (⇑v) (⇑n)):=ir (jM (jm rfl rfl (eD (c6 (aB rfl) d4) rfl) T));have M:n<zs.length:=∅
   have ez:zs[n]?=aa zs[n]:=eI M;obtain⟨r,d,w,Y,ly⟩:=xc b hm f j zs[n] (c++[.int 0]++[.int 0]) ∅ ∅ (E _ (Cd M)) (by simp;lia);have X:∀{s},bN gG (dV 2) (b8) (bA (dV 4)) (SE b s (.tup zs) (⇑v) (⇑n))=.ok (.tup (zs.take n)) (SE b s (.tup zs) (⇑v) (⇑n)):=by intro s;have:=MH zs n;simp[bN,dV,SE,bA,b8,pI,R.bind,aR,this]
   have W:∀{s},bN gG (dV 2) (bA (d2 i3 (dV 4) (dC (.int 1)))) (b8) (SE b s (.tup zs) (⇑v) (⇑n))=.ok (.tup (zs.drop (n+1))) (SE b s (.tup zs) (⇑v) (⇑n)):=by intro s;have o:=Mq zs (n+1);have N:i3 (.int n) (.int 1)=aa (.int ((n+1:Nat):Int)):=rfl;generalize ((n+1:Nat):Int)=nn at o N;simp[bN,dV,SE,bA,b8,d2,dC,pI,R.bind,aR,o,N]
   have s3:dL cF (ak (aM (aC (mH a f) (gV (dV 0) (gO 1 (gV (d2 bE (dV 2) (dV 4)) (Pu.aW)))))) (au)) (SE b (c++[.int 0]++[.int 0]) (.tup zs) (⇑v) (⇑n))=.ok (.tup [r]) (SE b d (.tup zs) (⇑v) (⇑n)) :=eD (c6 (jM (jm (p':=.lst d) rfl rfl (cP (aB rfl) (aB rfl) (tK ez)) w)) d4) rfl;have lt:=List.length_take_le n zs;have ld:(zs.drop (n+1)).length<=zs.length:=by rw[kL];lia
   refine⟨.tup (zs.take n++[r]++zs.drop (n+1)),d,I (s3:=⇑v) (s4:=⇑n) ?_,⟨?_,λy g=>?_⟩,by simp at ly ⊢;lia⟩
   .refine jb ((gT o).trans ((b9 oU).trans (tJ ?_)));refine cP (cP X s3 (yO ?_)) W (yO ?_)
    .simp;lia
    .rw[dy];simp;lia
   .simp;lia
   .rcases oJ.mp g with q|q
    .rcases oJ.mp q with q|q
     .exact((E y (p6 q)).wide ∅).up
     .rw[jD.mp q];exact Y
    .exact((E y (uB q)).wide ∅).up
  .have o:sC (SE b (c++[.int 0]) (.tup zs) (⇑v) .none)=.ok aj (SE b (c++[.int 0]) (.tup zs) (⇑v) .none):=by
    by_cases e:zs=[]
    .subst e;exact nL t (sM C)
    .have D:(ah^^zs.isEmpty)=ah:=by cases zs with|nil=>exact absurd rfl e|cons=>rfl
     rw[D]at C;rw[decide_eq_false (λq=>G ⟨e,q⟩)]at F;exact nL t (nL C F)
   have z:xm (SE b (c++[.int 0]) (.tup zs) (⇑v) .none)=.ok (decide (v=1)) (SE b (c++[.int 0]) (.tup zs) (⇑v) .none):=nL t L;by_cases O:v=1;rotate_left
   .rw[decide_eq_false O]at z;exact p o z
   rw[decide_eq_true O]at z;obtain⟨J,D,l1,m1⟩:=FC zs (aa 1) ac;obtain⟨A,e2,l2,m2⟩:=FC zs (aa (-1)) ac;have h4:wI (SE b (c++[.int 0]) (.tup zs) (⇑v) .none)=.ok (.lst [.lst zs,.tup (a8 10 zs).flatten,.tup J,.tup zs.reverse,.tup (zs++A)]) (SE b (c++[.int 0]) (.tup zs) (⇑v) .none):=by have Q:=L5 (zs:=zs) ∅;have P:i3 (.tup zs) (.tup A)=aa (.tup (zs++A)):=yO ∅;have B:il (.int 1)=aa (.int (-1)):=rfl;generalize (a8 10 zs).flatten=Z at Q;generalize zs++A=Z2 at P;simp[wI,dF,dL,ak,au,lw,bY,d2,bN,dV,SE,bA,b8,dC,d1,B,pI,R.bind,aR,D,e2,Q,P,xI,vD]
   obtain⟨r,w,H⟩:=pH (a:=a) b (c++[.int 0]) [.lst zs,.tup (a8 10 zs).flatten,.tup J,.tup zs.reverse,.tup (zs++A)] (by simp;lia) (by simp);refine⟨r,c++[.int 0]++[.int 0],I (s3:=⇑v) (s4:=.none) ?_,?_,by simp;lia⟩
   .rw[b9 (iQ o)];exact jb ((gT z).trans (C3 (jm rfl rfl h4 H)))
   .have u:∀y∈zs,Pl (10*m+2) (j+1) y:=λy g=>((E y g).wide ∅).up;simp only[bV,fe,or_false]at w;rcases w with rfl|rfl|rfl|rfl|rfl
    .exact⟨∅,u⟩
    .refine⟨?_,λy g=>?_⟩
     .have:∀n,(a8 n zs).flatten.length=n*zs.length:=λn=>by simp
      rw[this];lia
     .obtain⟨l,hl,g⟩:=List.mem_flatten.mp g;rw[(List.mem_replicate.mp hl).2]at g;exact u y g
    .exact⟨∅,λy g=>u y (m1 y g)⟩
    .exact⟨by rw[List.length_reverse];lia,λy g=>u y (List.mem_reverse.mp g)⟩
    .exact⟨by rw[dy];lia,λy g=>(oJ.mp g).elim (u y) λq=>u y (m2 y q)⟩
def rf(n:Int):PV:=.tup [.str [114,101,102,117,115,101,100],.int n]
def Wh(a:Ad):Prop:=[jX a [.val (.exc (.ref a.NoText))],jX a [.val (.exc (.ref a.NoWidth))],jX a [.val (.exc (.ref a.NoView))]] =
 [.ok (.val (rf 0)) [.val (.exc (.ref a.NoText))],.ok (.val (rf 1)) [.val (.exc (.ref a.NoWidth))],.ok (.val (rf 2)) [.val (.exc (.ref a.NoView))]]
theorem SN (h:[jX a [.val (.exc (.ref a.NoText))],jX a [.val (.exc (.ref a.NoWidth))],jX a [.val (.exc (.ref a.NoView))]]=[.ok (.val (rf 0)) [.val (.exc (.ref a.NoText))],.ok (.val (rf 1)) [.val (.exc (.ref a.NoWidth))],.ok (.val (rf 2)) [.val (.exc (.ref a.NoView))]]):Wh a:=h
def vF(a:Ad)(c:ae)(n:Int):Prop:=kZ a (.ref c)=ah/\jX a [.val (.exc (.ref c))]=.ok (.val (rf n)) [.val (.exc (.ref c))]
theorem nM(h:Wh a):vF a a.NoText 0/\vF a a.NoWidth 1/\vF a a.NoView 2:=by unfold Wh at h;simp only[rR,and_true]at h;exact⟨⟨by simp[kZ,gE],h.1⟩,⟨by simp[kZ,gE],h.2.1⟩,by simp[kZ,gE],h.2.2⟩
theorem gz{t:af->R Bool}{d1 d2:af->R Slot}{ε:af}(h:t ε=.ok ah ε):fV t d1 d2 ε=d1 ε:=by unfold fV;rw[h];rfl
theorem fc{t:af->R Bool}{d1 d2:af->R Slot}{ε:af}(h:t ε=.ok aj ε):fV t d1 d2 ε=d2 ε:=by unfold fV;rw[h];rfl
theorem lF{b:List (af->R Slot)}{d:af->R PV}{c:af->R (List bO)}{ε:af}{g:af->R Slot}(j:Nat)(f:d ε=.ok (.int j) ε)(h:b[j]?=aa g):lG b d c ε=eB g c ε:=by
 unfold lG;rw[f];show(match dU b (j:Nat)with|aa g=>eB g c ε|ac=>R.no)=_;rw[tK h]
theorem CJ{G:af->R Slot}{d:af->R PV}{b:af}{x:PV}{s:Slot}(f:d b=.ok x b)(c:G [.val x]=.ok s [.val x]):eB G (gV d Pu.aW) b=.ok s b:=by simp[eB,gV,Pu.aW,f,c,R.bind,aR,cn,cC,bF,cb,cQ,bu]
theorem Ao{G:af->R Slot}{d:af->R PV}{ε:af}{x:PV}{c:ai}(f:d ε=.ok x ε)(b:G [.val x]=.er c [.val x]):eB G (gV d Pu.aW) ε=.er c ε:=by simp[eB,gV,Pu.aW,f,b,R.bind,aR,cn,cC,bF,cb,cQ,bu]
theorem Ej{G:af->R Slot}{d e:af->R PV}{b:af}{x y:PV}{s:Slot}(g:d b=.ok x b)(f:e b=.ok y b)(c:G [.val x,.val y]=.ok s [.val x,.val y]):eB G (gV d (gV e Pu.aW)) b=.ok s b:=by simp[eB,gV,Pu.aW,g,f,c,R.bind,aR,cn,cC,bF,cb,cQ,bu]
theorem v5{G:af->R Slot}{d e:af->R PV}{b:af}{x y:PV}{c:ai}(h:d b=.ok x b)(g:e b=.ok y b)(f:G [.val x,.val y]=.er c [.val x,.val y]):eB G (gV d (gV e Pu.aW)) b=.er c b:=by simp[eB,gV,Pu.aW,h,g,f,R.bind,aR,cn,cC,bF,cb,cQ,bu]
theorem Gk{G:af->R Slot}{d e f:af->R PV}{b:af}{x y z:PV}{c:ai}(j:d b=.ok x b)(i:e b=.ok y b)(h:f b=.ok z b)(g:G [.val x,.val y,.val z]=.er c [.val x,.val y,.val z]):eB G (gV d (gV e (gV f Pu.aW))) b=.er c b:=by simp[eB,gV,Pu.aW,j,i,h,g,R.bind,aR,cn,cC,bF,cb,cQ,bu]
theorem jO{d1 d2:af->R aJ}{ε b:af}{c:ai}(h:d1 ε=.er c b):aF d1 d2 ε=.er c b:=by unfold aF;rw[h]
theorem mD{G:af->R Slot}{d:af->R PV}{ε:af}{x:PV}{c:ai}(f:d ε=.ok x ε)(b:G [.val x]=.er c [.val x]):fE (aC G (gV d Pu.aW)) ε=.er c ε:=by simp[fE,aC,gV,Pu.aW,f,b,R.bind,aR,cn,cC,bF,cb,cQ]
theorem Bs{G:af->R Slot}{d:af->R PV}{ε:af}{x:PV}{c:ai}(f:d ε=.ok x ε)(b:G [.val x]=.er c [.val x]):aM (aC G (gV d Pu.aW)) ε=.er c ε:=by simp[aM,aC,gV,Pu.aW,f,b,R.bind,aR,cn,cC,bF,cb,cQ]
theorem js{D:af->R aJ}{n k:Nat}{xs:List PV}{ε:af}{c:ai}(f:xs.length=k)(h:D (xs.map Slot.val++a8 n .none)=.er c (xs.map Slot.val++ε)):bn k [] (bj n D) (xs.map Slot.val)=.er c (xs.map Slot.val):=by
 have d:∀(i:Nat) (xs:List PV),gc [] i (xs.map Slot.val)=ah:=by
  intro i xs
  induction xs generalizing i with
  |nil=>rfl
  |cons x xs b=>exact b (i+1)
 have g:∀(xs:List PV),back (xs.map Slot.val) (xs.map Slot.val++ε)=aa (xs.map Slot.val):=by
  intro xs
  induction xs with
  |nil=>rfl
  |cons x xs b=>show(back (xs.map Slot.val) (xs.map Slot.val++ε)).map _=_;rw[b];rfl
 unfold bn bj;rw[if_pos ⟨by rw[c0];exact f,d 0 xs⟩,h];show(aR (back (xs.map Slot.val) (xs.map Slot.val++ε)) []).bind _=_;rw[g];rfl
section
variable{x y:PV}(h:kh a [.val x]=.er (.ref a.NoView) [.val x])
include h
theorem vy:iP a [.val x]=.er (.ref a.NoView) [.val x]:=js (xs:=[x]) (n:=3) (ε:=[.none,.none,.none]) rfl (jO (mD (aB rfl) h))
theorem Qq:n5 a [.val x]=.er (.ref a.NoView) [.val x]:=by refine js (xs:=[x]) (n:=0) (ε:=[]) rfl ?_;have:=Bs (ε:=[.val x]) (aB (i:=0) rfl) (vy h);show bc (dL aY (ak (aM (aC (iP a) (gV (dV 0) Pu.aW))) au)) [.val x]=_;unfold bc dL ak;rw[this];rfl
theorem Rh:sJ a [.val x]=.er (.ref a.NoView) [.val x]:=by refine js (xs:=[x]) (n:=3) (ε:=[.own (.dK []),.none,.none]) rfl ?_;refine(b9 (show i8 1 sY [.val x,.none,.none,.none]=.ok .next [.val x,.own (.dK []),.none,.none] from rfl)).trans (jO ?_);unfold dm cL;rw[Bs (ε:=[.val x,.own (.dK []),.none,.none]) (aB (i:=0) rfl) (vy h)];rfl
theorem Rg:tU a [.val x]=.er (.ref a.NoView) [.val x]:=by refine js (xs:=[x]) (n:=1) (ε:=[.none]) rfl (jO ?_);show bz 1 (aM (aC (iP a) (gV (dV 0) Pu.aW))) [.val x,.none]=_;unfold bz;rw[Bs (ε:=[.val x,.none]) (aB (i:=0) rfl) (vy h)];rfl
theorem MR:sj a [.val x]=.er (.ref a.NoView) [.val x]:=js (xs:=[x]) (n:=1) (ε:=[.none]) rfl (jO (mD (aB rfl) h))
theorem OT:sA a [.val x]=.er (.ref a.NoView) [.val x]:=js (xs:=[x]) (n:=0) (ε:=[]) rfl (jO (mD (aB rfl) h))
theorem LN:sL a [.val x,.val y]=.er (.ref a.NoView) [.val x,.val y]:=js (xs:=[x,y]) (n:=1) (ε:=[.none]) rfl (jO (mD (aB rfl) h))
end
def gM(a:Ad):af->R Slot:=fV (dB (d2 (bx λi j=>decide (i<j)) (dV 0) (dC (.int 4)))) (fV (dB (d2 (bx λi j=>decide (i<j)) (dV 0) (dC (.int 3)))) (lG [mK a,kC a,sm a] (dV 0) (gV (dV 1) (gV (dV 2) (Pu.aW)))) (eB (ka a) (gV (dV 1) (gV (dC (.str [97,98,99,97,98])) (gV (dV 2) (Pu.aW)))))) (fV (dB (d2 (Pu.eqT aj) (dV 0) (dC (.int 4)))) (eB (ka a) (gV (dC (.str [97,98,99,97,98])) (gV (dV 1) (gV (dV 2) (Pu.aW))))) (fV (dB (d2 (bx λi j=>decide (i<j)) (dV 0) (dC (.int 7)))) (lG [mr a,qz a] (d2 fz (dV 0) (dC (.int 5))) (gV (dV 1) (Pu.aW))) (fV (dB (d2 (bx λi j=>decide (i<j)) (dV 0) (dC (.int 13)))) (lG [iP a,n5 a,sJ a,tU a,sj a,sA a] (d2 fz (dV 0) (dC (.int 7))) (gV (dV 1) (Pu.aW))) (fV (dB (d2 (Pu.eqT aj) (dV 0) (dC (.int 13)))) (eB (sL a) (gV (dV 1) (gV (dV 2) (Pu.aW)))) (rg a.Slit (oO "windows") (tY a) (yI a) (gV (dV 1) (Pu.aW)))))))
theorem EQ:yaD a=qP 3 (kZ a) (gM a) (ff (λε=>bu (aC (jX a) (gV (dV 3) (Pu.aW)) ε))):=rfl
section
variable{k:Int}{x y:PV}{s:Slot}{c:ae}{n:Int}
theorem wz{s:PV}(h:gM a [⇑k,.val x,.val y,.none]=.ok (.val s) [⇑k,.val x,.val y,.none]):gW a [⇑k,.val x,.val y]=.ok (.val s) [⇑k,.val x,.val y] :=vq (n:=1) (ε:=[.none]) (by show yaD a [⇑k,.val x,.val y,.none]=_;rw[EQ];unfold qP;rw[h])
theorem eN(w:vF a c n)(h:gM a [⇑k,.val x,.val y,.none]=.er (.ref c) [⇑k,.val x,.val y,.none]):gW a [⇑k,.val x,.val y]=.ok (.val (rf n)) [⇑k,.val x,.val y]:=by
 refine vq (n:=1) (ε:=[.none]) ?_;show yaD a [⇑k,.val x,.val y,.none]=_;rw[EQ];have b:=w.2;have g:ff (λε=>bu (aC (jX a) (gV (dV 3) (Pu.aW)) ε)) [⇑k,.val x,.val y,.val (.exc (.ref c))]=.ok (.ret (.val (rf n))) [⇑k,.val x,.val y,.val (.exc (.ref c))]:=by generalize rf n=RF at b;simp[ff,bu,aC,gV,Pu.aW,dV,b,R.bind,aR,cn,cC,bF,cb,cQ]
 unfold qP;rw[h];show(if kZ a (.ref c)=ah/\3 < [Slot.val (.int k),.val x,.val y,.none].length then _ else _)=_;rw[if_pos ⟨w.1,by simp⟩];show(match ff (λε=>bu (aC (jX a) (gV (dV 3) (Pu.aW)) ε)) [⇑k,.val x,.val y,.val (.exc (.ref c))]with|.ok f d=>_|_=>_)=_;rw[g];rfl
end
section
variable{x y:PV}{s:Slot}{c:ai}
theorem x0(h:mK a [.val x,.val y]=.ok s [.val x,.val y]):gM a [⇑0,.val x,.val y,.none]=.ok s [⇑0,.val x,.val y,.none]:=(gz rfl).trans ((gz rfl).trans ((lF 0 (aB rfl) rfl).trans (Ej (aB rfl) (aB rfl) h)))
theorem Bm(h:mK a [.val x,.val y]=.er c [.val x,.val y]):gM a [⇑0,.val x,.val y,.none]=.er c [⇑0,.val x,.val y,.none]:=(gz rfl).trans ((gz rfl).trans ((lF 0 (aB rfl) rfl).trans (v5 (aB rfl) (aB rfl) h)))
theorem x1(h:kC a [.val x,.val y]=.ok s [.val x,.val y]):gM a [⇑1,.val x,.val y,.none]=.ok s [⇑1,.val x,.val y,.none]:=(gz rfl).trans ((gz rfl).trans ((lF 1 (aB rfl) rfl).trans (Ej (aB rfl) (aB rfl) h)))
theorem Aq(h:kC a [.val x,.val y]=.er c [.val x,.val y]):gM a [⇑1,.val x,.val y,.none]=.er c [⇑1,.val x,.val y,.none]:=(gz rfl).trans ((gz rfl).trans ((lF 1 (aB rfl) rfl).trans (v5 (aB rfl) (aB rfl) h)))
theorem BL(h:sm a [.val x,.val y]=.er c [.val x,.val y]):gM a [⇑2,.val x,.val y,.none]=.er c [⇑2,.val x,.val y,.none]:=(gz rfl).trans ((gz rfl).trans ((lF 2 (aB rfl) rfl).trans (v5 (aB rfl) (aB rfl) h)))
theorem GY(h:ka a [.val x,.val (.str [97,98,99,97,98]),.val y]=.er c [.val x,.val (.str [97,98,99,97,98]),.val y]):gM a [⇑3,.val x,.val y,.none]=.er c [⇑3,.val x,.val y,.none]:=(gz rfl).trans ((fc rfl).trans (Gk (aB rfl) (bJ _ _) (aB rfl) h))
theorem Fv(h:ka a [.val (.str [97,98,99,97,98]),.val x,.val y]=.er c [.val (.str [97,98,99,97,98]),.val x,.val y]):gM a [⇑4,.val x,.val y,.none]=.er c [⇑4,.val x,.val y,.none]:=(fc rfl).trans ((gz rfl).trans (Gk (bJ _ _) (aB rfl) (aB rfl) h))
theorem x5(h:mr a [.val x]=.ok s [.val x]):gM a [⇑5,.val x,.val y,.none]=.ok s [⇑5,.val x,.val y,.none]:=(fc rfl).trans ((fc rfl).trans ((gz rfl).trans ((lF 0 rfl rfl).trans (CJ (aB rfl) h))))
theorem QS(h:mr a [.val x]=.er c [.val x]):gM a [⇑5,.val x,.val y,.none]=.er c [⇑5,.val x,.val y,.none]:=(fc rfl).trans ((fc rfl).trans ((gz rfl).trans ((lF 0 rfl rfl).trans (Ao (aB rfl) h))))
theorem Dr(h:qz a [.val x]=.er c [.val x]):gM a [⇑6,.val x,.val y,.none]=.er c [⇑6,.val x,.val y,.none]:=(fc rfl).trans ((fc rfl).trans ((gz rfl).trans ((lF 1 rfl rfl).trans (Ao (aB rfl) h))))
theorem x8(h:n5 a [.val x]=.ok s [.val x]):gM a [⇑8,.val x,.val y,.none]=.ok s [⇑8,.val x,.val y,.none]:=(fc rfl).trans ((fc rfl).trans ((fc rfl).trans ((gz rfl).trans ((lF 1 rfl rfl).trans (CJ (aB rfl) h)))))
theorem ql(j:Nat)(o:j<6){g:af->R Slot}(m:[iP a,n5 a,sJ a,tU a,sj a,sA a][j]?=aa g)(h:g [.val x]=.er c [.val x]):gM a [⇑((j:Int)+7),.val x,.val y,.none]=.er c [⇑((j:Int)+7),.val x,.val y,.none]:=by
 have e:∀{n:Int},dB (d2 (bx λi j=>decide (i<j)) (dV 0) (dC (.int n))) [⇑((j:Int)+7),.val x,.val y,.none]=.ok (decide ((j:Int)+7<n)) [⇑((j:Int)+7),.val x,.val y,.none]:=dG (cP (aB rfl) (bJ _ _) rfl);have f:=e (n:=4);have d:=e (n:=7);have b:=e (n:=13);rw[decide_eq_false ∅]at f d;rw[decide_eq_true ∅]at b;have l:dB (d2 (Pu.eqT aj) (dV 0) (dC (.int 4))) [⇑((j:Int)+7),.val x,.val y,.none]=.ok aj [⇑((j:Int)+7),.val x,.val y,.none]:=by have:=dG (cP (ε:=[⇑((j:Int)+7),.val x,.val y,.none]) (aB (i:=0) rfl) (bJ (.int 4) _) (mz aj _ 4));rw[decide_eq_false ∅]at this;exact this
 exact(fc f).trans ((fc l).trans ((fc d).trans ((gz b).trans ((lF j (cP (aB rfl) (bJ _ _) (show aa (PV.int ((j:Int)+7-7))=aa (.int j) by congr 2;lia)) m).trans (Ao (aB rfl) h)))))
theorem Mj(h:sL a [.val x,.val y]=.er c [.val x,.val y]):gM a [⇑13,.val x,.val y,.none]=.er c [⇑13,.val x,.val y,.none]:=(fc rfl).trans ((fc rfl).trans ((fc rfl).trans ((fc rfl).trans ((gz rfl).trans (v5 (aB rfl) (aB rfl) h)))))
theorem K0(h:iO a [.val x]=.er c [.val x]):gM a [⇑14,.val x,.val y,.none]=.er c [⇑14,.val x,.val y,.none]:=by
 refine(fc rfl).trans ((fc rfl).trans ((fc rfl).trans ((fc rfl).trans ((fc rfl).trans ?_))));have d:tY a [.own (.ins a.Slit []),.val x]=.er c [.own (.ins a.Slit []),.val x]:=by have f:=mD (ε:=[.own (.ins a.Slit []),.val x]) (G:=iO a) (aB (i:=1) rfl) h;have b:Av a [.own (.ins a.Slit []),.val x]=.er c [.own (.ins a.Slit []),.val x]:=jO f;unfold tY;generalize Av a=D at b;simp[bn,gc,iI,bj,b,back,aR,R.bind]
 simp[rg,gV,Pu.aW,dV,bu,R.bind,jR,cb,aR,bF,d,cn,cQ,cC,ph]
end
end
section
variable{a:Ad}
theorem DL(g:Bool)(w:Nat)(c f:List Tx):Pu.eqT g (cM w c) (cM w f)=aa (.bl (g^^decide (c=f))):=by
 have d:Pu.dep (cM w c)<=8:=by simp[cM,Pu.dep,fN,Dq]
 have e:cp (cM w c) (cM w f)=aa (decide (c=f)):=by
  show(cp (.int w) (.int w)).bind (λa=>((cp (.tup (ap c)) (.tup (ap f))).bind (λa=>(aa ([]:List PV).isEmpty).map λb=>a&&b)).map λb=>a&&b)=_;have i:cp (.int w) (.int w)=aa ah:=by show aa ((w:Int) == w)=_;simp
  have h:cp (.tup (ap c)) (.tup (ap f))=aa (decide (c=f)):=by show fq _ _=_;rw[Dd]
  rw[i,h];simp
 show(if Pu.dep (cM w c)<=8 then(cp (cM w c) (cM w f)).map (λk=>PV.bl (g^^k))else ac)=_;rw[if_pos d,e];rfl
theorem qj(n:Int):Pu.eqT ah (rf n) (rf n)=aa (.bl aj):=by
 show(if Pu.dep (rf n)<=8 then(cp (rf n) (rf n)).map (λk=>PV.bl (ah^^k))else ac)=_;have:cp (rf n) (rf n)=aa ah:=by show aa ((tS [114,101,102,117,115,101,100] == tS [114,101,102,117,115,101,100])&&((n == n)&&ah))=_;simp
 rw[if_pos (by show 1<=8;decide),this];rfl
theorem DQ(n:Int):∀k:Nat,fq (a8 k (rf n)) (a8 k (rf n))=aa ah/\fN (a8 k (rf n))<=1
 |0=>⟨rfl,jd _⟩
 |k+1=>by
  obtain⟨d,c⟩:=DQ n k;rw[j5];constructor
  .show(cp (rf n) (rf n)).bind (λa=>(fq (a8 k (rf n)) (a8 k (rf n))).map λb=>a&&b)=_;have:cp (rf n) (rf n)=aa ah:=by show aa ((tS [114,101,102,117,115,101,100] == tS [114,101,102,117,115,101,100])&&((n == n)&&ah))=_;simp
   rw[d,this];rfl
  .show max (Pu.dep (rf n)) (fN (a8 k (rf n)))<=1;exact Nat.max_le.mpr ⟨bv _,c⟩
theorem Bf(b:Bool)(n:Int)(k:Nat):Pu.eqT b (.lst (a8 k (rf n))) (.lst (a8 k (rf n)))=aa (.bl (b^^ah)):=by obtain⟨c,d⟩:=DQ n k;generalize a8 k (rf n)=L at c d;show(if Pu.dep (.lst L)<=8 then(fq L L).map (λk=>PV.bl (b^^k))else ac)=_;rw[if_pos (by show fN L+1<=8;lia),c];rfl
def oC(n:Int):af->R PV:=dL cF (ak (dC (.str [114,101,102,117,115,101,100])) (ak (dC (.int n)) (au)))
theorem nE(n:Int)(b:af):oC n b=.ok (rf n) b:=eD (c6 (bJ _ _) (c6 (bJ _ _) d4)) rfl
def vh(n k:Int):af->R PV:=d2 qI (dF (dL bY (ak (oC n) (au)))) (dC (.int k))
theorem yK(n:Int)(k:Nat)(f:1<=k)(d:k<=9)(b:af):vh n k b=.ok (.lst (a8 k (rf n))) b:=by
 refine cP (Bl (eD (c6 (nE n b) d4) rfl)) (bJ _ _) ?_;show(if [rf n]≠[]/\(1:Int)<=(k:Nat)/\((k:Nat):Int)<=1000/\[rf n].length<=1000 then aa (PV.lst (a8 ((k:Nat):Int).toNat [rf n]).flatten)else ac)=_;rw[if_pos ⟨by simp,∅,∅,by simp⟩,je];congr 2
 induction k with
 |zero=>rfl
 |succ k c=>
  rw[j5,oP,j5];cases k with
  |zero=>rfl
  |succ k=>rw[c ∅ ∅];rfl
theorem yT{n:Int}{cap:List Nat}{d:af->R (List PV)}{de:af->R PV}{b:af}{xs:List PV}{k:Nat}(i:d b=.ok xs b)(g:xs.length=k)(f:∀x∈xs,bu (dq cap cA x b)=.ok ah b)(h:∀x∈xs,bu (dq cap de x b)=.ok (rf n) b):dF (cU cap d cA de) b=.ok (.lst (a8 k (rf n))) b:=by have:=A0 (cap:=cap) (dt:=cA) (de:=de) (λ_=>ah) (λ_=>rf n) i (λx c=>⟨f x c,λ_=>h x c⟩);rw[nj.mpr (λ_ _=>rfl),List.map_const',g]at this;exact this
theorem LY{z:Tx}{w:Nat}(b:1<=w)(f:w<=4)(o:10<=z.length)(l:z.length<=12)(j:∀c∈z,c∈bo):kC a [↥z,⇑w]=.er (.ref a.NoView) [↥z,⇑w]:=by have n:=nA (a:=a) ∅ l j;have m:=xn (a:=a) b f;have h:=D1 (a:=a) (z:=z) b f ∅;have i:=wE (z:=z) (w:=w) ∅ b;have d:=v8 (a:=a) (t:=jN z w) b ∅ ∅;rw[Dm ∅ b]at d;have g:=Gi (a:=a) (w:=w) (ls:=cw z w) (.inr (by rw[xi];lia));generalize ap (cw z w)=C at d g;generalize jN z w=u at h d;simp![kC,yaR,n,m,h,d,g]
theorem Q6{x y:PV}(h:iq a [.val x]=.er (.ref a.NoText) [.val x]):kC a [.val x,.val y]=.er (.ref a.NoText) [.val x,.val y]:=js (xs:=[x,y]) (n:=0) (ε:=[]) rfl (jO (mD (aB rfl) h))
theorem II{t:Tx}{y:PV}(f:1<=t.length)(d:t.length<=12)(b:∀c∈t,c∈bo)(h:iO a [.val y]=.er (.ref a.NoWidth) [.val y]):kC a [↥t,.val y]=.er (.ref a.NoWidth) [↥t,.val y] :=js (xs:=[.str t,y]) (n:=0) (ε:=[]) rfl ((b9 (GE (aB rfl) (nA f d b))).trans (jO (mD (aB rfl) h)))
theorem Ay{x y:PV}{c:ai}(h:fD a [.val x,.val y]=.er c [.val x,.val y]):sm a [.val x,.val y]=.er c [.val x,.val y]:=by
 refine js (xs:=[x,y]) (n:=0) (ε:=[]) rfl ?_;have b:aM (aC (fD a) (gV (dV 0) (gV (dV 1) Pu.aW))) [.val x,.val y]=.er c [.val x,.val y]:=by simp[aM,aC,gV,Pu.aW,dV,h,R.bind,aR,cn,cC,bF,cb,cQ]
 have d:aM (aC (iP a) (gV (aM (aC (fD a) (gV (dV 0) (gV (dV 1) Pu.aW)))) Pu.aW)) [.val x,.val y]=.er c [.val x,.val y]:=by generalize aM (aC (fD a) (gV (dV 0) (gV (dV 1) Pu.aW)))=D at b;simp[aM,aC,gV,Pu.aW,b,R.bind]
 show nG (cU [0] (cL (aM (aC (iP a) (gV (aM (aC (fD a) (gV (dV 0) (gV (dV 1) Pu.aW)))) Pu.aW)))) (dB (d2 (Pu.eqT ah) (dV 0) (dV 1))) (dV 0)) [.val x,.val y]=_;unfold nG cU cL;rw[d];rfl
theorem JV{x:PV}(h:iq a [.val x]=.er (.ref a.NoText) [.val x]):mr a [.val x]=.er (.ref a.NoText) [.val x]:=js (xs:=[x]) (n:=0) (ε:=[]) rfl (jO (mD (aB rfl) h))
theorem J0{x:PV}(h:iq a [.val x]=.er (.ref a.NoText) [.val x]):qz a [.val x]=.er (.ref a.NoText) [.val x]:=js (xs:=[x]) (n:=1) (ε:=[.none]) rfl (jO (mD (aB rfl) h))
theorem OB{z:Tx}(g:10<=z.length)(f:z.length<=12)(d:∀c∈z,c∈bo):qz a [↥z]=.er (.ref a.NoView) [↥z]:=by refine js (xs:=[.str z]) (n:=1) (ε:=[.none]) rfl ((b9 (GE (aB rfl) (nA ∅ f d))).trans (jO ?_));have b:dB (d2 (bx λi j=>decide (j<i)) (dL aY (ak (dV 0) (au))) (dC (.int 9))) [↥z,.none]=.ok (decide ((9:Int)<(z.length:Nat))) [↥z,.none]:=dG (cP (eD (c6 (aB rfl) d4) rfl) (bJ _ _) rfl);rw[decide_eq_true ∅]at b;exact(gT b).trans rfl
theorem Qa:∀x∈([.non,.str [],.str [97,98,99,100],.str (a8 13 97),.int 1,.tup [.str [97]],.str [97,66]]:List PV),iq a [.val x]=.er (.ref a.NoText) [.val x]:=λx b=>by
 simp only[bV,fe,or_false]at b;rcases b with rfl|rfl|rfl|rfl|rfl|rfl|rfl
 .exact pf (yZ (t:="NoneType") rfl (by decide +kernel))
 .exact pf (GT (.inl rfl))
 .exact pf (G_ (by decide))
 .exact pf (GT (.inr (by decide)))
 .exact pf (yZ (t:="int") rfl C0)
 .exact pf (yZ (t:="tuple") rfl (by decide +kernel))
 .exact pf (G_ (by decide))
theorem P9:∀x∈([.int 0,.int 5,.non,.bl ah,.str [49],.int (-1)]:List PV),iO a [.val x]=.er (.ref a.NoWidth) [.val x]:=λx b=>by
 simp only[bV,fe,or_false]at b;rcases b with rfl|rfl|rfl|rfl|rfl|rfl
 .exact qu (by have:=nR (a:=a) 0;rwa[decide_eq_false (by decide)]at this)
 .exact qu (by have:=nR (a:=a) 5;rwa[decide_eq_false (by decide)]at this)
 .exact qu (we Op)
 .exact qu (we (Kk ah))
 .exact qu (we (K7 _))
 .exact qu (by have:=nR (a:=a) (-1);rwa[decide_eq_false (by decide)]at this)
def WE(ns:List Int)(ys:List PV)(s2 s3 s4 s5 s6 s7 s8 s9 s10:Slot):af:=[bP ns,.own (.lst ys),s2,s3,s4,s5,s6,s7,s8,s9,s10]
def aK(a:Ad)(n:Int)(d e:af->R PV):af->R PV:=aM (aC (gW a) (gV (dC (.int n)) (gV d (gV e (Pu.aW)))))
theorem lD{n:Int}{d e:af->R PV}{b:af}{x y r:PV}(g:d b=.ok x b)(f:e b=.ok y b)(c:gW a [⇑n,.val x,.val y]=.ok (.val r) [⇑n,.val x,.val y]):aK a n d e b=.ok r b:=fS (bJ _ _) g f c
def aV(a:Ad)(d e:af->R PV):af->R PV:=aM (aC (gW a) (gV (dV 0) (gV d (gV e (Pu.aW)))))
def l2(a:Ad):af->R aJ:=bz 2 (d2 aU (dC (.int 1)) (aM (aC (d8 a) (gV (dV 0) (gO 1 (gV (dC (.int 4)) (Pu.aW)))))))
def l3(a:Ad):af->R aJ:=bz 3 (aM (aC (qt a) (gV (dV 0) (gO 1 (gV (dC (.int 1)) (gV (dC (.int 12)) (Pu.aW)))))))
def l4:af->R aJ:=bz 4 (d2 aU (d2 fz (dL aY (ak (dV 3) (au))) (dV 2)) (dC (.int 1)))
def l5(a:Ad):af->R aJ:=bz 5 (br (dB (fL (bx λi j=>decide (i<=j)) (bx λi j=>decide (i<=j)) (dC (.int 1)) (dV 4) (dC (.int 9)))) (dL cF (ak (dV 2) (ak (aM (aC (qE a) (gV (dV 3) (gV (dV 2) (Pu.aW))))) (au)))) (oC 2))
def l6(a:Ad):af->R Bool:=dz (dB (d2 (Pu.eqT ah) (aK a 0 (dV 3) (dV 2)) (dV 5))) (gw (dB (d2 o5 (dV 5) (oC 2))) (dB (d2 (Pu.eqT ah) (aK a 2 (dV 3) (dV 2)) (dV 5))))
def l7(a:Ad):af->R aJ:=bz 5 (br (dB (d2 (bx λi j=>decide (i<j)) (dL aY (ak (dV 3) (au))) (dC (.int 10)))) (dL cF (ak (dV 2) (ak (aM (aC (sN a) (gV (dV 3) (gV (dV 2) (Pu.aW))))) (au)))) (oC 2))
def l8:af->R aJ:=bz 6 (dL pe (ak (dF (cU [3] (dL dX (ak (dL aY (ak (dV 3) (au))) (au))) (cA) (d2 aU (bN b7 (dV 1) (bA (dV 0)) (b8)) (bN b7 (dV 1) (b8) (bA (dV 0)))))) (au)))
def l9(a:Ad):af->R Bool:=dz (dB (d2 (Pu.eqT ah) (aK a 1 (dV 3) (dV 2)) (dV 5))) (dB (d2 (Pu.eqT ah) (aK a 5 (dV 3) (dC .non)) (dV 6)))
def EU(a:Ad):af->R Bool:=gw (dB (d2 (bx λi j=>decide (j<i)) (dL aY (ak (dV 3) (au))) (dC (.int 9)))) (dB (d2 (Pu.eqT ah) (aK a 6 (dV 3) (dC .non)) (oC 2)))
def o7:af->R PV:=dF (dL bY (ak (dC .non) (ak (dC (.str [])) (ak (dC (.str [97,98,99,100])) (ak (d2 eM (dC (.str [97])) (dC (.int 13))) (ak (dC (.int 1)) (ak (dL cF (ak (dC (.str [97])) (au))) (ak (dC (.str [97,66])) (au)))))))))
def F7(a:Ad):af->R aJ:=bz 7 (aM (aC (gA a) (gV (dV 0) (gO 1 (gV o7 (Pu.aW))))))
def t6:af->R (List PV):=cL (dL cF (ak (dC (.int 0)) (ak (dC (.int 1)) (ak (dC (.int 2)) (ak (dC (.int 3)) (ak (dC (.int 5)) (ak (dC (.int 6)) (au))))))))
def GJ(a:Ad):af->R Bool:=dB (d2 (Pu.eqT ah) (dF (cU [7] t6 (cA) (aV a (dV 1) (dC .non)))) (vh 0 6))
def G2(a:Ad):af->R Bool:=dB (d2 (Pu.eqT ah) (aK a 4 (dV 7) (dC (.int 2))) (oC 0))
def o6:af->R PV:=dF (dL bY (ak (dC (.int 0)) (ak (dC (.int 5)) (ak (dC .non) (ak (dC (.bl ah)) (ak (dC (.str [49])) (ak (d1 il (dC (.int 1))) (au))))))))
def Gc(a:Ad):af->R aJ:=bz 8 (aM (aC (gA a) (gV (dV 0) (gO 1 (gV o6 (Pu.aW))))))
def t5:af->R (List PV):=cL (dL cF (ak (dC (.int 0)) (ak (dC (.int 1)) (ak (dC (.int 2)) (ak (dC (.int 3)) (ak (dC (.int 4)) (au)))))))
def Dx(a:Ad):af->R Bool:=dB (d2 (Pu.eqT ah) (dF (cU [3,8] t5 (cA) (aV a (dV 1) (dV 2)))) (vh 1 5))
def Gz(a:Ad):af->R Bool:=dB (d2 (Pu.eqT ah) (aK a 14 (dV 8) (dC .non)) (oC 1))
def CP(a:Ad):af->R aJ:=bz 9 (aM (aC (so a) (gV (dV 0) (gO 1 (gV (dC (.int 9)) (Pu.aW))))))
def mw(a:Ad):af->R aJ:=bz 9 (aM (aC (mH a 6) (gV (dV 0) (gO 1 (gV (dV 9) (Pu.aW))))))
def Fs(a:Ad):af->R aJ:=λb=>eu (dm 10 (dL dX (ak (d2 aU (dC (.int 1)) (aM (aC (d8 a) (gV (dV 0) (gO 1 (gV (dC (.int 2)) (Pu.aW))))))) (au))) (mw a) b)
def Da(a:Ad):af->R aJ:=br (dB (aM (aC (rk a) (gV (dV 9) (Pu.aW))))) (bc (dL bQ (ak (aK a 8 (dV 9) (dC .non)) (ak (dC (.raw (.ty "int"))) (au))))) (bH)
def AE(a:Ad):af->R PV:=d2 o5 (dF (cU [9] (dL v9 (ak (dC (.int 7)) (ak (dC (.int 14)) (au)))) (cA) (aV a (dV 1) (dC .non)))) (vh 2 7)
theorem OQ:yaC a=aF (i8 1 (dL bY (au))) (aF (l2 a) (aF (l3 a) (aF l4 (aF (l5 a) (aF (br (l6 a) (bc (dC (.bl aj))) (bH)) (aF (l7 a) (aF l8 (aF (br (l9 a) (bc (dC (.bl aj))) (bH)) (aF (br (EU a) (bc (dC (.bl aj))) (bH)) (aF (F7 a) (aF (br (GJ a) (bc (dC (.bl aj))) (bH)) (aF (br (G2 a) (bc (dC (.bl aj))) (bH)) (aF (Gc a) (aF (br (Dx a) (bc (dC (.bl aj))) (bH)) (aF (br (Gz a) (bc (dC (.bl aj))) (bH)) (aF (CP a) (aF (Fs a) (aF (Da a) (bc (AE a)))))))))))))))))))):=rfl
theorem LQ(ns:List Int)(s2 s3 s4 s5 s6 s7 s8:Slot):∀(l:List PV) (m k:Nat) (ys:List PV) (x:PV) (s10:Slot),Pl m k x->l.length<=2->k+l.length<=4->(m+1)*10^l.length<=1001->ys.length+10*l.length<=400 -> ∃v A b t g,Pl v A t/\gF 10 (mw a) l (WE ns ys s2 s3 s4 s5 s6 s7 s8 (.val x) s10)=.ok .next (WE ns b s2 s3 s4 s5 s6 s7 s8 (.val t) g)
 |[],m,k,ys,x,s10,f,_,_,_,_=>⟨m,k,ys,x,s10,f,rfl⟩
 |[y],m,k,ys,x,s10,f,_,j,i,h=>by simp only[eR,m8]at j i h;obtain⟨r,b,s,p,z⟩:=xc (a:=a) ns (m:=m) ∅ 6 k x ys ∅ ∅ f ∅;have n:mw a (WE ns ys s2 s3 s4 s5 s6 s7 s8 (.val x) (.val y))=.ok .next (WE ns b s2 s3 s4 s5 s6 s7 s8 (.val r) (.val y)):=ir (jM (jm (p':=.lst b) rfl rfl (aB rfl) s));refine⟨_,_,b,r,.val y,p,?_⟩;unfold gF;rw[show mw a ((WE ns ys s2 s3 s4 s5 s6 s7 s8 (.val x) s10).set 10 (.val y))=_ from n];rfl
 |[y,d],m,k,ys,x,s10,f,_,j,i,h=>by simp only[eR,m8]at j i h;obtain⟨r,b,s,p,z⟩:=xc (a:=a) ns (m:=m) ∅ 6 k x ys ∅ ∅ f ∅;obtain⟨u,c,q,o,w⟩:=xc (a:=a) ns (m:=10*m+2) ∅ 6 (k+1) r b ∅ ∅ p ∅;have n:mw a (WE ns ys s2 s3 s4 s5 s6 s7 s8 (.val x) (.val y))=.ok .next (WE ns b s2 s3 s4 s5 s6 s7 s8 (.val r) (.val y)):=ir (jM (jm (p':=.lst b) rfl rfl (aB rfl) s));have C:mw a (WE ns b s2 s3 s4 s5 s6 s7 s8 (.val r) (.val d))=.ok .next (WE ns c s2 s3 s4 s5 s6 s7 s8 (.val u) (.val d)):=ir (jM (jm (p':=.lst c) rfl rfl (aB rfl) q));refine⟨_,_,c,u,.val d,o,?_⟩;unfold gF;rw[show mw a ((WE ns ys s2 s3 s4 s5 s6 s7 s8 (.val x) s10).set 10 (.val y))=_ from n];show gF 10 (mw a) [d] (WE ns b s2 s3 s4 s5 s6 s7 s8 (.val r) (.val y))=_;unfold gF;rw[show mw a ((WE ns b s2 s3 s4 s5 s6 s7 s8 (.val r) (.val y)).set 10 (.val d))=_ from C];rfl
 |y::d::D::l,m,k,ys,x,s10,f,B,j,i,h=>by simp only[eR]at B;lia
theorem Q8(n:Int):o5 (rf n) (rf n)=aa (.bl ah):=by
 show Pu.eqT aj (rf n) (rf n)=_;show(if Pu.dep (rf n)<=8 then(cp (rf n) (rf n)).map (λk=>PV.bl (aj^^k))else ac)=_;have:cp (rf n) (rf n)=aa ah:=by show aa ((tS [114,101,102,117,115,101,100] == tS [114,101,102,117,115,101,100])&&((n == n)&&ah))=_;simp
 rw[if_pos (by show 1<=8;decide),this];rfl
theorem LM{t:Tx}{w:Nat}(h:Tv t w):mK a [↥t,⇑w]=.ok (.val (cM w (bG (cx t w)))) [↥t,⇑w]:=by have e:=Db (a:=a) h;generalize cM w (bG (cx t w))=V at e;simp![mK,yaY,e]
theorem CQ{k:Nat}{q:Tx}(h:eW (k:Int) bo q=ah):q.length=k/\∀c∈q,c∈bo:=by unfold eW at h;simp only[fI,decide_eq_true_eq,j7,Ia]at h;exact⟨∅,h.2⟩
def nB(z:Tx)(w:Nat):PV:=if w<=z.length/\z.length+1<=w+9 then cM w (bG (cx z w))else rf 2
def lE(z:Tx)(w:Nat):PV:=if z.length<10 then cM w (bG (cw z w))else rf 2
section
variable{ns:List Int}{ys:List PV}{z:Tx}{w:Nat}{s4 s5 s6 s7 s8 s9 s10:Slot}(m:1<=w)(l:w<=4)(f:1<=z.length)(g:z.length<=12)(b:∀c∈z,c∈bo)
include m l f g b
theorem Lb:l5 a (WE ns ys (⇑w) (↥z) (⇑((z.length:Int)-w+1)) s5 s6 s7 s8 s9 s10)=.ok .next (WE ns ys (⇑w) (↥z) (⇑((z.length:Int)-w+1)) (.val (nB z w)) s6 s7 s8 s9 s10):=by
 have d:dB (fL (bx λi j=>decide (i<=j)) (bx λi j=>decide (i<=j)) (dC (.int 1)) (dV 4) (dC (.int 9))) (WE ns ys (⇑w) (↥z) (⇑((z.length:Int)-w+1)) s5 s6 s7 s8 s9 s10)=.ok (decide ((1:Int)<=(z.length:Int)-w+1)&&decide ((z.length:Int)-w+1<=9)) (WE ns ys (⇑w) (↥z) (⇑((z.length:Int)-w+1)) s5 s6 s7 s8 s9 s10):=vO (bJ _ _) (aB rfl) (bJ _ _);by_cases h:w<=z.length/\z.length+1<=w+9
 .rw[decide_eq_true ∅,decide_eq_true ∅]at d;rw[nB,if_pos h];exact ir ((gT d).trans (eD (c6 (aB rfl) (c6 (FM (aB rfl) (aB rfl) (F_ z w ∅)) d4)) rfl))
 .rw[show(decide ((1:Int)<=(z.length:Int)-w+1)&&decide ((z.length:Int)-w+1<=9))=aj by
   rw[Bool.and_eq_false_iff,decide_eq_false_iff_not,decide_eq_false_iff_not];lia]at d
  rw[nB,if_neg h];exact ir ((E9 d).trans (nE 2 _))
theorem Pn(n:Wh a):l6 a (WE ns ys (⇑w) (↥z) s4 (.val (nB z w)) s6 s7 s8 s9 s10)=.ok aj (WE ns ys (⇑w) (↥z) s4 (.val (nB z w)) s6 s7 s8 s9 s10):=by
 obtain⟨_,_,i⟩:=nM n;by_cases h:w<=z.length/\z.length+1<=w+9
 .rw[nB,if_pos h];have d:=LM (a:=a) (t:=z) (w:=w) ⟨m,l,h.1,h.2,b⟩;have j:=DL ah w (bG (cx z w)) (bG (cx z w));rw[decide_eq_true rfl]at j;exact gb (dG (cP (lD (aB rfl) (aB rfl) (wz (x0 d))) (aB rfl) j)) (sM (dG (cP (aB rfl) (nE 2 _) rfl)))
 .rw[nB,if_neg h];have d:=NF (a:=a) (t:=z) (w:=w) f g b m l (λt=>h ⟨t.h1,t.h9⟩);exact gb (dG (cP (lD (aB rfl) (aB rfl) (eN i (Bm (zM d)))) (aB rfl) (qj 2))) (nL (dG (cP (aB rfl) (nE 2 _) (Q8 2))) (dG (cP (lD (aB rfl) (aB rfl) (eN i (BL (Ay d)))) (aB rfl) (qj 2))))
theorem Qs:l7 a (WE ns ys (⇑w) (↥z) s4 s5 s6 s7 s8 s9 s10)=.ok .next (WE ns ys (⇑w) (↥z) s4 (.val (lE z w)) s6 s7 s8 s9 s10):=by
 have d:dB (d2 (bx λi j=>decide (i<j)) (dL aY (ak (dV 3) (au))) (dC (.int 10))) (WE ns ys (⇑w) (↥z) s4 s5 s6 s7 s8 s9 s10)=.ok (decide ((z.length:Int)<10)) (WE ns ys (⇑w) (↥z) s4 s5 s6 s7 s8 s9 s10):=dG (cP (eD (c6 (aB rfl) d4) rfl) (bJ _ _) rfl);by_cases h:z.length<10
 .rw[decide_eq_true ∅]at d;rw[lE,if_pos h];exact ir ((gT d).trans (eD (c6 (aB rfl) (c6 (FM (aB rfl) (aB rfl) (Q1 f ∅ l)) d4)) rfl))
 .rw[decide_eq_false ∅]at d;rw[lE,if_neg h];exact ir ((E9 d).trans (nE 2 _))
theorem MT{s2:Slot}:l8 (WE ns ys s2 (↥z) s4 s5 s6 s7 s8 s9 s10)=.ok .next (WE ns ys s2 (↥z) s4 s5 (↥(lf z)) s7 s8 s9 s10):=by
 have j:=G9 (z:=z) ∅ (cap:=[3]) (ε:=WE ns ys s2 (↥z) s4 s5 s6 s7 s8 s9 s10) (λx=>⟨by simp![dD,WE],λd y h=>by simp![dq,dD,WE,h]⟩);have o:pe [.lst (ap (og z))]=aa (.str (lf z)):=by show(fu (ap _)).bind _=_;rw[o_,g9,if_pos (FW f)];rfl
 unfold l8;refine ir (ε1:=WE ns ys s2 (↥z) s4 s5 s6 s7 s8 s9 s10) (eD (c6 (Bl ?_) d4) o);unfold cU;rw[eD (c6 (eD (c6 (aB (i:=3) rfl) d4) (show aY [.str z]=aa (.int (z.length:Nat))from rfl)) d4) (lz (n:=z.length) ∅),R.bind_ok,j];rfl
theorem Os(n:Wh a):l9 a (WE ns ys (⇑w) (↥z) s4 (.val (lE z w)) (↥(lf z)) s7 s8 s9 s10)=.ok aj (WE ns ys (⇑w) (↥z) s4 (.val (lE z w)) (↥(lf z)) s7 s8 s9 s10):=by
 obtain⟨_,_,j⟩:=nM n;have d:=Mo ah (lf z) (lf z);rw[decide_eq_true rfl]at d;refine gb ?_ (dG (cP (lD (aB rfl) (bJ _ _) (wz (x5 (J9 f g b)))) (aB rfl) d));by_cases h:z.length<10
 .rw[lE,if_pos h];have i:=DL ah w (bG (cw z w)) (bG (cw z w));rw[decide_eq_true rfl]at i;exact dG (cP (lD (aB rfl) (aB rfl) (wz (x1 (IT m l f ∅ b)))) (aB rfl) i)
 .rw[lE,if_neg h];exact dG (cP (lD (aB rfl) (aB rfl) (eN j (Aq (LY m l ∅ g b)))) (aB rfl) (qj 2))
theorem QZ(o:Wh a){s2:Slot}:EU a (WE ns ys s2 (↥z) s4 s5 s6 s7 s8 s9 s10)=.ok aj (WE ns ys s2 (↥z) s4 s5 s6 s7 s8 s9 s10):=by
 obtain⟨_,_,n⟩:=nM o;have d:dB (d2 (bx λi j=>decide (j<i)) (dL aY (ak (dV 3) (au))) (dC (.int 9))) (WE ns ys s2 (↥z) s4 s5 s6 s7 s8 s9 s10)=.ok (decide (9<(z.length:Int))) (WE ns ys s2 (↥z) s4 s5 s6 s7 s8 s9 s10):=dG (cP (eD (c6 (aB rfl) d4) rfl) (bJ _ _) rfl);by_cases h:z.length<10
 .rw[decide_eq_false ∅]at d;exact sM d
 .rw[decide_eq_true ∅]at d;exact nL d (dG (cP (lD (aB rfl) (bJ _ _) (eN n (Dr (OB ∅ g b)))) (nE 2 _) (qj 2)))
theorem Qr(o:Wh a){s2:Slot}{y:PV}(h:iO a [.val y]=.er (.ref a.NoWidth) [.val y]):Dx a (WE ns ys s2 (↥z) s4 s5 s6 s7 (.val y) s9 s10)=.ok aj (WE ns ys s2 (↥z) s4 s5 s6 s7 (.val y) s9 s10):=by
 obtain⟨_,d,_⟩:=nM o;have q:∀c∈([97,98,99,97,98]:Tx),c∈bo:=by decide
 have i:=Gh f g b h;have p:=Gh (t:=[97,98,99,97,98]) (by decide) (by decide) q h;refine dG (cP (yT (n:=1) (k:=5) (xs:=[.int 0,.int 1,.int 2,.int 3,.int 4]) rfl rfl (λx _=>nZ rfl rfl rfl) (λx j=>?_)) (yK 1 5 (by decide) (by decide) _) (Bf ah 1 5));simp only[bV,fe,or_false]at j;rcases j with rfl|rfl|rfl|rfl|rfl
 .exact nZ rfl rfl (fS (aB rfl) (aB rfl) (aB rfl) (eN d (Bm (zM i))))
 .exact nZ rfl rfl (fS (aB rfl) (aB rfl) (aB rfl) (eN d (Aq (II f g b h))))
 .exact nZ rfl rfl (fS (aB rfl) (aB rfl) (aB rfl) (eN d (BL (Ay i))))
 .exact nZ rfl rfl (fS (aB rfl) (aB rfl) (aB rfl) (eN d (GY (Aa i))))
 .exact nZ rfl rfl (fS (aB rfl) (aB rfl) (aB rfl) (eN d (Fv (Aa p))))
end
section
variable{ns:List Int}{ys:List PV}{s2 s3 s4 s5 s6 s7 s8 s9 s10:Slot}(b:Wh a)
include b
theorem O9{x:PV}(h:iq a [.val x]=.er (.ref a.NoText) [.val x]):GJ a (WE ns ys s2 s3 s4 s5 s6 (.val x) s8 s9 s10)=.ok aj (WE ns ys s2 s3 s4 s5 s6 (.val x) s8 s9 s10):=by
 obtain⟨c,_,_⟩:=nM b;refine dG (cP (yT (n:=0) (k:=6) (xs:=[.int 0,.int 1,.int 2,.int 3,.int 5,.int 6]) rfl rfl (λx _=>iL rfl rfl) (λy d=>?_)) (yK 0 6 (by decide) (by decide) _) (Bf ah 0 6));simp only[bV,fe,or_false]at d;rcases d with rfl|rfl|rfl|rfl|rfl|rfl
 .exact iL rfl (fS (aB rfl) (aB rfl) (bJ _ _) (eN c (Bm (zM (wR h)))))
 .exact iL rfl (fS (aB rfl) (aB rfl) (bJ _ _) (eN c (Aq (Q6 h))))
 .exact iL rfl (fS (aB rfl) (aB rfl) (bJ _ _) (eN c (BL (Ay (wR h)))))
 .exact iL rfl (fS (aB rfl) (aB rfl) (bJ _ _) (eN c (GY (Aa (wR h)))))
 .exact iL rfl (fS (aB rfl) (aB rfl) (bJ _ _) (eN c (QS (JV h))))
 .exact iL rfl (fS (aB rfl) (aB rfl) (bJ _ _) (eN c (Dr (J0 h))))
theorem Ou{x:PV}(h:iq a [.val x]=.er (.ref a.NoText) [.val x]):G2 a (WE ns ys s2 s3 s4 s5 s6 (.val x) s8 s9 s10)=.ok aj (WE ns ys s2 s3 s4 s5 s6 (.val x) s8 s9 s10):=by obtain⟨c,_,_⟩:=nM b;have d:=Db (a:=a) (t:=[97,98,99,97,98]) (w:=2) ⟨by decide,by decide,by decide,by decide,by decide⟩;exact dG (cP (lD (aB rfl) (bJ _ _) (eN c (Fv (Pd d (wR h))))) (nE 0 _) (qj 0))
theorem JP{y:PV}(h:iO a [.val y]=.er (.ref a.NoWidth) [.val y]):Gz a (WE ns ys s2 s3 s4 s5 s6 s7 (.val y) s9 s10)=.ok aj (WE ns ys s2 s3 s4 s5 s6 s7 (.val y) s9 s10):=by obtain⟨_,c,_⟩:=nM b;exact dG (cP (lD (aB rfl) (bJ _ _) (eN c (K0 h))) (nE 1 _) (qj 1))
theorem RQ{x:PV}(h:kh a [.val x]=.er (.ref a.NoView) [.val x]):AE a (WE ns ys s2 s3 s4 s5 s6 s7 s8 (.val x) s10)=.ok (.bl ah) (WE ns ys s2 s3 s4 s5 s6 s7 s8 (.val x) s10):=by
 obtain⟨_,_,c⟩:=nM b;refine cP (yT (n:=2) (k:=7) (xs:=[.int 7,.int 8,.int 9,.int 10,.int 11,.int 12,.int 13]) rfl rfl (λx _=>iL rfl rfl) (λy d=>?_)) (yK 2 7 (by decide) (by decide) _) (Bf aj 2 7);simp only[bV,fe,or_false]at d;rcases d with rfl|rfl|rfl|rfl|rfl|rfl|rfl
 .exact iL rfl (fS (aB rfl) (aB rfl) (bJ _ _) (eN c (ql 0 (by decide) rfl (vy h))))
 .exact iL rfl (fS (aB rfl) (aB rfl) (bJ _ _) (eN c (ql 1 (by decide) rfl (Qq h))))
 .exact iL rfl (fS (aB rfl) (aB rfl) (bJ _ _) (eN c (ql 2 (by decide) rfl (Rh h))))
 .exact iL rfl (fS (aB rfl) (aB rfl) (bJ _ _) (eN c (ql 3 (by decide) rfl (Rg h))))
 .exact iL rfl (fS (aB rfl) (aB rfl) (bJ _ _) (eN c (ql 4 (by decide) rfl (MR h))))
 .exact iL rfl (fS (aB rfl) (aB rfl) (bJ _ _) (eN c (ql 5 (by decide) rfl (OT h))))
 .exact iL rfl (fS (aB rfl) (aB rfl) (bJ _ _) (eN c (Mj (LN h))))
end
theorem M8(t:Wh a)(ns:List Int):sG a [bP ns]=.ok (.val (.bl ah)) [bP ns]:=by
 obtain⟨v,v0,v1,hv⟩:=lC (a:=a) ns [] 4 (by decide) (by simp);obtain⟨w,hw⟩:∃w:Nat,1+v=w:=⟨(1+v).toNat,∅⟩
 have B:1<=w:=∅
 have A:w<=4:=∅
 have e2:l2 a (WE ns [] .none .none .none .none .none .none .none .none .none)=.ok .next (WE ns ([]++[.int 0]) (⇑w) .none .none .none .none .none .none .none .none):=by
  have kN:aU (.int 1) (.int v)=aa (.int w):=by show aa (PV.int (1+v))=_;rw[hw]
  have hr:aM (aC (d8 a) (gV (dV 0) (gO 1 (gV (dC (.int 4)) (Pu.aW))))) (WE ns [] .none .none .none .none .none .none .none .none .none)=.ok (.int v) (WE ns ([]++[.int 0]) .none .none .none .none .none .none .none .none .none):=jM (jm (p':=.lst ([]++[.int 0])) rfl rfl (bJ _ _) hv);exact ir (cP (bJ (.int 1) _) hr kN)
 obtain⟨I,nz⟩:∃I,I=([]:List PV)++[PV.int 0]:=⟨_,rfl⟩
 have l1:I.length=1:=by rw[nz];rfl
 rw[<-nz]at e2;obtain⟨z,j,F,E,D,ly2,hz⟩:=FD (a:=a) ns I 1 12 (by decide) (by decide) ∅;have e3:l3 a (WE ns I (⇑w) .none .none .none .none .none .none .none .none)=.ok .next (WE ns j (⇑w) (↥z) .none .none .none .none .none .none .none):=ir (jM (K9 (p':=.lst j) rfl rfl (bJ _ _) (bJ _ _) hz));have e4:l4 (WE ns j (⇑w) (↥z) .none .none .none .none .none .none .none)=.ok .next (WE ns j (⇑w) (↥z) (⇑((z.length:Int)-w+1)) .none .none .none .none .none .none):=ir (cP (cP (eD (c6 (aB rfl) d4) rfl) (aB rfl) rfl) (bJ _ _) rfl);have e5:=Lb (a:=a) (ns:=ns) (ys:=j) (s5:=.none) (s6:=.none) (s7:=.none) (s8:=.none) (s9:=.none) (s10:=.none) B A F E D;obtain⟨m,hm⟩:∃m,m=Slot.val (.int ((z.length:Int)-w+1)):=⟨_,rfl⟩
 rw[<-hm]at e4 e5;have e6:=iQ (d1:=bc (dC (.bl aj))) (Pn (a:=a) (ns:=ns) (ys:=j) (s4:=m) (s6:=.none) (s7:=.none) (s8:=.none) (s9:=.none) (s10:=.none) B A F E D t);have e7:=Qs (a:=a) (ns:=ns) (ys:=j) (s4:=m) (s5:=.val (nB z w)) (s6:=.none) (s7:=.none) (s8:=.none) (s9:=.none) (s10:=.none) B A F E D;have Z:=MT (ns:=ns) (ys:=j) (s2:=⇑w) (s4:=m) (s5:=.val (lE z w)) (s6:=.none) (s7:=.none) (s8:=.none) (s9:=.none) (s10:=.none) B A F E D;have Y:=iQ (d1:=bc (dC (.bl aj))) (Os (a:=a) (ns:=ns) (ys:=j) (s4:=m) (s7:=.none) (s8:=.none) (s9:=.none) (s10:=.none) B A F E D t);have s:=iQ (d1:=bc (dC (.bl aj))) (QZ (a:=a) (ns:=ns) (ys:=j) (s2:=⇑w) (s4:=m) (s5:=.val (lE z w)) (s6:=↥(lf z)) (s7:=.none) (s8:=.none) (s9:=.none) (s10:=.none) B A F E D t);obtain⟨x,X,N⟩:=pH (a:=a) ns j [.non,.str [],.str [97,98,99,100],.str (a8 13 97),.int 1,.tup [.str [97]],.str [97,66]] ∅ (by decide);have X:=Qa (a:=a) x X;obtain⟨l,K⟩:∃l,l=j++[PV.int 0]:=⟨_,rfl⟩
 rw[<-K]at N;have l3':l.length<=20:=by rw[K,dy];simp;lia
 obtain⟨h,lU⟩:∃S,S=Slot.val (.int w):=⟨_,rfl⟩
 obtain⟨f,hS5⟩:∃S,S=Slot.val (lE z w):=⟨_,rfl⟩
 obtain⟨c,hS6⟩:∃S,S=Slot.val (.str (lf z)):=⟨_,rfl⟩
 have e11:F7 a (WE ns j h (↥z) m f c .none .none .none .none)=.ok .next (WE ns l h (↥z) m f c (.val x) .none .none .none):=ir (jM (jm (p':=.lst l) rfl rfl (show o7 _=.ok (.lst _) _ from rfl) N));have e12:=iQ (d1:=bc (dC (.bl aj))) (O9 (ns:=ns) (ys:=l) (s2:=h) (s3:=↥z) (s4:=m) (s5:=f) (s6:=c) (s8:=.none) (s9:=.none) (s10:=.none) t X);have e13:=iQ (d1:=bc (dC (.bl aj))) (Ou (ns:=ns) (ys:=l) (s2:=h) (s3:=↥z) (s4:=m) (s5:=f) (s6:=c) (s8:=.none) (s9:=.none) (s10:=.none) t X);obtain⟨y,W,M⟩:=pH (a:=a) ns l [.int 0,.int 5,.non,.bl ah,.str [49],.int (-1)] ∅ (by decide);have W:=P9 (a:=a) y W;obtain⟨o,J⟩:∃o,o=l++[PV.int 0]:=⟨_,rfl⟩
 rw[<-J]at M;have l4':o.length<=21:=by rw[J,dy];simp;lia
 have e14:Gc a (WE ns l h (↥z) m f c (.val x) .none .none .none)=.ok .next (WE ns o h (↥z) m f c (.val x) (.val y) .none .none):=ir (jM (jm (p':=.lst o) rfl rfl (show o6 _=.ok (.lst _) _ from rfl) M));have e15:=iQ (d1:=bc (dC (.bl aj))) (Qr (ns:=ns) (ys:=o) (s2:=h) (s4:=m) (s5:=f) (s6:=c) (s7:=.val x) (s9:=.none) (s10:=.none) B A F E D t W);have e16:=iQ (d1:=bc (dC (.bl aj))) (JP (ns:=ns) (ys:=o) (s2:=h) (s3:=↥z) (s4:=m) (s5:=f) (s6:=c) (s7:=.val x) (s9:=.none) (s10:=.none) t W);obtain⟨u,T,G,ly5,u1,u4,g,hs,hvw⟩:=NK (a:=a) ns o ∅;have e17:CP a (WE ns o h (↥z) m f c (.val x) (.val y) .none .none)=.ok .next (WE ns G h (↥z) m f c (.val x) (.val y) (.val (cM u T)) .none):=ir (jM (jm (p':=.lst G) rfl rfl (bJ _ _) hvw));have plv:Pl 9 2 (cM u T):=by
  refine⟨by show 2<=9;decide,λq H=>?_⟩;simp only[bV,fe,or_false]at H;rcases H with rfl|rfl
  .exact trivial
  .refine⟨by rw[gC];exact g.few,λr hr=>?_⟩;obtain⟨r,_,rfl⟩:=eJ.mp hr;exact trivial
 obtain⟨d,d0,d1,hd⟩:=lC (a:=a) ns G 2 (by decide) ∅;obtain⟨n,hn⟩:∃n:Nat,1+d=n:=⟨(1+d).toNat,∅⟩
 have p:(cf 0 n).length=n:=by simp[cf]
 obtain⟨m',k',P,Q,s10,hU,si⟩:=LQ (a:=a) ns h (↥z) m f c (.val x) (.val y) (cf 0 n) 9 2 (G++[.int 0]) (cM u T) .none plv (by rw[p];lia) (by rw[p];lia) (by
  rw[p];have:n=1\/n=2:=∅
  rcases this with rfl|rfl <;> decide) (by rw[p];simp;lia)
 have e18:Fs a (WE ns G h (↥z) m f c (.val x) (.val y) (.val (cM u T)) .none)=.ok .next (WE ns P h (↥z) m f c (.val x) (.val y) (.val Q) s10):=by refine JU ?_;unfold dm;rw[eD (c6 (cP (bJ (.int 1) _) (jM (jm (p':=.lst (G++[.int 0])) rfl rfl (bJ _ _) hd)) (show aU (.int 1) (.int d)=aa (.int n) by show aa (PV.int (1+d))=_;rw[hn])) d4) (lz (n:=n) ∅),R.bind_ok];exact si
 obtain⟨b,O,hb2,hb3⟩:=Lg (a:=a) hU;have hE:∃e,aF (Da a) (bc (AE a)) (WE ns P h (↥z) m f c (.val x) (.val y) (.val Q) s10)=.ok (.ret (.val (.bl ah))) e/\e=WE ns P h (↥z) m f c (.val x) (.val y) (.val Q) s10:=by
  refine⟨_,?_,rfl⟩;cases b with
  |false=>refine(b9 (iQ (dG (FI (aB rfl) O)))).trans (tJ (RQ t (I_ hb2)))
  |true=>
   obtain⟨i,ms,rfl,C⟩:=hb3 rfl;unfold vw qm at C;simp only[fI,decide_eq_true_eq,j7]at C;obtain⟨⟨i1,i4⟩,⟨m1,m9⟩,rW,L⟩:=C;obtain⟨k,rfl⟩:∃k:Nat,i=k:=⟨i.toNat,∅⟩
   have gd:Good bo k ms:=⟨λq H=>(CQ (rW q H)).1,λq H=>(CQ (rW q H)).2,m1,m9⟩
   have hp:ms.Pairwise (λa b=>dP a b=ah):=by rw[L];exact wW ms
   have hmy:=JT (a:=a) gd ∅ ∅ hp;exact jb ((gT (dG (FI (aB rfl) O))).trans (tJ (eD (c6 (lD (aB rfl) (bJ _ _) (wz (x8 hmy))) (c6 (bJ _ _) d4)) (A9 (m:=0) (k:=0) (x:=.int _) trivial))))
 obtain⟨_,hE,rfl⟩:=hE;rw[<-lU]at e2 e3 e4 e5 e6 e7 Z Y s;rw[<-hS5]at e7 Z Y s;rw[<-hS6]at Z Y s;have hb:yaC a [bP ns,.none,.none,.none,.none,.none,.none,.none,.none,.none,.none]=.ok (.ret (.val (.bl ah))) (WE ns P h (↥z) m f c (.val x) (.val y) (.val Q) s10):=by rw[OQ];refine(b9 (show i8 1 (dL bY (au)) [bP ns,.none,.none,.none,.none,.none,.none,.none,.none,.none,.none]=.ok .next (WE ns [] .none .none .none .none .none .none .none .none .none)from rfl)).trans ?_;rw[b9 e2,b9 e3,b9 e4,b9 e5,b9 e6,b9 e7,b9 Z,b9 Y,b9 s,b9 e11,b9 e12,b9 e13,b9 e14,b9 e15,b9 e16,b9 e17,b9 e18];exact hE
 unfold sG bn bj;rw[if_pos ⟨rfl,rfl⟩,show yaC a ([bP ns]++a8 10 .none)=_ from hb];rfl
end
open L2 Pu Sh
def tP(K:aw)(a:Ad):Bool:=oS K a.SlitError tt "ValueError.__new__" && (gE a).all (λx=>oS K x tt "ValueError.__new__" && subB K a.SlitError x&&wq K x&&(gE a).all (λd=>cK K (.ref x) (.ref d) == aa (x == d))&&cK K (.ref x) (.type "ValueError") == aa ah)&&yH K
section
variable{K:aw}{h g:aD}{i:Str->Option ai}{a:Ad}
theorem pc(h:tP K a=ah):oS K a.SlitError tt "ValueError.__new__"=ah/\(∀x∈gE a,oS K x tt "ValueError.__new__"=ah/\subB K a.SlitError x=ah/\wq K x=ah/\(∀d∈gE a,cK K (.ref x) (.ref d)=aa (x == d))/\cK K (.ref x) (.type "ValueError")=aa ah)/\yH K=ah:=by unfold tP at h;simp only[fI,j7,beq_iff_eq,decide_eq_true_eq]at h;obtain⟨⟨j,c⟩,f⟩:=h;exact⟨j,λx b=>⟨(c x b).1.1.1.1,(c x b).1.1.1.2,(c x b).1.1.2,(c x b).1.2,(c x b).2⟩,f⟩
theorem N_(h:tP K a=ah):zP K (kr a):=by
 obtain⟨_,l,_⟩:=pc h;intro c D b e;unfold kr at e;split at e
 .rename_i x d;split at e
  .rename_i f;rw[fI]at f;cases e;have j:x∈gE a:=by simpa using f.1
   have m:d∈gE a:=by simpa using f.2
   exact⟨x,.ref d,rfl,D9 (l x j).2.2.1,rfl,(l x j).2.2.2.1 d m⟩
  .cases e
 .rename_i x T;split at e
  .rename_i f;rw[fI]at f;cases e;have j:x∈gE a:=by simpa using f.1
   have n:T = "ValueError":=by simpa using f.2
   subst n;exact⟨x,.type "ValueError",rfl,D9 (l x j).2.2.1,rfl,(l x j).2.2.2.2⟩
  .cases e
 .cases e
theorem ON(X:K.In g)(h:tP K a=ah):∀c,kZ a c=ah->Under g a.SlitError c:=by
 obtain⟨_,d,_⟩:=pc h;intro c e;unfold kZ at e;split at e
 .rename_i x;have b:x∈gE a:=by simpa using e
  exact KY X (d x b).1 (d x b).2.1
 .cases e
structure Top(K:aw)(a:Ad):Prop where
 ybl:vM K a.Slit "windows" "Slit.windows" zK
 ya0:vQ K a.Slit "Slit.__init__" zu
 k_Slit:Cls K a.Slit
 ybg:kE K a.Slit "came"
 ybh:kE K a.Slit "width"
 yaE:ci K "_law_cell_at" y_
 yaH:ci K "_law_mixed" yP
 yaF:ci K "_law_draw" Ar
 yaI:ci K "_law_pick" Bt
 yaM:ci K "_law_text" z9
 yaK:ci K "_law_seen" yR
 yat:ci K "has_only" vJ
 yaw:ci K "is_text_up_to" Be
 yao:ci K "check_text" BB
 yaz:ci K "is_whole_number" zG
 yaA:ci K "is_width" BH
 yaq:ci K "check_width" BN
 yaZ:ci K "view_of" zA
 yaQ:ci K "pieces" v6
 yaT:ci K "text_view" zC
 yak:ci K "alike" yS
 yaB:ci K "is_window" A8
 yal:ci K "are_windows" vN
 yay:ci K "is_view_with" AY
 yax:ci K "is_view" AA
 yap:ci K "check_view" BI
 yav:ci K "is_bar" zF
 yaO:ci K "_law_which" zU
 yaV:ci K "turned" xH
 yaP:ci K "least_width" AW
 yaj:ci K "add_endings" zR
 yar:ci K "counted" zt
 yaU:ci K "texts" xC
 yau:ci K "how_many" Ae
 yaX:ci K "unrolled" AH
 yaS:ci K "rings" AB
 yas:ci K "first" zy
 yam:ci K "balance" yQ
 yan:ci K "bar" BE
 yaY:ci K "view" Bo
 yaR:ci K "ring_view" zj
 yaW:ci K "twins" xl
 yaD:ci K "_law_ask" zD
 yaJ:ci K "_law_ring_seen" xO
 yaN:ci K "_law_view" zz
 yaL:ci K "_law_spoilt" BF
 yaG:ci K "_law_is_view" t9
 yaC:ci K "law" nD
 ya1:c5 K cq "ValueError"=aa ac
 ya2:c5 K cq "all"=aa ac
 ya3:c5 K cq "any"=aa ac
 ya4:c5 K cq "bool"=aa ac
 ya5:c5 K cq "int"=aa ac
 ya6:c5 K cq "isinstance"=aa ac
 ya7:c5 K cq "len"=aa ac
 ya8:c5 K cq "list"=aa ac
 ya9:c5 K cq "min"=aa ac
 yba:c5 K cq "range"=aa ac
 ybb:c5 K cq "set"=aa ac
 ybc:c5 K cq "sorted"=aa ac
 ybd:c5 K cq "str"=aa ac
 ybe:c5 K cq "tuple"=aa ac
 ybf:c5 K cq "zip"=aa ac
 ybm:∃t,c5 K cq "LETTERS"=aa (aa (.str (tS [97,98,99]) t))
 ybn:∃t,c5 K cq "MOST_LETTERS"=aa (aa (.int 12 t))
 ybo:∃t,c5 K cq "MOST_WINDOWS"=aa (aa (.int 9 t))
 ybp:∃t,c5 K cq "WIDEST"=aa (aa (.int 4 t))
 yai:c5 K cq "SlitError"=aa (aa (.ref a.SlitError))
 yac:c5 K cq "NoText"=aa (aa (.ref a.NoText))
 yae:c5 K cq "NoWidth"=aa (aa (.ref a.NoWidth))
 yad:c5 K cq "NoView"=aa (aa (.ref a.NoView))
 yaf:c5 K cq "NoWindow"=aa (aa (.ref a.NoWindow))
 yab:c5 K cq "Never"=aa (aa (.ref a.Never))
 yaa:c5 K cq "Full"=aa (aa (.ref a.Full))
 yag:c5 K cq "Nothing"=aa (aa (.ref a.Nothing))
 yah:c5 K cq "Slit"=aa (aa (.ref a.Slit))
 ck:tP K a=ah
 z0:pO K "least_ending"=ac
 wh:Wh a
theorem K_(T:Top K a)(X:K.In g)(G:g.Ns cq i):cc K i g a where
 ybl:=T.ybl
 ya0:=T.ya0
 k_Slit:=T.k_Slit
 ybg:=T.ybg
 ybh:=T.ybh
 yaE:=T.yaE.at X G
 yaH:=T.yaH.at X G
 yaF:=T.yaF.at X G
 yaI:=T.yaI.at X G
 yaM:=T.yaM.at X G
 yaK:=T.yaK.at X G
 yat:=T.yat.at X G
 yaw:=T.yaw.at X G
 yao:=T.yao.at X G
 yaz:=T.yaz.at X G
 yaA:=T.yaA.at X G
 yaq:=T.yaq.at X G
 yaZ:=T.yaZ.at X G
 yaQ:=T.yaQ.at X G
 yaT:=T.yaT.at X G
 yak:=T.yak.at X G
 yaB:=T.yaB.at X G
 yal:=T.yal.at X G
 yay:=T.yay.at X G
 yax:=T.yax.at X G
 yap:=T.yap.at X G
 yav:=T.yav.at X G
 yaO:=T.yaO.at X G
 yaV:=T.yaV.at X G
 yaP:=T.yaP.at X G
 yaj:=T.yaj.at X G
 yar:=T.yar.at X G
 yaU:=T.yaU.at X G
 yau:=T.yau.at X G
 yaX:=T.yaX.at X G
 yaS:=T.yaS.at X G
 yas:=T.yas.at X G
 yam:=T.yam.at X G
 yan:=T.yan.at X G
 yaY:=T.yaY.at X G
 yaR:=T.yaR.at X G
 yaW:=T.yaW.at X G
 yaD:=T.yaD.at X G
 yaJ:=T.yaJ.at X G
 yaN:=T.yaN.at X G
 yaL:=T.yaL.at X G
 yaG:=T.yaG.at X G
 yaC:=T.yaC.at X G
 ya1:=jg X G T.ya1
 ya2:=jg X G T.ya2
 ya3:=jg X G T.ya3
 ya4:=jg X G T.ya4
 ya5:=jg X G T.ya5
 ya6:=jg X G T.ya6
 ya7:=jg X G T.ya7
 ya8:=jg X G T.ya8
 ya9:=jg X G T.ya9
 yba:=jg X G T.yba
 ybb:=jg X G T.ybb
 ybc:=jg X G T.ybc
 ybd:=jg X G T.ybd
 ybe:=jg X G T.ybe
 ybf:=jg X G T.ybf
 ybm:=T.ybm.imp λ_ e=>g_ X G e
 ybn:=T.ybn.imp λ_ e=>g_ X G e
 ybo:=T.ybo.imp λ_ e=>g_ X G e
 ybp:=T.ybp.imp λ_ e=>g_ X G e
 yai:=g_ X G T.yai
 yac:=g_ X G T.yac
 yae:=g_ X G T.yae
 yad:=g_ X G T.yad
 yaf:=g_ X G T.yaf
 yab:=g_ X G T.yab
 yaa:=g_ X G T.yaa
 yag:=g_ X G T.yag
 yah:=g_ X G T.yah
 ybi:=zr X (g_ X G T.yac) ((pc T.ck).2.1 a.NoText (by simp[gE])).1
 ybk:=zr X (g_ X G T.yae) ((pc T.ck).2.1 a.NoWidth (by simp[gE])).1
 ybj:=zr X (g_ X G T.yad) ((pc T.ck).2.1 a.NoView (by simp[gE])).1
 err_SlitError:=Qj X (pc T.ck).1
 und:=ON X T.ck
 tab:=N_ T.ck
theorem Me{l:B8}{w:aS}{d:ae}(X:K.In h)(G:h.Ns cq i)(b:i "law"=aa (.ref d))(T:Top K a):∃c:fF,(∀(s:ao) (v:ai),BindsTo s c ⟨[v],[]⟩ [("_law_script",v)])/\∀g:aD,K.In g->g.Ns cq i->fR l.prog w K i g (bD l.prog w) 17 d c ["_law_script"] (bi K (sG a)):=by
 obtain⟨f,oc,u,kV,x,t,A,z,y,r,o,n,m,j⟩:=T.yaC;have e:=b.symm.trans (g_ X G o);cases e;exact⟨_,λs v=>.of_eq rfl,λg p q=>Nh (K_ T p q) (wS n m j)⟩
theorem LG{l:B8}{q:bb}{j:List Str}{XP:(Str->Option ai)->aD->Prop}{o:aS->aD->Prop}{d:DefRec}{K:Params->aw}(v:l.most=aa 63)(t:d.params.defaults=[])(m:d.name = "law")(y:∀(w:aS) (h:aD),o w h->(K w.params).In h) {a:Ad} (T:∀w:aS,Top (K w.params) a):PySem.W.WalkO q j XP o l.row.toRowW d [] (λf p=>PySem.call f p) :=
 L2.SV (n:=63) (k:=17) (x:="_law_script") (K:=K) (CX:=λw=>bD l.prog w) (sp:=λw=>bi (K w.params) (sG a)) v (by decide) t ⟨rfl,by decide,by decide⟩ (λw h Y=>⟨y w h Y,λc P e=>by rw[(T w).z0]at e;cases e⟩)
  (λw i E h B G r=>Me B G (by rw[<-m];exact r) (T w))
  (λw H b u D _ A=>QE (PZ (pc (T w).ck).2.2 A) (M8 (T w).wh u))
  (λw H s e C z=>by obtain⟨_,_,_,_,_,_,_,_,_,_,_,f⟩:=z;exact f)
theorem SO{l:B8}{q:bb}{b:List Str}{XP:(Str->Option ai)->aD->Prop}{j:aS->aD->Prop}{d:DefRec}{K:Params->aw}{yai yac yae yad yaf yab yaa yag yah:ae}(o:l.most=aa 63)(n:d.params.defaults=[])(c:d.name = "law")(p:∀(w:aS) (h:aD),j w h->(K w.params).In h) (T:∀w:aS,Top (K w.params) ⟨yai,yac,yae,yad,yaf,yab,yaa,yag,yag,yag,yag,yag,0,yah⟩):PySem.W.WalkO q b XP j l.row.toRowW d [] (λf m=>PySem.call f m):=LG o n c p T
end
end K01
def PySem.W.Fast.tw5571918319055915173:Nat:=0
def PySem.W.Fast.tw6189164436322893171:Nat:=0
def PySem.W.Fast.tw9511752237887811464:Nat:=0
def PySem.W.Fast.tw6231562182822451638:Nat:=0
def PySem.W.Fast.tw2494058714274466065:Nat:=0
def PySem.W.Fast.tw6251225418129698190:Nat:=0
def PySem.W.Fast.tw5809643117230980862:Nat:=0
def PySem.W.Fast.tw2367588629209999893:Nat:=0
def PySem.W.Fast.tw1210129594991421851:Nat:=0
def PySem.W.Fast.tw5900292864103122253:Nat:=0
def PySem.W.Fast.tw14400427547117511866:Nat:=0
def PySem.W.Fast.tw10860758248699908772:Nat:=0
def PySem.W.Fast.tw6711364395791921905:Nat:=0
def PySem.W.Fast.tw8322449681717298962:Nat:=0
def PySem.W.Fast.tw5634393078060495545:Nat:=0
def PySem.W.Fast.tw15797117844530855423:Nat:=0
def PySem.W.Fast.tw7056157370908652345:Nat:=0
def PySem.W.Fast.tw14678138016726354317:Nat:=0
def PySem.W.Fast.tw7801167147349430989:Nat:=0
def PySem.W.Fast.tw15486369708464331511:Nat:=0
def PySem.W.Fast.tw13565518625742905009:Nat:=0
def PySem.W.Fast.tw6637049205559217884:Nat:=0
def PySem.W.Fast.tw28889317021466330:Nat:=0
def PySem.W.Fast.tw17028408061363283906:Nat:=0
def PySem.W.Fast.tw15493277999325905054:Nat:=0
def PySem.W.Fast.tw18030125643066364035:Nat:=0
def PySem.W.Fast.tw15451975476187535658:Nat:=0
def PySem.W.Fast.tw5651511377954431488:Nat:=0
def PySem.W.Fast.tw9627098395636034796:Nat:=0
def PySem.W.Fast.tw7020073986345237997:Nat:=0
def PySem.W.Fast.tw13428488629835302399:Nat:=0
def PySem.W.Fast.tw4897939144393194946:Nat:=0
def PySem.W.Fast.tw10293846045911756791:Nat:=0
def PySem.W.Fast.tw13247025821452502792:Nat:=0
def PySem.W.Fast.tw194240751451633559:Nat:=0
def PySem.W.Fast.tw13382316237110364095:Nat:=0
def PySem.W.Fast.tw14243405647099467646:Nat:=0
def PySem.W.Fast.tw18040191958049606953:Nat:=0
def PySem.W.Fast.tw9418135170869365578:Nat:=0
def PySem.W.Fast.tw5081512766097511687:Nat:=0
def PySem.W.Fast.tw12865291050351328345:Nat:=0
def PySem.W.Fast.tw3680936201470886327:Nat:=0
def PySem.W.Fast.tw17576176120549505164:Nat:=0
def PySem.W.Fast.tw17434874887923389627:Nat:=0
def PySem.W.Fast.tw2093910628007716194:Nat:=0
def PySem.W.Fast.tw217765240846978477:Nat:=0
def PySem.W.Fast.tw482598464564720246:Nat:=0
def PySem.W.Fast.tw9010990965698052888:Nat:=0
def PySem.W.Fast.tw3091791326322031440:Nat:=0
def PySem.W.Fast.tw4062012486867542158:Nat:=0
def PySem.W.Fast.tw1602920495978241217:Nat:=0
def PySem.W.Fast.tw6404647215544839096:Nat:=0
def PySem.W.Fast.tw8019381204274790624:Nat:=0
def PySem.W.Fast.tw3708481869468546492:Nat:=0
def PySem.W.Fast.tw15744293545505780653:Nat:=0
def PySem.W.Fast.tw12000897231517614534:Nat:=0
def PySem.W.Fast.tw14901477415384216338:Nat:=0
def PySem.W.Fast.tw1406849825878201377:Nat:=0
def PySem.W.Fast.tw14805535760053768071:Nat:=0
def PySem.W.Fast.tw8949711048579052950:Nat:=0
open PySem PySem.W PyProof.Rows
set_option maxRecDepth 100000 in
set_option maxHeartbeats 0 in
theorem PySem.Challenge.cw_slitview_k01_views_holds : PySem.Challenge.rw_slitview_k01_views.Holds := by
 w_on; o_law; k_head; (case hw=>w_witness2)
 k_fill
 refine' K01.SO (l:=PySem.Challenge.rw_slitview_k01_views) rfl rfl rfl (fun w h Y=>PySem.W.kIn_of Y) ?T
 case T =>
  intro w
  refine' { ybl:=?ybl,ya0:=?ya0,k_Slit:=?k_Slit,ybg:=?ybg,ybh:=?ybh,yaE:=?yaE,yaH:=?yaH,yaF:=?yaF,yaI:=?yaI,yaM:=?yaM,yaK:=?yaK,yat:=?yat,yaw:=?yaw,yao:=?yao,yaz:=?yaz,yaA:=?yaA,yaq:=?yaq,yaZ:=?yaZ,yaQ:=?yaQ,yaT:=?yaT,yak:=?yak,yaB:=?yaB,yal:=?yal,yay:=?yay,yax:=?yax,yap:=?yap,yav:=?yav,yaO:=?yaO,yaV:=?yaV,yaP:=?yaP,yaj:=?yaj,yar:=?yar,yaU:=?yaU,yau:=?yau,yaX:=?yaX,yaS:=?yaS,yas:=?yas,yam:=?yam,yan:=?yan,yaY:=?yaY,yaR:=?yaR,yaW:=?yaW,yaD:=?yaD,yaJ:=?yaJ,yaN:=?yaN,yaL:=?yaL,yaG:=?yaG,yaC:=?yaC,ya1:=?ya1,ya2:=?ya2,ya3:=?ya3,ya4:=?ya4,ya5:=?ya5,ya6:=?ya6,ya7:=?ya7,ya8:=?ya8,ya9:=?ya9,yba:=?yba,ybb:=?ybb,ybc:=?ybc,ybd:=?ybd,ybe:=?ybe,ybf:=?ybf,ybm:=?ybm,ybn:=?ybn,ybo:=?ybo,ybp:=?ybp,yai:=?yai,yac:=?yac,yae:=?yae,yad:=?yad,yaf:=?yaf,yab:=?yab,yaa:=?yaa,yag:=?yag,yah:=?yah,ck:=?ck,z0:=?z0,wh:=?wh }
  (case yai=>k_is)
  (case yac=>k_is)
  (case yae=>k_is)
  (case yad=>k_is)
  (case yaf=>k_is)
  (case yab=>k_is)
  (case yaa=>k_is)
  (case yag=>k_is)
  (case yah=>k_is)
  (case ybl=>refine' Pu.SR ?yi ?yn ?yl ?yc ?yk; (case yi=>k_is); (case yn=>k_is); (case yl=>k_is); (case yc=>k_is); (case yk=>k_is))
  (case ya0=>refine' Pu.SA ?zm ?zi ?zn ?zp ?zl ?zc ?zk; (case zm=>k_is); (case zi=>k_is); (case zn=>k_is); (case zp=>k_is); (case zl=>k_is); (case zc=>k_is); (case zk=>k_is))
  (case k_Slit=>refine' L2.Cls.mk ?xp ?xh ?xo ?xs; (case xp=>k_is); (case xh=>k_is); (case xo=>k_is); (case xs=>k_is))
  (case ybg=>unfold L2.kE; k_is)
  (case ybh=>unfold L2.kE; k_is)
  (case yaE=>and_intros)
  (case yaH=>and_intros)
  (case yaF=>and_intros)
  (case yaI=>and_intros)
  (case yaM=>and_intros)
  (case yaK=>and_intros)
  (case yat=>and_intros)
  (case yaw=>and_intros)
  (case yao=>and_intros)
  (case yaz=>and_intros)
  (case yaA=>and_intros)
  (case yaq=>and_intros)
  (case yaZ=>and_intros)
  (case yaQ=>and_intros)
  (case yaT=>and_intros)
  (case yak=>and_intros)
  (case yaB=>and_intros)
  (case yal=>and_intros)
  (case yay=>and_intros)
  (case yax=>and_intros)
  (case yap=>and_intros)
  (case yav=>and_intros)
  (case yaO=>and_intros)
  (case yaV=>and_intros)
  (case yaP=>and_intros)
  (case yaj=>and_intros)
  (case yar=>and_intros)
  (case yaU=>and_intros)
  (case yau=>and_intros)
  (case yaX=>and_intros)
  (case yaS=>and_intros)
  (case yas=>and_intros)
  (case yam=>and_intros)
  (case yan=>and_intros)
  (case yaY=>and_intros)
  (case yaR=>and_intros)
  (case yaW=>and_intros)
  (case yaD=>and_intros)
  (case yaJ=>and_intros)
  (case yaN=>and_intros)
  (case yaL=>and_intros)
  (case yaG=>and_intros)
  (case yaC=>and_intros)
  (case ya1=>k_is)
  (case ya2=>k_is)
  (case ya3=>k_is)
  (case ya4=>k_is)
  (case ya5=>k_is)
  (case ya6=>k_is)
  (case ya7=>k_is)
  (case ya8=>k_is)
  (case ya9=>k_is)
  (case yba=>k_is)
  (case ybb=>k_is)
  (case ybc=>k_is)
  (case ybd=>k_is)
  (case ybe=>k_is)
  (case ybf=>k_is)
  (case ybm=>refine' Pu.SI ?e; (case e=>k_is))
  (case ybn=>refine' Pu.SM ?e; (case e=>k_is))
  (case ybo=>refine' Pu.SM ?e; (case e=>k_is))
  (case ybp=>refine' Pu.SM ?e; (case e=>k_is))
  (case ck=>kernel_rfl)
  (case z0=>kernel_rfl)
  (case wh=>refine K01.SN ?_; kernel_rfl)
