import PyProof.Rows.All
import Wide.All
import OpenK.AllK
import Wide.FinOn
import Lean
import PyProof.EqAt
import PyProof.EqKinds
import PyProof.TupleCall
import KE.KIntText
import KE.KDictList
import KE.KDictSum
import PyProof.Rows.Range3
import PyProof.DictWalks
import KE.KMinKey
import KE.KSortTup
import PyProof.EnumStmt
import PyProof.EnumMake
import PyProof.EnumFor
import PyProof.Draws
import PyProof.Rows.TupDisplay
import PyProof.Rows.SumAny
import KE.LcSums
import PyProof.FString5
import PyProof.WalkInts
import KE.KDictLaws
import PySem.Challenge.RW_slitview_k33_whole_seekers
noncomputable section
set_option compiler.extract_closed false
local macro_rules | `(tactic| eq_refl) => `(tactic| first | exact Or.inl rfl | exact Or.inr (Or.inl rfl) | exact Or.inr (Or.inr rfl))
local macro_rules | `(∅) => `(by first | lia | omega)
set_option Elab.async false
set_option bootstrap.genMatcherCode false
set_option genSizeOf false
set_option linter.all false
set_option maxRecDepth 100000
local macro_rules | `(tactic| ac_nf) => `(tactic| exact ⟨rfl,rfl,rfl,by decide +kernel,rfl,by decide +kernel,by decide +kernel⟩)
open Option renaming some->aa,none->af,bind_some->gu,map_some->pQ,map_eq_some_iff->uL,isSome_iff_exists->BJ,bind_eq_some_iff->B8,map_eq_none_iff->Cc,getD_none->GK,getD_some->Hd
open PySem renaming Addr->ac,Value->ai,Shared->ao,wpAny->aw,wpAny_bind->ax,Expr->aD,model->aE,Heap->aI,eval->aK,starEach->aN,Stmt->aS,World->aU,wpAny_pure->aX,Around->a4,Program->a_,sizeLine->bi,mainGlobals->b7,backTo->b9,bootBuiltins->dZ,wpAny_mono->d4,compareOp->d7,Scope->eI,rawInt->eQ,bindArgs->eR,attributeBase->fq,cellsFrom->fV,Keyword->gq,FuncData->gG,NameKind->gW,swapsWith->ii,backToKw->jp,keywordEach->jq,binaryOp->jH,SetTable->jL,strKind->jM,codeAny->ka,Paired->kQ,sysModules->kR,mem_of_lookup->kY,argBest->k6,wpAny_newObj_type->lO,isTrue->m9,foldedSetIterable->nc,IsPart->nj,setNext->nq,setField->nr,wpAny_truthy_bool->oa,pyIter->oh,codeAny_mono->ol,builtinsNs->pA,behindInMarks->pD,holding->pE,sizeLine_eq->pF,wpAny_field->pH,getItem->pI,wpAny_holding->pK,wpAny_passesOwn->rP,sliceBounds->rT,valueAt->rW,callerA->rX,relayAll->rY,wpAny_setState_of->rZ,wpAny_askSetting->r9,wpAny_setField->r_,tupleKind->uA,assignEach->uC,PassesOwn->uD,getMethod->uF,wpAny_call->uI,call_meets->uK,wpAny_pyIter_list->uP,codeAny_builtin->uS,pickOrder->uT,wpAny_Call_Name_kw->ya,wpAny_call_entry->yd,setsByText->yw,wpAny_ite_split->yx,setFlight->yz,wpAny_execs_nil->BA,swapsWithSole->BB,swappedStores->BC,letOwnedTupleGo->BD,subscripted->BN,tupleKind_room_in1->BP,call_meetsIn->BQ,plainId_quiet->BY,excClassObj->B6,Within->Gv,wpAny_execs_cons->Gx,checkBuiltinCall->GW,wpAny_loadPart_at->GY
open Bool renaming true->ah,false->aj,and_eq_true->dS,false_ne_true->gh,eq_iff_iff->oi,or_eq_true->pO,false_xor->u0,true_and->yr,false_eq_true->BW,eq_false_iff->GZ
open PySem.W renaming Frag->au,nsIn->cS,fnOf->fu,mg_of->fz,kitOne->gk,findIn->iF,mg_none_of->jt,keepIn->kb,kia_one->kX,emptyDict->oj,excIn->ot,instObj->pw,tabIn->pB,codeIn->pG,InstAt->uE,isFn->x9,mroIn->x_,lookIn->BE,plainGet->BF,callWith_K->BH,OpenLaw->BR,clsIn->B7,methodObj->Gw,hasDictIn->GA,plainGet_of->GD,looks_findIn->GE,specialIn->GF,methodCall_KW->GH,cellsFrom_some->GI
open Nat renaming le_refl->bB,ne_of_lt->dm,le_trans->d3,lt_irrefl->eX,lt_of_lt_of_le->fU,lt_succ_self->jI,zero_le->jJ,lt_succ_of_lt->kZ,le_of_eq->ng,ne_of_gt->og,le_of_lt->pC,zero_add->sd,add_right_comm->uW,add_assoc->uX,le_succ->yb,lt_of_le_of_lt->ym,lt_or_ge->yC,lt_trans->BO,min_eq_left->Ca,min_eq_right->Ha,pow_le_pow_right->Hf
open PySem.Heap renaming lt_size->bK,get?_push_of_some->bN,get?_push_size->cW,SameBut->kU,get?_update_other->pL,get?_update_self->pP,size_push->uG,get?_none_of_le->Bz
open List renaming length_map->bS,range->bX,mem_map->b0,mem_cons->b8,getElem?_set_ne->cj,getElem?_set_self->cu,getElem?_eq_some_iff->cF,size_toArray->cR,replicate->cX,map_cons->eY,length_append->eZ,getElem?_eq_getElem->e_,map_map->fc,length_cons->fL,length_set->fW,mem_filter->gU,mem_singleton->gX,find?_cons->ij,nil_append->ik,all_eq_true->iR,not_mem_nil->iS,append_nil->i5,getElem?_append_left->i6,mem_cons_of_mem->jn,lookup->jo,lookup_cons->jr,nodup_cons->jK,getElem?_map->kc,mem_append->kT,filter_map->k9,any_eq_true->k_,any_cons->lP,length_nil->lQ,map_congr_left->lR,mem_range->mY,mem_cons_self->m8,mem_append_right->m_,length->nh,foldl_cons->nk,length_pos_iff->nu,map_append->oq,length_drop->pJ,length_singleton->pM,take_of_length_le->pN,getElem?_eq_none->pR,dropLast->pW,map_id'->pX,exists_cons_of_ne_nil->pY,length_take->rQ,getElem?_append_right->rR,all_cons->rV,flatMap_cons->sh,filterMap_cons->uB,lookup_append->uN,range_succ->uQ,getElem_mem->uR,ext_getElem?->uU,filter_eq_self->uY,length_dropLast->yh,all_map->yo,getD->yq,eq_nil_of_length_eq_zero->yt,nodup_append->yy,mem_of_mem_take->yB,of_mem_zip->BI,mem_of_getElem?->BK,range_succ_eq_map->BS,drop_zero->BU,foldl_append->BX,append_assoc->BZ,drop_eq_getElem_cons->B1,drop_length->B2,getD_eq_getElem?_getD->B9,filter_eq_nil_iff->B_,drop_of_length_le->Cb,any_eq_false->Gz,replicate_succ->GN,drop_append_of_le_length->GQ,length_range->GR,toList_toArray->GS,pairwise_map->GT,length_eq_zero_iff->G0,flatMap_nil->G1,filter_append->G2,mem_of_mem_drop->G3,filter_flatMap->G4,filter_cons->G5,count_eq_zero_of_not_mem->G6,count_append->G7,length_filter_le->G8,isEmpty_nil->G9,find?_eq_none->Hb,mem_of_find?_eq_some->Hc,flatMap_append->He,filter_sublist->Hg,findIdx?_eq_some_iff_getElem->RP,take_succ_eq_append_getElem->RT
open PySem.Str renaming ofString->bY,empty->kW
open Ne renaming symm->dQ
open Option.some renaming inj->fk
open PyProof.Rows renaming envOfC->fM,StrsAre->gH,size_push'->kf,AllBare->mZ,OwnCls->pV,assignInOrder_cons->Gy,slot_tuple_getitem->RO
open False renaming elim->gn
open PySem.PassesOwn renaming never->kg
open PySem.Obj renaming mapFields->nt,mapSeq->uJ,data_mapFields->uV,isFreed_of_fields->B5
open Int renaming toNat_natCast->om,emod_lt_of_pos->G_
open Function renaming comp->ou
open Iff renaming rfl->pT
open PySem.F renaming plainAttrs_list->pU,excBase_ValueError->se,slot_list_append->B3,type_list_append->B4,slot_dict_get->GO,plainAttrs_dict->GP
open PySem.SetTable renaming grown->r8,below->RS
open PySem.Value renaming isStrOf->uz
open PySem.Calls renaming spliced_cons->uH,callWith_builtin->yf,evalArgs_plain->yg,spliced_nil->BG
open Array renaming getElem?_eq_some_iff->uO,length_toList->x6,getElem?_eq_getElem->B0,getElem?_toList->GM
open List.cons renaming injEq->uZ
open PySem.Builtin.Str renaming occurrences->x8
open PySem.SeqAt renaming EqAt->ye
open PySem.Paired renaming snoc->yj
open PySem.Heap.SameBut renaming update->yu
open PySem.Around renaming under_plainId->yv
open Nat.succ renaming inj->yA
open PySem.Builtin.Slice renaming slicePlaces->BL,sliceAdjust->GJ
open PySem.Builtin.Tuple renaming tupleExact->BM
open List.Perm renaming refl->BV
open PySem.Builtin.List renaming listTooLong->GL
open PyProof.Rows.F renaming plain_set_update_loop->GU,entry_set_update_loop->RQ
open PySem.SetTable.below renaming go->GX
open PySem PySem.Spec PyProof.Rows
namespace L2
abbrev aJ:=Sum Int Str
def qM:aJ->ai->Bool
 |.inl k,v=>Value.isInt k v
 |.inr x,v=>uz x v
def Rs(w:aU):aJ->Int
 |.inl k=>hashInt k
 |.inr x=>hashStr w x
theorem mQ:∀{k:aJ}{v:ai},qM k v=ah->(∃i t,k=Sum.inl i/\v=Value.int i t)\/(∃x t,k=Sum.inr x/\v=Value.str x t)
 |.inl i,v,h=>by obtain⟨t,e⟩:=Value.isInt_shape (k:=i) (v:=v) h;exact .inl ⟨i,t,rfl,e⟩
 |.inr x,v,h=>by obtain⟨t,e⟩:=Value.isStrOf_shape (x:=x) (v:=v) h;exact .inr ⟨x,t,rfl,e⟩
theorem IB(i:Int)(t:Tok):qM (.inl i) (.int i t)=ah:=by simp[qM,Value.isInt]
theorem OV(x:Str)(t:Tok):qM (.inr x) (.str x t)=ah:=by simp[qM,uz]
theorem QH(a b:Int):decide ((Sum.inl a:aJ)=Sum.inl b)=(a == b):=by
 by_cases e:a=b
 .subst e;simp
 .have h:¬(Sum.inl a:aJ)=Sum.inl b:=λq=>e (Sum.inl.inj q);rw[decide_eq_false h];exact(beq_eq_false_iff_ne.mpr e).symm
theorem Q0(a b:Str):decide ((Sum.inr a:aJ)=Sum.inr b)=decide (a=b):=by
 by_cases e:a=b
 .subst e;simp
 .have h:¬(Sum.inr a:aJ)=Sum.inr b:=λq=>e (Sum.inr.inj q);rw[decide_eq_false h,decide_eq_false e]
theorem JV(a:Int)(b:Str):decide ((Sum.inl a:aJ)=Sum.inr b)=aj:=decide_eq_false (λq=>nomatch q)
theorem Kw(a:Str)(b:Int):decide ((Sum.inr a:aJ)=Sum.inl b)=aj:=decide_eq_false (λq=>nomatch q)
def g9(c:a_)(w:aU):PySem.KeyKind c w aJ where
 is:=qM
 hash:=Rs w
 inj:=λv a b l f=>by
  rcases mQ l with⟨i,t,rfl,rfl⟩|⟨x,t,rfl,rfl⟩
  .rcases mQ f with⟨j,u,rfl,e⟩|⟨y,u,rfl,e⟩
   .injection e with e1 _;rw[e1]
   .exact nomatch e
  .rcases mQ f with⟨j,u,rfl,e⟩|⟨y,u,rfl,e⟩
   .exact nomatch e
   .injection e with e1 _;rw[e1]
 byValue:=λk v h=>by rcases mQ h with⟨i,t,rfl,rfl⟩|⟨x,t,rfl,rfl⟩ <;> rfl
 pyHash:=λd h=>by
  rcases mQ d with⟨i,t,rfl,rfl⟩|⟨x,t,rfl,rfl⟩
  .exact wpAny_pyHash_int h
  .exact wpAny_pyHash_str h
 eqBool:=λg d h=>by
  rcases mQ g with⟨i,t,rfl,rfl⟩|⟨x,t,rfl,rfl⟩
  .rcases mQ d with⟨j,u,rfl,rfl⟩|⟨y,u,rfl,rfl⟩
   .rw[QH]at h;exact wpAny_eqBool_int h
   .rw[JV]at h;exact SeqAt.EqAt.int_str i t y u _ _ _ _ h
  .rcases mQ d with⟨j,u,rfl,rfl⟩|⟨y,u,rfl,rfl⟩
   .rw[Kw]at h;exact SeqAt.EqAt.str_int x t j u _ _ _ _ h
   .rw[Q0]at h;exact wpAny_eqBool_str h
 «strs»:=λk x t v h=>by
  rcases mQ h with⟨i,u,rfl,e⟩|⟨y,u,rfl,e⟩
  .exact nomatch e
  .injection e with e1 _;subst e1;cases v <;> rfl
theorem HS(a:a_)(w:aU)(i:Int)(t:Tok):(g9 a w).is (.inl i) (.int i t)=ah:=IB i t
theorem KA(a:a_)(w:aU)(x:Str)(t:Tok):(g9 a w).is (.inr x) (.str x t)=ah:=OV x t
inductive V where
 |non|bl (b:Bool)|int (i:Int)|str (x:Str)|byt (b:Array UInt8)|flt (b:UInt64)|ref (a:ac)|ty (n:String)
 deriving DecidableEq
def RelV:V->ai->Prop
 |.non,u=>u=Value.none
 |.bl b,u=>u=Value.bool b
 |.int i,u=>∃t,u=Value.int i t
 |.str x,u=>∃t,u=Value.str x t
 |.byt b,u=>∃t,u=Value.bytes b t
 |.flt b,u=>∃t,u=Value.float b t
 |.ref a,u=>u=Value.ref a
 |.ty n,u=>u=Value.type n
abbrev bD:List V->List ai->Prop:=kQ RelV
theorem bD.length{xs:List V}{a:List ai}(r:bD xs a):xs.length=a.length:=Paired.length r
theorem bD.get:∀{xs:List V}{a:List ai}{i:Nat}{x:V},bD xs a->xs[i]?=aa x->∃u,a[i]?=aa u/\RelV x u
 |_,_,_,_,.nil,e=>by simp at e
 |_,_,0,_,.cons r _,e=>by simp at e;subst e;exact⟨_,rfl,r⟩
 |_,_,i+1,x,.cons _ t,e=>by obtain⟨u,c,b⟩:=bD.get (i:=i) (x:=x) t (by simpa using e);exact⟨u,by simpa using c,b⟩
theorem bD.append:∀{xs a:List V}{c b:List ai},bD xs c->bD a b->bD (xs++a) (c++b)
 |_,_,_,_,.nil,s=>s
 |_,_,_,_,.cons r t,s=>.cons r (bD.append t s)
theorem bD.take:∀{xs:List V}{a:List ai} (n:Nat),bD xs a->bD (xs.take n) (a.take n)
 |_,_,0,_=>.nil
 |_,_,_+1,.nil=>.nil
 |_,_,n+1,.cons r t=>.cons r (bD.take n t)
theorem bD.drop:∀{xs:List V}{a:List ai} (n:Nat),bD xs a->bD (xs.drop n) (a.drop n)
 |_,_,0,r=>r
 |_,_,_+1,.nil=>.nil
 |_,_,n+1,.cons _ t=>bD.drop n t
def lN:Option V->Option ai->Prop
 |some v,aa u=>RelV v u
 |none,af=>True
 |_,_=>False
def KV{a:Type}:List (a×V)->List (a×ai)->Prop:=kQ λ(p:a×V) (q:a×ai)=>p.1=q.1/\RelV p.2 q.2
def kV:aJ->V
 |.inl i=>.int i
 |.inr x=>.str x
inductive HO where
 |lst (xs:List V)
 |tup (xs:List V)
 |dK (kvs:List (aJ×V))|dT (kvs:List (List aJ×V))|dN (kvs:List ((Str×List Str)×V))
 |set (S:Int->Bool) (n:Nat)
 |ins (C dx:ac) (fs:List (Str×V))
 |own (x:ac)
 |xd (fs:List (Str×V))
 |met (f x:ac)
 |rng (lo hi:Int)
 |frz (o:Obj) (u:HO)
 |tbl (q:Str)
 |ext (φ:aI->Prop)
abbrev Hp:=ac->Option HO
def upd(H:Hp)(a:ac)(o:HO):Hp:=λb=>if b=a then aa o else H b
theorem bW{H:Hp}{a:ac}{o:HO}:upd H a o a=aa o:=by unfold upd;rw[if_pos rfl]
theorem bo{H:Hp}{a b:ac}{o:HO}(h:b≠a):upd H a o b=H b:=by unfold upd;rw[if_neg h]
theorem Ii{H:Hp}{a b:ac}{o u:HO}(h:H a=aa o)(c:H b=aa u)(d:o≠u):a≠b:=by intro e;subst e;rw[h]at c;exact d (fk c)
theorem mn{H:Hp}{a b:ac}{o:HO}(h:H a=aa o)(c:H b=af):a≠b:=by
 intro e;subst e;rw[h]at c;cases c
def Gq(h:aI)(a:ac)(b:Array ai):Prop:=IsTup h a b/\∃o,h.get? a=aa o/\o.dict=af
theorem Gq.new(h:aI)(its:Array ai):Gq (h.push {cls:=.type "tuple",data:=.seq its}) h.objs.size its:=⟨IsTup.new _ _,_,cW _ rfl,rfl⟩
section
variable(P:a_)(w:aU)
def Jm(k:Str×List Str):Int:=reduceHash (Builtin.Tuple.tupleHashOf [hashStr w k.1,reduceHash (Builtin.Tuple.tupleHashOf (k.2.map (hashStr w)))])
def JZ(H:Hp)(k:Str×List Str)(a:ac):Prop:=∃b,H a=aa (.tup [.str k.1,.ref b])/\H b=aa (.tup (k.2.map .str))
def dq(H:Hp)(h:aI)(a:ac):HO->Prop
 |.lst xs=>xs.length<=bi/\∃(b:List ai) (n:Nat),bD xs b/\h.get? a=aa {cls:=.type "list",data:=.seq b.toArray n}
 |.tup xs=>xs.length<=bi/\∃b:List ai,bD xs b/\Gq h a b.toArray
 |.dK kvs=>kvs.length<=bi/\(a == kR)=aj/\∃s,KV kvs s/\h.DictOf (g9 P w) a s
 |.dT kvs=>kvs.length<=bi/\(a == kR)=aj/\∃xs:List (List aJ×ac×ai),
   kQ (λ(p:List aJ×V) (q:List aJ×ac×ai)=>p.1=q.1/\H q.2.1=aa (.tup (p.1.map kV))/\RelV p.2 q.2.2) kvs xs /\
   ∃o g ep,h.get? a=aa o/\o.ExactDict/\o.data=.dict g ep/\g.toList=xs.map (entryOfKey (uA (g9 P w)))/\(xs.map (·.1)).Nodup
 |.dN kvs=>kvs.length<=bi/\(a == kR)=aj/\∃xs:List ((Str×List Str)×ac×ai),
   kQ (λ(p:(Str×List Str)×V) (q:(Str×List Str)×ac×ai)=>p.1=q.1/\JZ H p.1 q.2.1/\RelV p.2 q.2.2) kvs xs /\
   ∃o g ep,h.get? a=aa o/\o.ExactDict/\o.data=.dict g ep/\g.toList=xs.map (λx=>⟨Jm w x.1,.ref x.2.1,x.2.2⟩)/\(xs.map (·.1)).Nodup
 |.set S n=>h.SetOf (intKind P w) a S n
 |.ins C i fs=>H i=aa (.own a)/\fs.length<=1000/\i≠a/\h.get? a=aa (pw C i) /\
   ∃d,h.Ns1 i d/\(∀f,lN (fs.lookup f) (d f))/\Gv d (fs.map (·.1))
 |.own _=>∃o,h.get? a=aa o
 |.xd fs=>∃d,h.Ns1 a d/\∀f,lN (fs.lookup f) (d f)
 |.rng A B=>∃t u v,h.get? a=aa {cls:=.type "range",data:=.fields #[.int A t,.int B u,.int 1 v]}
 |.frz o u=>h.get? a=aa o/\dq H h a u
 |.tbl q=>∃l:Array ai,h.get? a=aa {cls:=.none,data:=.fields l}/\TriplesOk l.toList/\∀m r,codeAmong m l.toList=aa r->∃c,r=.ref c/\H c=aa (.own a)/\h.CodeRec r q
 |.met f x=>h.get? a=aa (Gw (.ref f) (.ref x))
 |.ext j=>j h/\(∃o,h.get? a=aa o)/\∀z y:aI,j z->(∀o,z.get? a=aa o->y.get? a=aa o)->j y
def dw(H:Hp)(h:aI):Prop:=∀a o,H a=aa o->dq P w H h a o
end
section
variable{P:a_}{w:aU}{H H':Hp}{h h':aI}{a:ac}{o:HO}
theorem dq.lt(x:dq P w H h a o):a<h.objs.size:=by
 cases o with
 |lst xs=>obtain⟨_,_,_,_,e⟩:=x;exact bK e
 |tup xs=>obtain⟨_,_,_,p,_⟩:=x;exact p.lt
 |dK b=>obtain⟨_,_,_,_,o,_,_,e,_⟩:=x;exact bK e
 |dT b=>obtain⟨_,_,_,_,o,_,_,e,_⟩:=x;exact bK e
 |dN b=>obtain⟨_,_,_,_,o,_,_,e,_⟩:=x;exact bK e
 |set S n=>obtain⟨o,_,_,_,e,_⟩:=x;exact bK e
 |ins C j fs=>obtain⟨_,_,_,e,_⟩:=x;exact bK e
 |own y=>obtain⟨_,e⟩:=x;exact bK e
 |xd fs=>obtain⟨_,⟨_,_,_,e,_⟩,_⟩:=x;exact bK e
 |rng g i=>obtain⟨_,_,_,e⟩:=x;exact bK e
 |frz d u=>obtain⟨e,_⟩:=x;exact bK e
 |tbl q=>obtain⟨_,e,_⟩:=x;exact bK e
 |met f y=>exact bK (show h.get? a=aa _ from x)
 |ext c=>obtain⟨_,⟨_,e⟩,_⟩:=x;exact bK e
theorem Paired.mapP{i g:Type}{F G:i->g->Prop}:∀{d:List i}{c:List g},kQ F d c->(∀a b,F a b->G a b)->kQ G d c
 |_,_,.nil,_=>.nil
 |_,_,.cons r t,f=>.cons (f _ _ r) (Paired.mapP t f)
theorem dq.stay(x:dq P w H h a o)(k:∀b u,(b=a\/H b=aa (.own a))->h.get? b=aa u->h'.get? b=aa u)(J:∀b,H b=aa (.own a)->H' b=aa (.own a)) (G:∀b xs,H b=aa (.tup xs)->H' b=aa (.tup xs)):dq P w H' h' a o:=by
 induction o with
 |lst xs=>obtain⟨z,m,n,r,e⟩:=x;exact⟨z,m,n,r,k _ _ (.inl rfl) e⟩
 |tup xs=>obtain⟨z,m,r,⟨i,e,c⟩,N,A,K⟩:=x;exact⟨z,m,r,⟨i,k _ _ (.inl rfl) e,c⟩,N,k _ _ (.inl rfl) A,K⟩
 |dK s=>obtain⟨z,y,D,r,i,j,l,e,c⟩:=x;exact⟨z,y,D,r,i,j,l,k _ _ (.inl rfl) e,c⟩
 |dT s=>obtain⟨z,y,xs,r,i,j,l,e,c⟩:=x;exact⟨z,y,xs,Paired.mapP r λp q z=>⟨z.1,G _ _ z.2.1,z.2.2⟩,i,j,l,k _ _ (.inl rfl) e,c⟩
 |dN s=>obtain⟨z,y,xs,r,i,j,l,e,c⟩:=x;exact⟨z,y,xs,Paired.mapP r λp q z=>⟨z.1,(let ⟨b,B,h2⟩:=z.2.1;⟨b,G _ _ B,G _ _ h2⟩),z.2.2⟩,i,j,l,k _ _ (.inl rfl) e,c⟩
 |set S n=>obtain⟨i,j,l,t,e,c⟩:=x;exact⟨i,j,l,t,k _ _ (.inl rfl) e,c⟩
 |ins C dx fs=>obtain⟨d,z,ne,e,F,⟨E,j,l,A,c⟩,r⟩:=x;exact⟨J _ d,z,ne,k _ _ (.inl rfl) e,F,⟨E,j,l,k _ _ (.inr d) A,c⟩,r⟩
 |own y=>obtain⟨i,e⟩:=x;exact⟨i,k _ _ (.inl rfl) e⟩
 |xd fs=>obtain⟨F,⟨E,j,l,e,c⟩,r⟩:=x;exact⟨F,⟨E,j,l,k _ _ (.inl rfl) e,c⟩,r⟩
 |rng Y Z=>obtain⟨t,u,v,e⟩:=x;exact⟨t,u,v,k _ _ (.inl rfl) e⟩
 |frz i u O=>obtain⟨e,q⟩:=x;exact⟨k _ _ (.inl rfl) e,O q⟩
 |tbl q=>
  obtain⟨M,e,t,g⟩:=x;refine⟨M,k a _ (.inl rfl) e,t,λpos W Q=>?_⟩;obtain⟨c,rfl,B,K,o,D,L,A,T,r⟩:=g pos W Q;cases A;exact⟨c,rfl,J c B,c,o,D,L,rfl,k c _ (.inr B) T,r⟩
 |met f y=>have e:h.get? a=aa (Gw (.ref f) (.ref y)):=x;show h'.get? a=aa (Gw (.ref f) (.ref y));exact k a _ (.inl rfl) e
 |ext X=>obtain⟨p,⟨o,e⟩,I⟩:=x;exact⟨I _ _ p λo q=>k _ _ (.inl rfl) q,⟨o,k _ _ (.inl rfl) e⟩,I⟩
theorem dw.lt(x:dw P w H h)(e:H a=aa o):a<h.objs.size:=(x a o e).lt
theorem dw.fresh(x:dw P w H h)(e:h.objs.size<=a):H a=af:=by
 cases q:H a with
 |none=>rfl
 |some u=>exact absurd (fU (x.lt q) e) (eX _)
theorem dw.kept(x:dw P w H h)(k:∀b u,h.get? b=aa u->h'.get? b=aa u):dw P w H h':=λa o e=>(x a o e).stay (λb u _ q=>k b u q) (λ_ q=>q) λ_ _ q=>q
theorem dw.laid(x:dw P w H h)(k:∀b u,h.get? b=aa u->h'.get? b=aa u)(g:h.objs.size<=a)(new:dq P w (upd H a o) h' a o):dw P w (upd H a o) h':=λb u e=>by
 have d:=x.fresh g;by_cases f:b=a
 .subst f;rw[bW]at e;cases e;exact new
 .rw[bo f]at e;exact(x b u e).stay (λc v _ q=>k c v q) (λc q=>by rw[bo (mn q d)];exact q) λc xs q=>by rw[bo (mn q d)];exact q
end
def Rd(H:Hp)(a:ac)(u:HO):Prop:=H a=aa u\/∃o,H a=aa (.frz o u)
theorem Rd.ok{P:a_}{w:aU}{H:Hp}{h:aI}{a:ac}{u:HO}(r:Rd H a u)(x:dw P w H h):dq P w H h a u:=by
 rcases r with r|⟨o,r⟩
 .exact x a u r
 .obtain⟨_,q⟩:=x a _ r;exact q
def tj:Option HO->Prop
 |some (.lst _)=>True
 |some (.dK _)=>True
 |some (.dT _)=>True
 |some (.dN _)=>True
 |some (.set _ _)=>True
 |some (.ins _ _ _)=>True
 |some (.ext _)=>True
 |_=>False
section
variable{P:a_}{w:aU}{H:Hp}{h a:aI}{x e:ac}{d:HO}
theorem dw.write(ok:dw P w H h)(i:tj (H x))(o:e=x\/H e=aa (.own x))(k:∀b u,b≠e->h.get? b=aa u->a.get? b=aa u)(p:∃u,a.get? e=aa u)(new:dq P w (upd H x d) a x d):dw P w (upd H x d) a:=λb u q=>by
 have f:∀c y,H c=aa (.own y)->c≠x:=λc y r z=>by subst z;rw[r]at i;exact i
 have g:∀c xs,H c=aa (.tup xs)->c≠x:=λc xs r z=>by subst z;rw[r]at i;exact i
 by_cases m:b=x
 .subst m;rw[bW]at q;cases q;exact new
 .rw[bo m]at q;by_cases j:b=e
  .have n:H b=aa (.own x):=by
    rcases o with z|z
    .exact absurd (j.trans z) m
    .rw[j];exact z
   rw[q]at n;cases n;obtain⟨v,s⟩:=p;exact⟨v,by rw[j];exact s⟩
  .refine(ok b u q).stay (λc v l r=>k c v ?_ r) (λc r=>by rw[bo (f c b r)];exact r) λc xs r=>by rw[bo (g c xs r)];exact r
   rcases l with rfl|l
   .exact j
   .rintro rfl;rcases o with z|z
    .exact f c b l z
    .rw[l]at z;cases z;exact m rfl
end
structure Un(fs ex:List ac)(H H':Hp)(h h':aI):Prop where
 keep:∀b o,h.get? b=aa o->H b=af->b∉fs->b∉ex->h'.get? b=aa o
 slot:∀b o,h.get? b=aa o->H b=af->b∈fs->b∉ex->∃sl,h'.get? b=aa {o with slots:=sl}
 free:∀b o,h.get? b=aa o->H b=af->b∉ex->H' b=af
 there:∀b o,h.get? b=aa o->b∉ex->∃o',h'.get? b=aa o'
 tups:∀b xs,H b=aa (.tup xs)->H' b=aa (.tup xs)
 frzs:∀b o u,H b=aa (.frz o u)->H' b=aa (.frz o u)
 tbls:∀b q,H b=aa (.tbl q)->H' b=aa (.tbl q)
section
variable{fs d ex f:List ac}{H g j:Hp}{h c i h':aI}{a x e:ac}{o:HO}
theorem Un.any(u:Un fs ex H g h c){b:ac}{l:Obj}(q:h.get? b=aa l)(n:H b=af)(m:b∉ex):∃r,c.get? b=aa {l with slots:=r}:=by
 by_cases p:b∈fs
 .exact u.slot b l q n p m
 .exact⟨l.slots,u.keep b l q n p m⟩
theorem Un.kept(k:∀b u,h.get? b=aa u->h'.get? b=aa u):Un fs ex H H h h' :=⟨λb l q _ _ _=>k b l q,λb l q _ _ _=>⟨l.slots,k b l q⟩,λ_ _ _ n _=>n,λb l q _=>⟨l,k b l q⟩,λ_ _ q=>q,λ_ _ _ q=>q,λ_ _ q=>q⟩
theorem Un.refl:Un fs ex H H h h:=Un.kept λ_ _ q=>q
theorem Un.laid(k:∀b u,h.get? b=aa u->h'.get? b=aa u)(m:h.objs.size<=a)(l:H a=af):Un fs ex H (upd H a o) h h' where
 keep:=λb u q _ _ _=>k b u q
 slot:=λb u q _ _ _=>⟨u.slots,k b u q⟩
 free:=λb u q n _=>by rw[bo (dm (fU (bK q) m))];exact n
 there:=λb u q _=>⟨u,k b u q⟩
 tups:=λb xs q=>by rw[bo (mn q l)];exact q
 frzs:=λb u xs q=>by rw[bo (mn q l)];exact q
 tbls:=λb p q=>by rw[bo (mn q l)];exact q
theorem Un.write(l:tj (H x))(A:e=x\/H e=aa (.own x))(k:∀b u,b≠e->h.get? b=aa u->h'.get? b=aa u)(w:∃u,h'.get? e=aa u):Un fs ex H (upd H x o) h h':=by
 have s:∀b,H b=af->b≠x:=λb n z=>by subst z;rw[n]at l;exact l
 have v:∀b,H b=af->b≠e:=λb n z=>by
  subst z;rcases A with r|r
  .exact s b n r
  .rw[n]at r;cases r
 have m:∀b u,H b=aa u->¬tj (aa u)->b≠x:=λb u q y z=>by subst z;rw[q]at l;exact y l
 refine⟨λb u q n _ _=>k b u (v b n) q,λb u q n _ _=>⟨u.slots,k b u (v b n) q⟩,λb u q n _=>by rw[bo (s b n)];exact n,λb u q _=>?_,
  λb xs q=>by rw[bo (m b _ q λz=>z)];exact q,λb u xs q=>by rw[bo (m b _ q λz=>z)];exact q,λb B q=>by rw[bo (m b _ q λz=>z)];exact q⟩
 by_cases p:b=e
 .subst p;exact w
 .exact⟨u,k b u p q⟩
end
def xj(h:aI)(H:Hp):List ac:=(bX h.objs.size).filter λa=>(H a).isSome
def mz(h:aI)(H:Hp):aI:=PySem.W.hideAll h (xj h H)
theorem Hy(h:aI)(H:Hp):(mz h H).objs.size=h.objs.size:=PySem.W.hideAll_size _ _
theorem MA{h:aI}{H:Hp}{b:ac}{o:Obj}(e:h.get? b=aa o)(n:H b=af):(mz h H).get? b=aa o :=PySem.W.hideAll_get _ e λa=>by have q:(H b).isSome=ah:=(gU.mp a).2;rw[n]at q;simp at q
theorem RK{h:aI}{H:Hp}{b:ac}{o:Obj}(e:(mz h H).get? b=aa o):h.get? b=aa o/\H b=af:=by
 have a:h.get? b=aa o:=PySem.W.of_hideAll (xj h H) e;refine⟨a,?_⟩;cases q:H b with
 |none=>rfl
 |some x=>
  have c:b∈xj h H:=gU.mpr ⟨mY.mpr (bK a),by simp[q]⟩;have z:(mz h H).get? b=af:=PySem.W.hideAll_none (xj h H) c;rw[z]at e;cases e
def OB(g h:aI)(L:ac):List (ac×Obj):=(bX h.objs.size).filterMap λa=>if a=L\/(g.get? a).isSome=ah then af else(h.get? a).map λo=>(a,o)
def rest(g h:aI)(L d:ac):List (ac×Obj):=(OB g h L).filter λp=>decide (p.1≠d)
structure Mod(K:au)(mg:Str->Option ai)(base:aI):Prop where
 kin:K.In base
 glob:base.Ns b7 mg
 blt:∃mb,base.Ns pA mb/\∀x:Str,x≠"__name__"->mb x=dZ x
 nolimit:base.NoLimit
 bm:∃bm ob,mg "__builtins__"=aa (.ref bm)/\bm≠pA/\base.get? bm=aa ob/\ob.cls=.type "module"/\ob.dict=aa pA/\ob.data=.plain
set_option genInjectivity false in
structure Cx where
 prog:a_
 w:aU
 K:au
 mg:Str->Option ai
 base:aI
 A:a4
 N:List Str
 s₀:ao
 H₀:Hp
 env:Env
 outer:List Env
 stack:List Env
 ex:List ac
 fn:Str->Bool
 calm:Bool
 pn:List (ac×Obj)
 xe:ai->ao->Prop
def fP(l:List Env):List ac:=l.filterMap (·.frame)
abbrev Cx.fs(X:Cx):List ac:=fP X.outer
def c6(a:eI)(x:Str):Prop:=a.names.lookup x=aa .local\/a.names.lookup x=aa .cell\/a.names.lookup x=aa .free
def Loc(a:eI)(x:Str):Prop:=a.names.lookup x=aa .local\/a.names.lookup x=aa .cell
def Look(a:Env)(h:aI)(m:Str->Option ai)(x:Str)(u:ai):Prop :=(a.kindOf x=aa .local/\m x=aa u)\/((a.kindOf x=aa .cell\/a.kindOf x=aa .free)/\∃c,a.cells.lookup x=aa c/\h.IsCell c (aa u))
def Be:List Str:=["least_ending"]
def vW(K:au)(H:Hp):Prop:=∀x∈Be,∀c P,pB K x=aa (c,P)->H P=aa (.tbl (x++".<locals>.<lambda>"))
set_option genInjectivity false in
structure Cx.Ok(X:Cx):Prop where
 mod:Mod X.K X.mg X.base
 kind:X.env.scope.kind=.function
 glob:X.env.globals=b7
 blt:X.env.builtins=pA
 above:X.s₀.heap.objs.size<=X.env.locals
 inj:∀x y c,X.env.cells.lookup x=aa c->X.env.cells.lookup y=aa c->x=y
 has:∀x,(X.env.kindOf x=aa .cell\/X.env.kindOf x=aa .free)->∃c,X.env.cells.lookup x=aa c
 cab:∀x c,X.fn x=ah->X.env.cells.lookup x=aa c->X.s₀.heap.objs.size<=c
 hd:X.calm=ah->X.A.handled=af
 frames:X.A.frames=aa X.stack
 stk:X.stack=X.outer\/(X.stack=X.env::X.outer/\X.env.frame=aa X.env.locals)
 exf:∀b∈X.ex,b≠X.env.locals/\∀x c,X.env.cells.lookup x=aa c->c≠b
 bs:∀b o,X.base.get? b=aa o->X.s₀.heap.get? b=aa o/\X.H₀ b=af
 bsz:X.base.objs.size<=X.s₀.heap.objs.size
 noex:∀b o,X.base.get? b=aa o->b∉X.ex
 exfs:∀b∈X.ex,b∉X.fs
 funs:X.s₀.heap.FunFrames X.base X.outer
 frf:∀b∈X.fs,X.H₀ b=af
 tab:vW X.K X.H₀
structure Inv(X:Cx)(ag:List (ac×Obj))(σ:List (Option V))(H:Hp)(s:ao):Prop where
 ok:X.Ok
 os:s.os=X.s₀.os
 bare:mZ s.gens
 base:Un X.fs X.ex X.H₀ H X.s₀.heap s.heap
 loc:∃m,s.heap.Ns X.env.locals m/\∀(i:Nat) (x:Str) (v:V),X.N[i]?=aa x->σ[i]?=aa (aa v)->c6 X.env.scope x->∃u,RelV v u/\Look X.env s.heap m x u
 cell:∀x c,X.env.cells.lookup x=aa c->∃v,s.heap.IsCell c v
 free:H X.env.locals=af
 freeC:∀x c,X.env.cells.lookup x=aa c->H c=af
 pin:∀p∈X.pn++ag,s.heap.get? p.1=aa p.2/\H p.1=af/\p.1≠X.env.locals/\p.1∉X.fs/\∀v,p.2.data≠.cell v
 hok:dw X.prog X.w H s.heap
 len:σ.length=X.N.length
section
variable{X:Cx}{f:List (ac×Obj)}{σ:List (Option V)}{H g:Hp}{s:ao}{h':aI}
theorem Cx.Ok.nofr(ok:X.Ok){b:ac}{o:Obj}(e:X.base.get? b=aa o):b∉X.fs:=λa=>by
 have:=(ok.funs.mem a).1;rw[e]at this;cases this
theorem Inv.bs(I:Inv X f σ H s):∀b o,X.base.get? b=aa o->s.heap.get? b=aa o/\H b=af:=λb o e=>⟨I.base.keep b o (I.ok.bs b o e).1 (I.ok.bs b o e).2 (I.ok.nofr e) (I.ok.noex b o e),I.base.free b o (I.ok.bs b o e).1 (I.ok.bs b o e).2 (I.ok.noex b o e)⟩
theorem Inv.bk(I:Inv X f σ H s):∀b o,X.base.get? b=aa o->s.heap.get? b=aa o:=λb o e=>(I.bs b o e).1
theorem Inv.mod(I:Inv X f σ H s):Mod X.K X.mg X.base:=I.ok.mod
theorem Inv.kIn(I:Inv X f σ H s):X.K.In s.heap:=I.ok.mod.kin.keeps I.bk
theorem Inv.lt(I:Inv X f σ H s):X.env.locals<s.heap.objs.size:=let ⟨_,hn,_⟩:=I.loc;hn.lt
theorem Inv.sz(I:Inv X f σ H s):X.s₀.heap.objs.size<=s.heap.objs.size:=d3 I.ok.above (pC I.lt)
theorem Inv.nofs(I:Inv X f σ H s){a:ac}(h:s.heap.objs.size<=a):a∉X.fs:=λc=>by obtain⟨_,o,b,_⟩:=I.ok.funs.mem c;exact absurd (fU (bK b) (d3 I.sz h)) (eX _)
theorem Inv.cne(I:Inv X f σ H s):∀x c,X.env.cells.lookup x=aa c->c≠X.env.locals:=λx c e z=>by
 obtain⟨v,o,a,b⟩:=I.cell x c e;obtain⟨m,⟨i,j,l,h,d,_⟩,_⟩:=I.loc;rw[z,h]at a;cases a;rw[d]at b;cases b
theorem Inv.tab(I:Inv X f σ H s):vW X.K H:=λx a c P h=>I.base.tbls P _ (I.ok.tab x a c P h)
theorem Inv.funs(I:Inv X f σ H s):s.heap.FunFrames X.base X.outer:=by
 have all:∀(l:List Env),(∀b∈fP l,b∈X.fs)->X.s₀.heap.FunFrames X.base l->s.heap.FunFrames X.base l:=by
  intro l
  induction l with
  |nil=>intro _ _;trivial
  |cons v r i=>intro h p;obtain⟨q,⟨L,o,a,n,m,u⟩,j⟩:=p;have d:L∈X.fs:=h L (by unfold fP;rw[uB,a];exact m8);obtain⟨w,e⟩:=I.base.slot L o m (I.ok.frf L d) d λz=>I.ok.exfs L z d;exact⟨q,⟨L,_,a,n,e,u⟩,i (λb c=>h b (by unfold fP;rw[uB,a];exact jn _ c)) j⟩
 exact all X.outer (λ_ c=>c) I.ok.funs
theorem Inv.stack(I:Inv X f σ H s):s.heap.FunFrames X.base X.stack:=by
 rcases I.ok.stk with e|⟨e,b⟩
 .rw[e];exact I.funs
 .rw[e];obtain⟨m,a,_⟩:=I.loc;refine .cons (by rw[I.ok.kind];decide) b a ?_ I.funs;exact Bz (d3 I.ok.bsz I.ok.above)
theorem Inv.stkSub(I:Inv X f σ H s):∀b∈fP X.stack,b∈X.env.locals::X.fs:=λb a=>by
 rcases I.ok.stk with e|⟨e,c⟩
 .rw[e]at a;exact jn _ a
 .rw[e]at a;unfold fP at a;rw[uB,c]at a;exact a
theorem Inv.stkFree(I:Inv X f σ H s):∀b∈fP X.stack,H b=af:=λb a=>by
 rcases b8.mp (I.stkSub b a)with e|a
 .rw[e];exact I.free
 .obtain⟨_,o,c,_⟩:=I.ok.funs.mem a;exact I.base.free b o c (I.ok.frf b a) λz=>I.ok.exfs b z a
theorem Inv.step{g':Array GenState}{t':Nat}{d':Drawn}{ch:List ac}(I:Inv X f σ H s)(L:∀b∈ch,(b∈X.ex\/X.s₀.heap.objs.size<=b)/\b≠X.env.locals/\(∀x c,X.env.cells.lookup x=aa c->c≠b)/\∀p∈X.pn++f,p.1≠b)(j:∀b o,b≠X.env.locals->b∉X.fs->b∉ch->s.heap.get? b=aa o->H b=af->h'.get? b=aa o)(A:∀b o,b≠X.env.locals->b∈X.fs->b∉ch->s.heap.get? b=aa o->H b=af->∃O,h'.get? b=aa {o with slots:=O}) (free:∀b o,b∉ch->s.heap.get? b=aa o->H b=af->g b=af)(B:∀b o,b∉ch->s.heap.get? b=aa o->∃J,h'.get? b=aa J)(F:∀b xs,H b=aa (.tup xs)->g b=aa (.tup xs)) (M:∀b o u,H b=aa (.frz o u)->g b=aa (.frz o u)) (G:∀b q,H b=aa (.tbl q)->g b=aa (.tbl q))(ns:∀m,s.heap.Ns X.env.locals m->h'.Ns X.env.locals m) (P:dw X.prog X.w g h') (hg:mZ g'):Inv X f σ g {s with heap:=h',gens:=g',drawn:=d',toks:=t'}:=by
 have K:∀b o,X.s₀.heap.get? b=aa o->b≠X.env.locals:=λb o e=>dm (fU (bK e) I.ok.above);have y:∀b o,X.s₀.heap.get? b=aa o->b∉X.ex->b∉ch:=λb o e a C=>by
  rcases(L b C).1 with z|z
  .exact a z
  .exact absurd (fU (bK e) z) (eX _)
 have w:∀x c,X.env.cells.lookup x=aa c->∀v,s.heap.IsCell c v->h'.IsCell c v:=λx c e v ⟨o,E,Q⟩=>by
  have h:c∉ch:=λz=>(L c z).2.2.1 x c e rfl;by_cases Y:c∈X.fs
  .obtain⟨O,q⟩:=A c o (I.cne x c e) Y h E (I.freeC x c e);exact⟨_,q,Q⟩
  .exact⟨o,j c o (I.cne x c e) Y h E (I.freeC x c e),Q⟩
 refine⟨I.ok,I.os,hg,⟨λb o e n C a=>?_,λb o e n C a=>?_,λb o e n a=>?_,λb o e a=>?_,λb xs e=>F b xs (I.base.tups b xs e),λb o xs e=>M b o xs (I.base.frzs b o xs e),λb Z e=>?_⟩,?_,λx c e=>?_,?_,λx c e=>?_,λp W=>?_,P,I.len⟩
 .exact j b o (K b o e) C (y b o e a) (I.base.keep b o e n C a) (I.base.free b o e n a)
 .obtain⟨O,D⟩:=I.base.slot b o e n C a;obtain⟨N,S⟩:=A b _ (K b o e) C (y b o e a) D (I.base.free b o e n a);exact⟨N,S⟩
 .obtain⟨J,D⟩:=I.base.there b o e a;exact free b J (y b o e a) D (I.base.free b o e n a)
 .obtain⟨J,D⟩:=I.base.there b o e a;exact B b J (y b o e a) D
 .exact G b _ (I.base.tbls b Z e)
 .obtain⟨m,hn,hl⟩:=I.loc;refine⟨m,ns m hn,λi x v D S e3=>?_⟩;obtain⟨u,r,l⟩:=hl i x v D S e3;refine⟨u,r,?_⟩;rcases l with l|⟨k,c,e,z⟩
  .exact .inl l
  .exact .inr ⟨k,c,e,w x c e _ z⟩
 .obtain⟨v,z⟩:=I.cell x c e;exact⟨v,w x c e v z⟩
 .obtain⟨m,⟨o,_,_,E,_⟩,_⟩:=I.loc;exact free _ o (λz=>(L _ z).2.1 rfl) E I.free
 .obtain⟨v,o,E,Q⟩:=I.cell x c e;exact free c o (λz=>(L c z).2.2.1 x c e rfl) E (I.freeC x c e)
 .obtain⟨e,n,ne,T,d⟩:=I.pin p W;have h:p.1∉ch:=λz=>(L p.1 z).2.2.2 p W rfl;exact⟨j p.1 p.2 ne T h e n,free p.1 p.2 h e n,ne,T,d⟩
theorem Inv.un{t':Nat}(I:Inv X f σ H s)(u:Un X.fs [] H g s.heap h')(a:dw X.prog X.w g h'):Inv X f σ g {s with heap:=h',toks:=t'}:=by
 obtain⟨m,⟨o,y,A,j,r⟩,_⟩:=id I.loc;obtain⟨v,q⟩:=u.any j I.free (by simp);exact I.step (g':=s.gens) (d':=s.drawn) (ch:=[]) (λ_ z=>nomatch z) (λb o _ c _ e n=>u.keep b o e n c (by simp)) (λb o _ c _ e n=>u.slot b o e n c (by simp)) (λb o _ e n=>u.free b o e n (by simp)) (λb o _ e=>u.there b o e (by simp)) u.tups u.frzs u.tbls (λx p=>by
  obtain⟨w,d,h,i,l⟩:=p;rw[j]at i;cases i;exact⟨_,d,h,q,l⟩) a I.bare
theorem Inv.call{g':Array GenState}{t':Nat}{d':Drawn}{ch:List ac}(I:Inv X f σ H s)(u:Un (fP X.stack) ch H g s.heap h')(d:dw X.prog X.w g h')(A:mZ g')(l:∀b∈ch,(b∈X.ex\/X.s₀.heap.objs.size<=b)/\b≠X.env.locals/\(∀x c,X.env.cells.lookup x=aa c->c≠b)/\∀p∈X.pn++f,p.1≠b):Inv X f σ g {s with heap:=h',gens:=g',drawn:=d',toks:=t'}:=by
 obtain⟨m,⟨o,F,G,v,r⟩,_⟩:=id I.loc;obtain⟨C,h⟩:=u.any v I.free λz=>(l _ z).2.1 rfl;exact I.step (ch:=ch) l (λb o h B a e n=>u.keep b o e n (λz=>(b8.mp (I.stkSub b z)).elim h B) a) (λb o _ _ a e n=>u.any e n a) (λb o a e n=>u.free b o e n a) (λb o a e=>u.there b o e a) u.tups u.frzs u.tbls (λE y=>by
  obtain⟨D,i,j,q,w⟩:=y;rw[v]at q;cases q;exact⟨_,i,j,h,w⟩) d A
theorem Inv.turned{t':Nat}{it:ac}(I:Inv X f σ H s)(k:∀b o,b≠it->s.heap.get? b=aa o->h'.get? b=aa o)(j:H it=af)(h:it≠X.env.locals)(B:it∈X.ex\/X.s₀.heap.objs.size<=it) (A:∀x c,X.env.cells.lookup x=aa c->c≠it) (y:∀p∈X.pn++f,p.1≠it):Inv X f σ H {s with heap:=h',toks:=t'}:=by
 have d:∀b u,H b=aa u->b≠it:=λb u e z=>by rw[z,j]at e;cases e
 refine I.step (g':=s.gens) (d':=s.drawn) (ch:=[it]) (λb w=>?_) (λb o _ _ a e _=>k b o (λz=>a (by simp[z])) e) (λb o _ _ a e _=>⟨o.slots,k b o (λz=>a (by simp[z])) e⟩) (λ_ _ _ _ n=>n)
  (λb o a e=>⟨o,k b o (λz=>a (by simp[z])) e⟩) (λ_ _ e=>e) (λ_ _ _ e=>e) (λ_ _ e=>e) (λm l=>?_) (λb u e=>?_) I.bare
 .have e:b=it:=by simpa using w
  subst e;exact⟨B,h,A,y⟩
 .obtain⟨o,C,D,i,r⟩:=l;exact⟨o,C,D,k _ o (dQ h) i,r⟩
 .refine(I.hok b u e).stay (λc v a q=>k c v ?_ q) (λ_ q=>q) λ_ _ q=>q;rcases a with z|z
  .rw[z];exact d b u e
  .exact d c _ z
theorem Inv.tok(I:Inv X f σ H s)(t:Nat):Inv X f σ H {s with toks:=t}:=I.un (h':=s.heap) (t':=t) Un.refl I.hok
theorem Inv.kept{t':Nat}(I:Inv X f σ H s)(k:∀b u,s.heap.get? b=aa u->h'.get? b=aa u):Inv X f σ H {s with heap:=h',toks:=t'}:=I.un (Un.kept k) (I.hok.kept k)
theorem Inv.laid{a:ac}{o:HO}{t':Nat}(I:Inv X f σ H s)(k:∀b u,s.heap.get? b=aa u->h'.get? b=aa u)(c:s.heap.objs.size<=a)(new:dq X.prog X.w (upd H a o) h' a o):Inv X f σ (upd H a o) {s with heap:=h',toks:=t'}:=I.un (Un.laid k c (I.hok.fresh c)) (I.hok.laid k c new)
theorem Inv.write{x e:ac}{o:HO}{h:Nat}(I:Inv X f σ H s)(c:tj (H x))(d:e=x\/H e=aa (.own x))(k:∀b u,b≠e->s.heap.get? b=aa u->h'.get? b=aa u)(a:∃u,h'.get? e=aa u)(new:dq X.prog X.w (upd H x o) h' x o):Inv X f σ (upd H x o) {s with heap:=h',toks:=h}:=I.un (Un.write c d k a) (I.hok.write c d k a new)
theorem Inv.pins_of{a:List (ac×Obj)}(I:Inv X f σ H s)(h:∀p∈a,s.heap.get? p.1=aa p.2/\H p.1=af/\p.1≠X.env.locals/\p.1∉X.fs/\∀v,p.2.data≠.cell v):Inv X a σ H s :=⟨I.ok,I.os,I.bare,I.base,I.loc,I.cell,I.free,I.freeC,λp b=>(kT.mp b).elim (λz=>I.pin p (List.mem_append_left _ z)) (h p),I.hok,I.len⟩
theorem zf{N:List Str}(c:N.Nodup){i j:Nat}{x:Str}(a:N[i]?=aa x)(b:N[j]?=aa x):i=j:=by obtain⟨m,h⟩:=cF.mp a;obtain⟨l,d⟩:=cF.mp b;exact(List.getElem_inj c).mp (h.trans d.symm)
theorem Ft{M:Model}{A:a4}{E:ai->ao->Prop}{i:Nat}{x:Str}{v:V}{u:ai}{Q:Unit->ao->Prop}(I:Inv X f σ H s)(hN:X.N.Nodup)(S:X.N[i]?=aa x)(D:Loc X.env.scope x)(r:RelV v u)(h:∀s',Inv X f (σ.set i (aa v)) H s'->(∃a,kU a s.heap s'.heap/\(a=X.env.locals\/X.env.cells.lookup x=aa a))->Q () s') (hf:X.fn x=ah\/X.env.scope.names.lookup x=aa .local:=by first|exact .inl rfl|exact .inr rfl|assumption):aw M A (storeName X.env x u) Q E s:=by
 obtain⟨m,hn,hl⟩:=id I.loc;have nz:(X.env.scope.kind == .class||(X.env.scope.kind == .module&&X.env.locals != X.env.globals))=aj:=by rw[I.ok.kind];rfl
 have J:i<σ.length:=by rw[I.len];exact(cF.mp S).1
 have cne:=I.cne;have w:∀{a:ac}{h':aI},(∃o,s.heap.get? a=aa o/\H a=af)->kU a s.heap h'->dw X.prog X.w H h':=λ{a h'} ha l b ob e=>by
  obtain⟨_,_,u3⟩:=ha;refine(I.hok b ob e).stay (λc T C q=>(l.2 c ?_).trans q) (λ_ q=>q) λ_ _ q=>q;rintro rfl;rcases C with rfl|C
  .rw[u3]at e;cases e
  .rw[u3]at C;cases C
 rcases D with G|G
 .refine wpAny_storeName_local G hn (λh' u_ l=>?_) nz;obtain⟨oL,_,_,sq,_⟩:=id hn;refine h _ ⟨I.ok,I.os,I.bare,⟨λb o e n N D=>?_,λb o e n N D=>?_,I.base.free,λb o e D=>?_,I.base.tups,I.base.frzs,I.base.tbls⟩,⟨_,u_,λj y Y B F e3=>?_⟩,λy c e=>?_,I.free,I.freeC,λp hp=>?_,w ⟨oL,sq,I.free⟩ l,by simpa using I.len⟩ ⟨_,l,.inl rfl⟩
  .exact(l.2 b (dm (fU (bK e) I.ok.above))).trans (I.base.keep b o e n N D)
  .obtain⟨sl,B⟩:=I.base.slot b o e n N D;exact⟨sl,(l.2 b (dm (fU (bK e) I.ok.above))).trans B⟩
  .obtain⟨o',B⟩:=I.base.there b o e D;exact⟨o',(l.2 b (dm (fU (bK e) I.ok.above))).trans B⟩
  .by_cases K:j=i
   .subst K;rw[S]at B;cases B;rw[cu J]at F;cases F;exact⟨u,r,.inl ⟨G,by simp⟩⟩
   .rw[cj (dQ K)]at F;obtain⟨Z,r',q⟩:=hl j y Y B F e3;refine⟨Z,r',?_⟩;rcases q with⟨k,e⟩|⟨k,c,e,z⟩
    .refine .inl ⟨k,?_⟩;have:y≠x:=λe=>K (zf hN B (e ▸ S));simp[this,e]
    .exact .inr ⟨k,c,e,z.sameBut l (cne y c e)⟩
  .obtain⟨T,z⟩:=I.cell y c e;exact⟨T,z.sameBut l (cne y c e)⟩
  .obtain⟨e,n,ne,nf,d⟩:=I.pin p hp;exact⟨(l.2 p.1 ne).trans e,n,ne,nf,d⟩
 .have L:X.fn x=ah:=by
   rcases hf with z|z
   .exact z
   .rw[z]at G;cases G
  obtain⟨c,C⟩:=I.ok.has x (.inl G);obtain⟨T,z⟩:=I.cell x c C;refine wpAny_storeName_cell I.ok.kind G C z (λh' i9 l=>?_);obtain⟨oc,P,O⟩:=id z;refine h {s with heap:=h'} ⟨I.ok,I.os,I.bare,⟨λb o e n N D=>?_,λb o e n N D=>?_,I.base.free,λb o e D=>?_,I.base.tups,I.base.frzs,I.base.tbls⟩,⟨m,hn.sameBut l (dQ (cne x c C)),λj y Y B F e3=>?_⟩,λy W e=>?_,I.free,I.freeC,λp hp=>?_,w ⟨oc,P,I.freeC x c C⟩ l,by simpa using I.len⟩ ⟨c,l,.inr C⟩
  .exact(l.2 b (dm (fU (bK e) (I.ok.cab x c L C)))).trans (I.base.keep b o e n N D)
  .obtain⟨sl,B⟩:=I.base.slot b o e n N D;exact⟨sl,(l.2 b (dm (fU (bK e) (I.ok.cab x c L C)))).trans B⟩
  .obtain⟨o',B⟩:=I.base.there b o e D;exact⟨o',(l.2 b (dm (fU (bK e) (I.ok.cab x c L C)))).trans B⟩
  .by_cases K:j=i
   .subst K;rw[S]at B;cases B;rw[cu J]at F;cases F;exact⟨u,r,.inr ⟨.inl G,c,C,i9⟩⟩
   .rw[cj (dQ K)]at F;obtain⟨Z,r',q⟩:=hl j y Y B F e3;refine⟨Z,r',?_⟩;rcases q with q|⟨k,W,e,z'⟩
    .exact .inl q
    .refine .inr ⟨k,W,e,z'.sameBut l ?_⟩;rintro rfl;exact K (zf hN B (I.ok.inj _ _ _ e C ▸ S))
  .by_cases il:W=c
   .subst il;exact⟨_,i9⟩
   .obtain⟨w2,z2⟩:=I.cell y W e;exact⟨w2,z2.sameBut l il⟩
  .obtain⟨e,n,ne,nf,d⟩:=I.pin p hp;refine⟨(l.2 p.1 ?_).trans e,n,ne,nf,d⟩;intro q;rw[q,P]at e;have q':oc=p.2:=fk e;exact d T (by rw[<-q'];exact O)
theorem qQ{M:Model}{A:a4}{E:ai->ao->Prop}{i:Nat}{x:Str}{v:V}{u:ai}{Q:Unit->ao->Prop}(I:Inv X f σ H s)(d:X.N.Nodup)(b:X.N[i]?=aa x)(a:Loc X.env.scope x)(r:RelV v u)(h:∀s',Inv X f (σ.set i (aa v)) H s'->Q () s') (c:X.fn x=ah\/X.env.scope.names.lookup x=aa .local:=by first|exact .inl rfl|exact .inr rfl|assumption):aw M A (storeName X.env x u) Q E s :=Ft I d b a r (λs' j _=>h s' j) c
theorem Inv.call'{s':ao}{ch:List ac}(I:Inv X f σ H s)(i:s'.os=s.os)(u:Un (fP X.stack) ch H g s.heap s'.heap)(a:dw X.prog X.w g s'.heap)(j:mZ s'.gens)(h:∀b∈ch,(b∈X.ex\/X.s₀.heap.objs.size<=b)/\b≠X.env.locals/\(∀x c,X.env.cells.lookup x=aa c->c≠b)/\∀p∈X.pn++f,p.1≠b):Inv X f σ g s':=by obtain⟨h',g',d',t',d⟩:=s';have e:d=s.os:=i;subst e;exact I.call (g':=g') (t':=t') (d':=d') u a j h
end
abbrev XK:=ai->Option ac->Hp->Prop
abbrev St:=List (Option V)
abbrev VK:=V->Hp->Prop
abbrev TE:=St->Hp->VK->Prop
abbrev TT:=St->Hp->(Bool->Hp->Prop)->Prop
abbrev TA:=St->Hp->(List V->Hp->Prop)->Prop
structure kC where
 nx:St->Hp->Prop
 rt:VK
 bk:St->Hp->Prop:=λ_ _=>False
 ct:St->Hp->Prop:=λ_ _=>False
abbrev TS:=kC->St->Hp->Prop
def EP(X:Cx)(d:List (ac×Obj))(b:St)(Q:VK)(u:ai)(c:ao):Prop:=∃v a,Inv X d b a c/\RelV v u/\Q v a
def TP(X:Cx)(f:List (ac×Obj))(c:St)(Q:Bool->Hp->Prop)(b:Bool)(d:ao):Prop:=∃a,Inv X f c a d/\Q b a
def AP(X:Cx)(g:List (ac×Obj))(c:St)(Q:List V->Hp->Prop)(d:List ai)(f:ao):Prop:=∃a b,Inv X g c b f/\bD a d/\Q a b
def SP(X:Cx)(c:List (ac×Obj))(D:kC)(f:Flow)(s':ao):Prop :=
 match f with
 |.next=>∃a b,Inv X c a b s'/\D.nx a b
 |.brk=>∃a b,Inv X c a b s'/\D.bk a b
 |.cont=>∃a b,Inv X c a b s'/\D.ct a b
 |.ret u=>∃v a b,Inv X c a b s'/\RelV v u/\D.rt v b
def PE(X:Cx)(e:aD)(t:TE):Prop :=
 ∀(b:List (ac×Obj)) (s:ao) (a:St) (H:Hp) (Q:VK),Inv X b a H s->t a H Q->aw (aE X.prog X.w) X.A (aK e X.env) (EP X b a Q) X.xe s
def PT(X:Cx)(e:aD)(t:TT):Prop :=
 ∀(b:List (ac×Obj)) (s:ao) (a:St) (H:Hp) (Q:Bool->Hp->Prop),Inv X b a H s->t a H Q->aw (aE X.prog X.w) X.A (m9 e X.env (aK e X.env)) (TP X b a Q) X.xe s
def PW(X:Cx)(e:aD)(t:TT):Prop :=
 ∀(whole:Sem ai) (b:List (ac×Obj)) (s:ao) (a:St) (H:Hp) (Q:Bool->Hp->Prop),Inv X b a H s->t a H Q->aw (aE X.prog X.w) X.A (m9 e X.env whole) (TP X b a Q) X.xe s
def PA(X:Cx)(d:List aD)(t:TA):Prop :=
 ∀(b:Pos) (c:List (ac×Obj)) (s:ao) (a:St) (H:Hp) (Q:List V->Hp->Prop),Inv X c a H s->t a H Q->aw (aE X.prog X.w) X.A (spliced (b9 b (aN d X.env))) (AP X c a Q) X.xe s
def PS(X:Cx)(c:aS)(t:TS):Prop :=
 ∀(b:List (ac×Obj)) (s:ao) (a:St) (H:Hp) (D:kC),Inv X b a H s->t D a H->aw (aE X.prog X.w) X.A (exec c X.env) (SP X b D) X.xe s
def kN(X:Cx)(c:List aS)(t:TS):Prop :=
 ∀(b:List (ac×Obj)) (s:ao) (a:St) (H:Hp) (D:kC),Inv X b a H s->t D a H->aw (aE X.prog X.w) X.A (execs c X.env) (SP X b D) X.xe s
theorem aW{b:Type}{t:Sem b}{Q c:b->ao->Prop}{M:Model}{A:a4}{E:ai->ao->Prop}{s:ao}(h:aw M A t Q E s)(d:∀a s,Q a s->c a s):aw M A t c E s:=d4 h d λ_ _ x=>x
section
variable{X:Cx}
def FO(i:Nat):TE:=λa H Q=>∃v,a[i]?=aa (aa v)/\Q v H
def tC(v:V):TE:=λ_ H Q=>Q v H
theorem dG{i:Nat}{x:Str}{pos:Pos}(n:X.N[i]?=aa x)(f:c6 X.env.scope x)(d:(x==("__debug__":Str))=aj:=by decide)(o:(x==("__classdict__":Str))=aj:=by decide):PE X (.Name x pos) (FO i):=by
 intro p s σ H Q I h;obtain⟨v,e,h⟩:=h;obtain⟨m,g,j⟩:=I.loc;obtain⟨u,r,l⟩:=j i x v n e f;have b:EP X p σ Q u s:=⟨v,H,I,r,h⟩
 rcases l with⟨a,hm⟩|⟨a,c,hc,yE⟩
 .exact wpAny_Name (wpAny_loadName_local I.ok.kind a g hm b) d
 .rcases a with a|a
  .exact wpAny_Name (wpAny_loadName_cell I.ok.kind a hc yE b) d
  .exact wpAny_Name (wpAny_loadName_free I.ok.kind a hc yE b o) d
theorem Q2{i j pos}:PE X (.Constant (.int i) j pos) (tC (.int i)):=λ_ _ _ H _ I h=>wpAny_Constant_int ⟨.int i,H,I.tok _,⟨_,rfl⟩,h⟩
theorem N7{b j pos}:PE X (.Constant (.bool b) j pos) (tC (.bl b)):=λ_ _ _ H _ I h=>Constant_bool ⟨.bl b,H,I,rfl,h⟩
theorem Op{j pos}:PE X (.Constant .none j pos) (tC .non):=λ_ _ _ H _ I h=>Constant_none ⟨.non,H,I,rfl,h⟩
theorem MU{x j pos}:PE X (.Constant (.str x) j pos) (tC (.str x)):=λ_ _ _ H _ I h=>Calls.Constant_str ⟨.str x,H,I.tok _,⟨_,rfl⟩,h⟩
def Gl(X:Cx)(x:Str):Prop:=X.env.kindOf x=aa .globalImplicit
theorem rH{E:ai->ao->Prop}{g:List (ac×Obj)}{s:ao}{b:St}{H:Hp}{x:Str}{u:ai}{a:Pos}{Q:ai->ao->Prop}(I:Inv X g b H s)(d:Gl X x)(c:X.mg x=aa u)(h:Q u s)(f:(x==("__debug__":Str))=aj:=by decide):aw (aE X.prog X.w) X.A (aK (.Name x a) X.env) Q E s :=Calls.Name_function_global I.ok.kind d (Calls.loadGlobal_global (by rw[I.ok.glob];exact I.mod.glob.keeps I.bk) c h) f
theorem xJ{E:ai->ao->Prop}{m:List (ac×Obj)}{s:ao}{b:St}{H:Hp}{x:Str}{u:ai}{a:Pos}{Q:ai->ao->Prop}(I:Inv X m b H s)(g:Gl X x)(f:X.mg x=af)(c:dZ x=aa u)(h:Q u s)(d:x≠"__name__":=by decide) (i:(x==("__debug__":Str))=aj:=by decide):aw (aE X.prog X.w) X.A (aK (.Name x a) X.env) Q E s:=by obtain⟨n,l,j⟩:=I.mod.blt;exact Calls.Name_function_global I.ok.kind g (Calls.loadGlobal_builtin (by rw[I.ok.glob];exact I.mod.glob.keeps I.bk) f (by rw[I.ok.blt];exact l.keeps I.bk) ((j x d).trans c) h) i
theorem Au{x:Str}{v:V}{u:ai}{a:Pos}(c:Gl X x)(b:X.mg x=aa u)(r:RelV v u)(d:(x==("__debug__":Str))=aj:=by decide):PE X (.Name x a) (tC v) :=λ_ _ _ H _ I h=>rH I c b ⟨v,H,I,r,h⟩ d
theorem Mb{x:Str}{v:V}{u:ai}{a:Pos}(f:Gl X x)(d:X.mg x=af)(b:dZ x=aa u)(r:RelV v u)(c:x≠"__name__":=by decide)(g:(x==("__debug__":Str))=aj:=by decide):PE X (.Name x a) (tC v) :=λ_ _ _ H _ I h=>xJ I f d b ⟨v,H,I,r,h⟩ c g
variable{a b:aD}{f o:TE}{pos:Pos}
def PC(X:Cx)(i:CmpOp)(a b:aD)(t:TE):Prop :=
 ∀(h:List (ac×Obj)) (s:ao) (g:St) (H:Hp) (Q:VK),Inv X h g H s->t g H Q ->
  aw (aE X.prog X.w) X.A (aK a X.env) (λv d=>aw (aE X.prog X.w) X.A (aK b X.env) (λu c=>aw (aE X.prog X.w) X.A (d7 i v u) (EP X h g Q) X.xe c) X.xe d) X.xe s
theorem Ra(b:aD){c:CmpOp}(h:c≠.In)(d:c≠.NotIn):pD c b=aj:=by
 have i:(c == CmpOp.In)=aj:=by cases c <;> first|rfl|exact absurd rfl h
 have g:(c == CmpOp.NotIn)=aj:=by cases c <;> first|rfl|exact absurd rfl d
 cases b <;> simp[pD,i,g]
def tB(t:TE):TT:=λd H Q=>t d H λx g=>∃c,x=.bl c/\Q c g
theorem Qc{g:CmpOp}{t:TE}(h:PC X g a b t)(i:pD g b=aj:=by first|exact Ra _ (by decide) (by decide)|rfl):PT X (.Compare a [g] [b] pos) (tB t):=by
 intro r s j H Q I n;refine wpAny_isTrue_Compare1 (aW (h r s j H _ I n) λv B i=>aW i λu A p=>aW p λc z ⟨x,y,w,l,m⟩=>?_) i;obtain⟨d,rfl,q⟩:=m;cases l;exact oa ⟨y,w,q⟩
theorem Pt{e:aD}{t:TE}(h:PE X e t)(l:∀whole,m9 e X.env whole=(do let v <-whole;standAt e.pos;pE [v] (truthy v)):=by intro _;rfl):PT X e (tB t):=by
 intro m s c H Q I j;refine isTrue_plain (aW (h m s c H _ I j) λv r ⟨x,p,n,g,i⟩=>?_) (l _);obtain⟨d,rfl,q⟩:=i;cases g;exact oa ⟨p,n,q⟩
variable{g n:TT}{rest:List aD}
def HB(t u:TT):TT:=λd H Q=>t d H λc h=>if c=ah then u d h Q else Q aj h
def ID(t u:TT):TT:=λd H Q=>t d H λc h=>if c=ah then Q ah h else u d h Q
def QK(t:TT):TT:=λd H Q=>t d H λc h=>Q (!c) h
theorem N6(i:PT X a g):PW X (.BoolOp .And [a] pos) g:=by
 intro l j s d H Q I h;refine isTrue_and (aW (i j s d H Q I h) λc m e=>?_);cases c with
 |true=>exact isTrue_and_nil e
 |false=>exact e
theorem Mp(i:PT X a g):PW X (.BoolOp .Or [a] pos) g:=by
 intro l j s d H Q I h;refine isTrue_or (aW (i j s d H Q I h) λc m e=>?_);cases c with
 |false=>exact isTrue_or_nil e
 |true=>exact e
theorem Mc(u:PT X a g)(r:PW X (.BoolOp .And (b::rest) pos) n):PW X (.BoolOp .And (a::b::rest) pos) (HB g n):=by
 intro p j s d H Q I h;refine isTrue_and (aW (u j s d H _ I h) λc q ⟨m,l,i⟩=>?_);cases c with
 |true=>exact r p j q d m Q l i
 |false=>exact⟨m,l,i⟩
theorem Oh(u:PT X a g)(r:PW X (.BoolOp .Or (b::rest) pos) n):PW X (.BoolOp .Or (a::b::rest) pos) (ID g n):=by
 intro p j s d H Q I h;refine isTrue_or (aW (u j s d H _ I h) λc q ⟨m,l,i⟩=>?_);cases c with
 |true=>exact⟨m,l,i⟩
 |false=>exact r p j q d m Q l i
theorem JJ(i:PT X a g):PT X (.UnaryOp .Not a pos) (QK g):=by intro j s d H Q I h;exact isTrue_not (i j s d H (λc l=>Q (!c) l) I h)
def JB(f o:TE):TE:=λd H Q=>f d H λx h=>∃c,x=.bl c/\if c=ah then o d h Q else Q (.bl aj) h
def Nl(f:TE):TE:=λd H Q=>f d H λx h=>∃c,x=.bl c/\Q (.bl (!c)) h
theorem K_{op}{t:TE}(h:PE X a t):PE X (.BoolOp op [a] pos) t:=λi s c H Q I d=>BoolOp_one (h i s c H Q I d)
theorem HI(u:PE X a f)(r:PE X (.BoolOp .And (b::rest) pos) o):PE X (.BoolOp .And (a::b::rest) pos) (JB f o):=by
 intro j s i H Q I h;refine BoolOp_and (aW (u j s i H _ I h) λv p ⟨x,m,l,q,d⟩=>?_);obtain⟨c,rfl,d⟩:=d;cases q;refine oa ?_;cases c with
 |true=>exact r j p i m Q l d
 |false=>exact⟨.bl aj,m,l,rfl,d⟩
theorem P6(l:PE X a f):PE X (.UnaryOp .Not a pos) (Nl f):=by
 intro m s i H Q I h;refine UnaryOp_ (aW (l m s i H _ I h) λv r ⟨x,q,p,j,d⟩=>?_);obtain⟨c,rfl,d⟩:=d;cases j;exact not_of (oa ⟨.bl (!c),q,p,rfl,d⟩)
def MG(t:TT)(f o:TE):TE:=λd H Q=>t d H λc h=>if c=ah then f d h Q else o d h Q
theorem Mh{c:aD}(r:PT X c g)(v:PE X a f)(u:PE X b o):PE X (.IfExp c a b pos) (MG g f o):=by
 intro j s i H Q I h;refine wpAny_IfExp (aW (r j s i H _ I h) λd l ⟨q,p,m⟩=>?_);cases d with
 |true=>exact v j l i q Q p m
 |false=>exact u j l i q Q p m
end
def cp(K:au)(H:Hp)(a:ac)(xs:List V):Prop :=
 Rd H a (.lst xs) \/
  ∃(o:Obj) (b:Array ai) (n:Nat),K.lookup a=aa o/\o.cls=.type "list"/\o.dict=af/\o.data=.seq b n/\b.size<=bi/\bD xs b.toList
def dj(K:au)(H:Hp)(a:ac)(xs:List V):Prop :=
 Rd H a (.tup xs) \/
  ∃(o:Obj) (b:Array ai) (n:Nat),K.lookup a=aa o/\o.cls=.type "tuple"/\o.data=.seq b n/\b.size<=bi/\bD xs b.toList
def RN:ai->Option V
 |.none=>aa .non
 |.bool b=>aa (.bl b)
 |.int i _=>aa (.int i)
 |.str x _=>aa (.str x)
 |.bytes b _=>aa (.byt b)
 |.float b _=>aa (.flt b)
 |.ref a=>aa (.ref a)
 |.type n=>aa (.ty n)
 |_=>af
theorem RelV.abs{x:V}{u:ai}(r:RelV x u):RN u=aa x:=by
 cases x with
 |non=>cases r;rfl
 |bl _=>cases r;rfl
 |int _=>obtain⟨t,rfl⟩:=r;rfl
 |str _=>obtain⟨t,rfl⟩:=r;rfl
 |byt _=>obtain⟨t,rfl⟩:=r;rfl
 |flt _=>obtain⟨t,rfl⟩:=r;rfl
 |ref _=>cases r;rfl
 |ty _=>cases r;rfl
theorem RelV.inj{x y:V}{u:ai}(r:RelV x u)(q:RelV y u):x=y:=fk (r.abs.symm.trans q.abs)
theorem bD.inj:∀{xs a:List V}{b:List ai},bD xs b->bD a b->xs=a
 |_,_,_,.nil,.nil=>rfl
 |_,_,_,.cons r t,.cons d c=>by rw[r.inj d,bD.inj t c]
section
variable{X:Cx}{c:List (ac×Obj)}{σ:St}{H:Hp}{s:ao}{a:ac}{xs b:List V}
theorem cp.of{K:au}(h:H a=aa (.lst xs)):cp K H a xs:=.inl (.inl h)
theorem dj.of{K:au}(h:H a=aa (.tup xs)):dj K H a xs:=.inl (.inl h)
theorem Inv.list(I:Inv X c σ H s)(h:cp X.K H a xs):∃its:List ai,bD xs its/\PlainL s.heap a its.toArray/\xs.length<=bi:=by
 rcases h with h|⟨o,its,n,f,i,g,d,j,r⟩
 .obtain⟨z,its,n,r,e⟩:=h.ok I.hok;exact⟨its,r,⟨_,n,e,rfl,rfl,rfl⟩,z⟩
 .refine⟨its.toList,r,⟨o,n,I.kIn a o f,i,g,by simpa using d⟩,?_⟩;have e:=r.length;simp only[x6]at e;lia
theorem Inv.tuple(I:Inv X c σ H s)(h:dj X.K H a xs):∃d:List ai,bD xs d/\IsTup s.heap a d.toArray/\xs.length<=bi:=by
 rcases h with h|⟨o,d,n,g,i,f,j,r⟩
 .obtain⟨z,d,r,p,_⟩:=h.ok I.hok;exact⟨d,r,p,z⟩
 .refine⟨d.toList,r,⟨o,I.kIn a o g,i,n,by simpa using f⟩,?_⟩;have e:=r.length;simp only[x6]at e;lia
theorem Inv.list_inj(I:Inv X c σ H s)(h:cp X.K H a xs)(m:cp X.K H a b):xs=b:=by
 obtain⟨g,r,⟨o,n,e,_,_,d⟩,_⟩:=I.list h;obtain⟨f,l,⟨p,q,i,_,_,j⟩,_⟩:=I.list m;rw[e]at i;cases i;rw[d]at j;injection j with d1 _;have:g=f:=by simpa using congrArg Array.toList d1
 subst this;exact r.inj l
theorem Inv.tuple_inj(I:Inv X c σ H s)(h:dj X.K H a xs)(m:dj X.K H a b):xs=b:=by
 obtain⟨g,r,⟨o,e,_,n,d⟩,_⟩:=I.tuple h;obtain⟨f,l,⟨p,i,_,q,j⟩,_⟩:=I.tuple m;rw[e]at i;cases i;rw[d]at j;injection j with d1 _;have:g=f:=by simpa using congrArg Array.toList d1
 subst this;exact r.inj l
end
abbrev Cx.wish(X:Cx)(E:ai->ao->Prop):Cx:={X with xe:=E}
abbrev Cx.nox(X:Cx):Cx:=X.wish λ_ _=>False
theorem Cx.Ok.wish{X:Cx}(ok:X.Ok)(E:ai->ao->Prop):(X.wish E).Ok :=⟨ok.mod,ok.kind,ok.glob,ok.blt,ok.above,ok.inj,ok.has,ok.cab,ok.hd,ok.frames,ok.stk,ok.exf,ok.bs,ok.bsz,ok.noex,ok.exfs,ok.funs,ok.frf,ok.tab⟩
theorem Cx.Ok.unwish{X:Cx}{E:ai->ao->Prop}(ok:(X.wish E).Ok):X.Ok :=⟨ok.mod,ok.kind,ok.glob,ok.blt,ok.above,ok.inj,ok.has,ok.cab,ok.hd,ok.frames,ok.stk,ok.exf,ok.bs,ok.bsz,ok.noex,ok.exfs,ok.funs,ok.frf,ok.tab⟩
section
variable{X:Cx}{a:List (ac×Obj)}{b:St}{H:Hp}{s:ao}{E:ai->ao->Prop}
theorem Inv.wish(I:Inv X a b H s)(E:ai->ao->Prop):Inv (X.wish E) a b H s:=⟨I.ok.wish E,I.os,I.bare,I.base,I.loc,I.cell,I.free,I.freeC,I.pin,I.hok,I.len⟩
theorem Inv.unwish(I:Inv (X.wish E) a b H s):Inv X a b H s:=⟨I.ok.unwish,I.os,I.bare,I.base,I.loc,I.cell,I.free,I.freeC,I.pin,I.hok,I.len⟩
theorem SP.unwish{D:kC}{f:Flow}{g:ao}(h:SP (X.wish E) a D f g):SP X a D f g:=by
 cases f with
 |next=>obtain⟨c,d,I,q⟩:=h;exact⟨c,d,I.unwish,q⟩
 |brk=>obtain⟨c,d,I,q⟩:=h;exact⟨c,d,I.unwish,q⟩
 |cont=>obtain⟨c,d,I,q⟩:=h;exact⟨c,d,I.unwish,q⟩
 |ret u=>obtain⟨v,c,d,I,r,q⟩:=h;exact⟨v,c,d,I.unwish,r,q⟩
end
section
variable{X:Cx}{j:aS}{rest:List aS}{t u:TS}{e:aD}{i:TE}{g:Pos}
def Lw:TS:=λD a H=>D.nx a H
def JD(t u:TS):TS:=λD a H=>t {D with nx:=u D} a H
theorem Jk:kN X [] Lw:=λ_ _ a H _ I h=>BA ⟨a,H,I,h⟩
theorem yS(m:PS X j t)(l:kN X rest u):kN X (j::rest) (JD t u):=by
 intro b s c H D I h;refine Gx (aW (m b s c H {D with nx:=u D} I h) λf d q=>?_);cases f with
 |next=>obtain⟨a,o,n,q⟩:=q;exact l b d a o D n q
 |ret v=>exact q
 |brk=>exact q
 |cont=>exact q
theorem zq(b:PS X j t):kN X [j] t:=by
 intro c s a H D I h;refine Gx (aW (b c s a H D I h) λf d q=>?_);cases f with
 |next=>exact BA q
 |ret v=>exact q
 |brk=>exact q
 |cont=>exact q
theorem Inv.quiet{b:List (ac×Obj)}{a:St}{H:Hp}{s:ao}(I:Inv X b a H s):interactive X.env=aj:=by simp[interactive,I.ok.kind]
def NJ(i:TE):TS:=λD a H=>i a H λ_ b=>D.nx a b
theorem qJ(d:PE X e i)(c:ii e af g.line X.env=pure aj:=by rfl):PS X (.Expr e g) (NJ i):=by intro f s a H D I h;exact wpAny_Expr_any (aW (d f s a H _ I h) λv n ⟨x,m,l,o,b⟩=>⟨a,m,l,b⟩) I.quiet c
def Nb(i:TE):TS:=λD a H=>i a H D.rt
theorem qo(d:PE X e i):PS X (.Return (aa e) g) (Nb i):=by intro f s a H D I h;exact wpAny_Return_some (aW (d f s a H _ I h) λv n ⟨x,m,l,b,c⟩=>⟨x,a,m,l,b,c⟩)
def PD:TS:=λD _ H=>D.rt .non H
theorem Rj:PS X (.Return af g) PD:=λ_ _ a H _ I h=>wpAny_Return_none ⟨.non,a,H,I,rfl,h⟩
def Q6(c:TT)(t u:TS):TS:=λD a H=>c a H λb d=>if b=ah then t D a d else u D a d
theorem QU{c:aD}{a b:List aS}{m:TT}(r:PT X c m)(w:kN X a t)(v:kN X b u):PS X (.If c a b g) (Q6 m t u):=by
 intro l s f H D I h;refine wpAny_If (aW (r l s f H _ I h) λd n ⟨q,p,o⟩=>?_);cases d with
 |true=>exact w l n f q D p o
 |false=>exact v l n f q D p o
end
abbrev TG:=V->St->Hp->(St->Hp->Prop)->Prop
abbrev o9:=List V->St->Hp->(St->Hp->Prop)->Prop
def PG(X:Cx)(a:aD)(t:TG):Prop :=
 ∀(d:List (ac×Obj)) (s:ao) (c:St) (H:Hp) (v:V) (u:ai) (Q:St->Hp->Prop),Inv X d c H s->RelV v u->t v c H Q ->
  aw (aE X.prog X.w) X.A (assign a X.env u) (λ_ s'=>∃b f,Inv X d b f s'/\Q b f) X.xe s
def wn(X:Cx)(h:List aD)(t:o9):Prop :=
 ∀(f:List (ac×Obj)) (s:ao) (b:St) (H:Hp) (c:List V) (d:List ai) (Q:St->Hp->Prop),Inv X f b H s->bD c d->t c b H Q ->
  aw (aE X.prog X.w) X.A (assignInOrder ((uC h X.env).map (·.2)) d) (λ_ i=>∃a g,Inv X f a g i/\Q a g) X.xe s
section
variable{X:Cx}{pos:Pos}
def CF(i:Nat):TG:=λv a H Q=>Q (a.set i (aa v)) H
theorem n_{i:Nat}{x:Str}(d:X.N.Nodup)(b:X.N[i]?=aa x)(a:Loc X.env.scope x)(c:X.fn x=ah\/X.env.scope.names.lookup x=aa .local:=by first|exact .inl rfl|exact .inr rfl|assumption):PG X (.Name x pos) (CF i):=by intro j s σ H v u Q I r h;exact wpAny_assign_Name (qQ I d b a r (λg f=>⟨_,H,f,h⟩) c)
def bq:o9:=λb a H Q=>b=[]/\Q a H
def Na(t:TG)(u:o9):o9:=λc b H Q=>∃v r,c=v::r/\t v b H λa d=>u r a d Q
theorem AK:wn X [] bq:=by
 intro c s σ H a b Q I r h;obtain⟨e,h⟩:=h;subst e;cases r;exact assignInOrder_nil ⟨σ,H,I,h⟩
theorem rE{e:aD}{a:List aD}{t:TG}{u:o9}(l:PG X e t)(j:wn X a u)(i:(uC (e::a) X.env).map (·.2)=assign e X.env::(uC a X.env).map (·.2):=by rfl):wn X (e::a) (Na t u):=by
 intro c s σ H p w Q I r h;obtain⟨v,q,m,h⟩:=h;subst m;cases r with
 |cons r f=>rw[i];refine Gy (aW (l c s σ H _ _ _ I r h) λ_ d ⟨b,o,n,g⟩=>?_);exact j c d b o _ _ Q n f g
def O5(K:au)(n:Nat)(t:o9):TG:=λv b H Q=>∃a xs,v=.ref a/\dj K H a xs/\xs.length=n/\t xs b H Q
theorem AM{c:List aD}{k:Nat}{t:o9}{n:Nat}(w:X.calm=ah)(h:wn X c t)(p:(uC c X.env).length=n:=by rfl) (y:(uC c X.env).findIdx? (·.1)=af:=by rfl):PG X (.Tuple c k pos) (O5 X.K n t):=by
 intro g s σ H v u Q I r d;obtain⟨a,xs,z,m,q,d⟩:=d;subst z;cases r;obtain⟨i,f,l,B⟩:=I.tuple m;refine assign_Tuple_tuple (I.ok.hd w) l (by simp[p,<-q,f.length]) y λx j=>?_;have A:Inv X g σ H {s with heap:=x}:=I.kept (t':=s.toks) λb o e=>j b o (dm (bK e)) e;exact h g _ σ H xs _ Q A (by simpa using f) d
def C9(b:TE)(g:TG):TS:=λD a H=>b a H λx c=>g x a c D.nx
theorem Me{a e:aD}{c:TE}{g:TG}(o:PE X e c)(n:PG X a g)(m:BB [a] e pos.line X.env=pure aj:=by rfl)(l:BC [a] e X.env=pure af:=by rfl)(p:(uC [a] X.env).map (·.2)=[assign a X.env]:=by rfl):PS X (.Assign [a] e pos) (C9 c g):=by intro d s b H D I h;refine wpAny_Assign_stores (aW (o d s b H _ I h) λv f ⟨x,u,r,i,j⟩=>?_) m l;rw[p];exact aW (n d f b u x v _ r i j) λ_ w q=>q
theorem FV{i:Nat}{x:Str}{e:aD}{b:TE}{a:Pos}(o:X.N.Nodup)(l:X.N[i]?=aa x)(g:Loc X.env.scope x)(n:PE X e b)(j:ii e (aa (.Name x a)) pos.line X.env=pure aj:=by rfl)(m:X.fn x=ah\/X.env.scope.names.lookup x=aa .local:=by first|exact .inl rfl|exact .inr rfl|assumption):PS X (.Assign [.Name x a] e pos) (C9 b (CF i)):=by intro p s c H D I h;refine wpAny_Assign_Name (aW (n p s c H _ I h) λv z ⟨y,u,r,d,f⟩=>?_) j;exact qQ r o l g d (λw q=>⟨_,u,q,f⟩) m
def JG(i j:Nat)(c:TA):TS:=λD a H=>c a H λb d=>∃v w,b=[v,w]/\D.nx ((a.set i (aa v)).set j (aa w)) d
theorem MK{i j:Nat}{x y:Str}{a b:aD}{u:TA}{l g m:Pos}{kt k2 pt2}(T:X.calm=ah)(B:X.N.Nodup)(S:X.N[i]?=aa x)(Q:X.N[j]?=aa y)(n:i≠j)(A:X.env.scope.names.lookup x=aa .local) (z:X.env.scope.names.lookup y=aa .local) (W:PA X [a,b] u)(O:BC [.Tuple [.Name x l,.Name y g] kt m] (.Tuple [a,b] k2 pt2) X.env=pure (aa [x,y]))(P:BB [.Tuple [.Name x l,.Name y g] kt m] (.Tuple [a,b] k2 pt2) pos.line X.env=pure aj:=by rfl):PS X (.Assign [.Tuple [.Name x l,.Name y g] kt m] (.Tuple [a,b] k2 pt2) pos) (JG i j u):=by
 intro C s r H D I h;rw[exec_Assign_arm];refine ax (wpAny_standAt ?_);rw[P];refine ax (aX ?_);rw[if_neg (by decide)];refine ax (Tuple_ (aW (W _ C s r H _ I h) λJ c ⟨vs,F,I1,L,f⟩=>?_));obtain⟨v,w,Y,f⟩:=f;subst Y;obtain⟨u1,u2,rfl,K,d⟩:∃u1 u2,J=[u1,u2]/\RelV v u1/\RelV w u2:=by
  cases L with
  |cons p q=>
   cases q with
   |cons N M=>
    cases M;exact⟨_,_,rfl,p,N⟩
 refine lO ?_ (by show 2<=bi;decide);have I2:Inv X C r F {c with heap:=c.heap.push {cls:=.type "tuple",data:=.seq [u1,u2].toArray}}:=I1.kept (t':=c.toks) λb o e=>bN _ e;rw[O];refine ax (aX ?_);show aw (aE X.prog X.w) X.A (do rule "assign.swapped-stores";let items <-unpackItems (.ref c.heap.objs.size) 2 af;assignInOrder [λv=>bindName X.env y v,λv=>bindName X.env x v] items.reverse;pure Flow.next) _ _ _;refine ax (wpAny_rule (ax (unpackItems_tuple (items:=#[u1,u2]) (I.ok.hd T) (IsTup.new c.heap _) λh' G=>?_)));have I3:=I2.kept (h':=h') (t':=c.toks) λb o e=>G b o (dm (bK e)) e;show aw _ _ (assignInOrder [λv=>bindName X.env y v,λv=>bindName X.env x v] [u2,u1] >>= λ_=>pure Flow.next) _ _ _;refine ax (Gy (wpAny_bindName (qQ I3 B Q (.inl z) d (λs2 Z=>?_) (.inr z))));refine Gy (wpAny_bindName (qQ Z B S (.inl A) K (λs3 E=>assignInOrder_nil (aX ?_)) (.inr A)));rw[List.set_comm _ _ (dQ n)]at E;exact⟨_,F,E,f⟩
def Ki(c:TT)(i:TS):TS:=λD a H=>∃W:Nat->St->Hp->Prop,(∃m,W m a H)/\∀m a H,W m a H ->
 c a H λb g=>if b=ah then ∃N:St->Hp->Prop,(∀d h,N d h->∃f,f<m/\W f d h)/\i {D with nx:=N,ct:=N,bk:=D.nx} a g else D.nx a g
theorem Qu{c:aD}{g:List aS}{y:TT}{z:TS}(A:uD (aE X.prog X.w) X.A X.env X.xe)(S:PT X c y)(T:kN X g z):PS X (.While c g [] pos) (Ki y z):=by
 intro w s J H D I h;obtain⟨W,⟨Q,L⟩,j⟩:=h;refine wpAny_While (codeAny_whileLoop (λn P=>∃i G,Inv X w i G P/\W n i G) ?_ Q ⟨J,H,I,L⟩);rintro n O ⟨d,F,Y,K⟩;refine rP A (aW (S w O d F _ Y (j n d F K)) λb M ⟨E,C,o⟩=>?_);cases b with
 |true=>
  obtain⟨N,B,o⟩:=o;rw[if_pos rfl];refine rP A (aW (T w M d E _ C o) λf Z m=>?_);cases f with
  |next=>obtain⟨a,l,x,q⟩:=m;obtain⟨r,u,p⟩:=B a l q;exact⟨r,u,a,l,x,p⟩
  |cont=>obtain⟨a,l,x,q⟩:=m;obtain⟨r,u,p⟩:=B a l q;exact⟨r,u,a,l,x,p⟩
  |brk=>exact m
  |ret v=>exact m
 |false=>rw[if_neg gh];exact BA ⟨d,E,C,o⟩
end
structure It where
 go:Nat->Hp->Prop
 yld:Nat->Hp->V->Hp->Prop
 stop:Nat->Hp->Prop
def kP(X:Cx)(a:List (ac×Obj))(H:Hp)(b:ac):Prop :=
 H b=af/\b≠X.env.locals/\b∉X.fs/\(b∈X.ex\/X.s₀.heap.objs.size<=b)/\(∀x c,X.env.cells.lookup x=aa c->c≠b)/\∀p∈X.pn++a,p.1≠b
theorem Inv.fpOk{X:Cx}{d:List (ac×Obj)}{σ:St}{H f:Hp}{s:ao}{b:ac}(I:Inv X d σ H s)(a:s.heap.objs.size<=b)(h:f b=af):kP X d f b:=by
 refine⟨h,og (fU I.lt a),I.nofs a,.inr (d3 I.sz a),λx c e z=>?_,λp g z=>?_⟩
 .obtain⟨v,q⟩:=I.cell x c e;exact absurd (fU q.lt (by rw[z];exact a)) (eX _)
 .exact absurd (fU (bK (I.pin p g).1) (by rw[z];exact a)) (eX _)
structure ti(P:a_)(w:aU)(K:au)(tg:aD)(J:It)(fp:List ac)(it:ac)(tn:Nat->aI->Prop):Prop where
 mem:it∈fp
 obj:∀i h,tn i h->∀b∈fp,∃o,h.get? b=aa o/\∀v,o.data≠.cell v
 keep:∀i h h',tn i h->(∀b∈fp,∀o,h.get? b=aa o->h'.get? b=aa o)->tn i h'
 item:∀(X:Cx),X.prog=P->X.w=w->X.K=K->X.calm=ah->∀(i:Nat) (ag:List (ac×Obj)) (s:ao) (σ:St) (H:Hp) (E:ai->ao->Prop),Inv X ag σ H s->(∀b∈fp,kP X ag H b)->tn i s.heap->J.go i H ->
  aw (aE P w) X.A (pyNext (.ref it)) (λr s1=>∃u,r=aa u /\ aw (aE P w) X.A (BD tg (.ref it) u) (λ_ s2=>∃x H',Inv X ag σ H' s2/\RelV x u/\J.yld i H x H'/\tn (i+1) s2.heap/\∀b∈fp,H' b=af) E s1) E s
 done:∀(X:Cx),X.prog=P->X.w=w->X.K=K->X.calm=ah->∀(i:Nat) (ag:List (ac×Obj)) (s:ao) (σ:St) (H:Hp) (E:ai->ao->Prop),Inv X ag σ H s->(∀b∈fp,kP X ag H b)->tn i s.heap->J.stop i H ->
  aw (aE P w) X.A (pyNext (.ref it)) (λr s1=>r=af/\Inv X ag σ H s1) E s
 self:∀(A:a4) (i:Nat) (s:ao) (Q:ai->ao->Prop) (E:ai->ao->Prop),tn i s.heap->Q (.ref it) s->aw (aE P w) A (oh (.ref it)) Q E s
abbrev TI:=St->Hp->(It->Hp->Prop)->Prop
def wd(X:Cx)(i:List (ac×Obj))(j:St)(l:aD)(R:It->Hp->Prop)(a:ai)(f:ao):Prop :=
 ∃(g:ac) (h:List ac) (d:Nat->aI->Prop) (J:It) (c:Hp),a=.ref g/\Inv X i j c f/\ti X.prog X.w X.K l J h g d/\d 0 f.heap/\(∀b∈h,kP X i c b)/\R J c
def PI(X:Cx)(f a:aD)(d:TI):Prop :=
 ∀(c:List (ac×Obj)) (s:ao) (b:St) (H:Hp) (R:It->Hp->Prop),Inv X c b H s->d b H R ->
  aw (aE X.prog X.w) X.A (aK a X.env) (λv s1=>aw (aE X.prog X.w) X.A (oh v) (wd X c b f R) X.xe s1) X.xe s
theorem v7{M:Model}{A:a4}{E:ai->ao->Prop}{s:ao}{c:aD}{d:ac}{u:ai}{o:Obj}{n:String}{b:Array ai}{Q:Unit->ao->Prop}(f:s.heap.get? d=aa o)(j:o.cls=.type n)(i:o.data=.fields b)(g:["enumerate","zip","dict_itemiterator","dict_reverseitemiterator","odict_iterator","itertools.zip_longest","itertools.pairwise"].contains n=aj) (a:Q () s):aw M A (BD c (.ref d) u) Q E s:=by
 unfold BD;cases c <;> first
  |exact aX a
  | (cases u <;> first
    |exact aX a
    | (refine ax (wpAny_load f ?_)
       rw[j,i];show aw M A (if(["enumerate","zip","dict_itemiterator","dict_reverseitemiterator","odict_iterator","itertools.zip_longest","itertools.pairwise"].contains n&&b[0]? == aa (eQ _))=ah then _ else _) Q E s;rw[if_neg (by intro h;rw[g,Bool.false_and]at h;cases h)];exact aX a))
def zr(K:au)(a:ac):It :=⟨λi H=>∃xs x,cp K H a xs/\xs[i]?=aa x,λi H x b=>b=H/\∀xs,cp K H a xs->xs[i]?=aa x,λi H=>∃xs,cp K H a xs/\xs.length<=i⟩
def AC(K:au)(a:ac):It :=⟨λi H=>∃xs x,dj K H a xs/\xs[i]?=aa x,λi H x b=>b=H/\∀xs,dj K H a xs->xs[i]?=aa x,λi H=>∃xs,dj K H a xs/\xs.length<=i⟩
def wX(a:Int)(n:Nat):It:=⟨λi _=>i<n,λi H x b=>b=H/\x=.int (a+i),λi _=>n<=i⟩
theorem EL{P:a_}{w:aU}{K:au}{O:aD}(a g:ac):ti P w K O (zr K a) [g] g (λi h=>h.IsListIter g a i) where
 mem:=by simp
 obj:=λi h f b j=>by
  have e:b=g:=by simpa using j
  subst e;obtain⟨o,e,c,d⟩:=f;exact⟨o,e,λv z=>by rw[d]at z;cases z⟩
 keep:=λi h n f k=>f.at λo e=>k g (by simp) o e
 item:=by intro X C A D M i N s σ H E I m f B;subst C A D;obtain⟨xs,x,l,y⟩:=B;obtain⟨r,q,p,T⟩:=I.list l;obtain⟨u,Y,S⟩:=q.get y;obtain⟨J,G,f2,f3,f4,F⟩:=m g (by simp);refine wpAny_pyNext_list_item f p.isList (x:=u) (by simpa using Y) λn L Q=>?_;have I1:Inv X N σ H {s with heap:=n}:=I.turned (t':=s.toks) (λb o j e=>(Q.2 b j).trans e) J G f3 f4 F;obtain⟨o,e,c,d⟩:=id L;exact⟨u,rfl,v7 (s:={s with heap:=n}) e c d (by decide) ⟨x,H,I1,S,⟨rfl,λys W=>by rw[I.list_inj W l];exact y⟩,L,λb j=>(m b j).1⟩⟩
 done:=by intro X C A D M i N s σ H E I m f B;subst C A D;obtain⟨xs,l,y⟩:=B;obtain⟨r,q,p,T⟩:=I.list l;obtain⟨J,G,f2,f3,f4,F⟩:=m g (by simp);have hl:=q.length;exact wpAny_pyNext_list_end (I.ok.hd M) f p.isList (by simp;lia) λn Z=>⟨rfl,I.turned (t':=s.toks) (λb o j e=>Z b o j e) J G f3 f4 F⟩
 self:=λ_ _ _ _ _ f h=>wpAny_pyIter_listiter f h
theorem Qa{P:a_}{w:aU}{K:au}{Q:aD}(a j:ac):ti P w K Q (AC K a) [j] j (λi h=>h.IsTupleIter j a i) where
 mem:=by simp
 obj:=λi h f b l=>by
  have e:b=j:=by simpa using l
  subst e;obtain⟨o,e,c,d⟩:=f;exact⟨o,e,λv z=>by rw[d]at z;cases z⟩
 keep:=λi h q f k=>f.at λo e=>k j (by simp) o e
 item:=by intro X C A D N i O s L H E I n f B;subst C A D;obtain⟨xs,x,m,y⟩:=B;obtain⟨g,r,p,W⟩:=I.tuple m;obtain⟨u,Z,T⟩:=r.get y;obtain⟨J,G,f2,f3,f4,F⟩:=n j (by simp);refine wpAny_pyNext_tuple_item f (show s.heap.IsTuple a g.toArray from p) (x:=u) (by simpa using Z) λq M S=>?_;have I1:Inv X O L H {s with heap:=q}:=I.turned (t':=s.toks) (λb o l e=>(S.2 b l).trans e) J G f3 f4 F;obtain⟨o,e,c,d⟩:=id M;exact⟨u,rfl,v7 (s:={s with heap:=q}) e c d (by decide) ⟨x,H,I1,T,⟨rfl,λys Y=>by rw[I.tuple_inj Y m];exact y⟩,M,λb l=>(n b l).1⟩⟩
 done:=by intro X C A D N i O s L H E I n f B;subst C A D;obtain⟨xs,m,y⟩:=B;obtain⟨g,r,p,W⟩:=I.tuple m;obtain⟨J,G,f2,f3,f4,F⟩:=n j (by simp);have hl:=r.length;exact wpAny_pyNext_tuple_end (I.ok.hd N) f (show s.heap.IsTuple a g.toArray from p) (by simp;lia) λq eb=>⟨rfl,I.turned (t':=s.toks) (λb o l e=>eb b o l e) J G f3 f4 F⟩
 self:=λ_ _ _ _ _ f h=>wpAny_pyIter_tupleiter f h
theorem LZ{P:a_}{w:aU}{K:au}{G:aD}(c:ac)(f:Int)(n:Nat):ti P w K G (wX f n) [c] c (λi h=>IsRangeIter h c (f+(i:Nat)*1) ((n:Int)-(i:Nat)) 1) where
 mem:=by simp
 obj:=λi h a b d=>by
  have e:b=c:=by simpa using d
  subst e;exact⟨_,a,λv z=>by
   have F:Data.fields _=Data.cell v:=z;cases F⟩
 keep:=λi h j a k=>k c (by simp) _ a
 item:=by intro X q l r p i D s A H E I g a m;subst q l r;obtain⟨y,x,f2,f3,f4,u⟩:=g c (by simp);have W:=Walks.range (prog:=X.prog) (w:=X.w) (I.ok.hd p) c f 1 n;refine W.item i s _ _ m a λv j B L C J=>?_;obtain⟨t,rfl⟩:=L;have N:Inv X D A H {s with heap:=j,toks:=B}:=I.turned (λb o d e=>J b o (by simpa using d) e) y x f3 f4 u;refine⟨_,rfl,v7 (s:={s with heap:=j,toks:=B}) (n:="range_iterator") C rfl rfl (by decide) ⟨.int (f+i),H,N,⟨t,?_⟩,⟨rfl,rfl⟩,C,λb d=>(g b d).1⟩⟩;rw[Int.mul_one]
 done:=by intro X q l r p i D s A H E I g a m;subst q l r;obtain⟨y,x,f2,f3,f4,u⟩:=g c (by simp);exact wpAny_pyNext_range_end (I.ok.hd p) a (by have:n<=i:=m;lia) λj M=>⟨rfl,I.turned (t':=s.toks) (λb o d e=>M b o d e) y x f3 f4 u⟩
 self:=λ_ _ _ _ _ a h=>wpAny_pyIter_rangeiter a h
section
variable{X:Cx}{c:aD}
theorem HU{h:List (ac×Obj)}{f:St}{H:Hp}{s:ao}{R:It->Hp->Prop}{E:ai->ao->Prop}{a d:Int}{t u v:Tok}{g:Nat}(I:Inv X h f H s)(p:-(2^62)<=a)(n:a<2^62)(m:-(2^62)<=d)(l:d<2^62)(q:R (wX a (d-a).toNat) H):aw (aE X.prog X.w) X.A (oh (.ref s.heap.objs.size)) (wd X h f c R) E {s with heap:=s.heap.push {cls:=.type "range",data:=.fields #[.int a t,.int d u,.int 1 v]},toks:=g}:=by
 refine wpAny_pyIter_range (IsRange.new ..) (small_one p n m l) ?_;have i:Inv X h f H {s with heap:=s.heap.push {cls:=.type "range",data:=.fields #[.int a t,.int d u,.int 1 v]},toks:=g}:=I.kept λb o e=>bN _ e;refine⟨(s.heap.push {cls:=.type "range",data:=.fields #[.int a t,.int d u,.int 1 v]}).objs.size,[(s.heap.push {cls:=.type "range",data:=.fields #[.int a t,.int d u,.int 1 v]}).objs.size],_,_,H,rfl,i.kept (t':=g) λb o e=>bN _ e,LZ _ a (d-a).toNat,?_,λb j=>?_,q⟩
 .have w:a+((0:Nat):Int)*1=a:=by simp
  have r:(((d-a).toNat:Nat):Int)-((0:Nat):Int)=Builtin.Range.rangeSize a d 1:=by rw[rangeSize_one];split <;> lia
  show IsRangeIter _ _ (a+((0:Nat):Int)*1) ((((d-a).toNat:Nat):Int)-((0:Nat):Int)) 1;rw[w,r];exact cW _ rfl
 .have e:b=(s.heap.push {cls:=.type "range",data:=.fields #[.int a t,.int d u,.int 1 v]}).objs.size:=by simpa using j
  subst e;exact i.fpOk (bB _) (i.hok.fresh (bB _))
def Ip(d:TA):TI:=λa H R=>d a H λb f=>∃j:Int,b=[.int j]/\-(2^62)<=j/\j<2^62/\R (wX 0 j.toNat) f
theorem Rn{a:aD}{f:TA}{p b:Pos}(u:Gl X "range")(o:X.mg "range"=af)(v:PA X [a] f)(n:aN [a] X.env=[(aj,aK a X.env)]:=by rfl):PI X c (.Call (.Name "range" p) [a] [] b) (Ip f):=by
 intro w s g H R I h;refine Call_ (xJ I u o boot_range (PyProof.Rows.callWith_type1 (aW (v b w s g H _ I h) λz A ⟨y,B,x,l,d⟩=>?_) n rfl));obtain⟨j,e,d,m,q⟩:=d;subst e;cases l with
 |cons r i=>
  cases i;obtain⟨t,rfl⟩:=r;exact call_range_1 (HU x ∅ ∅ d m (by simpa using q))
def PH(j:TI)(g:TG)(l:TS):TS:=λD a H=>j a H λJ o=>∃W:Nat->Nat->St->Hp->Prop,(∃m,W 0 m a o)/\∀i m a H,W i m a H ->
 (J.stop i H/\D.nx a H)\/(J.go i H/\∃N:St->Hp->Prop,(∀b d,N b d->∃h,h<m/\W (i+1) h b d)/\∀x d,J.yld i H x d->g x a d λf n=>l {D with nx:=N,ct:=N,bk:=D.nx} f n)
def ue(a:List ac)(h:aI):List (ac×Obj):=a.filterMap λb=>(h.get? b).map λo=>(b,o)
theorem xk{a:List ac}{h:aI}{b:ac}{o:Obj}(d:b∈a)(e:h.get? b=aa o):(b,o)∈ue a h:=List.mem_filterMap.mpr ⟨b,d,by rw[e];rfl⟩
theorem Mj{a:List ac}{h:aI}{p:ac×Obj}(d:p∈ue a h):p.1∈a/\h.get? p.1=aa p.2:=by
 obtain⟨b,f,e⟩:=List.mem_filterMap.mp d;cases q:h.get? b with
 |none=>rw[q]at e;cases e
 |some o=>rw[q]at e;have g:(b,o)=p:=fk e;subst g;exact⟨f,q⟩
theorem Inv.pinned{f:List (ac×Obj)}{g:St}{H:Hp}{s:ao}{a:List ac}(I:Inv X f g H s)(m:∀b∈a,kP X f H b)(l:∀b∈a,∃o,s.heap.get? b=aa o/\∀v,o.data≠.cell v):Inv X (f++ue a s.heap) g H s :=
 I.pins_of λp j=>(kT.mp j).elim (λz=>I.pin p (m_ _ z)) λz=>by
  obtain⟨h,e⟩:=Mj z;obtain⟨q,n,f2,_⟩:=m p.1 h;obtain⟨o,i,d⟩:=l p.1 h;rw[e]at i;cases i;exact⟨e,q,n,f2,d⟩
theorem Inv.unpinned{b pl:List (ac×Obj)}{a:St}{H:Hp}{s:ao}(I:Inv X (b++pl) a H s):Inv X b a H s:=I.pins_of λp d=>I.pin p (m_ _ (List.mem_append_left _ d))
theorem Ai{q:aD}{E:List aS}{wi:TI}{g:TG}{tb:TS}{pos:Pos}(L:uD (aE X.prog X.w) X.A X.env X.xe)(hc:X.calm=ah)(hi:PI X c q wi)(hg:PG X c g)(w:kN X E tb)(hs:∀x,nc q X.env x=pure x:=by intro _;rfl):PS X (.For c q E [] pos) (PH wi g tb):=by
 intro F s σ H D I h;refine wpAny_For (aW (hi F s σ H _ I h) λv s1 h1=>aW h1 λitv s2 h2=>?_) hs;obtain⟨it,O,tn,J,H2,e,I2,T,S,f2,W,⟨m0,w0⟩,G⟩:=h2;subst e;have p:∀{B:Hp},(∀b∈O,B b=af)->∀b∈O,kP X F B b:=λhn b w=>⟨hn b w,(f2 b w).2⟩
 refine codeAny_forLoop_any (λn s'=>∃i l B,Inv X F l B s'/\tn i s'.heap/\(∀b∈O,B b=af)/\W i n l B) ?_ m0 ⟨0,σ,H2,I2,S,λb w=>(f2 b w).1,w0⟩;rintro n s3 ⟨i,j,P,I3,vd,M,w3⟩;rcases G i n j P w3 with⟨stop,qn⟩|⟨go,N,hN,step⟩
 .refine rP L (aW (T.done X rfl rfl rfl hc i F s3 j P X.xe I3 (p M) vd stop) λr s4 ⟨hr,I4⟩=>?_);subst hr;exact BA ⟨j,P,I4,qn⟩
 .refine rP L (aW (T.item X rfl rfl rfl hc i F s3 j P X.xe I3 (p M) vd go) λr s4 ⟨u,hr,h4⟩=>?_);subst hr;refine rP L (aW h4 λ_ s5 ⟨x,H5,I5,r5,y5,Y,fr5⟩=>?_);have I5':=I5.pinned (p fr5) (T.obj _ _ Y);refine rP L (aW (hg _ s5 j H5 x u _ I5' r5 (step x H5 y5)) λ_ s6 ⟨Q,H6,I6,q6⟩=>?_);refine rP L (aW (w _ s6 Q H6 _ I6 q6) λf Z C=>?_);have y:∀{a:St}{A:Hp},Inv X (F++ue O s5.heap) a A Z->N a A->∃m,m<n/\∃i l B,Inv X F l B Z/\tn i Z.heap/\(∀b∈O,B b=af)/\W i m l B:=λ{a A} z K=>by obtain⟨m',hm,w7⟩:=hN a A K;refine⟨m',hm,i+1,a,A,z.unpinned,T.keep _ _ _ Y λb w o e=>(z.pin (b,o) (m_ _ (m_ _ (xk w e)))).1,λb w=>?_,w7⟩;obtain⟨o,e,d⟩:=T.obj _ _ Y b w;exact(z.pin (b,o) (m_ _ (m_ _ (xk w e)))).2.1
  cases f with
  |next=>obtain⟨a,A,z,K⟩:=C;exact y z K
  |cont=>obtain⟨a,A,z,K⟩:=C;exact y z K
  |brk=>obtain⟨a,A,z,C⟩:=C;exact⟨a,A,z.unpinned,C⟩
  |ret v=>obtain⟨x7,a,A,z,r7,C⟩:=C;exact⟨x7,a,A,z.unpinned,r7,C⟩
end
abbrev R2:=V->V->Hp->VK->Prop
def cf(X:Cx)(f:ai->ai->Sem ai)(r:R2):Prop :=
 ∀(b:List (ac×Obj)) (s:ao) (a:St) (H:Hp) (x y:V) (v u:ai) (Q:VK),Inv X b a H s->RelV x v->RelV y u->r x y H Q ->
  aw (aE X.prog X.w) X.A (f v u) (EP X b a Q) X.xe s
def xV(X:Cx)(f:ai->Sem ai)(r:V->Hp->VK->Prop):Prop :=
 ∀(b:List (ac×Obj)) (s:ao) (a:St) (H:Hp) (x:V) (v:ai) (Q:VK),Inv X b a H s->RelV x v->r x H Q ->
  aw (aE X.prog X.w) X.A (f v) (EP X b a Q) X.xe s
def d_(X:Cx)(f:ai)(r:List V->Hp->VK->Prop):Prop :=
 ∀(c:List (ac×Obj)) (s:ao) (a:St) (H:Hp) (xs:List V) (b:List ai) (Q:VK),Inv X c a H s->bD xs b->r xs H Q ->
  aw (aE X.prog X.w) X.A (call f b) (EP X c a Q) X.xe s
def wg(r:R2)(c b:TE):TE:=λa H Q=>c a H λx f=>b a f λy d=>r x y d Q
def Pm(r:V->Hp->VK->Prop)(b:TE):TE:=λa H Q=>b a H λx c=>r x c Q
def rI(C:Int->Int->Prop)(g:Int->Int->V):R2:=λx y H Q=>∃i j,x=.int i/\y=.int j/\C i j/\Q (g i j) H
def lq(g:Int->Int->V):R2:=λx y H Q=>∃i j,x=.int i/\y=.int j/\Q (g i j) H
def rU(g:Int->V):V->Hp->VK->Prop:=λx H Q=>∃i,x=.int i/\Q (g i) H
section
variable{X:Cx}{a b c:aD}{d l m:TE}{pos:Pos}
theorem A7(E:PE X a d)(D:PE X b l){p:List (ac×Obj)}{s:ao}{g:St}{H:Hp}{R:V->V->Hp->Prop}(I:Inv X p g H s)(h:d g H λx q=>l g q λy i=>R x y i) {Q:ai->ao->Prop}{f:ai->ai->Sem ai}(C:∀v u o x y i,Inv X p g i o->RelV x v->RelV y u->R x y i->aw (aE X.prog X.w) X.A (f v u) Q X.xe o):aw (aE X.prog X.w) X.A (aK a X.env) (λv n=>aw (aE X.prog X.w) X.A (aK b X.env) (λu j=>aw (aE X.prog X.w) X.A (f v u) Q X.xe j) X.xe n) X.xe s:=by refine aW (E p s g H _ I h) λv r ⟨x,q,G,z,B⟩=>?_;refine aW (D p r g q _ G B) λu o ⟨y,i,F,w,A⟩=>?_;exact C v u o x y i F z w A
theorem Hx{f:Operator}{r:R2}(o:cf X (jH f) r)(w:PE X a d)(p:PE X b l):PE X (.BinOp a f b pos) (wg r d l):=by intro z s g H Q I h;exact wpAny_BinOp (A7 w p I h λv u i x y B A n j q=>o z i g B x y v u Q A n j q)
theorem PQ{g:UnaryOp}{r:V->Hp->VK->Prop}(p:xV X (unaryOp g) r)(q:PE X a d):PE X (.UnaryOp g a pos) (Pm r d):=by intro i s f H Q I h;exact UnaryOp_ (aW (q i s f H _ I h) λv j ⟨x,w,u,n,o⟩=>p i j f w x v Q u n o)
theorem AD{f:ai->ai->Sem ai}{C:Int->Int->Prop}{g:Int->Int->Int}(n:∀(i j:Int) (t u:Tok) (s:ao) (Q:ai->ao->Prop) (E:ai->ao->Prop),C i j->Q (.int (g i j) s.toks) {s with toks:=s.toks+1}->aw (aE X.prog X.w) X.A (f (.int i t) (.int j u)) Q E s):cf X f (rI C λi j=>.int (g i j)):=by intro A s z H x y v u Q I r p h;obtain⟨i,j,rfl,rfl,w,q⟩:=h;obtain⟨t,rfl⟩:=r;obtain⟨o,rfl⟩:=p;exact n i j t o s _ _ w ⟨.int (g i j),H,I.tok _,⟨_,rfl⟩,q⟩
theorem EG{f:ai->ai->Sem ai}{g:Int->Int->Int}(n:∀(i j:Int) (t u:Tok) (s:ao) (Q:ai->ao->Prop) (E:ai->ao->Prop),Q (.int (g i j) s.toks) {s with toks:=s.toks+1}->aw (aE X.prog X.w) X.A (f (.int i t) (.int j u)) Q E s):cf X f (lq λi j=>.int (g i j)):=by intro z s w H x y v u Q I r p h;obtain⟨i,j,rfl,rfl,q⟩:=h;obtain⟨t,rfl⟩:=r;obtain⟨o,rfl⟩:=p;exact n i j t o s _ _ ⟨.int (g i j),H,I.tok _,⟨_,rfl⟩,q⟩
theorem By{f:ai->ai->Sem ai}{g:Int->Int->Bool}(n:∀(i j:Int) (t u:Tok) (s:ao) (Q:ai->ao->Prop) (E:ai->ao->Prop),Q (.bool (g i j)) s->aw (aE X.prog X.w) X.A (f (.int i t) (.int j u)) Q E s):cf X f (lq λi j=>.bl (g i j)):=by intro z s w H x y v u Q I r p h;obtain⟨i,j,rfl,rfl,q⟩:=h;obtain⟨t,rfl⟩:=r;obtain⟨o,rfl⟩:=p;exact n i j t o s _ _ ⟨.bl (g i j),H,I,rfl,q⟩
def D5(i j:Int):Prop:=0<=j/\j<=1000000/\i.natAbs<2^64
def Ay(i j:Int):Prop:=(-(2^64)<i/\i<2^64)\/(-(2^64)<j/\j<2^64)
theorem Ay.ok{i j:Int}(h:Ay i j):IntMulOk i j:=by
 rcases h with⟨h1,h2⟩|⟨h1,h2⟩
 .exact .of_left (intBits_le_64 h1 h2)
 .exact .of_right (intBits_le_64 h1 h2)
theorem Su:cf X (jH .Add) (lq λi j=>.int (i+j)):=EG λ_ _ _ _ _ _ _ q=>add_int q
theorem oM:cf X (jH .Sub) (lq λi j=>.int (i-j)):=EG λ_ _ _ _ _ _ _ q=>sub_int q
theorem Se:cf X (jH .Mult) (rI Ay λi j=>.int (i*j)):=AD λ_ _ _ _ _ _ _ f q=>mul_int q f.ok
theorem sQ:cf X (jH .Mod) (rI (λ_ j=>0<j) λi j=>.int (i % j)):=AD λi j _ _ _ _ _ f q=>by have g:(0:Int)<j:=f;exact mod_int' ∅ (by rw[Int.fmod_eq_emod_of_nonneg i ∅];exact q)
theorem PU:cf X (jH .Pow) (rI D5 λi j=>.int (i^j.toNat)):=AD λ_ _ _ _ _ _ _ f q=>pow_int_small f.1 f.2.1 f.2.2 q
theorem HX{f:ai->Sem ai}{g:Int->Int}(j:∀(i:Int) (t:Tok) (s:ao) (Q:ai->ao->Prop) (E:ai->ao->Prop),Q (.int (g i) s.toks) {s with toks:=s.toks+1}->aw (aE X.prog X.w) X.A (f (.int i t)) Q E s):xV X f (rU λi=>.int (g i)):=by intro p s o H x v Q I n h;obtain⟨i,rfl,q⟩:=h;obtain⟨t,rfl⟩:=n;exact j i t s _ _ ⟨.int (g i),H,I.tok _,⟨_,rfl⟩,q⟩
theorem qu:xV X (unaryOp .USub) (rU λi=>.int (-i)):=HX λ_ _ _ _ _ q=>neg_int q
end
def o8:V->V->Bool
 |.non,.non=>ah|.non,.int _=>ah|.int _,.non=>ah|.non,.bl _=>ah|.bl _,.non=>ah|.non,.str _=>ah|.str _,.non=>ah
 |.int _,.int _=>ah|.bl _,.bl _=>ah|.str _,.str _=>ah|.byt _,.byt _=>ah
 |.int _,.str _=>ah|.str _,.int _=>ah|.bl _,.str _=>ah|.str _,.bl _=>ah
 |_,_=>aj
def EZ:R2:=λx y H Q=>o8 x y=ah/\Q (.bl (decide (x=y))) H
def Ed:R2:=λx y H Q=>o8 x y=ah/\Q (.bl (!decide (x=y))) H
theorem EK{i j:Int}:decide (V.int i=V.int j)=(i == j):=by rw[oi];simp
theorem El{i j:Bool}:decide (V.bl i=V.bl j)=(i == j):=by rw[oi];simp
theorem Dm{i j:Str}:decide (V.str i=V.str j)=(i == j):=by rw[oi];simp
theorem Gf{i j:Array UInt8}:decide (V.byt i=V.byt j)=(i.toList == j.toList):=by
 rw[oi];cases i;cases j;simp
section
variable{X:Cx}{a b c:aD}{l g o:TE}{m:Pos}
theorem dA{h:List (ac×Obj)}{d:St}{H:Hp}{s:ao}{Q:VK}{k f:Bool}(I:Inv X h d H s)(q:Q (.bl k) H)(e:k=f):EP X h d Q (.bool f) s:=by subst e;exact⟨.bl k,H,I,rfl,q⟩
theorem Sn:cf X (d7 .Eq) EZ:=by
 intro w s r H x y v u Q I p d h;obtain⟨n,q⟩:=h;cases x with
 |non=>
  cases p;cases y with
  |non=>cases d;exact PySem.EqNone.eq_none_none (dA I q (by simp))
  |bl j=>cases d;exact PySem.EqNone.eq_none_bool (dA I q (by simp))
  |int j=>obtain⟨f,rfl⟩:=d;exact PySem.EqNone.eq_none_int (dA I q (by simp))
  |str j=>obtain⟨f,rfl⟩:=d;exact PySem.EqNone.eq_none_str (dA I q (by simp))
  |_=>exact absurd (show aj=ah from n) gh
 |bl i=>
  cases p;cases y with
  |non=>cases d;exact PySem.EqNone.eq_bool_none (dA I q (by simp))
  |bl j=>cases d;exact eq_bool (dA I q El)
  |str j=>obtain⟨f,rfl⟩:=d;exact PySem.EqMixed.eq_bool_str (dA I q (by simp))
  |_=>exact absurd (show aj=ah from n) gh
 |int i=>
  obtain⟨t,rfl⟩:=p;cases y with
  |non=>cases d;exact PySem.EqNone.eq_int_none (dA I q (by simp))
  |int j=>obtain⟨f,rfl⟩:=d;exact eq_int (dA I q EK)
  |str j=>obtain⟨f,rfl⟩:=d;exact PySem.EqMixed.eq_int_str (dA I q (by simp))
  |_=>exact absurd (show aj=ah from n) gh
 |str i=>
  obtain⟨t,rfl⟩:=p;cases y with
  |non=>cases d;exact PySem.EqNone.eq_str_none (dA I q (by simp))
  |bl j=>cases d;exact PySem.EqMixed.eq_str_bool (dA I q (by simp))
  |int j=>obtain⟨f,rfl⟩:=d;exact PySem.EqMixed.eq_str_int (dA I q (by simp))
  |str j=>obtain⟨f,rfl⟩:=d;exact eq_str (dA I q Dm)
  |_=>exact absurd (show aj=ah from n) gh
 |byt i=>
  obtain⟨t,rfl⟩:=p;cases y with
  |byt j=>obtain⟨f,rfl⟩:=d;exact PySem.W.eq_bytes (dA I q Gf)
  |_=>exact absurd (show aj=ah from n) gh
 |_=>cases y <;> exact absurd (show aj=ah from n) gh
theorem SG:cf X (d7 .NotEq) Ed:=by
 intro w s r H x y v u Q I p d h;obtain⟨n,q⟩:=h;cases x with
 |non=>
  cases p;cases y with
  |non=>cases d;exact PySem.EqNone.ne_none_none (dA I q (by simp))
  |bl j=>cases d;exact PySem.EqNone.ne_none_bool (dA I q (by simp))
  |int j=>obtain⟨f,rfl⟩:=d;exact PySem.EqNone.ne_none_int (dA I q (by simp))
  |str j=>obtain⟨f,rfl⟩:=d;exact PySem.EqNone.ne_none_str (dA I q (by simp))
  |_=>exact absurd (show aj=ah from n) gh
 |bl i=>
  cases p;cases y with
  |non=>cases d;exact PySem.EqNone.ne_bool_none (dA I q (by simp))
  |bl j=>cases d;exact ne_bool (dA I q (congrArg not El))
  |str j=>obtain⟨f,rfl⟩:=d;exact PySem.EqMixed.ne_bool_str (dA I q (by simp))
  |_=>exact absurd (show aj=ah from n) gh
 |int i=>
  obtain⟨t,rfl⟩:=p;cases y with
  |non=>cases d;exact PySem.EqNone.ne_int_none (dA I q (by simp))
  |int j=>obtain⟨f,rfl⟩:=d;exact ne_int (dA I q (congrArg not EK))
  |str j=>obtain⟨f,rfl⟩:=d;exact PySem.EqMixed.ne_int_str (dA I q (by simp))
  |_=>exact absurd (show aj=ah from n) gh
 |str i=>
  obtain⟨t,rfl⟩:=p;cases y with
  |non=>cases d;exact PySem.EqNone.ne_str_none (dA I q (by simp))
  |bl j=>cases d;exact PySem.EqMixed.ne_str_bool (dA I q (by simp))
  |int j=>obtain⟨f,rfl⟩:=d;exact PySem.EqMixed.ne_str_int (dA I q (by simp))
  |str j=>obtain⟨f,rfl⟩:=d;exact ne_str (dA I q (congrArg not Dm))
  |_=>exact absurd (show aj=ah from n) gh
 |byt i=>
  obtain⟨t,rfl⟩:=p;cases y with
  |byt j=>obtain⟨f,rfl⟩:=d;exact PySem.W.ne_bytes (dA I q (congrArg not Gf))
  |_=>exact absurd (show aj=ah from n) gh
 |_=>cases y <;> exact absurd (show aj=ah from n) gh
theorem qZ:cf X (d7 .Lt) (lq λi j=>.bl (decide (i<j))):=By λ_ _ _ _ _ _ _ q=>lt_int q
theorem nD:cf X (d7 .LtE) (lq λi j=>.bl (decide (i<=j))):=By λ_ _ _ _ _ _ _ q=>le_int q
theorem qA:cf X (d7 .Gt) (lq λi j=>.bl (decide (j<i))):=By λ_ _ _ _ _ _ _ q=>gt_int q
theorem Si:cf X (d7 .In) (λx y H Q=>∃i j,x=.str i/\y=.str j/\Q (.bl (!(x8 j i 0 j.length 1).isEmpty)) H):=by intro r s n H x y v u Q I f d h;obtain⟨i,j,rfl,rfl,q⟩:=h;obtain⟨t,rfl⟩:=f;obtain⟨p,rfl⟩:=d;exact in_str (dA I q rfl)
theorem cf.or{f:ai->ai->Sem ai}{r n:R2}(h:cf X f r)(w:cf X f n):cf X f (λx y H Q=>r x y H Q\/n x y H Q):=by
 intro p s d H x y v u Q I j i q;rcases q with q|q
 .exact h p s d H x y v u Q I j i q
 .exact w p s d H x y v u Q I j i q
theorem Pj{d:CmpOp}{r:R2}(p:cf X (d7 d) r)(A:PE X a l)(z:PE X b g)(w:pD d b=aj):PE X (.Compare a [d] [b] m) (wg r l g):=by intro B s f H Q I h;exact wpAny_Compare1 (A7 A z I h λv u i x y D C n j q=>p B i f D x y v u Q C n j q) w
def Ep(t:TE):TT:=λd H Q=>t d H λx f=>∃k,x=.bl k/\Q k f
theorem Ln{f:CmpOp}{r:R2}(D:cf X (d7 f) r)(G:PE X a l)(F:PE X b g)(E:pD f b=aj):PT X (.Compare a [f] [b] m) (Ep (wg r l g)):=by
 intro i s d H Q I h;refine wpAny_isTrue_Compare1 (aW (G i s d H _ I h) λv n ⟨x,O,L,w,C⟩=>aW (F i n d O _ L C) λu j ⟨y,N,K,q,B⟩=>aW (D i j d N x y v u _ K w q B) λc P ⟨z,M,J,p,k,e,A⟩=>?_) E;subst e;cases p;exact oa ⟨M,J,A⟩
def zA(r i:R2)(l g o:TE):TE:=λd H Q=>l d H λx p=>g d p λy n=>r x y n λz f=>∃k,z=.bl k /\
 (if k=ah then o d f λh j=>i y h j Q else Q (.bl aj) f)
theorem Oi{n f:CmpOp}{r q:R2}(T:cf X (d7 n) r)(S:cf X (d7 f) q)(ha:PE X a l)(Z:PE X b g)(Y:PE X c o)(W:lastMarks [n,f] [b,c]=aj:=by with_unfolding_all rfl):PE X (.Compare a [n,f] [b,c] m) (zA r q l g o):=by
 intro j s i H Q I h;refine Compare_chain (aW (ha j s i H _ I h) λv J ⟨x,H1,I1,M,P⟩=>chain_link (aW (Z j J i H1 _ I1 P) λu G ⟨y,H2,I2,p,O⟩=>aW (T j G i H2 x y v u _ I2 M p O) λd F ⟨z,B,A,L,k,e,w⟩=>?_)) W;subst e;cases L;refine oa ?_;cases k with
 |false=>exact ite_ff ⟨.bl aj,B,A,rfl,w⟩
 |true=>exact ite_tt (chain_last (aW (Y j F i B _ A w) λD E ⟨C,H4,I4,K,N⟩=>S j E i H4 y C u D Q I4 p K N))
theorem ON{n f:CmpOp}{r q:R2}(Z:cf X (d7 n) r)(Y:cf X (d7 f) q)(ha:PE X a l)(hb:PE X b g)(hc:PE X c o)(hm:lastMarks [n,f] [b,c]=aj:=by with_unfolding_all rfl):PT X (.Compare a [n,f] [b,c] m) (Ep (zA r q l g o)):=by
 intro j s i H Q I h;refine isTrue_chain (aW (ha j s i H _ I h) λv J ⟨x,H1,I1,N,T⟩=>test_link (aW (hb j J i H1 _ I1 T) λu G ⟨y,H2,I2,p,S⟩=>aW (Z j G i H2 x y v u _ I2 N p S) λd F ⟨z,B,A,M,k,e,w⟩=>?_)) hm;subst e;cases M;refine oa ?_;cases k with
 |false=>
  obtain⟨k',e',W⟩:=w;cases e';exact ite_ff ⟨B,A,W⟩
 |true=>
  refine ite_tt (test_last (aW (hc j F i B _ A w) λD E ⟨C,H4,I4,L,P⟩=>aW (Y j E i H4 y C u D _ I4 p L P) λd' s5 ⟨z2,H5,I5,K,k2,e2,O⟩=>?_));subst e2;cases K;exact oa ⟨H5,I5,O⟩
theorem tm:(bi:Nat)<2^63:=by rw[pF];decide
theorem KJ:cf X (jH .Add) (λx y H Q=>∃i j,x=.str i/\y=.str j/\i.length+j.length<=bi/\Q (.str (i++j)) H):=by intro z s r H x y v u Q I n f h;obtain⟨i,j,rfl,rfl,p,q⟩:=h;obtain⟨t,rfl⟩:=n;obtain⟨d,rfl⟩:=f;exact add_str (λd w=>⟨.str (i++j),H,I.tok _,⟨_,rfl⟩,q⟩) p
theorem vals1{x:V}{d:List ai}(r:bD [x] d):∃u,d=[u]/\RelV x u:=by
 cases r with
 |cons h f=>cases f;exact⟨_,rfl,h⟩
theorem vals2{x y:V}{f:List ai}(r:bD [x,y] f):∃u d,f=[u,d]/\RelV x u/\RelV y d:=by
 cases r with
 |cons n j=>
  cases j with
  |cons i h=>cases h;exact⟨_,_,rfl,n,i⟩
theorem Nw(f:X.calm=ah):d_ X (.builtin "max") (λxs H Q=>∃i j,xs=[.int i,.int j]/\Q (.int (if j > i then j else i)) H):=by
 intro z s n H xs v Q I r h;obtain⟨i,j,rfl,q⟩:=h;obtain⟨u,p,rfl,⟨t,rfl⟩,⟨x,rfl⟩⟩:=vals2 r;refine max_two_ints (I.ok.hd f) λy w k=>⟨_,H,I.kept k,?_,q⟩
 by_cases d:j > i
 .rw[if_pos d,if_pos d];exact⟨_,rfl⟩
 .rw[if_neg d,if_neg d];exact⟨_,rfl⟩
def Dk(K:au)(x:V)(H:Hp)(n:Nat):Prop :=
 match x with
 |.str y=>y.length<=bi/\n=y.length
 |.byt y=>y.size<=bi/\n=y.size
 |.ref p=>(∃xs,cp K H p xs/\n=xs.length)\/∃xs,dj K H p xs/\n=xs.length
 |_=>False
theorem dJ:d_ X (.builtin "len") (λxs H Q=>∃x n,xs=[x]/\Dk X.K x H n/\Q (.int n) H):=by
 intro E s A H xs B Q I r h;obtain⟨x,n,rfl,e,q⟩:=h;obtain⟨u,rfl,f⟩:=vals1 r;have D:=tm;have C:bi=16777216:=pF;cases x with
 |str y=>obtain⟨t,rfl⟩:=f;obtain⟨z,d⟩:y.length<=bi/\n=y.length:=e;subst d;exact len_str ∅ ⟨.int _,H,I.tok _,⟨_,rfl⟩,q⟩
 |byt y=>obtain⟨t,rfl⟩:=f;obtain⟨z,d⟩:y.size<=bi/\n=y.size:=e;subst d;exact PySem.W.len_bytes ∅ ⟨.int _,H,I.tok _,⟨_,rfl⟩,q⟩
 |ref p=>
  cases f;have d:(∃xs,cp X.K H p xs/\n=xs.length)\/∃xs,dj X.K H p xs/\n=xs.length:=e;rcases d with⟨xs,hx,d⟩|⟨xs,hx,d⟩
  .subst d;obtain⟨j,i,pl,w⟩:=I.list hx;have v:=i.length;exact Calls.call_len_list pl.isList (by simp only[cR];lia) ⟨.int xs.length,H,I.tok _,⟨_,by simp only[cR];rw[v]⟩,q⟩
  .subst d;obtain⟨j,i,pl,w⟩:=I.tuple hx;have v:=i.length;exact len_tuple pl (by simp only[cR];lia) ⟨.int xs.length,H,I.tok _,⟨_,by simp only[cR];rw[v]⟩,q⟩
 |_=>exact(show False from e).elim
end
structure rF(h:aI)(x dx C:ac)(mA:Str->Option ai):Prop where
 obj:h.get? x=aa (pw C dx)
 ns:h.Ns1 dx mA
 ne:dx≠x
theorem O7{h:aI}{g:ac}{d:Str->Option ai}(n:h.Ns1 g d):∃c,h.get? g=aa c/\∀b,BE b c=aa (d b):=by
 obtain⟨o,f,u,l,r,p,_,m⟩:=n;refine⟨o,l,λb=>?_⟩;have e:=m b;unfold nsFind findBy at e;rw[<-Array.find?_toList]at e;unfold BE;rw[r];dsimp only;split
 .rename_i y q;rw[q]at e;exact congrArg aa e
 .rename_i q;rw[q]at e;have a:f.toList.any (·.refKey)=aj:=by rw[Gz];intro y j;obtain⟨z,t,i⟩:=p y (Array.mem_toList_iff.mp j);simp[DictEntry.refKey,i]
  have s:¬f.toList.any (·.refKey)=ah:=by rw[a];exact gh
  rw[if_neg s];exact congrArg aa e
theorem rF.look{h:aI}{x d C:ac}{c:Str->Option ai}(I:rF h x d C c):∃b,uE h x (pw C d) C (aa b)/\∀a,BE a b=aa (c a) :=
 let ⟨b,ho,hl⟩:=O7 I.ns
 ⟨b,⟨I.obj,rfl,rfl,ho⟩,hl⟩
section
variable{i:a_}{w:aU}{A:a4}{E:ai->ao->Prop}{s:ao}{K:au}{x l C f:ac}{j:Str->Option ai}{c:Str}{v:ai}
theorem Jw{a:Bool}{Q:ai->ao->Prop}(X:K.In s.heap)(I:rF s.heap x l C j)(n:BF K C c=ah)(m:GA K C=ah)(o:iF K (.ref C) c=aa af) (d:j c=aa v) (b:PySem.W.handedIn v=ah) (h:Q v {s with toks:=s.toks+1}):aw (aE i w) A (getAttr (.ref x) c a) Q E s:=by obtain⟨p,J,g⟩:=I.look;exact PySem.W.get_value X J (GD n).1 (PySem.W.findObj_own m o rfl (by rw[g,d])) b h
theorem Ld{pl:Sem Bool}{Q:ai×List ai->ao->Prop}(X:K.In s.heap)(I:rF s.heap x l C j)(a:BF K C c=ah)(n:iF K (.ref C) c=aa (aa (.ref f))) (g:x9 K (.ref f)=ah) (d:j c=af) (h:Q (.ref f,[.ref x]) s):aw (aE i w) A (uF (.ref x) c pl) Q E s:=by obtain⟨b,J,m⟩:=I.look;exact PySem.W.method_fn X J (GD a).1 (GD a).2 n (beq_iff_eq.mp g) (by show(BE c b).map (·.isSome)=aa aj;rw[m,d];rfl) h
theorem N4{q:List Str}{Q:Unit->ao->Prop}(X:K.In s.heap)(I:rF s.heap x l C j)(G:iF K (.ref C) "__setattr__"=aa (aa (.builtin "object.__setattr__"))) (H:PySem.W.plainOver K C=ah) (D:PySem.W.takerIn K C c=aa af) (L:GA K C=ah)(B:Gv j q) (F:q.length<=bi)(h:∀m,rF m x l C (λy=>if y=c then aa v else j y)->kU l s.heap m->Q () {s with heap:=m,toks:=s.toks+2}):aw (aE i w) A (setAttr (.ref x) c v) Q E s:=by obtain⟨P,J,T⟩:=I.look;refine PySem.W.set_plain X J G (PySem.W.osa_open (s:={s with toks:=s.toks+1}) (r:=af) X J H D λb=>?_);obtain⟨W,M,u⟩:=PySem.W.any_some L;have z:s.heap.get? x=aa ⟨.ref C,aa l,.plain,#[]⟩:=I.obj;refine ax (aX (ax (ax (wpAny_loadPart z (ax (PySem.W.Looks.here (s:={s with toks:=s.toks+1}) (PySem.W.looks_clsIn X M) ?_))))));rw[u];refine aX (a:=aa l) (ax (aX (ax ?_)));refine wpAny_nsSet1 (s:={s with toks:=s.toks+1}) I.ns λm g d=>?_;obtain⟨S,N,O,n,o,p⟩:=g.count (PySem.Within.cons c v B);refine ax (wpAny_lookBehind n (by rw[o];exact pastItsLine_dict (d3 p (by rw[fL];lia))) ?_);exact aX (h _ ⟨(d.2 _ (dQ I.ne)).trans I.obj,g,I.ne⟩ d)
theorem QF{R:Result->ao->Prop}{b:List ai}{m:List (Str×ai)}(X:K.In s.heap)(n:PySem.W.makesIn K C=ah)(o:iF K (.ref C) "__init__"=aa (aa (.ref f))) (p:PySem.W.typeIn K (.ref f)=aa (.type "function"))(h:ka (aE i w) (A.«under» (.builtin "type.__call__" ⟨.ref C::b,m⟩)) (.call (.ref f) ⟨.ref (s.heap.objs.size+1)::b,m⟩) (PySem.W.InitBack (s.heap.objs.size+1) R) {s with heap:=(s.heap.push oj).push (pw C s.heap.objs.size)}):ka (aE i w) A (.call (.ref C) ⟨b,m⟩) R s:=by obtain⟨r,g,d,t,q⟩:=s;exact PySem.W.make_core (PySem.W.makes_of X n) (GE X o) (λa=>PySem.W.bind_fn X a p) (.inl rfl) h
end
def eU(f:Str)(v:V):List (Str×V)->List (Str×V)
 |[]=>[(f,v)]
 | (g,x)::r=>if g=f then(g,v)::r else(g,x)::eU f v r
theorem Cq(f g:Str)(v:V):∀fs:List (Str×V),(eU f v fs).lookup g=if g=f then aa v else fs.lookup g
 |[]=>by
  show jo g [(f,v)]=_;by_cases h:g=f
  .have a:(g == f)=ah:=beq_iff_eq.mpr h;simp only[jo,a,if_pos h]
  .have a:(g == f)=aj:=beq_eq_false_iff_ne.mpr h;simp only[jo,a,if_neg h]
 | (k,x)::r=>by
  have c:=Cq f g v r;rw[show eU f v ((k,x)::r)=(if k=f then(k,v)::r else(k,x)::eU f v r)from rfl];by_cases b:k=f
  .rw[if_pos b];by_cases h:g=k
   .have a:(g == k)=ah:=beq_iff_eq.mpr h;simp only[jo,a,if_pos (h.trans b)]
   .have a:(g == k)=aj:=beq_eq_false_iff_ne.mpr h;simp only[jo,a,if_neg (λe:g=f=>h (e.trans b.symm))]
  .rw[if_neg b];by_cases h:g=k
   .have a:(g == k)=ah:=beq_iff_eq.mpr h;simp only[jo,a,if_neg (λe:g=f=>b (h.symm.trans e))]
   .have a:(g == k)=aj:=beq_eq_false_iff_ne.mpr h;simp only[jo,a];exact c
theorem zw(f:Str)(v:V):∀fs:List (Str×V),f∈(eU f v fs).map (·.1)/\∀g,g∈fs.map (·.1)->g∈(eU f v fs).map (·.1)
 |[]=>⟨by simp[eU],λg h=>by simp at h⟩
 | (k,x)::r=>by
  obtain⟨c,b⟩:=zw f v r;rw[show eU f v ((k,x)::r)=(if k=f then(k,v)::r else(k,x)::eU f v r)from rfl];by_cases a:k=f
  .rw[if_pos a];subst a;exact⟨by simp,λg h=>by simpa using h⟩
  .rw[if_neg a];refine⟨?_,λg h=>?_⟩
   .rw[eY];exact jn _ c
   .rw[eY]at h ⊢;rcases b8.mp h with e|e
    .exact b8.mpr (.inl e)
    .exact jn _ (b g e)
theorem EX(f:Str)(v:V):∀fs:List (Str×V),(eU f v fs).length<=fs.length+1
 |[]=>by simp[eU]
 | (k,x)::r=>by
  have b:=EX f v r;rw[show eU f v ((k,x)::r)=(if k=f then(k,v)::r else(k,x)::eU f v r)from rfl];by_cases a:k=f
  .rw[if_pos a,fL,fL];lia
  .rw[if_neg a,fL,fL];lia
theorem lN.some_of{v:V}{o:Option ai}(r:lN (aa v) o):∃u,o=aa u/\RelV v u:=by
 cases o with
 |none=>exact(show False from r).elim
 |some u=>exact⟨u,rfl,r⟩
theorem lN.none_of{o:Option ai}(r:lN af o):o=af:=by
 cases o with
 |none=>rfl
 |some u=>exact(show False from r).elim
theorem Re{v:V}{u:ai}(r:RelV v u):PySem.W.handedIn u=ah:=by
 cases v with
 |non=>cases (show u=Value.none from r);rfl
 |bl b=>cases (show u=Value.bool b from r);rfl
 |int i=>obtain⟨t,e⟩:=(show ∃t,u=Value.int i t from r);cases e;rfl
 |str x=>obtain⟨t,e⟩:=(show ∃t,u=Value.str x t from r);cases e;rfl
 |byt b=>obtain⟨t,e⟩:=(show ∃t,u=Value.bytes b t from r);cases e;rfl
 |flt b=>obtain⟨t,e⟩:=(show ∃t,u=Value.float b t from r);cases e;rfl
 |ref a=>cases (show u=Value.ref a from r);rfl
 |ty n=>cases (show u=Value.type n from r);rfl
section
variable{P:a_}{w:aU}{H i:Hp}{h g:aI}{a C b:ac}{fs c:List (Str×V)}
theorem wN(l:dw P w H h)(e:H a=aa (.ins C b fs)):∃j,rF h a b C j/\(∀f,lN (fs.lookup f) (j f))/\Gv j (fs.map (·.1))/\fs.length<=1000/\H b=aa (.own a):=by
 obtain⟨d,z,ne,m,j,n,r,q⟩:=(show dq P w H h a (.ins C b fs)from l a _ e)
 exact⟨j,⟨m,n,ne⟩,r,q,z,d⟩
end
structure Cls(K:au)(C:ac):Prop where
 pg:BF K C kW=ah
 hd:GA K C=ah
 po:PySem.W.plainOver K C=ah
 sa:iF K (.ref C) "__setattr__"=aa (aa (.builtin "object.__setattr__"))
theorem Cls.get{K:au}{C:ac}(c:Cls K C)(f:Str):BF K C f=ah:=c.pg
def iE(K:au)(C:ac)(f:Str):Prop:=iF K (.ref C) f=aa af
theorem iE.taker{K:au}{C:ac}{f:Str}(n:iE K C f):PySem.W.takerIn K C f=aa af:=by unfold PySem.W.takerIn;rw[show iF K (.ref C) f=aa af from n];rfl
structure vZ(K:au)(C:ac)(m:Str)(f:ac):Prop where
 at_:iF K (.ref C) m=aa (aa (.ref f))
 fn:x9 K (.ref f)=ah
 kp:kb K (.ref f)=ah
section
variable{X:Cx}{i:List (ac×Obj)}{d:St}{H:Hp}{s:ao}{a C j:ac}{fs:List (Str×V)}{f:Str}{v:V}{A:a4}{E:ai->ao->Prop}
theorem PZ{b:Bool}{Q:ai->ao->Prop}(I:Inv X i d H s)(e:H a=aa (.ins C j fs))(c:Cls X.K C)(n:iE X.K C f)(l:fs.lookup f=aa v)(h:∀u g,Inv X i d H g->RelV v u->Q u g):aw (aE X.prog X.w) A (getAttr (.ref a) f b) Q E s:=by obtain⟨p,O,r,_,_,_⟩:=wN I.hok e;obtain⟨u,q,m⟩:=lN.some_of (v:=v) (o:=p f) (by rw[<-l];exact r f);exact Jw I.kIn O (c.get f) c.hd n q (Re m) (h u _ (I.tok _) m)
theorem zg{m:Str}{g:ac}{pl:Sem Bool}{Q:ai×List ai->ao->Prop}(I:Inv X i d H s)(e:H a=aa (.ins C j fs))(c:Cls X.K C)(k:vZ X.K C m g)(l:fs.lookup m=af)(h:Q (.ref g,[.ref a]) s):aw (aE X.prog X.w) A (uF (.ref a) m pl) Q E s:=by obtain⟨b,O,r,_,_,_⟩:=wN I.hok e;have n:b m=af:=lN.none_of (by rw[<-l];exact r m);exact Ld I.kIn O (c.get m) k.at_ k.fn n h
theorem OP{y:V}{u:ai}{Q:Unit->ao->Prop}(I:Inv X i d H s)(e:H a=aa (.ins C j fs))(c:Cls X.K C)(n:iE X.K C f)(N:fs.length<1000)(F:RelV y u)(h:∀p,Inv X i d (upd H a (.ins C j (eU f y fs))) p->Q () p):aw (aE X.prog X.w) A (setAttr (.ref a) f u) Q E s:=by
 obtain⟨w,O,r,m,_,B⟩:=wN I.hok e;have G:(fs.map (·.1)).length<=bi:=by rw[bS,pF];lia
 refine N4 I.kIn O c.sa c.po n.taker c.hd m G λM l D=>h _ ?_;have K:∃o,M.get? j=aa o:=let ⟨o,_,_,e',_⟩:=l.ns;⟨o,e'⟩
 refine I.write (x:=a) (e:=j) (by rw[e];exact True.intro) (.inr B) (λb q L z=>(D.2 b L).trans z) K ?_;refine⟨by rw[bo O.ne];exact B,?_,O.ne,l.obj,_,l.ns,λg=>?_,λg J=>?_⟩
 .have:=EX f y fs;lia
 .show lN ((eU f y fs).lookup g) (if g=f then aa u else w g);rw[Cq];by_cases q:g=f
  .rw[if_pos q,if_pos q];exact F
  .rw[if_neg q,if_neg q];exact r g
 .by_cases q:g=f
  .rw[q];exact(zw f y fs).1
  .refine(zw f y fs).2 g (m g λz=>J ?_);show(if g=f then aa u else w g)=af;rw[if_neg q];exact z
theorem Inv.made(I:Inv X i d H s):Inv X i d (upd (upd H s.heap.objs.size (.own (s.heap.objs.size+1))) (s.heap.objs.size+1) (.ins C s.heap.objs.size [])) {s with heap:=(s.heap.push oj).push (pw C s.heap.objs.size)}:=by
 have c:(s.heap.push oj).get? s.heap.objs.size=aa oj:=cW s.heap rfl;have m:((s.heap.push oj).push (pw C s.heap.objs.size)).get? (s.heap.objs.size+1)=aa (pw C s.heap.objs.size):=by have:=cW (s.heap.push oj) (o:=pw C s.heap.objs.size) rfl;rwa[uG]at this
 have l:(s.heap.push oj).Ns s.heap.objs.size (λ_=>af):=⟨oj,#[],_,c,rfl,(λe h=>absurd h (by simp)),λ_=>rfl⟩
 have n:=I.laid (a:=s.heap.objs.size) (o:=.own (s.heap.objs.size+1)) (h':=s.heap.push oj) (t':=s.toks) (λb u q=>bN _ q) (bB _) ⟨_,c⟩;refine n.laid (a:=s.heap.objs.size+1) (o:=.ins C s.heap.objs.size []) (t':=s.toks) (λb u q=>bN _ q) (ng (uG _ _)) ?_;have ne:s.heap.objs.size≠s.heap.objs.size+1:=dm (jI _);refine⟨by rw[bo ne,bW],jJ _,ne,m,λ_=>af,(Heap.Ns1.of_empty l).at λo q=>bN _ q,λ_=>True.intro,λy g=>absurd rfl g⟩
theorem Qn{b:a_}{w:aU}{c:Env}{e:aD}{f:Str}{l:Pos}{s:ao}{Q:ai->ao->Prop}(m:fq e f c (aK e c)=aK e c)(h:aw (aE b w) A (aK e c) (λo g=>aw (aE b w) A (getAttr o f ah) Q E g) E s):aw (aE b w) A (aK (.Attribute e f l) c) Q E s :=Attribute_any_ h (by rw[arm_eval_Attribute,m])
end
def Ia(K:au)(d:TE)(f:Str):TE:=λc H Q=>d c H λx b=>∃a C g fs v,x=.ref a/\b a=aa (.ins C g fs)/\Cls K C/\iE K C f/\fs.lookup f=aa v/\Q v b
def IX(K:au)(h g:TE)(f:Str):TS:=λD b H=>g b H λy i=>h b i λx d=>∃a C c fs,x=.ref a/\d a=aa (.ins C c fs)/\Cls K C/\iE K C f/\fs.length<1000 /\
 D.nx b (upd d a (.ins C c (eU f y fs)))
section
variable{X:Cx}{o e b:aD}{f:Str}{pos d j:Pos}{g i:TE}
theorem qL(r:PE X e g)(w:fq e f X.env (aK e X.env)=aK e X.env):PE X (.Attribute e f pos) (Ia X.K g f):=by intro A s σ H Q I h;refine Qn w (aW (r A s σ H _ I h) λu J ⟨x,E,D,m,a,C,K,fs,v,y,z,c,n,l,q⟩=>?_);subst y;obtain rfl:u=Value.ref a:=m;exact PZ D z c n l λF G B p=>⟨v,E,B,p,q⟩
theorem CU(E:PE X o g)(A:PE X b i)(B:ii b (aa (.Attribute o f d)) pos.line X.env=pure aj):PS X (.Assign [.Attribute o f d] b pos) (IX X.K g i f):=by intro p s m H D I h;refine plainObj_wpAny_Assign_Attribute (aW (A p s m H _ I h) λu r ⟨y,M,L,v,q⟩=>aW (E p r m M _ L q) λov O ⟨x,Q,K,w,a,C,P,fs,F,G,c,n,l,z⟩=>?_) B;subst F;obtain rfl:ov=Value.ref a:=w;exact OP K G c n l v λN J=>⟨m,_,J,z⟩
end
section
variable{X:Cx}{f:List (ac×Obj)}{d:St}{H:Hp}{s:ao}{A:a4}{E:ai->ao->Prop}{Q:ai->ao->Prop}{c:ai}{b:Bool}
inductive iQ(K:au)(H:Hp):V->ai->Prop where
 |non:iQ K H .non (.type "NoneType")
 |bl (x:Bool):iQ K H (.bl x) (.type "bool")
 |int (i:Int):iQ K H (.int i) (.type "int")
 |str (x:Str):iQ K H (.str x) (.type "str")
 |flt (x:UInt64):iQ K H (.flt x) (.type "float")
 |lst {a:ac}{xs:List V} (e:H a=aa (.lst xs)):iQ K H (.ref a) (.type "list")
 |frz {a:ac}{o:Obj}{xs:List V} (e:H a=aa (.frz o (.lst xs))):iQ K H (.ref a) (.type "list")
 |tup {a:ac}{xs:List V} (e:H a=aa (.tup xs)):iQ K H (.ref a) (.type "tuple")
 |dK {a:ac}{kvs:List (aJ×V)} (e:H a=aa (.dK kvs)):iQ K H (.ref a) (.type "dict")
 |dT {a:ac}{kvs:List (List aJ×V)} (e:H a=aa (.dT kvs)):iQ K H (.ref a) (.type "dict")
 |ins {a C dx:ac}{fs:List (Str×V)} (e:H a=aa (.ins C dx fs)) (cl:Cls K C) (ha:iF K (.ref C) "__class__"=aa (aa (.builtin "object.__class__")))
   (hn:GF K (.builtin "object.__class__") "__get__"=aa (aa (.builtin "getset_descriptor.__get__"))) (ve:PySem.W.takesIn K (.builtin "object.__class__")=aa ah)
   (hm:x_ K C (.type "object")=aa ah):iQ K H (.ref a) (.ref C)
theorem Ls{x:V}{u t:ai}(I:Inv X f d H s)(g:RelV x u)(ty:iQ X.K H x t)(e:gk X.K t c=aa b)(h:∀m,Q (.bool b) {s with toks:=m}):aw (aE X.prog X.w) A (call (.builtin "isinstance") [u,c]) Q E s:=by
 cases ty with
 |non=>cases (show u=Value.none from g);exact kX PySem.W.kitx_none I.kIn True.intro e (λz=>nomatch z) h
 |bl y=>cases (show u=Value.bool y from g);exact kX PySem.W.kitx_bool I.kIn True.intro e (λz=>nomatch z) h
 |int i=>obtain⟨t,q⟩:=(show ∃t,u=Value.int i t from g);cases q;exact kX PySem.W.kitx_int I.kIn True.intro e (λz=>nomatch z) h
 |str y=>obtain⟨t,q⟩:=(show ∃t,u=Value.str y t from g);cases q;exact kX PySem.W.kitx_str I.kIn True.intro e (λz=>nomatch z) h
 |flt y=>obtain⟨t,q⟩:=(show ∃t,u=Value.float y t from g);cases q;exact kX PySem.W.kitx_float I.kIn True.intro e (λz=>nomatch z) h
 |@lst a xs ea=>
  cases (show u=Value.ref a from g);obtain⟨_,_,n,_,j⟩:=(show dq X.prog X.w H s.heap a (.lst xs)from I.hok a _ ea)
  exact kX PySem.W.kitx_list I.kIn ⟨_,j,rfl⟩ e (λz=>nomatch z) h
 |@frz a ob xs ea=>
  cases (show u=Value.ref a from g);obtain⟨_,_,_,n,_,j⟩:=(show dq X.prog X.w H s.heap a (.frz ob (.lst xs))from I.hok a _ ea)
  exact kX PySem.W.kitx_list I.kIn ⟨_,j,rfl⟩ e (λz=>nomatch z) h
 |@tup a xs ea=>
  cases (show u=Value.ref a from g);obtain⟨_,_,_,p,_⟩:=(show dq X.prog X.w H s.heap a (.tup xs)from I.hok a _ ea)
  obtain⟨o,j,l,_⟩:=p;exact kX PySem.W.kitx_tuple I.kIn ⟨o,j,l⟩ e (λz=>nomatch z) h
 |@dK a kvs ea=>
  cases (show u=Value.ref a from g);obtain⟨_,_,w,_,p⟩:=(show dq X.prog X.w H s.heap a (.dK kvs)from I.hok a _ ea)
  obtain⟨o,r,v,j,l,_⟩:=p;exact kX PySem.W.kitx_dict I.kIn ⟨o,j,l.1⟩ e (λz=>nomatch z) h
 |@dT a kvs ea=>
  cases (show u=Value.ref a from g);obtain⟨_,_,xs,_,o,r,v,j,l,_⟩:=(show dq X.prog X.w H s.heap a (.dT kvs)from I.hok a _ ea)
  exact kX PySem.W.kitx_dict I.kIn ⟨o,j,l.1⟩ e (λz=>nomatch z) h
 |@ins a C dx fs ea cl ha hn ve hm=>
  cases (show u=Value.ref a from g);obtain⟨D,O,_⟩:=wN I.hok ea;obtain⟨B,J,_⟩:=O.look;exact kX (PySem.W.kitx_own (cl.get _) cl.hd ha hn ve hm) I.kIn J e (λz=>nomatch z) h
end
structure cM(k:Nat)(A:a4):Prop where
 hd:A.handled=af
 dp:A.depth+3*k+5<recursionLimit
 un:A.units+16*k+200<cLine
theorem cM.mono{j k:Nat}{A:a4}(r:cM k A)(h:j<=k):cM j A:=⟨r.hd,by have:=r.dp;lia,by have:=r.un;lia⟩
theorem cM.deeper{k:Nat}{A:a4}(r:cM (k+1) A)(a:Env):cM k (A.deeper a) :=⟨r.hd,by have:=r.dp;show A.depth+1+3*k+5<_;lia,by have:=r.un;show A.units+3+16*k+200<_;lia⟩
theorem Ry{A:a4}{C:ac}{a:List ai}{b:List (Str×ai)}:(A.«under» (.builtin "type.__call__" ⟨.ref C::a,b⟩)).depth=A.depth+1:=by
 first|rfl|simp[Around.«under»,Code.weight,Code.isCreation,Code.isGuard,Code.isCaller,Code.frames,Code.isFrame,guardIds]
theorem QD{A:a4}{C:ac}{a:List ai}{b:List (Str×ai)}:(A.«under» (.builtin "type.__call__" ⟨.ref C::a,b⟩)).units=A.units+1:=by
 first|rfl|simp[Around.«under»,Code.cUnits,Code.frames,Code.isFrame]
theorem cM.make{k:Nat}{A:a4}(r:cM (k+1) A)(C:ac)(a:List ai)(b:List (Str×ai)):cM k (A.«under» (.builtin "type.__call__" ⟨.ref C::a,b⟩)) :=⟨r.hd,by have:=r.dp;rw[Ry];lia,by have:=r.un;rw[QD];lia⟩
theorem cM.depth{k:Nat}{A:a4}(r:cM k A):A.depth<recursionLimit:=by have:=r.dp;lia
theorem cM.units{k:Nat}{A:a4}(r:cM k A):A.units+64<cLine:=by have:=r.un;lia
def DP:TA:=λ_ H Q=>Q [] H
def KU(c:TE)(b:TA):TA:=λa H Q=>c a H λx f=>b a f λxs d=>Q (x::xs) d
section
variable{X:Cx}{e:aD}{es:List aD}{c:TE}{t:TA}{a:Pos}
theorem g_:PA X [] DP:=λ_ _ _ _ H Q I h=>BG ⟨[],H,I,.nil,h⟩
theorem f8(o:PE X e c)(n:PA X es t)(m:aN (e::es) X.env=(aj,aK e X.env)::aN es X.env:=by rfl):PA X (e::es) (KU c t):=by intro a d s b H Q I h;rw[m];show aw _ _ (spliced ((aj,aK e X.env)::b9 a (aN es X.env))) _ _ s;refine uH (aW (o d s b H _ I h) λu f ⟨x,v,q,i,l⟩=>?_);exact aW (n a d f b v _ q l) λw y ⟨xs,r,p,g,j⟩=>⟨x::xs,r,p,.cons i g,j⟩
def Nf(t:TA):TE:=λd H Q=>t d H λxs b=>xs.length<=bi/\∀p,b p=af->Q (.ref p) (upd b p (.tup xs))
def Il(t:TA):TE:=λd H Q=>t d H λxs b=>xs.length<=bi/\∀p,b p=af->Q (.ref p) (upd b p (.lst xs))
theorem JA{x1}(h:PA X es t):PE X (.Tuple es x1 a) (Nf t):=by intro n s i H Q I l;refine wpAny_Tuple_spliced (aW (h a n s i H _ I l) λj d ⟨xs,g,f,r,z,q⟩=>⟨by rw[<-r.length];exact z,?_⟩);have m:g d.heap.objs.size=af:=f.hok.fresh (bB _);refine⟨.ref d.heap.objs.size,upd g d.heap.objs.size (.tup xs),f.laid (t':=d.toks) (λb u e=>bN _ e) (bB _) ?_,rfl,q _ m⟩;exact⟨z,j,r,⟨⟨_,cW _ rfl,rfl,_,rfl⟩,_,cW _ rfl,rfl⟩⟩
theorem FT(h:PA X es t):PE X (.List es a) (Il t):=by intro n s i H Q I l;refine wpAny_List_spliced (aW (h a n s i H _ I l) λj d ⟨xs,g,f,r,z,q⟩=>⟨by rw[<-r.length];exact z,?_⟩);have m:g d.heap.objs.size=af:=f.hok.fresh (bB _);refine⟨.ref d.heap.objs.size,upd g d.heap.objs.size (.lst xs),f.laid (t':=d.toks) (λb u e=>bN _ e) (bB _) ?_,rfl,q _ m⟩;exact⟨z,j,0,r,cW _ rfl⟩
end
abbrev Sp:=List V->Hp->VK->XK->Prop
abbrev eh:=List Env->Hp->ao->XK->ai->ao->Prop
structure nM(P:a_)(w:aU)(K:au)(mg:Str->Option ai)(base:aI)(A:a4)(outer:List Env)(s:ao)(H:Hp):Prop where
 frames:A.frames=aa outer
 mod:Mod K mg base
 bs:∀b o,base.get? b=aa o->s.heap.get? b=aa o/\H b=af
 bsz:base.objs.size<=s.heap.objs.size
 funs:s.heap.FunFrames base outer
 frf:∀b∈fP outer,H b=af
 hok:dw P w H s.heap
 bare:mZ s.gens
 tab:vW K H
def CE(a:List Env)(P:a_)(w:aU)(H:Hp)(s:ao)(Q:VK)(u:ai)(b:ao):Prop :=
 ∃v c,b.os=s.os/\mZ b.gens/\Un (fP a) [] H c s.heap b.heap/\dw P w c b.heap/\RelV v u/\Q v c
def CR(c:eh)(a:List Env)(P:a_)(w:aU)(H:Hp)(s:ao)(Q:VK)(E:XK)(r:Result)(b:ao):Prop :=
 match r with
 |.ok (.ret u)=>CE a P w H s Q u b
 |.ok _=>False
 |.error e=>c a H s E e b
structure g7(P:a_)(w:aU)(K:au)(mg:Str->Option ai)(base:aI)(CX:eh)(k:Nat)(f:ac)(fd:gG)(ps:List Str)(sp:Sp):Prop where
 len:∀vs H Q E,sp vs H Q E->vs.length=ps.length
 run:∀(A:a4) (outer:List Env) (s:ao) (H:Hp) (args:Args) (us:List ai) (vs:List V) (Q:VK) (E:XK),cM k A->nM P w K mg base A outer s H->BindsTo s fd args (ps.zip us)->bD vs us->sp vs H Q E ->
  ka (aE P w) A (.call (.ref f) args) (CR CX outer P w H s Q E) s
theorem nM.make{P:a_}{w:aU}{K:au}{c:Str->Option ai}{b:aI}{A:a4}{a:List Env}{s:ao}{H:Hp}(e:nM P w K c b A a s H)(C:ac)(d:List ai)(f:List (Str×ai)):nM P w K c b (A.«under» (.builtin "type.__call__" ⟨.ref C::d,f⟩)) a s H:=⟨by first|exact e.frames | (simpa[Around.«under»,Code.envs,Code.isFrame,pushEnvs]using e.frames),e.mod,e.bs,e.bsz,e.funs,e.frf,e.hok,e.bare,e.tab⟩
section
variable{X:Cx}{f:List (ac×Obj)}{a:St}{H:Hp}{s c:ao}
theorem Inv.env0(I:Inv X f a H s):nM X.prog X.w X.K X.mg X.base X.A X.stack s H :=⟨I.ok.frames,I.ok.mod,I.bs,d3 I.ok.bsz I.sz,I.stack,I.stkFree,I.hok,I.bare,I.tab⟩
theorem Inv.after{Q:VK}{u:ai}(I:Inv X f a H s)(h:CE X.stack X.prog X.w H s Q u c):EP X f a Q u c:=by obtain⟨v,n,l,bare,un,j,r,q⟩:=h;obtain⟨m,g,d,t,i⟩:=c;obtain rfl:i=s.os:=l;exact⟨v,n,I.call (h':=m) (g':=g) (d':=d) (t':=t) (ch:=[]) un j bare (λb z=>absurd z (by simp)),r,q⟩
end
def JX(d:Sp)(a:List V)(E:XK)(t:TA):TE:=λb H Q=>t b H λc f=>d (c++a) f Q E
def La(C:ac)(m:Str)(g:Sp)(b:List V)(E:XK)(f:TE)(t:TA):TE:=λc H Q=>f c H λx d=>∃a h fs,x=.ref a/\d a=aa (.ins C h fs)/\fs.lookup m=af /\
 t c d λvs i=>g (x::(vs++b)) i Q E
def OH(C:ac)(g:Sp)(b:List V)(E:XK)(t:TA):TE:=λd H Q=>t d H λf c=>∀x a,c x=af->c a=af->a≠x ->
 g (.ref x::(f++b)) (upd (upd c a (.own x)) x (.ins C a [])) (λv h=>v=.non/\Q (.ref x) h) E
def Binds(K:au)(c:gG)(a:List Str)(b:List ai):Prop :=
 ∀(s:ao) (us:List ai),K.In s.heap->(us++b).length=a.length->BindsTo s c ⟨us,[]⟩ (a.zip (us++b))
theorem Binds.all{K:au}{d:gG}{b:List Str}(h:∀a:List ai,a.length=b.length->eR d ⟨a,[]⟩=pure (b.zip a)):Binds K d b []:=λs a _ c=>by rw[i5]at c ⊢;exact .of_eq (h a c)
def kD(c:eh)(X:Cx)(E:XK):Prop:=∀(b:List (ac×Obj)) (a:St) (H:Hp) (s:ao) (e:ai) (s':ao),Inv X b a H s->c X.stack H s E e s'->X.xe e s'
section
variable{X:Cx}{z:eh}{k:Nat}{f C:ac}{w:gG}{i:List Str}{n:Sp}{b:List V}{g:List ai}{E:XK}{x m:Str}{p d j:Pos}{e o:aD}{y:List aD}{A:TE}{t:TA}
theorem Gr{l:List (ac×Obj)}{c:St}{H:Hp}{s:ao}{Q:VK}{us:List ai}{vs:List V}(F:g7 X.prog X.w X.K X.mg X.base z k f w i n)(D:cM k X.A)(K:Binds X.K w i g)(J:bD b g)(B:kD z X E)(I:Inv X l c H s) (r:bD vs us) (h:n (vs++b) H Q E):aw (aE X.prog X.w) X.A (call (.ref f) us) (EP X l c Q) X.xe s:=by
 have q:bD (vs++b) (us++g):=r.append J;have G:(us++g).length=i.length:=by rw[<-q.length];exact F.len _ _ _ _ h
 refine uI (ol (F.run X.A X.stack s H ⟨us,[]⟩ (us++g) (vs++b) Q E D I.env0 (K s us I.kIn G) q h) λr v a=>?_);cases r with
 |error e=>exact B l c H s e v I a
 |ok L=>
  cases L with
  |ret u=>exact I.after a
  |next=>exact gn a
  |brk=>exact gn a
  |cont=>exact gn a
theorem Dq(F:g7 X.prog X.w X.K X.mg X.base z k f w i n)(u:cM k X.A)(D:Gl X x)(v:X.mg x=aa (.ref f))(B:kb X.K (.ref f)=ah)(K:Binds X.K w i g)(J:bD b g)(l:kD z X E)(L:PA X (e::y) t) (M:(x==("__debug__":Str))=aj:=by decide) (G:aN (e::y) X.env=(aj,aK e X.env)::aN y X.env:=by rfl) (N:(b9 d (aN y X.env)).any (·.1)=aj:=by rfl):PE X (.Call (.Name x p) (e::y) [] d) (JX n b E t):=by intro O s c H Q I h;refine ya (rH I D v ?_ M);refine BH (h₀:=X.base) I.ok.mod.kin B (aW (L d O s c H _ I h) λS T ⟨P,W,a,r,q⟩=>⟨a.kIn,?_⟩) G N;exact Gr F u K J l a r q
theorem IW{pl:Sem Bool}(L:PE X o A)(c:Cls X.K C)(v:vZ X.K C m f)(F:g7 X.prog X.w X.K X.mg X.base z k f w i n)(K:cM k X.A)(N:Binds X.K w i g)(M:bD b g)(G:kD z X E)(J:aK (.Call (.Attribute o m j) [] [] d) X.env=(do
   let ov <-aK o X.env
   standAt j.atName
   let (f,first) <-pE [ov] (uF ov m pl)
   callWith d f first (b9 d (aN [] X.env)) (jp d (jq [] X.env))):=by rfl) :
  PE X (.Call (.Attribute o m j) [] [] d) (La C m n b E A DP):=by
 intro S s B H Q I h;refine GH (pl:=pl) (aW (L S s B H _ I h) λu T ⟨x,Y,r,D,a,W,fs,O,P,l,q⟩=>?_) J;subst O;obtain rfl:u=Value.ref a:=D;refine zg r P c v l ?_;exact PySem.W.callWith_K0 (first:=[.ref a]) r.kIn v.kp (Gr (us:=[.ref a]) (vs:=[.ref a]) F K N M G r (.cons rfl .nil) q)
structure Mk(K:au)(C f:ac):Prop where
 makes:PySem.W.makesIn K C=ah
 init:iF K (.ref C) "__init__"=aa (aa (.ref f))
 fn:x9 K (.ref f)=ah
 kp:kb K (.ref C)=ah
theorem Ih{G:List (ac×Obj)}{B:St}{H:Hp}{s:ao}{Q:VK}{a:List ai}{D:List V}(M:Mk X.K C f)(F:g7 X.prog X.w X.K X.mg X.base z k f w i n)(S:cM (k+1) X.A)(Y:Binds X.K w i g)(W:bD b g)(P:kD z X E) (I:Inv X G B H s) (r:bD D a)(h:∀x l,H x=af->H l=af->l≠x->n (.ref x::(D++b)) (upd (upd H l (.own x)) x (.ins C l [])) (λv H2=>v=.non/\Q (.ref x) H2) E):aw (aE X.prog X.w) X.A (call (.ref C) a) (EP X G B Q) X.xe s:=by
 have K:=h (s.heap.objs.size+1) s.heap.objs.size (I.hok.fresh (yb _)) (I.hok.fresh (bB _)) (dm (jI _));have q:=Inv.made (C:=C) I;have J:bD (V.ref (s.heap.objs.size+1)::(D++b)) (Value.ref (s.heap.objs.size+1)::(a++g)):=.cons rfl (r.append W);have T:(Value.ref (s.heap.objs.size+1)::a++g).length=i.length:=by have e:=J.length;rw[F.len _ _ _ _ K]at e;exact e.symm
 refine uI (QF (f:=f) I.kIn M.makes M.init (beq_iff_eq.mp M.fn) (ol (F.run _ X.stack _ _ ⟨Value.ref (s.heap.objs.size+1)::a,[]⟩ (Value.ref (s.heap.objs.size+1)::(a++g)) _ _ E (S.make C a []) (q.env0.make C a []) (Y _ (Value.ref (s.heap.objs.size+1)::a) q.kIn T) J K) λr L c=>?_));cases r with
 |error e=>exact P G B _ _ e L q c
 |ok Z=>
  cases Z with
  |ret u=>obtain⟨v,H',I3,N,ev,O⟩:=q.after c;subst ev;exact⟨N,⟨V.ref (s.heap.objs.size+1),H',I3,rfl,O⟩⟩
  |next=>exact gn c
  |brk=>exact gn c
  |cont=>exact gn c
theorem MJ(M:Mk X.K C f)(F:g7 X.prog X.w X.K X.mg X.base z k f w i n)(u:cM (k+1) X.A)(B:Gl X x)(v:X.mg x=aa (.ref C))(J:Binds X.K w i g)(G:bD b g)(l:kD z X E)(K:PA X (e::y) t) (L:(x==("__debug__":Str))=aj:=by decide) (D:aN (e::y) X.env=(aj,aK e X.env)::aN y X.env:=by rfl) (N:(b9 d (aN y X.env)).any (·.1)=aj:=by rfl):PE X (.Call (.Name x p) (e::y) [] d) (OH C n b E t):=by intro O s c H Q I h;refine ya (rH I B v ?_ L);refine BH (h₀:=X.base) I.ok.mod.kin M.kp (aW (K d O s c H _ I h) λS T ⟨P,W,a,r,q⟩=>⟨a.kIn,?_⟩) D N;exact Ih M F u J G l a r q
end
structure bE(N P:List Str)(sc:eI):Prop where
 kind:sc.kind=.function
 co:sc.isCoroutine=aj
 gen:sc.isGenerator=aj
 nd:N.Nodup
 pre:N.take P.length=P
 par:∀x∈P,sc.names.lookup x=aa .local\/sc.names.lookup x=aa .cell
 nofree:∀y∈sc.names,y.2≠.free
theorem E3{a:Str->Option gW}{x:Str}:∀{binds:List (Str×ai)}{m:Str->Option ai},(∀v,(x,v)∉binds)->bindL a binds m x=m x
 |[],_,_=>rfl
 | (n,v)::r,m,h=>by
  unfold bindL;rw[E3 λw b=>h w (jn _ b)];split
  .have:x≠n:=by rintro rfl;exact h v m8
   simp[this]
  .rfl
theorem Gg{a:Str->Option gW}{x:Str}:∀{binds:List (Str×ai)}{m:Str->Option ai},(∀v,(x,v)∉binds)->bindC a binds m x=m x
 |[],_,_=>rfl
 | (n,v)::r,m,h=>by
  unfold bindC;rw[Gg λw b=>h w (jn _ b)];split
  .rfl
  .have:x≠n:=by rintro rfl;exact h v m8
   simp[this]
theorem Dh{a:Str->Option gW}{x:Str}{v:ai}:∀{P:List Str}{b:List ai}{i:Nat}{m:Str->Option ai},P.Nodup->P[i]?=aa x->b[i]?=aa v->a x=aa .local -> bindL a (P.zip b) m x=aa v
 |[],_,_,_,_,h,_,_=>by simp at h
 |_::_,[],_,_,_,_,h,_=>by simp at h
 |p::P,w::b,0,m,nd,h1,h2,hk=>by simp at h1 h2;subst h1;subst h2;show bindL a ((p,w)::P.zip b) m p=_;unfold bindL;rw[E3 λv c=>(jK.mp nd).1 (BI c).1,if_pos hk];simp
 |p::P,w::b,i+1,m,nd,h1,h2,hk=>by show bindL a ((p,w)::P.zip b) m x=_;unfold bindL;exact Dh (i:=i) (jK.mp nd).2 (by simpa using h1) (by simpa using h2) hk
theorem Ga{a:Str->Option gW}{x:Str}{v:ai}:∀{P:List Str}{b:List ai}{i:Nat}{m:Str->Option ai},P.Nodup->P[i]?=aa x->b[i]?=aa v->a x≠aa .local -> bindC a (P.zip b) m x=aa v
 |[],_,_,_,_,h,_,_=>by simp at h
 |_::_,[],_,_,_,_,h,_=>by simp at h
 |p::P,w::b,0,m,nd,h1,h2,hk=>by simp at h1 h2;subst h1;subst h2;show bindC a ((p,w)::P.zip b) m p=_;unfold bindC;rw[Gg λv c=>(jK.mp nd).1 (BI c).1,if_neg hk];simp
 |p::P,w::b,i+1,m,nd,h1,h2,hk=>by show bindC a ((p,w)::P.zip b) m x=_;unfold bindC;exact Ga (i:=i) (jK.mp nd).2 (by simpa using h1) (by simpa using h2) hk
def start(N:List Str)(a:List V):St:=a.map aa++cX (N.length-a.length) af
def fD(g:eh)(P:a_)(w:aU)(K:au)(mg:Str->Option ai)(base:aI)(N:List Str)(b:Str)(a:eI)(f:ac)(d:ai)(A:a4)(outer:List Env)(s:ao)(H:Hp)(E:XK):Cx where
 prog:=P
 w:=w
 K:=K
 mg:=mg
 base:=base
 A:=A.deeper (fM b a s.heap.objs.size f d)
 N:=N
 s₀:=s
 H₀:=H
 env:=fM b a s.heap.objs.size f d
 outer:=outer
 stack:=fM b a s.heap.objs.size f d::outer
 ex:=[]
 calm:=ah
 fn:=λ_=>ah
 pn:=[]
 xe:=λe s'=>aw (aE P w) (A.deeper (fM b a s.heap.objs.size f d)) (leaving (fM b a s.heap.objs.size f d) e) (λ_ c=>g outer H s E e c) (λh c=>g outer H s E h c) s'
theorem C7{a:eI}{n:Nat}{x:Str}(h:a.names.lookup x=aa .cell):∃c,(fV n a.names []).lookup x=aa c:=by have q:=GI a.names n [] (.inl h);exact BJ.mp q
theorem Ex{Y:eh}{P:a_}{w:aU}{K:au}{Q:Str->Option ai}{o:aI}{N C:List Str}{j:Str}{d:eI}{f:ac}{M:ai}{A:a4}{g:List Env}{s T:ao}{H:Hp}{E:XK}{O:List ai}{B:List V}(S:bE N C d) (hd:A.handled=af) (m:nM P w K Q o A g s H) (hl:B.length=C.length) (r:bD B O)(x:InCallC s s.heap.objs.size (bindL (fM j d s.heap.objs.size f M).kindOf (C.zip O) λ_=>af) (fV (s.heap.objs.size+1) d.names []) (bindC (fM j d s.heap.objs.size f M).kindOf (C.zip O) λ_=>af) T):Inv (fD Y P w K Q o N j d f M A g s H E) [] (start N B) H T:=by
 have cG:C.length<=N.length:=by have:=congrArg nh S.pre;rw[rQ]at this;lia
 obtain⟨L,tk,rfl,X⟩:=x.done;have D:∀b:ac,b∉(fD Y P w K Q o N j d f M A g s H E).ex:=λb z=>absurd (show b∈([]:List ac)from z) (by simp);refine⟨⟨m.mod,S.kind,rfl,rfl,bB _,λy z c L l=>?_,λy F=>?_,λy c _ h=>?_,λ_=>hd,Around.frames_deeper m.frames,.inr ⟨rfl,rfl⟩,λb z=>absurd z (D b),m.bs,m.bsz,λb _ _=>D b,λb z=>absurd z (D b),m.funs,m.frf,m.tab⟩,rfl,m.bare,Un.kept X,⟨_,x.toInCall.ns,λi y v L l h3=>?_⟩,λy c h=>⟨_,x.cell y c h⟩,m.hok.fresh (bB _),λy c h=>?_,λp I=>absurd (show p∈([]:List (ac×Obj))from I) (by simp),m.hok.kept X,?_⟩
 .exact name_of_addr x.apart (kY L) (kY l)
 .have F:d.names.lookup y=aa .cell\/d.names.lookup y=aa .free:=F;rcases F with F|F
  .exact C7 F
  .exact absurd rfl (S.nofree _ (kY F))
 .exact pC (x.above y c (kY h))
 .have J:i<B.length:=by
   unfold start at l;by_cases J:i<B.length
   .exact J
   .rw[rR (by simpa using J)]at l;rw[List.getElem?_replicate]at l;split at l <;> cases l
  have ha:B[i]?=aa v:=by
   unfold start at l;rw[i6 (by simpa using J),kc]at l;cases e:B[i]? with
   |none=>rw[e]at l;cases l
   |some a=>rw[e]at l;cases l;rfl
  obtain⟨u,W,Z⟩:=r.get ha;have I:C[i]?=aa y:=by rw[<-S.pre,List.getElem?_take_of_lt ∅];exact L
  have G:C.Nodup:=by rw[<-S.pre];exact S.nd.sublist (List.take_sublist _ _)
  refine⟨u,Z,?_⟩;rcases S.par y (BK I)with k|k
  .exact .inl ⟨k,Dh G I W k⟩
  .obtain⟨c,e⟩:=C7 (n:=s.heap.objs.size+1) k;refine .inr ⟨.inl k,c,e,?_⟩;have q:=x.cell y c e;rw[Ga G I W (by show d.names.lookup y≠_;rw[k];decide)]at q;exact q
 .exact m.hok.fresh (pC (x.above y c (kY h)))
 .unfold start;show _=N.length;rw[eZ,bS,List.length_replicate];lia
theorem yN{M:eh}{P:a_}{w:aU}{K:au}{L:Str->Option ai}{h:aI}{k:Nat}{f:ac}{m d:Str}{g:Arguments}{i:List aS}{a:eI}{dV kV F pm z ct oc:ai}{an od:Option ac}{X:Array (Option ai)}{N G:List Str}{O:Sp} (lk:K.lookup f=aa ⟨oc,od,.func (fu m d g i a dV kV F pm an z ct),X⟩) (ba:pG K z d=ah) (S:bE N G a)(len:∀l H Q E,O l H Q E->l.length=G.length)(fe:∀(A:a4) (c:List Env) (s:ao) (H:Hp) (l:List V) (Q:VK) (E:XK),cM k (A.deeper (fM d a s.heap.objs.size f z))->O l H Q E -> ∃t,kN (fD M P w K L h N d a f z A c s H E) i t/\t {nx:=λ_ p=>Q .non p,rt:=Q} (start N l) H):g7 P w K L h M (k+1) f (fu m d g i a dV kV F pm an z ct) G O:=by
 refine⟨len,λA c s H args us l Q E Z D hb r gY=>?_⟩;have hl:=len _ _ _ _ gY;have KX:K.In s.heap:=D.mod.kin.keeps λb o e=>(D.bs b o e).1;have Y:s.heap.NoLimit:=D.mod.nolimit.keeps λb o e=>(D.bs b o e).1;have Ce:∀y∈G.zip us,a.names.lookup y.1=aa .local\/(a.names.lookup y.1=aa .cell/\((fV (s.heap.objs.size+1) a.names []).lookup y.1).isSome=ah):=λ⟨n,v⟩ hy=>by
  rcases S.par n (BI hy).1 with q|q
  .exact .inl q
  .exact .inr ⟨q,GI _ _ _ (.inl q)⟩
 refine codeAny_call_function Z.depth (KX _ _ lk) rfl S.co S.gen rfl (PySem.W.codeRec_of KX ba) (hb _ _ _ _ ?_);refine wpAny_newFunctionEnv_cells S.kind Ce λenv he s1 x=>?_;subst he;refine⟨Y.keeps x.toInCall.keep,codeAny_func ?_⟩;obtain⟨t,ht,hq⟩:=fe A c s H l Q E (Z.deeper _) gY;have I:Inv (fD M P w K L h N d a f z A c s H E) [] (start N l) H s1:=Ex S Z.hd D hl r x;refine d4 (ht [] s1 (start N l) H _ I hq) (λfl T B=>?_) λe T B=>B;have C:∀{j:St}{p:Hp}{v:V}{u:ai},Inv (fD M P w K L h N d a f z A c s H E) [] j p T->RelV v u->Q v p->CE c P w H s Q u T :=λ{j p v u} J W q=>⟨v,p,J.os,J.bare,J.base,J.hok,W,q⟩
 cases fl with
 |ret u=>obtain⟨v,j,p,J,W,q⟩:=B;exact C J W q
 |next=>obtain⟨j,p,J,q⟩:=B;exact C (v:=V.non) (u:=Value.none) J rfl q
 |brk=>obtain⟨_,_,_,q⟩:=B;exact gn q
 |cont=>obtain⟨_,_,_,q⟩:=B;exact gn q
section
variable{X:Cx}{x:Str}{p a:Pos}{e:aD}{b:List aD}{t:TA}{c T:String}{r:List V->Hp->VK->Prop}
def Fw(r:List V->Hp->VK->Prop)(t:TA):TE:=λd H Q=>t d H λf g=>r f g Q
theorem rm(w:d_ X (.builtin c) r)(u:Gl X x)(q:X.mg x=af)(n:dZ x=aa (.builtin c))(y:PA X (e::b) t)(o:x≠"__name__":=by decide)(z:(x==("__debug__":Str))=aj:=by decide)(v:aN (e::b) X.env=(aj,aK e X.env)::aN b X.env:=by rfl) (A:(b9 a (aN b X.env)).any (·.1)=aj:=by rfl):PE X (.Call (.Name x p) (e::b) [] a) (Fw r t):=by intro f s d H Q I h;refine ya (xJ I u q n ?_ o z);exact PyProof.Rows.callWith_builtin1 (aW (y a f s d H _ I h) λi j ⟨g,C,B,l,m⟩=>w f j d C g i Q B l m) v A
theorem ub(w:d_ X (.type T) r)(u:Gl X x)(q:X.mg x=af)(n:dZ x=aa (.type T))(y:PA X (e::b) t)(o:x≠"__name__":=by decide)(z:(x==("__debug__":Str))=aj:=by decide)(v:aN (e::b) X.env=(aj,aK e X.env)::aN b X.env:=by rfl) (A:(b9 a (aN b X.env)).any (·.1)=aj:=by rfl):PE X (.Call (.Name x p) (e::b) [] a) (Fw r t):=by intro f s d H Q I h;refine ya (xJ I u q n ?_ o z);exact PyProof.Rows.callWith_type1 (aW (y a f s d H _ I h) λi j ⟨g,C,B,l,m⟩=>w f j d C g i Q B l m) v A
end
end L2
namespace HT
section
open PySem.SeqAt
open PySem.AutoSeq1 (wpAny_loadPart')
open PySem.MeetsSeq PySem.MeetsSeq2 PySem.MeetsSeq3
end
section
variable{a:a_}{w:aU}{A:a4}{E:ai->ao->Prop}{s:ao}
theorem cat_tup{t b:ac}{d c:List ai}{Q:ai->ao->Prop}(B:IsTup s.heap t d.toArray)(C:IsTup s.heap b c.toArray)(u:d≠[])(F:c=[]->Q (.ref t) s) (D:c≠[]->Q (.ref s.heap.objs.size) {s with heap:=s.heap.push {cls:=.type "tuple",data:=.seq (d++c).toArray}})(m:d.length+c.length<=bi):aw (aE a w) A (jH .Add (.ref t) (.ref b)) Q E s:=by
 obtain⟨⟨cls,y,data,q⟩,l,x,n,v⟩:=id B;obtain⟨⟨z,h,o,f⟩,i,g,r,p⟩:=id C;simp only at x v g p;subst x v g p;have e:d.toArray++c.toArray=(d++c).toArray:=by simp
 by_cases j:c=[]
 .exact concat_meets ⟨_,l,rfl⟩ ⟨_,i,rfl⟩ noFill_tuple_add seq_tuple_add PySem.F.slot_tuple_add PySem.F.entry_tuple_add (PySem.F.args_tuple_add_2 _ _)
   (tuple_addW1 t b d.toArray c.toArray n r y h q f (by simpa using u) (by simp[j])) ⟨l,i,F j⟩
 .refine concat_meets ⟨_,l,rfl⟩ ⟨_,i,rfl⟩ noFill_tuple_add seq_tuple_add PySem.F.slot_tuple_add PySem.F.entry_tuple_add (PySem.F.args_tuple_add_2 _ _)
   (tuple_addW2 t b d.toArray c.toArray n r y h q f (by simpa using u) (by simpa using j) (by rw[cR,cR];exact m)) ⟨l,i,?_⟩
  rw[e];exact D j
def sIx(n d:Nat):Option Int->Nat
 |none=>d
 |some v=>if v<0 then(v+(n:Int)).toNat else min v.toNat n
theorem sIx_nat(n d k:Nat):sIx n d (aa (k:Int))=min k n:=by show(if(k:Int)<0 then((k:Int)+(n:Int)).toNat else min (k:Int).toNat n)=min k n;rw[if_neg ∅,om]
theorem sIx_le(n d:Nat)(c:d<=n)(o:Option Int):sIx n d o<=n:=by
 cases o with
 |none=>exact c
 |some v=>
  show(if v<0 then(v+(n:Int)).toNat else min v.toNat n)<=n;by_cases b:v<0
  .rw[if_pos b];lia
  .rw[if_neg b];exact Nat.min_le_right _ _
theorem CV(v:Int)(n d:Nat):(if v<0 then max (v+(n:Int)) 0 else min v (n:Int))=((sIx n d (aa v):Nat):Int):=by
 show(if v<0 then max (v+(n:Int)) 0 else min v (n:Int))=(((if v<0 then(v+(n:Int)).toNat else min v.toNat n):Nat):Int)
 by_cases b:v<0
 .simp only[if_pos b];lia
 .simp only[if_neg b];lia
theorem K7(b c:Option Int)(n:Nat):GJ b c 1 (n:Int)=(((sIx n 0 b:Nat):Int),((sIx n n c:Nat):Int)):=by
 have d:¬((1:Int)<0):=∅
 unfold GJ;simp only[d,if_false];refine Prod.ext ?_ ?_
 .cases b with
  |none=>rfl
  |some v=>exact CV v n 0
 .cases c with
  |none=>rfl
  |some v=>exact CV v n n
theorem OG(i j:Nat):BL (i:Int) (j:Int) 1=j-i:=by
 unfold BL;have b:(1:Int) > 0:=∅
 simp only[b,if_true,Int.ediv_one];split <;> lia
theorem FR{v:ai}{o:Option Int}{Q:Option Int->ao->Prop}(p:nj v o)(h:Q o s):aw (aE a w) A (Builtin.Slice.slicePartIndex v) Q E s:=by
 cases p with
 |none=>exact slicePart_none h
 |int i t=>exact slicePart_int h
theorem Py{j:ac}{g f:ai}{b c:Option Int}{n:Nat}{Q:Int×Int×Nat->ao->Prop}(m:s.heap.IsSliceOf j g f .none)(pl:nj g b)(l:nj f c)(h:Q (((sIx n 0 b:Nat):Int),1,sIx n n c-sIx n 0 b) s):aw (aE a w) A (Builtin.Slice.sliceApplied (.ref j) (pure (n:Int))) Q E s:=by
 obtain⟨p,i,o,d⟩:=id m;unfold Builtin.Slice.sliceApplied Builtin.Slice.sliceFields;refine ax (ax (pH i d (x:=g) rfl (ax (pH i d (x:=f) rfl (ax (pH i d (x:=.none) rfl (aX ?_)))))));refine ax (slicePart_none ?_);show aw _ _ (if((1:Int) == 0)=ah then _ else _) _ _ s;rw[if_neg (by decide)];refine ax (FR pl (ax (FR l (ax (aX ?_)))));show aw _ _ (match GJ b c 1 (n:Int)with | (b,c)=>pure (b,(1:Int),BL b c 1)) _ _ s;rw[K7 b c n];show aw _ _ (pure (((sIx n 0 b:Nat):Int),(1:Int),BL ((sIx n 0 b:Nat):Int) ((sIx n n c:Nat):Int) 1)) _ _ s;rw[OG];exact aX h
theorem NT(xs:Array ai)(i k:Nat):((bX k).filterMap λ(m:Nat)=>xs[((i:Int)+(m:Int)*1).toNat]?).toArray=((xs.toList.drop i).take k).toArray:=by
 have e:(λ(m:Nat)=>xs[((i:Int)+(m:Int)*1).toNat]?)=λm=>xs[i+m]?:=by
  funext m;have:((i:Int)+(m:Int)*1).toNat=i+m:=∅
  rw[this]
 rw[e];have:=pick_run xs i k;rw[List.filterMap_map]at this;have b:((λx=>xs[x]?) ∘ λx=>i+x)=λm=>xs[i+m]?:=rfl;rw[b]at this;rw[this]
theorem getItem_tuple_cut{t i:ac}{b:Array ai}{p o:ai}{c d:Option Int}{Q:ai->ao->Prop}(g:IsTup s.heap t b)(r:s.heap.IsSliceOf i p o .none)(pl:nj p c)(v:nj o d)(y:¬(sIx b.size 0 c=0/\sIx b.size b.size d=b.size))(h:Q (.ref s.heap.objs.size) {s with heap:=s.heap.push {cls:=.type "tuple",data:=.seq ((b.toList.drop (sIx b.size 0 c)).take (sIx b.size b.size d-sIx b.size 0 c)).toArray}})(z:b.size<=bi):aw (aE a w) A (pI (.ref t) (.ref i)) Q E s:=by
 have f:sizeOk (.seq ((b.toList.drop (sIx b.size 0 c)).take (sIx b.size b.size d-sIx b.size 0 c)).toArray):=by show((b.toList.drop (sIx b.size 0 c)).take (sIx b.size b.size d-sIx b.size 0 c)).toArray.size<=bi;rw[cR,rQ,pJ,x6];lia
 have F:sIx b.size b.size d<=b.size:=sIx_le _ _ (bB _) d;obtain⟨x,u,l,B⟩:=id r;have n:s.TypeIs (.ref i) "slice":=⟨x,u,l⟩
 unfold pI
 try with_reducible refine pK ?_
 first|refine ax (aX ?_)|skip
 refine ax (wpAny_sequenceKey g.typeIs (by decide) ?_);refine ax (wpAny_callSpecial?_slot (name:=bY "__getitem__") g.typeIs RO (yd RO g.typeIs entry_tuple_getitem ?_ (args_tuple_getitem _ _)));show aw _ _ (Builtin.Tuple.tupleItemsOf (.ref t) >>= _) _ _ s;refine ax (tupleItemsOf_ g ?_);refine ax (wpAny_typeOf n ?_);rw[if_pos (by decide)];refine ax (Py r pl v ?_);have j:¬((((sIx b.size 0 c:Nat):Int) == 0&&(1:Int) == 1&&(sIx b.size b.size d-sIx b.size 0 c) == b.size)=ah):=by intro q;rw[dS,dS]at q;have D:((sIx b.size 0 c:Nat):Int)=0:=eq_of_beq q.1.1;have C:sIx b.size b.size d-sIx b.size 0 c=b.size:=eq_of_beq q.2;exact y ⟨∅,∅⟩
 show aw _ _ (if(((sIx b.size 0 c:Nat):Int) == 0&&(1:Int) == 1&&(sIx b.size b.size d-sIx b.size 0 c) == b.size)=ah then _ else _) _ _ s;rw[if_neg j,NT]
 first
  |exact ax (m:=BM _) (lO (aX ⟨_,rfl,aX h⟩) f)
  |exact ax (m:=BM _) (lO (ax (aX (aX ⟨_,rfl,aX h⟩))) f)
  |exact ax (ax (m:=BM _) (lO (aX (aX ⟨_,rfl,aX h⟩)) f))
  |exact ax (ax (m:=BM _) (lO (aX ⟨_,rfl,aX h⟩) f))
end
end HT
namespace L2
abbrev TO:=St->Hp->(Option Int->Hp->Prop)->Prop
def PO(X:Cx)(e:Option aD)(t:TO):Prop :=
 ∀(b:List (ac×Obj)) (s:ao) (a:St) (H:Hp) (Q:Option Int->Hp->Prop),Inv X b a H s->t a H Q ->
  aw (aE X.prog X.w) X.A (evalPart e X.env) (λu d=>∃o c,Inv X b a c d/\nj u o/\Q o c) X.xe s
def Qb:TO:=λ_ H Q=>Q af H
def Ke(t:TE):TO:=λa H Q=>t a H λx b=>∃i,x=.int i/\Q (aa i) b
section
variable{X:Cx}{e:aD}{f:TE}{c d:Option aD}{g j:TO}{n m:Pos}
theorem LS:PO X af Qb:=by intro b s a H Q I h;rw[evalPart_none];exact aX ⟨af,H,I,.none,h⟩
theorem N0(h:PE X e f):PO X (aa e) (Ke f):=by intro p s a H Q I o;rw[evalPart_some];refine aW (h p s a H _ I o) λu w ⟨x,v,r,b,l⟩=>?_;obtain⟨i,rfl,q⟩:=l;obtain⟨t,rfl⟩:=b;exact⟨aa i,v,r,.int i t,q⟩
def mx(X:Cx)(r:V->Option Int->Option Int->Hp->VK->Prop):Prop :=
 ∀(l:List (ac×Obj)) (s:ao) (a:St) (H:Hp) (x:V) (v h b:ai) (c d:Option Int) (i:ac) (Q:VK),Inv X l a H s->RelV x v->s.heap.IsSliceOf i h b .none->nj h c->nj b d->r x c d H Q ->
  ∃T o,typeLookup (.type T) "__getitem__"=pure (aa (.builtin o))/\s.TypeIs v T/\aw (aE X.prog X.w) X.A (pI v (.ref i)) (EP X l a Q) X.xe s
theorem mx.or{r p:V->Option Int->Option Int->Hp->VK->Prop}(h:mx X r)(z:mx X p):mx X (λx c d H Q=>r x c d H Q\/p x c d H Q):=by
 intro y s a H x v i b c d l Q I o w pl u q;rcases q with q|q
 .exact h y s a H x v i b c d l Q I o w pl u q
 .exact z y s a H x v i b c d l Q I o w pl u q
def O0(r:V->Option Int->Option Int->Hp->VK->Prop)(f:TE)(g j:TO):TE:=λa H Q=>f a H λx i=>g a i λl h=>j a h λu b=>r x l u b Q
theorem M7{r:V->Option Int->Option Int->Hp->VK->Prop}(K:mx X r)(N:PE X e f)(L:PO X c g)(G:PO X d j):PE X (.Subscript e (.Slice c d af m) n) (O0 r f g j):=by intro o s i H Q I h;refine Subscript_ (aW (N o s i H _ I h) λv A ⟨x,H1,Y,B,E⟩=>?_);refine wpAny_Slice (aW (L o A i H1 _ Y E) λw z ⟨l,Z,W,pl,D⟩=>aW (G o z i Z _ W D) λp a ⟨u,y,S,F,C⟩=>?_);rw[evalPart_none];refine aX ?_;have P:Inv X o i y {a with heap:=a.heap.push {cls:=.type "slice",data:=.fields #[w,p,.none]}}:=S.kept (t':=a.toks) λb ob q=>bN _ q;obtain⟨T,id,O,J,M⟩:=K o {a with heap:=a.heap.push {cls:=.type "slice",data:=.fields #[w,p,.none]}} i y x v w p l u a.heap.objs.size Q P B (Heap.IsSliceOf.new ..) pl F C;show aw (aE X.prog X.w) X.A (subscriptTail e (.Slice c d af m) v (.ref a.heap.objs.size)) (EP X o i Q) X.xe {a with heap:=a.heap.push {cls:=.type "slice",data:=.fields #[w,p,.none]}};exact tail_any (ops:=[.ref a.heap.objs.size,v]) J O M (by with_unfolding_all rfl)
def nJ(xs:List V)(c d:Option Int):List V:=(xs.drop (HT.sIx xs.length 0 c)).take (HT.sIx xs.length xs.length d-HT.sIx xs.length 0 c)
theorem CT(xs:List V)(c d:Option Int):(nJ xs c d).length<=xs.length:=by unfold nJ;rw[rQ,pJ];lia
def Fm(K:au):V->Option Int->Option Int->Hp->VK->Prop:=λx c d H Q=>∃a xs,x=.ref a/\dj K H a xs /\
 ¬(HT.sIx xs.length 0 c=0/\HT.sIx xs.length xs.length d=xs.length)/\∀p,H p=af->Q (.ref p) (upd H p (.tup (nJ xs c d)))
theorem Ll:mx X (Fm X.K):=by
 intro J s C H x v E D c d F Q I w B pl y h;obtain⟨a,xs,rfl,z,A,q⟩:=h;cases w;obtain⟨i,r,u,p⟩:=I.tuple z;have l:i.toArray.size=xs.length:=by rw[cR];exact r.length.symm
 refine⟨"tuple",_,PyProof.Rows.slot_tuple_getitem.lookup,u.typeIs,?_⟩;refine HT.getItem_tuple_cut u B pl y (by rw[l];exact A) ?_ (by rw[l];exact p);rw[l];refine⟨.ref s.heap.objs.size,_,I.laid (t':=s.toks) (o:=.tup (nJ xs c d)) (λb G q=>bN _ q) (bB _) ?_,rfl,q _ (I.hok.fresh (bB _))⟩;exact⟨d3 (CT xs c d) p,_,(r.drop (HT.sIx xs.length 0 c)).take (HT.sIx xs.length xs.length d-HT.sIx xs.length 0 c),Gq.new _ _⟩
def Du(K:au):R2:=λx y H Q=>∃a b xs h,x=.ref a/\y=.ref b/\dj K H a xs/\dj K H b h/\xs≠[]/\xs.length+h.length<=bi /\
 (h=[]->Q (.ref a) H)/\(h≠[]->∀p,H p=af->Q (.ref p) (upd H p (.tup (xs++h))))
theorem bD.nil_iff{xs:List V}{a:List ai}(r:bD xs a):a=[]↔xs=[]:=by
 cases r with
 |nil=>simp
 |cons _ _=>simp
theorem Sl:cf X (jH .Add) (Du X.K):=by
 intro O s M H x y v u Q I C B h;obtain⟨a,b,xs,A,rfl,rfl,L,K,J,r,E,D⟩:=h;cases C;cases B;obtain⟨G,l,F,_⟩:=I.tuple L;obtain⟨p,i,m,_⟩:=I.tuple K;refine HT.cat_tup F m (λz=>J (l.nil_iff.mp z)) (λz=>⟨.ref a,H,I,rfl,E (i.nil_iff.mp z)⟩) (λz=>?_) (by rw[<-l.length,<-i.length];exact r);refine⟨.ref s.heap.objs.size,_,I.laid (t':=s.toks) (o:=.tup (xs++A)) (λb N q=>bN _ q) (bB _) ?_,rfl,D (λw=>z (i.nil_iff.mpr w)) _ (I.hok.fresh (bB _))⟩;exact⟨by rw[eZ];exact r,_,l.append i,Gq.new _ _⟩
end
def ku(n:Nat)(i:Int):Option Nat:=if 0<=i then(if i<n then aa i.toNat else af)else if -(n:Int)<=i then aa (i+n).toNat else af
def dr{a:Type}(xs:List a)(i:Int):Option a:=(ku xs.length i).bind λj=>xs[j]?
theorem Kq{n:Nat}{i:Int}{j:Nat}(h:ku n i=aa j):seqIndex? i n=aa j/\j<n/\-(n:Int)<=i/\i<n:=by
 unfold ku at h;by_cases b:0<=i
 .rw[if_pos b]at h;by_cases a:i<n
  .rw[if_pos a]at h;have e:i.toNat=j:=fk h;exact⟨by rw[seqIndex_of b a,e],∅,∅,a⟩
  .rw[if_neg a]at h;cases h
 .rw[if_neg b]at h;by_cases a:-(n:Int)<=i
  .rw[if_pos a]at h;have e:(i+n).toNat=j:=fk h;exact⟨by rw[seqIndex_neg ∅ a,e],∅,a,∅⟩
  .rw[if_neg a]at h;cases h
theorem zo{a:Type}{xs:List a}{i:Int}{v:a}(h:dr xs i=aa v):∃j,seqIndex? i xs.length=aa j/\xs[j]?=aa v/\j<xs.length/\-(xs.length:Int)<=i/\i<xs.length:=by
 unfold dr at h;cases e:ku xs.length i with
 |none=>rw[e]at h;cases h
 |some j=>rw[e]at h;obtain⟨f,d,c,b⟩:=Kq e;exact⟨j,f,h,d,c,b⟩
theorem Pf{a:Type}{xs:List a}{j:Nat}{v:a}(h:xs[j]?=aa v):dr xs (j:Int)=aa v:=by
 have b:j<xs.length:=(cF.mp h).1;have e:ku xs.length (j:Int)=aa j:=by unfold ku;rw[if_pos ∅,if_pos ∅];simp
 unfold dr;rw[e];exact h
def EY(b:aD):Prop:=∀o i,BN b aj o i=operate [o,i] (pI o i)
def lZ(X:Cx)(r:R2):Prop :=
 ∀(b a:aD) (d:List (ac×Obj)) (s:ao) (c:St) (H:Hp) (x y:V) (v u:ai) (Q:VK),Inv X d c H s->RelV x v->RelV y u->r x y H Q ->
  BN a aj v u=operate [v,u] (pI v u)->aw (aE X.prog X.w) X.A (subscriptTail b a v u) (EP X d c Q) X.xe s
def xY(X:Cx)(d:String)(r:V->List V->Hp->VK->Prop):Prop :=
 ∀(c:List (ac×Obj)) (s:ao) (a:St) (H:Hp) (x:V) (xs:List V) (v:ai) (b:List ai) (Q:VK),Inv X c a H s->RelV x v->bD xs b->r x xs H Q ->
  aw (aE X.prog X.w) X.A (call (.builtin d) (v::b)) (EP X c a Q) X.xe s
section
variable{X:Cx}{a b:aD}{G F:TE}{E:Pos}
theorem lZ.or{r j:R2}(h:lZ X r)(n:lZ X j):lZ X (λx y H Q=>r x y H Q\/j x y H Q):=by
 intro c d m s f H x y v u Q I i g q l;rcases q with q|q
 .exact h c d m s f H x y v u Q I i g q l
 .exact n c d m s f H x y v u Q I i g q l
theorem L7{r:R2}(j:lZ X r)(m:PE X a G)(l:PE X b F)(i:EY b):PE X (.Subscript a b E) (wg r G F):=by intro n s c H Q I h;exact Subscript_ (A7 m l I h λv u d x y p o g f q=>j a b n d c p x y v u Q o g f q (i _ _))
def Fb(K:au):R2:=λx y H Q=>∃p xs i v,x=.ref p/\y=.int i/\cp K H p xs/\dr xs i=aa v/\Q v H
def Cr(K:au):R2:=λx y H Q=>∃p xs i v,x=.ref p/\y=.int i/\dj K H p xs/\dr xs i=aa v/\Q v H
def CC:R2:=λx y H Q=>∃z i c,x=.str z/\y=.int i/\z.length<=bi/\dr z.cps.toList i=aa c/\Q (.str ⟨#[c]⟩) H
theorem So:lZ X (Fb X.K):=by
 intro f g D s o H x y v u Q I L K h A;obtain⟨p,xs,i,z,rfl,rfl,M,O,q⟩:=h;cases L;obtain⟨t,rfl⟩:=K;obtain⟨m,r,pl,W⟩:=I.list M;obtain⟨j,d,T,Z,S,P⟩:=zo O;obtain⟨w,C,l⟩:=r.get T;have N:=r.length;have Y:=tm;have c:EP X D o Q w s:=⟨z,H,I,l,q⟩
 by_cases B:0<=i
 .have n:i.toNat=j:=by
   rw[seqIndex_of B P]at d;exact fk d
  exact item_listR pl.isList B ∅ (by rw[n];simpa using C) c A
 .have n:(i+(m.toArray.size:Int)).toNat=j:=by
   rw[seqIndex_neg ∅ S]at d;rw[cR,<-N];exact fk d
  exact subscriptTail_builtinR (x:=w) pl.isList.typeIs slot_list_getitem.lookup
   (wpAny_getItem_list_neg (Q:=λr J=>r=w/\EP X D o Q r J) pl.isList ∅ (by rw[cR] <;> lia) ∅ (by rw[n];simpa using C) ⟨rfl,c⟩) A
theorem Sw:lZ X (Cr X.K):=by
 intro c d m s l H x y v u Q I A o h C;obtain⟨p,xs,i,z,rfl,rfl,D,K,q⟩:=h;cases A;obtain⟨t,rfl⟩:=o;obtain⟨B,r,pl,O⟩:=I.tuple D;obtain⟨j,M,L,W,T,S⟩:=zo K;obtain⟨w,N,f⟩:=r.get L;have J:=r.length;have P:=tm;have g:EP X m l Q w s:=⟨z,H,I,f,q⟩
 exact subscriptTail_builtinR (x:=w) pl.typeIs slot_tuple_getitem.lookup
  (getItem_tuple (j:=j) (Q:=λr n=>r=w/\EP X m l Q r n) pl ∅ ∅ (by rw[cR,<-J];exact M) (by simpa using N) ⟨rfl,g⟩) C
theorem MY:lZ X CC:=by
 intro d f N s D H x y v u Q I m l h n;obtain⟨z,i,c,rfl,rfl,K,p,q⟩:=h;obtain⟨t,rfl⟩:=m;obtain⟨J,rfl⟩:=l;obtain⟨j,g,A,M,w,r⟩:=zo p;have o:z.cps.toList.length=z.length:=by simp[Str.length]
 rw[o]at g w r;have L:=tm;exact tail_any (typeIs_str s z t) slot_str_getitem.lookup (getItem_str (c:=c) (by have C:decide (i < -(2^63:Int))=aj:=decide_eq_false ∅;have B:decide (i ≥ 2^63)=aj:=decide_eq_false ∅;rw[C,B,Bool.or_false]) (by rw[g];simpa using A) ⟨.str ⟨#[c]⟩,H,I.tok _,⟨_,rfl⟩,q⟩) n
def FC(K:au):R2:=λx y H Q=>Fb K x y H Q\/Cr K x y H Q\/CC x y H Q
theorem gd:lZ X (FC X.K):=So.or (Sw.or MY)
theorem Ob(c d:Option Int)(n:Nat):(rT c d af n).1=((HT.sIx n 0 c:Nat):Int)/\(rT c d af n).2.1=((HT.sIx n n d:Nat):Int)/\(rT c d af n).2.2=1:=by
 refine⟨?_,?_,rfl⟩
 .cases c with
  |none=>simp[rT,HT.sIx]
  |some i=>
   simp only[rT,HT.sIx,GK,show(1:Int) > 0 by decide,if_true];by_cases h:i<0
   .simp only[h,if_true] <;> lia
   .simp only[h,if_false] <;> lia
 .cases d with
  |none=>simp[rT,HT.sIx]
  |some i=>
   simp only[rT,HT.sIx,GK,show(1:Int) > 0 by decide,if_true];by_cases h:i<0
   .simp only[h,if_true] <;> lia
   .simp only[h,if_false] <;> lia
theorem II(c:List ai)(d f:Option Int):slicePick c.toArray d f af=((c.drop (HT.sIx c.length 0 d)).take (HT.sIx c.length c.length f-HT.sIx c.length 0 d)).toArray:=by obtain⟨i,h,g⟩:=Ob d f c.toArray.size;unfold slicePick;rw[i,h,g];simp only[sliceRange_one,pick_run,cR] <;> rfl
def Ei(K:au):V->Option Int->Option Int->Hp->VK->Prop:=λx c d H Q=>∃a xs,x=.ref a/\cp K H a xs/\∀p,H p=af->Q (.ref p) (upd H p (.lst (nJ xs c d)))
theorem Sg:mx X (Ei X.K):=by
 intro B s u H x v y w c d z Q I g n pl i h;obtain⟨a,xs,rfl,m,q⟩:=h;cases g;obtain⟨j,r,f,l⟩:=I.list m;have p:=r.length;refine⟨"list",_,slot_list_getitem.lookup,f.isList.typeIs,?_⟩;refine wpAny_getItem_list_slice f.isList n pl i .none (by simp) ?_ (by rw[cR] <;> lia);rw[II,<-p];refine⟨.ref s.heap.objs.size,_,I.laid (t':=s.toks) (o:=.lst (nJ xs c d)) (λb A q=>bN _ q) (bB _) ?_,rfl,q _ (I.hok.fresh (bB _))⟩;exact⟨d3 (CT xs c d) l,_,0,(r.drop (HT.sIx xs.length 0 c)).take (HT.sIx xs.length xs.length d-HT.sIx xs.length 0 c),cW _ rfl⟩
def gb:V->Bool
 |.non=>ah
 |.bl _=>ah
 |.int _=>ah
 |.str _=>ah
 |_=>aj
def dX:V->V->Bool
 |.non,.non=>ah
 |.bl a,.bl b=>a == b
 |.bl a,.int b=>(if a then 1 else 0) == b
 |.int a,.bl b=>a == (if b then 1 else 0)
 |.int a,.int b=>a == b
 |.str a,.str b=>a == b
 |_,_=>aj
theorem Ej{A:a4}{s:ao}{y x:V}{u v:ai}(f:RelV y u)(c:RelV x v)(h:gb y=ah)(g:gb x=ah):ye A s u v (dX y x):=by
 cases y with
 |non=>
  cases f;cases x with
  |non=>cases c;exact SeqAt.EqAt.same _
  |bl b=>cases c;exact SeqAt.EqAt.none_bool b
  |int b=>obtain⟨t,rfl⟩:=c;exact SeqAt.EqAt.none_int b t
  |str b=>obtain⟨t,rfl⟩:=c;exact SeqAt.EqAt.none_str b t
  |_=>exact absurd (show aj=ah from g) gh
 |bl a=>
  cases f;cases x with
  |non=>cases c;exact SeqAt.EqAt.bool_none a
  |bl b=>cases c;exact SeqAt.EqAt.bool_bool a b
  |int b=>obtain⟨t,rfl⟩:=c;exact SeqAt.EqAt.bool_int a b t
  |str b=>obtain⟨t,rfl⟩:=c;exact SeqAt.EqAt.bool_str a b t
  |_=>exact absurd (show aj=ah from g) gh
 |int a=>
  obtain⟨d,rfl⟩:=f;cases x with
  |non=>cases c;exact SeqAt.EqAt.int_none a d
  |bl b=>cases c;exact SeqAt.EqAt.int_bool a d b
  |int b=>obtain⟨t,rfl⟩:=c;exact SeqAt.EqAt.int_int a d b t
  |str b=>obtain⟨t,rfl⟩:=c;exact SeqAt.EqAt.int_str a d b t
  |_=>exact absurd (show aj=ah from g) gh
 |str a=>
  obtain⟨d,rfl⟩:=f;cases x with
  |non=>cases c;exact SeqAt.EqAt.str_none a d
  |bl b=>cases c;exact SeqAt.EqAt.str_bool a d b
  |int b=>obtain⟨t,rfl⟩:=c;exact SeqAt.EqAt.str_int a d b t
  |str b=>obtain⟨t,rfl⟩:=c;exact SeqAt.EqAt.str_str a d b t
  |_=>exact absurd (show aj=ah from g) gh
 |_=>exact absurd (show aj=ah from h) gh
def gD(x:V)(u:ai):Bool:=match u with
 |.none=>dX .non x
 |.bool b=>dX (.bl b) x
 |.int i _=>dX (.int i) x
 |.str z _=>dX (.str z) x
 |_=>aj
theorem ww{x y:V}{u:ai}(r:RelV y u)(f:gb y=ah):gD x u=dX y x:=by
 cases y with
 |non=>cases r;rfl
 |bl b=>cases r;rfl
 |int i=>obtain⟨t,rfl⟩:=r;rfl
 |str z=>obtain⟨t,rfl⟩:=r;rfl
 |_=>exact absurd (show aj=ah from f) gh
theorem tJ{x:V}:∀{xs:List V}{c:List ai},bD xs c->xs.all gb=ah->c.any (gD x)=xs.any λy=>dX y x
 |_,_,.nil,_=>rfl
 |y::xs,u::c,.cons r t,f=>by rw[rV,dS]at f;rw[lP,lP,ww r f.1,tJ t f.2]
theorem nE{A:a4}{s:ao}{x:V}{v:ai}(g:RelV x v)(h:gb x=ah):∀{xs:List V}{d:List ai},bD xs d->xs.all gb=ah->∀u∈d,ye A s u v (gD x u)
 |_,_,.nil,_=>λu c=>by cases c
 |y::xs,u::d,.cons r t,f=>λi c=>by
  rw[rV,dS]at f;rcases b8.mp c with rfl|c
  .rw[ww r f.1];exact Ej r g f.1 h
  .exact nE g h t f.2 i c
def tw(x:V)(xs:List V):Bool:=xs.any λy=>dX y x
def tG(K:au)(neg:Bool):R2:=λx y H Q=>∃p xs,y=.ref p/\(cp K H p xs\/dj K H p xs)/\gb x=ah/\xs.all gb=ah/\Q (.bl (if neg then !tw x xs else tw x xs)) H
theorem Qe:cf X (d7 .In) (tG X.K aj):=by
 intro n s m H x y v u Q I g j h;obtain⟨p,xs,rfl,d,i,fs,q⟩:=h;cases j;rcases d with d|d
 .obtain⟨c,r,pl,l⟩:=I.list d;refine SeqAt.in_listAt (gD x) pl.isList (λw f=>nE g i r fs w (by simpa using f)) ⟨.bl _,H,I,rfl,?_⟩;rw[show c.toArray.any (gD x)=c.any (gD x) by simp,tJ r fs];exact q
 .obtain⟨c,r,pl,l⟩:=I.tuple d;refine SeqAt.in_tupleAt (gD x) pl (λw f=>nE g i r fs w (by simpa using f)) ⟨.bl _,H,I,rfl,?_⟩;rw[show c.toArray.any (gD x)=c.any (gD x) by simp,tJ r fs];exact q
theorem HY:cf X (d7 .NotIn) (tG X.K ah):=by
 intro n s m H x y v u Q I g j h;obtain⟨p,xs,rfl,d,i,fs,q⟩:=h;cases j;rcases d with d|d
 .obtain⟨c,r,pl,l⟩:=I.list d;refine SeqAt.notIn_listAt (gD x) pl.isList (λw f=>nE g i r fs w (by simpa using f)) ⟨.bl _,H,I,rfl,?_⟩;rw[show c.toArray.any (gD x)=c.any (gD x) by simp,tJ r fs];exact q
 .obtain⟨c,r,pl,l⟩:=I.tuple d;refine SeqAt.notIn_tupleAt (gD x) pl (λw f=>nE g i r fs w (by simpa using f)) ⟨.bl _,H,I,rfl,?_⟩;rw[show c.toArray.any (gD x)=c.any (gD x) by simp,tJ r fs];exact q
theorem Sy:cf X (d7 .NotIn) (λx y H Q=>∃i j,x=.str i/\y=.str j/\Q (.bl (!(!(x8 j i 0 j.length 1).isEmpty))) H):=by intro l s f H x y v u Q I d c h;obtain⟨i,j,rfl,rfl,q⟩:=h;obtain⟨t,rfl⟩:=d;obtain⟨g,rfl⟩:=c;exact notIn_str ⟨.bl _,H,I,rfl,q⟩
theorem d_.or{f:ai}{r i:List V->Hp->VK->Prop}(h:d_ X f r)(l:d_ X f i):d_ X f (λxs H Q=>r xs H Q\/i xs H Q):=by
 intro j s c H xs d Q I g q;rcases q with q|q
 .exact h j s c H xs d Q I g q
 .exact l j s c H xs d Q I g q
theorem Bo:d_ X (.type "list") (λxs H Q=>∃p f,xs=[.ref p]/\(cp X.K H p f\/dj X.K H p f)/\∀l,H l=af->Q (.ref l) (upd H l (.lst f))):=by
 intro J s B H xs K Q I r h;obtain⟨p,f,rfl,v,q⟩:=h;obtain⟨u,rfl,C⟩:=vals1 r;cases C;have w:∀(c:List ai),bD f c->f.length<=bi->∀(d:aI) (i:Nat),(∀b A,s.heap.get? b=aa A->d.get? b=aa A) ->
   d.get? s.heap.objs.size=aa {cls:=.type "list",dict:=af,data:=.seq c.toArray i,slots:=#[]}->EP X J B Q (.ref s.heap.objs.size) {s with heap:=d}:=λc g m d i j e=>
  ⟨.ref s.heap.objs.size,_,I.laid (t':=s.toks) j (bB _) (show dq X.prog X.w _ d _ (.lst f)from⟨m,c,i,g,e⟩),rfl,q _ (I.hok.fresh (bB _))⟩
 rcases v with v|v
 .obtain⟨c,g,pl,m⟩:=I.list v;have D:=g.length;obtain⟨o,x,z,n,y⟩:=pl.isList;exact call_list_seq p (.inl rfl) x z y (λd i j e=>w c g m d i j e) (by simp only[cR] <;> lia)
 .obtain⟨c,g,pl,m⟩:=I.tuple v;have D:=g.length;obtain⟨o,x,z,n,y⟩:=pl;exact call_list_seq p (.inr rfl) x z y (λd i j e=>w c g m d i j e) (by simp only[cR] <;> lia)
theorem xC:d_ X (.type "tuple") (λxs H Q=>∃p d,xs=[.ref p]/\((cp X.K H p d/\∀l,H l=af->Q (.ref l) (upd H l (.tup d)))\/(dj X.K H p d/\Q (.ref p) H))):=by
 intro m s i H xs y Q I r h;obtain⟨p,d,rfl,h⟩:=h;obtain⟨u,rfl,v⟩:=vals1 r;cases v;rcases h with⟨hq,q⟩|⟨hq,q⟩
 .obtain⟨c,g,pl,j⟩:=I.list hq;have z:=g.length;refine call_tuple_list pl.isList (λf w=>?_) (by simp only[cR] <;> lia);have n:Inv X m i H {s with heap:=f}:=I.kept (t':=s.toks) w;have x:Inv X m i (upd H f.objs.size (.tup d)) {s with heap:=f.push {cls:=.type "tuple",data:=.seq c.toArray}} :=n.laid (t':=s.toks) (λb o e=>bN _ e) (bB _) (show dq X.prog X.w _ _ _ (.tup d)from⟨j,c,g,Gq.new _ _⟩);exact⟨.ref f.objs.size,_,x,rfl,q _ (n.hok.fresh (bB _))⟩
 .obtain⟨c,g,pl,j⟩:=I.tuple hq;exact call_tuple_same pl ⟨.ref p,H,I,rfl,q⟩
def Bn(K:au)(T:String)(x:V)(H:Hp):Prop:=match x with
 |.str _=>T = "str"
 |.int _=>T = "int"
 |.ref p=>(T = "list"/\∃xs,cp K H p xs)\/(T = "tuple"/\∃o,K.lookup p=aa o/\o.cls=.type "tuple"/\o.dict=af) \/
   (T = "dict"/\((∃c,H p=aa (.dK c))\/∃c,H p=aa (.dT c)))\/(T = "set"/\∃S n,H p=aa (.set S n))
 |_=>False
theorem Dx{m:List (ac×Obj)}{j:St}{H:Hp}{s:ao}{T:String}{x:V}{v:ai}(I:Inv X m j H s)(r:RelV x v)(ty:Bn X.K T x H):s.TypeIs v T/\∀a,v=.ref a->∃h,s.heap.get? a=aa h/\h.dict=af:=by
 cases x with
 |str z=>
  obtain⟨t,rfl⟩:=r;cases (show T = "str" from ty);exact⟨typeIs_str s z t,λ_ e=>nomatch e⟩
 |int i=>
  obtain⟨t,rfl⟩:=r;cases (show T = "int" from ty);exact⟨typeIs_int s i t,λ_ e=>nomatch e⟩
 |ref p=>
  cases r;rcases ty with⟨rfl,xs,hq⟩|⟨rfl,o,hk,hc,f⟩|⟨rfl,hk⟩|⟨rfl,S,n,hk⟩
  .obtain⟨l,_,pl,_⟩:=I.list hq;refine⟨pl.isList.typeIs,λa e=>?_⟩;cases e;obtain⟨o,n,e,c,f,_⟩:=pl;exact⟨o,e,f⟩
  .refine⟨⟨o,I.kIn p o hk,hc⟩,λa e=>?_⟩;cases e;exact⟨o,I.kIn _ o hk,f⟩
  .have z:∃o,s.heap.get? p=aa o/\o.ExactDict:=by
    rcases hk with⟨kvs,hk⟩|⟨kvs,hk⟩
    .obtain⟨_,_,_,_,o,_,_,e,d,_⟩:=I.hok p _ hk;exact⟨o,e,d⟩
    .obtain⟨_,_,_,_,o,_,_,e,d,_⟩:=I.hok p _ hk;exact⟨o,e,d⟩
   obtain⟨o,e,d⟩:=z;refine⟨⟨o,e,d.1⟩,λa g=>?_⟩;cases g;exact⟨o,e,d.2.1⟩
  .obtain⟨o,_,_,_,e,d,_⟩:=I.hok p _ hk;refine⟨⟨o,e,d.1⟩,λa g=>?_⟩;cases g;exact⟨o,e,d.2.1⟩
 |_=>exact gn ty
def Pe(K:au)(T:String)(r:V->List V->Hp->VK->Prop)(B:TE):TE:=λd H Q=>B d H λx c=>Bn K T x c/\r x [] c Q
def J7(K:au)(T:String)(r:V->List V->Hp->VK->Prop)(B:TE)(t:TA):TE:=λc H Q=>B c H λx d=>Bn K T x d/\t c d λxs f=>r x xs f Q
variable{o e:aD}{D:List aD}{B:TE}{t:TA}{g:Str}{m d:Pos}{T C:String}{r:V->List V->Hp->VK->Prop}
theorem Do(q:PlainAttrs T)(c:Slot T g C)(u:typeOf (.builtin C)=pure (.type "method_descriptor"))(A:xY X C r)(z:PE X o B)(y:fq o g X.env (aK o X.env)=aK o X.env:=by rfl) (w:(m.endLine == d.line)=ah:=by rfl):PE X (.Call (.Attribute o g m) [] [] d) (Pe X.K T r B):=by intro j s f H Q I h;refine wpAny_Call_method0_late y w (aW (z j s f H _ I h) λv n ⟨x,L,l,i,ty,p⟩=>?_);obtain⟨K,J⟩:=Dx l i ty;exact⟨T,C,q,c,u,K,J,yf rfl (PySem.evalArgs_none (A j n f L x [] v [] Q l i .nil p))⟩
theorem ph(A:PlainAttrs T)(c:Slot T g C)(J:typeOf (.builtin C)=pure (.type "method_descriptor"))(O:xY X C r)(N:PE X o B)(P:PA X (e::D) t)(L:fq o g X.env (aK o X.env)=aK o X.env:=by rfl)(Cg:((b9 d (aN (e::D) X.env)).all (λx=>!x.1)&&(jp d (jq [] X.env)).all (λx=>x.1.isSome)&&decide ((e::D).length+([]:List gq).length+(if([]:List gq).isEmpty then 0 else 1)<30))=ah:=by rfl)(K:(m.endLine == d.line)=ah:=by rfl) (M:aN (e::D) X.env=(aj,aK e X.env)::aN D X.env:=by rfl) (Cd:(b9 d (aN D X.env)).any (·.1)=aj:=by rfl):PE X (.Call (.Attribute o g m) (e::D) [] d) (J7 X.K T r B t):=by intro i s f H Q I h;refine wpAny_Call_method_late L Cg K rfl (aW (N i s f H _ I h) λv u ⟨x,H1,n,j,ty,z⟩=>?_);obtain⟨W,S⟩:=Dx n j ty;refine⟨T,C,A,c,J,W,S,?_⟩;have l:=P d i u f H1 _ n z;rw[M]at l ⊢;refine yf (by show(aj||(b9 d (aN D X.env)).any (·.1))=aj;rw[Cd] <;> rfl) (yg ?_);exact aW l λp q ⟨vs,Z,Y,w,y⟩=>O i q f Z x vs v p Q Y j w y
end
def rM(X:Cx)(d:String)(r:V->List V->Hp->VK->Prop):Prop :=
 ∀(c:List (ac×Obj)) (s:ao) (a:St) (H:Hp) (x:V) (xs:List V) (v:ai) (b:List ai) (Q:VK),Inv X c a H s->RelV x v->bD xs b->r x xs H Q ->
  aw (aE X.prog X.w) X.A (call (.builtin d) (v::b)) (EP X c a Q) X.xe s
theorem bD.one:∀{x:V}{a:List ai},bD [x] a->∃u,a=[u]/\RelV x u
 |_,_,.cons r .nil=>⟨_,rfl,r⟩
theorem bD.zero:∀{a:List ai},bD [] a->a=[]
 |_,.nil=>rfl
theorem bD.dropLast{xs:List V}{a:List ai}(h:bD xs a):bD xs.dropLast a.dropLast:=by
 induction h with
 |nil=>exact .nil
 |cons r t b=>
  cases t with
  |nil=>exact .nil
  |cons q c=>exact .cons r b
theorem JM{c:Type}(l:List c):l.eraseIdx (l.length-1)=l.dropLast:=by
 induction l with
 |nil=>rfl
 |cons a r d=>
  cases r with
  |nil=>rfl
  |cons b r=>
   have e:(a::b::r).length-1=((b::r).length-1)+1:=by have g:(a::b::r).length=r.length+2:=rfl;have f:(b::r).length=r.length+1:=rfl;lia
   rw[e,List.eraseIdx_cons_succ,d]
   all_goals rfl
section
variable{X:Cx}{c:List (ac×Obj)}{σ:St}{H:Hp}{s:ao}{l b:ac}{xs a d:List V}
theorem Inv.lset{g its':List ai}{n:Nat}{f:Array ai->Array ai}{h:Nat}(I:Inv X c σ H s)(r:H l=aa (.lst xs))(e:s.heap.get? l=aa {cls:=.type "list",data:=.seq g.toArray n}) (o:f g.toArray=its'.toArray) (j:bD a its') (i:a.length<=bi):Inv X c σ (upd H l (.lst a)) {s with heap:=s.heap.update l (uJ f),toks:=h}:=by have q:=PySem.IsL.update e f;rw[o]at q;refine I.write (x:=l) (e:=l) (by rw[r];exact trivial) (.inl rfl) (λv u p m=>(pL s.heap (uJ f) (dQ p)).trans m) ⟨_,q⟩ ?_;exact⟨i,its',_,j,q⟩
theorem Inv.lnew{its:List ai}{t':Nat}(I:Inv X c σ H s)(g:bD a its)(f:a.length<=bi):Inv X c σ (upd H s.heap.objs.size (.lst a)) {s with heap:=s.heap.push {cls:=.type "list",data:=.seq its.toArray},toks:=t'} :=I.laid (λ_ _ q=>bN _ q) (bB _) ⟨f,its,0,g,cW _ rfl⟩
theorem Inv.fresh(I:Inv X c σ H s):H s.heap.objs.size=af:=I.hok.fresh (bB _)
theorem Inv.lstM(I:Inv X c σ H s)(g:H l=aa (.lst xs)):xs.length<=bi/\∃(f:List ai) (n:Nat),bD xs f/\xs.length=f.length/\s.heap.get? l=aa {cls:=.type "list",data:=.seq f.toArray n}:=by obtain⟨z,f,n,r,e⟩:=I.hok l _ g;exact⟨z,f,n,r,r.length,e⟩
theorem Ps{n:Nat}(h:n<=bi):GL n=aj:=by unfold GL;exact decide_eq_false ∅
end
section
variable{X:Cx}
def NM:V->List V->Hp->VK->Prop:=λx a H Q=>∃l xs y,x=.ref l/\a=[y]/\H l=aa (.lst xs)/\xs.length<bi/\Q .non (upd H l (.lst (xs++[y])))
theorem tQ:rM X "list.append" NM:=by
 intro m s f H x vs v g Q I b c h;obtain⟨l,xs,y,rfl,rfl,a,i,q⟩:=h;cases b;obtain⟨u,rfl,d⟩:=c.one;obtain⟨z,its,n,r,j,e⟩:=I.lstM a;refine uK F.slot_list_append ⟨_,e,rfl⟩ F.entry_list_append (F.args_list_append_2 _ _) (PySem.list_append l its.toArray n u (by rw[cR];lia)) ⟨e,?_⟩;refine⟨.non,_,I.lset (its':=its++[u]) a e (by simp) (r.append (.cons d .nil)) ?_,rfl,q⟩;rw[eZ,pM];lia
def On:V->List V->Hp->VK->Prop:=λx a H Q=>∃l xs y,x=.ref l/\a=[]/\H l=aa (.lst xs)/\xs[xs.length-1]?=aa y/\Q y (upd H l (.lst xs.dropLast))
theorem LN:rM X "list.pop" On:=by
 intro B s p H x w v A Q I f g h;obtain⟨l,xs,y,rfl,rfl,d,j,q⟩:=h;cases f;have c:=g.zero;subst c;obtain⟨z,a,n,r,o,e⟩:=I.lstM d;obtain⟨u,m,i⟩:=r.get j;have b:a.toArray[a.toArray.size-1]?=aa u:=by show a.toArray[a.length-1]?=aa u;rw[<-GM,<-o];exact m
 refine uK F.slot_list_pop ⟨_,e,rfl⟩ F.entry_list_pop (F.args_list_pop_1 _) (MeetsSeq.list_pop_last l a.toArray n u b (by rw[cR];lia)) ⟨e,?_⟩;refine⟨y,_,I.lset (its':=a.dropLast) d e ?_ r.dropLast ?_,i,q⟩
 .show a.toArray.eraseIdxIfInBounds (a.toArray.size-1)=a.dropLast.toArray;rw[cR,List.eraseIdxIfInBounds_toArray,JM]
 .rw[yh];lia
theorem M_{a:Type}(xs:List a)(k:Nat):(cX k xs).flatten.length=k*xs.length:=by
 induction k with
 |zero=>simp
 |succ k b=>rw[GN,List.flatten_cons,eZ,b,Nat.succ_mul,Nat.add_comm]
end
section
variable{a:Type}[DecidableEq a]
def eN(kvs:List (a×V))(k:a):Option V:=(kvs.find? λb=>decide (b.1=k)).map (·.2)
def eW(b:List (a×V))(k:a)(v:V):List (a×V) :=if(b.any λc=>decide (c.1=k))=ah then b.map (λc=>if c.1=k then(c.1,v)else c)else b++[(k,v)]
theorem qU{p:a×V}{r:List (a×V)}{k:a}(e:p.1=k):eN (p::r) k=aa p.2:=by simp[eN,ij,e]
theorem oZ{p:a×V}{r:List (a×V)}{k:a}(e:¬p.1=k):eN (p::r) k=eN r k:=by simp[eN,ij,e]
theorem zC(k:a):∀b:List (a×V),(b.any λc=>decide (c.1=k))=(eN b k).isSome
 |[]=>rfl
 |p::r=>by
  rw[lP];by_cases e:p.1=k
  .simp only[qU e,decide_eq_true e,Bool.true_or,Option.isSome_some]
  .rw[oZ e,decide_eq_false e,Bool.false_or];exact zC k r
theorem Bl(b:List (a×V))(k:a)(v:V):(eW b k v).length<=b.length+1:=by
 unfold eW;split
 .rw[bS];lia
 .rw[eZ,fL,lQ];lia
theorem JU{b:List (a×V)}{k:a}(v:V)(h:eN b k=af):eW b k v=b++[(k,v)]:=by unfold eW;rw[zC,h];exact if_neg (by decide)
theorem lN.isSome_eq{o:Option V}{u:Option ai}(r:lN o u):o.isSome=u.isSome:=by
 cases o with
 |none=>cases u with
  |none=>rfl
  |some _=>exact(show False from r).elim
 |some _=>cases u with
  |none=>exact(show False from r).elim
  |some _=>rfl
theorem lN.getD{o:Option V}{u:Option ai}{d:V}{b:ai}(r:lN o u)(rd:RelV d b):RelV (o.getD d) (u.getD b):=by
 cases o with
 |none=>cases u with
  |none=>exact rd
  |some _=>exact(show False from r).elim
 |some _=>cases u with
  |none=>exact(show False from r).elim
  |some _=>exact r
theorem KV.val{kvs:List (a×V)}{vs:List (a×ai)}(r:KV kvs vs)(k:a):lN (eN kvs k) (rW vs k):=by
 unfold KV at r
 induction r with
 |nil=>exact True.intro
 |@cons p q ps qs h t ih=>
  obtain⟨d,f⟩:=h;by_cases e:p.1=k
  .have c:q.1=k:=d.symm.trans e;have b:rW (q::qs) k=aa q.2:=by simp[rW,ij,c]
   rw[qU e,b];exact f
  .have c:¬q.1=k:=λz=>e (d.trans z);have b:rW (q::qs) k=rW qs k:=by simp[rW,ij,c]
   rw[oZ e,b];exact ih
theorem KV.any{b:List (a×V)}{vs:List (a×ai)}(r:KV b vs)(k:a):(b.any λc=>decide (c.1=k))=vs.any λc=>decide (c.1=k):=by
 unfold KV at r
 induction r with
 |nil=>rfl
 |cons h t d=>rw[lP,lP,d,h.1]
theorem KV.repl{c:List (a×V)}{f:List (a×ai)}(r:KV c f)(k:a){y:V}{u:ai}(g:RelV y u):KV (c.map λb=>if b.1=k then(b.1,y)else b) (f.map λb=>if b.1=k then(b.1,u)else b):=by
 unfold KV at r ⊢
 induction r with
 |nil=>exact .nil
 |@cons p q ps qs h t ih=>
  rw[eY,eY];refine .cons ?_ ih;obtain⟨d,i⟩:=h;by_cases e:p.1=k
  .rw[if_pos e,if_pos (d.symm.trans e)];exact⟨d,g⟩
  .rw[if_neg e,if_neg (λz=>e (d.trans z))];exact⟨d,i⟩
theorem KV.put{b:List (a×V)}{c:List (a×ai)}(r:KV b c)(k:a){y:V}{u:ai}(d:RelV y u):KV (eW b k y) (stored c k u):=by
 unfold eW stored;rw[r.any k];by_cases e:(c.any λf=>decide (f.1=k))=ah
 .rw[if_pos e,if_pos e];exact r.repl k d
 .rw[if_neg e,if_neg e];exact yj r ⟨rfl,d⟩
theorem KV.length{kvs:List (a×V)}{vs:List (a×ai)}(r:KV kvs vs):kvs.length=vs.length:=Paired.length r
end
theorem rK{P:a_}{w:aU}{k:aJ}{u:ai}(r:RelV (kV k) u):(g9 P w).is k u=ah:=by
 cases k with
 |inl i=>obtain⟨t,e⟩:=(show ∃t,u=Value.int i t from r);subst e;exact HS P w i t
 |inr x=>obtain⟨t,e⟩:=(show ∃t,u=Value.str x t from r);subst e;exact KA P w x t
theorem C_{P:a_}{w:aU}:∀{ks:List aJ}{a:List ai},bD (ks.map kV) a->ItemsAre (g9 P w) ks a
 |[],_,r=>by rw[List.map_nil]at r;cases r;exact .nil
 |k::ks,_,r=>by
  rw[eY]at r;cases r with
  |cons h t=>exact .cons (rK h) (C_ t)
abbrev KT(H:Hp):List (List aJ×V)->List (List aJ×ac×ai)->Prop:=kQ λp q=>p.1=q.1/\H q.2.1=aa (.tup (p.1.map kV))/\RelV p.2 q.2.2
theorem KT.val{H:Hp}{kvs:List (List aJ×V)}{xs:List (List aJ×ac×ai)}(r:KT H kvs xs)(k:List aJ):lN (eN kvs k) ((atKey xs k).map (·.2)):=by
 induction r with
 |nil=>exact True.intro
 |@cons p q ps qs h t ih=>
  obtain⟨c,_,d⟩:=h;by_cases e:p.1=k
  .have a:q.1=k:=c.symm.trans e;have b:atKey (q::qs) k=aa q.2:=by simp[atKey,ij,a]
   rw[qU e,b];exact d
  .have a:¬q.1=k:=λz=>e (c.trans z);have b:atKey (q::qs) k=atKey qs k:=by simp[atKey,ij,a]
   rw[oZ e,b];exact ih
theorem KT.repl{H:Hp}{a:List (List aJ×V)}{xs:List (List aJ×ac×ai)}(r:KT H a xs)(k:List aJ){y:V}{u:ai}(f:RelV y u):KT H (a.map λc=>if c.1=k then(c.1,y)else c) (xs.map (putAt k u)):=by
 induction r with
 |nil=>exact .nil
 |@cons p q ps qs h t ih=>
  rw[eY,eY];refine .cons ?_ ih;obtain⟨b,d,g⟩:=h;unfold putAt;by_cases e:p.1=k
  .rw[if_pos e,if_pos (b.symm.trans e)];exact⟨b,d,f⟩
  .rw[if_neg e,if_neg (λz=>e (b.trans z))];exact⟨b,d,g⟩
theorem KT.put{H:Hp}{a:List (List aJ×V)}{xs:List (List aJ×ac×ai)}(r:KT H a xs)(k:List aJ){b:ac}{y:V}{u:ai}(f:H b=aa (.tup (k.map kV)))(c:RelV y u):KT H (eW a k y) (storedH xs k b u):=by
 have e:(a.any λd=>decide (d.1=k))=(atKey xs k).isSome:=by rw[zC,(r.val k).isSome_eq,Option.isSome_map]
 unfold eW storedH;rw[e];by_cases q:(atKey xs k).isSome=ah
 .rw[if_pos q,if_pos q];exact r.repl k c
 .rw[if_neg q,if_neg q];exact yj r ⟨rfl,f,c⟩
theorem KT.keeps{H d:Hp}{a:List (List aJ×V)}{xs:List (List aJ×ac×ai)}(r:KT H a xs)(f:∀b c,H b=aa (.tup c)->d b=aa (.tup c)):KT d a xs :=Paired.mapP r λ_ _ z=>⟨z.1,f _ _ z.2.1,z.2.2⟩
section
variable{P:a_}{w:aU}{H:Hp}{h:aI}{a:ac}
theorem Fq{u:HO}(ok:dw P w H h)(e:Rd H a u):dq P w H h a u:=e.ok ok
theorem rL{b:List (aJ×V)}(ok:dw P w H h)(e:Rd H a (.dK b)):b.length<=bi/\(a == kR)=aj/\∃c,KV b c/\h.DictOf (g9 P w) a c :=show dq P w H h a (.dK b)from Fq ok e
theorem tY{kvs:List (aJ×V)}(ok:dw P w H h)(e:H a=aa (.dK kvs)):kvs.length<=bi/\(a == kR)=aj/\∃b,KV kvs b/\h.DictOf (g9 P w) a b:=rL ok (.inl e)
theorem t5{ks:List aJ}(ok:dw P w H h)(e:H a=aa (.tup (ks.map kV))):(uA (g9 P w)).is h ks a:=by
 obtain⟨_,b,r,⟨o,f,d,n,c⟩,_⟩:=(show dq P w H h a (.tup (ks.map kV))from ok a _ e)
 exact⟨o,b.toArray,n,f,d,c,by simpa using C_ r⟩
theorem rh{b:List (List aJ×V)}(ok:dw P w H h)(e:Rd H a (.dT b)):b.length<=bi/\(a == kR)=aj /\ ∃xs,KT H b xs/\h.DictOfH (uA (g9 P w)) a xs:=by
 obtain⟨z,y,xs,r,o,n,s,j,i,g,f,d⟩:=(show dq P w H h a (.dT b)from Fq ok e)
 refine⟨z,y,xs,r,o,n,s,j,i,g,f,λx c=>?_,d⟩;have all:∀{l:List (List aJ×V)}{m:List (List aJ×ac×ai)},KT H l m->∀x∈m,(uA (g9 P w)).is h x.1 x.2.1:=by
  intro l m q
  induction q with
  |nil=>intro x c;exact nomatch c
  |@cons p q ps qs hq t ih=>
   intro x c;rcases b8.mp c with e|c
   .subst e;exact t5 ok (by rw[<-hq.1];exact hq.2.1)
   .exact ih x c
 exact all r x c
theorem Is{b:List (List aJ×V)}(ok:dw P w H h)(e:H a=aa (.dT b)):b.length<=bi/\(a == kR)=aj /\ ∃xs,KT H b xs/\h.DictOfH (uA (g9 P w)) a xs:=rh ok (.inl e)
end
def lA(H:Hp)(a:ac)(y:V)(r:Option V):Prop :=(∃c k,Rd H a (.dK c)/\y=kV k/\r=eN c k)\/∃c k b,Rd H a (.dT c)/\y=.ref b/\H b=aa (.tup (k.map kV))/\r=eN c k
def x0(H:Hp)(a:ac)(y v:V)(d:Hp):Prop :=
 (∃c k,H a=aa (.dK c)/\y=kV k/\c.length<bi/\d=upd H a (.dK (eW c k v))) \/
 ∃c k b,H a=aa (.dT c)/\y=.ref b/\H b=aa (.tup (k.map kV))/\c.length<bi/\d=upd H a (.dT (eW c k v))
theorem lA.k{H:Hp}{a:ac}{kvs:List (aJ×V)}{k:aJ}(e:H a=aa (.dK kvs)):lA H a (kV k) (eN kvs k):=.inl ⟨kvs,k,.inl e,rfl,rfl⟩
theorem lA.t{H:Hp}{a b:ac}{c:List (List aJ×V)}{k:List aJ}(e:H a=aa (.dT c))(d:H b=aa (.tup (k.map kV))):lA H a (.ref b) (eN c k):=.inr ⟨c,k,b,.inl e,rfl,d,rfl⟩
theorem x0.k{H:Hp}{a:ac}{kvs:List (aJ×V)}{k:aJ}{v:V}(e:H a=aa (.dK kvs))(b:kvs.length<bi):x0 H a (kV k) v (upd H a (.dK (eW kvs k v))):=.inl ⟨kvs,k,e,rfl,b,rfl⟩
theorem x0.t{H:Hp}{a b:ac}{c:List (List aJ×V)}{k:List aJ}{v:V}(e:H a=aa (.dT c))(f:H b=aa (.tup (k.map kV)))(d:c.length<bi):x0 H a (.ref b) v (upd H a (.dT (eW c k v))):=.inr ⟨c,k,b,e,rfl,f,d,rfl⟩
section
variable{X:Cx}{f:List (ac×Obj)}{d:St}{H:Hp}{s:ao}{a:ac}{y v:V}{u r:ai}{o:Option V}{A:a4}{E:ai->ao->Prop}
theorem Inv.big(I:Inv X f d H s):kR<s.heap.objs.size:=by have h:b7<s.heap.objs.size:=(I.mod.glob.keeps I.bk).lt;exact BO (by decide) h
theorem MP{Q:ai->ao->Prop}(x:A.units+1<cLine)(I:Inv X f d H s)(g:lA H a y (aa v))(q:RelV y u)(h:∀i n,Inv X f d H n->RelV v i->Q i n):aw (aE X.prog X.w) A (pI (.ref a) u) Q E s:=by
 rcases g with⟨kvs,k,e,ey,l⟩|⟨kvs,k,b,e,ey,eb,l⟩
 .subst ey;obtain⟨z,C,w,rel,m⟩:=rL I.hok e;obtain⟨i,j,c⟩:=lN.some_of (v:=v) (o:=rW w k) (by rw[l];exact rel.val k);exact wpAny_getItem_of (rK q) m.mapOf j (h i _ (I.tok _) c)
 .subst ey;cases (show u=Value.ref b from q);obtain⟨z,C,xs,rel,m⟩:=rh I.hok e;obtain⟨i,j,c⟩:=lN.some_of (v:=v) (o:=(atKey xs k).map (·.2)) (by rw[l];exact rel.val k);obtain⟨p,B,D⟩:=uL.mp j;refine wpAny_getItem_heap (BP x) (t5 I.hok eb) m B ?_;rw[D];exact h i _ (I.tok _) c
theorem Pp{Q:ai->ao->Prop}(n:A.units+1<cLine)(I:Inv X f d H s)(g:lA H a y o)(m:RelV y u)(h:∀j,Inv X f d H j->Q (.bool (!o.isSome)) j):aw (aE X.prog X.w) A (d7 .NotIn u (.ref a)) Q E s:=by
 rcases g with⟨kvs,k,e,ey,l⟩|⟨kvs,k,b,e,ey,eb,l⟩
 .subst ey;obtain⟨z,c,p,rel,i⟩:=rL I.hok e;refine wpAny_notIn_of (rK m) c i.mapOf ?_;rw[<-(rel.val k).isSome_eq,<-l];exact h _ (I.tok _)
 .subst ey;cases (show u=Value.ref b from m);obtain⟨z,c,xs,rel,i⟩:=rh I.hok e;refine wpAny_notIn_heap (BP n) (t5 I.hok eb) c i ?_;have q:=(rel.val k).isSome_eq;rw[Option.isSome_map]at q;rw[<-q,<-l];exact h _ (I.tok _)
theorem y9{c:aI}{h:Nat}{g:HO}(I:Inv X f d H s)(i:tj (H a))(j:kU a s.heap c)(l:∃q,c.get? a=aa q)(new:dq X.prog X.w (upd H a g) c a g):Inv X f d (upd H a g) {s with heap:=c,toks:=h} :=I.write (x:=a) (e:=a) i (.inl rfl) (λb q m z=>(j.2 b m).trans z) l new
theorem CI{P:a_}{w:aU}{j:Hp}{g:aI}{b:List (aJ×V)}{c:List (aJ×ai)}(z:b.length<=bi)(h:(a == kR)=aj)(rel:KV b c)(i:g.DictOf (g9 P w) a c):dq P w j g a (.dK b):=⟨z,h,c,rel,i⟩
theorem KS{J:Hp}{Q:Unit->ao->Prop}(L:A.units+1<cLine)(I:Inv X f d H s)(g:x0 H a y v J)(C:RelV y u)(D:RelV v r)(h:∀B,Inv X f d J B->Q () B):aw (aE X.prog X.w) A (setItem (.ref a) u r) Q E s:=by
 rcases g with⟨kvs,k,e,ey,l,eH⟩|⟨kvs,k,b,e,ey,eb,l,eH⟩
 .subst ey eH;obtain⟨z,w,K,rel,x⟩:=tY I.hok e;have m:K.length<=bi:=by rw[<-rel.length];exact z
  have p:(eW kvs k v).length<=bi:=by have:=Bl kvs k v;lia
  refine wpAny_setItem_pairs (hsz:=m) (rK C) x λF i n=>h _ ?_;have M:∃q,F.get? a=aa q:=let ⟨q,_,_,j,_⟩:=i;⟨q,j⟩
  exact y9 I (by rw[e];exact True.intro) n M (CI p w (rel.put k D) i)
 .subst ey eH;cases (show u=Value.ref b from C);obtain⟨z,w,xs,rel,x⟩:=Is I.hok e;have m:xs.length<=bi:=by rw[<-Paired.length rel];exact z
  have p:(eW kvs k v).length<=bi:=by have:=Bl kvs k v;lia
  refine wpAny_setItem_heap (hsz:=m) (BP L) (t5 I.hok eb) x λF i n=>h _ ?_;obtain⟨q,T,W,j,S,P,O,_,N⟩:=i;refine y9 I (by rw[e];exact True.intro) n ⟨q,j⟩ ⟨p,w,_,(rel.put k eb D).keeps λc Y G=>?_,q,T,W,j,S,P,O,N⟩;rw[bo (Ii G e (λz=>nomatch z))];exact G
end
def wS(i:aD):Prop:=∀ov a,BN i aj ov a=operate [ov,a] (pI ov a)
theorem Q1{a:a_}{w:aU}{A:a4}{E:ai->ao->Prop}{s:ao}{m:Env}{c b:aD}{q:Pos}{T v:String}{Q:ai->ao->Prop}(z:typeLookup (.type T) "__getitem__"=pure (aa (.builtin v))) (y:wS b)(h:aw (aE a w) A (aK c m) (λo j=>aw (aE a w) A (aK b m) (λi d=>d.TypeIs o T/\aw (aE a w) A (pI o i) Q E d) E j) E s):aw (aE a w) A (aK (.Subscript c b q) m) Q E s:=by
 refine Subscript_ (d4 h (λo j p=>d4 p (λi d f=>?_) λ_ _ x=>x) λ_ _ x=>x);obtain⟨u,f⟩:=f;unfold subscriptTail;refine ax ?_;rw[getitemInPython_of_ne u.not_modules];refine ax (wpAny_specialOf u z ?_);have l:aw (aE a w) A (BN b aj o i) (λr g=>aw (aE a w) A (letTemporaryGo c o r >>= λ_=>pure r) Q E g) E d:=by rw[y o i];exact wpAny_operating (d4 f (λr g n=>ax (wpAny_letTemporaryGo (aX n))) λ_ _ x=>x)
 first
  |exact aX (ax l)
  |exact ax (aX (ax l))
  |exact ax l
theorem Mt{X:Cx}{f:List (ac×Obj)}{d:St}{H:Hp}{s:ao}{a:ac}{y:V}{o:Option V}(I:Inv X f d H s)(g:lA H a y o):s.TypeIs (.ref a) "dict":=by
 rcases g with⟨kvs,k,e,_,_⟩|⟨kvs,k,b,e,_,_,_⟩
 .obtain⟨_,_,h,_,c⟩:=rL I.hok e;exact c.typeIs
 .obtain⟨_,_,xs,_,c⟩:=rh I.hok e;exact c.typeIs
def J8(d ty:TE):TE:=λb H Q=>d b H λx f=>ty b f λy c=>∃a v,x=.ref a/\lA c a y (aa v)/\Q v c
def JT(ty d:TE):TE:=λb H Q=>ty b H λy f=>d b f λx c=>∃a o,x=.ref a/\lA c a y o/\Q (.bl (!o.isSome)) c
def JR(f ty d:TE):TS:=λD b H=>d b H λv i=>f b i λx h=>ty b h λy g=>∃a c,x=.ref a/\x0 g a y v c/\D.nx b c
section
variable{X:Cx}{o i e b:aD}{d c m:Pos}{j f l:TE}
theorem Co(D:X.A.units+1<cLine)(F:PE X o j)(G:PE X i f)(E:wS i):PE X (.Subscript o i d) (J8 j f):=by intro q s p H Q I h;refine Q1 PySem.F.slot_dict_getitem.lookup E (aW (F q s p H _ I h) λu w ⟨x,N,L,A,C⟩=>aW (G q w p N _ L C) λT S ⟨y,M,r,z,a,v,J,g,B⟩=>?_);subst J;obtain rfl:u=Value.ref a:=A;exact⟨Mt r g,MP D r g z λO P K n=>⟨v,M,K,n,B⟩⟩
theorem OR(A:X.A.units+1<cLine)(C:PE X i f)(B:PE X o j):PC X .NotIn i o (JT f j):=by intro p s n H Q I h;refine aW (C p s n H _ I h) λN q ⟨y,K,G,r,z⟩=>aW (B p q n K _ G z) λu M ⟨x,J,F,v,a,ov,D,g,w⟩=>?_;subst D;obtain rfl:u=Value.ref a:=v;exact Pp A F g r λL E=>⟨.bl (!ov.isSome),J,E,rfl,w⟩
theorem C5(J:X.A.units+1<cLine)(L:PE X o j)(M:PE X i f)(G:PE X b l)(K:ii b (aa (.Subscript o i c)) d.line X.env=pure aj):PS X (.Assign [.Subscript o i c] b d) (JR j f l):=by intro p s n H D I h;refine wpAny_Assign_Subscript (aW (G p s n H _ I h) λr w ⟨v,Y,S,B,F⟩=>aW (L p w n Y _ S F) λu q ⟨x,W,Q,A,E⟩=>aW (M p q n W _ Q E) λiv s3 ⟨y,H3,P,z,a,T,N,g,C⟩=>?_) K;subst N;obtain rfl:u=Value.ref a:=A;exact KS J P g z B λZ O=>⟨n,T,O,C⟩
end
theorem K6{P:a_}{w:aU}{H:Hp}(h:aI)(a:kR<h.objs.size):dq P w H (h.push {cls:=.type "dict",data:=.dict #[]}) h.objs.size (.dK []) :=⟨jJ _,beq_eq_false_iff_ne.mpr (dQ (dm a)),[],.nil,Heap.DictOf.new h⟩
theorem Nv{P:a_}{w:aU}{H:Hp}(h:aI)(a:kR<h.objs.size):dq P w H (h.push {cls:=.type "dict",data:=.dict #[]}) h.objs.size (.dT []) :=⟨jJ _,beq_eq_false_iff_ne.mpr (dQ (dm a)),[],.nil,_,#[],0,cW _ rfl,⟨rfl,rfl,rfl⟩,rfl,rfl,List.nodup_nil⟩
def Ox:TE:=λ_ H Q=>∀p,H p=af->Q (.ref p) (upd H p (.dK []))
def L5:TE:=λ_ H Q=>∀p,H p=af->Q (.ref p) (upd H p (.dT []))
section
variable{X:Cx}{b:Pos}
theorem Dy:PE X (.Dict [] [] b) Ox:=λd s c H Q I h=>wpAny_Dict_empty ⟨.ref s.heap.objs.size,_,I.laid (a:=s.heap.objs.size) (o:=.dK []) (t':=s.toks) (λ_ _ q=>bN _ q) (bB _) (K6 s.heap I.big),rfl,h _ (I.hok.fresh (bB _))⟩
theorem QG:PE X (.Dict [] [] b) L5:=λd s c H Q I h=>wpAny_Dict_empty ⟨.ref s.heap.objs.size,_,I.laid (a:=s.heap.objs.size) (o:=.dT []) (t':=s.toks) (λ_ _ q=>bN _ q) (bB _) (Nv s.heap I.big),rfl,h _ (I.hok.fresh (bB _))⟩
end
structure M1(X:Cx)(o:aD)(m:Str)(apos:Pos)(e:aD)(cpos:Pos):Prop where
 base:fq o m X.env (aK o X.env)=aK o X.env
 few:((b9 cpos (aN [e] X.env)).all (λx=>!x.1)&&(jp cpos (jq [] X.env)).all (λx=>x.1.isSome)&&decide (([e]:List aD).length+([]:List gq).length+(if([]:List gq).isEmpty then 0 else 1)<30))=ah
 line:(apos.endLine == cpos.line)=ah
 trees:b9 cpos (aN [e] X.env)=[(aj,aK e X.env)]
structure M2(X:Cx)(o:aD)(m:Str)(apos:Pos)(e f:aD)(cpos:Pos):Prop where
 base:fq o m X.env (aK o X.env)=aK o X.env
 few:((b9 cpos (aN [e,f] X.env)).all (λx=>!x.1)&&(jp cpos (jq [] X.env)).all (λx=>x.1.isSome)&&decide (([e,f]:List aD).length+([]:List gq).length+(if([]:List gq).isEmpty then 0 else 1)<30))=ah
 line:(apos.endLine == cpos.line)=ah
 trees:b9 cpos (aN [e,f] X.env)=[(aj,aK e X.env),(aj,aK f X.env)]
def zy(H:Hp)(a:ac):Prop:=(∃b,Rd H a (.dK b))\/∃b,Rd H a (.dT b)
theorem E4{X:Cx}{l:List (ac×Obj)}{j:St}{H:Hp}{s:ao}{a:ac}(I:Inv X l j H s)(d:zy H a):s.TypeIs (.ref a) "dict"/\(∀b,Value.ref a=.ref b->∃c,s.heap.get? b=aa c/\c.dict=af)/\(a == kR)=aj:=by
 rcases d with⟨kvs,e⟩|⟨kvs,e⟩
 .obtain⟨_,g,m,_,f⟩:=rL I.hok e;refine⟨f.typeIs,λb q=>?_,g⟩;cases q;obtain⟨c,_,_,i,h,_⟩:=f;exact⟨c,i,h.2.1⟩
 .obtain⟨_,g,xs,_,f⟩:=rh I.hok e;refine⟨f.typeIs,λb q=>?_,g⟩;cases q;obtain⟨c,_,_,i,h,_⟩:=f;exact⟨c,i,h.2.1⟩
section
variable{X:Cx}{f:List (ac×Obj)}{c:St}{H:Hp}{s:ao}{a:ac}{y d:V}{u r:ai}{o:Option V}{A:a4}{E:ai->ao->Prop}
theorem JH{Q:ai->ao->Prop}(q:A.units+1<cLine)(I:Inv X f c H s)(g:lA H a y o)(p:RelV y u)(rd:RelV d r)(h:∀m n,Inv X f c H n->RelV (o.getD d) m->Q m n):aw (aE X.prog X.w) A (call (.builtin "dict.get") [.ref a,u,r]) Q E s:=by
 rcases g with⟨kvs,k,e,ey,l⟩|⟨kvs,k,b,e,ey,eb,l⟩
 .subst ey;obtain⟨z,j,v,rel,i⟩:=rL I.hok e;refine BQ GO i.typeIs PySem.F.entry_dict_get (PySem.F.args_dict_get_3 _ _ _) (meets_dict_get_default (g9 X.prog X.w) a (rK p) j r) ⟨_,i.mapOf,h _ _ (I.tok _) ?_⟩;rw[l];exact(rel.val k).getD rd
 .subst ey;cases (show u=Value.ref b from p);obtain⟨z,j,xs,rel,i⟩:=rh I.hok e;refine BQ GO i.typeIs PySem.F.entry_dict_get (PySem.F.args_dict_get_3 _ _ _) (meetsH_dict_get_default (uA (g9 X.prog X.w)) a b j r) ⟨BP q,k,xs,t5 I.hok eb,i,h _ _ (I.tok _) ?_⟩;rw[l];exact(rel.val k).getD rd
end
def Ph(f ty tx:TE):TE:=λb H Q=>f b H λx d=>∃a,x=.ref a/\zy d a/\ty b d λy g=>tx b g λz c=>∃o,lA c a y o/\Q (o.getD z) c
section
variable{X:Cx}{o e f:aD}{c b:Pos}{j i tx:TE}
theorem KO(J:X.A.units+1<cLine)(K:PE X o j)(M:PE X e i)(L:PE X f tx)(m:M2 X o "get" c e f b):PE X (.Call (.Attribute o "get" c) [e,f] [] b) (Ph j i tx):=by intro p s l H Q I h;refine wpAny_Call_method m.base m.few m.line GP GO PySem.F.type_dict_get (aW (K p s l H _ I h) λu A ⟨x,Y,q,D,a,N,d,G⟩=>?_);subst N;obtain rfl:u=Value.ref a:=D;obtain⟨v,r,_⟩:=E4 q d;refine⟨v,r,?_⟩;rw[m.trees];refine yf rfl (yg (uH (aW (M p A l Y _ q G) λiv w ⟨y,W,S,C,F⟩=>uH (aW (L p w l W _ S F) λfv s3 ⟨z,T,P,B,ov,g,E⟩=>BG ?_))));exact JH J P g C B λZ s4 O n=>⟨_,T,O,n,E⟩
end
end L2
namespace Att
open PySem PySem.W PySem.Calls PyProof.Rows
theorem Qi{P:Params}{h:aI}:∀(c:List Int) (d:List ai),WellAll P h d (c.map WData.int)->IntsAre d c:=by
 intro c
 induction c with
 |nil=>
  intro d w;rw[List.map_nil]at w;cases w;exact .nil
 |cons n c f=>
  intro d w;rw[eY]at w;cases w with
  |cons a b=>
   cases a;exact .cons _ _ (f _ b)
theorem Rm{l:OpenLaw}{n:Nat}(y:l.most=aa n){P:Params}{h:aI}{args:List WData}{c:List ai}(p:l.row.toRowW.claim.pre args=ah) (j:WellAll P h c args):∃a o b,c=[Value.ref a]/\args=[WData.list (b.map WData.int)]/\h.get? a=aa {cls:=.type "list",data:=.seq o.toArray}/\IntsAre o b/\b.length<=n:=by
 have m:WShape.hasAll [] args [.list .int]=ah:=(pre_splitW p).1;have s:l.pre.holds [] {args:=args}=ah:=(pre_splitW p).2;obtain⟨d,r,rfl,B,A⟩:=hasAllW_cons m;obtain rfl:=hasAllW_nil A;obtain⟨xs,rfl,z⟩:=hasW_list B;obtain⟨b,rfl⟩:=items_int z;have C:b.length<=n:=by
  unfold OpenLaw.pre at s;have i:(WTm.not (.lt (.lit (.int (n:Int))) (.len (.arg 0)))).holds [] {args:=[.list (b.map .int)]}=ah:=by have i:=(holds_andW s).1;rw[y]at i;exact i
  have g:=condW_of i (w_not (w_lt w_lit (w_len_list (w_arg rfl))));rw[bS]at g;refine Nat.le_of_not_lt λq=>?_;have w:(n:Int)<((b.length:Nat):Int):=∅
  first
   | (rw[decide_eq_true w]at g;exact absurd g (by decide))
   | (simp at g;lia)
 cases j with
 |cons v u=>
  cases u;cases v with
  |list x f=>exact⟨_,_,b,rfl,rfl,x,Qi b _ f,C⟩
theorem NQ(l:OpenLaw)(args:List WData):l.row.toRowW.claim.post args (.bool ah) args=ah :=
 postW_of (r:=l.row.toRowW) (X:=(ah == ah))
  (show WShape.has [] (.bool ah) .bool=ah by first|rfl|decide|simp[WShape.has,WShape.arms,WShape.armsAll])
  (show(WTm.eq .res (.lit (.bool ah))).value [] {args:=args,res:=aa (.bool ah),after:=args}=aa (.bool (ah == ah))from w_eq_bool (w_res rfl) w_lit) rfl
theorem attach_call{l:OpenLaw}{n:Nat}{q:a_}{g:List Str}{XP:(Str->Option ai)->aI->Prop}{D:aU->aI->Prop}{d:DefRec}(L:l.most=aa n) (H:d.params.defaults=[])(call:∀(w:aU) (c b:ao) (s x:Str->Option ai) (j:ac) (o:Obj) (v u h:ai) (a:ac) (i:List ai) (p:List Int),Ground q g [] XP w c s x b.heap->D w b.heap -> b.heap.get? j=aa o->o.data=.func (docDef d.name d.params d.body d.scope v u h)->b.heap.CodeRec u d.name->s d.name=aa (.ref j) -> b.heap.get? a=aa {cls:=.type "list",data:=.seq i.toArray}->IntsAre i p->p.length<=n->b.gens=#[] -> ka (aE l.prog w) rX (.call (.ref j) ⟨[.ref a],[]⟩) (λr m=>r=.ok (.ret (.bool ah))/\OldK b.heap m.heap/\m.os=b.os/\mZ m.gens) b):WalkO q g XP D l.row.toRowW d [] (λf i=>PySem.call f i):=by intro w c b s x G Y j o v u h dV kV K P X B E O C z as F A I y N;obtain rfl:dV=.none:=Dflts.none B H;obtain rfl:kV=.none:=Dflts.noKw B;obtain⟨a,i,p,rfl,rfl,Z,Cf,W⟩:=Rm L F y;refine enter_call (ol (call w c b s x j o v u h a i p G Y K (fd_plain P) X E Z Cf W O) λr m J=>?_);obtain⟨rfl,T,S,Q⟩:=J;exact⟨.inl ⟨.bool ah,.bool ah,[],rfl,λ_=>rfl,.bool ah,NQ l _,λ_=>⟨List.Pairwise.nil,λ_ M=>(nomatch M)⟩⟩,T,S,Q⟩
end Att
namespace L2
theorem Cy:∀{a:List ai}{b:List Int},IntsAre a b->bD (b.map V.int) a
 |_,_,.nil=>.nil
 |_,_,.cons n t h=>.cons ⟨t,rfl⟩ (Cy h)
def AT(H:Hp):Prop:=∀b,H b=af\/(∃o xs,H b=aa (.frz o (.lst xs)))\/∃q,H b=aa (.tbl q)
def jw(K:au):Hp:=λb=>match pB K "least_ending" with
 |some (_,P)=>if b=P then aa (.tbl "least_ending.<locals>.<lambda>")else af
 |none=>af
theorem o4{K:au}{b:ac}{u:HO}(h:jw K b=aa u):u=.tbl "least_ending.<locals>.<lambda>"/\∃c,pB K "least_ending"=aa (c,b):=by
 unfold jw at h;split at h
 .rename_i c P e;split at h
  .rename_i a;subst a;cases h;exact⟨rfl,c,e⟩
  .cases h
 .cases h
theorem Dc{K:au}{c P:ac}(h:pB K "least_ending"=aa (c,P)):jw K P=aa (.tbl "least_ending.<locals>.<lambda>"):=by unfold jw;rw[h];exact if_pos rfl
def CL(K:au)(h:aI):Prop:=∀c P,pB K "least_ending"=aa (c,P)->PySem.W.codeHdIn K c P=ah/\K.lookup P=af/\h.get? P=aa {cls:=.none,data:=.fields #[]}
theorem NE{P:a_}{w:aU}{K:au}{L mb:Str->Option ai}{CX:eh}{k:Nat}{fa a:ac}{fd:gG}{x:Str}{sp:Sp}{f:ao}{G:List ai}{M:List Int}(KX:K.In f.heap) (oz:f.heap.Ns b7 L) (j:f.heap.Ns pA mb) (p5:∀x:Str,x≠"__name__"->mb x=dZ x) (O:f.heap.NoLimit) (su:∃E B,L "__builtins__"=aa (.ref E)/\E≠pA/\f.heap.get? E=aa B/\B.cls=.type "module"/\B.dict=aa pA/\B.data=.plain) (C:CL K f.heap) (hg:f.gens=#[])(y:f.heap.get? a=aa {cls:=.type "list",data:=.seq G.toArray}) (hi:IntsAre G M) (hl:M.length<=bi) (hr:cM k rX)(F:∀p:aI,K.In p->p.Ns b7 L->g7 P w K L p CX k fa fd [x] sp) (RX:∀(s:ao) (u:ai),BindsTo s fd ⟨[u],[]⟩ [(x,u)])(gY:∀H:Hp,AT H->cp K H a (M.map V.int)->sp [.ref a] H (λv _=>v=.bl ah) λ_ _ _=>False)(hCX:∀H e l,CX [] H f (λ_ _ _=>False) e l->False):ka (aE P w) rX (.call (.ref fa) ⟨[.ref a],[]⟩) (λr l=>r=.ok (.ret (.bool ah))/\OldK f.heap l.heap/\l.os=f.os/\mZ l.gens) f:=by
 have rv:=Cy hi;have N:=hi.length;have D:∀H:Hp,AT H->cp K H a (M.map V.int)->dw P w H f.heap->(∀b,H b≠af->b=a\/∃c,pB K "least_ending"=aa (c,b))->(H a≠af->K.lookup a=af)->vW K H ->
   ka (aE P w) rX (.call (.ref fa) ⟨[.ref a],[]⟩) (λr l=>r=.ok (.ret (.bool ah))/\OldK f.heap l.heap/\l.os=f.os/\mZ l.gens) f:=by
  intro H hO hS I X hK hTH;have g:∀{b:ac}{o:Obj},f.heap.get? b=aa o->H b=af->(mz f.heap H).get? b=aa o:=λe n=>MA e n;have noA:∀{b:ac}{o:Obj}{S:Array DictEntry}{T:Nat},f.heap.get? b=aa o->o.data=.dict S T->H b=af:=λ{b o S T} e d=>by
   cases q:H b with
   |none=>rfl
   |some u=>
    rcases X b (by rw[q];simp)with i|⟨c,i⟩
    .subst i;rw[y]at e;cases e;have d':Data.seq G.toArray _=Data.dict S T:=d;cases d'
    .rw[(C c b i).2.2]at e;cases e;cases d
  have A:∀{b:ac}{m:Str->Option ai},f.heap.Ns b m->(mz f.heap H).Ns b m:=λ{b m} ⟨o,S,T,e,d,r⟩=>⟨o,S,T,g e (noA e d),d,r⟩
  have Q:K.In (mz f.heap H):=λb o e=>g (KX b o e) (by
   cases q:H b with
   |none=>rfl
   |some u=>
    rcases X b (by rw[q];simp)with i|⟨c,i⟩
    .subst i;rw[hK (by rw[q];simp)]at e;cases e
    .rw[(C c b i).2.1]at e;cases e)
  have hM:Mod K L (mz f.heap H):=⟨Q,A oz,⟨mb,A j,p5⟩,(let ⟨mc,h1,h2⟩:=O;⟨mc,A h1,h2⟩),by
   obtain⟨E,B,b1,b2,W,b4,b5,b6⟩:=su;refine⟨E,B,b1,b2,g W ?_,b4,b5,b6⟩;cases q:H E with
   |none=>rfl
   |some u=>
    rcases X E (by rw[q];simp)with i|⟨c,i⟩
    .subst i;rw[y]at W;cases W;simp at b4
    .rw[(C c E i).2.2]at W;cases W;simp at b4⟩
  have e0:nM P w K L (mz f.heap H) rX [] f H:=⟨rfl,hM,λb o e=>RK e,ng (Hy _ _),trivial,λb j=>absurd (show b∈([]:List ac)from j) (by simp),I,.of_eq hg,hTH⟩
  refine ol ((F _ Q (A oz)).run rX [] f H ⟨[.ref a],[]⟩ [.ref a] [.ref a] _ _ hr e0 (RX f (.ref a)) (.cons rfl .nil) (gY H hO hS)) λr l h=>?_;cases r with
  |error e=>exact(hCX H e l h).elim
  |ok fl=>
   cases fl with
   |next=>exact gn h
   |brk=>exact gn h
   |cont=>exact gn h
   |ret u=>
    obtain⟨v,H',os,bare,un,Hk,r',q⟩:=h;have q':v=.bl ah:=q;subst q';obtain rfl:u=Value.bool ah:=r';refine⟨rfl,⟨λb o e=>?_,λb o e=>un.there b o e (by simp)⟩,os,bare⟩;cases q:H b with
    |none=>exact .inl (un.keep b o e q (by intro z;exact absurd (show b∈([]:List ac)from z) (by simp)) (by simp))
    |some u=>
     rcases hO b with z|⟨B,xs,z⟩|⟨qn,z⟩
     .rw[q]at z;cases z
     .have z2:=un.frzs b B _ z;obtain⟨J,_⟩:=I b _ z;obtain⟨e2,_⟩:=Hk b _ z2;rw[e]at J;cases J;exact .inl e2
     .rcases X b (by rw[q];simp)with i|⟨c,i⟩
      .subst i;obtain⟨ps,J,_⟩:=I b _ z;rw[y]at J;cases J
      .obtain⟨k1,k2,k3⟩:=C c b i;rw[k3]at e;cases e;obtain⟨oc,Y,_,_,_,_,_,_,_,f1,f2,f3,f4,_⟩:=PySem.W.codeHd_of_K KX k1;obtain⟨ps,J,_⟩:=Hk b _ (un.tbls b _ z);exact .inr (.inl ⟨⟨c,oc,Y,f1,f2,f3,f4⟩,rfl,#[],ps,rfl,by rw[J];simp⟩)
 cases hk:K.lookup a with
 |some o=>
  have e:=KX a o hk;rw[y]at e;cases e;have tH:∀b u,jw K b=aa u->dq P w (jw K) f.heap b u:=λb u z=>by
   obtain⟨rfl,c,e⟩:=o4 z;exact⟨#[],(C c b e).2.2,trivial,λZ cv h=>by cases h⟩
  refine D (jw K) (λb=>?_) (.inr ⟨_,G.toArray,_,hk,rfl,rfl,rfl,by rw[cR,N];exact hl,by simpa using rv⟩) tH (λb z=>?_) (λz=>?_) λx hx c P e=>?_
  .cases q:jw K b with
   |none=>exact .inl rfl
   |some u=>exact .inr (.inr ⟨_,congrArg aa (o4 q).1⟩)
  .cases q:jw K b with
   |none=>exact absurd q z
   |some u=>exact .inr (o4 q).2
  .cases q:jw K a with
   |none=>exact absurd q z
   |some u=>
    obtain⟨_,c,i⟩:=o4 q;rw[(C c a i).2.2]at y;cases y
  .obtain rfl:x = "least_ending":=by simpa[Be]using hx
   exact Dc e
 |none=>
  have ta:∀c P,pB K "least_ending"=aa (c,P)->P≠a:=λc P e z=>by subst z;rw[(C c P e).2.2]at y;cases y
  refine D (λb=>if b=a then aa (.frz {cls:=.type "list",data:=.seq G.toArray} (.lst (M.map V.int)))else jw K b) (λb=>?_) (.inl (.inr ⟨{cls:=.type "list",data:=.seq G.toArray},if_pos rfl⟩)) (λb u z=>?_) (λb z=>?_) (λ_=>hk) λx hx c P e=>?_
  .by_cases j:b=a
   .exact .inr (.inl ⟨_,_,if_pos j⟩)
   .cases q:jw K b with
    |none=>exact .inl ((if_neg j).trans q)
    |some u=>exact .inr (.inr ⟨_,(if_neg j).trans (q.trans (congrArg aa (o4 q).1))⟩)
  .by_cases j:b=a
   .have z':=(if_pos j).symm.trans z;cases z';subst j;exact⟨y,by rw[bS];exact hl,G,_,rv,y⟩
   .obtain⟨rfl,c,e⟩:=o4 ((if_neg j).symm.trans z);exact⟨#[],(C c b e).2.2,trivial,λZ cv h=>by cases h⟩
  .by_cases j:b=a
   .exact .inl j
   .cases q:jw K b with
    |none=>exact absurd ((if_neg j).trans q) z
    |some u=>exact .inr (o4 q).2
  .obtain rfl:x = "least_ending":=by simpa[Be]using hx
   exact(if_neg (ta c P e)).trans (Dc e)
theorem SH{l:BR}{n k:Nat}{q:a_}{c:List Str}{XP:(Str->Option ai)->aI->Prop}{E:aU->aI->Prop}{d:DefRec}{K:Params->au}{CX:aU->eh}{sp:aU->Sp}{x:Str}(N:l.most=aa n) (r:n<=bi) (L:d.params.defaults=[]) (M:cM k rX)(C:∀(w:aU) (h:aI),E w h->(K w.params).In h/\CL (K w.params) h)(F:∀(w:aU) (g:Str->Option ai) (m:ac) (h:aI),(K w.params).In h->h.Ns b7 g->g d.name=aa (.ref m) -> ∃z:gG,(∀(s:ao) (u:ai),BindsTo s z ⟨[u],[]⟩ [(x,u)]) /\ ∀b:aI,(K w.params).In b->b.Ns b7 g->g7 l.prog w (K w.params) g b (CX w) k m z [x] (sp w))(W:∀(w:aU) (H:Hp) (a:ac) (j:List Int),j.length<=n->AT H->cp (K w.params) H a (j.map V.int)->sp w [.ref a] H (λv _=>v=.bl ah) λ_ _ _=>False)(y:∀(w:aU) (H:Hp) (s:ao) (e:ai) (p:ao),CX w [] H s (λ_ _ _=>False) e p->False):PySem.W.WalkO q c XP E l.row.toRowW d [] (λf A=>PySem.call f A):=by refine Att.attach_call N L λw B i g mb m o pm cd X a A j G Y ho hd ba J Z Cf D O=>?_;have I:=(C w _ Y).1;obtain⟨z,P,T⟩:=F w g m _ I G.T.g J;exact NE I G.T.g G.T.b G.T.builtins G.T.nolimit G.T.bmain (C w _ Y).2 O Z Cf (d3 D r) M T P (λH S Q=>W w H a j D S Q) λH e p=>y w H i e p
def fZ(s:aS):Arguments:=match s with
 |.FunctionDef _ a _ _ _ _ _ _ _ _=>a
 |_=>{posonlyargs:=[],args:=[],vararg:=af,kwonlyargs:=[],kw_defaults:=[],kwarg:=af,defaults:=[]}
def c8(s:aS):List aS:=match s with
 |.FunctionDef _ _ b _ _ _ _ _ _ _=>b
 |_=>[]
def aL(s:aS):eI:=match s with
 |.FunctionDef _ _ _ _ _ _ a _ _ _=>a
 |_=>{kind:=.function,names:=[],isGenerator:=aj,isCoroutine:=aj}
abbrev zU:eh:=λ_ _ _ _ _ _=>False
abbrev E0:XK:=λ_ _ _=>False
structure lG(K:au)(x qual:Str)(st:aS)(f:ac)(fd:gG):Prop where
 ex:∃(oc:ai) (od:Option ac) (kV doc pm:ai) (an:Option ac) (aG ct:ai) (osl:Array (Option ai)),
  fd=fu x qual (fZ st) (c8 st) (aL st) .none kV doc pm an aG ct/\K.lookup f=aa ⟨oc,od,.func fd,osl⟩/\pG K aG qual=ah
 kp:kb K (.ref f)=ah
section
variable{P:a_}{w:aU}{K:au}{b:Str->Option ai}{a:aI}
theorem lG.binds{x c:Str}{g:aS}{f:ac}{p:gG}{j:List Str}(F:lG K x c g f p)(h:∀(kV d l:ai) (n:Option ac) (o m:ai) (i:List ai),i.length=j.length->eR (fu x c (fZ g) (c8 g) (aL g) .none kV d l n o m) ⟨i,[]⟩=pure (j.zip i)):Binds K p j []:=by obtain⟨oc,r,kV,d,l,n,o,m,q,rfl,s,u⟩:=F.ex;exact .all (h kV d l n o m)
theorem xn{x d:Str}{g:aS}{f:ac}{oc:ai}{p o:Option ac}{i:Array (Option ai)}{kV h m j n:ai}(l:K.lookup f=aa ⟨oc,p,.func (fu x d (fZ g) (c8 g) (aL g) .none kV h m o j n),i⟩)(c:pG K j d=ah) (k:kb K (.ref f)=ah):lG K x d g f (fu x d (fZ g) (c8 g) (aL g) .none kV h m o j n):=⟨⟨oc,p,kV,h,m,o,j,n,i,rfl,l,c⟩,k⟩
end
theorem AL{n:Nat}(h:n<=1000):n<bi:=ym h (by decide)
section
variable{X:Cx}
theorem pv(i:Nat){x:Str}{a:Pos}(d:X.N[i]?=aa x:=by rfl)(b:c6 X.env.scope x:=by eq_refl)(c:(x==("__debug__":Str))=aj:=by decide)(f:(x==("__classdict__":Str))=aj:=by decide):PE X (.Name x a) (FO i):=dG d b c f
end
theorem nK{A B:Prop}(h:B):if aj=ah then A else B:=by rw[if_neg gh];exact h
theorem nY{A B:Prop}(h:A):if ah=ah then A else B:=by rw[if_pos rfl];exact h
def Same(H a:Hp):Prop:=∀b o,H b=aa o->a b=aa o
theorem Same.refl(H:Hp):Same H H:=λ_ _ h=>h
theorem Same.trans{H f d:Hp}(a:Same H f)(b:Same f d):Same H d:=λc o h=>b c o (a c o h)
theorem Same.free{H a:Hp}(e:Same H a){l:ac}(h:a l=Option.none):H l=Option.none:=by
 cases q:H l with
 |none=>rfl
 |some o=>
  rw[e l o q]at h;cases h
end L2
set_option maxHeartbeats 4000000
namespace L2
def ix(a:Env):List (Str×gW)->List (Str×ac)->List (Str×ac)
 |[],b=>b
 | (n,k)::r,b=>if k == .free then ix a r ((n,(a.cells.lookup n).getD 0)::b)else ix a r b
theorem QA{d:Env}{y:Str}{c:ac}(b:List (Str×gW))(f:List (Str×ac))(l:∀x∈b,x.2=.free->∃c,d.cells.lookup x.1=aa c)(h:(ix d b f).lookup y=aa c):f.lookup y=aa c\/d.cells.lookup y=aa c:=by
 induction b generalizing f with
 |nil=>exact .inl h
 |cons a r g=>
  obtain⟨n,k⟩:=a;unfold ix at h;have j:∀x∈r,x.2=.free->∃c,d.cells.lookup x.1=aa c:=λx m=>l x (jn _ m);split at h
  .rename_i o;obtain⟨s,i⟩:=l (n,k) (m8 ..) (by simpa using o);rcases g _ j h with q|q
   .rw[jr]at q;split at q
    .rename_i p;have e:y=n:=by simpa using p
     subst e;rw[i]at q;exact .inr (by rw[i];exact q)
    .exact .inl q
   .exact .inr q
  .exact g _ j h
theorem Fo{a:Type}{n:Str}{v:a}{l:List (Str×a)}:((n,v)::l).lookup n=aa v:=by rw[jr];simp
theorem EO{a:Type}{n y:Str}{v:a}{l:List (Str×a)}(h:∃c,l.lookup y=aa c):∃c,((n,v)::l).lookup y=aa c:=by
 rw[jr];split
 .exact⟨_,rfl⟩
 .exact h
theorem Az{d:Env}{y:Str}:∀(a:List (Str×gW)) (b:List (Str×ac)),(∃c,b.lookup y=aa c)->∃c,(ix d a b).lookup y=aa c
 |[],b,h=>h
 | (n,k)::r,b,h=>by
  unfold ix;split
  .exact Az r _ (EO h)
  .exact Az r _ h
theorem yO{g:Env}{y:Str}:∀(a:List (Str×gW)) (i:List (Str×ac)),(∃x∈a,x.1=y/\x.2=.free)->∃c,(ix g a i).lookup y=aa c
 |[],i,⟨_,h,_⟩=>by simp at h
 | (n,k)::r,i,⟨x,b,f,d⟩=>by
  unfold ix;rcases b8.mp b with e|b
  .subst e;simp only at f d;subst f d;simp only[beq_self_eq_true,if_true];exact Az r _ ⟨_,Fo⟩
  .split
   .exact yO r _ ⟨x,b,f,d⟩
   .exact yO r _ ⟨x,b,f,d⟩
theorem AR{b:Env}:∀(a:List (Str×gW)) (g:List (Str×ac)),(∀x∈a,x.2=.free->∃c,b.cells.lookup x.1=aa c) -> (forIn (m:=Sem) a g λx r=>match x with | (d,f)=>if(f == NameKind.free)=ah then do let c <-cellOf b d;pure (ForInStep.yield ((d,c)::r))else pure (ForInStep.yield r))=pure (ix b a g)
 |[],g,_=>rfl
 | (n,k)::r,g,h=>by
  have j:∀x∈r,x.2=.free->∃c,b.cells.lookup x.1=aa c:=λx o=>h x (jn _ o);rw[List.forIn_cons];unfold ix;by_cases i:(k == NameKind.free)=ah
  .obtain⟨c,l⟩:=h (n,k) (m8 ..) (by simpa using i);simp only[i,if_true];have e:cellOf b n=pure c:=by unfold cellOf;rw[l]
   rw[e];simp only[pure_bind];rw[AR r _ j,l];rfl
  .simp only[i,if_false,pure_bind];exact AR r _ j
theorem QR{a:eI}{b:Env}(h:∀x∈a.names,x.2=.free->∃c,b.cells.lookup x.1=aa c):closureFor a b=pure (ix b a.names []):=by unfold closureFor;have q:=AR a.names [] h;simp only[bind_pure_comp]at q ⊢;rw[q];rfl
theorem xP{n c:Nat}(b:n+1<=c)(a:c<n):False:=∅
theorem y6:∀(c:List (Str×gW)) (n:Nat) (a b:List (Str×ac)),fV n c (a++b)=fV n c a++b
 |[],_,_,_=>rfl
 | (x,k)::r,n,a,b=>by
  unfold fV;split
  .exact y6 r (n+1) ((x,n)::a) b
  .exact y6 r n a b
theorem wf{y:Str}{c:ac}:∀(b:List (Str×gW)) (n:Nat) (a:List (Str×ac)),(y,c)∈fV n b a->(y,c)∈a\/(y,.cell)∈b
 |[],_,_,h=>.inl h
 | (x,k)::r,n,a,h=>by
  unfold fV at h;split at h
  .rename_i d;rcases wf r _ _ h with z|z
   .rcases b8.mp z with z|z
    .cases z;have e:k=.cell:=by simpa using d
     subst e;exact .inr (m8 ..)
    .exact .inl z
   .exact .inr (jn _ z)
  .rcases wf r _ _ h with z|z
   .exact .inl z
   .exact .inr (jn _ z)
theorem Bb{y:Str}:∀(b:List (Str×gW)) (n:Nat) (a:List (Str×ac)),(∃c,a.lookup y=aa c)->∃c,(fV n b a).lookup y=aa c
 |[],_,_,h=>h
 | (x,k)::r,n,a,h=>by
  unfold fV;split
  .exact Bb r _ _ (EO h)
  .exact Bb r _ _ h
theorem xZ{y:Str}:∀(b:List (Str×gW)) (n:Nat) (a:List (Str×ac)),(y,.cell)∈b->∃c,(fV n b a).lookup y=aa c
 | (x,k)::r,n,a,h=>by
  unfold fV;rcases b8.mp h with e|h
  .cases e;exact Bb r _ _ ⟨_,Fo⟩
  .split
   .exact xZ r _ _ h
   .exact xZ r _ _ h
def lv(X:Cx)(a:eI)(C:ac):List (Str×ac):=fV (C+1) a.names (ix X.env a.names [])
theorem Ar(X:Cx)(a:eI)(C:ac):lv X a C=fV (C+1) a.names []++ix X.env a.names []:=y6 a.names (C+1) [] _
theorem Nd{M:Model}{A:a4}{E:ai->ao->Prop}{s:ao}{a:eI}{b:ac}{j:List (Str×ac)}{c:Str}{f:Env}{Q:Env->ao->Prop}(l:Q (newEnv a s.heap.objs.size b (fV (s.heap.objs.size+1) a.names j) c af .none (aa f) pA) {s with heap:=pushCells (s.heap.push {cls:=.type "dict",data:=.dict #[]}) a.names}):aw M A (newFunctionEnv a b j [] c af .none (aa f)) Q E s:=by
 simp only[newFunctionEnv,Option.isSome_some,if_true];refine ax (wpAny_alloc ?_);refine ax (wpAny_layCells _ (λi d h=>by cases g:d == NameKind.cell <;> simp[g]) _ _ _ _ ?_);rw[show({s with heap:=s.heap.push {cls:=.type "dict",data:=.dict #[]}}:ao).heap.objs.size=s.heap.objs.size+1 from uG ..];refine ax ?_;rw[List.forIn_nil];exact aX (aX l)
theorem DB{s:ao}{a:List (Str×gW)}{y:Str}{c:ac}(h:(y,c)∈fV (s.heap.objs.size+1) a []):(pushCells (s.heap.push {cls:=.type "dict",data:=.dict #[]}) a).IsCell c af/\s.heap.objs.size+1<=c/\∀z,(z,c)∈fV (s.heap.objs.size+1) a []->y=z:=by have ok:=cellsFrom_ok a (s.heap.push {cls:=.type "dict",data:=.dict #[]}) (s.heap.objs.size+1) [] ⟨λ_ _ d=>(nomatch d),List.Pairwise.nil⟩ (by rw[uG];exact bB _);rw[uG]at ok;exact⟨(ok.empty y c h).1,(ok.empty y c h).2,λz b=>name_of_addr ok.apart h b⟩
def cQ(X:Cx)(a:eI)(b:List Str)(C:ac)(s₀:ao)(H₀:Hp)(ex:List ac)(pn:List (ac×Obj)):Cx where
 prog:=X.prog
 w:=X.w
 K:=X.K
 mg:=X.mg
 base:=X.base
 A:=X.A
 N:=b
 s₀:=s₀
 H₀:=H₀
 env:=compEnvC a (lv X a C) C X.env
 outer:=X.stack
 stack:=X.stack
 ex:=ex
 fn:=λy=>a.names.lookup y == aa .cell
 calm:=X.calm
 pn:=X.pn++pn
 xe:=λ_ _=>False
def iw(b:St)(a:List Nat):St:=a.map λi=>(b[i]?).join
structure jB(X:Cx)(scope:eI)(x:Str)(N':List Str)(cap:List Nat):Prop where
 kind:scope.kind=.function
 cells:∀y∈scope.names,y.2=.cell->scope.names.lookup y.1=aa .cell
 names:∀y∈scope.names,y.2=.local->scope.names.lookup y.1=aa .local
 loc:scope.names.lookup x=aa .local\/scope.names.lookup x=aa .cell
 free:∀y∈scope.names,y.2=.free->X.env.kindOf y.1=aa .cell\/X.env.kindOf y.1=aa .free
 nd:N'.Nodup
 hd:N'.head?=aa x
 len:N'.length=cap.length+1
 caps:∀i j y,N'[i+1]?=aa y->cap[i]?=aa j->(X.N[j]?=aa y/\scope.names.lookup y=aa .free)\/(X.N.length<=j/\scope.names.lookup y=aa .local)
theorem NZ{a:List (Str×gW)}{y:Str}{k:gW}(h:a.lookup y=aa k):∃x∈a,x.1=y/\x.2=k:=⟨(y,k),kY h,rfl,rfl⟩
theorem Ab{a:Env}{x:Str}:∀{b:List (Str×gW)}{k:gW}, (b.map λ(n,k)=>if(k == NameKind.free&&a.scope.kind == .function&&a.kindOf n == aa .cell)then(n,NameKind.cell)else(n,k)).lookup x=aa k -> ∃f,b.lookup x=aa f/\(k=f\/(f=.free/\k=.cell))
 |[],_,h=>by simp at h
 | (n,c)::r,k,h=>by
  change jo x ((if(c == NameKind.free&&a.scope.kind == .function&&a.kindOf n == aa .cell)=ah then(n,NameKind.cell)else(n,c))::_)=_ at h;rw[jr];by_cases d:(c == NameKind.free&&a.scope.kind == .function&&a.kindOf n == aa .cell)=ah
  .rw[if_pos d,jr]at h;split at h
   .rename_i g;cases h;have:c=.free:=by simp at d;exact d.1.1
    exact⟨c,rfl,.inr ⟨this,rfl⟩⟩
   .exact Ab h
  .rw[if_neg d,jr]at h;split at h
   .rename_i g;cases h;exact⟨c,rfl,.inl rfl⟩
   .exact Ab h
theorem Bg{a:Env}{x:Str}:∀{b:List (Str×gW)},b.lookup x=aa .free -> let q:=(b.map λ(n,k)=>if(k == NameKind.free&&a.scope.kind == .function&&a.kindOf n == aa .cell)then(n,NameKind.cell)else(n,k)).lookup x
  q=aa .cell\/q=aa .free
 |[],h=>by simp at h
 | (n,c)::r,h=>by
  show jo x ((if(c == NameKind.free&&a.scope.kind == .function&&a.kindOf n == aa .cell)=ah then(n,NameKind.cell)else(n,c))::_)=_\/jo x ((if(c == NameKind.free&&a.scope.kind == .function&&a.kindOf n == aa .cell)=ah then(n,NameKind.cell)else(n,c))::_)=_;rw[jr]at h;by_cases f:(c == NameKind.free&&a.scope.kind == .function&&a.kindOf n == aa .cell)=ah
  .rw[if_pos f,jr];cases d:x == n with
   |true=>exact .inl rfl
   |false=>rw[d]at h;exact Bg h
  .rw[if_neg f,jr];cases d:x == n with
   |true=>rw[d]at h;cases h;exact .inr rfl
   |false=>rw[d]at h;exact Bg h
theorem Ac{a:Env}{x:Str}:∀{b:List (Str×gW)},b.lookup x=aa .cell -> (b.map λ(n,k)=>if(k == NameKind.free&&a.scope.kind == .function&&a.kindOf n == aa .cell)then(n,NameKind.cell)else(n,k)).lookup x=aa .cell
 |[],h=>by simp at h
 | (n,d)::r,h=>by
  show jo x ((if(d == NameKind.free&&a.scope.kind == .function&&a.kindOf n == aa .cell)=ah then(n,NameKind.cell)else(n,d))::_)=_;rw[jr]at h;by_cases f:(d == NameKind.free&&a.scope.kind == .function&&a.kindOf n == aa .cell)=ah
  .rw[if_pos f,jr];cases c:x == n with
   |true=>rfl
   |false=>rw[c]at h;exact Ac h
  .rw[if_neg f,jr];cases c:x == n with
   |true=>rw[c]at h;cases h;rfl
   |false=>rw[c]at h;exact Ac h
section
variable{X:Cx}{A:List (ac×Obj)}{w:St}{H:Hp}{s:ao}{f:eI}{x:Str}{D:List Str}{g:List Nat}
theorem Inv.freeHas(I:Inv X A w H s)(B:jB X f x D g):∀y∈f.names,y.2=.free->∃c,X.env.cells.lookup y.1=aa c:=λy a e=>I.ok.has y.1 (B.free y a e)
theorem Inv.clIn(I:Inv X A w H s)(B:jB X f x D g){y:Str}{c:ac}(h:(ix X.env f.names []).lookup y=aa c):X.env.cells.lookup y=aa c:=by
 rcases QA f.names [] (I.freeHas B) h with q|q
 .simp at q
 .exact q
theorem Inv.cbIn(I:Inv X A w H s)(B:jB X f x D g){C:ac}{y:Str}{c:ac}(h:(lv X f C).lookup y=aa c):((y,c)∈fV (C+1) f.names []/\f.names.lookup y=aa .cell)\/((ix X.env f.names []).lookup y=aa c/\X.env.cells.lookup y=aa c):=by
 rw[Ar,uN]at h;cases e:(fV (C+1) f.names []).lookup y with
 |none=>rw[e]at h;exact .inr ⟨h,I.clIn B h⟩
 |some a=>
  rw[e]at h;cases h;have m:=kY e;rcases wf _ _ _ m with z|z
  .cases z
  .exact .inl ⟨m,B.cells _ z rfl⟩
theorem Inv.cbOld(I:Inv X A w H s)(B:jB X f x D g){C:ac}{y:Str}{c:ac}(h:(ix X.env f.names []).lookup y=aa c)(a:f.names.lookup y=aa .free):(lv X f C).lookup y=aa c:=by
 rw[Ar,uN];cases e:(fV (C+1) f.names []).lookup y with
 |none=>exact h
 |some b=>
  rcases wf _ _ _ (kY e)with z|z
  .cases z
  .have:=B.cells _ z rfl;rw[a]at this;cases this
theorem Inv.block{fp:List ac}{E:aI}{m:Str->Option ai}{t':Nat}(hh:E=pushCells (s.heap.push {cls:=.type "dict",data:=.dict #[]}) f.names)(I:Inv X A w H s)(B:jB X f x D g)(W:∀b∈fp,kP X A H b)(hfo:∀b∈fp,∃o,s.heap.get? b=aa o)(oz:E.Ns s.heap.objs.size m)(F:∀b o,s.heap.get? b=aa o->E.get? b=aa o):Inv (cQ X f D s.heap.objs.size s H fp A) [] (af::iw w g) H {s with heap:=E,toks:=t'}:=by
 have N:∀x c,X.env.cells.lookup x=aa c->c<s.heap.objs.size:=λx c e=>(I.cell x c e).elim λv q=>q.lt;have C:∀{y:Str}{c:ac},(y,c)∈fV (s.heap.objs.size+1) f.names []->E.IsCell c af/\s.heap.objs.size+1<=c/\∀z,(z,c)∈fV (s.heap.objs.size+1) f.names []->y=z:=λh=>by rw[hh];exact DB h
 have lk:∀y k,(compEnvC f (lv X f s.heap.objs.size) s.heap.objs.size X.env).kindOf y=aa k->∃O,f.names.lookup y=aa O/\(k=O\/(O=.free/\k=.cell)):=λy k h=>Ab h;have J:∀y,f.names.lookup y=aa .free->∃c,(ix X.env f.names []).lookup y=aa c:=λy h=>yO f.names [] (NZ h);have nfs:∀b∈fP X.stack,b≠s.heap.objs.size:=λb G e=>by
  rcases b8.mp (I.stkSub b G)with z|z
  .exact absurd I.lt (by rw[<-z,e];exact eX _)
  .exact I.nofs (ng e.symm) z
 refine⟨⟨I.ok.mod,B.kind,I.ok.glob,I.ok.blt,bB _,λy z c h1 h2=>?_,λy Q=>?_,λy c h sv=>?_,I.ok.hd,I.ok.frames,.inl rfl,λb G=>?_,λb o e=>I.bs b o e,d3 I.ok.bsz I.sz,λb o e G=>?_,λb G hf=>?_,I.stack,(λb G=>I.stkFree b G),I.tab⟩,rfl,I.bare,Un.kept F,⟨m,oz,λi y v e1 S e3=>?_⟩,λy c h=>?_,I.hok.fresh (bB _),λy c h=>?_,λp hp=>?_,I.hok.kept F,?_⟩
 .-- inj
  rcases I.cbIn B h1 with⟨a1,a2⟩|⟨a1,a2⟩ <;> rcases I.cbIn B h2 with⟨b1,b2⟩|⟨b1,b2⟩
  .exact(C a1).2.2 z b1
  .exact(xP (C a1).2.1 (N _ _ b2)).elim
  .exact(xP (C b1).2.1 (N _ _ a2)).elim
  .exact I.ok.inj y z c a2 b2
 .-- has
  show ∃c,(lv X f s.heap.objs.size).lookup y=aa c;have ki:f.names.lookup y=aa .free->∃c,(lv X f s.heap.objs.size).lookup y=aa c:=λq=>(J y q).imp λc hc=>I.cbOld B hc q;rcases Q with Q|Q
  .obtain⟨O,q,z|⟨z,_⟩⟩:=lk y _ Q
   .subst z;exact xZ _ _ _ (kY q)
   .subst z;exact ki q
  .obtain⟨O,q,z|⟨_,z⟩⟩:=lk y _ Q
   .subst z;exact ki q
   .cases z
 .-- cab
  have hk:f.names.lookup y=aa .cell:=by simpa using(show(f.names.lookup y == aa .cell)=ah from h)
  show s.heap.objs.size<=c;rcases I.cbIn B sv with⟨a1,a2⟩|⟨a1,a2⟩
  .have:=(C a1).2.1;lia
  .obtain⟨c',P⟩:=xZ (n:=s.heap.objs.size+1) (a:=[]) _ (kY hk);have e:(lv X f s.heap.objs.size).lookup y=aa c':=by rw[Ar,uN,P];rfl
   have S:(lv X f s.heap.objs.size).lookup y=aa c:=sv;rw[e]at S;cases S;have:=(C (kY P)).2.1;lia
 .-- exf
  obtain⟨f0,f1,f2,f3,f4,f5⟩:=W b G;obtain⟨o,L⟩:=hfo b G;refine⟨λe=>absurd (bK L) (by rw[e];exact eX _),λy c h=>?_⟩;rcases I.cbIn B h with⟨a1,a2⟩|⟨a1,a2⟩
  .rintro rfl;exact xP (C a1).2.1 (bK L)
  .exact f4 y c a2
 .-- noex
  obtain⟨f0,f1,f2,f3,f4,f5⟩:=W b G;rcases f3 with z|z
  .exact I.ok.noex b o e z
  .exact absurd (fU (bK e) (d3 I.ok.bsz z)) (eX _)
 .-- exfs
  obtain⟨f0,f1,f2,f3,f4,f5⟩:=W b G;rcases b8.mp (I.stkSub b hf)with z|z
  .exact f1 z
  .exact f2 z
 .-- loc
  cases i with
  |zero=>simp at S
  |succ i=>
   have K:(iw w g)[i]?=aa (aa v):=by simpa using S
   unfold iw at K;rw[kc]at K;cases Z:g[i]? with
   |none=>rw[Z]at K;cases K
   |some j=>
    rw[Z]at K;have T:(w[j]?).join=aa v:=fk K;have e5:w[j]?=aa (aa v):=by
     cases hq:w[j]? with
     |none=>rw[hq]at T;cases T
     |some o=>rw[hq]at T;exact congrArg aa T
    obtain⟨b1,b2⟩:=(B.caps i j y e1 Z).elim id λz=>by have:=(cF.mp e5).1;rw[I.len]at this;exact absurd this (Nat.not_lt.mpr z.1)
    obtain⟨mm,hn,hl⟩:=I.loc;have u3:=B.free _ (kY b2) rfl;have Y:c6 X.env.scope y:=by
     rcases u3 with z|z
     .exact .inr (.inl z)
     .exact .inr (.inr z)
    obtain⟨u,r,l⟩:=hl j y v b1 e5 Y;refine⟨u,r,.inr ⟨Bg b2,?_⟩⟩;rcases l with⟨l,_⟩|⟨_,c,hc,yE⟩
    .rcases u3 with z|z
     .rw[l]at z;cases z
     .rw[l]at z;cases z
    .obtain⟨c',P⟩:=J y b2;have e6:=I.clIn B P;rw[hc]at e6;cases e6;obtain⟨M,L,hd⟩:=yE;exact⟨c,I.cbOld B P b2,M,F c M L,hd⟩
 .rcases I.cbIn B h with⟨a1,a2⟩|⟨a1,a2⟩
  .exact⟨af,(C a1).1⟩
  .obtain⟨v,M,L,hd⟩:=I.cell y c a2;exact⟨v,M,F c M L,hd⟩
 .rcases I.cbIn B h with⟨a1,a2⟩|⟨a1,a2⟩
  .exact I.hok.fresh (d3 (yb _) (C a1).2.1)
  .exact I.freeC y c a2
 .have im:p∈X.pn++A:=by simpa[cQ]using hp
  obtain⟨e,n,ne,nf,d⟩:=I.pin p im;refine⟨F _ _ e,n,dm (bK e),λhf=>?_,d⟩;rcases b8.mp (I.stkSub p.1 hf)with z|z
  .exact ne z
  .exact nf z
 .show(af::iw w g).length=D.length;rw[B.len];simp[iw]
end
def qO(X:Cx)(b:List aD)(t:TT):Prop :=
 ∀(d:List (ac×Obj)) (s:ao) (a:St) (H:Hp) (Q:Bool->Hp->Prop),Inv X d a H s->t a H Q ->
  aw (aE X.prog X.w) X.A (forIn b ah λc r=>if r=ah then do let ok <-m9 c X.env (aK c X.env);pure (ForInStep.yield ok)else pure (ForInStep.yield r)) (TP X d a Q) X.xe s
theorem KL{P:a_}{w:aU}{A:a4}{R:Result->ao->Prop}{s:ao}{m q i:aD}{l:List aD}{g:eI}{p:Pos}{u C:ai}{d:Env}(J:Nat->ao->Prop)(n:∀k o,J k o->aw (aE P w) A (pyNext u) (λr B=>match r with
   |none=>R (.ok .next) B
   |some v=>aw (aE P w) A (BD q u v) (λ_ G=>aw (aE P w) A (assign q d v) (λ_ F=>aw (aE P w) A (forIn l ah λc r=>if r=ah then do let ok <-m9 c d (aK c d);pure (ForInStep.yield ok)else pure (ForInStep.yield r)) (λb z=>if b=ah then aw (aE P w) A (aK m d) (λy E=>aw (aE P w) A (call (.builtin "list.append") [C,y]) (λ_ D=>∃j,j<k/\J j D) (λ_ _=>False) E) (λ_ _=>False) z else ∃j,j<k/\J j z) (λ_ _=>False) F) (λ_ _=>False) G) (λ_ _=>False) B) (λ_ _=>False) o) (k:Nat) (h:J k s) :
  ka (aE P w) A (.compLoop (.ListComp m [⟨q,i,l,0⟩] g p) 0 u C d) R s:=by
 refine codeAny_loop rfl J (λj o K=>?_) k h;show aw _ A (Sem.onRaise (compTurn (.ListComp m [⟨q,i,l,0⟩] g p) 0 u C d) (λx=>do noteFrame x d;theTreesLotGoes x)) _ _ o;refine wpAny_noted ?_;rw[compTurn_list];have no:∀(Q:ai->ao->Prop) (a:ai) (b:ao),False->Q a b:=λ_ _ _ f=>f.elim;refine ax (wpAny_standAt (ax (d4 (n j o K) (λr B I=>?_) (no _))));cases r with
 |none=>exact aX I
 |some v=>
  refine ax (d4 I (λ_ G O=>ax (d4 O (λ_ F N=>ax (d4 N (λb z H=>?_) (no _))) (no _))) (no _));cases b with
  |true=>exact ax (ax (d4 H (λy E M=>ax (d4 M (λ_ D L=>aX (aX ⟨rfl,L⟩)) (no _))) (no _)))
  |false=>exact aX ⟨rfl,H⟩
def JS:TT:=λ_ H Q=>Q ah H
theorem LB{X:Cx}:qO X [] JS:=λ_ _ _ H _ I h=>wpAny_tests_nil ⟨H,I,h⟩
theorem RG{X:Cx}{c:aD}{t:TT}(h:PT X c t):qO X [c] t:=λd s a H Q I b=>wpAny_tests_one (h d s a H Q I b)
def Br(q:TI)(h:V->Hp->St->Prop)(k:Nat)(r:TT)(s:TE)(d:List Nat):TE:=λg H Q=>q g H λJ p=>∀l,p l=af->∃W:Nat->Nat->List V->Hp->Prop,(∃m,W 0 m [] (upd p l (.lst [])))/\∀i m a H,W i m a H ->
 (J.stop i H/\Q (.ref l) H)\/(J.go i H/\∀v j,J.yld i H v j->∃f,f.length=k+1/\h v j f/\r (f++(iw g d).drop k) j λb o=>if b=ah then s (f++(iw g d).drop k) o λy n=>n l=aa (.lst a)/\a.length<bi/\∃c,c<m/\W (i+1) c (a++[y]) (upd n l (.lst (a++[y]))) else ∃c,c<m/\W (i+1) c a o)
def Gj:V->Hp->St->Prop:=λv _ a=>a=[aa v]
abbrev Bq(b:TI)(c:TT)(d:TE)(a:List Nat):TE:=Br b Gj 0 c d a
section
variable{X:Cx}{m:List (ac×Obj)}{w:St}{H:Hp}{s:ao}{g:eI}{x:Str}{j:List Str}{l:List Nat}
theorem Inv.unblock{r:List ac}{p:Hp}{y:St}{s':ao}{h:aI}(I:Inv X m w H s)(D:∀b∈r,kP X m H b)(a:Inv (cQ X g j s.heap.objs.size s H r m) [] y p s') (F:kU s.heap.objs.size s'.heap h):Inv X m w p {s' with heap:=h}:=by
 have k:∀b o,b≠s.heap.objs.size->s'.heap.get? b=aa o->h.get? b=aa o:=λb o f e=>(F.2 b f).trans e;have A:∀b o,s.heap.get? b=aa o->b≠s.heap.objs.size:=λb o e=>dm (bK e);have un:Un (fP X.stack) r H p s.heap h:=by
  refine⟨λb o e n f d=>k b o (A b o e) (a.base.keep b o e n f d),λb o e n f d=>?_,λb o e n d=>a.base.free b o e n d,λb o e d=>?_,a.base.tups,a.base.frzs,a.base.tbls⟩
  .obtain⟨E,q⟩:=a.base.slot b o e n f d;exact⟨E,k b _ (A b o e) q⟩
  .obtain⟨C,q⟩:=a.base.there b o e d;exact⟨C,k b C (A b o e) q⟩
 have B:dw X.prog X.w p h:=λb u e=>by
  have i:p s.heap.objs.size=af:=a.free;refine(a.hok b u e).stay (λc v G q=>k c v ?_ q) (λ_ q=>q) λ_ _ q=>q;rintro rfl;rcases G with z|z
  .rw[<-z,i]at e;cases e
  .rw[i]at z;cases z
 refine I.call' (s':={s' with heap:=h}) (ch:=r) a.os un B a.bare λb f=>?_;obtain⟨L,K,f2,f3,f4,J⟩:=D b f;exact⟨f3,K,f4,J⟩
theorem Fz{elt G tg:aD}{pos pos':Pos}{ifs:List aD}{wi:TI}{tgf:V->Hp->St->Prop}{k:Nat}{ts:TT}{te:TE}{use:Option (ai->Sem Unit)}{Q:ai->ao->Prop}{Qp:VK}(B:jB X g x j l)(hk:k<=l.length)(hc:X.calm=ah)(hi:PI X tg G wi)(fN:∀C F K ex pn,PG (cQ X g j C F K ex pn) tg λv O H Q=>∃Y,Y.length=k+1/\O.length=j.length/\tgf v H Y/\Q (Y++O.drop (k+1)) H)(ht:∀C F K ex pn,qO (cQ X g j C F K ex pn) ifs ts) (he:∀C F K ex pn,PE (cQ X g j C F K ex pn) elt te) (hs:∀x,nc G X.env x=pure x) (I:Inv X m w H s) (h:Br wi tgf k ts te l w H Qp)(fin:∀{A s6:ao}{P H5:Hp}{L σ5 a f},Inv X m w P A->(∀b∈L,kP X m P b)->Inv (cQ X g j A.heap.objs.size A P L m) [] σ5 H5 s6->Qp (.ref a) H5->compPost (aE X.prog X.w) X.A X.xe use Q (.ref a) A.heap.objs.size (.ok f) s6):aw (aE X.prog X.w) X.A (comprehension (.ListComp elt [⟨tg,G,ifs,0⟩] g pos) g X.env pos' (newList []) aj (aK G X.env) use) Q X.xe s:=by
 refine wpAny_comprehension_free (use:=use) rfl hs (QR (I.freeHas B)) B.kind B.names (aW (hi m s w H _ I h) λv s1 h1=>aW h1 λitv E h2=>?_);obtain⟨it,L,tn,J,H2,e,I2,T,st2,f2,h2⟩:=h2;subst e;refine lO ?_;have I3:Inv X m w (upd H2 E.heap.objs.size (.lst [])) {E with heap:=E.heap.push {cls:=.type "list",data:=.seq ([]:List ai).toArray},toks:=E.toks}:=I2.lnew (its:=[]) (t':=E.toks) .nil (jJ _);obtain⟨W,⟨m0,w0⟩,turn⟩:=h2 E.heap.objs.size I2.fresh;generalize hs3:({E with heap:=E.heap.push {cls:=.type "list",data:=.seq ([]:List ai).toArray},toks:=E.toks}:ao)=A at I3;have hs3':({E with heap:=E.heap.push {cls:=.type "list",data:=.seq ([]:List ai).toArray}}:ao)=A:=hs3;generalize hH3:upd H2 E.heap.objs.size (.lst [])=P at I3 w0;have nl:∀b∈L,b≠E.heap.objs.size:=λb D e=>by obtain⟨o,ho,_⟩:=T.obj _ _ st2 b D;exact absurd (bK ho) (by rw[e];exact eX _)
 have k3:∀b o,E.heap.get? b=aa o->A.heap.get? b=aa o:=λb o e=>by rw[<-hs3];exact bN _ e
 have f3:∀b∈L,kP X m P b:=λb D=>⟨by rw[<-hH3,bo (nl b D)];exact(f2 b D).1,(f2 b D).2⟩
 have vd:tn 0 A.heap:=T.keep _ _ _ st2 λb _ o e=>k3 b o e;have fo3:∀b∈L,∃o,A.heap.get? b=aa o:=λb D=>(T.obj _ _ vd b D).imp λo q=>q.1;refine Nd ?_;generalize hh:pushCells (A.heap.push {cls:=.type "dict",data:=.dict #[]}) g.names=h₁;have old:∀b o,A.heap.get? b=aa o->h₁.get? b=aa o:=λb o e=>hh ▸ pushCells_keeps _ _ b o (bN _ e);have oz:h₁.Ns A.heap.objs.size (λ_=>af):=hh ▸ (Heap.Ns.new A.heap (.type "dict")).keeps (pushCells_keeps _ _);have I4:=Inv.block (t':=A.toks) hh.symm I3 B f3 fo3 oz old;have st4:tn 0 h₁:=T.keep _ _ _ vd λb _ o e=>old b o e;have M:∀{H':Hp},(∀b∈L,H' b=af)->∀b∈L,kP (cQ X g j A.heap.objs.size A P L m) [] H' b:=λhn b D=>by
  obtain⟨f0,f1,f2',f3',f4,f5⟩:=f3 b D;refine⟨hn b D,λe=>?_,λhf=>?_,.inl D,λy c h=>?_,λp hp=>f5 p (by simpa[cQ]using hp)⟩
  .obtain⟨o,ho⟩:=fo3 b D;exact absurd (bK ho) (by rw[show b=A.heap.objs.size from e];exact eX _)
  .rcases b8.mp (I3.stkSub b hf)with z|z
   .exact f1 z
   .exact f2' z
  .rcases I3.cbIn B h with⟨a1,a2⟩|⟨a1,a2⟩
   .rintro rfl;obtain⟨o,ho⟩:=fo3 _ D;exact xP (DB a1).2.1 (bK ho)
   .exact f4 y c a2
 have Z:ka (aE X.prog X.w) X.A (.compLoop (.ListComp elt [⟨tg,G,ifs,0⟩] g pos) 0 (.ref it) (.ref E.heap.objs.size) (compEnvC g (lv X g A.heap.objs.size) A.heap.objs.size X.env))
   (compPost (aE X.prog X.w) X.A X.xe use Q (.ref E.heap.objs.size) A.heap.objs.size) {A with heap:=h₁,toks:=A.toks}:=by
  refine KL (λn s'=>∃i S O H',(∃pre:St,pre.length=k+1/\O=pre++(iw w l).drop k)/\Inv (cQ X g j A.heap.objs.size A P L m) [] O H' s'/\tn i s'.heap/\(∀b∈L,H' b=af)/\W i n S H') ?_ m0
   ⟨0,[],_,P,⟨(af::iw w l).take (k+1),by simp[iw];lia,by rw[<-List.drop_succ_cons (a:=af)];exact(List.take_append_drop _ _).symm⟩,I4,st4,λb D=>(f3 b D).1,w0⟩
  rintro n s5 ⟨i,S,σ5,H5,⟨pre,u6,rfl⟩,I5,sr,fr5,w5⟩;rcases turn i n S H5 w5 with⟨stop,q⟩|⟨go,step⟩
  .refine d4 (T.done (cQ X g j A.heap.objs.size A P L m) rfl rfl rfl hc i [] s5 _ H5 (λ_ _=>False) I5 (M fr5) sr stop) (λr s6 ⟨hr,I6⟩=>?_) (λ_ _ f=>f.elim);subst hr;exact fin I3 f3 I6 q
  .refine d4 (T.item (cQ X g j A.heap.objs.size A P L m) rfl rfl rfl hc i [] s5 _ H5 (λ_ _=>False) I5 (M fr5) sr go) (λr s6 ⟨u,hr,h6⟩=>?_) (λ_ _ f=>f.elim);subst hr;refine d4 h6 (λ_ s7 ⟨v,H7,I7,r7,y7,st7,fr7⟩=>?_) (λ_ _ f=>f.elim);have I7':=I7.pinned (M fr7) (T.obj _ _ st7);have back:∀{N:St}{H8:Hp}{s8:ao},Inv (cQ X g j A.heap.objs.size A P L m) ([]++ue L s7.heap) N H8 s8->tn (i+1) s8.heap/\(∀b∈L,H8 b=af):=λ{N H8 s8} I8=>⟨T.keep _ _ _ st7 λb D o e=>(I8.pin (b,o) (m_ _ (m_ _ (xk D e)))).1,λb D=>by obtain⟨o,e,d⟩:=T.obj _ _ st7 b D;exact(I8.pin (b,o) (m_ _ (m_ _ (xk D e)))).2.1⟩
   obtain⟨Y,eJ,htg,step⟩:=step v H7 y7;refine aW (fN _ _ _ _ _ _ s7 _ H7 v u (λN H8=>N=Y++(iw w l).drop k/\H8=H7) I7' r7 ⟨Y,eJ,I7'.len,htg,by rw[GQ ∅,List.drop_eq_nil_of_le ∅];rfl,rfl⟩) λ_ s8 ⟨N,H8,I8,e8,e8'⟩=>?_;subst e8 e8';refine aW (ht _ _ _ _ _ _ s8 _ _ _ I8 step) λb s9 ⟨H9,I9,q9⟩=>?_;cases b with
   |false=>
    obtain⟨m',hm,w9⟩:=(show ∃m',m'<n/\W (i+1) m' S H9 from q9)
    exact⟨m',hm,i+1,S,_,H9,⟨Y,eJ,rfl⟩,I9.unpinned,(back I9).1,(back I9).2,w9⟩
   |true=>refine aW (he _ _ _ _ _ _ s9 _ H9 _ I9 q9) λu10 s10 ⟨y,H10,I10,r10,hl10,hz10,m',hm,w10⟩=>?_;refine aW (tQ _ s10 _ H10 (.ref E.heap.objs.size) [y] _ [u10] (λz H11=>H11=upd H10 E.heap.objs.size (.lst (S++[y]))) I10 rfl (.cons r10 .nil) ⟨_,S,y,rfl,rfl,hl10,hz10,rfl⟩) λ_ s11 ⟨_,H11,I11,_,e11⟩=>?_;subst e11;exact⟨m',hm,i+1,S++[y],_,_,⟨Y,eJ,rfl⟩,I11.unpinned,(back I11).1,(back I11).2,w10⟩
 exact codeAny_compStart_list Z (T.self _ 0 _ _ _ st4 Z)
theorem CJ{y:Pos}(B:jB X g x j l):∀C b c i f,PG (cQ X g j C b c i f) (.Name x y) λv d H Q=>∃n,n.length=0+1/\d.length=j.length/\Gj v H n/\Q (n++d.drop (0+1)) H:=by
 intro C b c i f m s d H v u Q I r h;obtain⟨n,_,A,z,q⟩:=h;cases (show n=[aa v] from z);have D:Loc (cQ X g j C b c i f).env.scope x:=B.loc.elim (λh=>.inl (lookup_relabel_local h)) (λh=>.inr (Ac h));have o:(cQ X g j C b c i f).fn x=ah\/(cQ X g j C b c i f).env.scope.names.lookup x=aa .local:=B.loc.elim (λh=>.inr (lookup_relabel_local h)) (λh=>.inl (by show(g.names.lookup x == aa .cell)=ah;rw[h];rfl));have p:(cQ X g j C b c i f).N[0]?=aa x:=by show j[0]?=aa x;rw[<-List.head?_eq_getElem?];exact B.hd
 refine n_ B.nd p D o m s d H v u Q I r ?_;show Q (d.set 0 (aa v)) H;cases d with
 |nil=>rw[lQ,B.len]at A;lia
 |cons a r=>exact q
theorem MC{f b:aD}{p pos:Pos}{d:List aD}{wi:TI}{ts:TT}{te:TE}(B:jB X g x j l)(E:X.calm=ah)(A:PI X (.Name x p) b wi)(y:∀C a c o i,qO (cQ X g j C a c o i) d ts) (D:∀C a c o i,PE (cQ X g j C a c o i) f te) (z:∀x,nc b X.env x=pure x:=by intro _;rfl):PE X (.ListComp f [⟨.Name x p,b,d,0⟩] g pos) (Bq wi ts te l):=by intro m s w H Q I h;rw[eval_ListComp];exact Fz (use:=af) B (jJ _) E A (CJ B) y D z I h λF f3 r q=>by obtain⟨v,n,_⟩:=r.loc;exact⟨v,n,λG u=>⟨.ref _,_,F.unblock f3 r u,rfl,q⟩⟩
end
def Walk(J:It)(xs:List V)(R:Hp->Prop):Prop :=
 ∀H,R H->∀i,(∀x,xs[i]?=aa x->J.go i H/\∀y a,J.yld i H y a->a=H/\y=x)/\(i=xs.length->J.stop i H)
theorem EW{K:au}{a:ac}{xs:List V}:Walk (zr K a) xs (λH=>cp K H a xs):=λH h i=>⟨λx b=>⟨⟨xs,x,h,b⟩,λy d z=>⟨z.1,by have:=z.2 xs h;rw[b]at this;exact(fk this).symm⟩⟩,λc=>⟨xs,h,ng c.symm⟩⟩
theorem Ij{K:au}{a:ac}{xs:List V}:Walk (AC K a) xs (λH=>dj K H a xs):=λH h i=>⟨λx b=>⟨⟨xs,x,h,b⟩,λy d z=>⟨z.1,by have:=z.2 xs h;rw[b]at this;exact(fk this).symm⟩⟩,λc=>⟨xs,h,ng c.symm⟩⟩
def qB(a:Int)(n:Nat):List V:=(bX n).map λi=>V.int (a+(i:Nat))
theorem zI(a:Int)(n:Nat):(qB a n).length=n:=by simp[qB]
theorem LF{b:Int}{n:Nat}:Walk (wX b n) (qB b n) (λ_=>True):=λH _ i=>by
 refine⟨λx a=>?_,λc=>by rw[zI]at c;exact ng c.symm⟩;have d:i<n:=by have:=(cF.mp a).1;rw[zI]at this;exact this
 refine⟨d,λy g z=>⟨z.1,?_⟩⟩;unfold qB at a;rw[kc,List.getElem?_range d]at a;have f:V.int (b+(i:Nat))=x:=fk a;rw[z.2,<-f]
def sg(c:Nat):V:=.str ⟨#[c]⟩
def uq(z:Str):It:=⟨λi _=>i<z.cps.size,λi H x a=>a=H/\∃c,z.cps[i]?=aa c/\x=sg c,λi _=>i=z.cps.size⟩
theorem Ou{z:Str}:Walk (uq z) (z.cps.toList.map sg) (λ_=>True):=λH _ i=>by
 refine⟨λx a=>?_,λd=>by show i=z.cps.size;simpa using d⟩;rw[kc]at a;cases e:z.cps.toList[i]? with
 |none=>rw[e]at a;cases a
 |some c=>
  rw[e]at a;have f:i<z.cps.size:=by have:=(cF.mp e).1;simpa using this
  refine⟨f,λy h w=>⟨w.1,?_⟩⟩;obtain⟨g,b,rfl⟩:=w.2;have:z.cps[i]?=aa c:=by simpa using e
  rw[this]at b;cases b;exact(fk a)
section
variable{X:Cx}{a:aD}
theorem PJ{P:a_}{w:aU}{K:au}{z:Str}{d:ac}{f:Nat->aI->Prop} (S:∀i h,f i h->∃o n r,h.get? d=aa o/\o.cls=.type n/\o.data=.fields r /\ ["enumerate","zip","dict_itemiterator","dict_reverseitemiterator","odict_iterator","itertools.zip_longest","itertools.pairwise"].contains n=aj)(RZ:∀(A:a4) (i:Nat) (s:ao) (Q:ai->ao->Prop) (E:ai->ao->Prop),f i s.heap->Q (.ref d) s->aw (aE P w) A (oh (.ref d)) Q E s)(hW:∀A:a4,A.handled=af->Walks P w A d [d] [d] z.cps.size (SignAt z) f):ti P w K a (uq z) [d] d f where
 mem:=by simp
 obj:=λi h g b j=>by
  have e:b=d:=by simpa using j
  subst e;obtain⟨o,n,r,J,_,G,_⟩:=S i h g;exact⟨o,J,λv q=>by rw[G]at q;cases q⟩
 keep:=λi h m g k=>by exact(hW ({}:a4) rfl).frame i h m g k
 item:=by intro X D x F C i W s O H E I p g B;subst D x F;obtain⟨N,M,f2,f3,f4,L⟩:=p d (by simp);refine(hW X.A (I.ok.hd C)).item i s _ _ B g λv m l Y T k=>?_;have I1:Inv X W O H {s with heap:=m,toks:=l}:=I.turned (t':=l) (λb o j e=>k b o (by simpa using j) e) N M f3 f4 L;obtain⟨o,n,r,J,h2,G,Z⟩:=S _ _ T;obtain⟨c,u,e1,rfl⟩:=Y;exact⟨_,rfl,v7 (s:={s with heap:=m,toks:=l}) J h2 G Z ⟨sg c,H,I1,⟨u,rfl⟩,⟨rfl,c,e1,rfl⟩,T,λb j=>(p b j).1⟩⟩
 done:=by intro X D x F C i W s O H E I p g B;subst D x F;obtain⟨N,M,f2,f3,f4,L⟩:=p d (by simp);have y:i=z.cps.size:=B;subst y;exact(hW X.A (I.ok.hd C)).done s _ _ g λm l k=>⟨rfl,I.turned (t':=l) (λb o j e=>k b o (by simpa using j) e) N M f3 f4 L⟩
 self:=RZ
theorem AJ{J:It}{xs:List V}{R:Hp->Prop}{g:TG}{j:TS}{D:kC}{σ:St}{H:Hp}(A:Walk J xs R)(b:Nat->St->Hp->Prop)(B:b 0 σ H)(v:∀i σ H,i<=xs.length->b i σ H->R H)(u:∀i x σ H,xs[i]?=aa x->b i σ H->g x σ H λd h=>j {D with nx:=b (i+1),ct:=b (i+1),bk:=D.nx} d h) (z:∀σ H,b xs.length σ H->D.nx σ H):∃W:Nat->Nat->St->Hp->Prop,(∃m,W 0 m σ H)/\∀i m σ H,W i m σ H -> (J.stop i H/\D.nx σ H)\/(J.go i H/\∃N:St->Hp->Prop,(∀f c,N f c->∃l,l<m/\W (i+1) l f c)/\∀x c,J.yld i H x c->g x σ c λd h=>j {D with nx:=N,ct:=N,bk:=D.nx} d h):=by
 refine⟨λi m σ H=>m=xs.length-i/\i<=xs.length/\b i σ H,⟨xs.length,by simp,jJ _,B⟩,?_⟩;rintro i m σ H ⟨rfl,w,p⟩;have q:=A H (v i σ H w p) i;by_cases o:i<xs.length
 .have n:xs[i]?=aa xs[i]:=by simp[o]
  obtain⟨C,r⟩:=q.1 xs[i] n;refine .inr ⟨C,b (i+1),λf c s=>⟨xs.length-(i+1),∅,rfl,o,s⟩,λx c y=>?_⟩;obtain⟨rfl,rfl⟩:=r x c y;exact u i _ σ _ n p
 .have e:i=xs.length:=∅
  subst e;exact .inl ⟨q.2 rfl,z σ H p⟩
theorem Q3{b:Type}(l:List b)(f:b->Bool)(d:Nat->Bool)(c:∀i x,l[i]?=aa x->d i=f x):(bX l.length).all d=l.all f:=by
 induction l generalizing d with
 |nil=>rfl
 |cons x r g=>rw[fL,BS,rV,yo,rV,c 0 x rfl];congr 1;exact g _ λi y h=>c (i+1) y (by simpa using h)
theorem Ro{bs:List Bool}{b:List ai}(r:bD (bs.map V.bl) b){i:Nat}{v:ai}(h:b.toArray[i]?=aa v):v=.bool (bs.getD i aj):=by
 have d:=r.length;rw[bS]at d;have g:i<b.length:=by have:=(uO.mp h).1;simpa using this
 have e:(bs.map V.bl)[i]?=aa (.bl (bs.getD i aj)):=by rw[kc,e_ ∅];simp[yq,e_ (show i<bs.length by lia)]
 obtain⟨u,c,f⟩:=r.get e;have:b[i]?=aa v:=by simpa using h
 rw[this]at c;cases c;exact f
theorem sI{A:a4}(h:A.handled=af):A.in1.handled=af:=h
theorem A1(g:X.calm=ah):d_ X (.builtin "all") (λxs H Q=>∃(p:ac) (bs:List Bool),xs=[.ref p]/\cp X.K H p (bs.map V.bl)/\Q (.bl (bs.all id)) H):=by
 intro L s m H xs N Q I r h;obtain⟨p,bs,rfl,D,q⟩:=h;obtain⟨u,rfl,w⟩:=vals1 r;cases w;obtain⟨d,j,pl,P⟩:=I.list D;have l:=j.length;rw[bS]at l;refine call_all_walk (uP pl.isList ?_);have K:p≠s.heap.objs.size:=by obtain⟨o,f,_⟩:=pl.isList;exact dm (bK f)
 refine⟨s.heap.objs.size,_,_,_,_,_,λi=>bs.getD i aj,rfl,Walks.list (sI (I.ok.hd g)) s.heap.objs.size p K d.toArray,⟨⟨_,cW _ rfl,rfl,rfl⟩,?_⟩,λi v O T W C J=>?_,λS n k=>?_⟩
 .obtain⟨o,f,g,F⟩:=pl.isList;exact⟨o,bN _ f,g,F⟩
 .rw[Ro j C];exact oa J
 .have e:(bX d.toArray.size).all (λi=>bs.getD i aj)=bs.all id:=by
   rw[cR,<-l];exact Q3 bs id _ λi x B=>by simp[yq,B]
  rw[e];have M:Inv X L m H {s with heap:=s.heap.push {cls:=.type "list_iterator",data:=.fields #[.ref p,.int 0 0]},toks:=s.toks}:=I.kept (t':=s.toks) λb o e=>bN _ e;exact⟨.bl _,H,Inv.turned (t':=n) M (it:=s.heap.objs.size) (λb o G e=>k b o (by simpa using G) e) I.fresh (og I.lt) (.inr I.sz) (λx c e z=>by obtain⟨v,y⟩:=I.cell x c e;exact absurd y.lt (by rw[z];exact eX _)) (λA E z=>absurd (bK (I.pin A E).1) (by rw[z];exact eX _)),rfl,q⟩
end
section
variable{X:Cx}
def lE(z:Str)(a b:Option Int):Str:=⟨((z.cps.toList.drop (HT.sIx z.length 0 a)).take (HT.sIx z.length z.length b-HT.sIx z.length 0 a)).toArray⟩
theorem OY(a b:Nat):sliceRange (a:Int) (b:Int) 1=(bX (b-a)).map λk=>a+k:=by
 unfold sliceRange;have e:(if(1:Int) > 0 then(if(a:Int)<(b:Int)then((b:Int)-a+1-1) / 1 else 0)else(if(a:Int) > b then((a:Int)-b-1-1) / (-1)else 0)).toNat=b-a:=by
  rw[if_pos (by decide)];split
  .rw[Int.ediv_one];lia
  .have:b-a=0:=∅
   rw[this];rfl
 show(bX (if(1:Int) > 0 then(if(a:Int)<(b:Int)then((b:Int)-a+1-1) / 1 else 0)else(if(a:Int) > b then((a:Int)-b-1-1) / (-1)else 0)).toNat).map _=_;rw[e];refine lR λk _=>?_;lia
theorem I_(a b:Option Int)(n:Nat):Builtin.Str.strSliceIndices a b 1 n=(bX (HT.sIx n n b-HT.sIx n 0 a)).map λk=>HT.sIx n 0 a+k:=by
 rw[<-OY];have p:(1:Int) > 0:=by decide
 cases a <;> cases b <;> (unfold Builtin.Str.strSliceIndices HT.sIx;simp only[p,if_true];congr 1 <;> (try split) <;> lia)
theorem K4{b:Type}(l:List b)(a k:Nat):((bX k).map λj=>a+j).filterMap (λi=>l[i]?)=(l.drop a).take k:=by
 induction k with
 |zero=>simp
 |succ k c=>
  rw[uQ,oq,List.filterMap_append,c,List.take_succ];congr 1;simp[uB];cases l[a+k]? <;> rfl
theorem K0(z:Str)(t:Tok)(l u:Option (Int×Tok)):∃m,sliceMade z t l u af=m/\(m=.val (.str z t)/\lE z (l.map (·.1)) (u.map (·.1))=z\/m=.str (lE z (l.map (·.1)) (u.map (·.1)))):=by
 refine⟨_,rfl,?_⟩;unfold sliceMade slicePicked;have e:=I_ (l.map (·.1)) (u.map (·.1)) z.length;simp only[Option.map_none,GK];rw[e];have d:=K4 z.cps.toList (HT.sIx z.length 0 (l.map (·.1))) (HT.sIx z.length z.length (u.map (·.1))-HT.sIx z.length 0 (l.map (·.1)));have b:(((bX (HT.sIx z.length z.length (u.map (·.1))-HT.sIx z.length 0 (l.map (·.1)))).map λk=>HT.sIx z.length 0 (l.map (·.1))+k).filterMap (z.cps[·]?)).toArray=(lE z (l.map (·.1)) (u.map (·.1))).cps:=by unfold lE;rw[<-d];simp
 split
 .rename_i h;left;refine⟨rfl,?_⟩;simp only[beq_self_eq_true,yr,bS,GR,beq_iff_eq]at h;have g:HT.sIx z.length z.length (u.map (·.1))<=z.length:=HT.sIx_le _ _ (bB _) _;have f:z.cps.toList.length=z.length:=by simp[Str.length]
  have a:HT.sIx z.length 0 (l.map (·.1))=0\/z.length=0:=∅
  unfold lE;rw[h];rcases a with a|a
  .rw[a,BU,pN ∅]
  .have:z.cps.toList=[]:=yt ∅;rw[this];cases z;rename_i c;simp at this;subst this;simp
 .right;rw[show(⟨(((bX (HT.sIx z.length z.length (u.map (·.1))-HT.sIx z.length 0 (l.map (·.1)))).map λk=>HT.sIx z.length 0 (l.map (·.1))+k).filterMap (z.cps[·]?)).toArray⟩:Str)=lE z (l.map (·.1)) (u.map (·.1))from by rw[b]]
def ED:V->Option Int->Option Int->Hp->VK->Prop:=λx a b H Q=>∃z,x=.str z/\z.length<=bi/\Q (.str (lE z a b)) H
theorem QI(z:Str)(a b:Option Int):(lE z a b).length<=z.length:=by unfold lE Str.length;simp;lia
theorem part_of{v:ai}{o:Option Int}(p:nj v o):∃q:Option (Int×Tok),v=partValue q/\q.map (·.1)=o:=by
 cases p with
 |none=>exact⟨af,rfl,rfl⟩
 |int i t=>exact⟨aa (i,t),rfl,rfl⟩
theorem Sd:mx X ED:=by
 intro w s j H x v o n p r a Q I b f pl c h;obtain⟨z,rfl,d,q⟩:=h;obtain⟨t,rfl⟩:=b;obtain⟨l,rfl,rfl⟩:=part_of pl;obtain⟨u,rfl,rfl⟩:=part_of c;refine⟨"str",_,F.slot_str_getitem.lookup,typeIs_str s z t,?_⟩;obtain⟨m,i,g⟩:=K0 z t l u;refine getItem_meets (typeIs_str s z t) (by decide) F.slot_str_getitem F.entry_str_getitem (F.args_str_getitem_2 _ _) (meets_str_getitem_slice z t a l u af (by decide)) ⟨f,?_⟩;rw[i];rcases g with⟨rfl,e⟩|rfl
 .exact⟨.str z,H,I,⟨t,rfl⟩,by rw[e]at q;exact q⟩
 .exact⟨d3 (QI z _ _) d,⟨.str _,H,I.tok _,⟨_,rfl⟩,q⟩⟩
def iK(K:au)(H:Hp)(d:Nat)(x y:V)(k:Bool):Prop :=
 ∀(X:Cx),X.K=K->∀(b:List (ac×Obj)) (a:St) (s:ao) (u v:ai) (A:a4),Inv X b a H s->RelV x u->RelV y v->A.units+d<cLine->ye A s u v k
theorem Jc{K:au}{H:Hp}{d:Nat}{x y:V}(f:gb x=ah)(c:gb y=ah):iK K H d x y (dX x y):=λ_ _ _ _ _ _ _ _ _ b a _=>Ej b a f c
def gy(e:Nat->Bool)(n m:Nat):Bool:=(bX (min n m)).all e&&n == m
theorem Gh{A:a4}:A.in1.units=A.units+1:=rfl
theorem Ah{H:Hp}{d:Nat}{a b:ac}{xs c:List V}{e:Nat->Bool}{G:List (ac×Obj)}{q:St}{s:ao}{A:a4}(I:Inv X G q H s)(O:cp X.K H a xs)(N:cp X.K H b c)(M:∀(j:Nat) x y,xs[j]?=aa x->c[j]?=aa y->iK X.K H d x y (e j)) (S:A.units+(d+1)<cLine):SeqAt.RcAt A s (.ref a) (.ref b) (gy e xs.length c.length)/\SeqAt.RcNeAt A s (.ref a) (.ref b) (!gy e xs.length c.length):=by
 obtain⟨g,w,n,_⟩:=I.list O;obtain⟨i,r,f,_⟩:=I.list N;have J:=w.length;have Q:=r.length;have C:∀j (E:j<g.toArray.size) (D:j<i.toArray.size),ye A.in1 s g.toArray[j] i.toArray[j] (e j):=λj E D=>by
  have p:j<g.length:=by simpa using E
  have o:j<i.length:=by simpa using D
  have l:xs[j]?=aa xs[j]:=e_ ∅;have F:c[j]?=aa c[j]:=e_ ∅;obtain⟨u,B,L⟩:=w.get l;obtain⟨v,z,K⟩:=r.get F;have P:g[j]=u:=by rw[e_ p]at B;exact fk B
  have f2:i[j]=v:=by rw[e_ o]at z;exact fk z
  have:=M j xs[j] c[j] l F X rfl G q s u v A.in1 I L K (by rw[Gh];lia);simpa[P,f2]using this
 by_cases h:xs.length=c.length
 .have m:g.toArray.size=i.toArray.size:=by simp;lia
  have l:gy e xs.length c.length=(bX g.toArray.size).all e:=by unfold gy;rw[h,Nat.min_self,beq_self_eq_true,Bool.and_true,cR,<-J,h]
  rw[l];exact⟨.lists n.isList f.isList m ∅ C,.lists n.isList f.isList m ∅ C⟩
 .have l:gy e xs.length c.length=aj:=by
   unfold gy;rw[beq_false_of_ne h,Bool.and_false]
  have m:(g.toArray.size != i.toArray.size)=ah:=by simp;lia
  rw[l];exact⟨.lists_lengths n.isList f.isList m ∅,.lists_lengths n.isList f.isList m ∅⟩
theorem Bh{H:Hp}{d:Nat}{a b:ac}{xs c:List V}{e:Nat->Bool}{E:List (ac×Obj)}{n:St}{s:ao}{A:a4}(I:Inv X E n H s)(N:dj X.K H a xs)(M:dj X.K H b c)(L:∀(j:Nat) x y,xs[j]?=aa x->c[j]?=aa y->iK X.K H d x y (e j)) (P:A.units+(d+1)<cLine):SeqAt.RcAt A s (.ref a) (.ref b) (gy e xs.length c.length)/\SeqAt.RcNeAt A s (.ref a) (.ref b) (!gy e xs.length c.length):=by
 obtain⟨g,p,w,_⟩:=I.tuple N;obtain⟨f,o,h,_⟩:=I.tuple M;have F:=p.length;have K:=o.length;have z:∀j (C:j<g.toArray.size) (B:j<f.toArray.size),ye A.in1 s g.toArray[j] f.toArray[j] (e j):=λj C B=>by
  have m:j<g.length:=by simpa using C
  have l:j<f.length:=by simpa using B
  have i:xs[j]?=aa xs[j]:=e_ ∅;have D:c[j]?=aa c[j]:=e_ ∅;obtain⟨u,r,J⟩:=p.get i;obtain⟨v,q,G⟩:=o.get D;have O:g[j]=u:=by rw[e_ m]at r;exact fk r
  have f2:f[j]=v:=by rw[e_ l]at q;exact fk q
  have:=L j xs[j] c[j] i D X rfl E n s u v A.in1 I J G (by rw[Gh];lia);simpa[O,f2]using this
 have i:gy e xs.length c.length=((bX (min g.toArray.size f.toArray.size)).all e&&g.toArray.size == f.toArray.size):=by unfold gy;rw[cR,cR,<-F,<-K]
 rw[i];exact⟨.tuples w h ∅ z,.tuples w h ∅ z⟩
theorem HH{K:au}{H:Hp}{d:Nat}{a b:ac}{xs c:List V}{e:Nat->Bool}(m:cp K H a xs)(l:cp K H b c)(o:a≠b)(i:∀(j:Nat) x y,xs[j]?=aa x->c[j]?=aa y->iK K H d x y (e j)):iK K H (d+1) (.ref a) (.ref b) (gy e xs.length c.length):=λX n q p s u v A I g f h=>by
 subst n;cases g;cases f;exact .of_refs o (Ah I m l i h).1
theorem Ka{K:au}{H:Hp}{d:Nat}{a b:ac}{xs c:List V}{e:Nat->Bool}(m:dj K H a xs)(l:dj K H b c)(o:a≠b)(i:∀(j:Nat) x y,xs[j]?=aa x->c[j]?=aa y->iK K H d x y (e j)):iK K H (d+1) (.ref a) (.ref b) (gy e xs.length c.length):=λX n q p s u v A I g f h=>by
 subst n;cases g;cases f;exact .of_refs o (Bh I m l i h).1
theorem CP{K:au}{H:Hp}{d:Nat}{a:ac}:iK K H d (.ref a) (.ref a) ah:=λX h i f s u v A I c b g=>by
 cases c;cases b;exact .same _
def sX(K:au)(neg:Bool):R2:=λx y H Q=>∃a b xs c d e,x=.ref a/\y=.ref b/\((cp K H a xs/\cp K H b c)\/(dj K H a xs/\dj K H b c))/\d<=8 /\
 (∀(j:Nat) x y,xs[j]?=aa x->c[j]?=aa y->iK K H d x y (e j))/\Q (.bl (if neg then !gy e xs.length c.length else gy e xs.length c.length)) H
theorem HZ(m:X.A.units+64<cLine):cf X (d7 .Eq) (sX X.K aj):=by
 intro o s j H x y v u Q I g f h;obtain⟨a,b,xs,l,d,e,rfl,rfl,i,n,c,q⟩:=h;cases g;cases f;rcases i with⟨h1,h2⟩|⟨h1,h2⟩
 .exact(Ah I h1 h2 c ∅).1 _ _ _ _ ⟨.bl _,H,I,rfl,q⟩
 .exact(Bh I h1 h2 c ∅).1 _ _ _ _ ⟨.bl _,H,I,rfl,q⟩
theorem OL(m:X.A.units+64<cLine):cf X (d7 .NotEq) (sX X.K ah):=by
 intro o s j H x y v u Q I g f h;obtain⟨a,b,xs,l,d,e,rfl,rfl,i,n,c,q⟩:=h;cases g;cases f;rcases i with⟨h1,h2⟩|⟨h1,h2⟩
 .exact(Ah I h1 h2 c ∅).2 _ _ _ _ ⟨.bl _,H,I,rfl,q⟩
 .exact(Bh I h1 h2 c ∅).2 _ _ _ _ ⟨.bl _,H,I,rfl,q⟩
def Lj(K:au):V->List V->Hp->VK->Prop:=λx a H Q=>∃(p:ac) (xs:List V) (y:V),x=.ref p/\a=[y]/\H p=aa (.lst xs)/\gb y=ah/\xs.all gb=ah/\Q (.int ((xs.countP λz=>dX z y:Nat):Int)) H
theorem AZ{y:V}:∀{xs:List V}{a:List ai},bD xs a->xs.all gb=ah->a.countP (gD y)=xs.countP λz=>dX z y
 |_,_,.nil,_=>rfl
 |z::xs,u::a,.cons r t,f=>by rw[rV,dS]at f;rw[List.countP_cons,List.countP_cons,ww r f.1,AZ t f.2]
theorem KH:rM X "list.count" (Lj X.K):=by
 intro B s l H x m v o Q I c d h;obtain⟨p,xs,y,rfl,rfl,i,j,b,q⟩:=h;cases c;obtain⟨u,rfl,f⟩:=d.one;obtain⟨z,a,n,r,A,e⟩:=I.lstM i;refine uK F.slot_list_count ⟨_,e,rfl⟩ F.entry_list_count (F.args_list_count_2 _ _) (SeqAt.list_countAt p a.toArray n af #[] u (gD y)) ⟨e,λw g=>nE f j r b w (by simpa using g),?_⟩;exact⟨.int _,H,I.tok _,⟨_,by rw[GS,AZ r b]⟩,q⟩
def K9(K:au):V->List V->Hp->VK->Prop:=λx a H Q=>∃(p:ac) (xs:List V) (y:V),x=.ref p/\a=[y]/\dj K H p xs/\gb y=ah/\xs.all gb=ah/\Q (.int ((xs.countP λz=>dX z y:Nat):Int)) H
theorem Hz:rM X "tuple.count" (K9 X.K):=by
 intro J s C H x D v E Q I i j h;obtain⟨p,xs,y,rfl,rfl,o,z,d,q⟩:=h;cases i;obtain⟨u,rfl,l⟩:=j.one;obtain⟨a,r,⟨⟨B,A,f,g⟩,e,c,n,b⟩,G⟩:=I.tuple o;simp only at c b;subst c b;refine uK F.slot_tuple_count ⟨_,e,rfl⟩ F.entry_tuple_count (F.args_tuple_count_2 _ _) (SeqAt.tuple_countAt p a.toArray n A g u (gD y)) ⟨e,λw m=>nE l z r d w (by simpa using m),?_⟩;exact⟨.int _,H,I.tok _,⟨_,by rw[GS,AZ r d]⟩,q⟩
def NC:V->List V->Hp->VK->Prop:=λx a H Q=>∃(p:ac) (xs:List V) (y:V) (j:Nat),x=.ref p/\a=[y]/\H p=aa (.lst xs)/\gb y=ah/\xs.all gb=ah/\j<xs.length /\
 (∀z,xs[j]?=aa z->dX z y=ah)/\(∀(i:Nat) z,i<j->xs[i]?=aa z->dX z y=aj)/\Q (.int j) H
theorem Os:rM X "list.index" NC:=by
 intro ag s S H x T v W Q I B C h;obtain⟨p,xs,y,j,rfl,rfl,K,N,o,hj,M,L,q⟩:=h;cases B;obtain⟨u,rfl,D⟩:=C.one;obtain⟨z,a,n,r,Z,e⟩:=I.lstM K;have Y:=tm;have c:∀(i:Nat) (l:i<a.toArray.size),∃w,xs[i]?=aa w/\gD y a.toArray[i]=dX w y:=λi l=>by
  have g:i<a.length:=by simpa using l
  have A:xs[i]?=aa xs[i]:=e_ ∅;obtain⟨w,b,E⟩:=r.get A;have P:a[i]=w:=by rw[e_ g]at b;exact fk b
  refine⟨_,A,?_⟩;have O:gb xs[i]=ah:=iR.mp o _ (uR _);rw[<-ww E O];simp[P]
 refine uK F.slot_list_index ⟨_,e,rfl⟩ F.entry_list_index (F.args_list_index_2 _ _) (SeqAt.list_indexAt p a.toArray n af #[] u (gD y) j (by simp;lia) ∅ ?_ ?_) ⟨e,λw G=>nE D N r o w (by simpa using G),?_⟩
 .obtain⟨w,b,d⟩:=c j (by simp;lia);rw[d];exact M w b
 .intro m J f;obtain⟨w,b,d⟩:=c m J;rw[d];exact L m w f b
 .exact⟨.int _,H,I.tok _,⟨_,rfl⟩,q⟩
end
abbrev Tx:=List Nat
def tS(l:Tx):Str:=⟨l.toArray⟩
def tV(l:Tx):V:=.str (tS l)
def dO(ls:List Tx):List V:=ls.map tV
theorem mL(l:Tx):(tS l).cps.toList=l:=by simp[tS]
theorem lH(l:Tx):(tS l).length=l.length:=by simp[tS,Str.length]
theorem EE(z:Str):tS z.cps.toList=z:=by cases z;simp[tS]
theorem qy{a b:Tx}(h:tS a=tS b):a=b:=by rw[<-mL a,h,mL]
theorem Lu{a b:Tx}(h:tV a=tV b):a=b:=qy (V.str.inj h)
theorem AS(a:List Tx):(dO a).length=a.length:=bS _
def dz(a b:Tx):Bool:=decide (a<=b)
def bJ(a:List Tx):List Tx:=a.mergeSort dz
theorem D8(a b c:Tx)(f:dz a b=ah)(d:dz b c=ah):dz a c=ah:=by simp only[dz,decide_eq_true_eq]at *;exact List.le_trans f d
theorem KW(a b:Tx):(dz a b||dz b a)=ah:=by simp only[dz,pO,decide_eq_true_eq];exact List.le_total a b
theorem OQ{a b:Tx}(d:dz a b=ah)(c:dz b a=ah):a=b:=by simp only[dz,decide_eq_true_eq]at *;exact List.le_antisymm d c
theorem jU(a:List Tx):(bJ a).Perm a:=List.mergeSort_perm _ _
theorem xz(c:List Tx):(bJ c).Pairwise (λa b=>dz a b=ah):=List.pairwise_mergeSort D8 KW _
theorem O4(a:List Tx):(bJ a).length=a.length:=(jU a).length_eq
theorem xr{c d:List Tx}(g:d.Perm c)(f:d.Pairwise (λa b=>dz a b=ah)):d=bJ c :=List.Perm.eq_of_pairwise (le:=λa b=>dz a b=ah) (λ_ _ _ _ i h=>OQ i h) f (xz c) (g.trans (jU c).symm)
theorem xu{c:List Tx}(d:c.Pairwise (λa b=>dz a b=ah)):bJ c=c:=(xr (BV c) d).symm
theorem zh{a b:List Tx}(c:a.Perm b):bJ a=bJ b:=xr ((jU a).trans c) (xz a)
theorem D6:∀(p:Str) (l:List Str),risingS p l=ah->(p::l).Pairwise (λa b=>dz a.cps.toList b.cps.toList=ah)
 |p,[],_=>List.pairwise_singleton _ _
 |p,x::r,h=>by
  have d:(!ltCps x.cps.toList p.cps.toList&&risingS x r)=ah:=h;rw[dS,ltCps_eq]at d;have q:=D6 x r d.2;have f:dz p.cps.toList x.cps.toList=ah:=by simp only[dz,decide_eq_true_eq];intro g;simp[g]at d
  refine List.pairwise_cons.mpr ⟨λy c=>?_,q⟩;rcases b8.mp c with rfl|c
  .exact f
  .exact D8 _ _ _ f (List.rel_of_pairwise_cons q c)
theorem Q5{c:List Str}(h:sortedS c=ah):(c.map λz=>z.cps.toList).Pairwise (λa b=>dz a b=ah):=by
 rw[GT];cases c with
 |nil=>exact List.Pairwise.nil
 |cons x r=>exact D6 x r h
theorem yP:∀{ls:List Tx}{a:List ai},bD (dO ls) a->gH a (ls.map tS)
 |[],_,.nil=>.nil
 |l::ls,_::_,.cons ⟨t,e⟩ r=>by subst e;exact .cons _ t (yP (ls:=ls) r)
theorem w8:∀{b:List Str}{a:List ai},gH a b->bD (dO (b.map λz=>z.cps.toList)) a
 |_,_,.nil=>.nil
 |_,_,.cons y t h=>.cons ⟨t,by rw[EE]⟩ (w8 h)
section
variable{P:a_}{w:aU}{A:a4}{E:ai->ao->Prop}{s:ao}
theorem Ea{v:ai}{Q:ai->ao->Prop}(y:aw (aE P w) A.in1 (collect v) (λd s1=>∃ss:List Str,gH d ss/\d.length<64/\∀(i:aI) (out:Array ai) (f:List Str) (e:Nat),(∀b o,s1.heap.get? b=aa o->i.get? b=aa o) -> i.get? s1.heap.objs.size=aa (seqObj "list" out e)->gH out.toList f->f.Perm ss->sortedS f=ah->Q (.ref s1.heap.objs.size) {s1 with heap:=i}) E s):aw (aE P w) A (call (.builtin "sorted") [v]) Q E s:=by refine Calls.call_function_entry kind_sorted plain_sorted entry_sorted (args_sorted1 _) ?_;unfold Builtin.«sorted»;refine ax (m:=checkCount "sorted" 1 1 _) (aX ?_);refine ax (aW y λd s1 ⟨ss,h,p,j⟩=>?_);refine ax (wpAny_newList ?_);have g:(s1.heap.push (seqObj "list" d.toArray 0)).get? s1.heap.objs.size=aa (seqObj "list" d.toArray 0):=cW _ rfl;refine ax (pK (yd slot_list_sort ⟨_,g,rfl⟩ entry_list_sort (list_sort_treeK strKind_oneLt g h.keysOf (λa b c e=>keyKind_strs (by rw[<-e];exact h)) p λq u r=>⟨_,rfl,?_⟩) (args_list_sort _)));obtain⟨f,C,B,z⟩:=sorted_out_str h u r;obtain⟨e,x⟩:=sortedHeap_at (out:=(arrOf q).map (·.2)) g;refine aX ⟨_,rfl,j _ _ f e (λb o l=>?_) x C B z⟩;have n:b<s1.heap.objs.size:=bK l;rw[sortedHeap_old (dm n) (by rw[kf];exact kZ n)];exact bN _ l
end
section
variable{X:Cx}
theorem Inv.sorted{g:List (ac×Obj)}{f:St}{H:Hp}{s1:ao}{a:List Tx}{ss c:List Str}{d:aI}{out:Array ai}{e:Nat}(I:Inv X g f H s1)(j:ss=a.map tS)(r:a.length<64)(k:∀b o,s1.heap.get? b=aa o->d.get? b=aa o) (i:d.get? s1.heap.objs.size=aa (seqObj "list" out e)) (q:gH out.toList c) (p:c.Perm ss) (n:sortedS c=ah):Inv X g f (upd H s1.heap.objs.size (.lst (dO (bJ a)))) {s1 with heap:=d}:=by
 have m:c.map (λz=>z.cps.toList)=bJ a:=by
  refine xr ?_ (Q5 n);have:=p.map λz=>z.cps.toList;rw[j,fc]at this;have l:(a.map ((λz:Str=>z.cps.toList) ∘ tS))=a:=by simp[Function.comp_def,mL]
  rw[l]at this;exact this
 have h:bD (dO (bJ a)) out.toList:=by rw[<-m];exact w8 q
 refine I.laid (t':=s1.toks) k (bB _) ⟨?_,out.toList,e,h,?_⟩
 .rw[AS,O4];exact pC (AL ∅)
 .rw[Array.toArray_toList];exact i
theorem za:d_ X (.builtin "sorted") (λxs H Q=>∃(p:ac) (d:List Tx),xs=[.ref p]/\(cp X.K H p (dO d)\/dj X.K H p (dO d))/\d.length<64/\∀l,H l=af->Q (.ref l) (upd H l (.lst (dO (bJ d))))):=by
 intro D s w H xs J Q I r h;obtain⟨p,d,rfl,f,y,q⟩:=h;obtain⟨u,rfl,x⟩:=vals1 r;cases x;have b:∀(T:String) (o:Obj) (a:List ai) (n:Nat),(T = "list"\/T = "tuple")->s.heap.get? p=aa o->o.cls=.type T->o.data=.seq a.toArray n->bD (dO d) a ->
   aw (aE X.prog X.w) X.A (call (.builtin "sorted") [Value.ref p]) (EP X D w Q) X.xe s:=λT o a n C j i g c=>by
  have B:=c.length;rw[AS]at B;have m:=AL (n:=a.length) ∅;refine Ea (wpAny_collect_seq p C j i g (λK z=>?_) (by rw[cR];lia));have v:=I.kept (t':=s.toks) z;refine⟨_,yP c,by rw[GS];lia,λL out M e k j G F E=>?_⟩;exact⟨.ref _,_,Inv.sorted v rfl y k j G F E,rfl,q _ v.fresh⟩
 rcases f with f|f
 .obtain⟨a,c,pl,A⟩:=I.list f;obtain⟨o,e,i,n,g⟩:=pl.isList;exact b "list" o a n (.inl rfl) e i g c
 .obtain⟨a,c,⟨o,e,i,n,g⟩,A⟩:=I.tuple f;exact b "tuple" o a n (.inr rfl) e i g c
theorem Mf(z:Tx)(n:Nat):Txt.mul (tS z) (n:Int)=tS (cX n z).flatten:=by
 unfold Txt.mul;cases n with
 |zero=>simp[tS,kW]
 |succ n=>
  rw[if_neg ∅];split
  .rename_i h;simp only[pO,beq_iff_eq]at h;rcases h with h|h
   .have:n=0:=∅
    subst this;simp
   .rw[lH]at h;have:z=[]:=yt h;subst this;simp
  .unfold tS;congr 1;have b:∀(k:Nat) (a:Array Nat),(cX k z.toArray).foldl (·++·) a=a++(cX k z).flatten.toArray:=by
    intro k
    induction k with
    |zero=>intro a;simp
    |succ k c=>intro a;rw[GN,nk,c,GN,List.flatten_cons];simp[Array.append_assoc]
   have e:=b (n+1) #[];simp only[om];simpa using e
theorem Og:cf X (jH .Mult) (λx y H Q=>∃(z:Tx) (n:Nat),x=tV z/\y=.int n/\n<=100/\z.length<=100/\Q (tV (cX n z).flatten) H):=by
 intro w s j H x y v u Q I c b h;obtain⟨z,n,rfl,rfl,f,d,q⟩:=h;obtain⟨t,rfl⟩:=c;obtain⟨m,rfl⟩:=b;refine SB.mul ?_ λl k=>?_
 .have o:z.length*n<=10000:=d3 (Nat.mul_le_mul d f) (by decide);refine⟨by rw[Bool.or_eq_false_iff];constructor <;> (apply decide_eq_false;lia),λi _=>?_,λi _=>?_⟩
  .rw[lH];intro g;have r:(2^63-1:Int) / n ≥ (2^63-1) / 100:=by
    have a:(0:Int)<n:=∅
    apply (Int.le_ediv_iff_mul_le a).mpr;have:((2^63-1:Int) / 100)*n<=((2^63-1) / 100)*100:=Int.mul_le_mul_of_nonneg_left ∅ (by decide);refine Int.le_trans this (by decide)
   have p:((2^63-1:Int) / 100) > 1000:=by decide
   lia
  .rw[lH,om];unfold Builtin.Str.tooLong;apply decide_eq_false;have:10000<bi:=by rw[pF];decide
   lia
 .rw[Mf];exact⟨tV _,H,I.tok _,⟨_,rfl⟩,q⟩
end
theorem Mn(t:jL)(j:Nat):(t.put j).1.led=t.led/\(t.put j).1.plain=t.plain:=⟨rfl,rfl⟩
theorem HK(t:jL)(n:Nat):(t.orStandIn n).led=t.led/\((t.orStandIn n).plain=t.plain\/(t.orStandIn n).plain=aj):=by
 unfold SetTable.orStandIn;split
 .exact⟨rfl,.inl rfl⟩
 .exact⟨rfl,.inr rfl⟩
theorem IV(t:jL)(c:Array (Int×ai))(h:Int)(x:ai):(layNew t c h x).2.1.led=t.led/\((layNew t c h x).2.1.plain=t.plain\/(layNew t c h x).2.1.plain=aj):=by
 unfold layNew;split
 .rename_i a b _;have f:=Mn t a;have d:=HK (t.put a).1 (SetTable.insertAt c (t.put a).2 (h,x)).size;exact⟨d.1.trans f.1,by rw[<-f.2];exact d.2⟩
 .exact⟨rfl,.inr rfl⟩
theorem NX(t:jL)(c:Array (Int×ai))(a:Nat)(d:t.plain=aj):(rY t c a).2.1.led=t.led/\(rY t c a).2.1.plain=aj:=by
 unfold rY;split
 .rename_i t' b e;have q:t'.led=t.led/\t'.plain=t.plain:=by
   unfold SetTable.relaid SetTable.laid at e;cases q:SetTable.layClean (SetTable.sizeAbove a-1) (c.map (·.1))with
   |none=>rw[q]at e;cases e
   |some f=>rw[q]at e;cases e;exact⟨rfl,rfl⟩
  dsimp only;split
  .exact⟨q.1,q.2.trans d⟩
  .exact⟨rfl,rfl⟩
 .exact⟨rfl,rfl⟩
def eP(w:aU):Bool:=w.params.followText "set-order"
structure jG(P:a_)(w:aU)(h:aI)(a:ac)(ks:List Str):Prop where
 ex:∃(es:Array (Int×ai)) (ep:Nat) (t:jL) (ss:List Str),h.get? a=aa {cls:=.type "set",dict:=af,data:=.set es ep t}/\gH (es.toList.map (·.2)) ss/\ss.Perm ks/\ElemsOf (jM P w) es.toList /\
  es.size<4090/\t.fits es.size=ah/\t.led=(!eP w)/\(ks≠[]->t.plain=aj)
theorem jG.at{P:a_}{w:aU}{h h':aI}{a:ac}{ks:List Str}(S:jG P w h a ks)(k:∀o,h.get? a=aa o->h'.get? a=aa o):jG P w h' a ks:=by obtain⟨es,ep,t,ss,e,r⟩:=S.ex;exact⟨es,ep,t,ss,k _ e,r⟩
theorem Fi:∀{a:List ai}{b:List Str},gH a b->∀x,x∈b↔∃t,Value.str x t∈a
 |_,_,.nil,x=>by simp
 |_,_,.cons y t h,x=>by
  rw[b8,Fi h x];constructor
  .rintro(rfl|⟨t',q⟩)
   .exact⟨t,m8 ..⟩
   .exact⟨t',jn _ q⟩
  .rintro⟨t',q⟩;rcases b8.mp q with q|q
   .cases q;exact .inl rfl
   .exact .inr ⟨t',q⟩
theorem zK:∀{a b:List ai},a.Perm b->∀{c:List Str},gH b c->∃d,gH a d/\d.Perm c:=by intro a b p c h;refine⟨a.map strOf,strsAre_map a λv f=>h.all v (p.mem_iff.mp f),?_⟩;have:=p.map strOf;rwa[h.strs]at this
section
variable{P:a_}{w:aU}{A:a4}{E:ai->ao->Prop}{s:ao}
def jE(ks:List Str)(x:Str):List Str:=if x∈ks then ks else ks++[x]
theorem jG.put{h:aI}{a:ac}{c es':Array (Int×ai)}{b:Nat}{t t':jL}(e:h.get? a=aa {cls:=.type "set",dict:=af,data:=.set c b t}):(h.update a (Obj.putSet es' t')).get? a=aa {cls:=.type "set",dict:=af,data:=.set es' (b+1) t'}:=by have:=pP (Obj.putSet es' t') e (by rw[putSet_of es' t' rfl];rfl);rw[putSet_of es' t' rfl]at this;exact this
theorem Je{a:ac}{ks:List Str}{x:Str}{g:Tok}{Q:Bool->ao->Prop}(S:jG P w s.heap a ks)(hn:ks.length<4000)(h:∀l b,kU a s.heap l->jG P w l a (jE ks x)->Q b {s with heap:=l}):aw (aE P w) A (setAddHashed a (.str x g) ((jM P w).hash x)) Q E s:=by
 obtain⟨m,ep,t,ss,T,W,hp,B,hsz,hf,pZ,cG⟩:=S.ex;have v:∀y t',(jM P w).is x (.str y t')=decide (y=x):=λy t'=>by
  show uz x (.str y t')=_;rw[oi];simp[uz]
  try exact eq_comm
 have sj:(jM P w).is x (.str x g)=ah:=by rw[v];simp
 have hb:m.size<scanBound:=BO hsz (by decide);unfold setAddHashed setAddHashedIn;refine pK (ax (rZ T rfl hf ?_));dsimp only;rw[byScan_of (knd:=jM P w) (x:=.str x g) rfl hb B];simp only[if_true];unfold setAddByScan;refine ax (ax (wpAny_rule (ax (wpAny_setScan_of sj T rfl hf B ?_))));have p:x∈ks↔∃e∈m.toList,(jM P w).is x e.2=ah:=by
  rw[<-hp.mem_iff,Fi W x];constructor
  .rintro⟨t',q⟩;obtain⟨e,G,ee⟩:=b0.mp q;exact⟨e,G,by rw[ee,v];simp⟩
  .rintro⟨e,G,q⟩;obtain⟨y,t',ey⟩:=W.all e.2 (b0.mpr ⟨e,G,rfl⟩);rw[ey,v]at q;have:y=x:=of_decide_eq_true q;subst this;exact⟨t',b0.mpr ⟨e,G,ey⟩⟩
 have klen:ks.length=m.size:=by
  have Y:=hp.length_eq;have X:ss.length=m.size:=by rw[<-W.strs];simp
  lia
 cases hr:List.findIdx? (λe=>(jM P w).is x e.2) m.toList with
 |some j=>dsimp only;obtain⟨hj,hpj,_⟩:=RP.mp hr;have O:x∈ks:=p.mpr ⟨_,uR hj,hpj⟩;refine aX (aX ?_);exact h s.heap _ (Heap.SameBut.refl a s.heap) (by unfold jE;rw[if_pos O];exact S)
 |none=>
  dsimp only;have O:¬x∈ks:=λhm=>by obtain⟨e,G,q⟩:=p.mp hm;have:=List.findIdx?_eq_none_iff.mp hr e G;rw[q]at this;exact Bool.noConfusion this
  have J:∀(b:Bool) {i:ao}{Q':Unit->ao->Prop},Q' () i->aw (aE P w) A (match b with|ah=>rule "set.scan.the-table-gave-way" |aj=>pure ()) Q' E i :=
   λb i Q' hq=>by cases b <;> first|exact aX hq|exact wpAny_rule hq
  have F:=layNew_perm t m ((jM P w).hash x) (.str x g);have K:=layNew_fits t m ((jM P w).hash x) (.str x g);have sy:=IV t m ((jM P w).hash x) (.str x g);generalize hL:layNew t m ((jM P w).hash x) (.str x g)=L at F K sy ⊢;obtain⟨c,t1,f,gave⟩:=L;dsimp only at F K sy ⊢;rw[Array.toList_push]at F;have u:ElemsOf (jM P w) c.toList:=(B.push sj rfl).perm F;have hsz1:c.size=m.size+1:=by have:=F.length_eq;simpa using this
  have hS1:∃D,gH (c.toList.map (·.2)) D/\D.Perm (jE ks x):=by
   have p1:=F.map (λe:Int×ai=>e.2);rw[oq]at p1;have q1:gH (m.toList.map (·.2)++[Value.str x g]) (ss++[x]):=by
    have gen:∀{vs:List ai}{Z:List Str},gH vs Z->gH (vs++[Value.str x g]) (Z++[x]):=by
     intro vs Z hh
     induction hh with
     |nil=>exact .cons x g .nil
     |cons y t _ ih=>exact .cons y t ih
    exact gen W
   obtain⟨D,N,M⟩:=zK p1 q1;refine⟨D,N,M.trans ?_⟩;unfold jE;rw[if_neg O];exact hp.append_right _
  obtain⟨D,N,M⟩:=hS1;have cL:jE ks x≠[]:=by unfold jE;rw[if_neg O];simp
  have o:∀d:jL,d.fits c.size=ah->d.led=(!eP w)->d.plain=aj->aw (aE P w) A (do
    storeSet a c d
    if(!f&&d.tooFull)=ah then do
      (match (rY d c (r8 c.size)).2.2 with|ah=>rule "set.scan.the-table-gave-way" |aj=>pure ())
      storeSet a (rY d c (r8 c.size)).1 (rY d c (r8 c.size)).2.1
      pure (aa ah)
     else pure (aa ah)) (λr s'=>∃l,r=aa ah/\s'={s with heap:=l}/\kU a s.heap l/\jG P w l a (jE ks x)) E s:=by
   intro d oB jO gw;refine ax (wpAny_storeSet_of T rfl ?_ (fits_of_scanBound (BO (show c.size<4090 by lia) (by decide))));have o1:=jG.put (es':=c) (t':=d) T;have i_:=yu s.heap a (Obj.putSet c d);split
   .have H:=relayAll_perm d c (r8 c.size);have z:=relayAll_fits d c (r8 c.size);have n:=NX d c (r8 c.size) gw;generalize hRl:rY d c (r8 c.size)=Rl at H z n ⊢;obtain⟨C,t3,gave2⟩:=Rl;dsimp only at H z n ⊢;have hsz2:C.size=c.size:=by have:=H.length_eq;simpa using this
    refine ax (J _ ?_);refine ax (wpAny_storeSet_of o1 rfl ?_ (fits_of_scanBound (BO (show C.size<4090 by lia) (by decide))));obtain⟨ss2,u1,u2⟩:=zK (H.map (λe:Int×ai=>e.2)) N;refine aX ⟨_,rfl,rfl,i_.trans (yu _ a _),⟨C,_,t3,ss2,jG.put o1,u1,u2.trans M,u.perm H,∅,z,n.1.trans jO,λ_=>n.2⟩⟩
   .exact aX ⟨_,rfl,rfl,i_,⟨c,_,d,D,o1,N,M,u,∅,oB,jO,λ_=>gw⟩⟩
  have Hh:t1.led=(!eP w):=sy.1.trans pZ;refine ax (J _ ?_);split
  .refine ax ?_;rw[hashByValue_scannable 8 (x:=.str x g) rfl];refine aX ?_;have hk:plainKind (.str x g)=aj:=rfl;rw[hk];simp only[BW,if_false];refine aW (o {t1 with plain:=aj} (SetTable.fits_plain_off K) Hh rfl) λr s' ⟨l,Y,X,e3,e4⟩=>?_;subst Y X;exact aX (h l _ e3 e4)
  .rename_i I;refine ax (aX ?_);simp only[if_true];refine aW (o t1 K Hh (by simpa using I)) λr s' ⟨l,Y,X,e3,e4⟩=>?_;subst Y X;exact aX (h l _ e3 e4)
end
def met(val:Nat->Str)(i:Nat):List Str:=((bX i).map val).foldl jE []
theorem Fh(val:Nat->Str)(i:Nat):met val (i+1)=jE (met val i) (val i):=by unfold met;rw[uQ,oq,BX];rfl
theorem Em(val:Nat->Str){i:Nat}:∀{j:Nat},i<=j->(met val i).length<=(met val j).length
 |0,h=>by rw[show i=0 by lia];exact bB _
 |j+1,h=>by
  by_cases e:i=j+1
  .subst e;exact bB _
  .refine d3 (Em val (j:=j) ∅) ?_;rw[Fh];unfold jE;split
   .exact bB _
   .simp
section
variable{P:a_}{w:aU}{A:a4}{R:Result->ao->Prop}{I:ac}{c a:List ac}{G:Array GenState->Array GenState->Prop}{n:Nat}{d:Nat->ai->Prop}{St:Nat->ao->Prop}
theorem DM(W:WalksS P w A.in1 I c a G n d St)(S:ac)(D:S∉c){J:Nat->aI->Prop}(K:∀i h j,J i h->(∀b o,b∉a->h.get? b=aa o->j.get? b=aa o)->J i j)(M:∀(i:Nat) (v:ai) (s:ao) (E:ai->ao->Prop) (Q:Bool->ao->Prop),i<n->d i v->J i s.heap->(∀j u b,s.toks<=u->kU S s.heap j->J (i+1) j->Q b {s with heap:=j,toks:=u})->aw (aE P w) A.in1 (setAdd S v) Q E s):∀(k i:Nat) (s:ao),n-i=k->i<=n->St i s->J i s.heap -> (∀f,Moved (S::a) G s f->J n f.heap->R (.ok (.ret .none)) f)->ka (aE P w) A (.builtin "set.update.loop" ⟨[.ref S,.ref I],[]⟩) R s:=by
 have X:S∉a:=λh=>D (W.sub _ h);have H:∀b∈a,b∈S::a:=λb g=>jn _ g;intro k
 induction k with
 |zero=>
  intro i s O T B y z;obtain rfl:i=n:=∅
  refine uS RQ ?_;rw[yv GU _];show aw _ A.in1 (pyNext (.ref I) >>= _) _ _ s;refine ax (W.done s _ _ B λf q=>?_);show aw _ A.in1 (ret Value.none) _ _ f;exact aX (z f (q.mono H) (K _ _ _ y λb o g e=>q.heap b o g e))
 |succ k N=>
  intro i s O T B y z;have C:i<n:=∅
  refine uS RQ ?_;rw[yv GU _];show aw _ A.in1 (pyNext (.ref I) >>= _) _ _ s;refine ax (W.item i s _ _ C B λv f Y l q=>?_);show aw _ A.in1 (pE [v] (setAdd S v) >>= _) _ _ f;refine ax (pK (M i v f _ _ C Y (K _ _ _ y λb o g e=>q.heap b o g e) λj u b F m L=>?_));refine aX ⟨BY GU _,N (i+1) _ ∅ C (W.frame _ f _ _ l F λb g o e=>?_) L λx p r=>?_⟩
  .rw[m.2 b (λh:b=S=>D (by rw[<-h];exact g))];exact e
  .refine z x (Moved.trans W.gtrans ((q.mono H).then_heap F λb o g e=>?_) p) r;rw[m.2 b (λh:b=S=>g (by rw[h];exact m8))];exact e
end
section
variable{P:a_}{w:aU}{A:a4}{E:ai->ao->Prop}{s:ao}
theorem LR(a:ai){Q:ai->ao->Prop} (h:jG P w (s.heap.push {cls:=.type "set",dict:=af,data:=.set #[] 0 (.fresh 0 0 (!eP w))}) s.heap.objs.size [] -> Q (.ref s.heap.objs.size) {s with heap:=s.heap.push {cls:=.type "set",dict:=af,data:=.set #[] 0 (.fresh 0 0 (!eP w))}}):ka (aE P w) A (.call (.builtin "set.__new__") ⟨[.type "set",a],[]⟩) (wants Q E) s:=by
 refine codeAny_of_tree ?_;show aw _ A.in1 (do GW "set.__new__" ⟨[.type "set",a],[]⟩;again (.builtin "set.__new__" ⟨[.type "set",a],[]⟩)) _ _ s;refine ax (wpAny_of_eq (PySem.F.newCall_set_1 a) (aX ⟨BY F.plain_set_new _,uS F.entry_set_new ?_⟩));rw[yv F.plain_set_new _];unfold Builtin.«set.__new__» Builtin.Frozenset.newClass;have i:=sub_set_self;obtain⟨j,g,d,c,f⟩:=s;dsimp only
 wp_walk
 refine r9 (aX ?_);dsimp only;simp only[newObj];refine ax (wpAny_alloc (aX ?_));refine aX (h ⟨#[],0,_,[],cW _ rfl,.nil,BV _,λe b=>by simp at b,by decide,rfl,rfl,λh=>absurd rfl h⟩)
end
end L2
set_option maxHeartbeats 8000000
namespace L2
theorem HJ:entryFor table "set.__iter__"=aa Builtin.«frozenset.__iter__»:=entryFor_alias (id':="frozenset.__iter__") (by kernel_rfl) rfl (by decide +kernel) (by kernel_rfl)
theorem Dv:Slot "set_iterator" "__next__" "set_iterator.__next__" :=
 .of (owner:="set_iterator") (n:="__next__") (by rw[typeLookup_type,builtinLookup_eq_fast];kernel_rfl) (by decide +kernel) (by decide +kernel) (by decide +kernel) (by first|exact .inl (by decide +kernel)|exact .inr (by decide +kernel)) (by rw[isSubtype_type];kernel_rfl)
theorem L_:entryFor table "set_iterator.__next__"=aa Builtin.«set_iterator.__next__»:=entryFor_of_fast (by kernel_rfl)
theorem Nt(a:ai):argsOk "set_iterator.__next__" ⟨[a],[]⟩:=by unfold argsOk;kernel_rfl
theorem Cp:Slot "set_iterator" "__iter__" "set_iterator.__iter__" :=
 .of (owner:="set_iterator") (n:="__iter__") (by rw[typeLookup_type,builtinLookup_eq_fast];kernel_rfl) (by decide +kernel) (by decide +kernel) (by decide +kernel) (by first|exact .inl (by decide +kernel)|exact .inr (by decide +kernel)) (by rw[isSubtype_type];kernel_rfl)
theorem Nr:entryFor table "set_iterator.__iter__"=aa Builtin.«dict_keyiterator.__iter__»:=entryFor_alias (id':="dict_keyiterator.__iter__") (by kernel_rfl) rfl (by decide +kernel) (by kernel_rfl)
theorem Ht(a:ai):argsOk "set_iterator.__iter__" ⟨[a],[]⟩:=by unfold argsOk;kernel_rfl
def iX(first:ai)(i:Nat)(a:ac)(n b:Nat):Obj:={cls:=.type "set_iterator",data:=.fields #[first,.int i 0,.ref a,.int n 0,.int b 0]}
section
variable{P:a_}{w:aU}{A:a4}{E:ai->ao->Prop}{s:ao}
theorem vQ{I a:ac}{first:ai}{i n d:Nat}{Q:ai->ao->Prop}(h:s.heap.get? I=aa (iX first i a n d))(c:Q (.ref I) s):aw (aE P w) A (oh (.ref I)) Q E s:=by
 have b:s.TypeIs (.ref I) "set_iterator":=⟨_,h,rfl⟩
 refine wpAny_pyIter_slot b Cp (yd Cp b Nr ?_ (Ht _));show aw _ _ (ret (.ref I)) _ _ s;exact aX ⟨_,rfl,"set_iterator",_,b,Dv.lookup,c⟩
theorem oX{I a:ac}{first:ai}{i:Nat}{f:Array (Int×ai)}{g:Nat}{t:jL}{Q:Option ai->ao->Prop}(n:s.heap.get? a=aa {cls:=.type "set",dict:=af,data:=.set f g t})(m:t.fits f.size=ah)(l:s.heap.get? I=aa (iX first i a f.size g))(h:aw (aE P w) A.in1 (if let .int slot _:=first then do
    match <-nq a slot.toNat (i:Int).toNat (g:Int).toNat with
    |some (x,next)=>do
     nr (.ref I) 0 (eQ next)
     nr (.ref I) 1 (eQ ((i:Int)+1))
     ret x
    |none=>do nr (.ref I) 2 .none;raiseNew (<-newExc (.type "StopIteration") [])
   else do
    let aa places <-seqItems? first|unsupported "internal:set_iterator"
    match places[(i:Int).toNat]? with
    |some (.int d _)=>do
     let x <-setNextDrawn a d.toNat (g:Int).toNat
     nr (.ref I) 1 (eQ ((i:Int)+1))
     ret x
    |some _=>unsupported "internal:set_iterator"
    |none=>do nr (.ref I) 0 (eQ 0);nr (.ref I) 2 .none;raiseNew (<-newExc (.type "StopIteration") []))
   (λc b=>∃r,c=.done (.ret r)/\Q (aa r) b) (λe b=>aw (aE P w) A (do if <-isInstance e (.type "StopIteration")then pure af else throw e) Q E b) s) :
  aw (aE P w) A (pyNext (.ref I)) Q E s:=by
 have j:s.TypeIs (.ref I) "set_iterator":=⟨_,l,rfl⟩
 unfold pyNext;refine ax (wpAny_attempt (wpAny_callSpecial?_slot (name:=bY "__next__") j Dv (yd Dv j L_ ?_ (Nt _))));unfold Builtin.«set_iterator.__next__» slotArgs;refine ax (aX ?_);refine ax (wpAny_fieldsOf l rfl ?_);show aw _ _ (setEntries a >>= _) _ _ s;refine ax (wpAny_setEntries_of n rfl m ?_);have u:(((f.size:Nat):Int) != ((f.size:Nat):Int))=aj:=by simp
 rw[u];simp only[BW,if_false];refine d4 ?_ (λc b q=>?_) (λe b q=>q) (Q:=λc b=>∃r,c=.done (.ret r)/\Q (aa r) b) (E:=λe b=>aw (aE P w) A (do if <-isInstance e (.type "StopIteration")then pure af else throw e) Q E b)
 .exact h
 .obtain⟨r,p,o⟩:=q;exact⟨r,p,aX o⟩
end
theorem A8{a:Type}:∀{l:List a}{i:Nat} (h:i<l.length),(l[i]::l.eraseIdx i).Perm l
 |[],i,h=>by simp at h
 |x::r,0,h=>by simp
 |x::r,i+1,h=>by have q:=A8 (l:=r) (i:=i) (by simpa using h);simp only[List.getElem_cons_succ,List.eraseIdx_cons_succ];exact(List.Perm.swap x _ _).trans (List.Perm.cons x q)
theorem D9{d:Type}(next:Nat->Nat):∀(b k:Nat) (a:List d) (out:Array d),b=a.length->(pickOrder.go next b k a out).toList.Perm (out.toList++a)
 |0,k,a,out,h=>by have:a=[]:=yt h.symm;subst this;simp[pickOrder.go]
 |b+1,k,a,out,h=>by
  have c:next k % a.length<a.length:=Nat.mod_lt _ ∅
  unfold pickOrder.go;rw[e_ c];dsimp only;have f:=D9 next b (k+1) (a.eraseIdx (next k % a.length)) (out.push a[next k % a.length]) (by rw[List.length_eraseIdx,if_pos c];lia)
  refine f.trans ?_;rw[Array.toList_push,BZ];exact List.Perm.append_left _ (A8 c)
theorem DL{a:Type}(next:Nat->Nat)(xs:Array a):(uT next xs).toList.Perm xs.toList:=by
 have:=D9 next xs.size 0 xs.toList #[] (by simp)
 simpa[uT]using this
section
variable{P:a_}{w:aU}{A:a4}{E:ai->ao->Prop}{s:ao}
theorem OF{a:Source}{n:Nat}{Q:Nat->ao->Prop}(b:n≠0)(h:∀k d,k<n->Q k {s with drawn:=d}):aw (aE P w) A (choose a n) Q E s:=λc p hΓ=>by unfold choose;rw[Sem.wp_choose];refine⟨b,?_⟩;exact h _ _ (Nat.mod_lt _ (Nat.pos_of_ne_zero b))
theorem DU{c:Type}:∀(n:Nat) (xs:List c) (s:ao) (Q:List c->ao->Prop),n=xs.length->(∀a d,a.Perm xs->Q a {s with drawn:=d})->aw (aE P w) A (drawOrder n xs) Q E s
 |0,[],s,Q,_,h=>by unfold drawOrder;exact aX (h [] s.drawn (BV _))
 |0,x::xs,s,Q,hn,h=>by simp at hn
 |n+1,[],s,Q,hn,h=>by simp at hn
 |n+1,x::xs,s,Q,hn,h=>by unfold drawOrder;refine ax (OF (by simp) λk d b=>?_);rw[e_ b];dsimp only;refine ax (DU n ((x::xs).eraseIdx k) _ _ (by rw[List.length_eraseIdx,if_pos b];lia) λa g f=>?_);refine aX (h _ g ?_);exact(List.Perm.cons _ f).trans (A8 b)
theorem v8{Q:Option ai->ao->Prop}{R:Fin->ao->Prop}(f:A.handled=af)(g:∀c,(∀b o,s.heap.get? b=aa o->c.get? b=aa o)->Q af {s with heap:=c}):aw (aE P w) A.in1 (do raiseNew (<-newExc (.type "StopIteration") [])) R (λe d=>aw (aE P w) A (do if <-isInstance e (.type "StopIteration")then pure af else throw e) Q E d) s:=by
 refine ax ?_;simp only[newExc,newTuple];refine ax (lO ?_ (by size_fits));refine ax (m:=firstArgMember _ _) (wpAny_of_eq (a:=Value.none) (by first|rfl | (simp only[firstArgMember];rfl)) ?_);refine lO ?_ (by size_fits);simp only[raiseNew];refine ax (wpAny_handled ?_);rw[show A.in1.handled=af from f];refine ax (aX (wpAny_throw ?_));refine ax (wpAny_isInstance (T:="StopIteration") (b:=ah) ⟨_,cW _ rfl,rfl⟩ isSubtype_stop ?_);exact aX (g _ λb o e=>bN _ (bN _ e))
theorem AE{I a:ac}{first d:ai}{i n f:Nat}{Q:Unit->ao->Prop}(c:s.heap.get? I=aa (iX first i a n f))(h:∀b,kU I s.heap b->b.get? I=aa (iX d i a n f)->Q () {s with heap:=b}):aw (aE P w) A (nr (.ref I) 0 d) Q E s:=by refine r_ c rfl (by simp[iX]) (h _ (yu ..) ?_);rw[pP _ c (by rfl)];rfl
theorem zO{I a:ac}{first:ai}{i n d:Nat}{Q:Unit->ao->Prop}(c:s.heap.get? I=aa (iX first i a n d))(h:∀b,kU I s.heap b->b.get? I=aa (iX first (i+1) a n d)->Q () {s with heap:=b}):aw (aE P w) A (nr (.ref I) 1 (eQ ((i:Int)+1))) Q E s:=by refine r_ c rfl (by simp[iX]) (h _ (yu ..) ?_);rw[pP _ c (by rfl)];rfl
theorem wI{I a:ac}{first:ai}{i n d:Nat}{Q:Unit->ao->Prop}(c:s.heap.get? I=aa (iX first i a n d))(h:∀b,kU I s.heap b->(∃o,b.get? I=aa o)->Q () {s with heap:=b}):aw (aE P w) A (nr (.ref I) 2 .none) Q E s:=by refine r_ c rfl (by simp[iX]) (h _ (yu ..) ⟨_,pP _ c (by rfl)⟩)
abbrev o_(a:Array (Int×ai))(b:Nat)(t:jL):Obj:={cls:=.type "set",dict:=af,data:=.set a b t}
theorem Om{I a:ac}{d:Array (Int×ai)}{g:Nat}{t:jL}(y:a≠I)(n:t.fits d.size=ah)(f:eP w=ah)(C:A.handled=af):Walks P w A I [I,a] [I] d.size (λi v=>((uT (w.params.setOrder a g) d).toList.map (·.2))[i]?=aa v) (λi h=>h.get? I=aa (iX (eQ 0) i a d.size g)/\h.get? a=aa (o_ d g t)):=by
 have hsz:(uT (w.params.setOrder a g) d).size=d.size:=by have:=(DL (w.params.setOrder a g) d).length_eq;simpa using this
 have j:∀(s:ao) (i:Nat) (Q:Option (ai×Nat)->ao->Prop) (E:ai->ao->Prop),s.heap.get? a=aa (o_ d g t) ->
   Q (((uT (w.params.setOrder a g) d)[i]?).map λe=>(e.2,0)) s->aw (aE P w) A.in1 (nq a (0:Int).toNat (i:Int).toNat (g:Int).toNat) Q E s:=λs i Q E u B=>by
  unfold nq;refine ax (rZ u rfl n ?_);unfold yw;refine ax (ax (r9 (aX ?_)));show aw _ _ (if eP w=ah then _ else _) _ _ s;rw[if_pos f];simp only[om,bne_self_eq_false,BW,if_false];unfold setWalk;refine ax (ax (rZ u rfl n ?_));unfold yw;refine ax (ax (r9 (aX ?_)));show aw _ _ (if eP w=ah then _ else _) _ _ s;rw[if_pos f];refine ax (r9 (aX (aX ?_)));exact B
 refine⟨λb f=>by simp at f;simp[f],λi h H c k=>⟨k I (by simp) _ c.1,k a (by simp) _ c.2⟩,λi s Q E G c l=>?_,λs Q E c l=>?_,λi s Q E c l=>vQ c.1 l⟩
 .refine oX c.2 n c.1 ?_;refine ax (j s i _ _ c.2 ?_);have x:i<(uT (w.params.setOrder a g) d).size:=∅
  rw[B0 x];dsimp only[pQ];refine ax (AE c.1 λq m F=>?_);refine ax (zO (s:={s with heap:=q}) F λp r D=>?_);refine aX ⟨_,rfl,l _ p s.toks ?_ ⟨D,?_⟩ λb o f e=>?_⟩
  .rw[kc];simp[B0 x]
  .exact(r.2 a y).trans ((m.2 a y).trans c.2)
  .exact(r.2 b (by simpa using f)).trans ((m.2 b (by simpa using f)).trans e)
 .refine oX c.2 n c.1 ?_;refine ax (j s d.size _ _ c.2 ?_);rw[Array.getElem?_eq_none ∅];dsimp only[Option.map_none];refine ax (wI c.1 λq m _=>?_);exact v8 (s:={s with heap:=q}) C λp z=>l p s.toks λb o f e=>z b o ((m.2 b (by simpa using f)).trans e)
theorem RF{I a T:ac}{f:Array (Int×ai)}{J:Nat}{t:jL}{c:List Nat}(cL:a≠I)(Z:T≠I)(C:t.fits f.size=ah)(G:c.Perm (bX f.size))(Y:A.handled=af):Walks P w A I [I,a,T] [I] f.size (λi v=>(c.filterMap λj=>(f[j]?).map (·.2))[i]?=aa v) (λi h=>h.get? I=aa (iX (.ref T) i a f.size J)/\h.get? a=aa (o_ f J t)/\h.get? T=aa {cls:=.type "tuple",data:=.seq (c.map λ(k:Nat)=>eQ k).toArray}):=by
 have z:c.length=f.size:=by simpa using G.length_eq
 have L:∀j∈c,j<f.size:=λj B=>by simpa using G.mem_iff.mp B
 have fm:∀(l:List Nat),(∀j∈l,j<f.size)->∀(i j:Nat),l[i]?=aa j->∃e:Int×ai,f[j]?=aa e/\(l.filterMap λj=>(f[j]?).map (·.2))[i]?=aa e.2:=by
  intro l
  induction l with
  |nil=>intro _ i j h;simp at h
  |cons x r N=>
   intro H i j h;have S:x<f.size:=H x (m8 ..);have F:f[x]?=aa f[x]:=B0 S;cases i with
   |zero=>simp at h;subst h;exact⟨_,F,by rw[uB,F];rfl⟩
   |succ i=>obtain⟨e,y,u⟩:=N (λj B=>H j (jn _ B)) i j (by simpa using h);exact⟨e,y,by rw[uB,F];simpa using u⟩
 have g:∀(s:ao) (Q:Option (Array ai)->ao->Prop) (E:ai->ao->Prop),s.heap.get? T=aa {cls:=.type "tuple",data:=.seq (c.map λ(k:Nat)=>eQ k).toArray}->Q (aa (c.map λ(k:Nat)=>eQ k).toArray) s->aw (aE P w) A.in1 (seqItems? (.ref T)) Q E s:=λs Q E W X=>by exact wpAny_seqItems W rfl X
 refine⟨λb m=>by simp at m;simp[m],λi h h' d k=>⟨k I (by simp) _ d.1,k a (by simp) _ d.2.1,k T (by simp) _ d.2.2⟩,λi s Q E hi d p=>?_,λs Q E d p=>?_,λi s Q E d p=>vQ d.1 p⟩
 .refine oX d.2.1 C d.1 ?_;refine ax (g s _ _ d.2.2 ?_);have K:i<c.length:=∅
  have q:((c.map λ(k:Nat)=>eQ k).toArray)[(i:Int).toNat]?=aa (eQ (c[i]:Nat)):=by simp[K]
  dsimp only;rw[q];obtain⟨e,y,u⟩:=fm c L i c[i] (e_ K);show aw _ _ (setNextDrawn a _ _ >>= _) _ _ s;refine ax ?_;unfold setNextDrawn;refine ax (rZ d.2.1 rfl C ?_);simp only[om,bne_self_eq_false,BW,if_false];rw[y];refine aX ?_;refine ax (zO d.1 λD n e2=>?_);refine aX ⟨_,rfl,p _ D s.toks u ⟨e2,(n.2 a cL).trans d.2.1,(n.2 T Z).trans d.2.2⟩ λb o m e=>(n.2 b (by simpa using m)).trans e⟩
 .refine oX d.2.1 C d.1 ?_;refine ax (g s _ _ d.2.2 ?_);have q:((c.map λ(k:Nat)=>eQ k).toArray)[(f.size:Int).toNat]?=af:=by simp[z]
  dsimp only;rw[q];refine ax (AE d.1 λh1 O q=>?_);refine ax (wI (s:={s with heap:=h1}) q λD n _=>?_);exact v8 (s:={s with heap:=D}) Y λh3 M=>p h3 s.toks λb o m e=>M b o ((n.2 b (by simpa using m)).trans ((O.2 b (by simpa using m)).trans e))
theorem IF(j k:Nat):RS #[j] k=if j<k then 1 else 0:=by
 unfold RS;simp only[cR,fL,lQ];unfold GX;simp;split
 .rename_i h;unfold GX;simp
 .unfold GX;simp
theorem IZ{I a:ac}{g:Array (Int×ai)}{n:Nat}{t:jL}(K:a≠I)(u:t.fits g.size=ah)(f:eP w=aj)(N:t.led=ah)(m:g.size=1)(S:A.handled=af):Walks P w A I [I,a] [I] 1 (λi v=>(g.toList.map (·.2))[i]?=aa v) (λi h=>h.get? I=aa (iX (eQ (if i=0 then 0 else((t.place.getD 0 0:Nat):Int)+1)) i a g.size n)/\h.get? a=aa (o_ g n t)):=by
 have M:t.place.size=1:=by simp only[SetTable.fits,dS,beq_iff_eq]at u;lia
 obtain⟨j,F⟩:=Array.size_eq_one_iff.mp M;have H:((t.place.getD 0 0:Nat):Int)=(j:Int):=by rw[F];rfl
 obtain⟨e,G⟩:=Array.size_eq_one_iff.mp m;have l:∀(s:ao) (d:Nat) (i:Nat) (Q:Option (ai×Nat)->ao->Prop) (E:ai->ao->Prop),s.heap.get? a=aa (o_ g n t) ->
   Q (if j<d then af else aa (e.2,j+1)) s->aw (aE P w) A.in1 (nq a d i n) Q E s:=λs d i Q E T r=>by
  unfold nq;refine ax (rZ T rfl u ?_);unfold yw;refine ax (ax (r9 (aX ?_)));show aw _ _ (if eP w=ah then _ else _) _ _ s;rw[if_neg (by rw[f];decide)];refine yx (λy=>absurd (show(!t.plain&&decide (g.size > 1))=ah from y) (by rw[m];simp)) (λ_=>?_);refine ax ?_;refine d4 (Q:=λ_ C=>C=s) (E:=E) ?_ (λ_ C L=>?_) (λ_ _ x=>x)
  .refine yx (λy=>absurd (show(!t.led&&!g.isEmpty)=ah from y) (by rw[N];simp)) (λ_=>aX rfl)
  .subst L;rw[F,IF,G];by_cases J:j<d
   .rw[if_pos J]at r ⊢;exact aX r
   .rw[if_neg J]at r ⊢;exact aX r
 refine⟨λb f=>by simp at f;simp[f],λi h Y c k=>⟨k I (by simp) _ c.1,k a (by simp) _ c.2⟩,λi s Q E X c p=>?_,λs Q E c p=>?_,λi s Q E c p=>vQ c.1 p⟩
 .obtain rfl:i=0:=∅
  refine oX c.2 u c.1 ?_;show aw _ _ (nq a (0:Int).toNat ((0:Nat):Int).toNat (n:Int).toNat >>= _) _ _ s;simp only[om,Int.toNat_zero];refine ax (l s 0 0 _ _ c.2 ?_);rw[if_neg (Nat.not_lt_zero j)];dsimp only;refine ax (AE c.1 λm q B=>?_);refine ax (zO (s:={s with heap:=m}) B λz D W=>?_);refine aX ⟨_,rfl,p _ z s.toks ?_ ⟨?_,?_⟩ λb o f e=>?_⟩
  .rw[G];rfl
  .rw[W,if_neg (by decide),H];rfl
  .exact(D.2 a K).trans ((q.2 a K).trans c.2)
  .exact(D.2 b (by simpa using f)).trans ((q.2 b (by simpa using f)).trans e)
 .refine oX c.2 u c.1 ?_;rw[if_neg (by decide),H];show aw _ _ (nq a ((j:Int)+1).toNat ((1:Nat):Int).toNat (n:Int).toNat >>= _) _ _ s;have B:((j:Int)+1).toNat=j+1:=∅
  rw[B,om,om];refine ax (l s (j+1) 1 _ _ c.2 ?_);rw[if_pos (jI j)];dsimp only;refine ax (wI c.1 λm q _=>?_);exact v8 (s:={s with heap:=m}) S λz O=>p z s.toks λb o f e=>O b o ((q.2 b (by simpa using f)).trans e)
theorem E9:∀{a:List ai}{b:List Str} (i:Nat) (v:ai),gH a b->a[i]?=aa v->∃t,v=.str (b.getD i kW) t
 |_,_,i,v,.nil,h=>by simp at h
 |_,_,0,v,.cons y t _,h=>by simp at h;exact⟨t,by rw[<-h];rfl⟩
 |_,_,i+1,v,.cons y t hr,h=>by simp only[List.getElem?_cons_succ]at h;obtain⟨c,e⟩:=E9 i v hr h;exact⟨c,by rw[e];rfl⟩
theorem OZ{h:aI}{o:Obj}{l:ac}{a:Array ai}(x:h.IsTuple l a):(h.push o).IsTuple l a:=let ⟨ob,e,r⟩:=x;⟨ob,bN _ e,r⟩
set_option maxRecDepth 100000 in
theorem RA{l:ac}{a:Array ai}{Q:ai->ao->Prop}(hh:A.handled=af)(D:s.heap.IsList l a\/s.heap.IsTuple l a){J:Nat->aI->Prop}(hJ:∀i h d,J i h->(∀b o,b<=s.heap.objs.size->h.get? b=aa o->d.get? b=aa o)->J i d) (Y:J 0 (s.heap.push {cls:=.type "set",dict:=af,data:=.set #[] 0 (.fresh 0 0 (!eP w))}))(lS:∀(i:Nat) (v:ai) (f:ao) (E:ai->ao->Prop) (Q:Bool->ao->Prop),i<a.size->a[i]?=aa v->J i f.heap->(∀d j b,f.toks<=j->kU s.heap.objs.size f.heap d->J (i+1) d->Q b {f with heap:=d,toks:=j})->aw (aE P w) A.in1.in1.in1 (setAdd s.heap.objs.size v) Q E f)(h:∀(d:aI) (j:Nat),J a.size d->(∀b o,b<s.heap.objs.size->s.heap.get? b=aa o->d.get? b=aa o)->Q (.ref s.heap.objs.size) {s with heap:=d,toks:=j}):aw (aE P w) A (call (.type "set") [.ref l]) Q E s:=by
 obtain⟨c,tl,hmro⟩:=F.called_set.mro;have O:=F.called_set.made;have kh:=F.called_set.sub;refine uI (codeAny_of_tree ?_);show aw _ _ (callAny (.type "set") _) _ _ _;refine aX ⟨Code.quiet_builtin _ (by decide +kernel),uS F.entry_type_call ?_⟩;rw[Around.under_plain (weight_type_call_type "set" [.ref l] []) rfl];have h1:=F.called_set.notType;have h2:=F.called_set.canCreate;have hct:=PySem.F.typeCall_set_1 (.ref l)
 repeat any_goals (first|assumption|wp_step)
 refine ol (LR (P:=P) (w:=w) (.ref l) (E:=E) (Q:=λn f=>n=.ref s.heap.objs.size/\f={s with heap:=s.heap.push {cls:=.type "set",dict:=af,data:=.set #[] 0 (.fresh 0 0 (!eP w))}}/\True) λS0=>⟨rfl,rfl,trivial⟩) λr f N=>?_;cases r with
 |error e=>exact N
 |ok fl=>
  cases fl with
  |ret n=>
   obtain⟨rfl,rfl,S0⟩:=N;have hS:=cW (h:=s.heap) (o:=({cls:=.type "set",dict:=af,data:=.set #[] 0 (.fresh 0 0 (!eP w))}:Obj));have W:(s.heap.push {cls:=.type "set",dict:=af,data:=.set #[] 0 (.fresh 0 0 (!eP w))}).get? s.heap.objs.size=aa {cls:=.type "set",dict:=af,data:=.set #[] 0 (.fresh 0 0 (!eP w))}:=cW _ rfl;have hT:Shared.TypeIs {s with heap:=s.heap.push {cls:=.type "set",dict:=af,data:=.set #[] 0 (.fresh 0 0 (!eP w))}} (.ref s.heap.objs.size) "set":=⟨_,W,rfl⟩
   have hli:=F.called_set.init.lookup;have hbi:=F.called_set.init.bind (.ref s.heap.objs.size)
   repeat any_goals (first|assumption|wp_step)
   refine ol (codeAny_call_builtin (R:=wants (λr s2=>r=.none/\∃d j,s2={s with heap:=d,toks:=j}/\J a.size d /\ (∀b o,b<s.heap.objs.size->s.heap.get? b=aa o->d.get? b=aa o)) E) F.called_set.init.plain F.entry_set_init (check_set_init_1 hT ?_)) λr2 s2 m=>?_
   .rcases D with D|D
    all_goals
     obtain⟨⟨ocls,K,L,z⟩,p,sv,B,x⟩:=D;simp only at sv x;subst sv;subst x;have y:=bN ({cls:=.type "set",dict:=af,data:=.set #[] 0 (.fresh 0 0 (!eP w))}:Obj) p;have hsls:=PySem.F.sub_list_set;have hslf:=PySem.F.sub_list_frozenset;have cL:(Value.type "list" == Value.type "dict")=aj:=by decide
     have hsl2:=PySem.F.sub_tuple_set;have hsl3:=PySem.F.sub_tuple_frozenset;have hn2:(Value.type "tuple" == Value.type "dict")=aj:=by decide
     unfold Builtin.«set.__init__» noKeywords Builtin.Frozenset.updateFrom;generalize X:oh=PI
     wp_walk
     subst X
     first|refine uP ⟨_,y,rfl,B,rfl⟩ (ax (wpAny_runValue ?_))|refine wpAny_pyIter_tuple ⟨_,y,rfl,B,rfl⟩ (ax (wpAny_runValue ?_))
     have q:l<s.heap.objs.size:=bK p;have u:A.in1.in1.in1.handled=af:=by simp[hh]
     have g:(s.heap.push {cls:=.type "set",dict:=af,data:=.set #[] 0 (.fresh 0 0 (!eP w))}).objs.size=s.heap.objs.size+1:=uG ..;have Hl:l≠(s.heap.push {cls:=.type "set",dict:=af,data:=.set #[] 0 (.fresh 0 0 (!eP w))}).objs.size:=by rw[g];exact dm (kZ q)
     have vp:s.heap.objs.size∉[(s.heap.push {cls:=.type "set",dict:=af,data:=.set #[] 0 (.fresh 0 0 (!eP w))}).objs.size,l]:=by rw[g];simp only[b8,gX,iS,or_false,not_or];exact⟨dm (jI _),og q⟩
     first|refine DM (J:=J) (Walks.list u _ l Hl a).toS s.heap.objs.size vp ?_ ?_ (a.size-0) 0 _ ∅ (jJ _) ⟨⟨_,cW _ rfl,rfl,rfl⟩,Heap.IsList.push ⟨_,y,rfl,B,rfl⟩ _⟩ ?_ ?_|refine DM (J:=J) (Walks.tuple u _ l Hl a).toS s.heap.objs.size vp ?_ ?_ (a.size-0) 0 _ ∅ (jJ _) ⟨⟨_,cW _ rfl,rfl,rfl⟩,OZ ⟨_,y,rfl,B,rfl⟩⟩ ?_ ?_
     .exact λi h d T k=>hJ i h d T λb o G e=>k b o (by rw[g];simp only[gX];exact dm (Nat.lt_succ_of_le G)) e
     .exact λi v f E Q hi hv T hq=>lS i v f E Q hi hv T hq
     .exact hJ 0 _ _ Y λb o _ e=>bN _ e
     intro s' C M;obtain⟨d,g',d',H,I⟩:=s';obtain rfl:g'=s.gens:=C.gens;obtain rfl:d'=s.drawn:=C.drawn;obtain rfl:I=s.os:=C.os;show aw _ _ _ _ _ _;refine aX ?_;show aw _ _ (ret Value.none) _ _ _;refine aX ⟨rfl,d,H,rfl,M,λb o G e=>C.heap b o ?_ (bN _ (bN _ e))⟩;rw[g];simp only[b8,gX,iS,or_false,not_or];exact⟨dm G,dm (kZ G)⟩
   .cases r2 with
    |error e=>exact m
    |ok Z=>
     cases Z with
     |ret r=>
      obtain⟨rfl,d,j,rfl,M,S⟩:=m
      repeat any_goals (first|assumption|wp_step)
      exact h _ _ M S
     |_=>exact m.elim
  |_=>exact N.elim
theorem MW{l:ac}{a:Array ai}{c:List Str}{Q:ai->ao->Prop}(y:A.handled=af)(u:s.heap.IsList l a\/s.heap.IsTuple l a)(x:gH a.toList c)(B:(met (λi=>c.getD i kW) a.size).length<4000)(h:∀(d:aI) (n:Nat),jG P w d s.heap.objs.size (met (λi=>c.getD i kW) a.size)->(∀b o,b<s.heap.objs.size->s.heap.get? b=aa o->d.get? b=aa o)->Q (.ref s.heap.objs.size) {s with heap:=d,toks:=n}):aw (aE P w) A (call (.type "set") [.ref l]) Q E s:=by
 refine RA y u (J:=λi h=>jG P w h s.heap.objs.size (met (λi=>c.getD i kW) i)) (λi h d S k=>S.at λo e=>k _ o (bB _) e)
  ⟨#[],0,_,[],cW _ rfl,.nil,BV _,λe z=>by simp at z,by decide,rfl,rfl,λh=>absurd rfl h⟩ (λi v j E Q g r S q=>?_) h
 obtain⟨t,rfl⟩:=E9 i v x (by rw[GM];exact r);unfold setAdd;refine pK ?_;have p:(jM P w).is (c.getD i kW) (.str (c.getD i kW) t)=ah:=by show uz _ (.str _ t)=ah;simp[uz]
 refine ax ((jM P w).pyHash (k:=c.getD i kW) p ?_);refine Je (s:={j with toks:=j.toks+1}) S (ym (Em _ (pC g)) B) λd b f m=>?_;rw[<-Fh (λi=>c.getD i kW)]at m;exact q d _ b (yb _) f m
end
theorem FN{n:Nat}(h:n<=4096):n<bi:=ym h (by decide)
theorem O8:typeLookup (.type "set") "__len__"=pure (aa (.builtin "set.__len__")):=F.slot_set_len.lookup
section
variable{P:a_}{w:aU}{A:a4}{E:ai->ao->Prop}{s:ao}
def sZ(w:aU)(h:aI)(a:ac)(b:Array (Int×ai)):Prop:=∃(c:Nat) (t:jL),h.get? a=aa {cls:=.type "set",dict:=af,data:=.set b c t}/\b.size<4090/\t.fits b.size=ah/\t.led=(!eP w)/\(b.size≠0->t.plain=aj)
theorem sZ.at{w:aU}{h h':aI}{a:ac}{es:Array (Int×ai)}(S:sZ w h a es)(k:∀o,h.get? a=aa o->h'.get? a=aa o):sZ w h' a es:=by obtain⟨ep,t,e,r⟩:=S;exact⟨ep,t,k _ e,r⟩
theorem jG.e{h:aI}{a:ac}{ks:List Str}(S:jG P w h a ks):∃es ss,sZ w h a es/\gH (es.toList.map (·.2)) ss/\ss.Perm ks:=by
 obtain⟨es,ep,t,ss,f,c,b,i,hsz,g,d,m⟩:=S.ex;refine⟨es,ss,⟨ep,t,f,hsz,g,d,λj=>m λz=>j ?_⟩,c,b⟩;have l:=b.length_eq;have n:ss.length=es.size:=by rw[<-c.strs];simp
 rw[z,lQ]at l;lia
structure E5(P:a_)(w:aU)(s s':ao)(a I:ac)(es:Array (Int×ai))(fp:List ac)(n:Nat)(Pv:Nat->ai->Prop)(St:Nat->aI->Prop):Prop where
 wk:∀A:a4,A.handled=af->Walks P w A I fp [I] n Pv St
 st:St 0 s'.heap
 old:∀b o,s.heap.get? b=aa o->s'.heap.get? b=aa o
 new:s.heap.objs.size<=I
 lt:∀b∈fp,b<s'.heap.objs.size
 rest:s'={s with heap:=s'.heap,drawn:=s'.drawn}
 ord:∀bg:Array ai,ItemsOf Pv bg n->bg.toList.Perm (es.toList.map (·.2))
 len:n<4090
 fps:∀b∈fp,b=a\/s.heap.objs.size<=b
theorem w6{l:List ai}{a:Array ai}{n:Nat}(c:l.length=n)(h:ItemsOf (λi v=>l[i]?=aa v) a n):a.toList=l:=by
 refine uU λi=>?_;by_cases b:i<n
 .have:i<a.size:=by rw[h.1];exact b
  have q:=h.2 i a[i] (B0 this);rw[q];simp[this]
 .rw[pR (by rw[x6,h.1];lia),pR ∅]
theorem Jy{I a:ac}{d:Array (Int×ai)}{j:Nat}{t:jL}(L:a≠I)(r:t.fits d.size=ah)(g:eP w=aj)(n:d.size=0)(F:A.handled=af):Walks P w A I [I,a] [I] 0 (λi v=>(d.toList.map (·.2))[i]?=aa v) (λi h=>h.get? I=aa (iX (eQ 0) 0 a d.size j)/\h.get? a=aa (o_ d j t)):=by
 have u:d=#[]:=Array.eq_empty_of_size_eq_zero n;have l:∀(s:ao) (f:Nat) (i:Nat) (Q:Option (ai×Nat)->ao->Prop) (E:ai->ao->Prop),s.heap.get? a=aa (o_ d j t) ->
   Q af s->aw (aE P w) A.in1 (nq a f i j) Q E s:=λs f i Q E G C=>by
  unfold nq;refine ax (rZ G rfl r ?_);unfold yw;refine ax (ax (r9 (aX ?_)));show aw _ _ (if eP w=ah then _ else _) _ _ s;rw[if_neg (by rw[g];decide)];refine yx (λp=>absurd (show(!t.plain&&decide (d.size > 1))=ah from p) (by rw[n];simp)) (λ_=>?_);refine ax ?_;refine d4 (Q:=λ_ q=>q=s) (E:=E) ?_ (λ_ q y=>?_) (λ_ _ x=>x)
  .refine yx (λp=>absurd (show(!t.led&&!d.isEmpty)=ah from p) (by rw[u];simp)) (λ_=>aX rfl)
  .subst y;rw[u];have J:∀k:Nat,(#[]:Array (Int×ai))[k]?=af:=λk=>by simp
   dsimp only;rw[J];exact aX C
 refine⟨λb g=>by simp at g;simp[g],λi h K c k=>⟨k I (by simp) _ c.1,k a (by simp) _ c.2⟩,λi s Q E D c m=>absurd D (Nat.not_lt_zero i),λs Q E c m=>?_,λi s Q E c m=>vQ c.1 m⟩;refine oX c.2 r c.1 ?_;show aw _ _ (nq a (0:Int).toNat ((0:Nat):Int).toNat (j:Int).toNat >>= _) _ _ s;simp only[om,Int.toNat_zero];refine ax (l s 0 0 _ _ c.2 ?_);dsimp only;refine ax (wI c.1 λn B _=>?_);exact v8 (s:={s with heap:=n}) F λH z=>m H s.toks λb o g e=>z b o ((B.2 b (by simpa using g)).trans e)
theorem Mo{a:ac}{g:Array (Int×ai)}{Q:ai->ao->Prop}(S:sZ w s.heap a g)(h:∀x I B n C St,E5 P w s x a I g B n C St->Q (.ref I) x):aw (aE P w) A (oh (.ref a)) Q E s:=by
 obtain⟨L,t,l,hsz,p,Z,cG⟩:=S;have X:s.TypeIs (.ref a) "set":=⟨_,l,rfl⟩
 have jX:=bK l;refine wpAny_pyIter_slot X F.slot_set_iter (yd F.slot_set_iter X HJ ?_ (F.args_set_iter_1 _));unfold Builtin.«frozenset.__iter__» Builtin.Frozenset.slot0 slotArgs Builtin.Frozenset.addrOf Builtin.Frozenset.sizeOf;refine ax (aX ?_);refine ax (ax (wpAny_setEntries_of l rfl p (aX ?_)));unfold setDrawn;refine ax (ax (rZ l rfl p ?_));unfold yw;refine ax (ax (r9 (aX ?_)));refine aX ?_;have i:∀(first:ai) (u:ao) (B:List ac) (n:Nat) (C:Nat->ai->Prop) (St:Nat->aI->Prop),u.heap.get? a=aa {cls:=.type "set",dict:=af,data:=.set g L t} ->
   E5 P w s {u with heap:=u.heap.push (iX first 0 a g.size L)} a u.heap.objs.size g B n C St ->
   aw (aE P w) A.in1 (do
    let e <-setEpoch a
    let f <-newFields "set_iterator" [first,eQ 0,Value.ref a,eQ (g.size:Nat),eQ (e:Nat)]
    ret f) (λi x=>∃v,i=Fin.done (Flow.ret v)/\∃Y r,x.TypeIs v Y/\typeLookup (Value.type Y) (bY "__next__")=pure (aa r)/\Q v x) E u:=λfirst u B n C St ha W=>by
  refine ax (wpAny_setEpoch_of ha rfl p ?_);refine ax (lO ?_);exact aX ⟨_,rfl,"set_iterator",_,⟨_,cW _ rfl,rfl⟩,Dv.lookup,h _ _ B n C St W⟩
 refine yx (λJ=>?_) (λJ=>?_)
 .have G:(!eP w&&(!t.plain&&decide (g.size > 1)))=ah:=J;refine ax (DU g.size (bX g.size) s _ (by simp) λD d H=>?_);refine ax (wpAny_newTuple ?_ (hsz:=by rw[bS,H.length_eq,GR];exact pC (FN ∅)));refine i _ _ _ _ _ _ (bN _ l) ⟨λN q=>RF (T:=s.heap.objs.size) (dm (by rw[kf];exact kZ jX)) (dm (by rw[kf];exact jI _)) p H q,⟨cW _ rfl,?_,?_⟩,?_,?_,?_,rfl,?_,hsz,?_⟩
  .exact bN _ (bN _ l)
  .exact bN _ (cW _ rfl)
  .exact λb o e=>bN _ (bN _ e)
  .rw[kf];exact yb _
  .intro b c;simp only[b8,iS,or_false]at c;rw[kf,kf];rcases c with rfl|rfl|rfl
   .rw[kf];exact jI _
   .exact kZ (kZ jX)
   .exact kZ (jI _)
  .intro M m;have e0:(D.filterMap λj=>(g[j]?).map (·.2))=(D.filterMap λj=>g[j]?).map (·.2):=by rw[List.map_filterMap]
   have pl:(D.filterMap λj=>g[j]?).Perm g.toList:=by have:=H.filterMap λj=>g[j]?;rwa[filterMap_getElem?_range]at this
   rw[e0]at m;rw[w6 (by rw[bS,pl.length_eq];simp) m];exact pl.map _
  .intro b c;simp only[b8,iS,or_false]at c;rcases c with rfl|rfl|rfl
   .rw[kf];exact .inr (yb _)
   .exact .inl rfl
   .exact .inr (bB _)
 .have G:¬(!eP w&&(!t.plain&&decide (g.size > 1)))=ah:=J;refine ax (aX ?_);cases c:eP w with
  |true=>
   refine i _ _ _ _ _ _ l ⟨λN q=>Om (dm jX) p c q,⟨cW _ rfl,bN _ l⟩,λb o e=>bN _ e,bB _,?_,rfl,?_,hsz,λb c=>?_⟩
   .intro b c;simp only[b8,iS,or_false]at c;rw[kf];rcases c with rfl|rfl
    .exact jI _
    .exact kZ jX
   .intro M m;have pl:=DL (w.params.setOrder a L) g;rw[w6 (by rw[bS,pl.length_eq];simp) m];exact pl.map _
   .simp only[b8,iS,or_false]at c;exact c.elim (λz=>.inr (ng z.symm)) .inl
  |false=>
   have K:g.size=1\/g.size=0:=by
    by_cases O:g.size=0
    .exact .inr O
    .rw[c,cG O]at G;simp at G;lia
   rcases K with y|y
   .refine i _ _ _ _ _ _ l ⟨λN q=>IZ (dm jX) p c (by rw[Z,c];rfl) y q,⟨cW _ rfl,bN _ l⟩,λb o e=>bN _ e,bB _,?_,rfl,?_,by decide,λb c=>?_⟩
    .intro b c;simp only[b8,iS,or_false]at c;rw[kf];rcases c with rfl|rfl
     .exact jI _
     .exact kZ jX
    .intro M m;rw[w6 (by simp[y]) m]
    .simp only[b8,iS,or_false]at c;exact c.elim (λz=>.inr (ng z.symm)) .inl
   .refine i _ _ _ _ _ _ l ⟨λN q=>Jy (dm jX) p c y q,⟨cW _ rfl,bN _ l⟩,λb o e=>bN _ e,bB _,?_,rfl,?_,by decide,λb c=>?_⟩
    .intro b c;simp only[b8,iS,or_false]at c;rw[kf];rcases c with rfl|rfl
     .exact jI _
     .exact kZ jX
    .intro M m;rw[w6 (by simp[y]) m]
    .simp only[b8,iS,or_false]at c;exact c.elim (λz=>.inr (ng z.symm)) .inl
theorem Ik{a:ac}{p:Array (Int×ai)}{Q:List ai->ao->Prop}(K:A.handled=af)(S:sZ w s.heap a p)(h:∀(d:ao) (G:List ai),G.Perm (p.toList.map (·.2))->(∀b o,s.heap.get? b=aa o->d.heap.get? b=aa o)->d.gens=s.gens->d.os=s.os->Q G d):aw (aE P w) A (collect (.ref a)) Q E s:=by
 obtain⟨L,t,J,O,_⟩:=id S;have jX:=bK J;unfold collect;refine ax (wpAny_runValue (uS F.entry_proto_collect ?_));rw[yv F.plain_proto_collect _];show aw _ A.in1 (newList [] >>= λl=>again (.builtin "list.__iadd__" ⟨[l,.ref a],[]⟩)) _ _ s;refine ax (lO ?_);refine aX ⟨BY F.plain_list_iadd _,uS F.entry_list_iadd ?_⟩;rw[yv F.plain_list_iadd _];show aw _ A.in1 (Builtin.List.listExtendWith (.ref s.heap.objs.size) (.ref a) (.ref s.heap.objs.size)) _ _ _;unfold Builtin.List.listExtendWith;have m:∀x:ao,x.heap.get? a=aa {cls:=.type "set",dict:=af,data:=.set p L t}->x.TypeIs (.ref a) "set":=λx e=>⟨_,e,rfl⟩
 have g:(s.heap.push {cls:=.type "list",data:=.seq ([]:List ai).toArray}).get? a=aa {cls:=.type "set",dict:=af,data:=.set p L t}:=bN _ J;refine ax (wpAny_typeOf (m _ g) ?_);have Y:Builtin.List.listSameRef (.ref s.heap.objs.size) (.ref a)=aj:=by have:¬(s.heap.objs.size=a):=og jX;simp[Builtin.List.listSameRef,this]
 rw[if_neg (by rw[Y];decide)];refine ax (Mo (S.at λo e=>bN _ e) λv I Z n Pv St W=>?_);have y:=W.old a _ g;refine ax (pK ?_);unfold Builtin.List.listLengthHint;refine ax (wpAny_specialOf (m _ y) O8 ?_)
 wp_delta
 refine ax (wpAny_isInstance (T:="set") (b:=ah) (m _ y) (by rw[isSubtype_type];kernel_rfl) ?_);show aw _ A.in1 (typeOf (Value.ref a) >>= _) _ _ _;refine ax (wpAny_typeOf (T:="set") (m _ y) ?_);refine aX ?_;rw[if_pos (by decide)];refine ax (wpAny_rule ?_);have X:(s.heap.push {cls:=.type "list",data:=.seq ([]:List ai).toArray}).get? s.heap.objs.size=aa {cls:=.type "list",data:=.seq ([]:List ai).toArray}:=cW _ rfl;have j:=W.old _ _ X;unfold Builtin.List.listTouch;refine ax (ax (listUpdate_at j rfl ?_ (by decide) (by show 1<=bi+1;decide)));have i:=get?_update_seq j (λa:Array ai=>a.push Value.none);refine listUpdate_at i rfl ?_ (by show 1<=bi;decide) (by show 0<=bi+1;decide);have D:=get?_update_seq i (λa:Array ai=>a.pop);have M:s.heap.objs.size∉Z:=λz=>by
  rcases W.fps _ z with q|q
  .exact absurd jX (by rw[<-q];exact eX _)
  .rw[kf]at q;exact absurd (jI _) (Nat.not_lt.mpr q)
 have H:∀b o,b≠s.heap.objs.size->v.heap.get? b=aa o->(((v.heap.update s.heap.objs.size (uJ λa=>a.push Value.none)).update s.heap.objs.size (uJ λa=>a.pop))).get? b=aa o:=λb o f e=>by rw[Heap.get?_update_ne _ _ _ _ f,Heap.get?_update_ne _ _ _ _ f];exact e
 have u:St 0 (((v.heap.update s.heap.objs.size (uJ λa=>a.push Value.none)).update s.heap.objs.size (uJ λa=>a.pop))):=(W.wk A.in1 K).frame 0 _ _ W.st λb f o e=>H b o (λz=>M (z ▸ f)) e;refine aX ⟨BY F.plain_extend_loop _,codeAny_extend_loopS (W.wk A.in1 K).toS (pC (FN (by have:=W.len;lia))) _ M _ n 0 _ _ _ rfl (jJ _) u D (ItemsOf.nil _) λd c c' B C N=>?_⟩;show aw _ A (load s.heap.objs.size >>= _) _ _ d;refine ax (wpAny_load C ?_);refine aX (h d c.toList (W.ord c N) (λb o e=>?_) ?_ ?_)
 .have r:=bK e;refine B.heap b o (λf=>?_) (H b o (dm r) (W.old b o (bN _ e)));rcases b8.mp f with z|z
  .exact absurd r (by rw[z];exact eX _)
  .rw[gX.mp z]at r;have:=W.new;rw[kf]at this;exact absurd r (Nat.not_lt.mpr (Nat.le_of_succ_le this))
 .rw[B.gens,W.rest]
 .rw[B.os,W.rest]
theorem MV{a:ac}{ks:List Str}{Q:List ai->ao->Prop}(q:A.handled=af)(S:jG P w s.heap a ks)(h:∀(c:ao) (d:List ai) (f:List Str),gH d f->f.Perm ks->d.length<4090->(∀b o,s.heap.get? b=aa o->c.heap.get? b=aa o)->c.gens=s.gens->c.os=s.os->Q d c):aw (aE P w) A (collect (.ref a)) Q E s:=by
 obtain⟨u,f,S,r,p⟩:=S.e;have n:u.size<4090:=by obtain⟨_,_,_,z,_⟩:=S;exact z
 refine Ik q S λc d pv m l j=>?_;obtain⟨v,i,g⟩:=zK pv r;exact h c d v i (g.trans p) (by have:=pv.length_eq;simp at this;lia) m l j
theorem Md{a:ac}{ks:List Str}{Q:List ai->ao->Prop}(f:A.handled=af)(S:jG P w s.heap a ks)(g:ks≠[])(h:∀(c:ao) (d:List ai) (ss:List Str),gH d ss->ss.Perm ks->d.length<4090->(∀b o,s.heap.get? b=aa o->c.heap.get? b=aa o)->c.gens=s.gens->c.os=s.os->Q d c):aw (aE P w) A (collect (.ref a)) Q E s:=MV f S h
end
def fR(a:List Tx):List Tx:=a.foldl (λks x=>if x∈ks then ks else ks++[x]) []
theorem CZ(b:List Tx):met (λi=>(b.map tS).getD i kW) b.length=(fR b).map tS:=by
 have d:∀(l:List Tx) (a:List Tx),(l.map tS).foldl jE (a.map tS)=(l.foldl (λks x=>if x∈ks then ks else ks++[x]) a).map tS:=by
  intro l
  induction l with
  |nil=>intro a;rfl
  |cons x r g=>
   intro a;rw[eY,nk,nk];have:jE (a.map tS) (tS x)=(if x∈a then a else a++[x]).map tS:=by
    unfold jE;have f:tS x∈a.map tS↔x∈a:=by rw[b0];exact⟨λ⟨y,j,e⟩=>by rw[<-qy e];exact j,λh=>⟨x,h,rfl⟩⟩
    by_cases h:x∈a
    .rw[if_pos h,if_pos (f.mpr h)]
    .rw[if_neg h,if_neg (λz=>h (f.mp z)),oq];rfl
   rw[this,g]
 have e:(bX b.length).map (λi=>(b.map tS).getD i kW)=b.map tS:=by
  refine uU λi=>?_;rw[kc];by_cases c:i<b.length
  .rw[List.getElem?_range c];simp[c]
  .rw[pR (by simpa using c),pR (by simpa using c)];rfl
 unfold met;rw[e];exact d b []
theorem ES(l c:List Tx):(c.Nodup->(l.foldl (λks x=>if x∈ks then ks else ks++[x]) c).Nodup)/\∀x,x∈l.foldl (λks x=>if x∈ks then ks else ks++[x]) c↔x∈c\/x∈l:=by
 induction l generalizing c with
 |nil=>exact⟨λh=>h,λx=>by simp⟩
 |cons y r g=>
  rw[nk];obtain⟨m,j⟩:=g (if y∈c then c else c++[y]);refine⟨λh=>m ?_,λx=>?_⟩
  .split
   .exact h
   .rename_i d;rw[yy];exact⟨h,by simp,λa i b f=>by simp at f;subst f;exact λe=>d (e ▸ i)⟩
  .rw[j x,b8];split
   .rename_i d;constructor
    .rintro(h|h)
     .exact .inl h
     .exact .inr (.inr h)
    .rintro(h|rfl|h)
     .exact .inl h
     .exact .inl d
     .exact .inr h
   .rw[kT,gX,or_assoc]
theorem Q7(l:List Tx):(fR l).Nodup:=(ES l []).1 List.nodup_nil
theorem tz(l:List Tx)(x:Tx):x∈fR l↔x∈l:=by rw[fR,(ES l []).2 x];simp
theorem OX(l:List Tx):(fR l).length<=l.length:=by
 have b:∀(l a:List Tx),(l.foldl (λks x=>if x∈ks then ks else ks++[x]) a).length<=a.length+l.length:=by
  intro l
  induction l with
  |nil=>intro a;simp
  |cons x r c=>intro a;rw[nk];refine d3 (c _) ?_;split <;> simp <;> lia
 simpa[fR]using b l []
section
variable{X:Cx}
def oR(X:Cx)(a:ac)(b:List Tx):HO:=.ext λh=>jG X.prog X.w h a (b.map tS)
theorem Lp(y:X.calm=ah):d_ X (.type "set") (λxs H Q=>∃(p:ac) (c:List Tx),xs=[.ref p]/\cp X.K H p (dO c)/\(fR c).length<4000/\∀a,H a=af->Q (.ref a) (upd H a (oR X a (fR c)))):=by
 intro K s A H xs B Q I r h;obtain⟨p,c,rfl,v,f,q⟩:=h;obtain⟨u,rfl,l⟩:=vals1 r;cases l;obtain⟨d,g,pl,D⟩:=I.list v;have x:=g.length;rw[AS]at x;refine MW (P:=X.prog) (w:=X.w) (I.ok.hd y) (.inl pl.isList) (by simpa using yP g) (by rw[cR,show d.length=c.length by lia,CZ,bS];exact f) λz j S k=>?_;have i:jG X.prog X.w z s.heap.objs.size ((fR c).map tS):=by
  have e:d.toArray.size=c.length:=by rw[cR];lia
  rw[e,CZ]at S;exact S
 refine⟨.ref s.heap.objs.size,_,I.laid (t':=j) (o:=oR X s.heap.objs.size (fR c)) (λb o e=>k b o (bK e) e) (bB _) ?_,rfl,q _ I.fresh⟩;obtain⟨G,J,t,C,e,_⟩:=i.ex;exact⟨i,⟨_,e⟩,λF E n m=>n.at m⟩
theorem Ir(y:X.calm=ah):d_ X (.builtin "sorted") (λxs H Q=>∃(p:ac) (a:List Tx),xs=[.ref p]/\H p=aa (oR X p a)/\a≠[]/\a.length<64/\∀l,H l=af->Q (.ref l) (upd H l (.lst (dO (bJ a))))):=by
 intro F s i H xs J Q I r h;obtain⟨p,a,rfl,w,D,o,q⟩:=h;obtain⟨u,rfl,m⟩:=vals1 r;cases m;obtain⟨S,_,_⟩:=(show dq X.prog X.w H s.heap p (oR X p a)from I.hok p _ w)
 refine Ea (Md (sI (I.ok.hd y)) S (by cases a with|nil=>exact absurd rfl D|cons=>simp) λj G ss f d N k B A=>?_);obtain⟨c,g',d',t',n⟩:=j;obtain rfl:g'=s.gens:=B;obtain rfl:n=s.os:=A;have g:Inv X F i H {s with heap:=c,drawn:=d',toks:=t'}:=by have:=Inv.call (ch:=[]) I (g':=s.gens) (d':=d') (t':=t') (Un.kept (fs:=fP X.stack) (ex:=[]) k) (I.hok.kept k) I.bare (λb z=>absurd z (by simp));exact this
 refine⟨ss,f,by have L:=f.length;have C:=d.length_eq;rw[bS]at C;lia,λK out M e v x b1 b2 E=>?_⟩;exact⟨.ref _,_,Inv.sorted (s1:={s with heap:=c,drawn:=d',toks:=t'}) (ss:=a.map tS) g rfl o v x b1 (b2.trans d) E,rfl,q _ g.fresh⟩
end
structure cq(K:au)(mg:Str->Option ai)(x:Str)(st:aS):Prop where
 ex:∃f fd,mg x=aa (.ref f)/\lG K x x st f fd
theorem Ff{H:Hp}{p:ac}{o:HO}(h:H p=af):Same H (upd H p o):=λb u q=>by rw[bo (mn q h)];exact q
theorem Fg{a:Type}{xs:List a}{k:Int}(b:0<=k)(h:k.toNat<xs.length):dr xs k=aa xs[k.toNat]:=by
 have e:((k.toNat:Nat):Int)=k:=∅
 have q:=Pf (xs:=xs) (j:=k.toNat) (v:=xs[k.toNat]) (by simp[h]);rwa[e]at q
def Dz(N:List Str)(d a:eI)(x:Str)(c:List Str)(b:List Nat):Bool :=
 decide (a.kind=.function)&&a.names.all (λy=>(decide (y.2≠.cell)||decide (a.names.lookup y.1=aa .cell))&&(decide (y.2≠.local)||decide (a.names.lookup y.1=aa .local))&&(decide (y.2≠.free)||decide (d.names.lookup y.1=aa .cell)||decide (d.names.lookup y.1=aa .free)))
 && (decide (a.names.lookup x=aa .local)||decide (a.names.lookup x=aa .cell))&&decide c.Nodup&&decide (c.head?=aa x)&&decide (c.length=b.length+1)&&(b.zip c.tail).all λp=>(decide (N[p.1]?=aa p.2)&&decide (a.names.lookup p.2=aa .free))||(decide (N.length<=p.1)&&decide (a.names.lookup p.2=aa .local))
theorem jB.of{X:Cx}{a:eI}{x:Str}{N':List Str}{cap:List Nat}(N:List Str)(f:eI)(l:X.N=N)(c:X.env.scope=f)(h:Dz N f a x N' cap=ah):jB X a x N' cap:=by
 subst l c;simp only[Dz,dS,decide_eq_true_eq,iR,pO]at h;obtain⟨⟨⟨⟨⟨⟨r,d⟩,q⟩,p⟩,o⟩,n⟩,m⟩:=h;refine⟨r,λy b e=>(d y b).1.1.elim (λz=>absurd e z) λz=>z,λy b e=>?_,q,λy b e=>?_,p,o,n,λi j y u s=>?_⟩
 .rcases(d y b).1.2 with z|z
  .exact absurd e z
  .exact z
 .rcases(d y b).2 with(z|z)|z
  .exact absurd e z
  .exact .inl z
  .exact .inr z
 .have g:(j,y)∈cap.zip N'.tail:=by
   refine List.mem_iff_getElem?.mpr ⟨i,?_⟩;rw[List.getElem?_zip_eq_some];refine⟨s,?_⟩;rw[<-List.drop_one,List.getElem?_drop,Nat.add_comm];exact u
  exact m _ g
theorem Bk(a b:Tx):dX (tV a) (tV b)=decide (a=b):=by show(tS a == tS b)=_;rw[oi];simp only[beq_iff_eq,decide_eq_true_eq];exact⟨qy,λh=>by rw[h]⟩
theorem Jz(a:List Tx)(x:Tx):((dO a).countP λz=>dX z (tV x))=a.count x:=by unfold dO List.count;rw[List.countP_map];refine List.countP_congr λy _=>?_;simp only[Function.comp_apply,Bk,decide_eq_true_eq,beq_iff_eq]
end L2
namespace Pu
open L2
abbrev St:=L2.St
inductive PV where
 |non|bl (b:Bool)|int (i:Int)|str (x:Tx)|tup (xs:List PV)|lst (xs:List PV)|raw (v:V)|exc (c:ai)
def mv(a:ac)(c:ai):HO:=.ext λh=>∃o b,h.get? a=aa o/\o.cls=c/\o.data=.fields b/\o.dict=af
def bH:Nat:=1000000
theorem jf:bH<=bi:=by rw[pF];decide
def cN:HO->Prop
 |.lst _=>True
 |.dK _=>True
 |.dT _=>True
 |.dN _=>True
 |.ins _ _ _=>True
 |.own _=>True
 |_=>False
mutual
def aZ(K:au)(H:Hp)(F:ac->Prop):PV->V->Prop
 |.non,v=>v=.non
 |.bl b,v=>v=.bl b
 |.int i,v=>v=.int i
 |.str x,v=>v=tV x/\x.length<=bH
 |.tup xs,v=>∃a d,v=.ref a/\H a=aa (.tup d)/\bc K H F xs d
 |.lst xs,v=>∃a d,v=.ref a/\Rd H a (.lst d)/\F a/\bc K H F xs d
 |.raw u,v=>v=u
 |.exc c,v=>∃a,v=.ref a/\H a=aa (mv a c)
def bc(K:au)(H:Hp)(F:ac->Prop):List PV->List V->Prop
 |[],a=>a=[]
 |x::xs,a=>∃v r,a=v::r/\aZ K H F x v/\bc K H F xs r
end
section
variable{K:au}{H H':Hp}{F F':ac->Prop}
mutual
theorem aZ.mono(d:∀a,F a->F' a)(c:∀a xs,F a->Rd H a (.lst xs)->Rd H' a (.lst xs))(b:∀a o,H a=aa o->¬cN o->H' a=aa o):∀(x:PV) (v:V),aZ K H F x v->aZ K H' F' x v
 |.non,_,h=>h
 |.bl _,_,h=>h
 |.int _,_,h=>h
 |.str _,_,h=>h
 |.raw _,_,h=>h
 |.exc _,_,⟨a,e,h⟩=>⟨a,e,b a _ h id⟩
 |.tup xs,_,⟨a,vs,e,g,f⟩=>⟨a,vs,e,b a _ g id,bc.mono d c b xs vs f⟩
 |.lst xs,_,⟨a,vs,e,g,i,f⟩=>⟨a,vs,e,c a vs i g,d a i,bc.mono d c b xs vs f⟩
theorem bc.mono(d:∀a,F a->F' a)(c:∀a xs,F a->Rd H a (.lst xs)->Rd H' a (.lst xs))(b:∀a o,H a=aa o->¬cN o->H' a=aa o):∀(xs:List PV) (vs:List V),bc K H F xs vs->bc K H' F' xs vs
 |[],_,h=>h
 |x::xs,_,⟨v,r,e,g,f⟩=>⟨v,r,e,aZ.mono d c b x v g,bc.mono d c b xs r f⟩
end
theorem bc.len:∀{xs:List PV}{vs:List V},bc K H F xs vs->vs.length=xs.length
 |[],_,h=>by rw[show _=[] from h];rfl
 |_::_,_,⟨_,_,e,_,a⟩=>by rw[e,fL,fL,bc.len a]
theorem bc.get:∀{xs:List PV}{vs:List V}{i:Nat}{x:PV},bc K H F xs vs->xs[i]?=aa x->∃v,vs[i]?=aa v/\aZ K H F x v
 |[],_,_,_,_,e=>by simp at e
 |x::xs,_,0,y,⟨v,r,e,h1,_⟩,q=>by simp at q;subst q;subst e;exact⟨v,rfl,h1⟩
 |x::xs,_,i+1,y,⟨v,r,e,_,h2⟩,q=>by obtain⟨w,a,b⟩:=bc.get (i:=i) (x:=y) h2 (by simpa using q);subst e;exact⟨w,by simpa using a,b⟩
theorem bc.back:∀{xs:List PV}{c:List V}{i:Nat}{v:V},bc K H F xs c->c[i]?=aa v->∃x,xs[i]?=aa x/\aZ K H F x v
 |[],_,_,_,h,e=>by rw[show _=[] from h]at e;simp at e
 |x::xs,_,0,y,⟨v,r,e,h1,_⟩,q=>by subst e;simp at q;subst q;exact⟨x,rfl,h1⟩
 |x::xs,_,i+1,y,⟨v,r,e,_,h2⟩,q=>by subst e;obtain⟨w,a,b⟩:=bc.back (i:=i) (v:=y) h2 (by simpa using q);exact⟨w,by simpa using a,b⟩
theorem bc.app:∀{xs a:List PV}{vs b:List V},bc K H F xs vs->bc K H F a b->bc K H F (xs++a) (vs++b)
 |[],_,_,_,h,g=>by rw[show _=[] from h];exact g
 |x::xs,_,_,_,⟨v,r,e,d,c⟩,g=>by subst e;exact⟨v,_,rfl,d,bc.app c g⟩
theorem bc.one{x:PV}{v:V}(h:aZ K H F x v):bc K H F [x] [v]:=⟨v,[],rfl,h,rfl⟩
theorem bc.drop:∀(n:Nat) {xs:List PV}{a:List V},bc K H F xs a->bc K H F (xs.drop n) (a.drop n)
 |0,_,_,h=>h
 |_+1,[],_,h=>by rw[show _=[] from h];rfl
 |n+1,_::_,_,⟨_,_,e,_,h2⟩=>by subst e;exact bc.drop n h2
theorem bc.take:∀(n:Nat) {xs:List PV}{a:List V},bc K H F xs a->bc K H F (xs.take n) (a.take n)
 |0,_,_,_=>by rw[List.take_zero,List.take_zero];rfl
 |_+1,[],_,h=>by rw[show _=[] from h];rfl
 |n+1,_::_,_,⟨v,_,e,h1,h2⟩=>by subst e;exact⟨v,_,rfl,h1,bc.take n h2⟩
end
structure bd(O O' F F':ac->Prop)(H H':Hp):Prop where
 fro:∀a,F a->F' a
 keep:∀b o,H b=aa o->¬O b->H' b=aa o
 there:∀b o,H b=aa o->∃o',H' b=aa o'
 fnew:∀a,F' a->F a\/H a=af\/O a
 onew:∀a,O' a->O a\/H a=af
theorem bd.refl(O F:ac->Prop)(H:Hp):bd O O F F H H:=⟨λ_ h=>h,λ_ _ h _=>h,λ_ o h=>⟨o,h⟩,λ_ h=>.inl h,λ_ h=>.inl h⟩
theorem bd.trans{O i f F m l:ac->Prop}{H d j:Hp}(g:bd O i F m H d)(k:bd i f m l d j):bd O f F l H j where
 fro:=λa h=>k.fro a (g.fro a h)
 keep:=λb o h n=>k.keep b o (g.keep b o h n) λz=>(g.onew b z).elim n λq=>by rw[q]at h;cases h
 there:=λb o h=>let ⟨o',c⟩:=g.there b o h;k.there b o' c
 fnew:=λa h=>by
  have back:d a=af->H a=af\/O a:=λz=>by
   cases q:H a with
   |none=>exact .inl rfl
   |some o=>obtain⟨o',c⟩:=g.there a o q;rw[z]at c;cases c
  rcases k.fnew a h with z|z|z
  .exact g.fnew a z
  .exact .inr (back z)
  .exact .inr ((g.onew a z).symm)
 onew:=λa h=>by
  rcases k.onew a h with z|z
  .exact g.onew a z
  .cases q:H a with
   |none=>exact .inr rfl
   |some o=>obtain⟨o',c⟩:=g.there a o q;rw[z]at c;cases c
def Fit(O F:ac->Prop)(H:Hp):Prop:=∀b,O b->¬F b/\∃o,H b=aa o/\cN o
section
variable{K:au}{O b F F':ac->Prop}{H H':Hp}
theorem bd.imm(g:bd O b F F' H H')(f:Fit O F H){a:ac}{o:HO}(h:H a=aa o)(n:¬cN o):H' a=aa o :=
 g.keep _ _ h λz=>by
  obtain⟨_,i,c,d⟩:=f a z;rw[h]at c;cases c;exact n d
theorem bd.lst(g:bd O b F F' H H')(f:Fit O F H){a:ac}{xs:List V}(c:F a)(h:Rd H a (.lst xs)):Rd H' a (.lst xs):=by
 have no:¬O a:=λz=>(f a z).1 c;rcases h with h|⟨o,h⟩
 .exact .inl (g.keep _ _ h no)
 .exact .inr ⟨o,g.keep _ _ h no⟩
theorem aZ.grow(g:bd O b F F' H H')(f:Fit O F H){x:PV}{v:V}(h:aZ K H F x v):aZ K H' F' x v:=aZ.mono g.fro (λ_ _ a q=>g.lst f a q) (λ_ _ q n=>g.imm f q n) x v h
theorem bc.grow(g:bd O b F F' H H')(f:Fit O F H){x:List PV}{v:List V}(h:bc K H F x v):bc K H' F' x v:=bc.mono g.fro (λ_ _ a q=>g.lst f a q) (λ_ _ q n=>g.imm f q n) x v h
end
theorem _root_.L2.Same.rd{H b:Hp}{a:ac}{u:HO}(e:Same H b)(h:Rd H a u):Rd b a u:=h.elim (λz=>.inl (e _ _ z)) λ⟨o,z⟩=>.inr ⟨o,e _ _ z⟩
structure Al(F F':ac->Prop)(H H':Hp):Prop where
 fro:∀a,F a->F' a
 same:Same H H'
 fnew:∀a,F' a->F a\/(H a=af/\∃o,H' a=aa o)
theorem Al.refl(F:ac->Prop)(H:Hp):Al F F H H:=⟨λ_ h=>h,Same.refl H,λ_ h=>.inl h⟩
theorem Al.grow{F F' O:ac->Prop}{H H':Hp}(a:Al F F' H H'):bd O O F F' H H' :=⟨a.fro,λb o h _=>a.same b o h,λb o h=>⟨o,a.same b o h⟩,λb h=>(a.fnew b h).imp id λz=>.inl z.1,λ_ h=>.inl h⟩
theorem Al.rep{K:au}{F c:ac->Prop}{H b:Hp}(a:Al F c H b){x:PV}{v:V}(h:aZ K H F x v):aZ K b c x v:=aZ.mono a.fro (λ_ _ _ q=>a.same.rd q) (λ_ _ q _=>a.same _ _ q) x v h
theorem Al.reps{K:au}{F c:ac->Prop}{H b:Hp}(a:Al F c H b){x:List PV}{v:List V}(h:bc K H F x v):bc K b c x v:=bc.mono a.fro (λ_ _ _ q=>a.same.rd q) (λ_ _ q _=>a.same _ _ q) x v h
theorem Al.trans{F i g:ac->Prop}{H f d:Hp}(a:Al F i H f)(b:Al i g f d):Al F g H d :=
 ⟨λc h=>b.fro c (a.fro c h),a.same.trans b.same,λc h=>by
  rcases b.fnew c h with z|⟨z,w⟩
  .rcases a.fnew c z with y|⟨y,o,q⟩
   .exact .inl y
   .exact .inr ⟨y,o,b.same _ _ q⟩
  .exact .inr ⟨a.same.free z,w⟩⟩
theorem Al.new{F:ac->Prop}{H:Hp}{l:ac}{o:HO}(h:H l=af):Al F (λa=>F a\/a=l) H (upd H l o) :=⟨λ_ h=>.inl h,Ff h,λa z=>z.imp id λe=>by subst e;exact⟨h,o,bW⟩⟩
theorem Al.new0{F:ac->Prop}{H:Hp}{l:ac}{o:HO}(h:H l=af):Al F F H (upd H l o):=⟨λ_ h=>h,Ff h,λa z=>.inl z⟩
inductive PO where
 |lst (xs:List PV)|dK (kvs:List (aJ×PV))|lls (d8:List (List PV))|ins (C:ac) (fs:List (Str×PV))|dT (kvs:List (List aJ×PV))|dN (kvs:List ((Tx×List Tx)×PV))|inl (C:ac) (fs:List (Str×PV)) (y:Str) (xs:List PV)|dL (kvs:List (aJ×List PV))
def gK:PO->Bool
 |.lls _=>aj
 |.dL _=>aj
 |.inl ..=>aj
 |_=>ah
inductive Slot where
 |none|val (v:PV)|own (o:PO)
abbrev ae:=List Slot
def gT(K:au)(H:Hp)(F:ac->Prop)(a:List (aJ×PV))(b:List (aJ×V)):Prop:=kQ (λ(p:aJ×PV) (q:aJ×V)=>p.1=q.1/\aZ K H F p.2 q.2) a b
def iL(K:au)(H:Hp)(F:ac->Prop)(fs:List (Str×PV))(a:List (Str×V)):Prop:=kQ (λ(p:Str×PV) (q:Str×V)=>p.1=q.1/\aZ K H F p.2 q.2) fs a
def jk(K:au)(H:Hp)(F:ac->Prop)(a:List (List aJ×PV))(b:List (List aJ×V)):Prop:=kQ (λ(p:List aJ×PV) (q:List aJ×V)=>p.1=q.1/\aZ K H F p.2 q.2) a b
def nS(k:Tx×List Tx):Str×List Str:=(tS k.1,k.2.map tS)
def xc(K:au)(H:Hp)(F:ac->Prop)(a:List ((Tx×List Tx)×PV))(b:List ((Str×List Str)×V)):Prop:=kQ (λ(p:(Tx×List Tx)×PV) (q:(Str×List Str)×V)=>nS p.1=q.1/\aZ K H F p.2 q.2) a b
def h_(K:au)(H:Hp)(F:ac->Prop)(c:List (List PV))(d:List ac):Prop:=kQ (λ(xs:List PV) (b:ac)=>∃a,H b=aa (.lst a)/\bc K H F xs a) c d
def eu(K:au)(H:Hp)(F:ac->Prop)(j:PO)(a:ac)(S:ac->Prop):Prop :=
 match j with
 |.lst xs=>(∃h,H a=aa (.lst h)/\bc K H F xs h)/\∀b,S b↔b=a
 |.dK d=>(∃f,H a=aa (.dK f)/\gT K H F d f)/\∀b,S b↔b=a
 |.lls l=>∃g,H a=aa (.lst (g.map .ref))/\h_ K H F l g/\g.Nodup/\a∉g/\∀b,S b↔b=a\/b∈g
 |.dL d=>∃g:List ac,H a=aa (.dK ((d.map (·.1)).zip (g.map V.ref)))/\h_ K H F (d.map (·.2)) g/\g.Nodup/\a∉g/\∀b,S b↔b=a\/b∈g
 |.ins C fs=>(∃i f,H a=aa (.ins C i f)/\iL K H F fs f)/\∀b,S b↔b=a
 |.dT d=>(∃f,H a=aa (.dT f)/\jk K H F d f)/\∀b,S b↔b=a
 |.dN d=>(∃f,H a=aa (.dN f)/\xc K H F d f)/\∀b,S b↔b=a
 |.inl C fs y xs=>∃i f b h,H a=aa (.ins C i (f++[(y,.ref b)]))/\iL K H F fs f/\fs.lookup y=af/\H b=aa (.lst h)/\bc K H F xs h/\a≠b/\∀c,S c↔c=a\/c=b
structure aM(K:au)(F:ac->Prop)(S:Nat->ac->Prop)(ε:ae)(σ:St)(H:Hp):Prop where
 len:ε.length=σ.length
 ex:∀a,F a->∃o,H a=aa o
 val:∀(i:Nat) (pv:PV),ε[i]?=aa (.val pv)->∃v,σ[i]?=aa (aa v)/\aZ K H F pv v
 own:∀(i:Nat) (po:PO),ε[i]?=aa (.own po)->∃a,σ[i]?=aa (aa (.ref a))/\eu K H F po a (S i)
 foot:∀(i:Nat) (b:ac),S i b->(∃po,ε[i]?=aa (.own po))/\¬F b/\∃o,H b=aa o/\cN o
 dist:∀(i j:Nat) (b:ac),S i b->S j b->i=j
def U(S:Nat->ac->Prop)(b:ac):Prop:=∃i,S i b
section
variable{K:au}{F F':ac->Prop}{S:Nat->ac->Prop}{d:ae}{σ:St}{H H':Hp}
theorem aM.fit(r:aM K F S d σ H):Fit (U S) F H:=λb ⟨i,h⟩=>(r.foot i b h).2
theorem gT.mono{a:List (aJ×PV)}{b:List (aJ×V)}(f:∀x v,aZ K H F x v->aZ K H' F' x v)(h:gT K H F a b):gT K H' F' a b:=by
 unfold gT at h ⊢
 induction h with
 |nil=>exact .nil
 |cons r _ c=>exact .cons ⟨r.1,f _ _ r.2⟩ c
theorem iL.mono{fs:List (Str×PV)}{a:List (Str×V)}(c:∀x v,aZ K H F x v->aZ K H' F' x v)(h:iL K H F fs a):iL K H' F' fs a:=by
 unfold iL at h ⊢
 induction h with
 |nil=>exact .nil
 |cons r _ b=>exact .cons ⟨r.1,c _ _ r.2⟩ b
theorem jk.mono{a:List (List aJ×PV)}{b:List (List aJ×V)}(f:∀x v,aZ K H F x v->aZ K H' F' x v)(h:jk K H F a b):jk K H' F' a b:=by
 unfold jk at h ⊢
 induction h with
 |nil=>exact .nil
 |cons r _ c=>exact .cons ⟨r.1,f _ _ r.2⟩ c
theorem xc.mono{a:List ((Tx×List Tx)×PV)}{b:List ((Str×List Str)×V)}(f:∀x v,aZ K H F x v->aZ K H' F' x v)(h:xc K H F a b):xc K H' F' a b:=by
 unfold xc at h ⊢
 induction h with
 |nil=>exact .nil
 |cons r _ c=>exact .cons ⟨r.1,f _ _ r.2⟩ c
theorem h_.mono{f:List (List PV)}{a:List ac}(g:∀x v,bc K H F x v->bc K H' F' x v)(c:∀b o,b∈a->H b=aa o->H' b=aa o)(h:h_ K H F f a):h_ K H' F' f a:=by
 unfold h_ at h ⊢
 induction h with
 |nil=>exact .nil
 |cons r _ i=>obtain⟨vs,m,l⟩:=r;exact .cons ⟨vs,c _ _ (by simp) m,g _ _ l⟩ (i λb o j=>c b o (by simp[j]))
theorem eu.mono{po:PO}{a:ac}{Sa:ac->Prop}(i:∀x v,aZ K H F x v->aZ K H' F' x v)(j:∀x v,bc K H F x v->bc K H' F' x v)(c:∀b o,Sa b->H b=aa o->H' b=aa o)(h:eu K H F po a Sa):eu K H' F' po a Sa:=by
 cases po with
 |lst xs=>obtain⟨⟨vs,e,q⟩,w⟩:=h;exact⟨⟨vs,c a _ ((w a).mpr rfl) e,j _ _ q⟩,w⟩
 |dK g=>obtain⟨⟨f,e,q⟩,w⟩:=h;exact⟨⟨f,c a _ ((w a).mpr rfl) e,q.mono i⟩,w⟩
 |lls A=>obtain⟨s,e,q,m,l,w⟩:=h;exact⟨s,c a _ ((w a).mpr (.inl rfl)) e,q.mono j λb o p=>c b o ((w b).mpr (.inr p)),m,l,w⟩
 |dL g=>obtain⟨s,e,q,m,l,w⟩:=h;exact⟨s,c a _ ((w a).mpr (.inl rfl)) e,q.mono j λb o p=>c b o ((w b).mpr (.inr p)),m,l,w⟩
 |ins C fs=>obtain⟨⟨r,f,e,q⟩,w⟩:=h;exact⟨⟨r,f,c a _ ((w a).mpr rfl) e,q.mono i⟩,w⟩
 |dT g=>obtain⟨⟨f,e,q⟩,w⟩:=h;exact⟨⟨f,c a _ ((w a).mpr rfl) e,q.mono i⟩,w⟩
 |dN g=>obtain⟨⟨f,e,q⟩,w⟩:=h;exact⟨⟨f,c a _ ((w a).mpr rfl) e,q.mono i⟩,w⟩
 |inl C fs y xs=>obtain⟨r,f,b,vs,e,q,n,z,u,ne,w⟩:=h;exact⟨r,f,b,vs,c a _ ((w a).mpr (.inl rfl)) e,q.mono i,n,c b _ ((w b).mpr (.inr rfl)) z,j _ _ u,ne,w⟩
theorem aM.al(r:aM K F S d σ H)(a:Al F F' H H'):aM K F' S d σ H' where
 len:=r.len
 ex:=λb h=>(a.fnew b h).elim (λz=>let ⟨o,q⟩:=r.ex b z;⟨o,a.same _ _ q⟩) λz=>z.2
 val:=λi pv e=>let ⟨v,g,f⟩:=r.val i pv e;⟨v,g,a.rep f⟩
 own:=λi l e=>let ⟨b,g,f⟩:=r.own i l e;⟨b,g,f.mono (λ_ _ q=>a.rep q) (λ_ _ q=>a.reps q) λc o _ q=>a.same _ _ q⟩
 foot:=λi b h=>by
  obtain⟨g,f,o,j,m⟩:=r.foot i b h;refine⟨g,λz=>?_,o,a.same _ _ j,m⟩;rcases a.fnew b z with y|⟨y,_⟩
  .exact f y
  .rw[j]at y;cases y
 dist:=r.dist
end
inductive R(α:Type) where
 |ok (a:α) (ε:ae)|er (c:ai) (ε:ae)|no
def R.bind{d b:Type}(r:R d)(k:d->ae->R b):R b:=match r with
 |.ok a ε=>k a ε
 |.er c ε=>.er c ε
 |.no=>.no
def aC{b:Type}(o:Option b)(ε:ae):R b:=match o with
 |some a=>.ok a ε
 |none=>.no
@[simp] theorem R.bind_ok{b c:Type}(a:b)(ε:ae)(k:b->ae->R c):(R.ok a ε).bind k=k a ε:=rfl
@[simp] theorem R.bind_er{b d:Type}(c:ai)(a:ae)(k:b->ae->R d):(R.er c a:R b).bind k=.er c a:=rfl
@[simp] theorem R.bind_no{a b:Type}(k:a->ae->R b):(R.no:R a).bind k=.no:=rfl
@[simp] theorem cK{c:Type}(a:c)(b:ae):aC (aa a) b=.ok a b:=rfl
@[simp] theorem Sv{b:Type}(a:ae):aC (af:Option b) a=.no:=rfl
def Ok(K:au)(E:XK)(h:St)(F:ac->Prop)(S:Nat->ac->Prop)(H:Hp){i:Type}(r:R i)(C:i->ae->(ac->Prop)->(Nat->ac->Prop)->Hp->Prop):Prop:=match r with
 |.ok a b=>∀g f d,aM K g f b h d->bd (U S) (U f) F g H d->C a b g f d
 |.er c b=>∀x g f d,aM K g f b h d->bd (U S) (U f) F g H d->E c x d
 |.no=>False
section
variable{K:au}{E:XK}{b:St}{F:ac->Prop}{S:Nat->ac->Prop}{H:Hp}{d i:Type}{C C':d->ae->(ac->Prop)->(Nat->ac->Prop)->Hp->Prop}{D:i->ae->(ac->Prop)->(Nat->ac->Prop)->Hp->Prop}
theorem Ok.imp{r:R d}(h:Ok K E b F S H r C)(f:∀a j m l H',aM K m l j b H'->bd (U S) (U l) F m H H'->C a j m l H'->C' a j m l H'):Ok K E b F S H r C':=by
 cases r with
 |ok a j=>exact λm l H' r g=>f a j m l H' r g (h m l H' r g)
 |er c j=>exact h
 |no=>exact h
theorem Ok.from{r:R i}{q:ac->Prop}{o:Nat->ac->Prop}{p:Hp}(h:Ok K E b F S H r D)(g:bd (U S) (U o) F q H p):Ok K E b q o p r D:=by
 cases r with
 |ok a f=>exact λn l m j g'=>h n l m j (g.trans g')
 |er c f=>exact λx n l m j g'=>h x n l m j (g.trans g')
 |no=>exact h
theorem Ok.bind{r:R d}{k:d->ae->R i}(h:Ok K E b F S H (r.bind k) D):Ok K E b F S H r (λa ε1 m j l=>Ok K E b m j l (k a ε1) D):=by
 cases r with
 |ok a f=>exact λp n o r g=>Ok.from h g
 |er c f=>exact h
 |no=>exact h
end
structure Bx(p:Prop):Prop where
 run:p
def iV(X:Cx)(e:aD):TE:=λa H Q=>Bx (∀b s,Inv X b a H s->aw (aE X.prog X.w) X.A (aK e X.env) (EP X b a Q) X.xe s)
def y0(X:Cx)(e:aD):TT:=λa H Q=>Bx (∀b s,Inv X b a H s->aw (aE X.prog X.w) X.A (m9 e X.env (aK e X.env)) (TP X b a Q) X.xe s)
def wpS(X:Cx)(c:aS):TS:=λD b H=>Bx (∀a s,Inv X a b H s->aw (aE X.prog X.w) X.A (exec c X.env) (SP X a D) X.xe s)
def my(X:Cx)(b:List aS):TS:=λD σ H=>Bx (∀a s,Inv X a σ H s->aw (aE X.prog X.w) X.A (execs b X.env) (SP X a D) X.xe s)
section
variable{X:Cx}{e:aD}{b:aS}{a:List aS}
theorem bA:PE X e (iV X e):=λc s _ _ _ I h=>h.run c s I
theorem mE:PT X e (y0 X e):=λc s _ _ _ I h=>h.run c s I
theorem qt:PS X b (wpS X b):=λc s _ _ _ I h=>h.run c s I
theorem lM:kN X a (my X a):=λc s _ _ _ I h=>h.run c s I
theorem bV{t:TE}(h:PE X e t){σ:St}{H:Hp}{Q:VK}(q:t σ H Q):iV X e σ H Q:=⟨λc s I=>h c s σ H Q I q⟩
theorem ul{t:TT}(h:PT X e t){c:St}{H:Hp}{Q:Bool->Hp->Prop}(q:t c H Q):y0 X e c H Q:=⟨λd s I=>h d s c H Q I q⟩
theorem eC{t:TS}(h:PS X b t){σ:St}{H:Hp}{D:kC}(q:t D σ H):wpS X b D σ H:=⟨λc s I=>h c s σ H D I q⟩
theorem t_{t:TS}(h:kN X a t){c:St}{H:Hp}{D:kC}(q:t D c H):my X a D c H:=⟨λd s I=>h d s c H D I q⟩
end
def DE(X:Cx)(E:XK)(e:aD)(d:ae->R PV):Prop :=
 ∀F S b a H Q,aM X.K F S b a H->Ok X.K E a F S H (d b) (λpv _ f _ c=>∀v,aZ X.K c f pv v->Q v c)->iV X e a H Q
def DN(X:Cx)(E:XK)(e:aD)(d:ae->R PO):Prop :=
 ∀F S f c H Q,aM X.K F S f c H->Ok X.K E c F S H (d f) (λh _ F' i H'=>∀a g,eu X.K H' F' h a g->(∀b,g b->H b=af/\¬F' b/\¬U i b/\∃o,H' b=aa o/\cN o)->Q (.ref a) H')->iV X e c H Q
def DT(X:Cx)(E:XK)(e:aD)(d:ae->R Bool):Prop :=
 ∀F S ε a H Q,aM X.K F S ε a H->Ok X.K E a F S H (d ε) (λb _ _ _ c=>Q b c)->y0 X e a H Q
end Pu
namespace Pu
open L2
section
variable{X:Cx}{E:XK}{a b c:aD}{m db A:ae->R PV}{pos:Pos}
def dC(pv:PV):ae->R PV:=λε=>.ok pv ε
theorem aV{i j pos}:DE X E (.Constant (.int i) j pos) (dC (.int i)):=λF S f d H Q r h=>bV Q2 (h F S H r (bd.refl ..) _ rfl)
theorem j3{i j pos}:DE X E (.Constant (.bool i) j pos) (dC (.bl i)):=λF S f d H Q r h=>bV N7 (h F S H r (bd.refl ..) _ rfl)
theorem Cu{j pos}:DE X E (.Constant .none j pos) (dC .non):=λF S f d H Q r h=>bV Op (h F S H r (bd.refl ..) _ rfl)
theorem c7(l:Tx){x:Str}{j pos}(d:x=tS l:=by decide +kernel)(f:l.length<=bH:=by decide):DE X E (.Constant (.str x) j pos) (dC (.str l)):=λF S i g H Q r h=>bV MU (h F S H r (bd.refl ..) _ (by rw[d];exact⟨rfl,f⟩))
def dV(i:Nat):ae->R PV:=λε=>match ε[i]? with
 |some (.val pv)=>.ok pv ε
 |_=>.no
theorem aq(i:Nat){x:Str}{pos:Pos}(g:X.N[i]?=aa x:=by rfl)(d:c6 X.env.scope x:=by eq_refl)(f:(x==("__debug__":Str))=aj:=by decide)(n:(x==("__classdict__":Str))=aj:=by decide):DE X E (.Name x pos) (dV i):=λF S q o H Q r h=>by
 unfold dV at h;split at h
 .rename_i p e;obtain⟨v,l,j⟩:=r.val i p e;exact bV (dG g d f n) ⟨v,l,h F S H r (bd.refl ..) v j⟩
 .exact h.elim
theorem A0{x:Str}{i:Int}{pos:Pos}(h:∃t,X.mg x=aa (.int i t))(d:Gl X x:=by rfl)(f:(x==("__debug__":Str))=aj:=by decide):DE X E (.Name x pos) (dC (.int i)):=λF S j g H Q r q=>by obtain⟨t,e⟩:=h;exact bV (Au (v:=.int i) d e ⟨t,rfl⟩ f) (q F S H r (bd.refl ..) _ rfl)
theorem xM{x:Str}{l:Tx}{pos:Pos}(h:∃t,X.mg x=aa (.str (tS l) t))(f:Gl X x:=by rfl)(d:l.length<=bH:=by decide)(g:(x==("__debug__":Str))=aj:=by decide):DE X E (.Name x pos) (dC (.str l)):=λF S j i H Q r q=>by obtain⟨t,e⟩:=h;exact bV (Au (v:=tV l) f e ⟨t,rfl⟩ g) (q F S H r (bd.refl ..) _ ⟨rfl,d⟩)
def aM.frz{K:au}{F:ac->Prop}{S:Nat->ac->Prop}{n:ae}{p:St}{H:Hp}{i:Nat}{xs:List PV}(r:aM K F S n p H)(e:n[i]?=aa (.own (.lst xs))):∃a w I,aM K w I (n.set i (.val (.lst xs))) p H/\bd (U S) (U I) F w H H/\p[i]?=aa (aa (.ref a))/\aZ K H w (.lst xs) (.ref a):=by
 obtain⟨a,G,⟨J,C,L⟩,D⟩:=r.own i _ e;have B:i<n.length:=(cF.mp e).1;have sub:∀b,F b->F b\/b=a:=λb h=>.inl h;have mono:∀x v,aZ K H F x v->aZ K H (λb=>F b\/b=a) x v:=aZ.mono sub (λ_ _ _ q=>q) (λ_ _ q _=>q);have d:∀x v,bc K H F x v->bc K H (λb=>F b\/b=a) x v:=bc.mono sub (λ_ _ _ q=>q) (λ_ _ q _=>q);have y:aZ K H (λb=>F b\/b=a) (.lst xs) (.ref a):=⟨a,J,rfl,.inl C,.inr rfl,d _ _ L⟩
 refine⟨a,λb=>F b\/b=a,λj b=>S j b/\j≠i,⟨by rw[fW];exact r.len,λb h=>?_,λj pv q=>?_,λj u q=>?_,λj b h=>?_,λj k b N M=>r.dist j k b N.1 M.1⟩,?_,G,y⟩
 .rcases h with h|rfl
  .exact r.ex b h
  .exact⟨_,C⟩
 .by_cases f:i=j
  .subst f;rw[cu B]at q;cases q;exact⟨_,G,y⟩
  .rw[cj f]at q;obtain⟨v,l,g⟩:=r.val j pv q;exact⟨v,l,mono _ _ g⟩
 .by_cases f:i=j
  .subst f;rw[cu B]at q;cases q
  .rw[cj f]at q;obtain⟨v,l,g⟩:=r.own j u q;refine⟨v,l,?_⟩;have s:=g.mono (H':=H) mono d λ_ _ _ z=>z;have O:(λb=>S j b/\j≠i)=S j:=by funext b;simp[dQ f]
   rw[O];exact s
 .obtain⟨⟨u,l⟩,g,s⟩:=r.foot j b h.1;refine⟨⟨u,by rw[cj (dQ h.2)];exact l⟩,λz=>?_,s⟩;rcases z with z|rfl
  .exact g z
  .exact h.2 (r.dist j i b h.1 ((D b).mpr rfl))
 .refine⟨λ_ h=>.inl h,λb o h _=>h,λb o h=>⟨o,h⟩,λb h=>?_,λb ⟨j,h⟩=>.inl ⟨j,h.1⟩⟩;rcases h with h|rfl
  .exact .inl h
  .exact .inr (.inr ⟨i,(D b).mpr rfl⟩)
def dM(i:Nat):ae->R PV:=λε=>match ε[i]? with
 |some (.own (.lst xs))=>.ok (.lst xs) (ε.set i (.val (.lst xs)))
 |_=>.no
theorem Rg(i:Nat){x:Str}{pos:Pos}(l:X.N[i]?=aa x:=by rfl)(f:c6 X.env.scope x:=by eq_refl)(j:(x==("__debug__":Str))=aj:=by decide)(q:(x==("__classdict__":Str))=aj:=by decide):DE X E (.Name x pos) (dM i):=λF S w v H Q r h=>by
 unfold dM at h;split at h
 .rename_i p e;obtain⟨a,u,s,d,g,o,n⟩:=r.frz e;exact bV (dG l f j q) ⟨_,o,h u s H d g _ n⟩
 .exact h.elim
def P2(K:au)(r:R2)(f:PV->PV->Option PV):Prop:=∀(F:ac->Prop) (H:Hp) (x y:PV) (v u:V) (Q:VK) (pv:PV),aZ K H F x v->aZ K H F y u->f x y=aa pv->(∀w g d,Al F g H d->aZ K d g pv w->Q w d)->r v u H Q
def d2(f:PV->PV->Option PV)(m db:ae->R PV):ae->R PV:=λε=>(m ε).bind λx ε1=>(db ε1).bind λy d=>aC (f x y) d
theorem xL{r:R2}{f:PV->PV->Option PV}(I:P2 X.K r f)(K:DE X E a m)(J:DE X E b db){F:ac->Prop}{S:Nat->ac->Prop}{l:ae}{d:St}{H:Hp}{Q:VK}(D:aM X.K F S l d H)(h:Ok X.K E d F S H (d2 f m db l) (λpv _ q _ i=>∀v,aZ X.K i q pv v->Q v i)):iV X a d H λx p=>iV X b d p λy o=>r x y o Q:=by
 refine K F S l d H _ D ((Ok.bind h).imp λx j T O p s W L v B=>?_);refine J T O j d p _ s ((Ok.bind L).imp λy z P N o G M g u C=>?_);cases e:f x y with
 |none=>rw[e]at g;exact g.elim
 |some pv=>rw[e]at g;exact I P o x y v u Q pv (B.grow M s.fit) C e λw q i al n=>g q N i (G.al al) al.grow w n
theorem cJ{d:Operator}{r:R2}{f:PV->PV->Option PV}(j:cf X (jH d) r)(i:P2 X.K r f)(n:DE X E a m)(l:DE X E b db):DE X E (.BinOp a d b pos) (d2 f m db):=λF S p o H Q g h=>bV (Hx j bA bA) (xL i n l g h)
theorem re{d:CmpOp}{r:R2}{f:PV->PV->Option PV}(j:cf X (d7 d) r)(i:P2 X.K r f)(o:DE X E a m)(n:DE X E b db)(l:pD d b=aj):DE X E (.Compare a [d] [b] pos) (d2 f m db):=λF S q p H Q g h=>bV (Pj j bA bA l) (xL i o n g h)
def eK:PV->Option Bool
 |.bl b=>aa b
 |_=>af
def dB(d:ae->R PV):ae->R Bool:=λε=>(d ε).bind λx ε1=>aC (eK x) ε1
theorem FS{K:au}{H:Hp}{F:ac->Prop}{x:PV}{v:V}{k:Bool}(h:aZ K H F x v)(e:eK x=aa k):v=.bl k:=by
 cases x <;> simp[eK]at e;subst e;exact h
theorem sN{F:ac->Prop}{S:Nat->ac->Prop}{j:ae}{i:St}{H:Hp}{Q:Bool->Hp->Prop}{d:ae->R PV}(h:Ok X.K E i F S H (dB d j) (λk _ _ _ g=>Q k g)):Ok X.K E i F S H (d j) (λpv _ s _ g=>∀v,aZ X.K g s pv v->∃k,v=.bl k/\Q k g):=by
 refine(Ok.bind h).imp λx l r p q o u f v n=>?_;cases e:eK x with
 |none=>rw[e]at f;exact f.elim
 |some k=>rw[e]at f;exact⟨k,FS n e,f r p q o (bd.refl ..)⟩
theorem cP{d:CmpOp}{r:R2}{f:PV->PV->Option PV}(j:cf X (d7 d) r)(i:P2 X.K r f)(o:DE X E a m)(n:DE X E b db)(l:pD d b=aj):DT X E (.Compare a [d] [b] pos) (dB (d2 f m db)):=λF S s q H Q g h=>ul (Ln j bA bA l) (xL (Q:=λx p=>∃k,x=.bl k/\Q k p) i o n g (sN h))
theorem jm{e:aD}{d:ae->R PV}(l:DE X E e d)(j:∀whole,m9 e X.env whole=(do let v <-whole;standAt e.pos;pE [v] (truthy v)):=by intro _;rfl):DT X E e (dB d):=λF S g f H Q i h=>ul (Pt bA j) (l F S g f H _ i (sN h))
def jD(f g:PV->PV->Option PV)(m db A:ae->R PV):ae->R PV:=λj=>(m j).bind λx i=>(db i).bind λy d=>(aC ((f x y).bind eK) d).bind λk d=>
 match k with
 |true=>(A d).bind λz h=>aC (g y z) h
 |false=>.ok (.bl aj) d
theorem FG{r O:R2}{f g:PV->PV->Option PV}(hp:P2 X.K r f)(im:P2 X.K O g)(ha:DE X E a m)(hb:DE X E b db)(hc:DE X E c A){F:ac->Prop}{S:Nat->ac->Prop}{B:ae}{j:St}{H:Hp}{Q:VK}(rl:aM X.K F S B j H)(h:Ok X.K E j F S H (jD f g m db A B) (λpv _ l _ i=>∀v,aZ X.K i l pv v->Q v i)):zA r O (iV X a) (iV X b) (iV X c) j H Q:=by
 refine ha F S B j H _ rl ((Ok.bind h).imp λx s F1 S1 H1 N g1 h1 v rv=>?_);refine hb F1 S1 s j H1 _ N ((Ok.bind h1).imp λy n T L P r2 g2 d u M=>?_);cases e:f x y with
 |none=>rw[e]at d;exact d.elim
 |some pv=>
  rw[e]at d;refine hp T P x y v u _ pv (rv.grow g2 N.fit) M e λw l i al D=>?_;cases K:eK pv with
  |none=>rw[gu,K]at d;exact d.elim
  |some k=>
   rw[gu,K]at d;refine⟨k,FS D K,?_⟩;have I:=r2.al al;cases k with
   |false=>exact nK (Ok.from d al.grow l L i I (bd.refl ..) _ rfl)
   |true=>
    have h3:Ok X.K E j T L P ((A n).bind λz q=>aC (g y z) q) (λpv _ l _ i=>∀v,aZ X.K i l pv v->Q v i):=d;refine nY (hc l L n j i _ I ((Ok.bind (Ok.from h3 al.grow)).imp λz W F4 S4 H4 r4 g4 p Z G=>?_));cases J:g y z with
    |none=>rw[J]at p;exact p.elim
    |some pz=>rw[J]at p;exact im F4 H4 y z u Z Q pz ((al.rep M).grow g4 I.fit) G J λY F5 H5 o C=>p F5 S4 H5 (r4.al o) o.grow Y C
theorem Q4{i d:CmpOp}{r j:R2}{f g:PV->PV->Option PV}(q:cf X (d7 i) r)(o:cf X (d7 d) j)(p:P2 X.K r f)(n:P2 X.K j g)(w:DE X E a m)(v:DE X E b db)(u:DE X E c A)(s:lastMarks [i,d] [b,c]=aj:=by with_unfolding_all rfl):DE X E (.Compare a [i,d] [b,c] pos) (jD f g m db A):=λF S y x H Q l h=>bV (Oi q o bA bA bA s) (FG p n w v u l h)
theorem zv{i d:CmpOp}{r j:R2}{f g:PV->PV->Option PV}(q:cf X (d7 i) r)(o:cf X (d7 d) j)(p:P2 X.K r f)(n:P2 X.K j g)(w:DE X E a m)(v:DE X E b db)(u:DE X E c A)(s:lastMarks [i,d] [b,c]=aj:=by with_unfolding_all rfl):DT X E (.Compare a [i,d] [b,c] pos) (dB (jD f g m db A)):=λF S B z H Q l h=>ul (ON q o bA bA bA s) (FG (Q:=λx y=>∃k,x=.bl k/\Q k y) p n w v u l (sN h))
variable{n B:ae->R Bool}{rest:List aD}
def DW(X:Cx)(E:XK)(e:aD)(d:ae->R Bool):Prop:=∀F S g f H Q,aM X.K F S g f H->Ok X.K E f F S H (d g) (λb _ _ _ h=>Q b h)->∀(whole:Sem ai) ag s,Inv X ag f H s->aw (aE X.prog X.w) X.A (m9 e X.env whole) (TP X ag f Q) X.xe s
def Kf(X:Cx)(e:aD):TT:=λd H Q=>∀(whole:Sem ai) ag s,Inv X ag d H s->aw (aE X.prog X.w) X.A (m9 e X.env whole) (TP X ag d Q) X.xe s
theorem FJ{e:aD}:PW X e (Kf X e):=λwhole d s _ _ _ I h=>h whole d s I
theorem DW.dt{e:aD}{d:ae->R Bool}(h:DW X E e d):DT X E e d:=λF S ε f H Q g q=>⟨λi s I=>h F S ε f H Q g q _ i s I⟩
def iH(n B:ae->R Bool):ae->R Bool:=λε=>(n ε).bind λk d=>match k with
 |true=>B d
 |false=>.ok aj d
def fX(n B:ae->R Bool):ae->R Bool:=λf=>(n f).bind λk d=>match k with
 |true=>.ok ah d
 |false=>B d
def dW(n:ae->R Bool):ae->R Bool:=λε=>(n ε).bind λk d=>.ok (!k) d
theorem Cv(h:DT X E a n):DW X E (.BoolOp .And [a] pos) n:=λF S f d H Q g q whole i s I=>N6 mE whole i s d H Q I (h F S f d H Q g q)
theorem qb(h:DT X E a n):DW X E (.BoolOp .Or [a] pos) n:=λF S f d H Q g q whole i s I=>Mp mE whole i s d H Q I (h F S f d H Q g q)
theorem Ef(u:DT X E a n)(r:DW X E (.BoolOp .And (b::rest) pos) B):DW X E (.BoolOp .And (a::b::rest) pos) (iH n B):=λF S o d H Q p q whole v s I=>by
 refine Mc mE FJ whole v s d H Q I (u F S o d H _ p ((Ok.bind q).imp λk f l i j g w h=>?_));cases k with
 |true=>exact nY (r l i f d j Q g h)
 |false=>exact nK (h l i j g (bd.refl ..))
theorem nG(u:DT X E a n)(r:DW X E (.BoolOp .Or (b::rest) pos) B):DW X E (.BoolOp .Or (a::b::rest) pos) (fX n B):=λF S o d H Q p q whole v s I=>by
 refine Oh mE FJ whole v s d H Q I (u F S o d H _ p ((Ok.bind q).imp λk f l i j g w h=>?_));cases k with
 |true=>exact nY (h l i j g (bd.refl ..))
 |false=>exact nK (r l i f d j Q g h)
theorem jz(j:DT X E a n):DT X E (.UnaryOp .Not a pos) (dW n):=λF S g d H Q h q=>ul (JJ mE) (j F S g d H _ h ((Ok.bind q).imp λk f r o p i s l=>l r o p i (bd.refl ..)))
def l_(m db:ae->R PV):ae->R PV:=λf=>(dB m f).bind λk d=>match k with
 |true=>db d
 |false=>.ok (.bl aj) d
def Sx(m db:ae->R PV):ae->R PV:=λf=>(dB m f).bind λk d=>match k with
 |true=>.ok (.bl ah) d
 |false=>db d
def FH(m:ae->R PV):ae->R PV:=λf=>(dB m f).bind λk d=>.ok (.bl (!k)) d
theorem FI{d:ae->R PV}{q:Type}{D:q->ae->(ac->Prop)->(Nat->ac->Prop)->Hp->Prop}{k:Bool->ae->R q}{F:ac->Prop}{S:Nat->ac->Prop}{p:ae}{o:St}{H:Hp}{P:Bool->Hp->Prop}(h:Ok X.K E o F S H ((dB d p).bind k) D) (f:∀c g l j i,aM X.K l j g o i->bd (U S) (U j) F l H i->Ok X.K E o l j i (k c g) D->P c i):Ok X.K E o F S H (d p) (λpv _ y _ r=>∀v,aZ X.K r y pv v->∃c,v=.bl c/\P c r):=by have u:=(Ok.bind h).imp (C':=λc g l j i=>P c i) λc g l j i s x w=>f c g l j i s x w;exact sN u
theorem sJ{op}{d:ae->R PV}(h:DE X E a d):DE X E (.BoolOp op [a] pos) d:=λF S g f H Q i q=>bV (K_ bA) (h F S g f H Q i q)
theorem qV(s:DE X E a m)(r:DE X E (.BoolOp .And (b::rest) pos) db):DE X E (.BoolOp .And (a::b::rest) pos) (l_ m db):=λF S o f H Q p q=>by
 refine bV (HI bA bA) (s F S o f H _ p (FI q λk d l i j g u h=>?_));cases k with
 |true=>exact nY (r l i d f j Q g h)
 |false=>exact nK (h l i j g (bd.refl ..) _ rfl)
theorem Po(j:DE X E a m):DE X E (.UnaryOp .Not a pos) (FH m):=λF S g d H Q h q=>bV (P6 bA) (j F S g d H _ h (FI q λk f r o p i s l=>l r o p i (bd.refl ..) _ rfl))
def a6{f:Type}(t:ae->R Bool)(m db:ae->R f):ae->R f:=λε=>(t ε).bind λk d=>match k with
 |true=>m d
 |false=>db d
theorem qK(r:DT X E c n)(u:DE X E a m)(s:DE X E b db):DE X E (.IfExp c a b pos) (a6 n m db):=λF S o f H Q p q=>by
 refine bV (Mh mE bA bA) (r F S o f H _ p ((Ok.bind q).imp λk d l i j g v h=>?_));cases k with
 |true=>exact nY (u l i d f j Q g h)
 |false=>exact nK (s l i d f j Q g h)
def P1(K:au)(r:V->Hp->VK->Prop)(f:PV->Option PV):Prop:=∀(F:ac->Prop) (H:Hp) (x:PV) (v:V) (Q:VK) (pv:PV),aZ K H F x v->f x=aa pv->(∀w g d,Al F g H d->aZ K d g pv w->Q w d)->r v H Q
def d1(f:PV->Option PV)(m:ae->R PV):ae->R PV:=λε=>(m ε).bind λx ε1=>aC (f x) ε1
theorem Ot{r:V->Hp->VK->Prop}{f:PV->Option PV}(z:P1 X.K r f)(C:DE X E a m){F:ac->Prop}{S:Nat->ac->Prop}{j:ae}{d:St}{H:Hp}{Q:VK}(u:aM X.K F S j d H)(h:Ok X.K E d F S H (d1 f m j) (λpv _ p _ i=>∀v,aZ X.K i p pv v->Q v i)):iV X a d H λx o=>r x o Q:=by
 refine C F S j d H _ u ((Ok.bind h).imp λx q G D o y I g v s=>?_);cases e:f x with
 |none=>rw[e]at g;exact g.elim
 |some pv=>rw[e]at g;exact z G o x v Q pv s e λw p i al l=>g p D i (y.al al) al.grow w l
theorem qI{d:UnaryOp}{r:V->Hp->VK->Prop}{f:PV->Option PV}(j:xV X (unaryOp d) r)(i:P1 X.K r f)(l:DE X E a m):DE X E (.UnaryOp d a pos) (d1 f m):=λF S p o H Q g h=>bV (PQ j bA) (Ot i l g h)
end
def oN(X:Cx)(d:List aD):TA:=λb H Q=>Bx (∀a c s,Inv X c b H s->aw (aE X.prog X.w) X.A (spliced (b9 a (aN d X.env))) (AP X c b Q) X.xe s)
def DA(X:Cx)(E:XK)(h:List aD)(d:ae->R (List PV)):Prop :=
 ∀F S c a H Q,aM X.K F S c a H->Ok X.K E a F S H (d c) (λb _ i _ g=>∀f,bc X.K g i b f->Q f g)->oN X h a H Q
section
variable{X:Cx}{E:XK}{a b c e:aD}{es:List aD}{B db D d:ae->R PV}{j:ae->R (List PV)}{pos:Pos}
theorem iC{es:List aD}:PA X es (oN X es):=λpos f s _ _ _ I h=>h.run pos f s I
theorem oV{t:TA}(h:PA X es t){f:St}{H:Hp}{Q:List V->Hp->Prop}(q:t f H Q):oN X es f H Q:=⟨λpos g s I=>h pos g s f H Q I q⟩
def ar:ae->R (List PV):=λε=>.ok [] ε
def am(d:ae->R PV)(j:ae->R (List PV)):ae->R (List PV):=λε=>(d ε).bind λx ε1=>(j ε1).bind λxs f=>.ok (x::xs) f
theorem aQ:DA X E [] ar:=λF S i g H Q f h=>oV g_ (h F S H f (bd.refl ..) _ rfl)
theorem MR(w:DE X E e d)(u:DA X E es j)(s:aN (e::es) X.env=(aj,aK e X.env)::aN es X.env:=by rfl):DA X E (e::es) (am d j):=λF S m g H Q p h=>by refine oV (f8 bA iC s) (w F S m g H _ p ((Ok.bind h).imp λx f L G J i M z v o=>?_));refine u L G f g J _ i ((Ok.bind z).imp λxs l K C I q A y n r=>?_);exact y K C I q (bd.refl ..) _ ⟨v,n,rfl,o.grow A i.fit,r⟩
theorem aM.more{K:au}{F N:ac->Prop}{S:Nat->ac->Prop}{n:ae}{m:St}{H:Hp}(r:aM K F S n m H)(p:∀b,N b->¬U S b/\∃o,H b=aa o):aM K (λb=>F b\/N b) S n m H:=by
 have mono:∀x v,aZ K H F x v->aZ K H (λb=>F b\/N b) x v:=aZ.mono (λ_ h=>.inl h) (λ_ _ _ q=>q) (λ_ _ q _=>q);have f:∀x v,bc K H F x v->bc K H (λb=>F b\/N b) x v:=bc.mono (λ_ h=>.inl h) (λ_ _ _ q=>q) (λ_ _ q _=>q);refine⟨r.len,λb h=>h.elim (r.ex b) λz=>(p b z).2,λi pv e=>?_,λi s e=>?_,λi b h=>?_,r.dist⟩
 .obtain⟨v,l,g⟩:=r.val i pv e;exact⟨v,l,mono _ _ g⟩
 .obtain⟨v,l,g⟩:=r.own i s e;exact⟨v,l,g.mono mono f λ_ _ _ z=>z⟩
 .obtain⟨l,g,u⟩:=r.foot i b h;exact⟨l,λz=>z.elim g λw=>(p b w).1 ⟨i,h⟩,u⟩
def lw:PO->Option PV
 |.lst xs=>aa (.lst xs)
 |_=>af
def dF(d:ae->R PO):ae->R PV:=λε=>(d ε).bind λf ε1=>aC (lw f) ε1
theorem DN.de{d:ae->R PO}(h:DN X E e d):DE X E e (dF d):=λF S ε r H Q v q=>by
 unfold dF at q;refine h F S ε r H Q v ?_;cases i:d ε with
 |no=>rw[i]at q;exact q.elim
 |er c s=>rw[i]at q;exact q
 |ok A ε1=>
  rw[i]at q;intro O l m x g a p G n;cases A with
  |dK f=>exact q.elim
  |lls N=>exact q.elim
  |dL N=>exact q.elim
  |ins C fs=>exact q.elim
  |dT f=>exact q.elim
  |dN f=>exact q.elim
  |inl C fs y xs=>exact q.elim
  |lst xs=>
   have L:∀b,p b->¬U l b/\∃o,m b=aa o:=λb z=>let ⟨_,_,x3,o,x4,_⟩:=n b z;⟨x3,o,x4⟩
   obtain⟨⟨u,J,I⟩,K⟩:=G;have M:bd (U S) (U l) F (λb=>O b\/p b) H m:=⟨λb z=>.inl (g.fro b z),g.keep,g.there,λb z=>z.elim (g.fnew b) λw=>.inr (.inl (n b w).1),g.onew⟩
   exact q _ l m (x.more L) M _ ⟨a,u,rfl,.inl J,.inr ((K a).mpr rfl),bc.mono (λ_ z=>.inl z) (λ_ _ _ z=>z) (λ_ _ z _=>z) _ _ I⟩
def cy(xs:List PV):Option PV:=if xs.length<=1000 then aa (.tup xs)else af
def bZ(xs:List PV):Option PO:=if xs.length<=1000 then aa (.lst xs)else af
def dL{g:Type}(f:List PV->Option g)(j:ae->R (List PV)):ae->R g:=λε=>(j ε).bind λxs ε1=>aC (f xs) ε1
def PL(K:au)(r:List V->Hp->VK->Prop)(f:List PV->Option PV):Prop:=∀(F:ac->Prop) (H:Hp) (xs:List PV) (h:List V) (Q:VK) (pv:PV),bc K H F xs h->f xs=aa pv->(∀w i g,Al F i H g->aZ K g i pv w->Q w g)->r h H Q
def mi(K:au)(r:List V->Hp->VK->Prop)(f:List PV->Option PO):Prop:=∀(F:ac->Prop) (H:Hp) (xs:List PV) (i:List V) (Q:VK) (l:PO),(∀a,F a->∃o,H a=aa o)->bc K H F xs i->f xs=aa l ->
 (∀a h g m,Al F h H g->eu K g h l a m->(∀b,m b->H b=af/\¬h b/\∃o,g b=aa o/\cN o)->Q (.ref a) g)->r i H Q
theorem AA{r:List V->Hp->VK->Prop}{f:List PV->Option PV}(z:PL X.K r f)(A:DA X E es j){F:ac->Prop}{S:Nat->ac->Prop}{m:ae}{g:St}{H:Hp}{Q:VK}(u:aM X.K F S m g H)(h:Ok X.K E g F S H (dL f j m) (λpv _ p _ l=>∀v,aZ X.K l p pv v->Q v l)):oN X es g H λxs o=>r xs o Q:=by
 refine A F S m g H _ u ((Ok.bind h).imp λxs q G C o x I i s y=>?_);cases e:f xs with
 |none=>rw[e]at i;exact i.elim
 |some pv=>rw[e]at i;exact z G o xs s Q pv y e λw p l al n=>i p C l (x.al al) al.grow w n
theorem lz{O i F l:ac->Prop}{H f:Hp}(g:bd O i F l H f){b:ac}(h:f b=af):H b=af:=by
 cases q:H b with
 |none=>rfl
 |some o=>obtain⟨o',e⟩:=g.there b o q;rw[h]at e;cases e
theorem wR{r:List V->Hp->VK->Prop}{f:List PV->Option PO}(N:mi X.K r f)(O:DA X E es j){F:ac->Prop}{S:Nat->ac->Prop}{q:ae}{l:St}{H:Hp}{Q:VK}(K:aM X.K F S q l H)(h:Ok X.K E l F S H (dL f j q) (λu _ p Y g=>∀a n,eu X.K g p u a n->(∀b,n b->H b=af/\¬p b/\¬U Y b/\∃o,g b=aa o/\cN o)->Q (.ref a) g)):oN X es l H λxs v=>r xs v Q:=by
 refine O F S q l H _ K ((Ok.bind h).imp λxs A Z W v s P m J M=>?_);cases e:f xs with
 |none=>rw[e]at m;exact m.elim
 |some u=>
  rw[e]at m;refine N Z v xs J Q u s.ex M e λa p g n al L T=>m p W g (s.al al) al.grow a n L λb z=>?_;obtain⟨x,I,o,G,C⟩:=T b z;refine⟨lz P x,I,λ⟨i,w⟩=>?_,o,G,C⟩;obtain⟨_,_,o',y,_⟩:=s.foot i b w;rw[x]at y;cases y
theorem z6{n:Nat}(h:n<=1000):n<=bi:=pC (AL h)
theorem LC{K:au}:PL K (λxs H Q=>xs.length<=bi/\∀p,H p=af->Q (.ref p) (upd H p (.tup xs))) cy:=λF H xs h Q pv f e q=>by
 unfold cy at e;split at e
 .cases e;refine⟨by rw[f.len];exact z6 (by assumption),λp g=>q _ F _ (Al.new0 g) ⟨p,h,rfl,bW,(Al.new0 g).reps f⟩⟩
 .cases e
theorem wE{K:au}{F:ac->Prop}{H:Hp}{l:ac}{xs:List PV}{f:List V}(h:H l=af)(g:bc K H F xs f):eu K (upd H l (.lst f)) F (.lst xs) l (λb=>b=l):=⟨⟨f,bW,(Al.new0 h).reps g⟩,λb=>pT⟩
theorem wP{F:ac->Prop}{H:Hp}{l:ac}{o:HO}(g:H l=af)(i:∀a,F a->∃o,H a=aa o)(h:cN o):∀b,b=l->H b=af/\¬F b/\∃f,(upd H l o) b=aa f/\cN f:=λb z=>by
 subst z;exact⟨g,(λw=>by obtain⟨o,q⟩:=i b w;rw[g]at q;cases q),o,bW,h⟩
theorem Qq{K:au}:mi K (λxs H Q=>xs.length<=bi/\∀p,H p=af->Q (.ref p) (upd H p (.lst xs))) bZ:=λF H xs i Q l h g e q=>by
 unfold bZ at e;split at e
 .cases e;exact⟨by rw[g.len];exact z6 (by assumption),λp f=>q p F _ _ (Al.new0 f) (wE f g) (wP f h trivial)⟩
 .cases e
theorem iJ{x1}(h:DA X E es j):DE X E (.Tuple es x1 pos) (dL cy j):=λF S i g H Q f q=>bV (JA iC) (AA LC h f q)
theorem qr(h:DA X E es j):DN X E (.List es pos) (dL bZ j):=λF S i g H Q f q=>bV (FT iC) (wR Qq h f q)
theorem iB(h:DA X E es j):DE X E (.List es pos) (dF (dL bZ j)):=(qr h).de
variable{x:Str}{p:Pos}{m T:String}{r:List V->Hp->VK->Prop}{f:List PV->Option PV}{A:List PV->Option PO}
theorem bL(u:d_ X (.builtin m) r)(i:PL X.K r f)(n:X.mg x=af)(h:dZ x=aa (.builtin m))(v:DA X E (e::es) j)(o:Gl X x:=by rfl)(l:x≠"__name__":=by decide)(w:(x==("__debug__":Str))=aj:=by decide)(s:aN (e::es) X.env=(aj,aK e X.env)::aN es X.env:=by rfl) (y:(b9 pos (aN es X.env)).any (·.1)=aj:=by rfl):DE X E (.Call (.Name x p) (e::es) [] pos) (dL f j):=λF S C z H Q g q=>bV (rm u o n h iC l w s y) (AA i v g q)
theorem zu(u:d_ X (.builtin m) r)(i:mi X.K r A)(n:X.mg x=af)(h:dZ x=aa (.builtin m))(v:DA X E (e::es) j)(o:Gl X x:=by rfl)(l:x≠"__name__":=by decide)(w:(x==("__debug__":Str))=aj:=by decide)(s:aN (e::es) X.env=(aj,aK e X.env)::aN es X.env:=by rfl) (y:(b9 pos (aN es X.env)).any (·.1)=aj:=by rfl):DN X E (.Call (.Name x p) (e::es) [] pos) (dL A j):=λF S C z H Q g q=>bV (rm u o n h iC l w s y) (wR i v g q)
theorem xT(u:d_ X (.type T) r)(i:PL X.K r f)(n:X.mg x=af)(h:dZ x=aa (.type T))(v:DA X E (e::es) j)(o:Gl X x:=by rfl)(l:x≠"__name__":=by decide)(w:(x==("__debug__":Str))=aj:=by decide)(s:aN (e::es) X.env=(aj,aK e X.env)::aN es X.env:=by rfl) (y:(b9 pos (aN es X.env)).any (·.1)=aj:=by rfl):DE X E (.Call (.Name x p) (e::es) [] pos) (dL f j):=λF S C z H Q g q=>bV (ub u o n h iC l w s y) (AA i v g q)
theorem Es(u:d_ X (.type T) r)(i:mi X.K r A)(n:X.mg x=af)(h:dZ x=aa (.type T))(v:DA X E (e::es) j)(o:Gl X x:=by rfl)(l:x≠"__name__":=by decide)(w:(x==("__debug__":Str))=aj:=by decide)(s:aN (e::es) X.env=(aj,aK e X.env)::aN es X.env:=by rfl) (y:(b9 pos (aN es X.env)).any (·.1)=aj:=by rfl):DN X E (.Call (.Name x p) (e::es) [] pos) (dL A j):=λF S C z H Q g q=>bV (ub u o n h iC l w s y) (wR i v g q)
theorem fY{r:R2}{f:PV->PV->Option PV}(l:lZ X r)(n:P2 X.K r f)(q:DE X E a B)(o:DE X E b db)(i:EY b:=by exact λ_ _=>rfl):DE X E (.Subscript a b pos) (d2 f B db):=λF S u s H Q g h=>bV (L7 l bA bA i) (xL n q o g h)
def Ax(X:Cx)(e:Option aD):TO:=λg H Q=>Bx (∀h s,Inv X h g H s->aw (aE X.prog X.w) X.A (evalPart e X.env) (λu l=>∃o i,Inv X h g i l/\nj u o/\Q o i) X.xe s)
theorem CB{o:Option aD}:L2.PO X o (Ax X o):=λg s _ _ _ I h=>h.run g s I
theorem F6{o:Option aD}{t:TO}(h:L2.PO X o t){g:St}{H:Hp}{Q:Option Int->Hp->Prop}(q:t g H Q):Ax X o g H Q:=⟨λi s I=>h i s g H Q I q⟩
def DO(X:Cx)(E:XK)(e:Option aD)(d:ae->R (Option Int)):Prop:=∀F S h g H Q,aM X.K F S h g H->Ok X.K E g F S H (d h) (λo _ _ _ i=>Q o i)->Ax X e g H Q
def eL:ae->R (Option Int):=λε=>.ok af ε
def P3:PV->Option Int
 |.int i=>aa i
 |_=>af
def cI(d:ae->R PV):ae->R (Option Int):=λε=>(d ε).bind λx g=>aC ((P3 x).map aa) g
theorem o0:DO X E af eL:=λF S l i H Q g h=>F6 LS (h F S H g (bd.refl ..))
theorem km(w:DE X E e d):DO X E (aa e) (cI d):=λF S o l H Q s h=>by
 refine F6 (N0 bA) (w F S o l H _ s ((Ok.bind h).imp λx n C y z u G g v q=>?_));cases x <;> first|exact(show False from g).elim|skip
 rename_i i;exact⟨i,q,g C y z u (bd.refl ..)⟩
def c5{i:Type}(f:PV->Option Int->Option Int->Option i)(d:ae->R PV)(o n:ae->R (Option Int)):ae->R i:=λε=>(d ε).bind λx ε1=>(o ε1).bind λl h=>(n h).bind λu g=>aC (f x l u) g
def EJ(K:au)(r:V->Option Int->Option Int->Hp->VK->Prop)(f:PV->Option Int->Option Int->Option PV):Prop:=∀(F:ac->Prop) (H:Hp) (x:PV) (h i:Option Int) (v:V) (Q:VK) (pv:PV),aZ K H F x v->f x h i=aa pv->(∀w l g,Al F l H g->aZ K g l pv w->Q w g)->r v h i H Q
theorem mR{r:V->Option Int->Option Int->Hp->VK->Prop}{f:PV->Option Int->Option Int->Option PV}{C G:Option aD}{J I:ae->R (Option Int)}{P:Pos}(Y:mx X r)(Z:EJ X.K r f)(he:DE X E e d)(hl:DO X E C J)(W:DO X E G I):DE X E (.Subscript e (.Slice C G af P) pos) (c5 f d J I):=λF S L i H Q N h=>by
 refine bV (M7 Y bA CB CB) (he F S L i H _ N ((Ok.bind h).imp λx o F1 S1 H1 z g1 h1 v M=>?_));refine hl F1 S1 o i H1 _ z ((Ok.bind h1).imp λl n F2 S2 H2 y g2 h2=>?_);refine W F2 S2 n i H2 _ y ((Ok.bind h2).imp λu K F3 S3 H3 O g3 g=>?_);cases s:f x l u with
 |none=>rw[s]at g;exact g.elim
 |some pv=>rw[s]at g;exact Z F3 H3 x l u v Q pv ((M.grow g2 z.fit).grow g3 y.fit) s λw F' H' al q=>g F' S3 H' (O.al al) al.grow w q
end
inductive aH where
 |next|ret (s:Slot)|brk|cont
def j8(K:au)(H:Hp)(F:ac->Prop)(s:Slot)(v:V)(c:ac->Prop):Prop:=match s with
 |.val pv=>aZ K H F pv v/\∀b,¬c b
 |.own d=>∃a,v=.ref a/\eu K H F d a c
 |.none=>False
def iq(b:List Nat)(σ a:St):Prop:=∀i∈b,a[i]?=σ[i]?
theorem iq.refl(a:List Nat)(σ:St):iq a σ σ:=λ_ _=>rfl
theorem iq.trans{c:List Nat}{σ f d:St}(a:iq c σ f)(b:iq c f d):iq c σ d:=λi h=>(b i h).trans (a i h)
theorem iq.set{a:List Nat}{σ:St}{i:Nat}{x:Option V}(h:i∉a):iq a σ (σ.set i x):=λj b=>by rw[cj (by rintro rfl;exact h b)]
def pi(f:ac->Prop)(c:Nat->ac->Prop)(d:Hp)(a:ac->Prop):Prop:=∀b,a b->¬f b/\¬U c b/\∃o,d b=aa o/\cN o
def gS(K:au)(E:XK)(i:List Nat)(j:St)(F:ac->Prop)(S:Nat->ac->Prop)(H:Hp)(r:R aH)(D:kC):Prop:=match r with
 |.ok .next f=>∀g h a d,aM K g h f a d->bd (U S) (U h) F g H d->iq i j a->D.nx a d
 |.ok .brk f=>∀g h a d,aM K g h f a d->bd (U S) (U h) F g H d->iq i j a->D.bk a d
 |.ok .cont f=>∀g h a d,aM K g h f a d->bd (U S) (U h) F g H d->iq i j a->D.ct a d
 |.ok (.ret s) f=>∀v g h a d l,aM K g h f a d->bd (U S) (λb=>U h b\/l b) F g H d->iq i j a->j8 K d g s v l->pi g h d l->D.rt v d
 |.er c f=>∀x g h a d,aM K g h f a d->bd (U S) (U h) F g H d->iq i j a->E c x d
 |.no=>False
def DS(X:Cx)(E:XK)(a:List Nat)(c:aS)(d:ae->R aH):Prop:=∀F S b σ H D,aM X.K F S b σ H->gS X.K E a σ F S H (d b) D->wpS X c D σ H
def eT(X:Cx)(E:XK)(a:List Nat)(c:List aS)(d:ae->R aH):Prop:=∀F S b σ H D,aM X.K F S b σ H->gS X.K E a σ F S H (d b) D->my X c D σ H
section
variable{K:au}{E:XK}{b:List Nat}{d i:St}{F m:ac->Prop}{S j:Nat->ac->Prop}{H l:Hp}{D:kC}
theorem gS.from{r:R aH}(h:gS K E b d F S H r D)(g:bd (U S) (U j) F m H l)(p:iq b d i):gS K E b i m j l r D:=by
 cases r with
 |no=>exact h
 |er c w=>exact λx u o a q n g' p'=>h x u o a q n (g.trans g') (p.trans p')
 |ok f w=>
  cases f with
  |next=>exact λu o a q n g' p'=>h u o a q n (g.trans g') (p.trans p')
  |brk=>exact λu o a q n g' p'=>h u o a q n (g.trans g') (p.trans p')
  |cont=>exact λu o a q n g' p'=>h u o a q n (g.trans g') (p.trans p')
  |ret s=>exact λv u o a q y n g' p'=>h v u o a q y n (g.trans g') (p.trans p')
theorem gS.bindE{o:Type}{r:R o}{k:o->ae->R aH}(h:gS K E b d F S H (r.bind k) D):Ok K E d F S H r (λa f m j l=>gS K E b d m j l (k a f) D):=by
 cases r with
 |no=>exact h
 |er c g=>exact λx u q s p n=>h x u q d s p n (iq.refl _ _)
 |ok a g=>exact λu q s p n=>h.from n (iq.refl _ _)
end
section
variable{X:Cx}{E:XK}{pin:List Nat}{l:aS}{rest:List aS}{d d1 d2:ae->R aH}{e:aD}{de:ae->R PV}{pos:Pos}
def bF:ae->R aH:=λε=>.ok .next ε
theorem et:eT X E pin [] bF:=λF S c a H D b h=>t_ Jk (h F S a H b (bd.refl ..) (iq.refl _ _))
def aB(d1 d2:ae->R aH):ae->R aH:=λε=>match d1 ε with
 |.ok .next ε1=>d2 ε1
 |r=>r
theorem a5(u:DS X E pin l d1)(q:eT X E pin rest d2):eT X E pin (l::rest) (aB d1 d2):=λF S i m H D n h=>by
 refine t_ (yS qt lM) (u F S i m H {D with nx:=my X rest D} n ?_);unfold aB at h;split at h
 .rename_i g w;rw[w];exact λz x b y o v p=>q z x g b y D o (h.from v p)
 .rename_i r j;generalize d1 i=r1 at h j;cases r1 with
  |no=>exact h
  |er c a=>exact h
  |ok f a=>
   cases f with
   |next=>exact absurd rfl (j a)
   |brk=>exact h
   |cont=>exact h
   |ret s=>exact h
theorem a9(f:DS X E pin l d1):eT X E pin [l] d1:=λF S b a H D c h=>t_ (zq qt) (f F S b a H D c h)
def FZ(f:aH):ae->R aH:=λa=>.ok f a
def SF(d:ae->R PV):ae->R aH:=λb=>(d b).bind λ_ a=>.ok .next a
def a8(d:ae->R PV):ae->R aH:=λε=>(d ε).bind λx ε1=>.ok (.ret (.val x)) ε1
theorem bd.cup{O c F i:ac->Prop}{H f:Hp}(g:bd O c F i H f):bd O (λb=>c b\/False) F i H f:=⟨g.fro,g.keep,g.there,g.fnew,λa h=>h.elim (g.onew a) gn⟩
theorem cE(j:DE X E e de):DS X E pin (.Return (aa e) pos) (a8 de):=λF S c a H D g h=>eC (qo bA) (j F S c a H _ g (h.bindE.imp λx b p n o i q m v f=>m v p n a o (λ_=>False) i (bd.refl ..).cup (iq.refl _ _) ⟨f,λ_ z=>z⟩ λ_ z=>z.elim))
theorem QN:DS X E pin (.Return af pos) (FZ (.ret (.val .non))):=λF S c a H D b h=>eC Rj (h _ F S a H (λ_=>False) b (bd.refl ..).cup (iq.refl _ _) ⟨rfl,λ_ z=>z⟩ λ_ z=>z.elim)
def kj(d:ae->R PO):ae->R aH:=λε=>(d ε).bind λx ε1=>.ok (.ret (.own x)) ε1
theorem wK{dn:ae->R PO}(u:DN X E e dn):DS X E pin (.Return (aa e) pos) (kj dn):=λF S j g H D p h=>by
 refine eC (qo bA) (u F S j g H _ p ?_);unfold kj at h;cases i:dn j with
 |no=>rw[i]at h;exact h.elim
 |er c o=>rw[i]at h;exact λx J B G r v=>h x J B g G r v (iq.refl _ _)
 |ok K n=>rw[i]at h;intro I A C q f a y s m;exact h _ I A g C y q ⟨f.fro,f.keep,f.there,f.fnew,λb z=>z.elim (f.onew b) λw=>.inr (m b w).1⟩ (iq.refl _ _) ⟨a,rfl,s⟩ λb z=>let ⟨_,x2,x3,x4⟩:=m b z;⟨x2,x3,x4⟩
def qP(i:Nat):ae->R aH:=λa=>match a[i]? with
 |some (.own b)=>.ok (.ret (.own b)) (a.set i .none)
 |_=>.no
theorem aM.drop{K:au}{F:ac->Prop}{S:Nat->ac->Prop}{c:ae}{σ:St}{H:Hp}(r:aM K F S c σ H)(i:Nat):aM K F (λj b=>S j b/\j≠i) (c.set i .none) σ H:=by
 have no:∀{j s},(c.set i .none)[j]?=aa s->s≠.none->j≠i/\c[j]?=aa s:=λ{j s} e p=>by
  by_cases f:i=j
  .subst f;by_cases q:i<c.length
   .rw[cu q]at e;exact absurd (fk e).symm p
   .rw[pR (by rw[fW];lia)]at e;cases e
  .rw[cj f]at e;exact⟨dQ f,e⟩
 refine⟨by rw[fW];exact r.len,r.ex,λj pv e=>r.val j pv (no e (by intro z;cases z)).2,λj po e=>?_,λj b h=>?_,λj k b m g=>r.dist j k b m.1 g.1⟩
 .obtain⟨f,e⟩:=no e (by intro z;cases z);obtain⟨a,m,g⟩:=r.own j po e;have u:(λb=>S j b/\j≠i)=S j:=by funext b;simp[f]
  exact⟨a,m,by rw[u];exact g⟩
 .obtain⟨⟨po,o⟩,n⟩:=r.foot j b h.1;exact⟨⟨po,by rw[cj (dQ h.2)];exact o⟩,n⟩
theorem Fa(i:Nat){x:Str}{p:Pos}(s:X.N[i]?=aa x:=by rfl)(n:c6 X.env.scope x:=by eq_refl)(r:(x==("__debug__":Str))=aj:=by decide)(v:(x==("__classdict__":Str))=aj:=by decide):DS X E pin (.Return (aa (.Name x p)) pos) (qP i):=λF S y f H D c h=>by
 unfold qP at h;split at h
 .rename_i g e;obtain⟨a,u,m⟩:=c.own i g e;refine eC (qo (dG s n r v)) ⟨_,u,h _ F (λj b=>S j b/\j≠i) f H (S i) (c.drop i) ⟨λ_ z=>z,λ_ _ z _=>z,λ_ o z=>⟨o,z⟩,λ_ z=>.inl z,λb z=>?_⟩ (iq.refl _ _) ⟨a,rfl,m⟩ λb z=>?_⟩
  .rcases z with⟨j,z,_⟩|z
   .exact .inl ⟨j,z⟩
   .exact .inl ⟨i,z⟩
  .exact⟨(c.foot i b z).2.1,λ⟨j,w,q⟩=>q (c.dist j i b w z),(c.foot i b z).2.2⟩
 .exact h.elim
theorem aM.set{K:au}{F:ac->Prop}{S:Nat->ac->Prop}{f:ae}{σ:St}{H:Hp}{i:Nat}{pv:PV}{v:V}(r:aM K F S f σ H)(h:aZ K H F pv v):aM K F (λj b=>S j b/\j≠i) (f.set i (.val pv)) (σ.set i (aa v)) H:=by
 have o:=r.drop i;have len:(f.set i (.val pv)).length=(σ.set i (aa v)).length:=by rw[fW,fW];exact r.len
 refine⟨len,r.ex,λj p e=>?_,λj po e=>?_,λj b h=>?_,o.dist⟩
 .by_cases c:i=j
  .subst c;have g:i<f.length:=by have:=(cF.mp e).1;rw[fW]at this;exact this
   rw[cu g]at e;cases e;exact⟨v,cu (by rw[<-r.len];exact g),h⟩
  .rw[cj c]at e;obtain⟨w,n,m⟩:=r.val j p e;exact⟨w,by rw[cj c];exact n,m⟩
 .have c:i≠j:=by
   rintro rfl;have g:i<f.length:=by have:=(cF.mp e).1;rw[fW]at this;exact this
   rw[cu g]at e;cases e
  rw[cj c]at e;obtain⟨a,n,m⟩:=r.own j po e;have u:(λb=>S j b/\j≠i)=S j:=by funext b;simp[dQ c]
  exact⟨a,by rw[cj c];exact n,by rw[u];exact m⟩
 .obtain⟨⟨po,q⟩,s⟩:=o.foot j b h;refine⟨⟨po,?_⟩,s⟩;rw[cj (dQ h.2)]at q ⊢;exact q
theorem bd.less{S:Nat->ac->Prop}{F:ac->Prop}{H:Hp}(i:Nat):bd (U S) (U λj b=>S j b/\j≠i) F F H H:=⟨λ_ z=>z,λ_ _ z _=>z,λ_ o z=>⟨o,z⟩,λ_ z=>.inl z,λb ⟨j,z⟩=>.inl ⟨j,z.1⟩⟩
theorem aM.setOwn{K:au}{F:ac->Prop}{S:Nat->ac->Prop}{q:ae}{x:St}{H:Hp}{i:Nat}{s:PO}{a:ac}{n:ac->Prop}(r:aM K F S q x H)(o:i<q.length)(h:eu K H F s a n)(u:pi F S H n):aM K F (λj b=>(S j b/\j≠i)\/(j=i/\n b)) (q.set i (.own s)) (x.set i (aa (.ref a))) H:=by
 have B:=r.drop i;refine⟨by rw[fW,fW];exact r.len,r.ex,λj p e=>?_,λj g e=>?_,λj b h=>?_,λj k b f c=>?_⟩
 .have m:i≠j:=by rintro rfl;rw[cu o]at e;cases e
  rw[cj m]at e;obtain⟨w,f,c⟩:=r.val j p e;exact⟨w,by rw[cj m];exact f,c⟩
 .by_cases m:i=j
  .subst m;rw[cu o]at e;cases e;have v:(λb=>(S i b/\i≠i)\/(i=i/\n b))=n:=by funext b;simp
   exact⟨a,cu (by rw[<-r.len];exact o),by rw[v];exact h⟩
  .rw[cj m]at e;obtain⟨D,f,c⟩:=r.own j g e;have v:(λb=>(S j b/\j≠i)\/(j=i/\n b))=S j:=by funext b;simp[dQ m]
   exact⟨D,by rw[cj m];exact f,by rw[v];exact c⟩
 .rcases h with h|⟨rfl,h⟩
  .obtain⟨⟨g,y⟩,C⟩:=B.foot j b h;refine⟨⟨g,?_⟩,C⟩;rw[cj (dQ h.2)]at y ⊢;exact y
  .obtain⟨A,G,z⟩:=u b h;exact⟨⟨s,cu o⟩,A,z⟩
 .rcases f with f|⟨rfl,f⟩ <;> rcases c with c|⟨rfl,c⟩
  .exact r.dist j k b f.1 c.1
  .exact absurd ⟨j,f.1⟩ (u b c).2.1
  .exact absurd ⟨k,c.1⟩ (u b f).2.1
  .rfl
def aT(i:Nat)(d:ae->R PV):ae->R aH:=λε=>(d ε).bind λx ε1=>.ok .next (ε1.set i (.val x))
theorem c0(i:Nat){x:Str}{p:Pos}(u:X.N.Nodup)(s:DE X E e de)(o:i∉pin:=by decide)(q:X.N[i]?=aa x:=by rfl)(m:Loc X.env.scope x:=by first|exact Or.inl rfl|exact Or.inr rfl)(n:ii e (aa (.Name x p)) pos.line X.env=pure aj:=by rfl)(r:X.fn x=ah\/X.env.scope.names.lookup x=aa .local:=by first|exact .inl rfl|exact .inr rfl):DS X E pin (.Assign [.Name x p] e pos) (aT i de):=λF S c a H D g h=>eC (FV u q m bA n r) (s F S c a H _ g (h.bindE.imp λx b z B y j A w v f=>w z _ _ y (j.set f) (bd.less i) (iq.set o)))
def jF(i:Nat)(d:ae->R PO):ae->R aH:=λε=>(d ε).bind λx ε1=>if i<ε1.length then .ok .next (ε1.set i (.own x))else .no
theorem qT(i:Nat){x:Str}{p:Pos}{dn:ae->R PO}(K:X.N.Nodup)(J:DN X E e dn)(C:i∉pin:=by decide)(G:X.N[i]?=aa x:=by rfl)(A:Loc X.env.scope x:=by first|exact Or.inl rfl|exact Or.inr rfl)(B:ii e (aa (.Name x p)) pos.line X.env=pure aj:=by rfl)(I:X.fn x=ah\/X.env.scope.names.lookup x=aa .local:=by first|exact .inl rfl|exact .inr rfl):DS X E pin (.Assign [.Name x p] e pos) (jF i dn):=λF S q o H D u h=>by
 refine eC (FV K G A bA B I) (J F S q o H _ u ?_);unfold jF at h;cases n:dn q with
 |no=>rw[n]at h;exact h.elim
 |er c s=>rw[n]at h;exact λx Q M O w L=>h x Q M o O w L (iq.refl _ _)
 |ok T g=>
  rw[n]at h;simp only[R.bind_ok]at h;intro P Y N v f a W y r;by_cases m:i<g.length
  .rw[if_pos m]at h;refine h P _ _ N (v.setOwn m y λb z=>(r b z).2) ⟨f.fro,f.keep,f.there,f.fnew,λb ⟨j,z⟩=>?_⟩ (iq.set C);rcases z with z|⟨_,z⟩
   .exact f.onew b ⟨j,z.1⟩
   .exact .inr (r b z).1
  .rw[if_neg m]at h;exact h.elim
theorem eB{c:aD}{a b:List aS}{t:ae->R Bool}(r:DT X E c t)(u:eT X E pin a d1)(s:eT X E pin b d2):DS X E pin (.If c a b pos) (a6 t d1 d2):=λF S p g H D q h=>by
 refine eC (QU mE lM lM) (r F S p g H _ q (h.bindE.imp λk f o m n i v j=>?_));cases k with
 |true=>exact nY (u o m f g n D i j)
 |false=>exact nK (s o m f g n D i j)
def wJ:ae->R aH:=λ_=>.no
theorem Bc{a:List aS}:eT X E pin a wJ:=λ_ _ _ _ _ _ _ h=>h.elim
def cm(r:R aH):R aH:=match r with
 |.er _ _=>.no
 |r=>r
theorem jV(h:DS X.nox E0 pin l d):DS X E pin l (λa=>cm (d a)):=λF S a b H D i q=>Bx.mk λm s I=>by
 have q:gS X.K E pin b F S H (cm (d a)) D:=q;have j:gS X.K E0 pin b F S H (d a) D:=by
  cases e:d a with
  |no=>rw[e]at q;exact q
  |er c g=>rw[e]at q;exact q.elim
  |ok f g=>rw[e]at q;cases f <;> exact q
 exact d4 ((h F S a b H D i j).run m s (I.wish _)) (λ_ _ z=>z.unwish) λ_ _ z=>z.elim
def ro(X:Cx)(f a:aD):TI:=λb H h=>Bx (∀c s,Inv X c b H s->aw (aE X.prog X.w) X.A (aK a X.env) (λv g=>aw (aE X.prog X.w) X.A (oh v) (wd X c b f h) X.xe g) X.xe s)
theorem uw{b a:aD}:PI X b a (ro X b a):=λc s _ _ _ I h=>h.run c s I
theorem KZ{f a:aD}{t:TI}(h:PI X f a t){b:St}{H:Hp}{c:It->Hp->Prop}(q:t b H c):ro X f a b H c:=⟨λg s I=>h g s b H c I q⟩
def DI(X:Cx)(E:XK)(p a:aD)(d:ae->R (List PV)):Prop:=∀F S ε c H m,aM X.K F S ε c H ->
 Ok X.K E c F S H (d ε) (λg _ o q i=>∀J f n,bc X.K i o g f->f.length<=bi->Walk J f n->(∀h j b,bd (U q) (U h) o j i b->n b)->m J i)->ro X p a c H m
def fK(i:Nat)(db:ae->R aH):List PV->ae->R aH
 |[],ε=>.ok .next ε
 |x::xs,ε=>match db (ε.set i (.val x))with
  |.ok .next a=>fK i db xs a
  |.ok .cont a=>fK i db xs a
  |.ok .brk a=>.ok .next a
  |r=>r
def dD(i:Nat)(a:ae->R (List PV))(db:ae->R aH):ae->R aH:=λε=>(a ε).bind λxs ε1=>fK i db xs ε1
theorem mw(i:Nat){x:Str}{p:Pos}{o:aD}{r:List aS}{di:ae->R (List PV)}{G:ae->R aH}(p6:uD (aE X.prog X.w) X.A X.env X.xe)(hc:X.calm=ah)(hN:X.N.Nodup)(hi:DI X E (.Name x p) o di)(hb:eT X E pin r G)(hp:i∉pin:=by decide) (B:X.N[i]?=aa x:=by rfl) (P:Loc X.env.scope x:=by first|exact Or.inl rfl|exact Or.inr rfl) (hs:∀x,nc o X.env x=pure x:=by intro _;rfl)(hf:X.fn x=ah\/X.env.scope.names.lookup x=aa .local:=by first|exact .inl rfl|exact .inr rfl):DS X E pin (.For (.Name x p) o r [] pos) (dD i di G):=λF S ε σ H D rl h=>by
 refine eC (Ai p6 hc uw (n_ hN B P hf) lM hs) (hi F S ε σ H _ rl (h.bindE.imp λxs K F1 S1 H1 Z g1 h1 J vs RR Y hz hw z=>?_));refine AJ hw (λk a n=>∃u w m,aM X.K u w m a n/\bd (U S1) (U w) F1 u H1 n/\gS X.K E pin a u w n (fK i G (xs.drop k) m) D) ⟨F1,S1,K,Z,bd.refl ..,h1⟩ (λk a n _ ⟨u,w,m,_,g,_⟩=>z w u n g) ?_ ?_
 .rintro k v a n hv ⟨u,w,m,N,C,q⟩;obtain⟨x,B,rx⟩:=Y.back hv;have hk:k<xs.length:=(cF.mp B).1;have ed:xs.drop k=x::xs.drop (k+1):=by rw[B1 hk];congr 1;exact(cF.mp B).2
  rw[ed]at q;have L:=rx.grow C Z.fit;have r2:=N.set (i:=i) L;have Q:bd (U w) (U λj b=>w j b/\j≠i) u u n n:=bd.less i;show my X r _ (a.set i (aa v)) n;refine hb u _ _ _ n _ r2 ?_;unfold fK at q;have q:=q.from Q (iq.set (x:=aa v) hp);cases e:G (m.set i (.val x))with
  |no=>rw[e]at q;exact q
  |er c y=>rw[e]at q;exact q
  |ok f y=>
   rw[e]at q;cases f with
   |next=>exact λW T I H3 M A O=>⟨W,T,y,M,(C.trans Q).trans A,q.from A O⟩
   |cont=>exact λW T I H3 M A O=>⟨W,T,y,M,(C.trans Q).trans A,q.from A O⟩
   |brk=>exact q
   |ret s=>exact q
 .rintro a n ⟨u,w,m,N,C,q⟩;have P:vs.length=xs.length:=Y.len;rw[P,B2]at q;exact q u w a n N (bd.refl ..) (iq.refl _ _)
def ge(t:ae->R Bool)(b:ae->R aH):Nat->ae->R aH
 |0,_=>.no
 |n+1,ε=>(t ε).bind λk ε1=>match k with
  |false=>.ok .next ε1
  |true=>match b ε1 with
   |.ok .next a=>ge t b n a
   |.ok .cont a=>ge t b n a
   |.ok .brk a=>.ok .next a
   |r=>r
theorem Ey{c:aD}{n:List aS}{t:ae->R Bool}{j:ae->R aH}(O:ae->Nat)(T:uD (aE X.prog X.w) X.A X.env X.xe)(W:DT X E c t)(Y:eT X E pin n j):DS X E pin (.While c n [] pos) (λv=>ge t j (O v) v):=λF S v σ H D P h=>by
 refine eC (Qu T mE lM) ⟨λm b u=>∃y x a,aM X.K y x a b u/\gS X.K E pin b y x u (ge t j m a) D,⟨O v,F,S,v,P,h⟩,?_⟩;rintro m i H1 ⟨F1,Z,A,Q,q⟩;cases m with
 |zero=>exact q.elim
 |succ m=>
  refine W F1 Z A i H1 _ Q (q.bindE.imp λk p M J K N g2 g=>?_);cases k with
  |false=>exact nK (g M J i K N (bd.refl ..) (iq.refl _ _))
  |true=>
   refine nY ⟨λb u=>∃y x a,aM X.K y x a b u/\gS X.K E pin b y x u (ge t j m a) D,λb u w=>⟨m,jI m,w⟩,Y M J p i K _ N ?_⟩;have g:gS X.K E pin i M J K (match j p with
    |.ok .next a=>ge t j m a
    |.ok .cont a=>ge t j m a
    |.ok .brk a=>.ok .next a
    |r=>r) D:=g
   cases e:j p with
   |no=>rw[e]at g;exact g
   |er c o=>rw[e]at g;exact g
   |ok f o=>
    rw[e]at g;cases f with
    |next=>exact λL I z H3 B G C=>⟨L,I,o,B,g.from G C⟩
    |cont=>exact λL I z H3 B G C=>⟨L,I,o,B,g.from G C⟩
    |brk=>exact g
    |ret s=>exact g
end
def xE(K:au)(E:XK)(i:List V)(F:ac->Prop)(S:Nat->ac->Prop)(H:Hp)(r:R Slot)(Q:VK):Prop:=match r with
 |.ok s h=>∀v d f a g,aM K d f h (i.map aa) a->bd (U S) (λb=>U f b\/g b) F d H a->j8 K a d s v g->pi d f a g->(∀b,g b->H b=af)->Q v a
 |.er c h=>∀x d f a,aM K d f h (i.map aa) a->bd (U S) (U f) F d H a->E c x a
 |.no=>False
def bh(K:au)(g:ae->R Slot):Sp:=λvs H Q E=>∃F S a,aM K F S a (vs.map aa) H/\xE K E vs F S H (g a) Q
structure cD(CX:eh)(P:a_)(w:aU)(K:au)(mg:Str->Option ai)(base:aI)(x:Str)(k:Nat)(ps:List Str)(sp:Sp):Prop where
 ex:∃f fd,mg x=aa (.ref f)/\g7 P w K mg base CX k f fd ps sp/\Binds K fd ps []/\kb K (.ref f)=ah
def back:ae->ae->Option ae
 |[],_=>aa []
 |.own _::a,.own po::b=>(back a b).map (.own po::·)
 |.own _::_,_=>af
 |s::a,_::b=>(back a b).map (s::·)
 |_::_,[]=>af
theorem wO:∀{a c b:ae},back a c=aa b->b.length=a.length/\∀(i:Nat) (s:Slot),b[i]?=aa s->(∃g f,a[i]?=aa (.own g)/\c[i]?=aa (.own f)/\s=.own f)\/(a[i]?=aa s/\∀g,s≠.own g)
 |[],_,b,h=>by cases h;exact⟨rfl,λi s e=>by simp at e⟩
 |.own g::a,.own f::c,b,h=>by
  unfold back at h;cases e:back a c with
  |none=>rw[e]at h;cases h
  |some r=>
   rw[e]at h;cases h;obtain⟨l,q⟩:=wO e;refine⟨by simp[l],λi s d=>?_⟩;cases i with
   |zero=>simp at d;subst d;exact .inl ⟨g,f,rfl,rfl,rfl⟩
   |succ i=>simpa using q i s (by simpa using d)
 |.own g::a,.none::c,b,h=>by cases h
 |.own g::a,.val _::c,b,h=>by cases h
 |.own g::a,[],b,h=>by cases h
 |.none::a,[],b,h=>by cases h
 |.val _::a,[],b,h=>by cases h
 |.none::a,x::c,b,h=>by
  have h:(back a c).map (Slot.none::·)=aa b:=by unfold back at h;cases x <;> exact h
  cases e:back a c with
  |none=>rw[e]at h;cases h
  |some r=>
   rw[e]at h;cases h;obtain⟨l,q⟩:=wO e;refine⟨by simp[l],λi s d=>?_⟩;cases i with
   |zero=>simp at d;subst d;exact .inr ⟨rfl,λ_ z=>by cases z⟩
   |succ i=>simpa using q i s (by simpa using d)
 |.val pv::a,x::c,b,h=>by
  have h:(back a c).map (Slot.val pv::·)=aa b:=by unfold back at h;cases x <;> exact h
  cases e:back a c with
  |none=>rw[e]at h;cases h
  |some r=>
   rw[e]at h;cases h;obtain⟨l,q⟩:=wO e;refine⟨by simp[l],λi s d=>?_⟩;cases i with
   |zero=>simp at d;subst d;exact .inr ⟨rfl,λ_ z=>by cases z⟩
   |succ i=>simpa using q i s (by simpa using d)
def aY(n:Nat)(d:ae->R aH):ae->R Slot:=λf=>match d (f++cX n .none)with
 |.ok (.ret r) a=>(aC (back f a) []).bind λb _=>.ok r b
 |.ok .next a=>(aC (back f a) []).bind λb _=>.ok (.val .non) b
 |.er c a=>(aC (back f a) []).bind λb _=>.er c b
 |_=>.no
section
variable{K:au}{F x:ac->Prop}{S o:Nat->ac->Prop}{c l m:ae}{f:St}{H u:Hp}{d:List V}
theorem aM.start(r:aM K F S c (d.map aa) H)(n:Nat):aM K F S (c++cX n .none) (d.map aa++cX n af) H:=by
 have A:c.length=(d.map aa).length:=r.len;have no:∀{j:Nat}{s:Slot},(c++cX n Slot.none)[j]?=aa s->s≠.none->c[j]?=aa s:=λ{j s} e y=>by
  by_cases B:j<c.length
  .rw[i6 B]at e;exact e
  .rw[rR ∅,List.getElem?_replicate]at e;split at e
   .exact absurd (fk e).symm y
   .cases e
 have p:∀{j:Nat}{v:Option V},(d.map aa)[j]?=aa v->(d.map aa++cX n af)[j]?=aa v:=λ{j v} e=>by rw[i6 (cF.mp e).1];exact e
 refine⟨by simp[A],r.ex,λj pv e=>?_,λj a e=>?_,λj b h=>?_,r.dist⟩
 .obtain⟨v,i,g⟩:=r.val j pv (no e (by intro z;cases z));exact⟨v,p i,g⟩
 .obtain⟨v,i,g⟩:=r.own j a (no e (by intro z;cases z));exact⟨v,p i,g⟩
 .obtain⟨⟨a,q⟩,w⟩:=r.foot j b h;exact⟨⟨a,by rw[i6 (cF.mp q).1];exact q⟩,w⟩
theorem DJ{i:PO}{a:ac}{n:ac->Prop}(h:eu K H F i a n)(j:gK i=ah):∀b,n b↔b=a:=by
 cases i with
 |lst xs=>exact h.2
 |dK g=>exact h.2
 |lls p=>cases j
 |dL p=>cases j
 |ins C fs=>exact h.2
 |dT g=>exact h.2
 |dN g=>exact h.2
 |inl C fs y xs=>cases j
theorem LU{g:PO}{a:ac}{i:ac->Prop}(h:eu K H F g a i):i a:=by
 cases g with
 |lst xs=>exact(h.2 a).mpr rfl
 |dK b=>exact(h.2 a).mpr rfl
 |lls j=>obtain⟨n,_,_,_,_,w⟩:=h;exact(w a).mpr (.inl rfl)
 |dL j=>obtain⟨n,_,_,_,_,w⟩:=h;exact(w a).mpr (.inl rfl)
 |ins C fs=>exact(h.2 a).mpr rfl
 |dT b=>exact(h.2 a).mpr rfl
 |dN b=>exact(h.2 a).mpr rfl
 |inl C fs y xs=>obtain⟨_,_,_,_,_,_,_,_,_,_,w⟩:=h;exact(w a).mpr (.inl rfl)
theorem aM.back{X:ac->Prop}{C:List Nat}{n:Nat}(B:aM K F S c (d.map aa) H)(r:aM K x o l f u)(g:bd (U S) X F x H u)(p:iq C (d.map aa++cX n af) f)(P:∀(i:Nat) (po:PO),c[i]?=aa (.own po)->i∈C)(Q:back c l=aa m):∃A,aM K x A m (d.map aa) u/\(∀b,U A b->U o b)/\((∀(i:Nat) (po:PO),c[i]?=aa (.own po)->gK po=ah)->∀b,U S b->U A b):=by
 obtain⟨L,E⟩:=wO Q;have inj:∀(i:Nat) (po:PO),c[i]?=aa (.own po)->∃a,(d.map aa)[i]?=aa (aa (.ref a))/\f[i]?=aa (aa (.ref a))/\eu K H F po a (S i):=λi po e=>by obtain⟨a,w,y⟩:=B.own i po e;refine⟨a,w,?_,y⟩;rw[p i (P i po e),i6 (cF.mp w).1];exact w
 have bk:∀(i:Nat) (po:PO),c[i]?=aa (.own po)->∃s,m[i]?=aa (.own s)/\l[i]?=aa (.own s):=λi po e=>by
  have M:i<m.length:=by rw[L];exact(cF.mp e).1
  rcases E i m[i] (by simp[M])with⟨p1,p2,q1,q2,q3⟩|⟨q1,q2⟩
  .exact⟨p2,by rw[e_ M,q3],q2⟩
  .rw[e]at q1;exact absurd (fk q1).symm (q2 po)
 refine⟨λi b=>o i b/\∃po,c[i]?=aa (.own po),⟨by rw[L];exact B.len,r.ex,λi pv e=>?_,λi po e=>?_,λi b h=>?_,λi j b w y=>r.dist i j b w.1 y.1⟩,λb ⟨i,h⟩=>⟨i,h.1⟩,λO b ⟨i,h⟩=>?_⟩
 .rcases E i _ e with⟨_,_,_,_,z⟩|⟨q1,_⟩
  .cases z
  .obtain⟨v,w,y⟩:=B.val i pv q1;exact⟨v,w,y.grow g B.fit⟩
 .rcases E i _ e with⟨p1,p2,q1,q2,q3⟩|⟨_,q2⟩
  .cases q3;obtain⟨a,w,y,N⟩:=inj i p1 q1;obtain⟨W,D,G⟩:=r.own i po q2;rw[y]at D;cases D;refine⟨a,w,?_⟩;have T:(λb=>o i b/\∃po,c[i]?=aa (.own po))=o i:=by funext b;exact propext ⟨λz=>z.1,λz=>⟨z,p1,q1⟩⟩
   rw[T];exact G
  .exact absurd rfl (q2 po)
 .obtain⟨po,q⟩:=h.2;obtain⟨s,J,I⟩:=bk i po q;exact⟨⟨s,J⟩,(r.foot i b h.1).2⟩
 .obtain⟨⟨po,q⟩,_⟩:=B.foot i b h;obtain⟨a,w,y,N⟩:=inj i po q;obtain⟨s,J,I⟩:=bk i po q;obtain⟨W,D,G⟩:=r.own i s I;rw[y]at D;cases D;have e:b=a:=(DJ N (O i po q) b).mp h;exact⟨i,e ▸ LU G,po,q⟩
end
theorem qY{K:au}{E:XK}{a:List V}{F:ac->Prop}{S:Nat->ac->Prop}{H:Hp}{r:R Slot}{Q:VK}(h:xE K E a F S H r Q):r≠.no:=λz=>by rw[z]at h;exact h
theorem wc{K:au}{g:ae->R Slot}{m:Nat}(f:∀a,g a≠.no->a.length=m):∀b H Q E,bh K g b H Q E->b.length=m:=λb H Q E ⟨F,S,a,c,ok⟩=>by have:=f a (qY ok);have d:=c.len;rw[bS]at d;lia
theorem F8{X:Cx}{E:XK}{s:List aS}{N P:List Str}{q:List V}{H:Hp}{Q:VK}{n:Nat}{g:ae->R Slot}{d:ae->R aH}{y:List Nat}(hn:N.length=P.length+n)(bp:∀a,g a≠.no->a.length=P.length) (i7:∀a,g a≠.no->∀(i:Nat) po,a[i]?=aa (.own po)->i∈y) (Z:∀a o m,g a=.ok o m->(∃pv,o=.val pv)\/∀(i:Nat) po,a[i]?=aa (.own po)->gK po=ah) (hg:∀a,g a≠.no->aY n d a=g a)(hb:eT X E y s d) (gY:bh X.K g q H Q E):my X s {nx:=λ_ l=>Q .non l,rt:=Q} (L2.start N q) H:=by
 obtain⟨F,S,a,K,ok⟩:=gY;have hl:=bp a (qY ok);have h2:=K.len;rw[bS]at h2;have es:L2.start N q=q.map aa++cX n af:=by unfold L2.start;rw[show N.length-q.length=n by lia]
 rw[es];refine hb F S _ _ H _ (K.start n) ?_;have W:=i7 a (qY ok);have O:=hg a (qY ok);have J:=Z a;rw[<-O]at ok J;unfold aY at ok J;generalize d (a++cX n .none)=r at ok J ⊢;cases r with
 |no=>exact ok
 |er c h=>
  intro x p B j l C f D;have ok:xE X.K E q F S H ((aC (back a h) []).bind λm _=>.er c m) Q:=ok;cases e:back a h with
  |none=>rw[e]at ok;exact ok.elim
  |some m=>rw[e]at ok;obtain⟨A,u,sub,_⟩:=K.back C f D W e;exact ok x p A l u ⟨f.fro,f.keep,f.there,f.fnew,λb z=>f.onew b (sub b z)⟩
 |ok fl h=>
  have G:∀(o:Slot),(∀m,back a h=aa m->(∃pv,o=.val pv)\/∀(i:Nat) po,a[i]?=aa (.own po)->gK po=ah)->xE X.K E q F S H ((aC (back a h) []).bind λm _=>.ok o m) Q->∀(v:V) p B j l I,aM X.K p B h j l->bd (U S) (λb=>U B b\/I b) F p H l->iq y (q.map aa++cX n af) j->j8 X.K l p o v I->pi p B l I->Q v l:=by
   intro o M ok v p B j l I C f D T L;cases e:back a h with
   |none=>rw[e]at ok;exact ok.elim
   |some m=>
    rw[e]at ok;obtain⟨A,u,sub,Y⟩:=K.back C f D W e;refine ok v p A l I u ⟨f.fro,f.keep,f.there,f.fnew,λb z=>f.onew b (z.imp (sub b) id)⟩ T (λb z=>⟨(L b z).1,λw=>(L b z).2.1 (sub b w),(L b z).2.2⟩) λb z=>?_;rcases M m e with⟨pv,rfl⟩|hf
    .exact absurd z (T.2 b)
    rcases f.onew b (.inr z)with w|w
    .exact absurd (sub b (Y hf b w)) (L b z).2.1
    .exact w
  cases fl with
  |brk=>exact ok.elim
  |cont=>exact ok.elim
  |ret o=>exact G o (λm e=>J o m (by show(aC (back a h) []).bind _=_;rw[e];rfl)) ok
  |next=>exact λp B j l C f D=>G (.val .non) (λ_ _=>.inl ⟨_,rfl⟩) ok .non p B j l (λ_=>False) C ⟨f.fro,f.keep,f.there,f.fnew,λb z=>z.elim (f.onew b) gn⟩ D ⟨rfl,λ_ z=>z⟩ λ_ z=>z.elim
theorem CH{f:ac}{p:gG}{D:eh}{P:a_}{w:aU}{K:au}{v:Str->Option ai}{j:aI}{x b:Str}{h:aS}{N l:List Str}{k n:Nat}{g:ae->R Slot}{d:ae->R aH}{m:List Nat}(Z:lG K x b h f p)(Y:bE N l (aL h))(M:N.length=l.length+n)(hb:∀(kV o u:ai) (B:Option ac) (C y:ai) (q:List ai),q.length=l.length->eR (fu x b (fZ h) (c8 h) (aL h) .none kV o u B C y) ⟨q,[]⟩=pure (l.zip q))(z:∀c,g c≠.no->c.length=l.length) (J:∀c,g c≠.no->∀(i:Nat) po,c[i]?=aa (.own po)->i∈m) (G:∀c r X,g c=.ok r X->(∃pv,r=.val pv)\/∀(i:Nat) po,c[i]?=aa (.own po)->gK po=ah) (O:∀c,g c≠.no->aY n d c=g c)(T:∀(A:a4) (a:List Env) (s:ao) (H:Hp) (E:XK),cM k (A.deeper (fM b (aL h) s.heap.objs.size f p.code))->eT (fD D P w K v j N b (aL h) f p.code A a s H E) E m (c8 h) d):g7 P w K v j D (k+1) f p l (bh K g):=by obtain⟨oc,od,kV,o,u,B,C,y,F,rfl,I,W⟩:=Z.ex;exact yN I W Y (wc z) λA a s H vs Q E L S=>⟨_,lM,F8 M z J G O (T A a s H E L) S⟩
theorem EH{f:ac}{u:gG}{B:eh}{P:a_}{w:aU}{K:au}{y:Str->Option ai}{l:aI}{x b:Str}{j:aS}{N m:List Str}{k n:Nat}{g:ae->R Slot}{d:ae->R aH}{p:List Nat}(Q:lG K x b j f u)(O:bE N m (aL j))(D:N.length=m.length+n)(G:∀(kV v C:ai) (M:Option ac) (q J:ai) (r:List ai),r.length=m.length->eR (fu x b (fZ j) (c8 j) (aL j) .none kV v C M q J) ⟨r,[]⟩=pure (m.zip r))(L:∀c,g c≠.no->c.length=m.length) (z:∀c,g c≠.no->∀(i:Nat) o,c[i]?=aa (.own o)->i∈p/\gK o=ah) (F:∀c,g c≠.no->aY n d c=g c)(I:∀(f:ac) (q:ai) (A:a4) (a:List Env) (s:ao) (H:Hp) (E:XK),cM k (A.deeper (fM b (aL j) s.heap.objs.size f q))->eT (fD B P w K y l N b (aL j) f q A a s H E) E p (c8 j) d):g7 P w K y l B (k+1) f u m (bh K g):=CH Q O D G L (λc h i o e=>(z c h i o e).1) (λc S T h=>.inr λi o e=>(z c (by rw[h];exact nofun) i o e).2) F λA a s H E=>I f u.code A a s H E
theorem RD{v:eh}{P:a_}{w:aU}{K:au}{p:Str->Option ai}{c:aI}{x:Str}{b:aS}{N j:List Str}{k n:Nat}{g:ae->R Slot}{d:ae->R aH}{l:List Nat}(D:cq K p x b)(O:bE N j (aL b))(B:N.length=j.length+n)(u:∀(kV q y:ai) (M:Option ac) (m J:ai) (o:List ai),o.length=j.length->eR (fu x x (fZ b) (c8 b) (aL b) .none kV q y M m J) ⟨o,[]⟩=pure (j.zip o))(L:∀a,g a≠.no->a.length=j.length) (z:∀a,g a≠.no->∀(i:Nat) po,a[i]?=aa (.own po)->i∈l/\gK po=ah) (F:∀a,g a≠.no->aY n d a=g a)(G:∀(f:ac) (m:ai) (A:a4) (h:List Env) (s:ao) (H:Hp) (E:XK),cM k (A.deeper (fM x (aL b) s.heap.objs.size f m))->eT (fD v P w K p c N x (aL b) f m A h s H E) E l (c8 b) d):cD v P w K p c x (k+1) j (bh K g):=by obtain⟨f,I,C,r⟩:=D.ex;exact⟨f,I,C,EH r O B u L z F G,r.binds u,r.kp⟩
abbrev bQ:=Sum PV Nat
def fh(K:au)(a:St)(F:ac->Prop)(H:Hp):List bQ->List V->Prop
 |[],vs=>vs=[]
 |.inl pv::b,vs=>∃v r,vs=v::r/\aZ K H F pv v/\fh K a F H b r
 |.inr i::b,vs=>∃v r,vs=v::r/\a[i]?=aa (aa v)/\fh K a F H b r
def DG(X:Cx)(E:XK)(f:List aD)(d:ae->R (List bQ)):Prop :=
 ∀F S b a H Q,aM X.K F S b a H->Ok X.K E a F S H (d b) (λg _ h _ c=>∀vs,fh X.K a h c g vs->Q vs c)->oN X f a H Q
section
variable{X:Cx}{E:XK}{e:aD}{b:List aD}{de:ae->R PV}{c:ae->R (List bQ)}{f:Pos}
def bq:ae->R (List bQ):=λε=>.ok [] ε
def gV(d:ae->R PV)(c:ae->R (List bQ)):ae->R (List bQ):=λε=>(d ε).bind λx ε1=>(c ε1).bind λxs a=>.ok (.inl x::xs) a
def gO(i:Nat)(c:ae->R (List bQ)):ae->R (List bQ):=λε=>match ε[i]? with
 |some (.own _)=>(c ε).bind λxs a=>.ok (.inr i::xs) a
 |_=>.no
theorem bw:DG X E [] bq:=λF S g d H Q a h=>oV g_ (h F S H a (bd.refl ..) _ rfl)
theorem Jn(s:DE X E e de)(r:DG X E b c)(q:aN (e::b) X.env=(aj,aK e X.env)::aN b X.env:=by rfl):DG X E (e::b) (gV de c):=λF S j d H Q n h=>by refine oV (f8 bA iC q) (s F S j d H _ n ((Ok.bind h).imp λx a G A C g I w v m=>?_));refine r G A a d C _ g ((Ok.bind w).imp λxs i D z B o y u l p=>?_);exact u D z B o (bd.refl ..) _ ⟨v,l,rfl,m.grow y g.fit,p⟩
theorem fO(i:Nat){x:Str}{p:Pos}(v:DG X E b c)(y:X.N[i]?=aa x:=by rfl)(s:c6 X.env.scope x:=by eq_refl)(w:(x==("__debug__":Str))=aj:=by decide)(A:(x==("__classdict__":Str))=aj:=by decide) (u:aN (.Name x p::b) X.env=(aj,aK (.Name x p) X.env)::aN b X.env:=by rfl):DG X E (.Name x p::b) (gO i c):=λF S m j H Q d h=>by
 unfold gO at h;split at h
 .rename_i q e;obtain⟨a,g,_⟩:=d.own i q e;refine oV (f8 (dG y s w A) iC u) ⟨_,g,v F S m j H _ d ((Ok.bind h).imp λxs l D B C o G z n r=>?_)⟩;exact z D B C o (bd.refl ..) _ ⟨_,n,rfl,g,r⟩
 .exact h.elim
end
def bU(ε:ae):List bQ->Option ae
 |[]=>aa []
 |.inl pv::a=>(bU ε a).map (.val pv::·)
 |.inr i::a=>match ε[i]? with
  |some (.own b)=>(bU ε a).map (.own b::·)
  |_=>af
def ce:ae->List bQ->ae->ae
 |ε,.inl _::b,_::a=>ce ε b a
 |ε,.inr i::b,s::a=>ce (ε.set i s) b a
 |ε,_,_=>ε
def br:List bQ->List Nat
 |[]=>[]
 |.inl _::as=>br as
 |.inr i::as=>i::br as
theorem Eo:∀{as:List bQ}{i:Nat},i∈br as↔∃k:Nat,as[k]?=aa (.inr i)
 |[],i=>by simp[br]
 |.inl _::as,i=>by
  unfold br;rw[Eo];constructor
  .rintro⟨k,h⟩;exact⟨k+1,by simpa using h⟩
  .rintro⟨k,h⟩;cases k with
   |zero=>simp at h
   |succ k=>exact⟨k,by simpa using h⟩
 |.inr j::as,i=>by
  unfold br;rw[b8,Eo];constructor
  .rintro(rfl|⟨k,h⟩)
   .exact⟨0,rfl⟩
   .exact⟨k+1,by simpa using h⟩
  .rintro⟨k,h⟩;cases k with
   |zero=>simp at h;exact .inl h.symm
   |succ k=>exact .inr ⟨k,by simpa using h⟩
theorem xg{d:ae}:∀{a:List bQ}{c:ae},bU d a=aa c->c.length=a.length/\∀(k:Nat) (s:Slot),c[k]?=aa s->(∃pv,a[k]?=aa (.inl pv)/\s=.val pv)\/∃i f,a[k]?=aa (.inr i)/\d[i]?=aa (.own f)/\s=.own f
 |[],c,h=>by cases h;exact⟨rfl,λk s e=>by simp at e⟩
 |.inl pv::a,c,h=>by
  unfold bU at h;cases e:bU d a with
  |none=>rw[e]at h;cases h
  |some r=>
   rw[e]at h;cases h;obtain⟨l,q⟩:=xg e;refine⟨by simp[l],λk s b=>?_⟩;cases k with
   |zero=>simp at b;exact .inl ⟨pv,rfl,b.symm⟩
   |succ k=>simpa using q k s (by simpa using b)
 |.inr i::a,c,h=>by
  unfold bU at h;split at h
  .rename_i f g;cases e:bU d a with
   |none=>rw[e]at h;cases h
   |some r=>
    rw[e]at h;cases h;obtain⟨l,q⟩:=xg e;refine⟨by simp[l],λk s b=>?_⟩;cases k with
    |zero=>simp at b;exact .inr ⟨i,f,rfl,g,b.symm⟩
    |succ k=>simpa using q k s (by simpa using b)
  .cases h
theorem wo:∀(c:List bQ) (a b:ae),(ce a c b).length=a.length
 |[],a,b=>by cases b <;> rfl
 |.inl _::c,a,[]=>rfl
 |.inr _::c,a,[]=>rfl
 |.inl _::c,a,s::b=>wo c a b
 |.inr i::c,a,s::b=>by show(ce (a.set i s) c b).length=_;rw[wo,fW]
theorem rg:∀(a:List bQ) (b c:ae) (j:Nat),j∉br a->(ce b a c)[j]?=b[j]?
 |[],b,c,j,_=>by cases c <;> rfl
 |.inl _::a,b,[],j,_=>rfl
 |.inr _::a,b,[],j,_=>rfl
 |.inl _::a,b,s::c,j,h=>rg a b c j h
 |.inr i::a,b,s::c,j,h=>by
  have d:¬(j=i\/j∈br a):=by simpa[br]using h
  show(ce (b.set i s) a c)[j]?=_;rw[rg a _ c j λz=>d (.inr z),cj λz=>d (.inl z.symm)]
theorem sG:∀(a:List bQ) (b c:ae) (j k:Nat) (s:Slot),(br a).Nodup->j<b.length->a[k]?=aa (.inr j)->c[k]?=aa s->(ce b a c)[j]?=aa s
 |[],b,c,j,k,s,_,_,h,_=>by simp at h
 |_::a,b,[],j,k,s,_,_,_,h=>by simp at h
 |.inl _::a,b,t::c,j,0,s,_,_,h,_=>by simp at h
 |.inl _::a,b,t::c,j,k+1,s,nd,hj,h,g=>sG a b c j k s nd hj (by simpa using h) (by simpa using g)
 |.inr i::a,b,t::c,j,0,s,nd,hj,h,g=>by simp at h g;subst h g;have d:i∉br a:=(jK.mp nd).1;show(ce (b.set i t) a c)[i]?=_;rw[rg a _ c i d,cu hj]
 |.inr i::a,b,t::c,j,k+1,s,nd,hj,h,g=>sG a (b.set i t) c j k s (jK.mp nd).2 (by rw[fW];exact hj) (by simpa using h) (by simpa using g)
theorem fh.len{K:au}{σ:St}{F:ac->Prop}{H:Hp}:∀{a:List bQ}{vs:List V},fh K σ F H a vs->vs.length=a.length
 |[],_,h=>by rw[show _=[] from h];rfl
 |.inl _::a,_,⟨v,r,e,_,h⟩=>by rw[e,fL,fL,fh.len h]
 |.inr _::a,_,⟨v,r,e,_,h⟩=>by rw[e,fL,fL,fh.len h]
theorem fh.val{K:au}{σ:St}{F:ac->Prop}{H:Hp}:∀{as:List bQ}{vs:List V}{k:Nat}{pv:PV},fh K σ F H as vs->as[k]?=aa (.inl pv)->∃v,vs[k]?=aa v/\aZ K H F pv v
 |[],_,k,_,_,e=>by simp at e
 |.inl x::as,_,0,pv,⟨v,r,e,h,_⟩,q=>by simp at q;subst q e;exact⟨v,rfl,h⟩
 |.inr _::as,_,0,pv,_,q=>by simp at q
 |.inl x::as,_,k+1,pv,⟨v,r,e,_,h⟩,q=>by obtain⟨w,a,b⟩:=fh.val (k:=k) h (by simpa using q);subst e;exact⟨w,by simpa using a,b⟩
 |.inr x::as,_,k+1,pv,⟨v,r,e,_,h⟩,q=>by obtain⟨w,a,b⟩:=fh.val (k:=k) h (by simpa using q);subst e;exact⟨w,by simpa using a,b⟩
theorem fh.own{K:au}{σ:St}{F:ac->Prop}{H:Hp}:∀{as:List bQ}{vs:List V}{k i:Nat},fh K σ F H as vs->as[k]?=aa (.inr i)->∃v,vs[k]?=aa v/\σ[i]?=aa (aa v)
 |[],_,k,_,_,e=>by simp at e
 |.inr x::as,_,0,pv,⟨v,r,e,h,_⟩,q=>by simp at q;subst q e;exact⟨v,rfl,h⟩
 |.inl _::as,_,0,pv,_,q=>by simp at q
 |.inl x::as,_,k+1,pv,⟨v,r,e,_,h⟩,q=>by obtain⟨w,a,b⟩:=fh.own (k:=k) h (by simpa using q);subst e;exact⟨w,by simpa using a,b⟩
 |.inr x::as,_,k+1,pv,⟨v,r,e,_,h⟩,q=>by obtain⟨w,a,b⟩:=fh.own (k:=k) h (by simpa using q);subst e;exact⟨w,by simpa using a,b⟩
section
variable{K:au}{F A:ac->Prop}{S m:Nat->ac->Prop}{c s f:ae}{u:St}{H y:Hp}{as:List bQ}{d:List V}
def lJ(as:List bQ)(S:Nat->ac->Prop)(k:Nat)(b:ac):Prop:=∃i,as[k]?=aa (.inr i)/\S i b
theorem wW(b:ac)(h:U (lJ as S) b):U S b:=let ⟨_,i,_,h⟩:=h;⟨i,h⟩
theorem xU:∀{as:List bQ}{i k l:Nat},(br as).Nodup->as[k]?=aa (.inr i)->as[l]?=aa (.inr i)->k=l
 |[],_,_,_,_,h,_=>by simp at h
 |.inl _::as,i,0,_,_,h,_=>by simp at h
 |.inl _::as,i,_,0,_,_,h=>by simp at h
 |.inl _::as,i,k+1,l+1,nd,h1,h2=>by rw[xU (as:=as) (i:=i) (k:=k) (l:=l) nd (by simpa using h1) (by simpa using h2)]
 |.inr j::as,i,0,0,_,_,_=>rfl
 |.inr j::as,i,0,l+1,nd,h1,h2=>by simp at h1;subst h1;exact absurd (Eo.mpr ⟨l,by simpa using h2⟩) (jK.mp nd).1
 |.inr j::as,i,k+1,0,nd,h1,h2=>by simp at h2;subst h2;exact absurd (Eo.mpr ⟨k,by simpa using h1⟩) (jK.mp nd).1
 |.inr j::as,i,k+1,l+1,nd,h1,h2=>by rw[xU (as:=as) (i:=i) (k:=k) (l:=l) (jK.mp nd).2 (by simpa using h1) (by simpa using h2)]
theorem aM.cal(r:aM K F S c u H)(C:fh K u F H as d)(J:bU c as=aa s)(nd:(br as).Nodup):aM K F (lJ as S) s (d.map aa) H:=by
 obtain⟨G,B⟩:=xg J;have D:∀{k:Nat}{v:V},d[k]?=aa v->(d.map aa)[k]?=aa (aa v):=λ{k v} e=>by rw[kc,e];rfl
 refine⟨by rw[G,bS,C.len],r.ex,λk pv e=>?_,λk E e=>?_,λk b h=>?_,λk l b g o=>?_⟩
 .rcases B k _ e with⟨p,q1,n⟩|⟨_,_,_,_,z⟩
  .cases n;obtain⟨v,x,w⟩:=C.val q1;exact⟨v,D x,w⟩
  .cases z
 .rcases B k _ e with⟨_,_,z⟩|⟨i,p,q1,n,q3⟩
  .cases z
  .cases q3;obtain⟨v,x,w⟩:=C.own q1;obtain⟨a,b1,b2⟩:=r.own i E n;rw[w]at b1;cases b1;have L:lJ as S k=S i:=by
    funext b;exact propext ⟨λ⟨j,g,o⟩=>by rw[q1]at g;cases g;exact o,λh=>⟨i,q1,h⟩⟩
   exact⟨a,D x,by rw[L];exact b2⟩
 .obtain⟨i,g,o⟩:=h;obtain⟨⟨E,q⟩,n⟩:=r.foot i b o;have I:k<s.length:=by rw[G];exact(cF.mp g).1
  refine⟨?_,n⟩;rcases B k s[k] (by simp[I])with⟨_,z,_⟩|⟨j,p,z1,z2,z3⟩
  .rw[g]at z;cases z
  .exact⟨p,by rw[e_ I,z3]⟩
 .obtain⟨i,x,w⟩:=g;obtain⟨j,b1,b2⟩:=o;have:=r.dist i j b w b2;subst this;exact xU nd x b1
theorem aM.called{O':ac->Prop}(r:aM K F S c u H)(ha:fh K u F H as d)(hs:bU c as=aa s)(nd:(br as).Nodup)(O:aM K A m f (d.map aa) y)(g:bd (U (lJ as S)) O' F A H y)(hO:∀b,U m b->O' b)(M:∀(k:Nat) i,as[k]?=aa (.inr i)->∃D,f[k]?=aa (.own D)):∃Y,aM K A Y (ce c as f) u y/\bd (U S) (U Y) F A H y/\∀b,U Y b->U m b\/U S b:=by
 have up:∀{k:Nat}{v:V},(d.map aa)[k]?=aa (aa v)->d[k]?=aa v:=λ{k v} e=>by
  rw[kc]at e;cases q:d[k]? with
  |none=>rw[q]at e;cases e
  |some x=>rw[q]at e;cases e;rfl
 have fit:Fit (U (lJ as S)) F H:=λb h=>r.fit b (wW b h);have L:∀i D,c[i]?=aa (.own D)->i<c.length:=λi D e=>(cF.mp e).1;have lt:∀(k:Nat) i,as[k]?=aa (.inr i)->i<c.length:=λk i e=>by
  obtain⟨hl,hg⟩:=xg hs;have E:k<s.length:=by rw[hl];exact(cF.mp e).1
  rcases hg k s[k] (by simp[E])with⟨_,z,_⟩|⟨j,p,z1,z2,z3⟩
  .rw[e]at z;cases z
  .rw[e]at z1;cases z1;exact L _ _ z2
 refine⟨λj b=>(∃k:Nat,as[k]?=aa (.inr j)/\m k b)\/(j∉br as/\S j b),⟨by rw[wo];exact r.len,O.ex,λj pv e=>?_,λj D e=>?_,λj b h=>?_,λi j b B C=>?_⟩,⟨g.fro,λb o e n=>g.keep b o e λz=>n (wW b z),g.there,λa z=>(g.fnew a z).imp id λw=>w.imp id (wW a),λb ⟨j,z⟩=>?_⟩,λb ⟨j,z⟩=>?_⟩
 .by_cases I:j∈br as
  .obtain⟨k,E⟩:=Eo.mp I;obtain⟨D,q⟩:=M k j E;rw[sG as c f j k _ nd (lt k j E) E q]at e;cases e
  .rw[rg as c f j I]at e;obtain⟨v,B,C⟩:=r.val j pv e;exact⟨v,B,C.grow g fit⟩
 .by_cases I:j∈br as
  .obtain⟨k,E⟩:=Eo.mp I;obtain⟨po',q⟩:=M k j E;rw[sG as c f j k _ nd (lt k j E) E q]at e;cases e;obtain⟨a,B,C⟩:=O.own k D q;obtain⟨v,Q,X⟩:=ha.own E;rw[up B]at Q;cases Q;have W:(λb=>(∃k:Nat,as[k]?=aa (.inr j)/\m k b)\/(j∉br as/\S j b))=m k:=by
    funext b;refine propext ⟨λz=>?_,λz=>.inl ⟨k,E,z⟩⟩;rcases z with⟨l,z1,z2⟩|⟨z,_⟩
    .rw[xU nd E z1];exact z2
    .exact absurd I z
   exact⟨a,X,by rw[W];exact C⟩
  .rw[rg as c f j I]at e;obtain⟨a,B,C⟩:=r.own j D e;have W:(λb=>(∃k:Nat,as[k]?=aa (.inr j)/\m k b)\/(j∉br as/\S j b))=S j:=by
    funext b;refine propext ⟨λz=>?_,λz=>.inr ⟨I,z⟩⟩;rcases z with⟨l,z1,z2⟩|⟨_,z⟩
    .exact absurd (Eo.mpr ⟨l,z1⟩) I
    .exact z
   have h3:eu K y A D a (S j):=by refine C.mono (λ_ _ q=>q.grow g fit) (λ_ _ q=>q.grow g fit) λb o z q=>g.keep b o q λ⟨l,i,N,J⟩=>?_;have:=r.dist i j b J z;subst this;exact I (Eo.mpr ⟨l,N⟩)
   exact⟨a,B,by rw[W];exact h3⟩
 .rcases h with⟨k,B,C⟩|⟨B,C⟩
  .obtain⟨⟨D,q⟩,T⟩:=O.foot k b C;exact⟨⟨D,sG as c f j k _ nd (lt k j B) B q⟩,T⟩
  .obtain⟨⟨D,q⟩,T,o,P,q4⟩:=r.foot j b C;have no:¬U (lJ as S) b:=λ⟨l,i,N,J⟩=>by have:=r.dist i j b J C;subst this;exact B (Eo.mpr ⟨l,N⟩)
   refine⟨⟨D,by rw[rg as c f j B];exact q⟩,λz=>?_,o,g.keep b o P no,q4⟩;rcases g.fnew b z with w|w|w
   .exact T w
   .rw[P]at w;cases w
   .exact no w
 .have G:∀{i j:Nat}{b:ac},(∃k:Nat,as[k]?=aa (.inr i)/\m k b)->(j∉br as/\S j b)->False:=λ{i j b} ⟨k,N,J⟩ ⟨w3,Z⟩=>by
   obtain⟨_,_,o,P,_⟩:=r.foot j b Z;rcases g.onew b (hO b ⟨k,J⟩)with⟨l,i',z1,z2⟩|z
   .have:=r.dist i' j b z2 Z;subst this;exact w3 (Eo.mpr ⟨l,z1⟩)
   .rw[P]at z;cases z
  rcases B with B|B <;> rcases C with C|C
  .obtain⟨k,Q,X⟩:=B;obtain⟨l,b1,b2⟩:=C;have:=O.dist k l b X b2;subst this;rw[Q]at b1;cases b1;rfl
  .exact(G B C).elim
  .exact(G C B).elim
  .exact r.dist i j b B.2 C.2
 .rcases z with⟨k,_,z⟩|⟨_,z⟩
  .rcases g.onew b (hO b ⟨k,z⟩)with w|w
   .exact .inl (wW b w)
   .exact .inr w
  .exact .inl ⟨j,z⟩
 .rcases z with⟨k,_,z⟩|⟨_,z⟩
  .exact .inl ⟨k,z⟩
  .exact .inr ⟨j,z⟩
end
def DR(X:Cx)(E:XK)(e:aD)(d:ae->R Slot):Prop :=
 ∀F S f a H Q,aM X.K F S f a H->Ok X.K E a F S H (d f) (λs _ h i c=>∀v g,j8 X.K c h s v g->(∀b,g b->H b=af/\¬h b/\¬U i b/\∃o,c b=aa o/\cN o)->Q v c)->iV X e a H Q
def cb:List bQ->ae->Bool
 |[],_=>ah
 |.inl _::as,_::ss=>cb as ss
 |.inr _::as,.own _::ss=>cb as ss
 |_,_=>aj
theorem mB:∀{as:List bQ}{ss:ae},cb as ss=ah->∀(k:Nat) i,as[k]?=aa (.inr i)->∃a,ss[k]?=aa (.own a)
 |[],_,_,k,i,h=>by simp at h
 |.inl _::as,s::ss,q,0,i,h=>by simp at h
 |.inl _::as,s::ss,q,k+1,i,h=>by simpa using mB (as:=as) (ss:=ss) (by unfold cb at q;exact q) k i (by simpa using h)
 |.inr _::as,.own a::ss,q,0,i,h=>⟨a,rfl⟩
 |.inr _::as,.own a::ss,q,k+1,i,h=>by simpa using mB (as:=as) (ss:=ss) (by unfold cb at q;exact q) k i (by simpa using h)
 |.inr _::as,.val _::ss,q,k,i,h=>by cases q
 |.inr _::as,.none::ss,q,k,i,h=>by cases q
 |.inl _::as,[],q,k,i,h=>by cases q
 |.inr _::as,[],q,k,i,h=>by cases q
def cc{d:Type}(ε:ae)(b:List bQ)(r:R d):R d:=match r with
 |.ok s a=>if cb b a then .ok s (ce ε b a)else .no
 |.er c a=>if cb b a then .er c (ce ε b a)else .no
 |.no=>.no
def ay(g:ae->R Slot)(c:ae->R (List bQ)):ae->R Slot:=λε=>(c ε).bind λa ε1=>(aC (if(br a).Nodup then bU ε1 a else af) ε1).bind λb ε1=>cc ε1 a (g b)
section
variable{l:eh}{X:Cx}{E:XK}{pin:List Nat}{e:aD}{es:List aD}{j:ae->R (List bQ)}{pos:Pos}{x:Str}{k:Nat}{m:List Str}{g:ae->R Slot}{p:Pos}{d:ae->R Slot}
theorem Fs{K:au}{F0 r:ac->Prop}{S0 B:Nat->ac->Prop}{a:ae}{F:St}{H n:Hp}{c:List bQ}{Y:List V}{Q:VK}(A:aM K r B a F n)(g1:bd (U S0) (U B) F0 r H n)(O:fh K F r n c Y)(q:Ok K E F r B n ((aC (if(br c).Nodup then bU a c else af) a).bind λC a=>cc a c (g C)) λs _ u T h=>∀v D,j8 K h u s v D->(∀b,D b->H b=af/\¬u b/\¬U T b/\∃o,h b=aa o/\cN o)->Q v h):bh K g Y n Q E:=by
 have q:=Ok.bind q;by_cases nd:(br c).Nodup
 .rw[if_pos nd]at q;cases es:bU a c with
  |none=>rw[es]at q;exact q.elim
  |some C=>
   rw[es]at q;have q:=q r B n A (bd.refl ..);dsimp only at q;refine⟨r,lJ c B,C,A.cal O es nd,?_⟩;cases N:g C with
   |no=>rw[N]at q;exact q.elim
   |er cv P=>
    rw[N]at q;intro y u T h I M;unfold cc at q;dsimp only at q;by_cases f:cb c P=ah
    .rw[if_pos f]at q;obtain⟨S,G,L,_⟩:=A.called O es nd I M (λ_ z=>z) (mB f);exact q y u S h G L
    .rw[if_neg f]at q;exact q.elim
   |ok s P=>
    rw[N]at q;intro v u T h D I M rv J Z;unfold cc at q;dsimp only at q;by_cases f:cb c P=ah
    .rw[if_pos f]at q;obtain⟨S,G,L,u2⟩:=A.called O es nd I M (λ_ z=>.inl z) (mB f);refine q u S h G L v D rv λb z=>⟨lz g1 (Z b z),(J b z).1,λw=>?_,(J b z).2.2⟩
     rcases u2 b w with w|⟨i,w⟩
     .exact(J b z).2.1 w
     .obtain⟨_,_,o,W,_⟩:=A.foot i b w;rw[Z b z]at W;cases W
    .rw[if_neg f]at q;exact q.elim
 .rw[if_neg nd]at q;exact q.elim
theorem bG(c:cD l X.prog X.w X.K X.mg X.base x k m (bh X.K g))(s:cM k X.A)(r:kD l X E)(A:DG X E (e::es) j)(w:Gl X x:=by rfl)(y:(x==("__debug__":Str))=aj:=by decide) (C:aN (e::es) X.env=(aj,aK e X.env)::aN es X.env:=by rfl) (B:(b9 pos (aN es X.env)).any (·.1)=aj:=by rfl):DR X E (.Call (.Name x p) (e::es) [] pos) (ay g j):=λF S i a H Q n h=>by obtain⟨f,K,u,I,z,v⟩:=c.ex;refine bV (Dq I s w u v z .nil r iC y C B) (A F S i a H _ n ((Ok.bind h).imp λL b O M N o D q J G=>?_));rw[i5];exact Fs o D G q
def iP:Slot->Option PV
 |.val pv=>aa pv
 |.own (.lst xs)=>aa (.lst xs)
 |_=>af
def aA(d:ae->R Slot):ae->R PV:=λε=>(d ε).bind λs ε1=>aC (iP s) ε1
def OC:Slot->Option PO
 |.own a=>aa a
 |_=>af
def tK(d:ae->R Slot):ae->R PO:=λb=>(d b).bind λs a=>aC (OC s) a
theorem DR.dn(h:DR X E e d):DN X E e (tK d):=λF S f i H Q u q=>by
 unfold tK at q;refine h F S f i H Q u ?_;cases b:d f with
 |no=>rw[b]at q;exact q.elim
 |er c o=>rw[b]at q;exact q
 |ok s n=>
  rw[b]at q;cases s with
  |none=>exact q.elim
  |val pv=>exact q.elim
  |own I=>intro G C D w z v B r A;obtain⟨a,rfl,y⟩:=r;exact q G C D w z a B y A
theorem DR.de(h:DR X E e d):DE X E e (aA d):=λF S ε f H Q i q=>by
 unfold aA at q;cases b:d ε with
 |no=>rw[b]at q;exact q.elim
 |er c n=>refine h F S ε f H Q i ?_;rw[b]at q ⊢;exact q
 |ok s ε1=>
  cases s with
  |none=>rw[b]at q;exact q.elim
  |val pv=>refine h F S ε f H Q i ?_;rw[b]at q ⊢;exact λD A B r w v I o G=>q D A B r w v o.1
  |own u=>
   refine h.dn.de F S ε f H Q i ?_;unfold dF tK;rw[b]at q ⊢;cases u with
   |lst xs=>exact q
   |dK a=>exact q
   |lls z=>exact q
   |dL z=>exact q
   |ins C fs=>exact q
   |dT a=>exact q
   |dN a=>exact q
   |inl C fs y xs=>exact q
def oQ(d:ae->R Slot):ae->R aH:=λε=>(d ε).bind λs a=>.ok (.ret s) a
theorem vX(C:DR X E e d):DS X E pin (.Return (aa e) pos) (oQ d):=λF S n f H D y h=>by
 refine eC (qo bA) (C F S n f H _ y ?_);unfold oQ at h;cases i:d n with
 |no=>rw[i]at h;exact h.elim
 |er c r=>rw[i]at h;exact λx O K M B G=>h x O K f M B G (iq.refl _ _)
 |ok s q=>rw[i]at h;intro N J L A a v I u o;exact h v N J f L I A ⟨a.fro,a.keep,a.there,a.fnew,λb z=>z.elim (a.onew b) λw=>.inr (o b w).1⟩ (iq.refl _ _) u λb z=>(o b z).2
def jl(d:ae->R Slot):ae->R aH:=λb=>(d b).bind λ_ a=>.ok .next a
theorem sK(o:DR X E e d)(n:ii e af pos.line X.env=pure aj:=by rfl):DS X E pin (.Expr e pos) (jl d):=λF S c a H D f h=>eC (qJ bA n) (o F S c a H _ f (h.bindE.imp λx b u r s i y q v A w z=>q u r a s i (bd.refl ..) (iq.refl _ _)))
end
end Pu
namespace L2
section
variable{X:Cx}{l:List (ac×Obj)}{i:St}{H:Hp}{s:ao}{d:eI}{x:Str}{j:List Str}{g:List Nat}
theorem MO{E m O:aD}{y:Str}{py J F:Pos}{G k:Nat}{N:V->Hp->St->Prop}{A:List aD}{wi:TI}{ts:TT}{te:TE}(B:jB X d x j g)(hk:k<=g.length)(hc:X.calm=ah)(hi:PI X O m wi)(fN:∀C r w Y P,PG (cQ X d j C r w Y P) O λv M H Q=>∃vs,vs.length=k+1/\M.length=j.length/\N v H vs/\Q (vs++M.drop (k+1)) H)(ht:∀C r w Y P,qO (cQ X d j C r w Y P) A ts) (he:∀C r w Y P,PE (cQ X d j C r w Y P) E te) (hN:X.N.Nodup) (vy:X.N[G]?=aa y) (p7:Loc X.env.scope y) (vz:ii (.ListComp E [⟨O,m,A,0⟩] d J) (aa (.Name y py)) F.line X.env=pure ah) (hf:X.fn y=ah\/X.env.scope.names.lookup y=aa .local) (hs:∀x,nc m X.env x=pure x):PS X (.Assign [.Name y py] (.ListComp E [⟨O,m,A,0⟩] d J) F) (λD i H=>Br wi N k ts te g i H λv H'=>D.nx (i.set G (aa v)) H'):=by
 intro l s i H D I h;rw[exec_Assign_Name_used _ _ _ _ vz];refine ax (wpAny_standAt (ax ?_));show aw _ X.A (do let _ <-comprehension (.ListComp E [⟨O,m,A,0⟩] d J) d X.env _ (newList []) aj (aK m X.env) (aa (assign (.Name y py) X.env))) _ _ s;refine ax (d4 (?_:aw _ X.A _ (λ_ s'=>SP X l D .next s') X.xe s) (λ_ s' hq=>aX (aX hq)) λ_ _ e=>e);refine Fz (use:=aa (assign (.Name y py) X.env)) B hk hc hi fN ht he hs I h λ{K s6 H3 H5 fp σ5 a f} Z f3 I6 q=>?_;obtain⟨mm,hn6,_⟩:=I6.loc;have J6:Inv X l i _ _:=Z.unblock f3 I6 (Heap.SameBut.refl _ _);have S:K.heap.objs.size≠X.env.locals:=λe=>absurd Z.lt (by rw[<-e];exact eX _);have T:∀z c,X.env.cells.lookup z=aa c->c≠K.heap.objs.size:=λz c e e2=>by obtain⟨vv,oo,ho,_⟩:=Z.cell z c e;exact absurd (bK ho) (by rw[e2];exact eX _)
 refine wpAny_assign_Name (Ft (v:=.ref a) J6 hN vy p7 rfl (λs7 I7 ⟨a7,sb7,ha7⟩=>?_) hf);have na7:K.heap.objs.size≠a7:=by
  rcases ha7 with z|z
  .rw[z];exact S
  .exact(T _ _ z).symm
 refine⟨mm,hn6.sameBut sb7 na7,λlV sb=>⟨_,_,?_,q⟩⟩;have W:H5 K.heap.objs.size=af:=I6.free;refine I7.call' (s':={s7 with heap:=lV}) (ch:=[K.heap.objs.size]) rfl ⟨λb o e n hb L=>?_,λb o e n hb L=>?_,λb o e n L=>n,λb o e L=>?_,λb xs e=>e,λb o u e=>e,λb ps e=>e⟩ ?_ I7.bare λb hb=>?_
 .exact(sb.2 b (by simpa using L)).trans e
 .exact⟨o.slots,(sb.2 b (by simpa using L)).trans (by simpa using e)⟩
 .exact⟨o,(sb.2 b (by simpa using L)).trans e⟩
 .intro b u e;refine(I7.hok b u e).stay (λc v hc q=>(sb.2 c ?_).trans q) (λ_ q=>q) λ_ _ q=>q;rintro rfl;rcases hc with z|z
  .rw[<-z,W]at e;cases e
  .rw[W]at z;cases z
 .have e:b=K.heap.objs.size:=by simpa using hb
  subst e;refine⟨.inr Z.sz,S,T,λp hp e2=>?_⟩;obtain⟨e3,_⟩:=Z.pin p hp;exact absurd (bK e3) (by rw[e2];exact eX _)
theorem QX{n a:aD}{y:Str}{p u o f:Pos}{h:Nat}{m:List aD}{wi:TI}{ts:TT}{te:TE}(B:jB X d x j g)(K:X.calm=ah)(G:PI X (.Name x p) a wi)(E:∀C b c r q,qO (cQ X d j C b c r q) m ts) (J:∀C b c r q,PE (cQ X d j C b c r q) n te) (L:X.N.Nodup) (z:X.N[h]?=aa y) (A:Loc X.env.scope y) (w:ii (.ListComp n [⟨.Name x p,a,m,0⟩] d o) (aa (.Name y u)) f.line X.env=pure ah) (I:X.fn y=ah\/X.env.scope.names.lookup y=aa .local) (F:∀x,nc a X.env x=pure x):PS X (.Assign [.Name y u] (.ListComp n [⟨.Name x p,a,m,0⟩] d o) f) (λD i H=>Bq wi ts te g i H λv M=>D.nx (i.set h (aa v)) M):=MO B (jJ _) K G (CJ B) E J L z A w I F
end
end L2
namespace Pu
open L2
def cZ(ε:ae):List Nat->Option (List bQ)
 |[]=>aa []
 |j::cap=>match ε[j]? with
  |some (.val pv)=>(cZ ε cap).map (.inl pv::·)
  |some (.own _)=>(cZ ε cap).map (.inr j::·)
  |_=>af
def ci{b:Type}(cap:List Nat)(d:ae->R b)(x:PV):ae->R b:=λε=>(aC (cZ ε cap) ε).bind λa _=>(aC (if(br a).Nodup then bU ε (.inl x::a)else af) ε).bind λc _=>cc ε (.inl x::a) (d c)
def bn{a:Type}(r:R a):R a:=match r with
 |.er _ _=>.no
 |r=>r
def iN(cap:List Nat)(dt:ae->R Bool)(de:ae->R PV):List PV->List PV->ae->R (List PV)
 |[],b,ε=>.ok b ε
 |x::xs,b,ε=>(bn (ci cap dt x ε)).bind λk a=>match k with
  |true=>(bn (ci cap de x a)).bind λy c=>iN cap dt de xs (b++[y]) c
  |false=>iN cap dt de xs b a
def bT(cap:List Nat)(c:ae->R (List PV))(dt:ae->R Bool)(de:ae->R PV):ae->R PO:=λε=>(c ε).bind λxs ε1=>(iN cap dt de xs [] ε1).bind λb a=>.ok (.lst b) a
theorem yY{K:au}{F:ac->Prop}{S:Nat->ac->Prop}{f:ae}{d:St}{H:Hp}(r:aM K F S f d H):∀{b:List Nat}{i:List bQ},cZ f b=aa i->∃c,fh K d F H i c/\iw d b=c.map aa
 |[],i,h=>by cases h;exact⟨[],rfl,rfl⟩
 |j::b,i,h=>by
  unfold cZ at h;split at h
  .rename_i pv e;cases q:cZ f b with
   |none=>rw[q]at h;cases h
   |some bs=>
    rw[q]at h;cases h;obtain⟨c,m,l⟩:=yY r q;obtain⟨v,g,n⟩:=r.val j pv e;refine⟨v::c,⟨v,c,rfl,n,m⟩,?_⟩;show(d[j]?).join::iw d b=_;rw[g,l];rfl
  .rename_i o e;cases q:cZ f b with
   |none=>rw[q]at h;cases h
   |some bs=>
    rw[q]at h;cases h;obtain⟨c,m,l⟩:=yY r q;obtain⟨a,g,n⟩:=r.own j o e;refine⟨.ref a::c,⟨_,c,rfl,g,m⟩,?_⟩;show(d[j]?).join::iw d b=_;rw[g,l];rfl
  .cases h
theorem CQ{K:au}{E:XK}{F:ac->Prop}{S:Nat->ac->Prop}{s:ae}{f:St}{H:Hp}{G:Type}{b:List Nat}{d:ae->R G}{x:PV}{v:V}{C:G->ae->(ac->Prop)->(Nat->ac->Prop)->Hp->Prop}(r:aM K F S s f H) (N:aZ K H F x v) (h:Ok K E f F S H (bn (ci b d x s)) C):∃L l,aM K F L l (aa v::iw f b) H/\Ok K E0 (aa v::iw f b) F L H (d l) (λa _ q _ p=>∃j w,aM K q w j f p/\bd (U S) (U w) F q H p/\C a j q w p):=by
 unfold ci at h;cases B:cZ s b with
 |none=>rw[B]at h;exact h.elim
 |some g=>
  rw[B]at h;simp only[cK,R.bind_ok]at h;by_cases nd:(br g).Nodup
  .rw[if_pos nd]at h;cases u:bU s (.inl x::g)with
   |none=>rw[u]at h;exact h.elim
   |some l=>
    rw[u]at h;simp only[cK,R.bind_ok]at h;obtain⟨y,T,Q⟩:=yY r B;have o:fh K f F H (.inl x::g) (v::y):=⟨v,y,rfl,N,T⟩
    have n:aa v::iw f b=(v::y).map aa:=by rw[Q];rfl
    have m:(br (.inl x::g)).Nodup:=nd;refine⟨lJ (.inl x::g) S,l,by rw[n];exact r.cal o u m,?_⟩;rw[n];cases A:d l with
    |no=>rw[A]at h;exact h.elim
    |er c D=>
     rw[A]at h;unfold cc at h;dsimp only at h;by_cases i:cb (.inl x::g) D=ah
     .rw[if_pos i]at h;exact h.elim
     .rw[if_neg i]at h;exact h.elim
    |ok a D=>
     rw[A]at h;intro q w p O P;unfold cc at h;dsimp only at h;by_cases i:cb (.inl x::g) D=ah
     .rw[if_pos i]at h;obtain⟨M,I,J,_⟩:=r.called o u m O P (λ_ z=>z) (mB i);exact⟨_,M,I,J,h q M p I J⟩
     .rw[if_neg i]at h;exact h.elim
  .rw[if_neg nd]at h;exact h.elim
def wY(X:Cx)(a:List aD):TT:=λb H Q=>Bx (∀d s,Inv X d b H s->aw (aE X.prog X.w) X.A (forIn a ah λc r=>if r=ah then do let ok <-m9 c X.env (aK c X.env);pure (ForInStep.yield ok)else pure (ForInStep.yield r)) (TP X d b Q) X.xe s)
def DF(X:Cx)(E:XK)(c:List aD)(d:ae->R Bool):Prop:=∀F S f a H Q,aM X.K F S f a H->Ok X.K E a F S H (d f) (λb _ _ _ g=>Q b g)->wY X c a H Q
def dy:ae->R Bool:=λε=>.ok ah ε
theorem nH{X:Cx}{E:XK}:DF X E [] dy:=λF S d a H Q b h=>⟨λc s I=>LB c s a H Q I (h F S H b (bd.refl ..))⟩
theorem mF{X:Cx}{E:XK}{c:aD}{d:ae->R Bool}(h:DT X E c d):DF X E [c] d:=λF S b a H Q f q=>⟨λg s I=>RG mE g s a H Q I (h F S b a H Q f q)⟩
theorem Ok.bindB{K:au}{E:XK}{b:St}{F s:ac->Prop}{S n:Nat->ac->Prop}{H p:Hp}{j i:Type}{D:i->ae->(ac->Prop)->(Nat->ac->Prop)->Hp->Prop}{r:R j}{k:j->ae->R i}(h:Ok K E b F S H (r.bind k) D)(g:bd (U S) (U n) F s H p):Ok K E b s n p r (λa d _ _ _=>Ok K E b F S H (k a d) D):=by
 cases r with
 |no=>exact h
 |er c f=>exact λx u o q l m=>h x u o q l (g.trans m)
 |ok a f=>exact λu o q l m=>h
section
variable{X:Cx}{E:XK}{c:eI}{x:Str}{N':List Str}{cap:List Nat}
theorem bd.stay{O a F F':ac->Prop}{H H':Hp}(g:bd O a F F' H H'){l:ac}{o:HO}(e:H l=aa o)(n:¬O l)(b:¬F l):H' l=aa o/\¬F' l/\¬a l :=
 ⟨g.keep l o e n,λz=>(g.fnew l z).elim b λw=>w.elim (λq=>by rw[e]at q;cases q) n,λz=>(g.onew l z).elim n λq=>by rw[e]at q;cases q⟩
theorem aM.lay{K:au}{F:ac->Prop}{S:Nat->ac->Prop}{h:ae}{g:St}{H:Hp}{l:ac}{o o':HO}(r:aM K F S h g H)(v:H l=aa o)(no:cN o)(u:¬F l)(nS:¬U S l):bd (λb=>U S b\/b=l) (U S) F F H (L2.upd H l o')/\Fit (λb=>U S b\/b=l) F H/\aM K F S h g (L2.upd H l o'):=by
 have f:bd (λb=>U S b\/b=l) (U S) F F H (L2.upd H l o'):=⟨λ_ z=>z,λb o e n=>by rw[bo λz=>n (.inr z)];exact e,λb o e=>by
  by_cases i:b=l
  .subst i;exact⟨_,bW⟩
  .exact⟨o,by rw[bo i];exact e⟩,λ_ z=>.inl z,λ_ z=>.inl (.inl z)⟩
 have ft:Fit (λb=>U S b\/b=l) F H:=λb z=>by
  rcases z with z|rfl
  .exact r.fit b z
  .exact⟨u,_,v,no⟩
 refine⟨f,ft,r.len,λb z=>let ⟨o,q⟩:=r.ex b z;f.there b o q,λj pv e=>?_,λj s e=>?_,λj b z=>?_,r.dist⟩
 .obtain⟨w,d,a⟩:=r.val j pv e;exact⟨w,d,a.grow f ft⟩
 .obtain⟨w,d,a⟩:=r.own j s e;refine⟨w,d,a.mono (λ_ _ q=>q.grow f ft) (λ_ _ q=>q.grow f ft) λb o z q=>?_⟩;rw[bo (by rintro rfl;exact nS ⟨j,z⟩)];exact q
 .obtain⟨d,a,o,p,m⟩:=r.foot j b z;exact⟨d,a,o,by rw[bo (by rintro rfl;exact nS ⟨j,z⟩)];exact p,m⟩
theorem bd.lay{O d F h:ac->Prop}{H f:Hp}{l:ac}{o':HO}(g:bd O d F h H f)(a:H l=af):bd O d F h H (L2.upd f l o'):=by
 refine⟨g.fro,λb o e n=>?_,λb o e=>?_,g.fnew,g.onew⟩
 .rw[bo (by rintro rfl;rw[a]at e;cases e)];exact g.keep b o e n
 .obtain⟨i,q⟩:=g.there b o e;exact⟨i,by rw[bo (by rintro rfl;rw[a]at e;cases e)];exact q⟩
theorem Ez{elt A:aD}{px:Pos}{ifs:List aD}{di:ae->R (List PV)}{dt:ae->R Bool}{de:ae->R PV}(hi:DI X E (.Name x px) A di)(ht:∀C d f r p,DF (cQ X c N' C d f r p) E0 ifs dt) (he:∀C d f r p,DE (cQ X c N' C d f r p) E0 elt de){F:ac->Prop}{S:Nat->ac->Prop}{ε:ae}{j:St}{H:Hp}{Q:VK} (rl:aM X.K F S ε j H) (h:Ok X.K E j F S H (bT cap di dt de ε) (λpo _ s L g=>∀a Sa,eu X.K g s po a Sa->(∀b,Sa b->H b=af/\¬s b/\¬U L b/\∃o,g b=aa o/\cN o)->Q (.ref a) g)):Bq (ro X (.Name x px) A) (λj H Q=>∀C d f r p,wY (cQ X c N' C d f r p) ifs j H Q) (λj H Q=>∀C d f r p,iV (cQ X c N' C d f r p) elt j H Q) cap j H Q:=by
 refine hi F S ε j H _ rl ((Ok.bind h).imp λxs ε1 N S1 H1 r1 g1 h1 J vs RR rs hz hw keep l hl=>?_);have h1:=h1.bind;have hvl:vs.length=xs.length:=rs.len;have a0:Al N N H1 (upd H1 l (.lst [])):=Al.new0 hl;have nF1:¬N l:=λz=>by obtain⟨o,q⟩:=r1.ex l z;rw[hl]at q;cases q
 have nS1:¬U S1 l:=λ⟨i,z⟩=>by obtain⟨_,_,o,q,_⟩:=r1.foot i l z;rw[hl]at q;cases q
 have hH:H l=af:=lz g1 hl;refine⟨λi m D g=>m=xs.length-i/\i<=xs.length/\∃s L Y P,aM X.K s L Y j g/\bd (U S1) (U L) N s H1 g/\g l=aa (.lst D)/\¬s l/\¬U L l/\bc X.K g s P D/\D.length<=i /\ Ok X.K E j N S1 H1 (iN cap dt de (xs.drop i) P Y) (λys' w T S2 M=>Ok X.K E j T S2 M (R.ok (PO.lst ys') w) (λpo _ s L g=>∀a Sa,eu X.K g s po a Sa->(∀b,Sa b->H b=af/\¬s b/\¬U L b/\∃o,g b=aa o/\cN o)->Q (.ref a) g)),⟨_,rfl,jJ _,N,S1,ε1,[],r1.al a0,a0.grow,bW,nF1,nS1,rfl,bB _,h1⟩,?_⟩;rintro i m D M ⟨rfl,hi,T,S2,w,P,O,K,el,nF2,nS2,n,hyl,q2⟩;have RH:=keep S2 T M K;by_cases cz:i<xs.length
 .obtain⟨v,hv⟩:∃v,vs[i]?=aa v:=⟨_,e_ ∅⟩
  obtain⟨go,yl⟩:=(hw M RH i).1 v hv;refine .inr ⟨go,λv' g y=>⟨[aa v'],rfl,rfl,?_⟩⟩;obtain⟨e1,e2⟩:=yl v' g y;subst e1 e2;obtain⟨px',hx,rx⟩:=rs.back hv;have ed:xs.drop i=px'::xs.drop (i+1):=by rw[B1 cz];congr 1;exact(cF.mp hx).2
  rw[ed]at q2;have Z:=rx.grow K r1.fit;have q3:=Ok.bindB q2 K;obtain⟨Sb,ss,rb,okb⟩:=CQ O Z q3;intro C d f r p;refine ht C d f r p T Sb ss _ g _ rb (okb.imp λb _ F3 _ H3 _ _ ⟨W,S3,r3,I,q4⟩=>?_);obtain⟨el3,nF3,nS3⟩:=I.stay el nS2 nF2;cases b with
  |false=>exact nK ⟨_,∅,rfl,cz,F3,S3,W,P,r3,K.trans I,el3,nF3,nS3,n.grow I O.fit,∅,q4⟩
  |true=>refine nY ?_;have q5:Ok X.K E j N S1 H1 ((bn (ci cap de px' W)).bind λy w=>iN cap dt de (xs.drop (i+1)) (P++[y]) w) _:=q4;obtain⟨Sc,sc,rc,okc⟩:=CQ r3 (Z.grow I O.fit) (Ok.bindB q5 (K.trans I));intro C d f r p;refine he C d f r p F3 Sc sc _ H3 _ rc (okc.imp λy _ F4 _ H4 _ _ ⟨ε4,S4,r4,g4,q6⟩ u ru=>?_);obtain⟨el4,nF4,nS4⟩:=g4.stay el3 nS3 nF3;have G:=(n.grow I O.fit).grow g4 r3.fit;obtain⟨gl,B,r5⟩:=r4.lay (o':=.lst (D++[u])) el4 trivial nF4 nS4;have g5:=((K.trans I).trans g4).lay (o':=.lst (D++[u])) hl;refine⟨el4,?_,_,∅,rfl,cz,F4,S4,ε4,P++[y],r5,g5,bW,nF4,nS4,(G.grow gl B).app (.one (ru.grow gl B)),by simp;lia,q6⟩;lia
 .have e:i=xs.length:=∅
  subst e;refine .inl ⟨(hw M RH _).2 hvl.symm,?_⟩;rw[B2]at q2;exact q2 T S2 M O K T S2 M O (bd.refl ..) l (λb=>b=l) ⟨⟨D,el,n⟩,λb=>pT⟩ λb z=>by subst z;exact⟨hH,nF2,nS2,_,el,trivial⟩
theorem iT{j d:aD}{m pos:Pos}{i:List aD}{o:ae->R (List PV)}{dt:ae->R Bool}{de:ae->R PV}(B:jB X c x N' cap)(w:X.calm=ah)(u:DI X E (.Name x m) d o)(q:∀C a b g f,DF (cQ X c N' C a b g f) E0 i dt) (v:∀C a b g f,DE (cQ X c N' C a b g f) E0 j de) (r:∀x,nc d X.env x=pure x:=by intro _;rfl):DN X E (.ListComp j [⟨.Name x m,d,i,0⟩] c pos) (bT cap o dt de):=λF S y l H Q p h=>bV (MC (wi:=ro X (.Name x m) d) (ts:=λl H Q=>∀C a b g f,wY (cQ X c N' C a b g f) i l H Q) (te:=λl H Q=>∀C a b g f,iV (cQ X c N' C a b g f) j l H Q) (pos:=pos) B w uw (λC a b g f n s l H Q I h=>(h C a b g f).run n s I) (λC a b g f n s l H Q I h=>(h C a b g f).run n s I) r) (Ez u q v p h)
end
theorem JP(x y:Tx):tS x++tS y=tS (x++y):=by
 show(⟨x.toArray++y.toArray⟩:Str)=⟨(x++y).toArray⟩
 simp
def bj:PV->PV->Option PV
 |.int i,.int j=>aa (.int (i+j))
 |.str x,.str y=>if(x++y).length<=bH then aa (.str (x++y))else af
 |.tup xs,.tup a=>if xs≠[]/\a≠[]/\xs.length+a.length<=1000 then aa (.tup (xs++a))else af
 |.lst xs,.lst a=>if xs.length+a.length<=bH then aa (.lst (xs++a))else af
 |_,_=>af
def fI:PV->PV->Option PV
 |.int i,.int j=>aa (.int (i-j))
 |_,_=>af
def ui(i:Int):Bool:=decide (-(2^64)<i/\i<2^64)
def kM:PV->PV->Option PV
 |.int i,.int j=>if ui i||ui j then aa (.int (i*j))else af
 |.str x,.int j=>if 0<=j/\j<=100/\x.length<=100 then aa (.str (cX j.toNat x).flatten)else af
 |_,_=>af
def ir:PV->PV->Option PV
 |.int i,.int j=>if 0<j then aa (.int (i % j))else af
 |_,_=>af
def tq:PV->PV->Option PV
 |.int i,.int j=>if 0<=j/\j<=1000000/\i.natAbs<2^64 then aa (.int (i^j.toNat))else af
 |_,_=>af
def fQ:PV->Option PV
 |.int i=>aa (.int (-i))
 |_=>af
def EV:R2:=λx y H Q=>∃l b xs a,x=.ref l/\y=.ref b/\Rd H l (.lst xs)/\Rd H b (.lst a)/\xs.length+a.length<=bi/\∀p,H p=af->Q (.ref p) (upd H p (.lst (xs++a)))
def D_(K:au):R2:=λx y H Q=>((lq λi j=>V.int (i+j)) x y H Q\/∃i j,x=.str i/\y=.str j/\i.length+j.length<=bi/\Q (.str (i++j)) H)\/(Du K x y H Q\/EV x y H Q)
def E8:R2:=λx y H Q=>rI Ay (λi j=>.int (i*j)) x y H Q\/∃(z:Tx) (n:Nat),x=tV z/\y=.int n/\n<=100/\z.length<=100/\Q (tV (cX n z).flatten) H
section
variable{X:Cx}{K:au}
theorem oO:P2 K (lq λi j=>.int (i-j)) fI:=λF H x y v u Q pv b a e q=>by
 unfold fI at e;split at e
 .cases e;exact⟨_,_,b,a,q _ F H (Al.refl ..) rfl⟩
 .cases e
theorem ux:P2 K (rI (λ_ j=>0<j) λi j=>.int (i % j)) ir:=λF H x y v u Q pv b a e q=>by
 unfold ir at e;split at e
 .split at e
  .cases e;exact⟨_,_,b,a,by assumption,q _ F H (Al.refl ..) rfl⟩
  .cases e
 .cases e
theorem RI:P2 K (rI D5 λi j=>.int (i^j.toNat)) tq:=λF H x y v u Q pv b a e q=>by
 unfold tq at e;split at e
 .split at e
  .cases e;exact⟨_,_,b,a,by assumption,q _ F H (Al.refl ..) rfl⟩
  .cases e
 .cases e
theorem rk:P1 K (rU λi=>.int (-i)) fQ:=λF H x v Q pv a e q=>by
 unfold fQ at e;split at e
 .cases e;exact⟨_,a,q _ F H (Al.refl ..) rfl⟩
 .cases e
theorem AQ{c:List (ac×Obj)}{b:St}{H:Hp}{s:ao}{l:ac}{xs:List V}(I:Inv X c b H s)(h:Rd H l (.lst xs)):∃(a:List ai) (n:Nat),bD xs a/\s.heap.get? l=aa {cls:=.type "list",data:=.seq a.toArray n}/\xs.length<=bi:=by obtain⟨z,a,n,r,e⟩:=h.ok I.hok;exact⟨a,n,r,e,z⟩
theorem K2:cf X (jH .Add) EV:=by
 intro C s p H x y v u Q I i g h;obtain⟨l,b,xs,w,rfl,rfl,f,j,B,q⟩:=h;cases i;cases g;obtain⟨c,n,r,e,_⟩:=AQ I f;obtain⟨a,z,d,o,_⟩:=AQ I j;have f:=r.length;have A:=d.length;refine PySem.P.add_list e o ?_ (by rw[cR,cR];lia);have m:c.toArray++a.toArray=(c++a).toArray:=by simp
 rw[m];exact⟨.ref _,_,I.lnew (t':=s.toks) (r.append d) (by rw[eZ];lia),rfl,q _ I.fresh⟩
theorem fH:cf X (jH .Add) (D_ X.K):=(Su.or KJ).or (Sl.or K2)
theorem fA:P2 K (D_ K) bj:=λF H x y v u Q pv l j e q=>by
 unfold bj at e;split at e
 .cases e;exact .inl (.inl ⟨_,_,l,j,q _ F H (Al.refl ..) rfl⟩)
 .rename_i x y;split at e
  .rename_i c;cases e;refine .inl (.inr ⟨_,_,l.1,j.1,?_,?_⟩)
   .rw[lH,lH];rw[eZ]at c;exact d3 c jf
   .exact q _ F H (Al.refl ..) ⟨by rw[JP];rfl,c⟩
  .cases e
 .rename_i xs s;split at e
  .rename_i c;cases e;obtain⟨a,n,rfl,r,f⟩:=l;obtain⟨b,m,rfl,o,d⟩:=j;have h:=f.len;have g:=d.len;refine .inr (.inl ⟨a,b,n,m,rfl,rfl,dj.of r,dj.of o,λz=>c.1 (by rw[z]at h;exact yt h.symm),by rw[h,g];exact z6 c.2.2,λz=>absurd (by rw[z]at g;exact yt g.symm) c.2.1,λ_ p i=>?_⟩);exact q _ F _ (Al.new0 i) ⟨p,_,rfl,bW,(Al.new0 i).reps (f.app d)⟩
  .cases e
 .rename_i xs s;split at e
  .rename_i c;cases e;obtain⟨a,n,rfl,r,A,f⟩:=l;obtain⟨b,m,rfl,o,w,d⟩:=j;have h:=f.len;have g:=d.len;refine .inr (.inr ⟨a,b,n,m,rfl,rfl,r,o,by rw[h,g];exact d3 c jf,λp i=>?_⟩);exact q _ _ _ (Al.new i) ⟨p,_,rfl,.inl bW,.inr rfl,(Al.new i).reps (f.app d)⟩
  .cases e
 .cases e
theorem Ae:cf X (jH .Mult) E8:=Se.or Og
theorem zP:P2 K E8 kM:=λF H x y v u Q pv b a e q=>by
 unfold kM at e;split at e
 .rename_i i j;split at e
  .rename_i h;cases e;refine .inl ⟨_,_,b,a,?_,q _ F H (Al.refl ..) rfl⟩;rw[pO]at h;exact h.imp of_decide_eq_true of_decide_eq_true
  .cases e
 .rename_i x j;split at e
  .rename_i h;cases e;refine .inr ⟨x,j.toNat,b.1,?_,∅,h.2.2,q _ F H (Al.refl ..) ⟨rfl,?_⟩⟩
   .rw[show u=V.int j from a];congr 1;lia
   .rw[M_];have c:j.toNat<=100:=∅
    exact d3 (Nat.mul_le_mul c h.2.2) (by decide)
  .cases e
 .cases e
def bI(f:Int->Int->Bool):PV->PV->Option PV
 |.int i,.int j=>aa (.bl (f i j))
 |_,_=>af
theorem gC{f:Int->Int->Bool}:P2 K (lq λi j=>.bl (f i j)) (bI f):=λF H x y v u Q pv b a e q=>by
 unfold bI at e;split at e
 .cases e;exact⟨_,_,b,a,q _ F H (Al.refl ..) rfl⟩
 .cases e
def c_:PV->Option V
 |.non=>aa .non
 |.bl b=>aa (.bl b)
 |.int i=>aa (.int i)
 |.str x=>aa (tV x)
 |_=>af
theorem jb{H:Hp}{F:ac->Prop}{x:PV}{v w:V}(r:aZ K H F x v)(e:c_ x=aa w):v=w:=by
 cases x <;> simp[c_]at e <;> subst e
 .exact r
 .exact r
 .exact r
 .exact r.1
theorem qa{x:PV}{w:V}(e:c_ x=aa w):gb w=ah:=by
 cases x <;> simp[c_]at e <;> subst e <;> rfl
mutual
def cV:PV->PV->Option Bool
 |.tup xs,y=>match y with
  |.tup a=>eO xs a
  |_=>af
 |.lst xs,y=>match y with
  |.lst a=>eO xs a
  |_=>af
 |.non,y=>(c_ y).map (dX .non)
 |.bl b,y=>(c_ y).map (dX (.bl b))
 |.int i,y=>(c_ y).map (dX (.int i))
 |.str x,y=>(c_ y).map (dX (tV x))
 |.raw _,_=>af
 |.exc _,_=>af
def eO:List PV->List PV->Option Bool
 |[],c=>aa c.isEmpty
 |x::xs,c=>match c with
  |[]=>aa aj
  |y::c=>(cV x y).bind λa=>(eO xs c).map λb=>a&&b
end
mutual
def gQ:PV->Nat
 |.tup xs=>eG xs+1
 |.lst xs=>eG xs+1
 |_=>0
def eG:List PV->Nat
 |[]=>0
 |x::xs=>max (gQ x) (eG xs)
end
theorem Gi{H:Hp}{d a:Nat}{x y:V}{k:Bool}(h:iK K H d x y k)(l:d<=a):iK K H a x y k:=λX g i b s u v A I f c j=>h X g i b s u v A I f c ∅
theorem wZ{H:Hp}{F:ac->Prop}{w:V}{y:PV}{u:V}{k:Bool}{d:Nat}(b:gb w=ah)(e:(c_ y).map (dX w)=aa k)(a:aZ K H F y u):iK K H d w u k:=by
 cases q:c_ y with
 |none=>rw[q]at e;cases e
 |some z=>
  rw[q]at e;cases e;rw[jb a q];exact Jc b (qa q)
theorem IC{H:Hp}{a:ac}{xs b:List V}(h:Rd H a (.lst xs))(g:Rd H a (.lst b)):xs=b:=by
 rcases h with h|⟨o,h⟩ <;> rcases g with g|⟨c,g⟩ <;> rw[h]at g <;> cases g <;> rfl
theorem Rp{a:Bool}{e:Nat->Bool}{n m:Nat}:gy (λj=>if j=0 then a else e (j-1)) (n+1) (m+1)=(a&&gy e n m):=by
 unfold gy;rw[show min (n+1) (m+1)=min n m+1 by lia,BS,rV,yo,if_pos rfl,Bool.and_assoc];congr 1;congr 1
 .simp
mutual
theorem zW{H:Hp}{F:ac->Prop}:∀(x y:PV) {v:V}{k:Bool},cV x y=aa k->aZ K H F x v->aZ K H F y v->k=ah
 |.tup xs,y,v,k,e,d,c=>by
  unfold cV at e;split at e
  .obtain⟨a,m,rfl,i,f⟩:=d;obtain⟨b,l,j,g,h⟩:=c;cases j;rw[i]at g;cases g;exact AH xs _ e f h
  .cases e
 |.lst xs,y,v,k,e,d,c=>by
  unfold cV at e;split at e
  .obtain⟨a,m,rfl,i,_,f⟩:=d;obtain⟨b,l,j,g,_,h⟩:=c;cases j;rw[IC i g]at f;exact AH xs _ e f h
  .cases e
 |.non,y,v,k,e,d,c=>by
  unfold cV at e;cases q:c_ y with
  |none=>rw[q]at e;cases e
  |some z=>rw[q]at e;cases e;rw[<-jb c q,show v=V.non from d];rfl
 |.bl b,y,v,k,e,d,c=>by
  unfold cV at e;cases q:c_ y with
  |none=>rw[q]at e;cases e
  |some z=>rw[q]at e;cases e;rw[<-jb c q,show v=V.bl b from d];exact beq_self_eq_true b
 |.int b,y,v,k,e,d,c=>by
  unfold cV at e;cases q:c_ y with
  |none=>rw[q]at e;cases e
  |some z=>rw[q]at e;cases e;rw[<-jb c q,show v=V.int b from d];exact beq_self_eq_true b
 |.str b,y,v,k,e,d,c=>by
  unfold cV at e;cases q:c_ y with
  |none=>rw[q]at e;cases e
  |some z=>rw[q]at e;cases e;rw[<-jb c q,show v=tV b from d.1];exact beq_self_eq_true (tS b)
 |.raw _,_,_,_,e,_,_=>by unfold cV at e;cases e
 |.exc _,_,_,_,e,_,_=>by unfold cV at e;cases e
theorem AH{H:Hp}{F:ac->Prop}:∀(xs c:List PV) {d:List V}{k:Bool},eO xs c=aa k->bc K H F xs d->bc K H F c d->k=ah
 |[],c,d,k,e,h,f=>by
  unfold eO at e;rw[show d=[] from h]at f;have:=f.len;cases c with
  |nil=>cases e;rfl
  |cons=>simp at this
 |x::xs,c,d,k,e,h,f=>by
  unfold eO at e;obtain⟨v,r,rfl,l,j⟩:=h;cases c with
  |nil=>have:=f.len;simp at this
  |cons y c=>
   obtain⟨p,q,o,n,m⟩:=f;cases o;simp only at e;cases g:cV x y with
   |none=>rw[g]at e;cases e
   |some a=>
    cases i:eO xs c with
    |none=>rw[g,i]at e;cases e
    |some b=>
     rw[g,i]at e;cases e;rw[zW x y g l n,AH xs c i j m];rfl
end
mutual
theorem RJ{H:Hp}{F:ac->Prop}:∀(x y:PV) {v u:V}{k:Bool},cV x y=aa k->aZ K H F x v->aZ K H F y u->iK K H (gQ x) v u k
 |.tup xs,y,v,u,k,e,d,c=>by
  have o:=e;unfold cV at e;split at e
  .rename_i h;obtain⟨a,q,rfl,n,j⟩:=id d;obtain⟨b,p,rfl,m,i⟩:=id c;by_cases g:a=b
   .subst g;rw[zW _ _ o d c];exact CP
   .obtain⟨f,l,rfl⟩:=tR xs h e j i;unfold gQ;exact Ka (dj.of n) (dj.of m) g l
  .cases e
 |.lst xs,y,v,u,k,e,d,c=>by
  have o:=e;unfold cV at e;split at e
  .rename_i h;obtain⟨a,q,rfl,n,_,j⟩:=id d;obtain⟨b,p,rfl,m,_,i⟩:=id c;by_cases g:a=b
   .subst g;rw[zW _ _ o d c];exact CP
   .obtain⟨f,l,rfl⟩:=tR xs h e j i;unfold gQ;exact HH (.inl n) (.inl m) g l
  .cases e
 |.non,y,v,u,k,e,d,c=>by unfold cV at e;rw[show v=V.non from d];exact wZ rfl e c
 |.bl b,y,v,u,k,e,d,c=>by unfold cV at e;rw[show v=V.bl b from d];exact wZ rfl e c
 |.int b,y,v,u,k,e,d,c=>by unfold cV at e;rw[show v=V.int b from d];exact wZ rfl e c
 |.str b,y,v,u,k,e,d,c=>by unfold cV at e;rw[show v=tV b from d.1];exact wZ rfl e c
 |.raw _,_,_,_,_,e,_,_=>by unfold cV at e;cases e
 |.exc _,_,_,_,_,e,_,_=>by unfold cV at e;cases e
theorem tR{H:Hp}{F:ac->Prop}:∀(xs c:List PV) {d g:List V}{k:Bool},eO xs c=aa k->bc K H F xs d->bc K H F c g -> ∃f:Nat->Bool,(∀(j:Nat) x y,d[j]?=aa x->g[j]?=aa y->iK K H (eG xs) x y (f j))/\k=gy f d.length g.length
 |[],c,d,g,k,e,m,i=>by
  unfold eO at e;rw[show d=[] from m];refine⟨λ_=>ah,λj x y h=>by simp at h,?_⟩;have:=i.len;cases e;unfold gy;cases c with
  |nil=>simp at this;simp[this]
  |cons=>rw[this];simp
 |x::xs,c,d,g,k,e,m,i=>by
  unfold eO at e;obtain⟨v,r,rfl,A,z⟩:=m;cases c with
  |nil=>
   cases e;rw[show g=[] from i];exact⟨λ_=>ah,λj x y _ h=>by simp at h,by simp[gy]⟩
  |cons y c=>
   obtain⟨u,D,rfl,C,B⟩:=i;simp only at e;cases l:cV x y with
   |none=>rw[l]at e;cases e
   |some a=>
    cases n:eO xs c with
    |none=>rw[l,n]at e;cases e
    |some b=>
     rw[l,n]at e;cases e;obtain⟨f,w,rfl⟩:=tR xs c n z B;refine⟨λj=>if j=0 then a else f (j-1),λj p q s o=>?_,by rw[fL,fL,Rp]⟩;cases j with
     |zero=>simp at s o;subst s o;show iK K H _ _ _ (if(0:Nat)=0 then a else f (0-1));rw[if_pos rfl];exact Gi (RJ x y l A C) (by unfold eG;exact Nat.le_max_left _ _)
     |succ j=>show iK K H _ _ _ (if j+1=0 then a else f (j+1-1));rw[if_neg ∅];exact Gi (w j p q (by simpa using s) (by simpa using o)) (show eG xs<=max (gQ x) (eG xs)from Nat.le_max_right _ _)
end
def eqT(neg:Bool)(x y:PV):Option PV:=match c_ x,c_ y with
 |some v,aa u=>if o8 v u then aa (.bl (neg^^decide (v=u)))else af
 |none,af=>if gQ x<=8 then(cV x y).map λk=>.bl (neg^^k)else af
 |_,_=>af
def FE(K:au):R2:=λx y H Q=>EZ x y H Q\/sX K aj x y H Q
def CK(K:au):R2:=λx y H Q=>Ed x y H Q\/sX K ah x y H Q
theorem gE(a:X.A.units+64<cLine):cf X (d7 .Eq) (FE X.K):=Sn.or (HZ a)
theorem me(a:X.A.units+64<cLine):cf X (d7 .NotEq) (CK X.K):=SG.or (OL a)
theorem FF{H:Hp}{F:ac->Prop}{x y:PV}{v u:V}{k:Bool}{Q:VK}{neg:Bool}(g:c_ x=af)(e:cV x y=aa k)(A:gQ x<=8)(w:aZ K H F x v)(s:aZ K H F y u)(q:Q (.bl (neg^^k)) H):sX K neg v u H Q:=by
 have c:∀{d:Bool},k=d->Q (.bl (if neg=ah then !d else d)) H:=λ{d} z=>by subst z;cases neg <;> simpa using q
 cases x with
 |tup xs=>
  unfold cV at e;split at e
  .rename_i h;obtain⟨a,j,rfl,p,m⟩:=w;obtain⟨b,i,rfl,o,l⟩:=s;obtain⟨f,n,r⟩:=tR xs h e m l;unfold gQ at A;exact⟨a,b,j,i,eG xs,f,rfl,rfl,.inr ⟨dj.of p,dj.of o⟩,∅,n,c r⟩
  .cases e
 |lst xs=>
  unfold cV at e;split at e
  .rename_i h;obtain⟨a,j,rfl,p,_,m⟩:=w;obtain⟨b,i,rfl,o,_,l⟩:=s;obtain⟨f,n,r⟩:=tR xs h e m l;unfold gQ at A;exact⟨a,b,j,i,eG xs,f,rfl,rfl,.inl ⟨.inl p,.inl o⟩,∅,n,c r⟩
  .cases e
 |raw _=>unfold cV at e;cases e
 |exc _=>unfold cV at e;cases e
 |non=>cases g
 |bl _=>cases g
 |int _=>cases g
 |str _=>cases g
theorem gz:P2 K (FE K) (eqT aj):=λF H x y v u Q pv g f e q=>by
 unfold eqT at e;split at e
 .rename_i a b d h;split at e
  .rename_i i;cases e;rw[jb g d,jb f h];refine .inl ⟨i,?_⟩;have:=q (.bl (decide (a=b))) F H (Al.refl ..) (by simp[aZ]);exact this
  .cases e
 .rename_i d h;split at e
  .rename_i j;cases c:cV x y with
   |none=>rw[c]at e;cases e
   |some k=>
    rw[c]at e;cases e;exact .inr (FF (neg:=aj) d c j g f (q _ F H (Al.refl ..) rfl))
  .cases e
 .cases e
theorem mK:P2 K (CK K) (eqT ah):=λF H x y v u Q pv g f e q=>by
 unfold eqT at e;split at e
 .rename_i a b d h;split at e
  .rename_i i;cases e;rw[jb g d,jb f h];refine .inl ⟨i,?_⟩;have:=q (.bl (!decide (a=b))) F H (Al.refl ..) (by simp[aZ]);exact this
  .cases e
 .rename_i d h;split at e
  .rename_i j;cases c:cV x y with
   |none=>rw[c]at e;cases e
   |some k=>
    rw[c]at e;cases e;exact .inr (FF (neg:=ah) d c j g f (q _ F H (Al.refl ..) rfl))
  .cases e
 .cases e
end
end Pu
namespace Pu
open L2
section
variable{X:Cx}{K:au}
def sH(i j:Tx):Bool:=!(x8 (tS j) (tS i) 0 (tS j).length 1).isEmpty
def iO:List PV->Option (List V)
 |[]=>aa []
 |x::xs=>(c_ x).bind λv=>(iO xs).map λr=>v::r
theorem sO{H:Hp}{F:ac->Prop}:∀{xs:List PV}{c a:List V},bc K H F xs c->iO xs=aa a->c=a/\a.all gb=ah
 |[],_,_,r,e=>by cases e;exact⟨r,rfl⟩
 |x::xs,_,a,⟨v,r,rfl,f,d⟩,e=>by
  unfold iO at e;cases q:c_ x with
  |none=>rw[q]at e;cases e
  |some w=>
   cases b:iO xs with
   |none=>rw[q,b]at e;cases e
   |some i=>
    rw[q,b]at e;cases e;obtain⟨h,g⟩:=sO d b;exact⟨by rw[jb f q,h],by rw[rV,qa q,g];rfl⟩
def jx(neg:Bool):PV->PV->Option PV
 |.str x,.str y=>aa (.bl (neg^^sH x y))
 |x,.lst a=>(c_ x).bind λv=>(iO a).map λb=>.bl (neg^^tw v b)
 |x,.tup a=>(c_ x).bind λv=>(iO a).map λb=>.bl (neg^^tw v b)
 |_,_=>af
def FY(K:au):R2:=λx y H Q=>(∃i j,x=.str i/\y=.str j/\Q (.bl (!(x8 j i 0 j.length 1).isEmpty)) H)\/tG K aj x y H Q
def Gb(K:au):R2:=λx y H Q=>(∃i j,x=.str i/\y=.str j/\Q (.bl (!(!(x8 j i 0 j.length 1).isEmpty))) H)\/tG K ah x y H Q
theorem P8:cf X (d7 .In) (FY X.K):=Si.or Qe
theorem LO:cf X (d7 .NotIn) (Gb X.K):=Sy.or HY
theorem wy{H:Hp}{F:ac->Prop}{x:PV}{c:List PV}{v:V}{p:ac}{b:List V}{Q:VK}{neg:Bool}{pv:PV}(g:aZ K H F x v)(i:cp K H p b\/dj K H p b)(h:bc K H F c b)(e:((c_ x).bind λv=>(iO c).map λf=>PV.bl (neg^^tw v f))=aa pv) (q:∀w,aZ K H F pv w->Q w H):tG K neg v (.ref p) H Q:=by
 cases a:c_ x with
 |none=>rw[a]at e;cases e
 |some w=>
  cases d:iO c with
  |none=>rw[a,d]at e;cases e
  |some f=>
   rw[a,d]at e;cases e;obtain⟨rfl,j⟩:=sO h d;rw[jb g a];refine⟨p,b,rfl,i,qa a,j,?_⟩;have:=q _ rfl;cases neg <;> simpa using this
theorem HM:P2 K (FY K) (jx aj):=λF H x y v u Q pv d c e q=>by
 unfold jx at e;split at e
 .cases e;exact .inl ⟨_,_,d.1,c.1,by have:=q _ F H (Al.refl ..) rfl;simpa[sH]using this⟩
 .obtain⟨a,h,rfl,g,_,f⟩:=c;exact .inr (wy (neg:=aj) d (.inl (.inl g)) f e λw b=>q w F H (Al.refl ..) b)
 .obtain⟨a,h,rfl,g,f⟩:=c;exact .inr (wy (neg:=aj) d (.inr (dj.of g)) f e λw b=>q w F H (Al.refl ..) b)
 .cases e
theorem QV:P2 K (Gb K) (jx ah):=λF H x y v u Q pv d c e q=>by
 unfold jx at e;split at e
 .cases e;exact .inl ⟨_,_,d.1,c.1,by have:=q _ F H (Al.refl ..) rfl;simpa[sH]using this⟩
 .obtain⟨a,h,rfl,g,_,f⟩:=c;exact .inr (wy (neg:=ah) d (.inl (.inl g)) f e λw b=>q w F H (Al.refl ..) b)
 .obtain⟨a,h,rfl,g,f⟩:=c;exact .inr (wy (neg:=ah) d (.inr (dj.of g)) f e λw b=>q w F H (Al.refl ..) b)
 .cases e
def aP:List PV->Option PV
 |[.str x]=>aa (.int x.length)
 |[.lst xs]=>aa (.int xs.length)
 |[.tup xs]=>aa (.int xs.length)
 |_=>af
theorem iu{H:Hp}{F:ac->Prop}{x:PV}{a:List V}(r:bc K H F [x] a):∃v,a=[v]/\aZ K H F x v:=by obtain⟨v,b,rfl,d,c⟩:=r;rw[show b=[] from c];exact⟨v,rfl,d⟩
theorem dP:PL K (λxs H Q=>∃x n,xs=[x]/\Dk K x H n/\Q (.int n) H) aP:=λF H xs h Q pv c e q=>by
 unfold aP at e;split at e
 .cases e;obtain⟨v,rfl,g⟩:=iu c;rw[g.1];exact⟨_,_,rfl,⟨by rw[lH];exact d3 g.2 jf,rfl⟩,by rw[lH];exact q _ F H (Al.refl ..) rfl⟩
 .cases e;obtain⟨v,rfl,a,b,rfl,f,_,d⟩:=iu c;exact⟨_,_,rfl,.inl ⟨b,.inl f,rfl⟩,by rw[d.len];exact q _ F H (Al.refl ..) rfl⟩
 .cases e;obtain⟨v,rfl,a,b,rfl,f,d⟩:=iu c;exact⟨_,_,rfl,.inr ⟨b,dj.of f,rfl⟩,by rw[d.len];exact q _ F H (Al.refl ..) rfl⟩
 .cases e
def kE:List PV->Option PO
 |[.lst xs]=>aa (.lst xs)
 |[.tup xs]=>aa (.lst xs)
 |_=>af
theorem Ao:mi K (λxs H Q=>∃p c,xs=[.ref p]/\(cp K H p c\/dj K H p c)/\∀l,H l=af->Q (.ref l) (upd H l (.lst c))) kE:=λF H xs j Q m i h e q=>by
 unfold kE at e;split at e
 .cases e;obtain⟨v,rfl,a,d,rfl,g,_,f⟩:=iu h;exact⟨a,d,rfl,.inl (.inl g),λl b=>q l F _ _ (Al.new0 b) (wE b f) (wP b i trivial)⟩
 .cases e;obtain⟨v,rfl,a,d,rfl,g,f⟩:=iu h;exact⟨a,d,rfl,.inr (dj.of g),λl b=>q l F _ _ (Al.new0 b) (wE b f) (wP b i trivial)⟩
 .cases e
def j5:List PV->Option PV
 |[.lst xs]=>aa (.tup xs)
 |[.tup xs]=>aa (.tup xs)
 |_=>af
theorem xI:PL K (λxs H Q=>∃p d,xs=[.ref p]/\((cp K H p d/\∀l,H l=af->Q (.ref l) (upd H l (.tup d)))\/(dj K H p d/\Q (.ref p) H))) j5:=λF H xs i Q pv g e q=>by
 unfold j5 at e;split at e
 .cases e;obtain⟨v,rfl,a,b,rfl,c,_,f⟩:=iu g;exact⟨a,b,rfl,.inl ⟨.inl c,λl h=>q _ F _ (Al.new0 h) ⟨l,b,rfl,bW,(Al.new0 h).reps f⟩⟩⟩
 .cases e;obtain⟨v,rfl,a,b,rfl,c,f⟩:=iu g;exact⟨a,b,rfl,.inr ⟨dj.of c,q _ F H (Al.refl ..) ⟨a,b,rfl,c,f⟩⟩⟩
 .cases e
def iD:List PV->Option (List Tx)
 |[]=>aa []
 |.str x::xs=>(iD xs).map (x::·)
 |_=>af
def ak(a:List Tx):List PV:=a.map .str
theorem qd(a:List Tx):iD (ak a)=aa a:=by
 induction a with
 |nil=>rfl
 |cons x a b=>show(iD (ak a)).map (x::·)=_;rw[b];rfl
theorem yX:∀{xs:List PV}{a:List Tx},iD xs=aa a->xs=ak a
 |[],a,e=>by cases e;rfl
 |.str x::xs,a,e=>by
  unfold iD at e;cases q:iD xs with
  |none=>rw[q]at e;cases e
  |some r=>rw[q]at e;cases e;rw[yX q];rfl
 |.non::_,_,e=>by cases e
 |.bl _::_,_,e=>by cases e
 |.int _::_,_,e=>by cases e
 |.tup _::_,_,e=>by cases e
 |.lst _::_,_,e=>by cases e
 |.raw _::_,_,e=>by cases e
 |.exc _::_,_,e=>by cases e
theorem Sf{H:Hp}{F:ac->Prop}:∀{a:List Tx}{b:List V},bc K H F (ak a) b↔b=dO a/\∀x∈a,x.length<=bH
 |[],b=>by simp[ak,bc,dO]
 |x::a,b=>by
  show(∃v r,b=v::r/\(v=tV x/\x.length<=bH)/\bc K H F (ak a) r)↔_;constructor
  .rintro⟨v,r,rfl,⟨rfl,f⟩,h2⟩;obtain⟨rfl,d⟩:=Sf.mp h2;exact⟨rfl,λy c=>by
    rcases b8.mp c with rfl|c
    .exact f
    .exact d y c⟩
  .rintro⟨rfl,h⟩;exact⟨tV x,dO a,rfl,⟨rfl,h x (by simp)⟩,Sf.mpr ⟨rfl,λy c=>h y (by simp[c])⟩⟩
def mH:List PV->Option PO
 |[.lst xs]=>(iD xs).bind λa=>if a.length<64 then aa (.lst (ak (bJ a)))else af
 |[.tup xs]=>(iD xs).bind λa=>if a.length<64 then aa (.lst (ak (bJ a)))else af
 |_=>af
theorem zD:mi K (λxs H Q=>∃(p:ac) (b:List Tx),xs=[.ref p]/\(cp K H p (dO b)\/dj K H p (dO b))/\b.length<64/\∀l,H l=af->Q (.ref l) (upd H l (.lst (dO (bJ b))))) mH:=λF H xs y Q n w m e q=>by
 have f:∀{g:List PV}{c:List V}{a:ac},((iD g).bind λb=>if b.length<64 then aa (PO.lst (ak (bJ b)))else af)=aa n->bc K H F g c->(cp K H a c\/dj K H a c) ->
   ∃(p:ac) (b:List Tx),[V.ref a]=[.ref p]/\(cp K H p (dO b)\/dj K H p (dO b))/\b.length<64/\∀l,H l=af->Q (.ref l) (upd H l (.lst (dO (bJ b)))):=λ{g c a} e d s=>by
  cases h:iD g with
  |none=>rw[h]at e;cases e
  |some b=>
   rw[h]at e;simp only[gu]at e;split at e
   .rename_i o;cases e;rw[yX h]at d;obtain⟨rfl,u⟩:=Sf.mp d;refine⟨a,b,rfl,s,o,λl i=>q l F _ _ (Al.new0 i) (wE i (Sf.mpr ⟨rfl,λx r=>u x ((jU b).mem_iff.mp r)⟩)) (wP i w trivial)⟩
   .cases e
 unfold mH at e;split at e
 .obtain⟨v,rfl,a,c,rfl,j,_,d⟩:=iu m;exact f e d (.inl (.inl j))
 .obtain⟨v,rfl,a,c,rfl,j,d⟩:=iu m;exact f e d (.inr (dj.of j))
 .cases e
def l6:List PV->Option (List Bool)
 |[]=>aa []
 |.bl b::xs=>(l6 xs).map (b::·)
 |_=>af
theorem EA{H:Hp}{F:ac->Prop}:∀{xs:List PV}{a:List V}{bs:List Bool},bc K H F xs a->l6 xs=aa bs->a=bs.map V.bl
 |[],_,_,r,e=>by cases e;exact r
 |.bl b::xs,_,bs,⟨v,r,rfl,d,c⟩,e=>by
  unfold l6 at e;cases q:l6 xs with
  |none=>rw[q]at e;cases e
  |some f=>rw[q]at e;cases e;rw[EA c q,show v=V.bl b from d];rfl
 |.non::_,_,_,_,e=>by cases e
 |.str _::_,_,_,_,e=>by cases e
 |.int _::_,_,_,_,e=>by cases e
 |.tup _::_,_,_,_,e=>by cases e
 |.lst _::_,_,_,_,e=>by cases e
 |.raw _::_,_,_,_,e=>by cases e
 |.exc _::_,_,_,_,e=>by cases e
def qN:List PV->Option PV
 |[.lst xs]=>(l6 xs).map λbs=>.bl (bs.all id)
 |_=>af
theorem Bw:PL K (λxs H Q=>∃(p:ac) (bs:List Bool),xs=[.ref p]/\cp K H p (bs.map V.bl)/\Q (.bl (bs.all id)) H) qN:=λF H xs h Q pv f e q=>by
 unfold qN at e;split at e
 .rename_i d;cases b:l6 d with
  |none=>rw[b]at e;cases e
  |some bs=>
   rw[b]at e;cases e;obtain⟨v,rfl,a,i,rfl,c,_,g⟩:=iu f;rw[EA g b]at c;exact⟨a,bs,rfl,.inl c,q _ F H (Al.refl ..) rfl⟩
 .cases e
def rn:PV->Option String
 |.non=>aa "NoneType"
 |.bl _=>aa "bool"
 |.int _=>aa "int"
 |.str _=>aa "str"
 |.tup _=>aa "tuple"
 |.lst _=>aa "list"
 |_=>af
def eE:List PV->Option PV
 |[x,.raw (.ty T)]=>(rn x).bind λt=>(gk [] (.type t) (.type T)).map λb=>.bl b
 |_=>af
theorem l9:d_ X (.builtin "isinstance") (λxs H Q=>∃x t T b,xs=[x,.ty T]/\iQ X.K H x (.type t)/\gk X.K (.type t) (.type T)=aa b/\Q (.bl b) H):=by
 intro l s g H xs i Q I r h;obtain⟨x,t,T,b,rfl,ty,e,q⟩:=h;cases r with
 |cons f d=>
  cases d with
  |cons c a=>
   cases a;cases c;exact Ls I f ty e λj=>⟨.bl b,H,I.tok _,rfl,q⟩
theorem Mm{H:Hp}{F:ac->Prop}{x:PV}{v:V}{t:String}(r:aZ K H F x v)(e:rn x=aa t):iQ K H v (.type t):=by
 cases x with
 |non=>cases e;rw[show v=V.non from r];exact .non
 |bl b=>cases e;rw[show v=V.bl b from r];exact .bl b
 |int b=>cases e;rw[show v=V.int b from r];exact .int b
 |str b=>cases e;rw[show v=tV b from r.1];exact .str _
 |tup xs=>cases e;obtain⟨a,d,rfl,c,_⟩:=r;exact .tup c
 |lst xs=>
  cases e;obtain⟨a,d,rfl,c,_⟩:=r;rcases c with c|⟨o,c⟩
  .exact .lst c
  .exact .frz c
 |raw _=>cases e
 |exc _=>cases e
theorem mC:PL K (λxs H Q=>∃x t T b,xs=[x,.ty T]/\iQ K H x (.type t)/\gk K (.type t) (.type T)=aa b/\Q (.bl b) H) eE:=λF H xs i Q pv d e q=>by
 unfold eE at e;split at e
 .rename_i x T;cases a:rn x with
  |none=>rw[a]at e;cases e
  |some t=>
   cases c:gk [] (.type t) (.type T)with
   |none=>rw[a,gu,c]at e;cases e
   |some b=>
    rw[a,gu,c]at e;cases e;obtain⟨v,j,rfl,h,g⟩:=d;obtain⟨u,rfl,f⟩:=iu g;rw[show u=V.ty T from f];exact⟨v,t,T,b,rfl,Mm h a,c,q _ F H (Al.refl ..) rfl⟩
 .cases e
theorem mf{E:XK}{x:Str}{T:String}{f:Pos}(c:X.mg x=af)(a:dZ x=aa (.type T))(d:Gl X x:=by rfl)(b:x≠"__name__":=by decide)(g:(x==("__debug__":Str))=aj:=by decide):DE X E (.Name x f) (dC (.raw (.ty T))):=λF S i h H Q r q=>bV (Mb (v:=.ty T) d c a rfl b g) (q F S H r (bd.refl ..) _ rfl)
def bv:PV->PV->Option PV
 |.lst xs,.int i=>dr xs i
 |.tup xs,.int i=>dr xs i
 |.str x,.int i=>(dr x i).map λc=>.str [c]
 |_,_=>af
theorem CW{H:Hp}{F:ac->Prop}{xs:List PV}{a:List V}{i:Int}{x:PV}(r:bc K H F xs a)(e:dr xs i=aa x):∃v,dr a i=aa v/\aZ K H F x v:=by
 unfold dr at e ⊢;rw[r.len];cases q:ku xs.length i with
 |none=>rw[q]at e;cases e
 |some j=>rw[q]at e;exact r.get e
theorem gf:P2 K (FC K) bv:=λF H x y v u Q pv b f e q=>by
 unfold bv at e;split at e
 .rename_i xs i;obtain⟨a,d,rfl,j,_,g⟩:=b;obtain⟨w,m,l⟩:=CW g e;exact .inl ⟨a,d,i,w,rfl,f,.inl j,m,q _ F H (Al.refl ..) l⟩
 .rename_i xs i;obtain⟨a,d,rfl,j,g⟩:=b;obtain⟨w,m,l⟩:=CW g e;exact .inr (.inl ⟨a,d,i,w,rfl,f,dj.of j,m,q _ F H (Al.refl ..) l⟩)
 .rename_i x i;cases h:dr x i with
  |none=>rw[h]at e;cases e
  |some c=>
   rw[h]at e;cases e;rw[b.1];exact .inr (.inr ⟨_,i,c,rfl,f,by rw[lH];exact d3 b.2 jf,by rw[mL];exact h,q _ F H (Al.refl ..) ⟨rfl,by show 1<=bH;decide⟩⟩)
 .cases e
def dY{a:Type}(xs:List a)(b c:Option Int):List a:=(xs.drop (HT.sIx xs.length 0 b)).take (HT.sIx xs.length xs.length c-HT.sIx xs.length 0 b)
theorem NR{a:Type}(xs:List a)(b c:Option Int):(dY xs b c).length<=xs.length:=by unfold dY;rw[rQ,pJ];lia
def cx:PV->Option Int->Option Int->Option PV
 |.str x,a,b=>aa (.str (dY x a b))
 |.lst xs,a,b=>aa (.lst (dY xs a b))
 |.tup xs,a,b=>if HT.sIx xs.length 0 a=0/\HT.sIx xs.length xs.length b=xs.length then af else aa (.tup (dY xs a b))
 |_,_,_=>af
def En(K:au):V->Option Int->Option Int->Hp->VK->Prop:=λx a b H Q=>ED x a b H Q\/(Ei K x a b H Q\/Fm K x a b H Q)
theorem mX:mx X (En X.K):=Sd.or (Sg.or Ll)
theorem Dd{H:Hp}{F:ac->Prop}{xs:List PV}{a:List V}(r:bc K H F xs a)(b c:Option Int):bc K H F (dY xs b c) (nJ a b c):=by unfold dY nJ;rw[r.len];exact(r.drop _).take _
theorem mU:EJ K (En K) cx:=λF H x h i v Q pv b e q=>by
 unfold cx at e;split at e
 .cases e;rw[b.1];refine .inl ⟨_,rfl,by rw[lH];exact d3 b.2 jf,?_⟩;refine q _ F H (Al.refl ..) ⟨?_,d3 (NR ..) b.2⟩;unfold lE dY;rw[lH,mL];rfl
 .cases e;obtain⟨a,f,rfl,g,_,d⟩:=b;exact .inr (.inl ⟨a,f,rfl,.inl g,λp c=>q _ _ _ (Al.new c) ⟨p,_,rfl,.inl bW,.inr rfl,(Al.new c).reps (Dd d h i)⟩⟩)
 .split at e
  .cases e
  .rename_i j;cases e;obtain⟨a,f,rfl,g,d⟩:=b;exact .inr (.inr ⟨a,f,rfl,dj.of g,by rw[d.len];exact j,λp c=>q _ _ _ (Al.new0 c) ⟨p,_,rfl,bW,(Al.new0 c).reps (Dd d h i)⟩⟩)
 .cases e
variable{E:XK}{g l a b:aD}{d:ae->R PV}{m:ae->R (List PV)}{p f:Pos}
def hV:PV->Option (List PV)
 |.lst xs=>aa xs
 |.tup xs=>aa xs
 |.str x=>aa (x.map λc=>.str [c])
 |_=>af
def bx(d:ae->R PV):ae->R (List PV):=λε=>(d ε).bind λx ε1=>aC (hV x) ε1
theorem DY{H:Hp}{F:ac->Prop}:∀(x:Tx),bc K H F (x.map λc=>PV.str [c]) (x.map sg)
 |[]=>rfl
 |c::x=>⟨sg c,x.map sg,rfl,⟨rfl,by show 1<=bH;decide⟩,DY x⟩
theorem gF(he:DE X E l d):DI X E g l (bx d):=λF S ε Z H Rr rl h=>Bx.mk λag s I=>by
 have w:=he F S ε Z H (λv r=>∃B D u x,aM X.K B D u Z r/\aZ X.K r B x v/\Ok X.K E Z B D r (aC (hV x) u) (λpvs _ F' S' H'=>∀J L RR,bc X.K H' F' pvs L->L.length<=bi->Walk J L RR->(∀S'' F'' Y,bd (U S') (U S'') F' F'' H' Y->RR Y)->Rr J H')) rl
  ((Ok.bind h).imp λx u B D r G g1 q v N=>⟨B,D,u,x,G,N,q⟩)
 refine aW (w.run ag s I) λv c ⟨x,r,y,rx,B,D,u,pv,G,N,q⟩=>?_;cases pv with
 |lst xs=>
  obtain⟨a,M,rfl,C,hF,ra⟩:=N;cases rx;obtain⟨O,rr,pp,P⟩:=y.list (.inl C);refine uP pp.isList ?_;refine⟨c.heap.objs.size,[c.heap.objs.size],_,_,r,rfl,y.kept (t':=c.toks) λb o e=>bN _ e,EL a _,⟨_,cW _ rfl,rfl,rfl⟩,λb T=>?_,q B D r G (bd.refl ..) (zr X.K a) M (λH=>cp X.K H a M) ra P EW λS2 F2 H2 g2=>.inl (g2.lst G.fit hF C)⟩;have e:b=c.heap.objs.size:=by simpa using T
  subst e;exact y.fpOk (bB _) (y.hok.fresh (bB _))
 |tup xs=>
  obtain⟨a,M,rfl,C,ra⟩:=N;cases rx;obtain⟨O,rr,pp,P⟩:=y.tuple (dj.of C);refine wpAny_pyIter_tuple (show c.heap.IsTuple a O.toArray from pp) ?_;refine⟨c.heap.objs.size,[c.heap.objs.size],_,_,r,rfl,y.kept (t':=c.toks) λb o e=>bN _ e,Qa a _,⟨_,cW _ rfl,rfl,rfl⟩,λb T=>?_,q B D r G (bd.refl ..) (AC X.K a) M (λH=>dj X.K H a M) ra P Ij λS2 F2 H2 g2=>dj.of (g2.imm G.fit C id)⟩;have e:b=c.heap.objs.size:=by simpa using T
  subst e;exact y.fpOk (bB _) (y.hok.fresh (bB _))
 |str z=>
  obtain⟨rfl,P⟩:=N;obtain⟨t,rfl⟩:=rx;have qq:Rr (uq (tS z)) r:=q B D r G (bd.refl ..) (uq (tS z)) (z.map sg) (λ_=>True) (DY z) (by rw[bS];exact d3 P jf) (by have:=Ou (z:=tS z);rw[mL]at this;exact this) λ_ _ _ _=>trivial;have W:∀(n:String) (j:Nat->aI->Prop),(∀i h,j i h->∃o n L,h.get? c.heap.objs.size=aa o/\o.cls=.type n/\o.data=.fields L /\ ["enumerate","zip","dict_itemiterator","dict_reverseitemiterator","odict_iterator","itertools.zip_longest","itertools.pairwise"].contains n=aj) ->
    (∀(A:a4) (i:Nat) (s:ao) (Q:ai->ao->Prop) (E:ai->ao->Prop),j i s.heap->Q (.ref c.heap.objs.size) s->aw (aE X.prog X.w) A (oh (.ref c.heap.objs.size)) Q E s) ->
    (∀A:a4,A.handled=af->Walks X.prog X.w A c.heap.objs.size [c.heap.objs.size] [c.heap.objs.size] (tS z).cps.size (SignAt (tS z)) j) ->
    j 0 (c.heap.push {cls:=.type n,data:=.fields #[.str (tS z) t,.int 0 0]}) ->
    wd X ag Z g Rr (.ref c.heap.objs.size) {c with heap:=c.heap.push {cls:=.type n,data:=.fields #[.str (tS z) t,.int 0 0]}}:=λn j q h2 h3 h4=>by
   refine⟨c.heap.objs.size,[c.heap.objs.size],j,uq (tS z),r,rfl,y.kept (t':=c.toks) λb o e=>bN _ e,PJ q h2 h3,h4,λb T=>?_,qq⟩;have e:b=c.heap.objs.size:=by simpa using T
   subst e;exact y.fpOk (bB _) (y.hok.fresh (bB _))
  cases C:(tS z).cps.all (· < 128)
  .refine wpAny_pyIter_wide C (W "str_iterator" (λi h=>h.IsStrIter c.heap.objs.size "str_iterator" (tS z) t i) (λi h ⟨o,e1,e2,e3⟩=>⟨o,_,_,e1,e2,e3,by decide⟩) (λA i s Q E st h=>wpAny_pyIter_striter_wide st h) (λA' hA=>Walks.strWide hA _ (tS z) t) ⟨_,cW _ rfl,rfl,rfl⟩)
  .refine wpAny_pyIter_ascii C (W "str_ascii_iterator" (λi h=>h.IsStrIter c.heap.objs.size "str_ascii_iterator" (tS z) t i) (λi h ⟨o,e1,e2,e3⟩=>⟨o,_,_,e1,e2,e3,by decide⟩) (λA i s Q E st h=>wpAny_pyIter_striter_ascii st h) (λA' hA=>Walks.strAscii hA _ (tS z) t) ⟨_,cW _ rfl,rfl,rfl⟩)
 |non=>exact(show False from q).elim
 |bl _=>exact(show False from q).elim
 |int _=>exact(show False from q).elim
 |raw _=>exact(show False from q).elim
 |exc _=>exact(show False from q).elim
def fg(c:Int)(n:Nat):List PV:=(bX n).map λi=>PV.int (c+(i:Nat))
theorem Ja{H:Hp}{F:ac->Prop}(c:Int)(n:Nat):bc K H F (fg c n) (qB c n):=by
 unfold fg qB
 induction (bX n)with
 |nil=>rfl
 |cons x xs h=>exact⟨_,_,rfl,rfl,h⟩
def f_:List PV->Option (List PV)
 |[.int j]=>if j<=1000000/\-1000000<=j then aa (fg 0 j.toNat)else af
 |_=>af
theorem oS(x:X.mg "range"=af)(z:DA X E [a] m)(y:Gl X "range":=by rfl)(w:aN [a] X.env=[(aj,aK a X.env)]:=by rfl):DI X E g (.Call (.Name "range" p) [a] [] f) (dL f_ m):=λF S o i H J r h=>by
 refine KZ (Rn y x iC w) (z F S o i H _ r ((Ok.bind h).imp λxs n C A B s I c D u=>?_));unfold f_ at c;split at c
 .rename_i j;split at c
  .rename_i G;obtain⟨v,rfl,q⟩:=iu u;refine⟨j,by rw[show v=V.int j from q],∅,∅,c C A B s (bd.refl ..) _ _ _ (Ja 0 j.toNat) (by rw[zI,pF];lia) LF λ_ _ _ _=>trivial⟩
  .exact c.elim
 .exact c.elim
end
section
variable{K:au}{F:ac->Prop}{S:Nat->ac->Prop}{f:ae}{l:St}{H:Hp}{i:Nat}{xs m:List PV}{d:List V}{a:ac}
theorem aM.lstAt(r:aM K F S f l H)(e:f[i]?=aa (.own (.lst xs))):∃a c,l[i]?=aa (aa (.ref a))/\H a=aa (.lst c)/\bc K H F xs c/\S i a/\∀b,S i b->b=a:=by obtain⟨a,o,⟨c,n,j⟩,g⟩:=r.own i _ e;exact⟨a,c,o,n,j,(g a).mpr rfl,λb h=>(g b).mp h⟩
theorem aM.upd(r:aM K F S f l H)(e:f[i]?=aa (.own (.lst xs)))(D:l[i]?=aa (aa (.ref a)))(h:bc K H F m d):aM K F S (f.set i (.own (.lst m))) l (upd H a (.lst d))/\bd (U S) (U S) F F H (upd H a (.lst d)):=by
 obtain⟨M,vs,E,L,J,x,B⟩:=r.lstAt e;rw[D]at E;cases E;have A:i<f.length:=(cF.mp e).1;have g:bd (U S) (U S) F F H (L2.upd H a (.lst d)):=⟨λ_ z=>z,λb o q n=>by rw[bo (by rintro rfl;exact n ⟨i,x⟩)];exact q,λb o q=>by
  by_cases C:b=a
  .subst C;exact⟨_,bW⟩
  .exact⟨o,by rw[bo C];exact q⟩,λ_ z=>.inl z,λ_ z=>.inl z⟩
 refine⟨⟨by rw[fW];exact r.len,λb z=>let ⟨o,q⟩:=r.ex b z;g.there b o q,λj pv q=>?_,λj y q=>?_,λj b z=>?_,r.dist⟩,g⟩
 .have p:i≠j:=by rintro rfl;rw[cu A]at q;cases q
  rw[cj p]at q;obtain⟨v,u,s⟩:=r.val j pv q;exact⟨v,u,s.grow g r.fit⟩
 .by_cases p:i=j
  .subst p;rw[cu A]at q;cases q;exact⟨a,D,⟨d,bW,h.grow g r.fit⟩,λb=>⟨B b,λz=>by rw[z];exact x⟩⟩
  .rw[cj p]at q;obtain⟨c,u,s⟩:=r.own j y q;refine⟨c,u,s.mono (λ_ _ z=>z.grow g r.fit) (λ_ _ z=>z.grow g r.fit) λb o z w=>?_⟩;rw[bo (by rintro rfl;exact p (r.dist i j b x z))];exact w
 .obtain⟨⟨y,u⟩,s,o,I,G⟩:=r.foot j b z;by_cases p:i=j
  .subst p;rw[B b z];exact⟨⟨_,cu A⟩,by rw[<-B b z];exact s,_,bW,trivial⟩
  .exact⟨⟨y,by rw[cj p];exact u⟩,s,o,by rw[bo (by rintro rfl;exact p (r.dist i j b x z))];exact I,G⟩
end
section
variable{X:Cx}{E:XK}{pin:List Nat}{e b:aD}{de db:ae->R PV}{d:Pos}
def g6(a:ae)(i:Nat):Option (List PV):=match a[i]? with
 |some (.own (.lst xs))=>aa xs
 |_=>af
theorem kK{a:ae}{i:Nat}{xs:List PV}(h:g6 a i=aa xs):a[i]?=aa (.own (.lst xs)):=by
 unfold g6 at h;split at h
 .cases h;assumption
 .cases h
def wM(i:Nat)(de:ae->R PV):ae->R aH:=λc=>(aC (g6 c i) c).bind λ_ c=>(de c).bind λy a=>(aC (g6 a i) a).bind λxs a=>if xs.length<bH then .ok .next (a.set i (.own (.lst (xs++[y]))))else .no
theorem EQ(i:Nat){x:Str}{p f c:Pos}(N:DE X E e de)(Q:X.N[i]?=aa x:=by rfl)(K:c6 X.env.scope x:=by eq_refl)(O:(x==("__debug__":Str))=aj:=by decide)(ba:(x==("__classdict__":Str))=aj:=by decide) (Z:fq (.Name x p) "append" X.env (aK (.Name x p) X.env)=aK (.Name x p) X.env:=by rfl)(Y:((b9 c (aN [e] X.env)).all (λx=>!x.1)&&(jp c (jq [] X.env)).all (λx=>x.1.isSome)&&decide ([e].length+([]:List gq).length+(if([]:List gq).isEmpty then 0 else 1)<30))=ah:=by rfl)(W:(f.endLine == c.line)=ah:=by rfl) (z:aN [e] X.env=(aj,aK e X.env)::aN [] X.env:=by rfl) (T:(b9 c (aN [] X.env)).any (·.1)=aj:=by rfl)(L:ii (.Call (.Attribute (.Name x p) "append" f) [e] [] c) af d.line X.env=pure aj:=by rfl):DS X E pin (.Expr (.Call (.Attribute (.Name x p) "append" f) [e] [] c) d) (wM i de):=λF S r o H D s h=>by
 unfold wM at h;cases n:g6 r i with
 |none=>rw[n]at h;exact h.elim
 |some A=>
  rw[n]at h;simp only[cK,R.bind_ok]at h;obtain⟨a,B,m,P,_,_,_⟩:=s.lstAt (kK n);refine eC (qJ (ph pU B3 B4 tQ (dG Q K O ba) (f8 bA g_ z) Z Y W z T) L) ⟨.ref a,m,.inl ⟨rfl,_,cp.of P⟩,?_⟩;refine N F S r o H _ s (h.bindE.imp λy l F1 S1 H1 w g1 q v G=>?_);cases j:g6 l i with
  |none=>rw[j]at q;exact q.elim
  |some xs=>
   rw[j]at q;simp only[cK,R.bind_ok]at q;obtain⟨a',C,g,J,u,_,_⟩:=w.lstAt (kK j);rw[m]at g;cases g;split at q
   .rename_i M;obtain⟨I,g2⟩:=w.upd (kK j) m (u.app (.one G));exact⟨a,C,v,rfl,rfl,J,by rw[u.len];exact fU M jf,q F1 S1 o _ I g2 (iq.refl _ _)⟩
   .exact q.elim
def Np:V->List V->Hp->VK->Prop:=λx c H Q=>∃l b xs a,x=.ref l/\c=[.ref b]/\H l=aa (.lst xs)/\Rd H b (.lst a)/\xs.length+a.length<=bi/\Q .non (L2.upd H l (.lst (xs++a)))
theorem N3:rM X "list.extend" Np:=by
 intro M s B H x D v G Q I j m h;obtain⟨l,b,xs,C,rfl,rfl,i,w,K,q⟩:=h;cases j;obtain⟨u,rfl,o⟩:=m.one;cases o;obtain⟨z,c,n,r,L,e⟩:=I.lstM i;obtain⟨a,p,g,y,_⟩:=AQ I w;have J:=g.length;have f:c.toArray.size+a.toArray.size<=bi:=by rw[cR,cR];lia
 have A:¬(!c.toArray.isEmpty&&GL (c.toArray.size+a.toArray.size))=ah:=by rw[Ps f,Bool.and_false];exact gh
 refine uK F.slot_list_extend ⟨_,e,rfl⟩ F.entry_list_extend (F.args_list_extend_2 _ _)
  (AutoSeq1.list_extend_list_list_0 l c.toArray n b a.toArray p A (by rw[cR];lia) ∅) ⟨e,y,?_⟩
 refine⟨.non,_,I.lset (its':=c++a) i e (by simp) (r.append g) ?_,rfl,q⟩;rw[eZ];lia
def mJ(i:Nat)(de:ae->R PV):ae->R aH:=λε=>(aC (g6 ε i) ε).bind λ_ ε=>(de ε).bind λy ε1=>(aC (g6 ε1 i) ε1).bind λxs ε1=>match y with
 |.lst a=>if xs.length+a.length<=bH then .ok .next (ε1.set i (.own (.lst (xs++a))))else .no
 |_=>.no
theorem z9(i:Nat){x:Str}{p g f:Pos}(Q:DE X E e de)(Z:X.N[i]?=aa x:=by rfl)(N:c6 X.env.scope x:=by eq_refl)(T:(x==("__debug__":Str))=aj:=by decide)(ba:(x==("__classdict__":Str))=aj:=by decide) (h1:fq (.Name x p) "extend" X.env (aK (.Name x p) X.env)=aK (.Name x p) X.env:=by rfl)(h2:((b9 f (aN [e] X.env)).all (λx=>!x.1)&&(jp f (jq [] X.env)).all (λx=>x.1.isSome)&&decide ([e].length+([]:List gq).length+(if([]:List gq).isEmpty then 0 else 1)<30))=ah:=by rfl)(h3:(g.endLine == f.line)=ah:=by rfl) (B:aN [e] X.env=(aj,aK e X.env)::aN [] X.env:=by rfl) (h5:(b9 f (aN [] X.env)).any (·.1)=aj:=by rfl)(O:ii (.Call (.Attribute (.Name x p) "extend" g) [e] [] f) af d.line X.env=pure aj:=by rfl):DS X E pin (.Expr (.Call (.Attribute (.Name x p) "extend" g) [e] [] f) d) (mJ i de):=λF S s r H D u h=>by
 unfold mJ at h;cases o:g6 s i with
 |none=>rw[o]at h;exact h.elim
 |some C=>
  rw[o]at h;simp only[cK,R.bind_ok]at h;obtain⟨a,G,n,Y,_,_,_⟩:=u.lstAt (kK o);refine eC (qJ (ph pU PySem.F.slot_list_extend PySem.F.type_list_extend N3 (dG Z N T ba) (f8 bA g_ B) h1 h2 h3 B h5) O) ⟨.ref a,n,.inl ⟨rfl,_,cp.of Y⟩,?_⟩;refine Q F S s r H _ u (h.bindE.imp λy m F1 S1 H1 A g1 q v K=>?_);cases l:g6 m i with
  |none=>rw[l]at q;exact q.elim
  |some xs=>
   rw[l]at q;simp only[cK,R.bind_ok]at q;obtain⟨a',I,j,M,z,_,_⟩:=A.lstAt (kK l);rw[n]at j;cases j;split at q
   .rename_i ys;split at q
    .rename_i P;obtain⟨c,J,rfl,W,_,w⟩:=K;obtain⟨L,g2⟩:=A.upd (kK l) n (z.app w);exact⟨a,c,I,J,rfl,rfl,M,W,by rw[z.len,w.len];exact d3 P jf,q F1 S1 r _ L g2 (iq.refl _ _)⟩
    .exact q.elim
   .exact q.elim
end
mutual
def imm:PV->Bool
 |.lst _=>aj
 |.tup xs=>ko xs
 |_=>ah
def ko:List PV->Bool
 |[]=>ah
 |x::xs=>imm x&&ko xs
end
mutual
theorem aZ.imm{K:au}{H:Hp}{F g:ac->Prop}:∀(x:PV) {v:V},imm x=ah->aZ K H F x v->aZ K H g x v
 |.non,_,_,h=>h
 |.bl _,_,_,h=>h
 |.int _,_,_,h=>h
 |.str _,_,_,h=>h
 |.raw _,_,_,h=>h
 |.exc _,_,_,h=>h
 |.lst _,_,e,_=>by simp[Pu.imm]at e
 |.tup xs,_,e,⟨a,b,f,d,c⟩=>⟨a,b,f,d,bc.imm xs (by simpa[Pu.imm]using e) c⟩
theorem bc.imm{K:au}{H:Hp}{F g:ac->Prop}:∀(xs:List PV) {a:List V},ko xs=ah->bc K H F xs a->bc K H g xs a
 |[],_,_,h=>h
 |x::xs,_,e,⟨v,r,f,d,c⟩=>by
  have b:imm x=ah/\ko xs=ah:=by simpa[ko]using e
  exact⟨v,r,f,aZ.imm x b.1 d,bc.imm xs b.2 c⟩
end
section
variable{K:au}{F:ac->Prop}{S:Nat->ac->Prop}{d:ae}{c:St}{H:Hp}{i:Nat}{f:List PV}
theorem aM.look(r:aM K F S d c H)(e:d[i]?=aa (.own (.lst f))):∃a,c[i]?=aa (aa (.ref a))/\¬F a/\aZ K H (λb=>F b\/b=a) (.lst f) (.ref a)/\(∀b,F b\/b=a->∃o,H b=aa o) /\ (∀{h g},Al (λb=>F b\/b=a) h H g->Al F (λb=>h b/\b≠a) H g):=by
 obtain⟨a,m,q,l,p,n,s⟩:=r.lstAt e;have j:¬F a:=(r.foot i a n).2.1;refine⟨a,q,j,⟨a,m,rfl,.inl l,.inr rfl,bc.mono (λ_ z=>.inl z) (λ_ _ _ z=>z) (λ_ _ z _=>z) _ _ p⟩,λb z=>z.elim (r.ex b) λz=>by rw[z];exact⟨_,l⟩,λ{h g} al=>⟨λb z=>⟨al.fro b (.inl z),by rintro rfl;exact j z⟩,al.same,λb z=>?_⟩⟩;rcases al.fnew b z.1 with(w|w)|w
 .exact .inl w
 .exact absurd w z.2
 .exact .inr w
end
section
variable{X:Cx}{E:XK}{e b:aD}{de j:ae->R PV}{c p:Pos}{x y:Str}{d T:String}{r:List V->Hp->VK->Prop}{f:List PV->Option PV}{g:List PV->Option PO}
def mj(o:Option PV):Option PV:=o.bind λv=>if imm v then aa v else af
theorem Cs{o:Option PV}{v:PV}(h:mj o=aa v):o=aa v/\imm v=ah:=by
 cases o with
 |none=>cases h
 |some w=>
  have h:(if imm w then aa w else af)=aa v:=h;split at h
  .cases h;exact⟨rfl,by assumption⟩
  .cases h
def Fv:PO->Bool
 |.lst xs=>ko xs
 |_=>aj
def xf{h:Type}(f:List PV->Option h)(i:Nat):ae->R h:=λa=>(aC (g6 a i) a).bind λxs a=>aC (f [.lst xs]) a
theorem Rk{F:ac->Prop}{S:Nat->ac->Prop}{n:ae}{m:St}{H:Hp}{Q:VK}{i:Nat}(C:PL X.K r f)(u:aM X.K F S n m H)(h:Ok X.K E m F S H (xf (λxs=>mj (f xs)) i n) (λpv _ A _ l=>∀v,aZ X.K l A pv v->Q v l)):∃a,m[i]?=aa (aa (.ref a))/\r [.ref a] H Q:=by
 unfold xf at h;cases s:g6 n i with
 |none=>rw[s]at h;exact h.elim
 |some xs=>
  rw[s]at h;simp only[cK,R.bind_ok]at h;obtain⟨a,G,K,B,D,z⟩:=u.look (kK s);refine⟨a,G,?_⟩;cases q:mj (f [.lst xs])with
  |none=>rw[q]at h;exact h.elim
  |some pv=>rw[q]at h;obtain⟨J,I⟩:=Cs q;exact C _ H [.lst xs] [.ref a] Q pv (.one B) J λw A l al o=>h _ S l (u.al (z al)) (z al).grow w (aZ.imm pv I o)
theorem OS(i:Nat)(A:d_ X (.builtin d) r)(s:PL X.K r f)(v:X.mg x=af)(n:dZ x=aa (.builtin d))(B:X.N[i]?=aa y:=by rfl)(G:c6 X.env.scope y:=by eq_refl)(z:(y==("__debug__":Str))=aj:=by decide) (J:(y==("__classdict__":Str))=aj:=by decide) (w:Gl X x:=by rfl) (u:x≠"__name__":=by decide) (C:(x==("__debug__":Str))=aj:=by decide) {h:Pos}(l:aN [.Name y h] X.env=(aj,aK (.Name y h) X.env)::aN [] X.env:=by rfl) (I:(b9 c (aN [] X.env)).any (·.1)=aj:=by rfl):DE X E (.Call (.Name x p) [.Name y h] [] c) (xf (λxs=>mj (f xs)) i):=λF S L K H Q m q=>by obtain⟨a,D,o⟩:=Rk s m q;exact bV (rm A w v n (f8 (dG B G z J) g_ l) u C l I) ⟨_,D,o⟩
def xl(o:Option PO):Option PO:=o.bind λv=>if Fv v then aa v else af
end
end Pu
namespace Pu
open L2
def kB(h:aI)(e T:ac)(c g:ai):Prop:=∃a b f d,h.get? e=aa a/\a.cls=c/\(a.data=.fields b/\a.dict=af)/\b[1]?=aa (.ref T)/\T≠e/\h.get? T=aa f/\f.data=.fields d/\d[3]?=aa g
def Made(h:aI)(e:ac)(c:ai):Prop:=∃a b,h.get? e=aa a/\a.cls=c/\(a.data=.fields b/\a.dict=af)/\b[1]?=aa .none
structure Kp(fs:List ac)(X:ac->Prop)(h h':aI):Prop where
 keep:∀b o,h.get? b=aa o->b∉fs->¬X b->h'.get? b=aa o
 slot:∀b o,h.get? b=aa o->b∈fs->¬X b->∃sl,h'.get? b=aa {o with slots:=sl}
 there:∀b o,h.get? b=aa o->∃o',h'.get? b=aa o'
theorem Kp.trans{fs:List ac}{X Y:ac->Prop}{h g f:aI}(a:Kp fs X h g)(b:Kp fs Y g f):Kp fs (λc=>X c\/Y c) h f where
 keep:=λc o e n x=>b.keep c o (a.keep c o e n λz=>x (.inl z)) n λz=>x (.inr z)
 slot:=λc o e n x=>by obtain⟨l,j⟩:=a.slot c o e n λz=>x (.inl z);obtain⟨d,i⟩:=b.slot c _ j n λz=>x (.inr z);exact⟨d,i⟩
 there:=λc o e=>let ⟨o',e'⟩:=a.there c o e;b.there c o' e'
theorem Kp.imp{fs d:List ac}{X Y:ac->Prop}{h j:aI}(a:Kp fs X h j)(f:∀b,b∈fs->b∈d)(g:∀b o,h.get? b=aa o->X b->Y b):Kp d Y h j where
 keep:=λc o e n x=>a.keep c o e (λz=>n (f c z)) λz=>x (g c o e z)
 slot:=λc o e n x=>by
  by_cases i:c∈fs
  .exact a.slot c o e i λz=>x (g c o e z)
  .exact⟨o.slots,a.keep c o e i λz=>x (g c o e z)⟩
 there:=a.there
theorem Lr(f:Array ai->Array ai)(o:Obj):(nt f o).dict=o.dict:=by
 obtain⟨c,d,dt,a⟩:=o;cases dt <;> rfl
section
variable{M:Model}{A:a4}{E:ai->ao->Prop}{s:ao}
theorem DK{z:aI}{l:Env}{g:List Env}{L e:ac}{w:Obj}{G:Array ai}{B:ai}{RU:Bool}{Q:Unit->ao->Prop}(Z:A.frames=aa (l::g)) (P:s.heap.FunFrames z (l::g)) (hf:l.frame=aa L) (S:s.heap.get? e=aa w) (I:w.data=.fields G) (ju:w.dict=af) (v:1<G.size)(h:∀K T,Kp (fP (l::g)) (λb=>b=e) s.heap K->kB K e T w.cls .none->s.heap.objs.size<=T->Q () {s with heap:=K}):aw M A (do let a <-frameOf l;let pl <-entryPlaceOf L RU;let b <-EntryCells.newEntry B a .none (eQ L) .none pl;nr (.ref e) 1 b) (λ_ Y=>aw M A (yz (.ref e) af) Q E Y) E s:=by
 have y:e∉(l::g).filterMap (·.frame):=λhm=>by obtain⟨_,o,F,X⟩:=P.mem hm;rw[S]at F;injection F with F;subst F;exact X G I
 refine ax (wpAny_frameOf_fun Z P hf λc d=>?_);refine ax (wpAny_entryPlaceOf λpl W=>?_);unfold EntryCells.newEntry newFields;refine ax (lO ?_ (W.sizeOk5 _ _ _ _ _));have p:c.get? e=aa w:=(d.2.1 e y).trans S;have n:=bN (h:=c) {cls:=.type "traceback",dict:=af,data:=.fields ([B,.ref L,.none,eQ L,.none]++(if pl.isEmpty then cX 6 Value.none else pl)).toArray} p;refine r_ n I v ?_;have C:c.objs.size≠e:=og (bK p);have j:=uV I (·.setIfInBounds 1 (Value.ref c.objs.size));have i:=pP (nt (·.setIfInBounds 1 (Value.ref c.objs.size))) n (B5 j);have r:=(pL (c.push {cls:=.type "traceback",dict:=af,data:=.fields ([B,.ref L,.none,eQ L,.none]++(if pl.isEmpty then cX 6 Value.none else pl)).toArray}) (nt (·.setIfInBounds 1 (Value.ref c.objs.size))) (dQ C)).trans (cW c rfl);unfold yz;refine ax (pH i j (x:=.ref c.objs.size) (by simp[v]) ?_);rw[if_pos (show(Value.ref c.objs.size != Value.none)=ah from by simp)];refine r_ r rfl (by simp only[cR,eZ,fL,lQ] <;> lia) (h _ c.objs.size ?_ ?_ ?_)
 .have m:∀b o,b≠e->c.get? b=aa o ->
    (((c.push {cls:=.type "traceback",dict:=af,data:=.fields ([B,.ref L,.none,eQ L,.none]++(if pl.isEmpty then cX 6 Value.none else pl)).toArray}).update e (nt (·.setIfInBounds 1 (Value.ref c.objs.size)))).update c.objs.size (nt (·.setIfInBounds 3 ((af:Option ac).elim Value.none λf=>eQ f)))).get? b=aa o:=λb o D u=>by
   have J:c.objs.size≠b:=og (bK u);rw[pL _ _ J,pL _ _ (dQ D)];exact bN _ u
  refine⟨λb o u O H=>m b o H ((d.2.1 b O).trans u),λb o u O H=>?_,λb o u=>?_⟩
  .obtain⟨N,q⟩:=d.2.2 b o u;exact⟨N,m b _ H q⟩
  .by_cases D:b=e
   .subst D;exact⟨_,(pL _ _ C).trans i⟩
   .obtain⟨N,q⟩:=d.2.2 b o u;exact⟨_,m b _ D q⟩
 .refine⟨_,_,_,_,(pL _ _ C).trans i,Obj.cls_mapFields _ _,⟨j,by rw[Lr];exact ju⟩,by simp[v],C,pP _ r (B5 (uV rfl _)),uV rfl _,by first | (simp;done) | (rcases W with rfl|⟨_,_,_,_,_,_,_,rfl⟩ <;> simp)⟩
 .exact ng d.1.symm
theorem OA{f:aI}{d:Env}{a:List Env}{L e:ac}{c:ai}{Q:Unit->ao->Prop}(n:A.frames=aa (d::a))(q:s.heap.FunFrames f (d::a))(i:d.frame=aa L)(p:Made s.heap e c)(h:∀g T,Kp (fP (d::a)) (λb=>b=e) s.heap g->kB g e T c .none->s.heap.objs.size<=T->Q () {s with heap:=g}):aw M A (leaving d (.ref e)) Q E s:=by obtain⟨v,u,j,r,⟨l,o⟩,m⟩:=p;subst r;unfold leaving noteFrame;simp only[i];refine ax (ax (pH j l m ?_));rw[if_neg (by decide)];exact DK n q i j l o (uO.mp m).1 h
theorem E6{l:aI}{g:Env}{outer:List Env}{L e T:ac}{c:ai}{Q:Unit->ao->Prop}(G:A.frames=aa (g::outer))(N:s.heap.FunFrames l (g::outer))(u:g.frame=aa L)(J:kB s.heap e T c .none)(h:∀j T',Kp (fP (g::outer)) (λb=>b=e\/b=T) s.heap j->kB j e T' c .none->s.heap.objs.size<=T'->Q () {s with heap:=j}):aw M A (noteFrame (.ref e) g) (λ_ C=>aw M A (yz (.ref e) af) Q E C) E s:=by
 obtain⟨S,r,W,B,v,D,⟨w,I⟩,y,F,n,m,x⟩:=J;subst D;unfold noteFrame;simp only[u];refine ax (pH v w y ?_);rw[if_pos (show(Value.ref T != Value.none)=ah from by simp)];refine ax (pH n m x ?_);rw[if_neg (show ¬((Value.none == eQ L)=ah)from by simp[eQ])];refine ax (r_ n m (uO.mp x).1 ?_);have a:∀b,b≠T->(s.heap.update T (nt (·.setIfInBounds 3 Value.none))).get? b=s.heap.get? b:=λb d=>pL _ _ (dQ d);have f:∀b o,s.heap.get? b=aa o->(∀r,o.data≠.fields r)->b≠T:=λb o d p q=>by rw[q,n]at d;injection d with d;subst d;exact p B m
 refine DK G (N.of_keeps λb o d p=>⟨o,(a b (f b o d p)).trans d,rfl⟩) u ((a e (dQ F)).trans v) w I (uO.mp y).1 λj T' k O K=>?_;have H:Kp (fP (g::outer)) (λb=>b=T) s.heap (s.heap.update T (nt (·.setIfInBounds 3 Value.none))):=by
  refine⟨λb o d _ i=>(a b i).trans d,λb o d _ i=>⟨o.slots,(a b i).trans d⟩,λb o d=>?_⟩;by_cases i:b=T
  .subst i;exact⟨_,pP _ n (B5 (uV m _))⟩
  .exact⟨o,(a b i).trans d⟩
 refine h j T' ((H.trans k).imp (λ_ z=>z) λb o _ z=>z.symm) O ?_;have P:(s.heap.update T (nt (·.setIfInBounds 3 Value.none))).objs.size<=T':=K;rwa[Heap.size_update]at P
theorem Qo{f:aI}{d:Env}{a:List Env}{L e T:ac}{c:ai}{Q:Unit->ao->Prop}(j:A.frames=aa (d::a))(m:s.heap.FunFrames f (d::a))(n:d.frame=aa L)(l:kB s.heap e T c .none)(h:∀g i,Kp (fP (d::a)) (λb=>b=e\/b=T) s.heap g->kB g e i c .none->s.heap.objs.size<=i->Q () {s with heap:=g}):aw M A (leaving d (.ref e)) Q E s:=by unfold leaving;exact ax (E6 j m n l h)
theorem P9{e T:ac}{c D:ai}{Q:Unit->ao->Prop}(B:kB s.heap e T c D)(h:∀l,Kp [] (λb=>b=T) s.heap l->kB l e T c .none->Q () {s with heap:=l}):aw M A (yz (.ref e) af) Q E s:=by
 obtain⟨x,v,F,w,n,y,⟨p,z⟩,r,m,q,j,C⟩:=B;have u:3<w.size:=(uO.mp C).1;have a:∀b,b≠T->(s.heap.update T (nt (·.setIfInBounds 3 ((af:Option ac).elim Value.none λf=>eQ f)))).get? b=s.heap.get? b:=λb g=>pL _ _ (dQ g);have d:=pP (nt (·.setIfInBounds 3 ((af:Option ac).elim Value.none λf=>eQ f))) q (B5 (uV j _));unfold yz;refine ax (pH n p r ?_);rw[if_pos (show(Value.ref T != Value.none)=ah from by simp)];refine r_ q j u (h _ ⟨λb o g _ i=>(a b i).trans g,λb o g _ i=>⟨o.slots,(a b i).trans g⟩,λb o g=>?_⟩ ⟨x,v,_,_,(a e (dQ m)).trans n,y,⟨p,z⟩,r,m,d,uV j _,by simp[u]⟩);by_cases i:b=T
 .subst i;exact⟨_,d⟩
 .exact⟨o,(a b i).trans g⟩
end
def bP(P:a_)(w:aU):eh:=λb H s E e s'=>∃(a T:ac) (c:ai) (d:Hp),e=.ref a/\s'.os=s.os/\mZ s'.gens/\Un (fP b) [] H d s.heap s'.heap/\dw P w d s'.heap/\kB s'.heap a T c .none /\
 (s.heap.get? a=af/\s.heap.get? T=af/\d a=af/\d T=af)/\E c af d
theorem HF{P:a_}{w:aU}{H:Hp}{h:aI}{a:ac}{o:HO}(x:dq P w H h a o):∃u,h.get? a=aa u:=by
 cases o with
 |lst xs=>obtain⟨_,_,_,_,e⟩:=x;exact⟨_,e⟩
 |tup xs=>obtain⟨_,_,_,⟨o,e,_⟩,_⟩:=x;exact⟨_,e⟩
 |dK b=>obtain⟨_,_,_,_,o,_,_,e,_⟩:=x;exact⟨_,e⟩
 |dT b=>obtain⟨_,_,_,_,o,_,_,e,_⟩:=x;exact⟨_,e⟩
 |dN b=>obtain⟨_,_,_,_,o,_,_,e,_⟩:=x;exact⟨_,e⟩
 |set S n=>obtain⟨o,_,_,_,e,_⟩:=x;exact⟨_,e⟩
 |ins C l fs=>obtain⟨_,_,_,e,_⟩:=x;exact⟨_,e⟩
 |own y=>exact x
 |xd fs=>obtain⟨_,⟨_,_,_,e,_⟩,_⟩:=x;exact⟨_,e⟩
 |rng i j=>obtain⟨_,_,_,e⟩:=x;exact⟨_,e⟩
 |frz g u=>obtain⟨e,_⟩:=x;exact⟨_,e⟩
 |tbl d=>obtain⟨_,e,_⟩:=x;exact⟨_,e⟩
 |met f y=>exact⟨_,x⟩
 |ext c=>obtain⟨_,e,_⟩:=x;exact e
theorem Kk{P:a_}{w:aU}{H:Hp}{h:aI}{a:ac}(x:dw P w H h)(e:h.get? a=af):H a=af:=by
 cases q:H a with
 |none=>rfl
 |some u=>obtain⟨o,z⟩:=HF (x a u q);rw[e]at z;cases z
theorem ri{fs:List ac}{H c:Hp}{h b:aI}{a:ac}(u:Un fs [] H c h b)(e:b.get? a=af):h.get? a=af:=by
 cases q:h.get? a with
 |none=>rfl
 |some o=>obtain⟨d,z⟩:=u.there a o q (by simp);rw[e]at z;cases z
theorem AY{fs a:List ac}{H p:Hp}{h l j:aI}{X:ac->Prop}(u:Un fs [] H p h l)(k:Kp a X l j)(r:∀b o,h.get? b=aa o->b∈a->b∈fs)(g:∀b o,h.get? b=aa o->¬X b):Un fs [] H p h j where
 keep:=λb o e n d c=>k.keep b o (u.keep b o e n d c) (λz=>d (r b o e z)) (g b o e)
 slot:=λb o e n d c=>by
  obtain⟨q,m⟩:=u.slot b o e n d c;by_cases i:b∈a
  .obtain⟨f,s⟩:=k.slot b _ m i (g b o e);exact⟨f,s⟩
  .exact⟨q,k.keep b _ m i (g b o e)⟩
 free:=u.free
 there:=λb o e c=>let ⟨o',e'⟩:=u.there b o e c;k.there b o' e'
 tups:=u.tups
 frzs:=u.frzs
 tbls:=u.tbls
theorem Af{P:a_}{w:aU}{fs:List ac}{H:Hp}{h d:aI}{X:ac->Prop}(x:dw P w H h)(k:Kp fs X h d)(f:∀b∈fs,H b=af)(g:∀b,X b->H b=af):dw P w H d:=λb u e=>
 (x b u e).stay (λc v a q=>k.keep c v q (λz=>by
   have:=f c z;rcases a with rfl|a
   .rw[e]at this;cases this
   .rw[a]at this;cases this) λz=>by
   have:=g c z;rcases a with rfl|a
   .rw[e]at this;cases this
   .rw[a]at this;cases this) (λ_ q=>q) λ_ _ q=>q
section
variable{P:a_}{w:aU}{K:au}{n:Str->Option ai}{l:aI}{N:List Str}{j:Str}{g:eI}{f:ac}{p:ai}{A:a4}{i:List Env}{d:ao}{m:Hp}{E:XK}
theorem cT:kD (bP P w) (fD (bP P w) P w K n l N j g f p A i d m E) E:=λag Y H s e s' I h=>by
 obtain⟨a,T,c,X,rfl,J,M,un,B,Q,⟨S,W,G,Z⟩,O⟩:=h;have r:=I.call' (s':=s') (ch:=[]) J un B M (λb z=>absurd z (by simp));refine Qo (L:=d.heap.objs.size) I.ok.frames r.stack rfl Q λlV F k C y=>?_;have Mv:(fD (bP P w) P w K n l N j g f p A i d m E).ex=[]:=rfl;have v:d.heap.get? a=af:=ri I.base S;have D:d.heap.get? T=af:=ri I.base W;have x:d.heap.get? F=af:=ri r.base (Bz y);have u:∀b o,d.heap.get? b=aa o->b≠a/\b≠T:=λb o e=>⟨(by rintro rfl;rw[v]at e;cases e),(by rintro rfl;rw[D]at e;cases e)⟩
 refine⟨a,F,c,X,rfl,r.os,r.bare,AY r.base k (λb o e z=>?_) (λb o e z=>z.elim (u b o e).1 (u b o e).2),Af r.hok k r.stkFree (λb z=>by rcases z with rfl|rfl <;> assumption),C,⟨v,x,G,r.hok.fresh y⟩,O⟩;rcases b8.mp (I.stkSub b z)with q|q
 .exact absurd (bK e) (by rw[q];exact eX _)
 .exact q
end
section
variable{X:Cx}{E:XK}{pin:List Nat}{e:aD}{de:ae->R PV}{x:Str}{C:ac}{i:List ai}{d f B:String}{l g j:Pos}
def Cn(X:Cx)(E:XK):Prop:=∀(n:List (ac×Obj)) (m:St) (H:Hp) (s:ao) (a:ac) (c:ai) (h:aI),Inv X n m H s->(∀b o,s.heap.get? b=aa o->h.get? b=aa o)->Made h a c->s.heap.get? a=af->(E c af H)->X.xe (.ref a) {s with heap:=h}
def iW(c:ai)(de:ae->R PV):ae->R aH:=λb=>(de b).bind λ_ a=>.er c a
theorem NV{h c:aI}{e:ac}{a:ai}{b:List ai}(m:Heap.MadeExcOf h c e a b):Made c e a:=by obtain⟨t,n,_,_⟩:=m.there;exact⟨_,_,n,rfl,⟨rfl,rfl⟩,rfl⟩
theorem o6(hx:Cn X E)(hc:X.calm=ah)(O:pV x C i d X.mg X.base)(Q:ExcBaseFacts B d f i)(he:DE X.nox E0 e de)(hg:Gl X x:=by rfl)(hd:(x==("__debug__":Str))=aj:=by decide)(M:aN [e] X.env=[(aj,aK e X.env)]:=by rfl):DS X E pin (.Raise (aa (.Call (.Name x l) [e] [] g)) af j) (iW (.ref C) (λw=>bn (de w))):=λF S w n H D Z q=>Bx.mk λP s I=>by
 obtain⟨W,N,nm,qn,bs,hdct,sn,sub,ab,col,dd,k0,k1,k2,k3,k5,mN,hC,hN,J,T⟩:=O.obj;refine wpAny_Raise_call_subT (C:=C) (nm:=nm) (q:=qn) (N:=N) (bs:=bs) (bm:=W) (hdct:=hdct) (sn:=sn) (sub:=sub) (ab:=ab) (col:=col) (dd:=dd) (k0:=k0) (k1:=k1) (k2:=k2) (k3:=k3) (k5:=k5)
  Q (mN:=mN) (T.hasType Q.hasBase) (I.ok.hd hc) (by rw[M];rfl) J (rH I hg O.bound ⟨rfl,?_⟩ hd)
 have q2:Ok X.K E0 n F S H (de w) (λ_ b r o p=>gS X.K E pin n r o p (.er (.ref C) b) D):=by
  have q:gS X.K E pin n F S H ((bn (de w)).bind λ_ b=>.er (.ref C) b) D:=q;cases K:de w with
  |no=>rw[K]at q;exact q.elim
  |er c A=>rw[K]at q;exact q.elim
  |ok v A=>rw[K]at q;exact λF' S' H' r' g'=>q.from g' (iq.refl _ _)
 rw[M];refine yg (d4 (uH (d4 ((he F S w n H (λv p=>∃r o b,aM X.K r o b n p/\gS X.K E pin n r o p (.er (.ref C) b) D) Z (q2.imp λv b r o p L g1 h v' rv=>⟨r,o,b,L,h⟩)).run P s (I.wish _)) (λu Y ⟨v,p,y,L,r,o,b,G,ok⟩=>?_) λ_ _ z=>z.elim)) (λ_ _ z=>z) λ_ _ z=>z);have y:=y.unwish;refine BG ⟨rfl,(by show 1<=bi;decide),y.bk _ _ hC,hN.keeps y.bk,T.keeps y.bk,λh' a m=>?_⟩;exact hx P n p Y a (.ref C) h' y m.keeps (NV m) m.new (ok af r o n p G (bd.refl ..) (iq.refl _ _))
end
section
variable{P:a_}{w:aU}{K:au}{m:Str->Option ai}{j:aI}{N:List Str}{i:Str}{g:eI}{f:ac}{n:ai}{A:a4}{h:List Env}{d:ao}{l:Hp}{E:XK}
theorem oP:Cn (fD (bP P w) P w K m j N i g f n A h d l E) E:=λM D H s a c B I G F new J=>by
 have p:Inv _ M D H {s with heap:=B}:=I.kept (t':=s.toks) G;refine OA (s:={s with heap:=B}) (L:=d.heap.objs.size) I.ok.frames p.stack rfl F λO C k x v=>?_;have r:d.heap.get? a=af:=ri I.base new;have u:d.heap.get? C=af:=ri p.base (Bz v);have y:H a=af:=Kk I.hok new;refine⟨a,C,c,H,rfl,p.os,p.bare,AY p.base k (λb o e z=>?_) (λb o e z=>by rw[show b=a from z,r]at e;cases e),Af p.hok k p.stkFree (λb z=>by rw[show b=a from z];exact y),x,⟨r,u,y,p.hok.fresh v⟩,J⟩;rcases b8.mp (I.stkSub b z)with q|q
 .exact absurd (bK e) (by rw[q];exact eX _)
 .exact q
end
section
variable{X:Cx}{f:List (ac×Obj)}{a:St}{H:Hp}{s:ao}
theorem KQ{M:Model}{A:a4}{E:ai->ao->Prop}{i:Nat}{x:Str}{v:V}{Q:Unit->ao->Prop}(I:Inv X f a H s)(hN:X.N.Nodup)(P:X.N[i]?=aa x)(F:X.env.scope.names.lookup x=aa .local)(L:a[i]?=aa (aa v))(h:∀s',Inv X f (a.set i af) H s'->Q () s'):aw M A (unbindName X.env x) Q E s:=by
 obtain⟨m,N,O⟩:=id I.loc;have nz:(X.env.scope.kind == .class||(X.env.scope.kind == .module&&X.env.locals != X.env.globals))=aj:=by rw[I.ok.kind];rfl
 have r:i<a.length:=(cF.mp L).1;obtain⟨u,_,lk⟩:=O i x v P L (.inl F);have hm:m x=aa u:=by
  rcases lk with⟨_,z⟩|⟨z,_⟩
  .exact z
  .have z:X.env.scope.names.lookup x=aa .cell\/X.env.scope.names.lookup x=aa .free:=z;rcases z with z|z <;> rw[F]at z <;> cases z
 refine wpAny_unbindName_local F N hm nz λh' u' W l=>?_;obtain⟨oL,_,_,sq,_⟩:=id N;have D:∀b o,X.s₀.heap.get? b=aa o->h'.get? b=s.heap.get? b:=λb o e=>l.2 b (dm (fU (bK e) I.ok.above));refine h _ ⟨I.ok,I.os,I.bare,⟨λb o e n J g=>(D b o e).trans (I.base.keep b o e n J g),λb o e n J g=>?_,I.base.free,λb o e g=>?_,I.base.tups,I.base.frzs,I.base.tbls⟩,⟨_,W,λj y T S C e3=>?_⟩,λy c e=>?_,I.free,I.freeC,λp hp=>?_,λb ob e=>?_,by rw[fW];exact I.len⟩
 .obtain⟨Y,q⟩:=I.base.slot b o e n J g;exact⟨Y,(D b o e).trans q⟩
 .obtain⟨o',q⟩:=I.base.there b o e g;exact⟨o',(D b o e).trans q⟩
 .by_cases G:j=i
  .subst G;rw[cu r]at C;cases C
  .rw[cj (dQ G)]at C;obtain⟨w,Z,q⟩:=O j y T S C e3;refine⟨w,Z,?_⟩;rcases q with⟨k,e⟩|⟨k,c,e,z⟩
   .have:y≠x:=λe=>G (zf hN S (e ▸ P));exact .inl ⟨k,by simp[this,e]⟩
   .exact .inr ⟨k,c,e,z.sameBut l (I.cne y c e)⟩
 .obtain⟨K,z⟩:=I.cell y c e;exact⟨K,z.sameBut l (I.cne y c e)⟩
 .obtain⟨e,n,ne,nf,d⟩:=I.pin p hp;exact⟨(l.2 p.1 ne).trans e,n,ne,nf,d⟩
 .refine(I.hok b ob e).stay (λc K B q=>(l.2 c ?_).trans q) (λ_ q=>q) λ_ _ q=>q;rintro rfl;rcases B with rfl|B
  .rw[I.free]at e;cases e
  .rw[I.free]at B;cases B
end
def XP(X:Cx)(g:List (ac×Obj))(d:St)(h:ai->Hp->Prop)(e:ai)(f:ao):Prop:=∃a b,Inv X g d b a/\bP X.prog X.w X.stack b a (λc _ i=>h c i) e f
def DX(X:Cx)(e:aD)(d:ae->R Slot):Prop :=
 ∀F S h a H Q (i:ai->Hp->Prop),aM X.K F S h a H->Ok X.K (λc _ f=>i c f) a F S H (d h) (λs _ l m f=>∀v j,j8 X.K f l s v j->(∀b,j b->H b=af/\¬l b/\¬U m b/\∃o,f b=aa o/\cN o)->Q v f) ->
  ∀g s,Inv X g a H s->aw (aE X.prog X.w) X.A (aK e X.env) (EP X g a Q) (XP X g a i) s
abbrev hand(X:Cx)(a:ac):Cx:={X with A:=X.A.mark (aa (.ref a)),calm:=aj,xe:=λ_ _=>False}
section
variable{X:Cx}{c:List (ac×Obj)}{b:St}{H:Hp}{s:ao}{a:ac}
theorem Inv.hand(I:Inv X c b H s)(d:(X.A.mark (aa (.ref a))).frames=X.A.frames:=by rfl):Inv (Pu.hand X a) c b H s :=
 ⟨⟨I.ok.mod,I.ok.kind,I.ok.glob,I.ok.blt,I.ok.above,I.ok.inj,I.ok.has,I.ok.cab,(λz=>by cases z),d.trans I.ok.frames,I.ok.stk,I.ok.exf,I.ok.bs,I.ok.bsz,I.ok.noex,I.ok.exfs,I.ok.funs,I.ok.frf,I.ok.tab⟩,I.os,I.bare,I.base,I.loc,I.cell,I.free,I.freeC,I.pin,I.hok,I.len⟩
theorem Inv.unhand(I:Inv (Pu.hand X a) c b H s)(ok:X.Ok):Inv X c b H s:=⟨ok,I.os,I.bare,I.base,I.loc,I.cell,I.free,I.freeC,I.pin,I.hok,I.len⟩
end
def Under(h:aI)(D:ac)(c:ai):Prop:=∃C f N i q bs b g sub ab d p o n m l j a,c=.ref C/\h.get? C=aa (B6 i q C N bs f b g sub ab d p o n m l j a)/\(Value.ref C::f).contains (.ref D)=ah
def pe(h:aI)(D:ac):Prop:=∃d N g q bs b f sub ab c o n m l j i a,h.get? D=aa (B6 g q D N bs d b f sub ab c o n m l j i a)/\d.contains (.type "BaseException")=ah
theorem Under.keeps{h d:aI}{D:ac}{c:ai}(x:Under h D c)(k:∀b o,h.get? b=aa o->d.get? b=aa o):Under d D c:=by obtain⟨C,bm,N,nm,q,bs,hdct,sn,sub,ab,col,dd,k0,k1,k2,k3,k5,a,e,g,f⟩:=x;exact⟨C,bm,N,nm,q,bs,hdct,sn,sub,ab,col,dd,k0,k1,k2,k3,k5,a,e,k _ _ g,f⟩
theorem pe.keeps{h c:aI}{D:ac}(x:pe h D)(k:∀b o,h.get? b=aa o->c.get? b=aa o):pe c D:=by obtain⟨bm,N,nm,q,bs,hdct,sn,sub,ab,col,dd,k0,k1,k2,k3,k5,a,f,d⟩:=x;exact⟨bm,N,nm,q,bs,hdct,sn,sub,ab,col,dd,k0,k1,k2,k3,k5,a,k _ _ f,d⟩
theorem IJ{M:Model}{A:a4}{E:ai->ao->Prop}{s:ao}{e D:ac}{o:Obj}{c:ai}{Q:Bool->ao->Prop}(I:Under s.heap D c)(b:pe s.heap D)(K:s.heap.get? e=aa o)(w:o.cls=c)(J:Q ah s):aw M A (excMatches (.ref e) (.ref D)) Q E s:=by
 obtain⟨C,bm,N,Z,q,bs,p,W,sub,ab,P,dd,k0,k1,k2,k3,k5,i,rfl,r,H⟩:=I;obtain⟨m,N',x,X,S,j,v,n,T,u,O,G,F,B,z,y,a,b,L⟩:=b;obtain⟨h,g,d,t,Y⟩:=s;have l:(Value.ref D::m).contains (.type "BaseException")=ah:=by rw[List.contains_cons,L,Bool.or_true]
 have f:=tc_notTuple;unfold excMatches
 repeat (first | (with_reducible refine GY K ?_;rw[w])|with_reducible refine GY r ?_|with_reducible refine GY b ?_ | (with_reducible refine wpAny_isSubtype_exc r ?_;rw[H]) | (with_reducible refine wpAny_isSubtype_exc b ?_;rw[l])|wp_step)
 exact J
def nX(i:Nat)(b:ai->Bool)(g:ae->R Slot)(h:ae->R aH):ae->R aH:=λε=>match g ε with
 |.ok s a=>.ok (.ret s) a
 |.er c a=>if b c=ah/\i<a.length then(match h (a.set i (.val (.exc c)))with
  |.ok f d=>(match d[i]? with
   |some (.val _)=>.ok f (d.set i .none)
   |_=>.no)
  |_=>.no)else .no
 |.no=>.no
section
variable{X:Cx}{E:XK}{pin:List Nat}{e:aD}{A:ae->R Slot}{B:ae->R aH}{J L G C:Pos}{x n:Str}{D:ac}{l:List aS}{m:aS}{g:ai->Bool}
theorem aM.unset{K:au}{F:ac->Prop}{S:Nat->ac->Prop}{a:ae}{h:St}{H:Hp}{i:Nat}(r:aM K F S a h H):aM K F (λj b=>S j b/\j≠i) (a.set i .none) (h.set i af) H:=by
 have c:=r.drop i;have ne:∀{j:Nat}{s:Slot},(a.set i .none)[j]?=aa s->s≠.none->j≠i:=λ{j s} e p z=>by
  subst z;by_cases q:j<a.length
  .rw[cu q]at e;exact p (fk e).symm
  .rw[pR (by rw[fW];lia)]at e;cases e
 refine⟨by rw[fW,fW];exact r.len,r.ex,λj pv e=>?_,λj o e=>?_,c.foot,c.dist⟩
 .obtain⟨v,f,d⟩:=c.val j pv e;exact⟨v,by rw[cj (dQ (ne e (by intro z;cases z)))];exact f,d⟩
 .obtain⟨v,f,d⟩:=c.own j o e;exact⟨v,by rw[cj (dQ (ne e (by intro z;cases z)))];exact f,d⟩
theorem Qr{P:a_}{w:aU}{H:Hp}{h:aI}{a T:ac}{c I:ai}(ok:dw P w H h)(j:H a=af)(f:kB h a T c I):dw P w (upd H a (mv a c)) h:=λb u q=>by
 by_cases r:b=a
 .subst r;rw[bW]at q;cases q;obtain⟨i,v,_,_,p,F,y,_⟩:=f;exact⟨⟨i,v,p,F,y⟩,⟨i,p⟩,λQ O ⟨o,s,N,M,K⟩ k=>⟨o,s,k o N,M,K⟩⟩
 .rw[bo r]at q;exact(ok b u q).stay (λ_ _ _ z=>z) (λd z=>by rw[bo (mn z j)];exact z) λd xs z=>by rw[bo (mn z j)];exact z
def F_(X:Cx)(r:List aS)(d:ae->R Slot):Prop :=
 ∀F S i a H Q (j:ai->Hp->Prop),aM X.K F S i a H->Ok X.K (λc _ f=>j c f) a F S H (d i) (λs _ q y f=>∀v p,j8 X.K f q s v p->(∀b,p b->H b=af/\¬q b/\¬U y b/\∃o,f b=aa o/\cN o)->Q v f) ->
  ∀h s,Inv X h a H s->aw (aE X.prog X.w) X.A (execs r X.env) (λw s'=>∃u,w=.ret u/\EP X h a Q u s') (XP X h a j) s
theorem Qm(d:DX X e A):F_ X [.Return (aa e) J] A:=λF S b a H Q i c h f s I=>Gx (wpAny_Return_some (d4 (d F S b a H Q i c h f s I) (λu j q=>⟨u,rfl,q⟩) λ_ _ q=>q))
theorem J5{ss:List aS}(i:Nat)(hN:X.N.Nodup)(hx:F_ X ss A)(hD:X.mg x=aa (.ref D))(hE:pe X.base D)(hcg:∀c,g c=ah->Under X.base D c)(hh:∀a,eT (hand X a) E0 pin (m::l) B)(im:i∉pin:=by decide) (hi:X.N[i]?=aa n:=by rfl) (hl:X.env.scope.names.lookup n=aa .local:=by rfl) (hg:Gl X x:=by rfl) (hd:(x==("__debug__":Str))=aj:=by decide) (fN:X.stack=X.env::X.outer:=by rfl) (hfm:X.env.frame=aa X.env.locals:=by rfl) (hf:X.fn n=ah\/X.env.scope.names.lookup n=aa .local:=by first|exact .inl rfl|exact .inr rfl):DS X E pin (.Try ss [.ExceptHandler (aa (.Name x L)) (aa n) (m::l) G] [] [] C) (nX i g A B):=λF S ε σ H Dn rl q=>Bx.mk λag s I=>by
 refine wpAny_Try_except ?_;have body:=hx F S ε σ H (λv r=>Dn.rt v r) (λc r=>∃K P N,aM X.K K P N σ r/\bd (U S) (U P) F K H r/\g c=ah/\i<N.length/\gS X.K E pin σ F S H (match B (N.set i (.val (.exc c)))with
  |.ok f ε2=>(match ε2[i]? with
   |some (.val _)=>.ok f (ε2.set i .none)
   |_=>.no)
  |_=>.no) Dn) rl (by
  unfold nX at q;cases e0:A ε with
  |no=>rw[e0]at q;exact q.elim
  |ok sl N=>rw[e0]at q;intro K P r r' O v Sr rv fr;exact q v K P σ r Sr r' ⟨O.fro,O.keep,O.there,O.fnew,λb z=>z.elim (O.onew b) λw=>.inr (fr b w).1⟩ (iq.refl _ _) rv λb z=>(fr b z).2
  |er c N=>
   rw[e0]at q;intro y K P r r' O;dsimp only at q;by_cases hc:g c=ah/\i<N.length
   .rw[if_pos hc]at q;exact⟨K,P,N,r',O,hc.1,hc.2,q⟩
   .rw[if_neg hc]at q;exact q.elim) ag s I
 refine d4 body (λfl W ⟨u,efl,v,Z,I1,r1,q1⟩=>?_) λev W xp=>?_
 .subst efl;exact⟨v,σ,Z,I1,r1,q1⟩
 obtain⟨s0,H0,I0,a,T,c,Z,rfl,ho,hg1,un,hok,fl,⟨fa,fT,na,nT⟩,F1,S1,ε1,rl1,g1,il,cz,h⟩:=xp;have I1:=I0.call' (s':=W) (ch:=[]) ho un hok hg1 (λb z=>absurd z (by simp));have kpI:∀{h2:aI}{Y:ac->Prop}{T':ac},Kp (fP X.stack) Y W.heap h2->(∀b o,s0.heap.get? b=aa o->¬Y b)->(∀b,Y b->Z b=af)->kB h2 a T' c .none->∀tk,Inv X ag σ (upd Z a (mv a c)) {W with heap:=h2,toks:=tk}:=λ{h2 Y T'} k hY1 p8 f2 tk=>by
  refine I0.call' (s':={W with heap:=h2,toks:=tk}) (ch:=[]) ho ?_ (Qr (Af hok k (λb hb=>I1.stkFree b hb) p8) na f2) hg1 (λb z=>absurd z (by simp));have u2:=AY un k (λb o _ z=>z) hY1;have na':∀b o,Z b=aa o->b≠a:=λb o e=>mn e na;refine⟨u2.keep,u2.slot,λb o e n hx=>?_,u2.there,λb xs e=>?_,λb o u e=>?_,λb ps e=>?_⟩
  .rw[bo (by rintro rfl;rw[fa]at e;cases e)];exact u2.free b o e n hx
  .have:=u2.tups b xs e;rw[bo (na' b _ this)];exact this
  .have:=u2.frzs b o u e;rw[bo (na' b _ this)];exact this
  .have:=u2.tbls b ps e;rw[bo (na' b _ this)];exact this
 have H1T:∀b,b=a\/b=T->Z b=af:=λb z=>by rcases z with rfl|rfl <;> assumption
 have old1:∀b o,s0.heap.get? b=aa o->¬(b=a\/b=T):=λb o e z=>by
  rcases z with rfl|rfl
  .rw[fa]at e;cases e
  .rw[fT]at e;cases e
 refine E6 (outer:=X.outer) (by rw[I0.ok.frames,fN]) (by rw[<-fN];exact I1.stack) hfm fl λh2 T' k fl2 fT'=>?_;rw[<-fN]at k;have I2:=kpI k old1 H1T fl2 W.toks;refine wpAny_handleBy_cons (codeAny_handlers_test ?_) (by intro z;cases z);have I2h:Inv (hand X a) ag σ (upd Z a (mv a c)) {W with heap:=h2}:=Inv.hand I2;refine rH (X:=hand X a) I2h hg hD ?_ hd;obtain⟨oe,vs,oT,ts,he2,R4,_⟩:=id fl2;refine IJ (s:={W with heap:=h2}) ((hcg c il).keeps I2.bk) (hE.keeps I2.bk) he2 R4 ?_;show ka _ _ _ _ _;refine codeAny_handlers_suite_as (P9 (s:={W with heap:=h2}) fl2 λh3 k3 fl3=>?_);have k':Kp (fP X.stack) (λb=>(b=a\/b=T)\/b=T') W.heap h3:=k.trans (k3.imp (λb z=>by simp at z) λb o _ z=>z);have I3:=kpI (T':=T') k' (λb o e z=>by
  rcases z with z|rfl
  .exact old1 b o e z
  .rw[ri un (Bz fT')]at e;cases e) (λb z=>by
  rcases z with z|rfl
  .exact H1T b z
  .exact I1.hok.fresh fT') fl3 W.toks
 have I3h:Inv (hand X a) ag σ (upd Z a (mv a c)) {W with heap:=h3}:=Inv.hand I3;refine qQ (X:=hand X a) (v:=.ref a) I3h hN hi (.inl hl) rfl (λs4 I4=>?_) hf;have al:Al F1 F1 Z (upd Z a (mv a c)):=Al.new0 na;have r2:=rl1.al al;have r3:=r2.set (i:=i) (pv:=.exc c) (v:=.ref a) ⟨a,rfl,bW⟩;have g3:bd (U S) (U λj b=>S1 j b/\j≠i) F F1 H (upd Z a (mv a c)):=(g1.trans al.grow).trans (bd.less i);have less:∀{P:Nat->ac->Prop}{K:ac->Prop}{r:Hp},bd (U P) (U λj b=>P j b/\j≠i) K K r r:=λ{P K r}=>bd.less i;have pn:∀{d:St},iq pin (σ.set i (aa (.ref a))) d->iq pin σ (d.set i af):=λ{d} p=>((iq.set im).trans p).trans (iq.set im);have okd:gS (hand X a).K E0 pin (σ.set i (aa (.ref a))) F1 (λj b=>S1 j b/\j≠i) (upd Z a (mv a c)) (B (ε1.set i (.val (.exc c)))) {nx:=λd r=>Dn.nx (d.set i af) r,rt:=Dn.rt,bk:=λd r=>Dn.bk (d.set i af) r,ct:=λd r=>Dn.ct (d.set i af) r}:=by
  cases ed:B (ε1.set i (.val (.exc c)))with
  |no=>rw[ed]at h;exact h.elim
  |er c' ε2=>rw[ed]at h;exact h.elim
  |ok f ε2=>
   rw[ed]at h;dsimp only at h;split at h
   .cases f with
    |next=>exact λK P d r r' O p'=>h K _ _ r r'.unset ((g3.trans O).trans less) (pn p')
    |brk=>exact λK P d r r' O p'=>h K _ _ r r'.unset ((g3.trans O).trans less) (pn p')
    |cont=>exact λK P d r r' O p'=>h K _ _ r r'.unset ((g3.trans O).trans less) (pn p')
    |ret sl=>
     intro v K P d r Sr r' O p' rv lo;refine h v K _ _ r Sr r'.unset ?_ (pn p') rv λb z=>⟨(lo b z).1,λ⟨j,w⟩=>(lo b z).2.1 ⟨j,w.1⟩,(lo b z).2.2⟩
     have gg:=g3.trans O;exact⟨gg.fro,gg.keep,gg.there,gg.fnew,λb z=>gg.onew b (z.imp (λ⟨j,w⟩=>⟨j,w.1⟩) id)⟩
   .exact h.elim
 refine d4 ((hh a F1 _ _ _ _ _ r3 okd).run ag s4 I4) (λf s5 sp=>?_) λ_ _ z=>z.elim;have away:∀{M:St}{H5:Hp}{Q:Unit->ao->Prop},Inv (hand X a) ag M H5 s5->(∀s6,Inv X ag (M.set i af) H5 s6->Q () s6)->aw (aE X.prog X.w) X.A (do bindName X.env n .none;unbindBehindTheSuite X.env n G) Q X.xe s5:=λ{M H5 Q} I5 hQ=>by
  have I5':=Inv.unhand I5 I0.ok;refine ax (wpAny_bindName (qQ (v:=.non) I5' hN hi (.inl hl) rfl (λs6 I6=>?_) hf));unfold unbindBehindTheSuite;refine wpAny_onRaise ?_;have hiσ:i<M.length:=by rw[I5'.len];exact(cF.mp hi).1
  refine KQ I6 hN hi hl (cu hiσ) λs7 I7=>hQ s7 ?_;rw[List.set_set]at I7;exact I7
 cases f with
 |next=>obtain⟨M,H5,I5,q5⟩:=sp;exact away I5 λs6 I6=>⟨_,H5,I6,q5⟩
 |brk=>obtain⟨M,H5,I5,q5⟩:=sp;exact away I5 λs6 I6=>⟨_,H5,I6,q5⟩
 |cont=>obtain⟨M,H5,I5,q5⟩:=sp;exact away I5 λs6 I6=>⟨_,H5,I6,q5⟩
 |ret u=>obtain⟨v,M,H5,I5,rv,q5⟩:=sp;exact away I5 λs6 I6=>⟨v,_,H5,I6,rv,q5⟩
theorem Lm(i:Nat)(u:X.N.Nodup)(h:DX X e A)(w:X.mg x=aa (.ref D))(v:pe X.base D)(d:∀c,g c=ah->Under X.base D c)(p:∀a,eT (hand X a) E0 pin (m::l) B)(f:i∉pin:=by decide) (o:X.N[i]?=aa n:=by rfl) (j:X.env.scope.names.lookup n=aa .local:=by rfl) (q:Gl X x:=by rfl) (s:(x==("__debug__":Str))=aj:=by decide) (y:X.stack=X.env::X.outer:=by rfl) (b:X.env.frame=aa X.env.locals:=by rfl) (r:X.fn n=ah\/X.env.scope.names.lookup n=aa .local:=by first|exact .inl rfl|exact .inr rfl):DS X E pin (.Try [.Return (aa e) J] [.ExceptHandler (aa (.Name x L)) (aa n) (m::l) G] [] [] C) (nX i g A B):=J5 i u (Qm h) w v d p f o j q s y b r
end
structure j0(k:Nat)(A:a4):Prop where
 dp:A.depth+3*k+5<recursionLimit
 un:A.units+16*k+200<cLine
theorem cM.hand{k:Nat}{A:a4}{v:Option ai}(r:cM k A):j0 k (A.mark v):=⟨r.dp,r.un⟩
theorem j0.mono{j k:Nat}{A:a4}(r:j0 k A)(h:j<=k):j0 j A:=⟨by have:=r.dp;lia,by have:=r.un;lia⟩
theorem j0.deeper{k:Nat}{A:a4}(r:j0 (k+1) A)(a:Env):j0 k (A.deeper a) :=⟨by have:=r.dp;show A.depth+1+3*k+5<_;lia,by have:=r.un;show A.units+3+16*k+200<_;lia⟩
theorem j0.units{k:Nat}{A:a4}(r:j0 k A):A.units+64<cLine:=by have:=r.un;lia
def uo(P:a_)(w:aU)(K:au)(g:Str->Option ai)(d:aI)(N:List Str)(c:Str)(a:eI)(f:ac)(h:ai)(A:a4)(b:List Env)(s:ao)(H:Hp):Cx :=
 {(fD zU P w K g d N c a f h A b s H E0)with calm:=aj,xe:=λ_ _=>False}
structure zB(P:a_)(w:aU)(K:au)(mg:Str->Option ai)(base:aI)(k:Nat)(f:ac)(fd:gG)(ps:List Str)(sp:Sp):Prop where
 len:∀vs H Q E,sp vs H Q E->vs.length=ps.length
 run:∀(A:a4) (outer:List Env) (s:ao) (H:Hp) (args:Args) (us:List ai) (vs:List V) (Q:VK),j0 k A->nM P w K mg base A outer s H->BindsTo s fd args (ps.zip us)->bD vs us->sp vs H Q E0 ->
  ka (aE P w) A (.call (.ref f) args) (CR zU outer P w H s Q E0) s
structure wA(P:a_)(w:aU)(K:au)(mg:Str->Option ai)(base:aI)(x:Str)(k:Nat)(ps:List Str)(sp:Sp):Prop where
 ex:∃f fd,mg x=aa (.ref f)/\zB P w K mg base k f fd ps sp/\Binds K fd ps []/\kb K (.ref f)=ah
theorem K1{P:a_}{w:aU}{K:au}{F:Str->Option ai}{h:aI}{k:Nat}{f:ac}{B g:Str}{i:Arguments}{l:List aS}{a:eI}{dV kV M pm C ct oc:ai}{an od:Option ac}{Z:Array (Option ai)}{N O:List Str}{T:Sp} (lk:K.lookup f=aa ⟨oc,od,.func (fu B g i l a dV kV M pm an C ct),Z⟩) (ba:pG K C g=ah) (S:bE N O a)(len:∀p H Q E,T p H Q E->p.length=O.length)(fe:∀(A:a4) (c:List Env) (s:ao) (H:Hp) (p:List V) (Q:VK),j0 k (A.deeper (fM g a s.heap.objs.size f C))->T p H Q E0 -> my (uo P w K F h N g a f C A c s H) l {nx:=λ_ D=>Q .non D,rt:=Q} (L2.start N p) H):zB P w K F h (k+1) f (fu B g i l a dV kV M pm an C ct) O T:=by
 refine⟨len,λA c s H args us p Q hr j hb r gY=>?_⟩;have hl:=len _ _ _ _ gY;have KX:K.In s.heap:=j.mod.kin.keeps λb o e=>(j.bs b o e).1;have lim:s.heap.NoLimit:=j.mod.nolimit.keeps λb o e=>(j.bs b o e).1;have Ce:∀y∈O.zip us,a.names.lookup y.1=aa .local\/(a.names.lookup y.1=aa .cell/\((fV (s.heap.objs.size+1) a.names []).lookup y.1).isSome=ah):=λ⟨n,v⟩ hy=>(S.par n (BI hy).1).imp id λq=>⟨q,GI _ _ _ (.inl q)⟩
 refine codeAny_call_function (by have:=hr.dp;lia) (KX _ _ lk) rfl S.co S.gen rfl (PySem.W.codeRec_of KX ba) (hb _ _ _ _ ?_);refine wpAny_newFunctionEnv_cells S.kind Ce λenv he W x=>?_;subst he;refine⟨lim.keeps x.toInCall.keep,codeAny_func ?_⟩;have e1:nM P w K F h {A with handled:=af} c s H:=⟨j.frames,j.mod,j.bs,j.bsz,j.funs,j.frf,j.hok,j.bare,j.tab⟩
 have d:Inv (fD zU P w K F h N g a f C {A with handled:=af} c s H E0) [] (L2.start N p) H W:=Ex S rfl e1 hl r x;have I:Inv (uo P w K F h N g a f C A c s H) [] (L2.start N p) H W :=
  ⟨⟨d.ok.mod,d.ok.kind,d.ok.glob,d.ok.blt,d.ok.above,d.ok.inj,d.ok.has,d.ok.cab,(λz=>by cases z),Around.frames_deeper j.frames,d.ok.stk,d.ok.exf,d.ok.bs,d.ok.bsz,d.ok.noex,d.ok.exfs,d.ok.funs,d.ok.frf,d.ok.tab⟩,d.os,d.bare,d.base,d.loc,d.cell,d.free,d.freeC,d.pin,d.hok,d.len⟩
 refine d4 ((fe A c s H p Q (hr.deeper _) gY).run [] W I) (λfl X G=>?_) λe X G=>G.elim;have L:∀{m:St}{D:Hp}{v:V}{u:ai},Inv (uo P w K F h N g a f C A c s H) [] m D X->RelV v u->Q v D->CE c P w H s Q u X:=λ{m D v u} J Y q=>⟨v,D,J.os,J.bare,J.base,J.hok,Y,q⟩
 cases fl with
 |ret u=>obtain⟨v,m,D,J,Y,q⟩:=G;exact L J Y q
 |next=>obtain⟨m,D,J,q⟩:=G;exact L (v:=V.non) (u:=Value.none) J rfl q
 |brk=>obtain⟨_,_,_,q⟩:=G;exact gn q
 |cont=>obtain⟨_,_,_,q⟩:=G;exact gn q
theorem Hs{P:a_}{w:aU}{K:au}{u:Str->Option ai}{j:aI}{x:Str}{c:aS}{N l:List Str}{k n:Nat}{g:ae->R Slot}{d:ae->R aH}{p:List Nat}(D:cq K u x c)(Y:bE N l (aL c))(J:N.length=l.length+n)(O:∀(kV q y:ai) (E:Option ac) (o B:ai) (r:List ai),r.length=l.length->eR (fu x x (fZ c) (c8 c) (aL c) .none kV q y E o B) ⟨r,[]⟩=pure (l.zip r))(C:∀b,g b≠.no->b.length=l.length) (z:∀b,g b≠.no->∀(i:Nat) m,b[i]?=aa (.own m)->i∈p/\gK m=ah) (M:∀b,g b≠.no->aY n d b=g b)(T:∀(f:ac) (o:ai) (A:a4) (a:List Env) (s:ao) (H:Hp),j0 k (A.deeper (fM x (aL c) s.heap.objs.size f o))->eT (uo P w K u j N x (aL c) f o A a s H) E0 p (c8 c) d):wA P w K u j x (k+1) l (bh K g):=by obtain⟨f,W,L,v⟩:=D.ex;refine⟨f,W,L,?_,v.binds O,v.kp⟩;obtain⟨oc,od,kV,q,y,E,o,B,F,rfl,G,X⟩:=v.ex;exact K1 G X Y (wc C) λA a s H Z Q I S=>F8 J C (λb h i m e=>(z b h i m e).1) (λb rs aR h=>.inr λi m e=>(z b (by rw[h];exact nofun) i m e).2) M (T f o A a s H I) S
section
variable{X:Cx}{E:XK}{e:aD}{d:List aD}{j:ae->R (List bQ)}{b:Pos}{x:Str}{k:Nat}{i:List Str}{g:ae->R Slot}{p:Pos}
theorem OK{f:ac}{y:gG}{v:Sp}{t:TA}(z:zB X.prog X.w X.K X.mg X.base k f y i v)(B:j0 k X.A)(G:Gl X x)(C:X.mg x=aa (.ref f))(F:kb X.K (.ref f)=ah)(L:Binds X.K y i [])(M:PA X (e::d) t) (K:(x==("__debug__":Str))=aj) (J:aN (e::d) X.env=(aj,aK e X.env)::aN d X.env) (O:(b9 b (aN d X.env)).any (·.1)=aj):PE X (.Call (.Name x p) (e::d) [] b) (λm H Q=>t m H λn o=>v n o Q E0):=λP s m H Q I h=>by
 refine ya (rH I G C ?_ K);refine BH (h₀:=X.base) I.ok.mod.kin F (aW (M b P s m H _ I h) λc w ⟨n,o,l,r,q⟩=>⟨l.kIn,?_⟩) J O;have D:c.length=i.length:=by rw[<-r.length];exact z.len _ _ _ _ q
 refine uI (ol (z.run X.A X.stack w o ⟨c,[]⟩ c n Q B l.env0 (by have:=L w c l.kIn (by rw[i5];exact D);rwa[i5]at this) r q) λA S a=>?_);cases A with
 |error er=>exact(show False from a).elim
 |ok N=>
  cases N with
  |ret u=>exact l.after a
  |next=>exact gn a
  |brk=>exact gn a
  |cont=>exact gn a
theorem Hq{n m:Type}{K:au}{E o:XK}{c:St}{F:ac->Prop}{S:Nat->ac->Prop}{H:Hp}{C:m->ae->(ac->Prop)->(Nat->ac->Prop)->Hp->Prop}{r:R n}{f:n->ae->R m}(h:Ok K E c F S H (bn (r.bind f)) C):Ok K E c F S H r λa l F S H=>Ok K o c F S H (f a l) C:=by
 cases r with
 |ok a l=>
  intro w u v s q;have h:Ok K E c F S H (bn (f a l)) C:=h;cases e:f a l with
  |ok=>rw[e]at h;exact Ok.from (E:=o) h q
  |_=>rw[e]at h;exact h.elim
 |_=>exact h.elim
theorem NA(c:wA X.prog X.w X.K X.mg X.base x k i (bh X.K g))(r:j0 k X.A)(z:DG X E (e::d) j)(v:Gl X x:=by rfl)(w:(x==("__debug__":Str))=aj:=by decide) (B:aN (e::d) X.env=(aj,aK e X.env)::aN d X.env:=by rfl) (A:(b9 b (aN d X.env)).any (·.1)=aj:=by rfl):DR X E (.Call (.Name x p) (e::d) [] b) (λa=>bn (ay g j a)):=λF S a l H Q n h=>by obtain⟨f,J,s,G,y,u⟩:=c.ex;exact bV (OK G r v s u y iC w B A) (z F S a l H _ n ((Hq h).imp λK m N L M o C q I D=>Fs o C D q))
end
structure nW(K:au)(C:ac):Prop where
 ga:iF K (.ref C) "__getattribute__"=aa (aa (.builtin "BaseException.__getattribute__"))
 gt:iF K (.ref C) "__getattr__"=aa af
 cl:iF K (.ref C) "__class__"=aa (aa (.builtin "object.__class__"))
 gs:GF K (.builtin "object.__class__") "__get__"=aa (aa (.builtin "getset_descriptor.__get__"))
 tk:PySem.W.takesIn K (.builtin "object.__class__")=aa ah
 ob:x_ K C (.type "object")=aa ah
 be:x_ K C (.type "BaseException")=aa ah
 cs:(B7 K C).isSome=ah
section
variable{b:a_}{w:aU}{A:a4}{E:ai->ao->Prop}{K:au}{h:aI}{g:Array GenState}{d:Drawn}{t:Nat}{c:OsState}{a C:ac}{o:Obj}
theorem P5{M:Model}{f:ai}{Q:Unit->ao->Prop}(X:K.In h)(k:nW K C)(I:uE h a o C af)(j:Q () ⟨h,g,d,t,c⟩):aw M A (GW "BaseException.__getattribute__" ⟨[.ref a,f],[]⟩) Q E ⟨h,g,d,t,c⟩:=by
 have l:builtinKind "BaseException.__getattribute__"=aa .slot:=by decide +kernel
 have m:splitId "BaseException.__getattribute__"=aa ("BaseException","__getattribute__"):=by decide +kernel
 have p:=F.args_bexc_ga (.ref a) f;have n:=I.type (M:=M);have i:=PySem.W.looks_mroIn (M:=M) X k.be;simp only[GW,l,m];refine ax ?_
 .unfold isInstance
  repeat (first|with_reducible refine ax (n.at ?_)|with_reducible refine i.at ?_|with_reducible refine ax (i.at ?_)|wp_step)
  exact j
theorem Oy{i:Tok}{Q:Fin->ao->Prop}(X:K.In h)(k:nW K C)(I:uE h a o C af)(j:Q (.done (.ret (.ref C))) ⟨h,g,d,t,c⟩):aw (aE b w) A (Builtin.«object.__getattribute__» ⟨[.ref a,.str "__class__" i],[]⟩) Q E ⟨h,g,d,t,c⟩:=by
 have q:=I.type (M:=aE b w);have l:PySem.W.findObj K C af "__class__"=aa (.bind (.builtin "getset_descriptor.__get__") (.builtin "object.__class__")):=by obtain⟨u,m⟩:=BJ.mp k.cs;unfold PySem.W.findObj;rw[m,gu,k.cl,gu];simp[k.gs,k.tk]
 have p:=PySem.W.looks_find (M:=aE b w) X I l;have n:ka (aE b w) A (.call (.builtin "getset_descriptor.__get__") ⟨[.builtin "object.__class__",.ref a,.ref C],[]⟩) (λr f=>r=.ok (.ret (.ref C))/\f=⟨h,g,d,t,c⟩) ⟨h,g,d,t,c⟩:=PySem.W.class_get (s:=⟨h,g,d,t,c⟩) X I k.ob ⟨rfl,rfl⟩;refine ax (aX (ax (aX (ax (q.at (ax (p.at ?_)))))));show aw _ _ (do ret (<-pE [Value.builtin "object.__class__"] (call (.builtin "getset_descriptor.__get__") [.builtin "object.__class__",.ref a,.ref C]))) _ _ _;refine ax (pK (uI (ol n λr f z=>?_)));obtain⟨rfl,rfl⟩:=z;exact aX j
theorem Im{j:Tok}{Q:ai->ao->Prop}(X:K.In h)(k:nW K C)(I:uE h a o C af)(q:Q (.ref C) ⟨h,g,d,t,c⟩):aw (aE b w) A (getAttrBy (.ref a) (.str "__class__" j) aj) Q E ⟨h,g,d,t,c⟩:=by
 have p:=I.type (M:=aE b w);have n:=GE (M:=aE b w) X k.ga;have f:=GE (M:=aE b w) X k.gt;have l:(Value.builtin "BaseException.__getattribute__" == Value.builtin "object.__getattribute__")=aj:=by decide +kernel
 have i:(onTheHeap (Value.ref C)&&Value.builtin "BaseException.__getattribute__" == Value.builtin "object.__getattribute__")=aj:=by rw[l];rfl
 unfold getAttrBy;refine pK (ax (p.at (ax (n.at ?_))));dsimp only;rw[i];rw[if_neg (by decide)];have f3:=F.attr_ValueError.ga.bind (.ref a);have m:(aj&&onTheHeap (Value.builtin "BaseException.__getattribute__"))=aj:=rfl
 repeat (any_goals (first|assumption|with_reducible refine f.at ?_|with_reducible refine ax (f.at ?_)|wp_step))
 refine codeAny_call_builtin F.attr_ValueError.ga.plain F.entry_bexc_ga (P5 X k I (Oy X k I ?_))
 repeat (any_goals (first|assumption|wp_step))
theorem Hu{Q:Option ai->ao->Prop}(X:K.In h)(k:nW K C)(I:uE h a o C af)(f:Q (aa (.ref C)) ⟨h,g,d,t+1,c⟩):aw (aE b w) A (getAttr? (.ref a) "__class__") Q E ⟨h,g,d,t,c⟩:=by
 unfold getAttr? getAttrBy?
 repeat (any_goals (first|assumption|with_reducible apply Im X k I|wp_step))
theorem KP(k:nW K C):PySem.W.KitX K (.ref a) (.ref C) (λh=>∃o,uE h a o C af) where
 ty:=λ_ _ _ ⟨o,I⟩=>I.type
 it:=λ_ _ X _=>by
  obtain⟨x,f⟩:=BJ.mp k.cs;unfold B7 at f;split at f
  .rename_i y v m i l;intro J G H D r q;unfold isType loadHead;exact ax (wpAny_loadPart (r _ _ (X _ _ l)) (aX q))
  .cases f
 ne:=λh p F u n B X j=>by
  obtain⟨x,f⟩:=BJ.mp k.cs;refine GZ.mpr λq=>?_;have e:C=p:=Value.ref.inj (beq_iff_eq.mp q);subst e;unfold B7 at f;split at f
  .rename_i y v m i l;have z:=(X _ _ l).symm.trans j;cases z
  .cases f
 ca:=λ{_ _ _ _ _ s} X I q=>by obtain⟨o,I⟩:=I;obtain⟨h,g,d,t,c⟩:=s;exact Hu X k I q
end
def xb:V->Option ai
 |.ref D=>aa (.ref D)
 |.ty T=>aa (.type T)
 |_=>af
theorem IG{v:V}{u a:ai}(e:xb v=aa u)(r:RelV v a):a=u:=by
 cases v <;> simp[xb]at e <;> subst e <;> exact r
section
variable{X:Cx}{K:au}
def Gp(K:au):List V->Hp->VK->Prop:=λxs H Q=>∃a C D u b,xs=[.ref a,D]/\H a=aa (mv a (.ref C))/\nW K C/\xb D=aa u/\gk K (.ref C) u=aa b/\Q (.bl b) H
theorem R9:d_ X (.builtin "isinstance") (Gp X.K):=by
 intro B s w H xs y Q I r h;obtain⟨a,C,D,u,b,rfl,j,k,i,e,q⟩:=h;cases r with
 |cons g f=>
  cases f with
  |cons d c=>
   cases c;cases g;have v:=IG i d;subst v;obtain⟨⟨o,x,p,n,m,l⟩,_,_⟩:=I.hok a _ j;refine kX (KP (a:=a) k) I.kIn ⟨o,p,n,?_,?_⟩ e (by intro z;cases z) λA=>⟨.bl b,H,I.tok _,rfl,q⟩
   .unfold PySem.W.notCls;rw[m]
   .rw[l];trivial
def jc(tab:ai->V->Option Bool):List PV->Option PV
 |[.exc c,.raw D]=>(tab c D).map .bl
 |xs=>eE xs
def Ew(K:au):List V->Hp->VK->Prop:=λxs H Q=>Gp K xs H Q\/∃x t T b,xs=[x,.ty T]/\iQ K H x (.type t)/\gk K (.type t) (.type T)=aa b/\Q (.bl b) H
theorem j9:d_ X (.builtin "isinstance") (Ew X.K):=R9.or l9
def zQ(K:au)(tab:ai->V->Option Bool):Prop:=∀c D b,tab c D=aa b->∃C u,c=.ref C/\nW K C/\xb D=aa u/\gk K (.ref C) u=aa b
theorem jY{tab:ai->V->Option Bool}(j:zQ K tab):PL K (Ew K) (jc tab):=λF H xs g Q pv f e q=>by
 unfold jc at e;split at e
 .rename_i c D;cases d:tab c D with
  |none=>rw[d]at e;cases e
  |some b=>
   rw[d]at e;cases e;obtain⟨C,u,rfl,k,i,l⟩:=j c D b d;obtain⟨v,p,rfl,⟨a,rfl,m⟩,o⟩:=f;obtain⟨h,rfl,n⟩:=iu o;rw[show h=D from n];exact .inl ⟨a,C,D,u,b,rfl,m,k,i,l,q _ F H (Al.refl ..) rfl⟩
 .exact .inr (mC F H _ g Q pv f e q)
theorem kG{E:XK}{x:Str}{D:ac}{d:Pos}(a:X.mg x=aa (.ref D))(b:Gl X x:=by rfl)(c:(x==("__debug__":Str))=aj:=by decide):DE X E (.Name x d) (dC (.raw (.ref D))):=λF S g f H Q r q=>bV (Au (v:=.ref D) b a rfl c) (q F S H r (bd.refl ..) _ rfl)
variable{E:XK}{e:aD}{de:ae->R PV}{d:Pos}{y:Str}
def lI(xs:List PV)(y:PV):Option PV:=(c_ y).bind λv=>(iO xs).map λa=>.int (a.countP λz=>dX z v)
def AI(xs:List PV)(y:PV):Option PV:=(c_ y).bind λv=>(iO xs).bind λa=>(a.findIdx? λz=>dX z v).map λj=>.int j
def qE(f:List PV->PV->Option PV)(i:Nat)(de:ae->R PV):ae->R PV:=λb=>(aC (g6 b i) b).bind λ_ b=>(de b).bind λk a=>(aC (g6 a i) a).bind λxs a=>aC (f xs k) a
theorem Kg(i:Nat){p c b:Pos}(N:DE X E e de)(T:X.N[i]?=aa y:=by rfl)(L:c6 X.env.scope y:=by eq_refl)(O:(y==("__debug__":Str))=aj:=by decide)(ba:(y==("__classdict__":Str))=aj:=by decide) (h1:fq (.Name y p) "count" X.env (aK (.Name y p) X.env)=aK (.Name y p) X.env:=by rfl)(Z:((b9 b (aN [e] X.env)).all (λx=>!x.1)&&(jp b (jq [] X.env)).all (λx=>x.1.isSome)&&decide ([e].length+([]:List gq).length+(if([]:List gq).isEmpty then 0 else 1)<30))=ah:=by rfl)(Y:(c.endLine == b.line)=ah:=by rfl) (u:aN [e] X.env=(aj,aK e X.env)::aN [] X.env:=by rfl) (W:(b9 b (aN [] X.env)).any (·.1)=aj:=by rfl):DE X E (.Call (.Attribute (.Name y p) "count" c) [e] [] b) (qE lI i de):=λF S o A H Q r h=>by
 unfold qE at h;cases n:g6 o i with
 |none=>rw[n]at h;exact h.elim
 |some B=>
  rw[n]at h;simp only[cK,R.bind_ok]at h;obtain⟨a,C,z,P,_,_,_⟩:=r.lstAt (kK n);refine bV (ph pU PySem.F.slot_list_count PySem.F.type_list_count KH (dG T L O ba) (f8 bA g_ u) h1 Z Y u W) ⟨.ref a,z,.inl ⟨rfl,_,cp.of P⟩,?_⟩;refine N F S o A H _ r ((Ok.bind h).imp λk j F1 S1 H1 s g1 q v G=>?_);cases m:g6 j i with
  |none=>rw[m]at q;exact q.elim
  |some xs=>
   rw[m]at q;simp only[cK,R.bind_ok]at q;obtain⟨a',D,g,J,I,_,_⟩:=s.lstAt (kK m);rw[z]at g;cases g;unfold lI at q;cases f:c_ k with
   |none=>rw[f]at q;exact q.elim
   |some w=>
    cases l:iO xs with
    |none=>rw[f,l]at q;exact q.elim
    |some ws=>rw[f,l]at q;obtain⟨rfl,M⟩:=sO I l;rw[jb G f];exact⟨a,D,w,rfl,rfl,J,qa f,M,q F1 S1 H1 s (bd.refl ..) _ rfl⟩
theorem IA(i:Nat){p c b:Pos}(he:DE X E e de)(hN:X.N[i]?=aa y:=by rfl)(Y:c6 X.env.scope y:=by eq_refl)(hd:(y==("__debug__":Str))=aj:=by decide)(ba:(y==("__classdict__":Str))=aj:=by decide) (h1:fq (.Name y p) "index" X.env (aK (.Name y p) X.env)=aK (.Name y p) X.env:=by rfl)(h2:((b9 b (aN [e] X.env)).all (λx=>!x.1)&&(jp b (jq [] X.env)).all (λx=>x.1.isSome)&&decide ([e].length+([]:List gq).length+(if([]:List gq).isEmpty then 0 else 1)<30))=ah:=by rfl)(h3:(c.endLine == b.line)=ah:=by rfl) (G:aN [e] X.env=(aj,aK e X.env)::aN [] X.env:=by rfl) (h5:(b9 b (aN [] X.env)).any (·.1)=aj:=by rfl):DE X E (.Call (.Attribute (.Name y p) "index" c) [e] [] b) (qE AI i de):=λF S A J H Q B h=>by
 unfold qE at h;cases u:g6 A i with
 |none=>rw[u]at h;exact h.elim
 |some L=>
  rw[u]at h;simp only[cK,R.bind_ok]at h;obtain⟨a,N,I,ha,_,_,_⟩:=B.lstAt (kK u);refine bV (ph pU PySem.F.slot_list_index PySem.F.type_list_index Os (dG hN Y hd ba) (f8 bA g_ G) h1 h2 h3 G h5) ⟨.ref a,I,.inl ⟨rfl,_,cp.of ha⟩,?_⟩;refine he F S A J H _ B ((Ok.bind h).imp λk r F1 S1 H1 C g1 q v P=>?_);cases s:g6 r i with
  |none=>rw[s]at q;exact q.elim
  |some xs=>
   rw[s]at q;simp only[cK,R.bind_ok]at q;obtain⟨a',O,l,W,T,_,_⟩:=C.lstAt (kK s);rw[I]at l;cases l;unfold AI at q;cases f:c_ k with
   |none=>rw[f]at q;exact q.elim
   |some w=>
    cases o:iO xs with
    |none=>rw[f,o]at q;exact q.elim
    |some M=>
     cases n:M.findIdx? λz=>dX z w with
     |none=>rw[f,o]at q;simp only[gu]at q;rw[n]at q;exact q.elim
     |some j=>
      rw[f,o]at q;simp only[gu]at q;rw[n]at q;obtain⟨rfl,hf⟩:=sO T o;rw[jb P f];rw[RP]at n;obtain⟨D,h6,h7⟩:=n;refine⟨a,O,w,j,rfl,rfl,W,qa f,hf,D,λz g=>?_,λm z Z g=>?_,q F1 S1 H1 C (bd.refl ..) _ rfl⟩
      .rw[e_ D]at g;cases g;exact h6
      .have:=h7 m Z;rw[e_ ∅]at g;cases g;simpa using this
end
theorem IK(c:Nat)(x:Tx):sH [c] x=x.contains c:=by unfold sH;have:=StrLaws.found_one (tS x) c;rw[mL]at this;rw[show(tS [c])=⟨#[c]⟩from rfl,this];simp[List.contains_eq_mem]
section
variable{K:au}{F F':ac->Prop}{S l:Nat->ac->Prop}{ε g:ae}{σ:St}{H H':Hp}{i:Nat}{po:PO}
variable{a b:ac}{f:List (List PV)}{as:List ac}{j:Nat}{xs:List PV}{vs:List V}
theorem h_.len(h:h_ K H F f as):as.length=f.length:=by
 unfold h_ at h
 induction h with
 |nil=>rfl
 |cons _ _ c=>simp[c]
theorem h_.get(h:h_ K H F f as)(e:f[j]?=aa xs):∃b vs,as[j]?=aa b/\H b=aa (.lst vs)/\bc K H F xs vs:=by
 unfold h_ at h
 induction h generalizing j with
 |nil=>simp at e
 |cons r _ c=>
  cases j with
  |zero=>simp at e;subst e;obtain⟨vs,m,d⟩:=r;exact⟨_,vs,rfl,m,d⟩
  |succ j=>obtain⟨b,vs,q⟩:=c (j:=j) (by simpa using e);exact⟨b,vs,by simpa using q⟩
theorem h_.set(h:h_ K H F f as)(nd:as.Nodup)(e:as[j]?=aa b){H':Hp}(s:∀x v,bc K H F x v->bc K H' F x v)(q:∀c o,c∈as->c≠b->H c=aa o->H' c=aa o)(A:∃n,H' b=aa (.lst n)/\bc K H' F xs n):h_ K H' F (f.set j xs) as:=by
 unfold h_ at h ⊢
 induction h generalizing j with
 |nil=>exact .nil
 |cons r z y=>
  rename_i x c f as;have m:=jK.mp nd;cases j with
  |zero=>simp at e;subst e;refine .cons A ?_;exact h_.mono (K:=K) s (λd o p=>q d o (by simp[p]) (by rintro rfl;exact m.1 p)) z
  |succ j=>
   have u:as[j]?=aa b:=by simpa using e
   have w:b∈as:=BK u;obtain⟨vs,C,B⟩:=r;exact .cons ⟨vs,q c _ (by simp) (by rintro rfl;exact m.1 w) C,s _ _ B⟩ (y m.2 u λd o p=>q d o (by simp[p]))
theorem h_.frz(h:h_ K H F f as)(c:∀b∈as,F b):bc K H F (f.map .lst) (as.map .ref):=by
 unfold h_ at h
 induction h with
 |nil=>rfl
 |cons r _ d=>obtain⟨vs,o,n⟩:=r;exact⟨_,_,rfl,⟨_,vs,rfl,.inl o,c _ (by simp),n⟩,d λb m=>c b (by simp[m])⟩
end
theorem h_.snoc{K:au}{H:Hp}{F:ac->Prop}{c:List (List PV)}{d:List ac}{xs:List PV}{b:ac}{a:List V}(h:h_ K H F c d)(g:H b=aa (.lst a))(f:bc K H F xs a):h_ K H F (c++[xs]) (d++[b]):=yj h ⟨a,g,f⟩
section
variable{X:Cx}{E:XK}{n:eI}{x:Str}{N':List Str}{cap:List Nat}
variable{pin:List Nat}
theorem IU{F:ac->Prop}{S:Nat->ac->Prop}{m:ae}{f:St}{H:Hp}{D:kC}{i:Nat}{dn:ae->R PO}(P:i∉pin)(rl:aM X.K F S m f H)(h:gS X.K E pin f F S H (aT i (dF dn) m) D):Ok X.K E f F S H (dn m) (λr _ q u l=>∀a d,eu X.K l q r a d->(∀b,d b->H b=af/\¬q b/\¬U u b/\∃o,l b=aa o/\cN o)->D.nx (f.set i (aa (.ref a))) l):=by
 unfold aT dF at h;cases s:dn m with
 |no=>rw[s]at h;exact h.elim
 |er c I=>rw[s]at h;exact λx q u l M Z=>h x q u f l M Z (iq.refl _ _)
 |ok r G=>
  rw[s]at h;intro B A p L j a d N v;cases r with
  |dK g=>exact h.elim
  |lls d8=>exact h.elim
  |dL d8=>exact h.elim
  |ins C fs=>exact h.elim
  |dT g=>exact h.elim
  |dN g=>exact h.elim
  |inl C fs y xs=>exact h.elim
  |lst xs=>
   have W:∀b,d b->¬U A b/\∃o,p b=aa o:=λb z=>let ⟨_,_,x3,o,x4,_⟩:=v b z;⟨x3,o,x4⟩
   obtain⟨⟨J,Q,O⟩,T⟩:=N;have Y:bd (U S) (U A) F (λb=>B b\/d b) H p:=⟨λb z=>.inl (j.fro b z),j.keep,j.there,λb z=>z.elim (j.fnew b) λw=>.inr (.inl (v b w).1),j.onew⟩
   have K:aZ X.K p (λb=>B b\/d b) (.lst xs) (.ref a):=⟨a,J,rfl,.inl Q,.inr ((T a).mpr rfl),bc.mono (λ_ z=>.inl z) (λ_ _ _ z=>z) (λ_ _ z _=>z) _ _ O⟩
   exact h _ _ _ p ((L.more W).set K) (Y.trans (bd.less i)) (iq.set P)
section
variable{c a:aD}{y:Str}{g j f d:Pos}{l:ae->R (List PV)}{dt:ae->R Bool}{de:ae->R PV}{m:ae->R PO}{b:List aD}
theorem Cw(i:Nat)(T:X.N.Nodup)(B:jB X n x N' cap)(P:X.calm=ah)(M:DI X E (.Name x g) a l)(J:∀C o p r q,DF (cQ X n N' C o p r q) E0 b dt) (O:∀C o p r q,DE (cQ X n N' C o p r q) E0 c de)(L:i∉pin:=by decide) (A:X.N[i]?=aa y:=by rfl) (G:Loc X.env.scope y:=by first|exact Or.inl rfl|exact Or.inr rfl) (z:ii (.ListComp c [⟨.Name x g,a,b,0⟩] n f) (aa (.Name y j)) d.line X.env=pure ah:=by rfl)(N:X.fn y=ah\/X.env.scope.names.lookup y=aa .local:=by first|exact .inl rfl|exact .inr rfl) (K:∀x,nc a X.env x=pure x:=by intro _;rfl):DS X E pin (.Assign [.Name y j] (.ListComp c [⟨.Name x g,a,b,0⟩] n f) d) (aT i (dF (bT cap l dt de))):=λF S W u H D w h=>eC (QX (wi:=ro X (.Name x g) a) (ts:=λu H Q=>∀C o p r q,wY (cQ X n N' C o p r q) b u H Q) (te:=λu H Q=>∀C o p r q,iV (cQ X n N' C o p r q) c u H Q) B P uw (λC o p r q v s u H Q I h=>(h C o p r q).run v s I) (λC o p r q v s u H Q I h=>(h C o p r q).run v s I) T A G z N K) (Ez M J O w (IU L w h))
end
end
def eA(a:List Nat):Nat->ae->Bool
 |_,[]=>ah
 |i,.own c::b=>a.contains i&&gK c&&eA a (i+1) b
 |i,_::b=>eA a (i+1) b
theorem qi{c:List Nat}:∀{b:ae}{k:Nat},eA c k b=ah->∀(i:Nat) a,b[i]?=aa (.own a)->k+i∈c/\gK a=ah
 |[],_,_,i,a,e=>by simp at e
 |.own q::b,k,h,0,a,e=>by simp only[List.getElem?_cons_zero,Option.some.injEq,Slot.own.injEq]at e;subst e;simp only[eA,dS]at h;exact⟨by simpa using h.1.1,h.1.2⟩
 |.own q::b,k,h,i+1,a,e=>by simp only[eA,dS]at h;have:=qi (k:=k+1) h.2 i a (by simpa using e);rwa[uW,uX]at this
 |.val q::b,k,h,0,a,e=>by simp at e
 |.none::b,k,h,0,a,e=>by simp at e
 |.val q::b,k,h,i+1,a,e=>by have:=qi (k:=k+1) (by simpa[eA]using h) i a (by simpa using e);rwa[uW,uX]at this
 |.none::b,k,h,i+1,a,e=>by have:=qi (k:=k+1) (by simpa[eA]using h) i a (by simpa using e);rwa[uW,uX]at this
def bf(len:Nat)(b:List Nat)(g:ae->R Slot):ae->R Slot:=λa=>if a.length=len/\eA b 0 a=ah then g a else .no
theorem cU{q:eh}{P:a_}{w:aU}{K:au}{o:Str->Option ai}{g:aI}{x:Str}{c:aS}{N b:List Str}{k n:Nat}{d:ae->R aH}{pin:List Nat}(D:cq K o x c)(G:bE N b (aL c))(v:N.length=b.length+n)(y:∀(kV p u:ai) (F:Option ac) (l C:ai) (m:List ai),m.length=b.length->eR (fu x x (fZ c) (c8 c) (aL c) .none kV p u F l C) ⟨m,[]⟩=pure (b.zip m))(B:∀(f:ac) (l:ai) (A:a4) (j:List Env) (s:ao) (H:Hp) (E:XK),cM k (A.deeper (fM x (aL c) s.heap.objs.size f l))->eT (fD q P w K o g N x (aL c) f l A j s H E) E pin (c8 c) d):cD q P w K o g x (k+1) b (bh K (bf b.length pin (aY n d))):=by
 have no:∀{a},bf b.length pin (aY n d) a≠.no->a.length=b.length/\eA pin 0 a=ah:=λ{a} h=>by
  unfold bf at h;by_cases z:a.length=b.length/\eA pin 0 a=ah
  .exact z
  .rw[if_neg z]at h;exact absurd rfl h
 exact RD D G v y (λa h=>(no h).1) (λa h i r e=>by have:=qi (no h).2 i r e;rwa[sd]at this) (λa h=>by unfold bf;rw[if_pos (no h)]) B
theorem Ee{f:ac}{r:gG}{u:eh}{P:a_}{w:aU}{K:au}{q:Str->Option ai}{j:aI}{x a:Str}{g:aS}{N c:List Str}{k n:Nat}{d:ae->R aH}{pin:List Nat}(J:lG K x a g f r)(I:bE N c (aL g))(B:N.length=c.length+n)(C:∀(kV p y:ai) (G:Option ac) (m F:ai) (o:List ai),o.length=c.length->eR (fu x a (fZ g) (c8 g) (aL g) .none kV p y G m F) ⟨o,[]⟩=pure (c.zip o))(D:∀(f:ac) (m:ai) (A:a4) (l:List Env) (s:ao) (H:Hp) (E:XK),cM k (A.deeper (fM a (aL g) s.heap.objs.size f m))->eT (fD u P w K q j N a (aL g) f m A l s H E) E pin (c8 g) d):g7 P w K q j u (k+1) f r c (bh K (bf c.length pin (aY n d))):=by
 have no:∀{b},bf c.length pin (aY n d) b≠.no->b.length=c.length/\eA pin 0 b=ah:=λ{b} h=>by
  unfold bf at h;by_cases z:b.length=c.length/\eA pin 0 b=ah
  .exact z
  .rw[if_neg z]at h;exact absurd rfl h
 exact EH J I B C (λb h=>(no h).1) (λb h i v e=>by have:=qi (no h).2 i v e;rwa[sd]at this) (λb h=>by unfold bf;rw[if_pos (no h)]) D
theorem JC{P:a_}{w:aU}{K:au}{o:Str->Option ai}{g:aI}{x:Str}{c:aS}{N b:List Str}{k n:Nat}{d:ae->R aH}{pin:List Nat}(D:cq K o x c)(E:bE N b (aL c))(u:N.length=b.length+n)(v:∀(kV p r:ai) (C:Option ac) (l B:ai) (m:List ai),m.length=b.length->eR (fu x x (fZ c) (c8 c) (aL c) .none kV p r C l B) ⟨m,[]⟩=pure (b.zip m))(y:∀(f:ac) (l:ai) (A:a4) (j:List Env) (s:ao) (H:Hp),j0 k (A.deeper (fM x (aL c) s.heap.objs.size f l))->eT (uo P w K o g N x (aL c) f l A j s H) E0 pin (c8 c) d):wA P w K o g x (k+1) b (bh K (bf b.length pin (aY n d))):=by
 have no:∀{a},bf b.length pin (aY n d) a≠.no->a.length=b.length/\eA pin 0 a=ah:=λ{a} h=>by
  unfold bf at h;by_cases z:a.length=b.length/\eA pin 0 a=ah
  .exact z
  .rw[if_neg z]at h;exact absurd rfl h
 exact Hs D E u v (λa h=>(no h).1) (λa h i q e=>by have:=qi (no h).2 i q e;rwa[sd]at this) (λa h=>by unfold bf;rw[if_pos (no h)]) y
theorem FQ{P:List ai->Prop}(h:∀a,P [a])(c:List ai)(d:c.length=1):P c:=by
 cases c with
 |nil=>cases d
 |cons a r=>cases r with
  |nil=>exact h a
  |cons b r=>cases d
theorem F9{P:List ai->Prop}(h:∀a b,P [a,b])(c:List ai)(d:c.length=2):P c:=by
 cases c with
 |nil=>cases d
 |cons a r=>exact FQ (P:=λr=>P (a::r)) (h a) r (yA d)
theorem Dt{P:List ai->Prop}(h:∀a b c,P [a,b,c])(d:List ai)(f:d.length=3):P d:=by
 cases d with
 |nil=>cases f
 |cons a r=>exact F9 (P:=λr=>P (a::r)) (h a) r (yA f)
theorem QE{P:List ai->Prop}(h:∀a b c d,P [a,b,c,d])(f:List ai)(g:f.length=4):P f:=by
 cases f with
 |nil=>cases g
 |cons a r=>exact Dt (P:=λr=>P (a::r)) (h a) r (yA g)
theorem Sq{d:gG}{c:List Str}(h:∀a,eR d ⟨[a],[]⟩=pure (c.zip [a]))(b:List ai)(f:b.length=1):eR d ⟨b,[]⟩=pure (c.zip b):=FQ (P:=λb=>eR d ⟨b,[]⟩=pure (c.zip b)) h b f
theorem R_{f:gG}{d:List Str}(h:∀a b,eR f ⟨[a,b],[]⟩=pure (d.zip [a,b]))(c:List ai)(g:c.length=2):eR f ⟨c,[]⟩=pure (d.zip c):=F9 (P:=λc=>eR f ⟨c,[]⟩=pure (d.zip c)) h c g
theorem Sm{g:gG}{f:List Str}(h:∀a b c,eR g ⟨[a,b,c],[]⟩=pure (f.zip [a,b,c]))(d:List ai)(i:d.length=3):eR g ⟨d,[]⟩=pure (f.zip d):=Dt (P:=λd=>eR g ⟨d,[]⟩=pure (f.zip d)) h d i
theorem SE{i:gG}{g:List Str}(h:∀a b c d,eR i ⟨[a,b,c,d],[]⟩=pure (g.zip [a,b,c,d]))(f:List ai)(j:f.length=4):eR i ⟨f,[]⟩=pure (g.zip f):=QE (P:=λf=>eR i ⟨f,[]⟩=pure (g.zip f)) h f j
theorem c9{P:a_}{w:aU}{X:Cx}:kD (bP P w) X E0:=λ_ _ _ _ _ _ _ h=>by obtain⟨a,T,c,b,_,_,_,_,_,_,_,z⟩:=h;exact z.elim
theorem dH:dZ "len"=aa (.builtin "len"):=by decide +kernel
theorem Bp:dZ "all"=aa (.builtin "all"):=by decide +kernel
theorem Of:dZ "any"=aa (.builtin "any"):=by decide +kernel
theorem wQ:dZ "sorted"=aa (.builtin "sorted"):=by decide +kernel
theorem gA:dZ "isinstance"=aa (.builtin "isinstance"):=by decide +kernel
theorem Av:dZ "int"=aa (.type "int"):=by decide +kernel
theorem E_:dZ "bool"=aa (.type "bool"):=by decide +kernel
theorem Mq:dZ "str"=aa (.type "str"):=by decide +kernel
theorem zE:dZ "list"=aa (.type "list"):=by decide +kernel
theorem qw:dZ "tuple"=aa (.type "tuple"):=by decide +kernel
theorem Mi:dZ "set"=aa (.type "set"):=by decide +kernel
theorem Px:dZ "ValueError"=aa (.type "ValueError"):=by decide +kernel
def lK:aD->Bool
 |.Starred _ _=>ah
 |_=>aj
theorem jv{e:aD}{es:List aD}{env:Env}(h:lK e=aj):aN (e::es) env=(aj,aK e env)::aN es env:=by
 cases e <;> first|rfl|cases h
section
variable{X:Cx}{E:XK}{e:aD}{a:List aD}{d:ae->R PV}{b:ae->R (List PV)}{c:ae->R (List bQ)}
theorem az(g:DE X E e d)(f:DA X E a b)(h:lK e=aj:=by rfl):DA X E (e::a) (am d b):=MR g f (jv h)
theorem aO(g:DE X E e d)(f:DG X E a c)(h:lK e=aj:=by rfl):DG X E (e::a) (gV d c):=Jn g f (jv h)
end
def tO:List ai:=[.type "ValueError",.type "Exception",.type "BaseException",.type "object"]
theorem A6{K:au}{h:aI}{C:ac}{B:List ai}{nw:String}(X:K.In h)(q:ot K C B nw=ah):∃g N v o bs D i sub ab b E A z y x w f,h.get? C=aa (B6 v o C N bs g D i sub ab b E A z y x w nw)/\h.Ns N f/\f "__init__"=af/\OwnTail h B g:=by
 unfold ot at q;split at q
 case h_2=>cases q
 case h_1 d0 cdata slots look=>
  split at q
  case h_2=>cases q
  case h_1 C2 tl s0 s1 s2 s3 nn s5 em es=>
   rw[dS,dS,dS,dS,dS]at q;obtain⟨⟨⟨⟨⟨u,s⟩,d⟩,r⟩,a⟩,p⟩:=q;have n:=beq_iff_eq.mp u;have m:=beq_iff_eq.mp s;have c:=beq_iff_eq.mp p;subst n m;cases cdata;dsimp only at em d a c;subst em;have l:=Bool.not_eq_true' _ |>.mp d
   subst l;have j:slots=#[s0,s1,s2,s3,aa (.builtin nn),s5]:=by cases slots;exact congrArg Array.mk es
   subst j;exact⟨tl,_,_,_,_,_,_,_,_,_,d0,s0,s1,s2,s3,s5,_,X _ _ look,Heap.Ns.of_isNs (PySem.W.isNs_of_in X a),PySem.W.nsMap_none_of_in X a c,PySem.W.tail_of_in X r⟩
theorem qj{K:au}{h:aI}{a:Str->Option ai}{x:Str}{C:ac}{B:List ai}{nw:String}(X:K.In h)(e:a x=aa (.ref C))(q:ot K C B nw=ah):pV x C B nw a h:=⟨e,A6 X q⟩
theorem Qd{K:au}{h:aI}{C:ac}{nw:String}(X:K.In h)(q:ot K C tO nw=ah):pe h C:=by obtain⟨o,N,d,c,bs,m,b,sub,ab,a,n,l,j,i,g,f,p,e,_,_,t⟩:=A6 X q;exact⟨o,N,d,c,bs,m,b,sub,ab,a,n,l,j,i,g,f,nw,e,t.hasType rfl⟩
def subB(K:au)(D C:ac):Bool:=match K.lookup C with
 |some ⟨_,_,.cls a,_⟩=>a.mro.contains (.ref D)
 |_=>aj
theorem Kc{K:au}{h:aI}{C D:ac}{B:List ai}{nw:String}(X:K.In h)(q:ot K C B nw=ah)(s:subB K D C=ah):Under h D (.ref C):=by
 obtain⟨p,N,f,d,bs,n,c,sub,ab,b,o,m,l,j,i,g,w,e,_⟩:=A6 X q;refine⟨C,p,N,f,d,bs,n,c,sub,ab,b,o,m,l,j,i,g,nw,rfl,e,?_⟩;unfold subB at s;split at s
 .rename_i v u x r look;have a:=X _ _ look;rw[e]at a;unfold B6 at a;cases a;exact s
 .cases s
def wT(K:au)(C:ac):Bool :=
 iF K (.ref C) "__getattribute__" == aa (aa (.builtin "BaseException.__getattribute__"))&&iF K (.ref C) "__getattr__" == aa af&&iF K (.ref C) "__class__" == aa (aa (.builtin "object.__class__")) &&
 GF K (.builtin "object.__class__") "__get__" == aa (aa (.builtin "getset_descriptor.__get__"))&&PySem.W.takesIn K (.builtin "object.__class__") == aa ah&&x_ K C (.type "object") == aa ah&&x_ K C (.type "BaseException") == aa ah&&(B7 K C).isSome
theorem Dw{K:au}{C:ac}(h:wT K C=ah):nW K C:=by simp only[wT,dS,beq_iff_eq]at h;obtain⟨⟨⟨⟨⟨⟨⟨j,i⟩,g⟩,f⟩,d⟩,c⟩,b⟩,a⟩:=h;exact⟨j,i,g,f,d,c,b,a⟩
def yM(K:au):Bool:=K.all λp=>match p.2.cls with
 |.type t=>t != "list"
 |_=>ah
theorem FA{a:ac}{o:Obj}:∀{K:au},K.lookup a=aa o->(a,o)∈K
 |[],e=>by cases e
 | (b,u)::K,e=>by
  rw[jr]at e;cases q:a == b with
  |true=>rw[q]at e;cases e;rw[beq_iff_eq.mp q];exact m8 ..
  |false=>rw[q]at e;exact jn _ (FA e)
theorem EB{K:au}{H:Hp}{F:ac->Prop}:∀a:List Int,bc K H F (a.map .int) (a.map V.int)
 |[]=>rfl
 |x::a=>⟨.int x,a.map V.int,rfl,rfl,EB a⟩
theorem PN{K:au}{H:Hp}{a:ac}{xs:List V}(h:yM K=ah)(s:cp K H a xs):Rd H a (.lst xs):=by
 rcases s with s|⟨o,c,n,b,d,_⟩
 .exact s
 .have:=iR.mp h _ (FA b);rw[d]at this;simp at this
theorem QC{K:au}{g:ae->R Slot}{H:Hp}{a:ac}{c:List Int}{E:XK}(d:Rd H a (.lst (c.map V.int)))(h:g [.val (.lst (c.map .int))]=.ok (.val (.bl ah)) [.val (.lst (c.map .int))]):bh K g [.ref a] H (λv _=>v=.bl ah) E:=by
 refine⟨λb=>b=a,λ_ _=>False,[.val (.lst (c.map .int))],⟨rfl,λb e=>?_,λi pv e=>?_,λi l e=>?_,λi b z=>z.elim,λi j b z=>z.elim⟩,?_⟩
 .subst e;rcases d with d|⟨o,d⟩ <;> exact⟨_,d⟩
 .cases i with
  |zero=>cases e;exact⟨_,rfl,a,_,rfl,d,rfl,EB c⟩
  |succ i=>simp at e
 .cases i with
  |zero=>cases e
  |succ i=>simp at e
 .rw[h];exact λv q n p m _ _ f _ _=>f.1
theorem Sz{K:au}{x:Str}{i:Int}{t:Tok}(e:cS K b7 x=aa (aa (.int i t))):∃t,cS K b7 x=aa (aa (.int i t)):=⟨t,e⟩
theorem Ss{K:au}{x:Str}{l:Tx}{t:Tok}(e:cS K b7 x=aa (aa (.str (tS l) t))):∃t,cS K b7 x=aa (aa (.str (tS l) t)):=⟨t,e⟩
def cO(K:au)(x:Str)(a:aS):Prop:=∃f oc g kV h d j b i c,cS K b7 x=aa (aa (.ref f))/\K.lookup f=aa ⟨oc,g,.func (fu x x (fZ a) (c8 a) (aL a) .none kV h d j b i),c⟩/\pG K b x=ah/\kb K (.ref f)=ah
theorem R8{K:au}{x:Str}{b:aS}{f:ac}{oc kV j h d m:ai}{i n:Option ac}{g:Array (Option ai)}(a:cS K b7 x=aa (aa (.ref f)))(l:K.lookup f=aa ⟨oc,i,.func (fu x x (fZ b) (c8 b) (aL b) .none kV j h n d m),g⟩)(c:pG K d x=ah) (k:kb K (.ref f)=ah):cO K x b:=⟨f,oc,i,kV,j,h,n,d,m,g,a,l,c,k⟩
theorem cO.at{K:au}{h:aI}{g:Str->Option ai}{x:Str}{b:aS}(d:cO K x b)(X:K.In h)(G:h.Ns b7 g):cq K g x b:=by obtain⟨f,oc,m,kV,n,j,p,o,ct,i,a,l,c,k⟩:=d;exact⟨f,_,fz X G a,xn l c k⟩
def jy(a:List (aJ×PV))(k:aJ):Option PV:=(a.find? λb=>decide (b.1=k)).map (·.2)
def qf(a:List (aJ×PV))(k:aJ)(v:PV):List (aJ×PV):=if(a.any λb=>decide (b.1=k))=ah then a.map (λb=>if b.1=k then(b.1,v)else b)else a++[(k,v)]
def g8:PV->Option aJ
 |.int i=>aa (.inl i)
 |.str x=>aa (.inr (tS x))
 |_=>af
section
variable{K:au}{F:ac->Prop}{S:Nat->ac->Prop}{ε:ae}{σ:St}{H:Hp}{i:Nat}{kvs:List (aJ×PV)}{d:List (aJ×V)}{a:ac}
theorem uh{x:PV}{v:V}{k:aJ}(r:aZ K H F x v)(e:g8 x=aa k):v=kV k:=by
 cases x <;> simp[g8]at e
 .subst e;exact r
 .subst e;exact r.1
theorem gT.len(h:gT K H F kvs d):d.length=kvs.length:=by
 unfold gT at h
 induction h with
 |nil=>rfl
 |cons _ _ b=>simp[b]
theorem gT.val(h:gT K H F kvs d)(k:aJ):(∃x v,jy kvs k=aa x/\eN d k=aa v/\aZ K H F x v)\/(jy kvs k=af/\eN d k=af):=by
 unfold gT at h
 induction h with
 |nil=>exact .inr ⟨rfl,rfl⟩
 |@cons p q ps qs r _ ih=>
  by_cases e:p.1=k
  .refine .inl ⟨p.2,q.2,by simp[jy,ij,e],?_,r.2⟩;rw[qU (by rw[<-r.1];exact e)]
  .have b:¬q.1=k:=by rw[<-r.1];exact e
   rw[oZ b];have:jy (p::ps) k=jy ps k:=by simp[jy,ij,e]
   rw[this];exact ih
theorem gT.any(h:gT K H F kvs d)(k:aJ):(kvs.any λb=>decide (b.1=k))=d.any λb=>decide (b.1=k):=by
 unfold gT at h
 induction h with
 |nil=>rfl
 |cons r _ c=>rw[lP,lP,c,r.1]
theorem gT.put(h:gT K H F kvs d)(k:aJ){x:PV}{v:V}(r:aZ K H F x v):gT K H F (qf kvs k x) (eW d k v):=by
 unfold qf eW;rw[h.any k];split
 .rename_i b;clear b;unfold gT at h ⊢
  induction h with
  |nil=>exact .nil
  |@cons p q ps qs r1 _ ih=>
   refine .cons ?_ ih;dsimp only;by_cases e:p.1=k
   .rw[if_pos e,if_pos (by rw[<-r1.1];exact e)];exact⟨r1.1,r⟩
   .rw[if_neg e,if_neg (by rw[<-r1.1];exact e)];exact r1
 .exact yj h ⟨rfl,r⟩
theorem aM.dkAt(r:aM K F S ε σ H)(e:ε[i]?=aa (.own (.dK kvs))):∃a d,σ[i]?=aa (aa (.ref a))/\H a=aa (.dK d)/\gT K H F kvs d/\S i a/\∀b,S i b->b=a:=by obtain⟨a,l,⟨f,j,g⟩,c⟩:=r.own i _ e;exact⟨a,f,l,j,g,(c a).mpr rfl,λb h=>(c b).mp h⟩
theorem aM.updO{l po':PO}{o':HO}(r:aM K F S ε σ H)(e:ε[i]?=aa (.own l))(N:gK l=ah)(D:σ[i]?=aa (aa (.ref a)))(M:cN o')(h:∀u,(∀x v,aZ K H F x v->aZ K u F x v)->(∀x v,bc K H F x v->bc K u F x v)->u a=aa o'->∀G:ac->Prop,(∀b,G b↔b=a)->eu K u F po' a G):aM K F S (ε.set i (.own po')) σ (L2.upd H a o')/\bd (U S) (U S) F F H (L2.upd H a o'):=by
 obtain⟨O,E,L⟩:=r.own i l e;rw[D]at E;cases E;have m:=DJ L N;have A:S i a:=(m a).mpr rfl;have C:∀b,S i b->b=a:=λb z=>(m b).mp z;have y:i<ε.length:=(cF.mp e).1;have g:bd (U S) (U S) F F H (L2.upd H a o'):=⟨λ_ z=>z,λb o q n=>by rw[bo (by rintro rfl;exact n ⟨i,A⟩)];exact q,λb o q=>by
  by_cases B:b=a
  .subst B;exact⟨_,bW⟩
  .exact⟨o,by rw[bo B];exact q⟩,λ_ z=>.inl z,λ_ z=>.inl z⟩
 refine⟨⟨by rw[fW];exact r.len,λb z=>let ⟨o,q⟩:=r.ex b z;g.there b o q,λj pv q=>?_,λj l q=>?_,λj b z=>?_,r.dist⟩,g⟩
 .have f:i≠j:=by rintro rfl;rw[cu y]at q;cases q
  rw[cj f]at q;obtain⟨v,s,p⟩:=r.val j pv q;exact⟨v,s,p.grow g r.fit⟩
 .by_cases f:i=j
  .subst f;rw[cu y]at q;cases q;exact⟨a,D,h _ (λ_ _ z=>z.grow g r.fit) (λ_ _ z=>z.grow g r.fit) bW _ m⟩
  .rw[cj f]at q;obtain⟨c,s,p⟩:=r.own j l q;refine⟨c,s,p.mono (λ_ _ z=>z.grow g r.fit) (λ_ _ z=>z.grow g r.fit) λb o z w=>?_⟩;rw[bo (by rintro rfl;exact f (r.dist i j b A z))];exact w
 .obtain⟨⟨l,s⟩,p,o,J,I⟩:=r.foot j b z;by_cases f:i=j
  .subst f;rw[C b z];exact⟨⟨_,cu y⟩,by rw[<-C b z];exact p,_,bW,M⟩
  .exact⟨⟨l,by rw[cj f];exact s⟩,p,o,by rw[bo (by rintro rfl;exact f (r.dist i j b A z))];exact J,I⟩
end
def eD(ε:ae)(i:Nat):Option (List (aJ×PV)):=match ε[i]? with
 |some (.own (.dK a))=>aa a
 |_=>af
theorem mT{b:ae}{i:Nat}{a:List (aJ×PV)}(h:eD b i=aa a):b[i]?=aa (.own (.dK a)):=by
 unfold eD at h;split at h
 .cases h;assumption
 .cases h
section
variable{X:Cx}{E:XK}{pin:List Nat}{e b c:aD}{de db f:ae->R PV}{d:Pos}
def z5:ae->R PO:=λa=>.ok (.dK []) a
theorem Ju:DN X E (.Dict [] [] d) z5:=λF S l i H Q g h=>bV Dy λp a=>by
 have al:Al F F H (upd H p (.dK [])):=Al.new0 a;refine h F S _ (g.al al) al.grow p (λb=>b=p) ⟨⟨[],bW,.nil⟩,λb=>pT⟩ λb z=>?_;subst z;refine⟨a,λz=>?_,λ⟨j,z⟩=>?_,_,bW,trivial⟩
 .obtain⟨o,q⟩:=g.ex b z;rw[a]at q;cases q
 .obtain⟨_,_,o,q,_⟩:=g.foot j b z;rw[a]at q;cases q
def ji(i:Nat)(db:ae->R PV):ae->R PV:=λε=>(aC (eD ε i) ε).bind λ_ ε=>(db ε).bind λk a=>(aC (eD a i) a).bind λg a=>aC ((g8 k).bind λk=>jy g k) a
theorem zY(i:Nat){y:Str}{A:Pos}(hu:X.A.units+64<cLine)(L:DE X E b db)(N:X.N[i]?=aa y:=by rfl)(O:c6 X.env.scope y:=by eq_refl)(K:(y==("__debug__":Str))=aj:=by decide) (P:(y==("__classdict__":Str))=aj:=by decide) (I:wS b:=by exact λ_ _=>rfl):DE X E (.Subscript (.Name y A) b d) (ji i db):=λF S o z H Q p h=>by
 unfold ji at h;cases n:eD o i with
 |none=>rw[n]at h;exact h.elim
 |some s=>
  rw[n]at h;simp only[cK,R.bind_ok]at h;obtain⟨a,B,w,_⟩:=p.dkAt (mT n);refine bV (Co ∅ (dG N O K P) bA I) ⟨.ref a,w,L F S o z H _ p ((Ok.bind h).imp λk j Y T W r g1 q u C=>?_)⟩;cases m:eD j i with
  |none=>rw[m]at q;exact q.elim
  |some G=>
   rw[m]at q;simp only[cK,R.bind_ok]at q;obtain⟨a',Z,g,M,J,_⟩:=r.dkAt (mT m);rw[w]at g;cases g;cases l:g8 k with
   |none=>rw[l]at q;exact q.elim
   |some D=>
    rw[l,gu]at q;rw[uh C l];rcases J.val D with⟨x,v,h1,h2,h3⟩|⟨h1,h2⟩
    .rw[h1]at q;exact⟨a,v,rfl,by rw[<-h2];exact lA.k M,q Y T W r (bd.refl ..) v h3⟩
    .rw[h1]at q;exact q.elim
def mO(i:Nat)(db f:ae->R PV):ae->R PV:=λg=>(aC (eD g i) g).bind λ_ g=>(db g).bind λk h=>(f h).bind λz a=>(aC (eD a i) a).bind λj a=>aC ((g8 k).map λk=>(jy j k).getD z) a
theorem Fp(i:Nat){y:Str}{j g:Pos}(hu:X.A.units+64<cLine)(hb:DE X E b db)(hc:DE X E c f)(hN:X.N[i]?=aa y:=by rfl)(eJ:c6 X.env.scope y:=by eq_refl)(hd:(y==("__debug__":Str))=aj:=by decide) (ba:(y==("__classdict__":Str))=aj:=by decide)(l:fq (.Name y j) "get" X.env (aK (.Name y j) X.env)=aK (.Name y j) X.env:=by rfl) (A:(g.endLine == d.line)=ah:=by rfl) (s1:lK b=aj:=by rfl) (Z:lK c=aj:=by rfl):DE X E (.Call (.Attribute (.Name y j) "get" g) [b,c] [] d) (mO i db f):=λF S I G H Q K h=>by
 have J:aN [b,c] X.env=[(aj,aK b X.env),(aj,aK c X.env)]:=by rw[jv s1,jv Z];rfl
 have m:M2 X (.Name y j) "get" g b c d:=⟨l,by rw[J];rfl,A,by rw[J];rfl⟩
 unfold mO at h;cases D:eD I i with
 |none=>rw[D]at h;exact h.elim
 |some L=>
  rw[D]at h;simp only[cK,R.bind_ok]at h;obtain⟨a,W,N,Y,_⟩:=K.dkAt (mT D);refine bV (KO ∅ (dG hN eJ hd ba) bA bA m) ⟨.ref a,N,a,rfl,.inl ⟨_,.inl Y⟩,hb F S I G H _ K ((Ok.bind h).imp λk p F1 S1 H1 r1 g1 q u ru=>?_)⟩;refine hc F1 S1 p G H1 _ r1 ((Ok.bind q).imp λz o T O P s g2 q w r=>?_);cases C:eD o i with
  |none=>rw[C]at q;exact q.elim
  |some kvs=>
   rw[C]at q;simp only[cK,R.bind_ok]at q;obtain⟨a',ws,n,M,hk,_⟩:=s.dkAt (mT C);rw[N]at n;cases n;cases B:g8 k with
   |none=>rw[B]at q;exact q.elim
   |some ky=>
    rw[B,pQ]at q;rw[uh ru B];rcases hk.val ky with⟨x,v,l,h2,A⟩|⟨l,h2⟩
    .rw[l]at q;exact⟨aa v,by rw[<-h2];exact lA.k M,q T O P s (bd.refl ..) v A⟩
    .rw[l]at q;exact⟨af,by rw[<-h2];exact lA.k M,q T O P s (bd.refl ..) w r⟩
def l5(i:Nat)(db de:ae->R PV):ae->R aH:=λj=>(de j).bind λy g=>(aC (eD g i) g).bind λ_ g=>(db g).bind λk a=>(aC (eD a i) a).bind λh a=>(aC (g8 k) a).bind λk a=>if h.length<bH then .ok .next (a.set i (.own (.dK (qf h k y))))else .no
theorem Bi(i:Nat){y:Str}{C j:Pos}(hu:X.A.units+64<cLine)(hb:DE X E b db)(he:DE X E e de)(hN:X.N[i]?=aa y:=by rfl)(eJ:c6 X.env.scope y:=by eq_refl)(hd:(y==("__debug__":Str))=aj:=by decide) (ba:(y==("__classdict__":Str))=aj:=by decide) (Z:ii e (aa (.Subscript (.Name y C) b j)) d.line X.env=pure aj:=by rfl):DS X E pin (.Assign [.Subscript (.Name y C) b j] e d) (l5 i db de):=λF S K o H D T h=>by
 refine eC (C5 ∅ (dG hN eJ hd ba) bA bA Z) (he F S K o H _ T (h.bindE.imp λy l F1 S1 H1 r g1 q v P=>?_));cases B:eD l i with
 |none=>rw[B]at q;exact q.elim
 |some I=>
  rw[B]at q;simp only[cK,R.bind_ok]at q;obtain⟨a,L,z,vB,_⟩:=r.dkAt (mT B);refine⟨.ref a,z,hb F1 S1 l o H1 _ r (q.bindE.imp λk p F2 S2 H2 G g2 g u Q=>?_)⟩;cases n:eD p i with
  |none=>rw[n]at g;exact g.elim
  |some w=>
   rw[n]at g;simp only[cK,R.bind_ok]at g;obtain⟨a',M,m,ha,J,_⟩:=G.dkAt (mT n);rw[z]at m;cases m;cases A:g8 k with
   |none=>rw[A]at g;exact g.elim
   |some s=>
    rw[A]at g;simp only[cK,R.bind_ok]at g;split at g
    .rename_i hl;rw[uh Q A];have x:=J.put s (P.grow g2 r.fit);obtain⟨W,g3⟩:=G.updO (po':=.dK (qf w s y)) (o':=.dK (eW M s v)) (mT n) rfl z trivial λH' Y m2 N Sa O=>⟨⟨_,N,x.mono Y⟩,O⟩
     exact⟨a,_,rfl,x0.k ha (by rw[J.len];exact fU hl jf),g F2 S2 o _ W g3 (iq.refl _ _)⟩
    .exact g.elim
end
section
variable{X:Cx}
def tU(a d:ac):HO:=.ext λh=>h.IsValuesView a d
theorem Nx:xY X "dict.values" (λx xs H Q=>∃d b,x=.ref d/\xs=[]/\H d=aa (.dK b)/\∀a,H a=af->Q (.ref a) (upd H a (tU a d))):=by
 intro y s p H x xs v r Q I g i h;obtain⟨d,b,rfl,rfl,n,q⟩:=h;cases g;cases i.zero;obtain⟨z,m,f,rel,c⟩:=tY I.hok n;refine BQ PySem.F.slot_dict_values c.typeIs PySem.F.entry_dict_values (PySem.F.args_dict_values_1 _) (meets_dict_values (g9 X.prog X.w) d m) ⟨⟨f,c⟩,?_⟩;refine⟨.ref s.heap.objs.size,_,I.laid (a:=s.heap.objs.size) (o:=tU s.heap.objs.size d) (t':=s.toks) (λ_ _ q=>bN _ q) (bB _) ?_,rfl,q _ I.fresh⟩;exact⟨⟨_,cW _ rfl,rfl,rfl⟩,⟨_,cW _ rfl⟩,λw u ⟨o,l,j⟩ k=>⟨o,k o l,j⟩⟩
theorem KV.at{kvs:List (aJ×V)}{vs:List (aJ×ai)}(r:KV kvs vs){i:Nat}{k:aJ}{u:ai}(h:vs[i]?=aa (k,u)):∃v,kvs[i]?=aa (k,v)/\RelV v u:=by
 unfold KV at r
 induction r generalizing i with
 |nil=>simp at h
 |@cons p q ps qs r1 _ ih=>
  cases i with
  |zero=>simp at h;subst h;exact⟨p.2,by simp[show k=p.1 from r1.1.symm],r1.2⟩
  |succ i=>exact ih (by simpa using h)
def j_(a:List (aJ×V)):Option Bool:=match a with
 |[]=>aa aj
 | (_,.int i)::r=>(j_ r).map λb=>(decide (i≠0))||b
 |_=>af
theorem Er:∀{a:List (aJ×V)}{b:Bool},j_ a=aa b->(∀(i:Nat) k v,a[i]?=aa (k,v)->∃n,v=.int n)/\b=(bX a.length).any λi=>match a[i]? with|aa (_,.int n)=>decide (n≠0)|_=>aj
 |[],b,h=>by simp[j_]at h;subst h;exact⟨by simp,rfl⟩
 | (k,.int n)::r,b,h=>by
  simp only[j_,uL]at h;obtain⟨l,j,g⟩:=h;obtain⟨f,d⟩:=Er j;refine⟨λi c v e=>?_,?_⟩
  .cases i with
   |zero=>simp at e;exact⟨n,e.2.symm⟩
   |succ i=>exact f i c v (by simpa using e)
  .rw[fL,BS,lP,List.any_map,<-g,d];rfl
 | (_,.non)::_,_,h=>by simp[j_]at h
 | (_,.bl _)::_,_,h=>by simp[j_]at h
 | (_,.str _)::_,_,h=>by simp[j_]at h
 | (_,.ref _)::_,_,h=>by simp[j_]at h
 | (_,.ty _)::_,_,h=>by simp[j_]at h
theorem Jt(N:X.calm=ah):d_ X (.builtin "any") (λxs H Q=>∃(p d:ac) (a:List (aJ×V)) (b:Bool),xs=[.ref p]/\H p=aa (tU p d)/\H d=aa (.dK a)/\j_ a=aa b/\Q (.bl b) H):=by
 intro Y s B H xs us Q I r h;obtain⟨p,d,a,b,rfl,l,M,P,q⟩:=h;obtain⟨u,rfl,D⟩:=vals1 r;cases D;obtain⟨j,_,_⟩:=(show dq X.prog X.w H s.heap p (tU p d)from I.hok p _ l)
 obtain⟨z,hs,f,rel,W⟩:=tY I.hok M;obtain⟨y,g⟩:=W.dictAt;obtain⟨K,J⟩:=Er P;refine call_any_walk (wpAny_pyIter_values j g ?_);refine⟨s.heap.objs.size,_,_,_,_,_,λi=>match a[i]? with|aa (_,.int n)=>decide (n≠0)|_=>aj,rfl,Walks.dictValues (sI (I.ok.hd N)) _ d (dm g.lt_size) f y,⟨⟨_,cW _ rfl,rfl,rfl⟩,g.push _⟩,λi v s' Q' E' j m=>?_,λh' C k=>?_⟩
 .obtain⟨G,L⟩:=j;obtain⟨w,A,T⟩:=KV.at rel L;obtain⟨n,rfl⟩:=K i G w A;obtain⟨t,rfl⟩:=T;dsimp only at m;rw[A]at m;exact PyProof.Rows.truthy_int (by rw[show(n != 0)=decide (n≠0) by by_cases z:n=0 <;> simp[z]];exact m)
 .have Z:Inv X Y B H {s with heap:=s.heap.push {cls:=.type "dict_valueiterator",data:=.fields #[.ref d,.int 0 0,.int f.length 0,.int y 0]},toks:=s.toks}:=I.kept (t':=s.toks) λb o e=>bN _ e;have S:(bX f.length).any (λi=>match a[i]? with|aa (_,.int n)=>decide (n≠0)|_=>aj)=b:=by rw[<-rel.length];exact J.symm
  rw[S];exact⟨.bl _,H,Inv.turned (t':=C) Z (it:=s.heap.objs.size) (λb o O e=>k b o (by simpa using O) e) I.fresh (og I.lt) (.inr I.sz) (λx c e z=>by obtain⟨v,E⟩:=I.cell x c e;exact absurd E.lt (by rw[z];exact eX _)) (λF l z=>absurd (bK (I.pin F l).1) (by rw[z];exact eX _)),rfl,q⟩
end
section
variable{X:Cx}{E:XK}{pin:List Nat}{e b c:aD}{de db G:ae->R PV}{pos:Pos}
def pb:List (aJ×PV)->Option Bool
 |[]=>aa aj
 | (_,.int i)::r=>(pb r).map λb=>(decide (i≠0))||b
 |_=>af
theorem OE{K:au}{H:Hp}{F:ac->Prop}{a:List (aJ×PV)}{d:List (aJ×V)}{k:Bool}(h:gT K H F a d)(e:pb a=aa k):j_ d=aa k:=by
 unfold gT at h
 induction h generalizing k with
 |nil=>exact e
 |@cons p q C qs r _ ih=>
  obtain⟨l,pv⟩:=p;obtain⟨j,g⟩:=q;cases pv <;> simp only[pb,uL]at e <;> try cases e
  obtain⟨i,f⟩:=r;obtain rfl:g=V.int _:=f;rename_i h;simp only[j_,ih h.1,pQ];rw[<-h.2]
def tI(i:Nat):ae->R PV:=λa=>(aC (eD a i) a).bind λd a=>aC ((pb d).map .bl) a
theorem NH(i:Nat){y:Str}{g p f d:Pos}(D:X.calm=ah)(z:X.mg "any"=af)(I:X.N[i]?=aa y:=by rfl)(K:c6 X.env.scope y:=by eq_refl)(C:(y==("__debug__":Str))=aj:=by decide) (N:(y==("__classdict__":Str))=aj:=by decide) (B:Gl X "any":=by rfl)(x:fq (.Name y g) "values" X.env (aK (.Name y g) X.env)=aK (.Name y g) X.env:=by rfl) (w:(f.endLine == d.line)=ah:=by rfl)(u:aN [.Call (.Attribute (.Name y g) "values" f) [] [] d] X.env=(aj,aK (.Call (.Attribute (.Name y g) "values" f) [] [] d) X.env)::aN [] X.env:=by rfl) (M:(b9 pos (aN [] X.env)).any (·.1)=aj:=by rfl):DE X E (.Call (.Name "any" p) [.Call (.Attribute (.Name y g) "values" f) [] [] d] [] pos) (tI i):=λF S v O H Q s h=>by
 unfold tI at h;cases o:eD v i with
 |none=>rw[o]at h;exact h.elim
 |some l=>
  rw[o]at h;simp only[cK,R.bind_ok]at h;obtain⟨a,r,J,j,A,P,_⟩:=s.dkAt (mT o);cases n:pb l with
  |none=>rw[n]at h;exact h.elim
  |some k=>
   rw[n,pQ]at h;refine bV (rm (Jt D) B z Of (f8 (Do GP PySem.F.slot_dict_values PySem.F.type_dict_values Nx (dG I K C N) x w) g_ u) (by decide) (by decide) u M) ⟨.ref a,J,.inr (.inr (.inl ⟨rfl,.inl ⟨_,j⟩⟩)),a,r,rfl,rfl,j,λq m=>?_⟩;have al:Al F F H (L2.upd H q (tU q a)):=Al.new0 m;have L:a≠q:=by rintro rfl;rw[j]at m;cases m
   exact⟨q,a,r,k,rfl,bW,by rw[bo L];exact j,OE A n,h F S _ (s.al al) al.grow _ rfl⟩
def wF(X:Cx)(E:XK)(m:List aD)(d:ae->R (PO×List bQ)):Prop :=
 ∀F S i f H Q,aM X.K F S i f H->Ok X.K E f F S H (d i) (λp _ h n g=>∀a l j,eu X.K g h p.1 a l->(∀b,l b->H b=af/\¬h b/\¬U n b/\∃o,g b=aa o/\cN o)->fh X.K (f++[aa (.ref a)]) h g p.2 j->Q j g)->oN X m f H Q
theorem fh.app{K:au}{g:St}{F:ac->Prop}{H:Hp}(d:St):∀{j:List bQ}{vs:List V},fh K g F H j vs->fh K (g++d) F H j vs
 |[],_,h=>h
 |.inl _::_,_,⟨v,r,e,a,f⟩=>⟨v,r,e,a,f.app d⟩
 |.inr i::_,_,⟨v,r,e,a,f⟩=>⟨v,r,e,by rw[i6 (cF.mp a).1];exact a,f.app d⟩
theorem eu.stay{K:au}{O f F F':ac->Prop}{H H':Hp}{po:PO}{a:ac}{Sa:ac->Prop}(l:eu K H F po a Sa)(g:bd O f F F' H H')(fit:Fit O F H)(d:∀b,Sa b->¬F b/\¬O b/\∃o,H b=aa o/\cN o):eu K H' F' po a Sa/\∀b,Sa b->¬F' b/\¬f b/\∃o,H' b=aa o/\cN o:=by refine⟨l.mono (λ_ _ z=>z.grow g fit) (λ_ _ z=>z.grow g fit) λb o z w=>(g.stay w (d b z).2.1 (d b z).1).1,λb z=>?_⟩;obtain⟨q,p,o,n,m⟩:=d b z;obtain⟨j,i,h⟩:=g.stay n p q;exact⟨i,h,o,j,m⟩
variable{m:List aD}{dn:ae->R PO}{B:ae->R (List bQ)}{A:ae->R (PO×List bQ)}
def gN(dn:ae->R PO)(B:ae->R (List bQ)):ae->R (PO×List bQ):=λε=>(dn ε).bind λf d=>(B d).bind λg a=>.ok (f,.inr a.length::g) a
theorem DC(w:DN X E e dn)(v:DG X E m B)(u:lK e=aj:=by rfl):wF X E (e::m) (gN dn B):=λF S q i H Q r h=>by refine oV (f8 bA iC (jv u)) (w F S q i H _ r ((Ok.bind h).imp λP d O K M n T y a I s o=>?_));refine v O K d i M _ n ((Ok.bind y).imp λW p N J L l C x j D=>?_);obtain⟨f,g⟩:=s.stay C n.fit λb z=>(o b z).2;refine x N J L l (bd.refl ..) a I (.ref a::j) f (λb z=>⟨(o b z).1,g b z⟩) ⟨.ref a,j,rfl,?_,D.app _⟩;rw[l.len,rR (bB _),Nat.sub_self];rfl
def mD(d:ae->R PV)(A:ae->R (PO×List bQ)):ae->R (PO×List bQ):=λε=>(d ε).bind λx f=>(A f).bind λp a=>.ok (p.1,.inl x::p.2) a
theorem y8(y:DE X E e de)(w:wF X E m A)(u:lK e=aj:=by rfl):wF X E (e::m) (mD de A):=λF S l f H Q q h=>by refine oV (f8 bA iC (jv u)) (y F S l f H _ q ((Ok.bind h).imp λx d W N P g J D v o=>?_));refine w W N d f P _ g ((Ok.bind D).imp λp j T M O r I C a L n s i K=>?_);exact C T M O r (bd.refl ..) a L _ s (λb z=>⟨lz J (i b z).1,(i b z).2⟩) ⟨v,n,rfl,o.grow I g.fit,K⟩
theorem aM.push{K:au}{F:ac->Prop}{S:Nat->ac->Prop}{d:ae}{y:St}{H:Hp}{w:PO}{a:ac}{i:ac->Prop}(r:aM K F S d y H)(C:eu K H F w a i)(x:∀b,i b->¬F b/\¬U S b/\∃o,H b=aa o/\cN o):aM K F (λj b=>S j b\/(j=d.length/\i b)) (d++[.own w]) (y++[aa (.ref a)]) H:=by
 have lt:∀j b,S j b->j<d.length:=λj b z=>by obtain⟨⟨p,q⟩,_⟩:=r.foot j b z;exact(cF.mp q).1
 refine⟨by simp[r.len],r.ex,λj pv q=>?_,λj p q=>?_,λj b z=>?_,λj k b g f=>?_⟩
 .by_cases h:j<d.length
  .rw[i6 h]at q;obtain⟨v,u,l⟩:=r.val j pv q;exact⟨v,by rw[i6 (by rw[<-r.len];exact h)];exact u,l⟩
  .rw[rR ∅]at q;cases s:j-d.length with
   |zero=>rw[s]at q;simp at q
   |succ n=>rw[s]at q;simp at q
 .by_cases h:j<d.length
  .rw[i6 h]at q;obtain⟨v,u,l⟩:=r.own j p q;refine⟨v,by rw[i6 (by rw[<-r.len];exact h)];exact u,?_⟩;have:(λb=>S j b\/(j=d.length/\i b))=S j:=by funext b;exact propext ⟨λz=>z.elim id λz=>absurd z.1 (dm h),.inl⟩
   rw[this];exact l
  .rw[rR ∅]at q;cases s:j-d.length with
   |zero=>
    rw[s]at q;simp at q;subst q;have J:j=d.length:=∅
    subst J;refine⟨a,by rw[r.len,rR (bB _),Nat.sub_self];rfl,?_⟩;have:(λb=>S d.length b\/(d.length=d.length/\i b))=i:=by funext b;exact propext ⟨λz=>z.elim (λz=>absurd (lt _ _ z) (eX _)) (·.2),λz=>.inr ⟨rfl,z⟩⟩
    rw[this];exact C
   |succ n=>rw[s]at q;simp at q
 .rcases z with z|⟨rfl,z⟩
  .obtain⟨⟨p,q⟩,l⟩:=r.foot j b z;exact⟨⟨p,by rw[i6 (lt j b z)];exact q⟩,l⟩
  .obtain⟨I,L,D⟩:=x b z;exact⟨⟨w,by rw[rR (bB _),Nat.sub_self];rfl⟩,I,D⟩
 .rcases g with g|⟨rfl,g⟩ <;> rcases f with f|⟨rfl,f⟩
  .exact r.dist j k b g f
  .exact absurd ⟨j,g⟩ (x b f).2.1
  .exact absurd ⟨k,f⟩ (x b g).2.1
  .rfl
theorem aM.pop{K:au}{F:ac->Prop}{S:Nat->ac->Prop}{d:ae}{n:Slot}{h:St}{u:Option V}{H:Hp}(r:aM K F S (d++[n]) (h++[u]) H):aM K F (λj b=>S j b/\j<d.length) d h H:=by
 have len:d.length=h.length:=by have:=r.len;simpa using this
 refine⟨len,r.ex,λj pv q=>?_,λj p q=>?_,λj b z=>?_,λj k b l i=>r.dist j k b l.1 i.1⟩
 .have a:=(cF.mp q).1;obtain⟨v,g,f⟩:=r.val j pv (by rw[i6 a];exact q);exact⟨v,by rw[i6 (by rw[<-len];exact a)]at g;exact g,f⟩
 .have a:=(cF.mp q).1;obtain⟨v,g,f⟩:=r.own j p (by rw[i6 a];exact q);refine⟨v,by rw[i6 (by rw[<-len];exact a)]at g;exact g,?_⟩;have:(λb=>S j b/\j<d.length)=S j:=by funext b;simp[a]
  rw[this];exact f
 .obtain⟨⟨p,q⟩,f⟩:=r.foot j b z.1;exact⟨⟨p,by rw[i6 z.2]at q;exact q⟩,f⟩
def zZ{a:Type}:R a->R a
 |.ok s ε=>.ok s ε.dropLast
 |.er c ε=>.er c ε.dropLast
 |.no=>.no
def l7(g:ae->R Slot)(A:ae->R (PO×List bQ)):ae->R Slot:=λε=>(A ε).bind λp a=>(aC (if(br p.2).Nodup then bU (a++[.own p.1]) p.2 else af) a).bind λd a=>zZ (cc (a++[.own p.1]) p.2 (g d))
theorem Cz{a:ae}{n:Nat}(h:a.length=n+1):∃l x,a=l++[x]/\l.length=n:=by
 refine⟨a.dropLast,a.getLast (by intro z;rw[z]at h;cases h),(List.dropLast_concat_getLast _).symm,by rw[yh,h];rfl⟩
theorem bd.pushed{K:au}{F s:ac->Prop}{S i:Nat->ac->Prop}{f H p:Hp}{n:Nat}{h:ac->Prop}(g:bd (U λj b=>S j b\/(j=n/\h b)) (U i) F s H p){r:ac->Prop}{l:Nat->ac->Prop}(a:bd (U l) (U S) r F f H)(d:∀b,h b->f b=af):bd (U l) (U λj b=>i j b/\j<n) r s f p where
 fro:=λb z=>g.fro b (a.fro b z)
 keep:=λb o q no=>g.keep b o (a.keep b o q no) λ⟨j,z⟩=>by
  rcases z with z|⟨_,z⟩
  .rcases a.onew b ⟨j,z⟩with w|w
   .exact no w
   .rw[w]at q;cases q
  .rw[d b z]at q;cases q
 there:=λb o q=>let ⟨o',q'⟩:=a.there b o q;g.there b o' q'
 fnew:=λb z=>by
  rcases g.fnew b z with w|w|⟨j,w|⟨_,w⟩⟩
  .exact a.fnew b w
  .exact .inr (.inl (lz a w))
  .exact .inr ((a.onew b ⟨j,w⟩).symm)
  .exact .inr (.inl (d b w))
 onew:=λb ⟨j,z,_⟩=>by
  rcases g.onew b ⟨j,z⟩with⟨k,w|⟨_,w⟩⟩|w
  .exact a.onew b ⟨k,w⟩
  .exact .inr (d b w)
  .exact .inr (lz a w)
variable{D:eh}{x:Str}{k:Nat}{C:List Str}{g:ae->R Slot}{p:Pos}
theorem Fx(c:cD D X.prog X.w X.K X.mg X.base x k C (bh X.K g))(hr:cM k X.A)(hx:kD D X E)(ha:wF X E (e::m) A)(hg:Gl X x:=by rfl)(hd:(x==("__debug__":Str))=aj:=by decide) (h1:aN (e::m) X.env=(aj,aK e X.env)::aN m X.env:=by rfl) (h2:(b9 pos (aN m X.env)).any (·.1)=aj:=by rfl):DR X E (.Call (.Name x p) (e::m) [] pos) (l7 g A):=λF S ε P H Q rl h=>by
 obtain⟨f,fd,hm,Fn,hb,hk⟩:=c.ex;refine bV (Dq Fn hr hg hm hk hb .nil hx iC hd h1 h2) (ha F S ε P H _ rl ?_);unfold l7 at h;cases ed:A ε with
 |no=>rw[ed]at h;exact h.elim
 |er cv d=>rw[ed]at h;exact h
 |ok pa d=>
  obtain⟨N,q⟩:=pa;rw[ed]at h;simp only[R.bind_ok]at h;intro F1 S1 H1 r1 g1 a Sa vs ow W O;dsimp only at h O ow;have M:=r1.push ow λb z=>(W b z).2;by_cases nd:(br q).Nodup
  .rw[if_pos nd]at h;cases m:bU (d++[.own N]) q with
   |none=>rw[m]at h;exact h.elim
   |some ss=>
    rw[m]at h;simp only[cK,R.bind_ok]at h;rw[i5];refine⟨F1,lJ q _,ss,M.cal O m nd,?_⟩;have len:∀n,(ce (d++[.own N]) q n).length=d.length+1:=λn=>by rw[wo];simp
    cases eg:g ss with
    |no=>rw[eg]at h;exact h.elim
    |er cv n=>
     rw[eg]at h;intro y F' S' H' T g';unfold cc at h;dsimp only at h;by_cases u:cb q n=ah
     .rw[if_pos u]at h;obtain⟨S2,I,Z,_⟩:=M.called O m nd T g' (λ_ z=>z) (mB u);obtain⟨l,sl,L,Y⟩:=Cz (len n);rw[L]at I;have h:Ok X.K E P F S H (R.er cv (ce (d++[.own N]) q n).dropLast:R Slot) _:=h;rw[L,List.dropLast_concat]at h;have J:=bd.pushed (K:=X.K) Z g1 λb z=>(W b z).1;rw[<-Y]at J;exact h y F' _ H' I.pop J
     .rw[if_neg u]at h;exact h.elim
    |ok s n=>
     rw[eg]at h;intro v F' S' H' Sr T g' rv r fr;unfold cc at h;dsimp only at h;by_cases u:cb q n=ah
     .rw[if_pos u]at h;obtain⟨S2,I,Z,u2⟩:=M.called O m nd T g' (λ_ z=>.inl z) (mB u);obtain⟨l,sl,L,Y⟩:=Cz (len n);rw[L]at I;have h:Ok X.K E P F S H (R.ok s (ce (d++[.own N]) q n).dropLast:R Slot) _:=h;rw[L,List.dropLast_concat]at h;have J:=bd.pushed (K:=X.K) Z g1 λb z=>(W b z).1;rw[<-Y]at J;refine h F' _ H' I.pop J v Sr rv λb z=>⟨lz g1 (fr b z),(r b z).1,λ⟨j,w,_⟩=>?_,(r b z).2.2⟩
      rcases u2 b ⟨j,w⟩with w|⟨i,w⟩
      .exact(r b z).2.1 w
      .obtain⟨_,_,o,y1,_⟩:=M.foot i b w;rw[fr b z]at y1;cases y1
     .rw[if_neg u]at h;exact h.elim
  .rw[if_neg nd]at h;exact h.elim
end
section
variable{X:Cx}{E:XK}{pin:List Nat}{e b c o:aD}{de db u d:ae->R PV}{n:ae->R (List PV)}{g p q m:Pos}
def tN:List PV->Option PO
 |[.lst xs]=>(iD xs).bind λa=>if a≠[]/\(fR a).length<60 then aa (.lst (ak (bJ (fR a))))else af
 |_=>af
def OI(X:Cx)(r:List V->Hp->VK->Prop):List V->Hp->VK->Prop:=λxs H Q=>∃(p:ac) (f:List Tx),xs=[.ref p]/\cp X.K H p (dO f)/\(fR f).length<4000/\∀a,H a=af->r [.ref a] (upd H a (oR X a (fR f))) Q
def Kj(X:Cx):List V->Hp->VK->Prop:=λxs H Q=>∃(p:ac) (a:List Tx),xs=[.ref p]/\H p=aa (oR X p a)/\a≠[]/\a.length<64/\∀l,H l=af->Q (.ref l) (upd H l (.lst (dO (bJ a))))
theorem KY{l:List Tx}(h:l≠[]):fR l≠[]:=λz=>by
 cases l with
 |nil=>exact h rfl
 |cons x r=>have:x∈fR (x::r):=(tz _ _).mpr (by simp);rw[z]at this;simp at this
theorem IL:mi X.K (OI X (Kj X)) tN:=λF H xs K Q M I y e q=>by
 unfold tN at e;split at e
 .obtain⟨v,rfl,a,L,rfl,G,_,s⟩:=iu y;obtain⟨i,J,r⟩:=B8.mp e;rw[yX J]at s;obtain⟨rfl,B⟩:=Sf.mp s;split at r
  .rename_i C;cases r;refine⟨a,i,rfl,.inl G,∅,λb D=>⟨b,fR i,rfl,bW,KY C.1,∅,λl f=>?_⟩⟩;have j:l≠b:=by rintro rfl;rw[bW]at f;cases f
   have h:H l=af:=by rw[bo j]at f;exact f
   have al:Al F F H (upd (upd H b (oR X b (fR i))) l (.lst (dO (bJ (fR i))))):=(Al.new0 D).trans (Al.new0 f);refine q l F _ (λc=>c=l) al ⟨⟨_,bW,Sf.mpr ⟨rfl,λx A=>B x ((tz _ _).mp ((jU _).mem_iff.mp A))⟩⟩,λc=>pT⟩ λc z=>?_;subst z;exact⟨h,λz=>Exists.elim (I _ z) (λo w=>by rw[h]at w;cases w),_,bW,trivial⟩
  .cases r
 .cases e
theorem MF(i:X.calm=ah)(s:DA X E [e] n)(l:X.mg "sorted"=af)(a:X.mg "set"=af)(r:Gl X "sorted":=by rfl)(f:Gl X "set":=by rfl)(h:lK e=aj:=by rfl):DN X E (.Call (.Name "sorted" p) [.Call (.Name "set" q) [e] [] m] [] g) (dL tN n):=λF S x w H Q j v=>bV (rm (Ir i) r l wQ (f8 (ub (Lp i) f a Mi iC (by decide) (by decide) (jv h) rfl) g_ (jv rfl)) (by decide) (by decide) (jv rfl) rfl) (wR IL s j v)
def kF(i j:Nat)(d:ae->R PV):ae->R aH:=λε=>(d ε).bind λx ε1=>match x with
 |.tup [a,b]=>.ok .next ((ε1.set i (.val a)).set j (.val b))
 |_=>.no
theorem Bj(i j:Nat){x y:Str}{k:Nat}{f r l:Pos}(hc:X.calm=ah)(w:X.N.Nodup)(he:DE X E e de)(hp:i∉pin:=by decide)(gw:j∉pin:=by decide)(hi:X.N[i]?=aa x:=by rfl)(hj:X.N[j]?=aa y:=by rfl)(W:Loc X.env.scope x:=by first|exact Or.inl rfl|exact Or.inr rfl) (T:Loc X.env.scope y:=by first|exact Or.inl rfl|exact Or.inr rfl)(hf:X.fn x=ah\/X.env.scope.names.lookup x=aa .local:=by first|exact .inl rfl|exact .inr rfl) (P:X.fn y=ah\/X.env.scope.names.lookup y=aa .local:=by first|exact .inl rfl|exact .inr rfl)(Z:BB [.Tuple [.Name x r,.Name y l] k f] e g.line X.env=pure aj:=by rfl) (Y:BC [.Tuple [.Name x r,.Name y l] k f] e X.env=pure af:=by rfl):DS X E pin (.Assign [.Tuple [.Name x r,.Name y l] k f] e g) (kF i j de):=λF S C A H D L h=>by
 refine eC (Me bA (AM hc (rE (n_ w hi W hf) (rE (n_ w hj T P) AK))) Z Y rfl) (he F S C A H _ L (h.bindE.imp λz B F1 S1 H1 O g1 s v J=>?_));split at s
 .rename_i a b;obtain⟨p,us,rfl,Q,K⟩:=J;obtain⟨I,ra,rfl,N,G,rb,rfl,M,rfl⟩:=K;refine⟨p,_,rfl,dj.of Q,rfl,I,_,rfl,G,_,rfl,rfl,?_⟩;exact s F1 _ _ H1 ((O.set N).set M) ((bd.less i).trans (bd.less j)) ((iq.set hp).trans (iq.set gw))
 .exact s.elim
def Li(K:au)(r:V->List V->Hp->VK->Prop)(h:TE)(t:TA):TE:=λa H Q=>h a H λx f=>(∃p xs,x=.ref p/\f p=aa (.tup xs))/\t a f λxs i=>r x xs i Q
theorem H_{i:Str}{w:String}{r:V->List V->Hp->VK->Prop}{B:TE}{t:TA}{j f:Pos}{es:List aD}(l:PySem.Slot "tuple" i w)(S:typeOf (.builtin w)=pure (.type "method_descriptor"))(hm:xY X w r)(ho:PE X o B)(ha:PA X (e::es) t)(Z:fq o i X.env (aK o X.env)=aK o X.env:=by rfl)(Cg:((b9 f (aN (e::es) X.env)).all (λx=>!x.1)&&(jp f (jq [] X.env)).all (λx=>x.1.isSome)&&decide ((e::es).length+([]:List gq).length+(if([]:List gq).isEmpty then 0 else 1)<30))=ah:=by rfl)(Y:(j.endLine == f.line)=ah:=by rfl) (hs:aN (e::es) X.env=(aj,aK e X.env)::aN es X.env:=by rfl) (Cd:(b9 f (aN es X.env)).any (·.1)=aj:=by rfl):PE X (.Call (.Attribute o i j) (e::es) [] f) (Li X.K r B t):=by
 intro A s y H Q I h;refine wpAny_Call_method_late Z Cg Y rfl (aW (ho A s y H _ I h) λv C h'=>?_);obtain⟨x,G,F,N,⟨p,xs,rfl,hp⟩,P⟩:=h';cases N;obtain⟨_,its,_,⟨T,e1,e2,_⟩,W,e3,e4⟩:=(show dq X.prog X.w G C.heap p (.tup xs)from F.hok p _ hp)
 refine⟨"tuple",w,PySem.F.plainAttrs_tuple,l,S,⟨T,e1,e2⟩,λa z=>?_,?_⟩
 .cases z;exact⟨W,e3,e4⟩
 have D:=ha f A C y G _ F P;rw[hs]at D ⊢;refine yf (by show(aj||(b9 f (aN es X.env)).any (·.1))=aj;rw[Cd] <;> rfl) (yg ?_);exact aW D λK L h2=>by obtain⟨J,H2,I2,M,O⟩:=h2;exact hm A L y H2 (.ref p) J (.ref p) K Q I2 rfl M O
def qm(f:List PV->PV->Option PV)(d de:ae->R PV):ae->R PV:=λε=>(d ε).bind λx h=>match x with
 |.tup xs=>(de h).bind λk a=>aC (f xs k) a
 |_=>.no
theorem ET{f a:Pos}(T:DE X E o d)(Y:DE X E e de)(P:fq o "count" X.env (aK o X.env)=aK o X.env:=by rfl)(O:(f.endLine == a.line)=ah:=by rfl) (Z:lK e=aj:=by rfl):DE X E (.Call (.Attribute o "count" f) [e] [] a) (qm lI d de):=λF S J B H Q M h=>by
 have y:=jv (es:=[]) (env:=X.env) Z;refine bV (H_ PySem.F.slot_tuple_count PySem.F.type_tuple_count Hz bA (f8 bA g_ y) P (by rw[y];rfl) O y rfl) (T F S J B H _ M ((Ok.bind h).imp λx j F1 S1 H1 r g1 A v K=>?_));split at A
 .rename_i xs;obtain⟨p,C,rfl,D,L⟩:=K;refine⟨⟨p,C,rfl,D⟩,Y F1 S1 j B H1 _ r ((Ok.bind A).imp λk I F2 S2 H2 N G q w l=>?_)⟩;unfold lI at q;cases i:c_ k with
  |none=>rw[i]at q;exact q.elim
  |some z=>
   cases s:iO xs with
   |none=>rw[i,s]at q;exact q.elim
   |some ws=>rw[i,s]at q;obtain⟨rfl,W⟩:=sO (L.grow G r.fit) s;rw[jb l i];exact⟨p,C,z,rfl,rfl,dj.of (G.imm r.fit D id),qa i,W,q F2 S2 H2 N (bd.refl ..) _ rfl⟩
 .exact A.elim
end
theorem yW(a:Nat->Nat->Bool):∀k,k6 a k<=k
 |0=>bB _
 |k+1=>by
  unfold k6;split
  .exact bB _
  .exact Nat.le_succ_of_le (yW a k)
section
variable{X:Cx}
theorem Hr:dZ "min"=aa (.builtin "min"):=by decide +kernel
theorem DV:∀(a:List ai) (b:List Str),a.length=b.length->(∀(i:Nat) v x,a[i]?=aa v->b[i]?=aa x->∃t,v=.str x t)->gH a b
 |[],[],_,_=>.nil
 |v::a,x::b,c,h=>by obtain⟨t,rfl⟩:=h 0 v x rfl rfl;exact .cons x t (DV a b (yA c) λi v x f d=>h (i+1) v x (by simpa using f) (by simpa using d))
 |[],_::_,c,_=>by cases c
 |_::_,[],c,_=>by cases c
def n5:List (aJ×PV)->Option (List Tx)
 |[]=>aa []
 | (.inr k,_)::r=>(n5 r).map (k.cps.toList::·)
 |_=>af
theorem Fk:∀{a:List (aJ×PV)}{b:List Tx},n5 a=aa b->a.map (·.1)=b.map (λx=>Sum.inr (tS x))
 |[],b,h=>by cases h;rfl
 | (.inr k,_)::r,b,h=>by simp only[n5,uL]at h;obtain⟨l,c,rfl⟩:=h;rw[eY,eY,Fk c,EE]
 | (.inl _,_)::_,_,h=>by cases h
def Lz(b:List (aJ×PV)):Option PO:=(n5 b).bind λa=>if a.length<64/\(∀x∈a,x.length<=bH)then aa (.lst (ak (bJ a)))else af
def Q9(i:Nat):ae->R PO:=λa=>(aC (eD a i) a).bind λb a=>aC (Lz b) a
theorem gT.keys{K:au}{H:Hp}{F:ac->Prop}{a:List (aJ×PV)}{b:List (aJ×V)}(h:gT K H F a b):b.map (·.1)=a.map (·.1):=by
 unfold gT at h
 induction h with
 |nil=>rfl
 |cons r _ c=>rw[eY,eY,c,r.1]
end
end Pu
namespace L2
def Jg(b:KeyKind)(p:Keyed):Prop:=∃a,b.keyOf p.1=aa a
structure SB(kz:SortKind)(st:SortSt):Prop where
 kind:kindOf st=kz
 failed:failedOf st=af
section
variable{c:KeyKind}{d:SortKind}
theorem Qx(a:Array Keyed)(i j:Nat):(a.extract i j).toList=(a.toList.drop i).take (j-i):=by simp[Array.toList_extract,List.extract_eq_take_drop]
variable{a b out:Array Keyed}{g f:Nat}
end
section
variable{c:KeyKind}{f:SortKind}
theorem Mv(a:Array Keyed)(n:Nat):(a.extract 0 n).toList=a.toList.take n:=by rw[Qx];simp
variable{a b out:Array Keyed}{d nb:Nat}
end
section
variable{b:KeyKind}{c:SortKind}
def AllK(b:KeyKind)(a:Array Keyed):Prop:=∀i (d:i<a.size),Jg b a[i]
end
end L2
namespace Pu
open L2
def jT:List Int->Int
 |[]=>0
 |x::r=>r.foldl (λb y=>if y > b then y else b) x
theorem Qy(l:List Int)(y:Int)(h:l≠[]):jT (l++[y])=if y > jT l then y else jT l:=by
 cases l with
 |nil=>exact absurd rfl h
 |cons x r=>show(r++[y]).foldl _ x=_;rw[BX];rfl
theorem Gu(a:List Int):∀k,k<a.length->a[k6 (λi j=>decide (a.getD i 0 > a.getD j 0)) k]?=aa (jT (a.take (k+1)))
 |0,h=>by
  cases a with
  |nil=>cases h
  |cons x r=>simp[k6,jT]
 |k+1,h=>by
  have b:=Gu a k ∅;have e:a.take (k+1+1)=a.take (k+1)++[a[k+1]]:=by rw[RT h]
  have g:=yW (λi j=>decide (a.getD i 0 > a.getD j 0)) k;rw[e,Qy _ _ (by intro z;have:=congrArg nh z;rw[rQ,lQ]at this;lia)];unfold k6;have f:a.getD (k+1) 0=a[k+1]:=by simp[yq,h]
  have d:a.getD (k6 (λi j=>decide (a.getD i 0 > a.getD j 0)) k) 0=jT (a.take (k+1)):=by rw[B9,b];rfl
  rw[f,d];by_cases c:a[k+1] > jT (a.take (k+1))
  .rw[if_pos (by simpa using c),if_pos c];simp[h]
  .rw[if_neg (by simpa using c),if_neg c];exact b
section
variable{X:Cx}
theorem rN{b:List Int}{a:List ai}(r:bD (b.map V.int) a){i:Nat}{v:ai}(h:a.toArray[i]?=aa v):∃t,v=.int (b.getD i 0) t:=by
 have d:=r.length;rw[bS]at d;have g:i<a.length:=by have:=(uO.mp h).1;simpa using this
 have e:(b.map V.int)[i]?=aa (V.int (b.getD i 0)):=by rw[kc,e_ ∅];simp[yq,e_ (show i<b.length by lia)]
 obtain⟨u,c,f⟩:=r.get e;have:a[i]?=aa v:=by simpa using h
 rw[this]at c;cases c;exact f
theorem Kh(m:X.calm=ah):d_ X (.builtin "max") (λxs H Q=>∃(p:ac) (a:List Int),xs=[.ref p]/\cp X.K H p (a.map V.int)/\a≠[]/\Q (.int (jT a)) H):=by
 intro O s w H xs Y Q I r h;obtain⟨p,a,rfl,F,N,q⟩:=h;obtain⟨u,rfl,B⟩:=vals1 r;cases B;obtain⟨d,l,pl,hz⟩:=I.list F;have n:=l.length;rw[bS]at n;have hn:0<a.length:=by cases a with|nil=>exact absurd rfl N|cons=>simp
 refine call_max_walk (uP pl.isList ?_);have S:p≠s.heap.objs.size:=by obtain⟨o,f,_⟩:=pl.isList;exact dm (bK f)
 refine⟨s.heap.objs.size,_,_,_,_,_,λi j=>decide (a.getD i 0 > a.getD j 0),rfl,Walks.list (sI (I.ok.hd m)) s.heap.objs.size p S d.toArray,⟨⟨_,cW _ rfl,rfl,rfl⟩,?_⟩,?_,by rw[cR];lia,λi j W T Z Q' E' K J M=>?_,λv h' A E k=>?_⟩
 .obtain⟨o,f,m,L⟩:=pl.isList;exact⟨o,bN _ f,m,L⟩
 .intro b g;obtain⟨o,f,_⟩:=pl.isList;have y:p<s.heap.objs.size:=bK f;have sz:∀o:Obj,(s.heap.push o).objs.size=s.heap.objs.size+1:=λo=>by simp[Heap.push]
  rcases b8.mp g with rfl|g
  .show _<(s.heap.push _).objs.size;rw[sz];exact jI _
  .rw[gX.mp g];show _<(s.heap.push _).objs.size;rw[sz];exact kZ y
 .obtain⟨t,rfl⟩:=rN l K;obtain⟨t',rfl⟩:=rN l J;exact gt_int M
 .obtain⟨t,rfl⟩:=rN l E;have e:a.getD (k6 (λi j=>decide (a.getD i 0 > a.getD j 0)) (d.toArray.size-1)) 0=jT a:=by rw[cR,<-n,B9,Gu a _ ∅,show a.length-1+1=a.length by lia,List.take_length];rfl
  rw[e];have P:Inv X O w H {s with heap:=s.heap.push {cls:=.type "list_iterator",data:=.fields #[.ref p,.int 0 0]},toks:=s.toks}:=I.kept (t':=s.toks) λb o e=>bN _ e;exact⟨.int (jT a),H,Inv.turned (t':=A) P (it:=s.heap.objs.size) (λb o g e=>k b o (by simpa using g) e) I.fresh (og I.lt) (.inr I.sz) (λx c e z=>by obtain⟨v,C⟩:=I.cell x c e;exact absurd C.lt (by rw[z];exact eX _)) (λD G z=>absurd (bK (I.pin D G).1) (by rw[z];exact eX _)),⟨t,rfl⟩,q⟩
def gZ:List PV->Option (List Int)
 |[]=>aa []
 |.int i::r=>(gZ r).map (i::·)
 |_=>af
theorem yZ{K:au}{H:Hp}{F:ac->Prop}:∀{xs:List PV}{b:List V}{a:List Int},bc K H F xs b->gZ xs=aa a->b=a.map V.int
 |[],_,_,r,e=>by cases e;exact r
 |.int i::xs,_,a,⟨v,r,rfl,d,c⟩,e=>by
  cases q:gZ xs with
  |none=>simp[gZ,q]at e
  |some f=>simp[gZ,q]at e;subst e;rw[yZ c q,show v=V.int i from d];rfl
 |.non::_,_,_,_,e=>by simp[gZ]at e
 |.bl _::_,_,_,_,e=>by simp[gZ]at e
 |.str _::_,_,_,_,e=>by simp[gZ]at e
 |.tup _::_,_,_,_,e=>by simp[gZ]at e
 |.lst _::_,_,_,_,e=>by simp[gZ]at e
 |.raw _::_,_,_,_,e=>by simp[gZ]at e
 |.exc _::_,_,_,_,e=>by simp[gZ]at e
def tX:List PV->Option PV
 |[.lst xs]=>(gZ xs).bind λa=>if a≠[] then aa (.int (jT a))else af
 |_=>af
theorem IS:PL X.K (λxs H Q=>∃(p:ac) (b:List Int),xs=[.ref p]/\cp X.K H p (b.map V.int)/\b≠[]/\Q (.int (jT b)) H) tX:=λF H xs l Q pv f e q=>by
 unfold tX at e;split at e
 .obtain⟨v,rfl,a,m,rfl,i,_,d⟩:=iu f;obtain⟨g,j,c⟩:=B8.mp e;have:=yZ d j;subst this;split at c
  .rename_i h;cases c;exact⟨a,g,rfl,.inl i,h,q _ F H (Al.refl ..) rfl⟩
  .cases c
 .cases e
end
theorem Ec:dZ "max"=aa (.builtin "max"):=by decide +kernel
def q_(f:Str)(v:PV):List (Str×PV)->List (Str×PV)
 |[]=>[(f,v)]
 | (g,x)::r=>if g=f then(g,v)::r else(g,x)::q_ f v r
section
variable{K:au}{H:Hp}{F:ac->Prop}
theorem iL.look{f:Str}{pv:PV}{fs:List (Str×PV)}{a:List (Str×V)}(h:iL K H F fs a)(e:fs.lookup f=aa pv):∃v,a.lookup f=aa v/\aZ K H F pv v:=by
 unfold iL at h
 induction h with
 |nil=>cases e
 |@cons p q ps qs r _ ih=>
  obtain⟨j,i⟩:=p;obtain⟨l,g⟩:=q;obtain⟨c,b⟩:=r;simp only at c b;subst c;rw[jr]at e ⊢;cases d:f == j with
  |true=>rw[d]at e;cases e;exact⟨g,rfl,b⟩
  |false=>rw[d]at e;exact ih e
theorem iL.miss{f:Str}{fs:List (Str×PV)}{a:List (Str×V)}(h:iL K H F fs a)(e:fs.lookup f=af):a.lookup f=af:=by
 unfold iL at h
 induction h with
 |nil=>rfl
 |@cons p q ps qs r _ ih=>
  obtain⟨i,g⟩:=p;obtain⟨l,j⟩:=q;obtain⟨b,d⟩:=r;simp only at b d;subst b;rw[jr]at e ⊢;cases c:f == i with
  |true=>rw[c]at e;cases e
  |false=>rw[c]at e;exact ih e
theorem iL.len{fs:List (Str×PV)}{a:List (Str×V)}(h:iL K H F fs a):a.length=fs.length:=by
 unfold iL at h
 induction h with
 |nil=>rfl
 |cons _ _ b=>simp[b]
theorem iL.put{f:Str}{y:PV}{v:V}{fs:List (Str×PV)}{a:List (Str×V)}(h:iL K H F fs a)(r:aZ K H F y v):iL K H F (q_ f y fs) (eU f v a):=by
 unfold iL at h ⊢
 induction h with
 |nil=>exact .cons ⟨rfl,r⟩ .nil
 |@cons p q ps qs r' t ih=>
  obtain⟨j,d⟩:=p;obtain⟨i,g⟩:=q;obtain⟨c,b⟩:=r';simp only at c b;subst c;unfold q_ eU;split
  .exact .cons ⟨rfl,r⟩ t
  .exact .cons ⟨rfl,b⟩ ih
end
def oW(a:ae)(C:ac)(i:Nat):Option (List (Str×PV)):=match a[i]? with
 |some (.own (.ins D fs))=>if D=C then aa fs else af
 |_=>af
theorem v9{a:ae}{C:ac}{i:Nat}{fs:List (Str×PV)}(h:oW a C i=aa fs):a[i]?=aa (.own (.ins C fs)):=by
 unfold oW at h;split at h
 .rename_i D c e;split at h
  .rename_i b;subst b;cases h;exact e
  .cases h
 .cases h
section
variable{X:Cx}{E:XK}{pin:List Nat}{e b:aD}{f x:Str}{C:ac}{p g d:Pos}{j:ae->R PV}
def zH(C:ac)(i:Nat)(f:Str)(j:ae->R PV):ae->R aH:=λc=>(j c).bind λy a=>(aC (oW a C i) a).bind λfs a=>if fs.length<1000 then .ok .next (a.set i (.own (.ins C (q_ f y fs))))else .no
theorem Nh(i:Nat)(c:Cls X.K C)(n:iE X.K C f)(Cj:DE X E b j)(W:X.N[i]?=aa x:=by rfl)(N:c6 X.env.scope x:=by eq_refl)(Q:(x==("__debug__":Str))=aj:=by decide)(Z:(x==("__classdict__":Str))=aj:=by decide) (O:ii b (aa (.Attribute (.Name x p) f d)) g.line X.env=pure aj:=by rfl):DS X E pin (.Assign [.Attribute (.Name x p) f d] b g) (zH C i f j):=λF S A o H D J h=>by
 refine eC (CU (dG W N Q Z) bA O) (Cj F S A o H _ J (h.bindE.imp λy m F1 S1 H1 s g1 q v I=>?_));cases l:oW m C i with
 |none=>rw[l]at q;exact q.elim
 |some fs=>
  rw[l]at q;simp only[cK,R.bind_ok]at q;obtain⟨a,w,⟨z,r,T,u⟩,_⟩:=s.own i _ (v9 l);split at q
  .rename_i P;have L:=u.put (f:=f) I;obtain⟨K,Y⟩:=s.updO (po':=.ins C (q_ f y fs)) (o':=.ins C z (eU f v r)) (v9 l) rfl w trivial λH' M m2 B Sa G=>⟨⟨_,_,B,L.mono M⟩,G⟩
   exact⟨.ref a,w,a,C,z,r,rfl,T,c,n,by rw[u.len];exact P,q F1 S1 o _ K Y (iq.refl _ _)⟩
  .exact q.elim
end
section
variable{X:Cx}{i:eh}{k:Nat}{f C:ac}{g:gG}{b:List Str}{d:Sp}{E:XK}{c:List (ac×Obj)}{a:St}{H:Hp}{s:ao}{Q:VK}{us:List ai}{vs:List V}
theorem Gm(F:g7 X.prog X.w X.K X.mg X.base i k f g b d)(p:cM k X.A)(v:Binds X.K g b [])(I:Inv X c a H s)(r:bD vs us)(h:d vs H Q E):aw (aE X.prog X.w) X.A (call (.ref f) us) (EP X c a Q) (λe m=>∃l n,Inv X c a n l/\i X.stack n l E e m) s:=by
 have q:us.length=b.length:=by rw[<-r.length];exact F.len _ _ _ _ h
 refine uI (ol (F.run X.A X.stack s H ⟨us,[]⟩ us vs Q E p I.env0 (by have:=v s us I.kIn (by rw[i5];exact q);rwa[i5]at this) r h) λo m j=>?_);cases o with
 |error er=>exact⟨s,H,I,j⟩
 |ok w=>
  cases w with
  |ret u=>exact I.after j
  |next=>exact gn j
  |brk=>exact gn j
  |cont=>exact gn j
end
def jC(ε:ae)(a:List bQ)(g:ae->R Slot):R Slot:=(aC (if(br a).Nodup then bU ε a else af) ε).bind λb ε=>cc ε a (g b)
section
variable{K:au}{E:XK}{F:ac->Prop}{S:Nat->ac->Prop}{f:ae}{d:St}{H:Hp}{a:List bQ}{vs:List V}{g:ae->R Slot}
theorem wL{D:Slot->ae->(ac->Prop)->(Nat->ac->Prop)->Hp->Prop}(r:aM K F S f d H)(L:fh K d F H a vs)(h:Ok K E d F S H (jC f a g) D):bh K g vs H (λv j=>∃s n c m A,aM K c m n d j/\bd (U S) (U m) F c H j/\j8 K j c s v A/\(∀b,A b->H b=af/\¬c b/\¬U m b/\∃o,j b=aa o/\cN o)/\D s n c m j) E:=by
 unfold jC at h;have q:=Ok.bind h;by_cases nd:(br a).Nodup
 .rw[if_pos nd]at q;cases p:bU f a with
  |none=>rw[p]at q;exact q.elim
  |some O=>
   rw[p]at q;have q:=q F S H r (bd.refl ..);dsimp only at q;refine⟨F,lJ a S,O,r.cal L p nd,?_⟩;cases J:g O with
   |no=>rw[J]at q;exact q.elim
   |er T M=>
    rw[J]at q;intro y c m j C I;unfold cc at q;dsimp only at q;by_cases l:cb a M=ah
    .rw[if_pos l]at q;obtain⟨B,u,x,_⟩:=r.called L p nd C I (λ_ z=>z) (mB l);exact q y c B j u x
    .rw[if_neg l]at q;exact q.elim
   |ok s M=>
    rw[J]at q;intro v c m j A C I Q G P;unfold cc at q;dsimp only at q;by_cases l:cb a M=ah
    .rw[if_pos l]at q;obtain⟨B,u,x,u2⟩:=r.called L p nd C I (λ_ z=>.inl z) (mB l);refine⟨s,_,c,B,A,u,x,Q,λb z=>⟨P b z,(G b z).1,λw=>?_,(G b z).2.2⟩,q c B j u x⟩;rcases u2 b w with w|⟨i,w⟩
     .exact(G b z).2.1 w
     .obtain⟨_,_,o,N,_⟩:=r.foot i b w;rw[P b z]at N;cases N
    .rw[if_neg l]at q;exact q.elim
 .rw[if_neg nd]at q;exact q.elim
theorem xi{Q l:VK}(h:bh K g vs H Q E)(q:∀v b,Q v b->l v b):bh K g vs H l E:=by
 obtain⟨F,S,j,n,ok⟩:=h;refine⟨F,S,j,n,?_⟩;cases i:g j with
 |no=>rw[i]at ok;exact ok
 |er c u=>rw[i]at ok;exact ok
 |ok z u=>rw[i]at ok;exact λv y x b w o r m p s=>q v b (ok v y x b w o r m p s)
theorem fh.al{j:ac->Prop}{i:Hp}(al:Al F j H i):∀{a:List bQ}{vs:List V},fh K d F H a vs->fh K d j i a vs
 |[],_,h=>h
 |.inl _::_,_,⟨v,r,e,c,b⟩=>⟨v,r,e,al.rep c,fh.al al b⟩
 |.inr _::_,_,⟨v,r,e,c,b⟩=>⟨v,r,e,c,fh.al al b⟩
end
structure Bv(CX:eh)(P:a_)(w:aU)(K:au)(mg:Str->Option ai)(base:aI)(C:ac)(k:Nat)(ps:List Str)(sp:Sp):Prop where
 ex:∃f fd,Mk K C f/\g7 P w K mg base CX k f fd ps sp/\Binds K fd ps []
structure kA(CX:eh)(P:a_)(w:aU)(K:au)(mg:Str->Option ai)(base:aI)(C:ac)(m:Str)(k:Nat)(ps:List Str)(sp:Sp):Prop where
 ex:∃f fd,vZ K C m f/\g7 P w K mg base CX k f fd ps sp/\Binds K fd ps []
def wD(K:au)(C:ac)(a:Str)(b:aS):Prop:=∃f c,Mk K C f/\lG K "__init__" a b f c
def je(K:au)(C:ac)(m a:Str)(b:aS):Prop:=∃f c,vZ K C m f/\lG K m a b f c
theorem Sk{K:au}{C:ac}{a:Str}{b:aS}{f:ac}{oc kV o h d q:ai}{j r:Option ac}{g:Array (Option ai)}(m:PySem.W.makesIn K C=ah)(i:iF K (.ref C) "__init__"=aa (aa (.ref f)))(n:x9 K (.ref f)=ah)(p:kb K (.ref C)=ah)(l:K.lookup f=aa ⟨oc,j,.func (fu "__init__" a (fZ b) (c8 b) (aL b) .none kV o h r d q),g⟩) (c:pG K d a=ah) (k:kb K (.ref f)=ah):wD K C a b:=⟨f,_,⟨m,i,n,p⟩,xn l c k⟩
theorem SD{K:au}{C:ac}{m a:Str}{b:aS}{f:ac}{oc kV o h d p:ai}{j q:Option ac}{g:Array (Option ai)}(i:iF K (.ref C) m=aa (aa (.ref f)))(n:x9 K (.ref f)=ah)(l:K.lookup f=aa ⟨oc,j,.func (fu m a (fZ b) (c8 b) (aL b) .none kV o h q d p),g⟩) (c:pG K d a=ah) (k:kb K (.ref f)=ah):je K C m a b:=⟨f,_,⟨i,n,k⟩,xn l c k⟩
section
variable{i:eh}{P:a_}{w:aU}{K:au}{h:Str->Option ai}{c:aI}{C:ac}{m a:Str}{b:aS}{N g:List Str}{k n:Nat}{d:ae->R aH}{pin:List Nat}
theorem Lb(D:wD K C a b)(F:bE N g (aL b))(v:N.length=g.length+n)(q:∀(kV p u:ai) (B:Option ac) (l z:ai) (o:List ai),o.length=g.length->eR (fu "__init__" a (fZ b) (c8 b) (aL b) .none kV p u B l z) ⟨o,[]⟩=pure (g.zip o))(x:∀(f:ac) (l:ai) (A:a4) (j:List Env) (s:ao) (H:Hp) (E:XK),cM k (A.deeper (fM a (aL b) s.heap.objs.size f l))->eT (fD i P w K h c N a (aL b) f l A j s H E) E pin (c8 b) d):Bv i P w K h c C (k+1) g (bh K (bf g.length pin (aY n d))):=by obtain⟨f,y,M,r⟩:=D;exact⟨f,y,M,Ee r F v q x,r.binds q⟩
end
end Pu
namespace Mx
def F5:Nat->Nat->Nat
 |0,x=>x
 |n+1,x=>F5 n (5*x+1)
end Mx
namespace Pu
open L2
def t0:List PV->Option PV
 |[.int i,.int j]=>aa (.int (if j > i then j else i))
 |_=>af
theorem J_{K:au}:PL K (λxs H Q=>∃i j,xs=[.int i,.int j]/\Q (.int (if j > i then j else i)) H) t0:=λF H xs f Q pv a e q=>by
 unfold t0 at e;split at e
 .cases e;obtain⟨v,g,rfl,d,c⟩:=a;obtain⟨u,rfl,b⟩:=iu c;exact⟨_,_,by rw[show v=V.int _ from d,show u=V.int _ from b],q _ F H (Al.refl ..) rfl⟩
 .cases e
section
variable{X:Cx}{E:XK}{f:List Nat}{e b c:aD}{de a g:ae->R PV}{d:Pos}
def Kl(neg:Bool)(i:Nat)(a:ae->R PV):ae->R PV:=λl=>(a l).bind λk h=>(aC (eD h i) h).bind λj h=>aC ((g8 k).map λk=>.bl (neg^^(jy j k).isSome)) h
end
end Pu
namespace L2
open Mx
section
variable{P:a_}{w:aU}{A:a4}{E:ai->ao->Prop}{s:ao}
structure Keyd(P:a_)(w:aU)(K:Type)[DecidableEq K] where
 is:aI->K->ai->Prop
 hash:K->Int
 room:a4->Prop
 keep:∀{h h':aI}{k:K}{v:ai},is h k v->(∀b o,h.get? b=aa o->o.cls=.type "tuple"->h'.get? b=aa o)->is h' k v
 ref:∀{h:aI}{k:K}{v:ai},is h k v->∃a o,v=.ref a/\h.get? a=aa o
 eqBool:∀{A:a4}{E:ai->ao->Prop}{s:ao}{x y:K}{u v:ai}{Q:Bool->ao->Prop},room A->is s.heap x u->is s.heap y v->Q (decide (x=y)) s->aw (aE P w) A (PySem.eqBool u v) Q E s
 quiet:∀{A:a4}{E:ai->ao->Prop}{s:ao}{k:K}{v:ai}{Q:Bool->ao->Prop},is s.heap k v->Q ah s->aw (aE P w) A (eqIsQuiet 8 v) Q E s
 cls:∀{A:a4}{E:ai->ao->Prop}{s:ao}{k:K}{v:ai}{Q:Bool->ao->Prop},is s.heap k v->Q aj s->aw (aE P w) A (ofAClassStatement 8 v) Q E s
 hbv:∀{A:a4}{E:ai->ao->Prop}{s:ao}{k:K}{v:ai}{Q:Bool->ao->Prop},is s.heap k v->Q aj s->aw (aE P w) A (hashByValue 8 v) Q E s
variable{K:Type}[DecidableEq K]{c:Keyd P w K}
end
section
open PySem.SeqAt
open PySem.AutoSeq1 (wpAny_loadPart')
open PySem.MeetsSeq PySem.MeetsSeq2 PySem.MeetsSeq3
end
end L2
namespace Pu
open L2
def Fl{f:Type}(b:List Nat)(d:ae->R f)(x y:PV):ae->R f:=λa=>(aC (cZ a b) a).bind λc _=>(aC (if(br c).Nodup then bU a (.inl x::.inl y::c)else af) a).bind λg _=>cc a (.inl x::.inl y::c) (d g)
def zX(a:List Nat)(dt:ae->R Bool)(de:ae->R PV):List (PV×PV)->List PV->ae->R (List PV)
 |[],c,f=>.ok c f
 |x::xs,c,f=>(bn (Fl a dt x.1 x.2 f)).bind λk b=>match k with
  |true=>(bn (Fl a de x.1 x.2 b)).bind λy d=>zX a dt de xs (c++[y]) d
  |false=>zX a dt de xs c b
def N9(c:List Nat)(g:ae->R (List (PV×PV)))(dt:ae->R Bool)(de:ae->R PV):ae->R PO:=λd=>(g d).bind λxs b=>(zX c dt de xs [] b).bind λf a=>.ok (.lst f) a
section
variable{X:Cx}{E:XK}{a:eI}{x y:Str}{c:List Str}{b:List Nat}
def Da{g d:Type}(f:Nat->d):Nat->List g->List (d×g)
 |_,[]=>[]
 |n,x::xs=>(f n,x)::Da f (n+1) xs
def OT(xs:List PV):List (PV×PV):=Da (λi=>PV.int (i:Nat)) 0 xs
end
section
variable{X:Cx}{E:XK}
def Mz(c:ae->R (List PV)):ae->R (List (PV×PV)):=λb=>(c b).bind λx a=>match x with
 |[.tup xs]=>.ok (OT xs) a
 |_=>.no
end
abbrev cH:=List aJ
def f9(a:List (cH×PV))(k:cH):Option PV:=(a.find? λb=>decide (b.1=k)).map (·.2)
def jQ(kvs:List (cH×PV))(k:cH)(v:PV):List (cH×PV):=if(kvs.any λa=>decide (a.1=k))=ah then kvs.map (λa=>if a.1=k then(a.1,v)else a)else kvs++[(k,v)]
def qh:List PV->Option cH
 |[]=>aa []
 |x::xs=>(g8 x).bind λk=>(qh xs).map (k::·)
def mS:PV->Option cH
 |.tup xs=>qh xs
 |_=>af
section
variable{K:au}{F:ac->Prop}{S:Nat->ac->Prop}{ε:ae}{σ:St}{H:Hp}{i:Nat}{kvs:List (cH×PV)}{c:List (cH×V)}{a:ac}
theorem Et:∀{xs:List PV}{b:List V}{k:cH},bc K H F xs b->qh xs=aa k->b=k.map kV
 |[],b,k,r,e=>by cases r;cases e;rfl
 |x::xs,b,k,⟨v,r,g,f,d⟩,e=>by simp only[qh,B8,uL]at e;obtain⟨l,j,ks,h,rfl⟩:=e;rw[g,uh f j,Et d h];rfl
theorem yV{x:PV}{v:V}{k:cH}(r:aZ K H F x v)(e:mS x=aa k):∃b,v=.ref b/\H b=aa (.tup (k.map kV)):=by
 cases x <;> simp[mS]at e;obtain⟨b,g,rfl,f,d⟩:=r;exact⟨b,rfl,by rw[f,Et d e]⟩
theorem jk.len(h:jk K H F kvs c):c.length=kvs.length:=by
 unfold jk at h
 induction h with
 |nil=>rfl
 |cons _ _ b=>simp[b]
theorem jk.val(h:jk K H F kvs c)(k:cH):(∃x v,f9 kvs k=aa x/\eN c k=aa v/\aZ K H F x v)\/(f9 kvs k=af/\eN c k=af):=by
 unfold jk at h
 induction h with
 |nil=>exact .inr ⟨rfl,rfl⟩
 |@cons p q ps qs r _ ih=>
  by_cases e:p.1=k
  .refine .inl ⟨p.2,q.2,by simp[f9,ij,e],?_,r.2⟩;rw[qU (by rw[<-r.1];exact e)]
  .have b:¬q.1=k:=by rw[<-r.1];exact e
   rw[oZ b];have:f9 (p::ps) k=f9 ps k:=by simp[f9,ij,e]
   rw[this];exact ih
theorem jk.any(h:jk K H F kvs c)(k:cH):(kvs.any λb=>decide (b.1=k))=c.any λb=>decide (b.1=k):=by
 unfold jk at h
 induction h with
 |nil=>rfl
 |cons r _ d=>rw[lP,lP,d,r.1]
theorem jk.put(h:jk K H F kvs c)(k:cH){x:PV}{v:V}(r:aZ K H F x v):jk K H F (jQ kvs k x) (eW c k v):=by
 unfold jQ eW;rw[h.any k];split
 .rename_i b;clear b;unfold jk at h ⊢
  induction h with
  |nil=>exact .nil
  |@cons p q ps qs r1 _ ih=>
   refine .cons ?_ ih;dsimp only;by_cases e:p.1=k
   .rw[if_pos e,if_pos (by rw[<-r1.1];exact e)];exact⟨r1.1,r⟩
   .rw[if_neg e,if_neg (by rw[<-r1.1];exact e)];exact r1
 .exact yj h ⟨rfl,r⟩
theorem aM.dtAt(r:aM K F S ε σ H)(e:ε[i]?=aa (.own (.dT kvs))):∃a c,σ[i]?=aa (aa (.ref a))/\H a=aa (.dT c)/\jk K H F kvs c/\S i a/\∀b,S i b->b=a:=by obtain⟨a,l,⟨f,j,g⟩,d⟩:=r.own i _ e;exact⟨a,f,l,j,g,(d a).mpr rfl,λb h=>(d b).mp h⟩
end
def iU(b:ae)(i:Nat):Option (List (cH×PV)):=match b[i]? with
 |some (.own (.dT a))=>aa a
 |_=>af
theorem qC{b:ae}{i:Nat}{a:List (cH×PV)}(h:iU b i=aa a):b[i]?=aa (.own (.dT a)):=by
 unfold iU at h;split at h
 .cases h;assumption
 .cases h
section
variable{X:Cx}{E:XK}{pin:List Nat}{e b c:aD}{de d g:ae->R PV}{f:Pos}
def rO(i:Nat)(d:ae->R PV):ae->R PV:=λh=>(aC (iU h i) h).bind λ_ h=>(d h).bind λk a=>(aC (iU a i) a).bind λj a=>aC ((mS k).bind λk=>f9 j k) a
theorem MH(i:Nat){y:Str}{B:Pos}(hu:X.A.units+64<cLine)(N:DE X E b d)(P:X.N[i]?=aa y:=by rfl)(T:c6 X.env.scope y:=by eq_refl)(M:(y==("__debug__":Str))=aj:=by decide) (W:(y==("__classdict__":Str))=aj:=by decide) (K:wS b:=by exact λ_ _=>rfl):DE X E (.Subscript (.Name y B) b f) (rO i d):=λF S p A H Q r h=>by
 unfold rO at h;cases o:iU p i with
 |none=>rw[o]at h;exact h.elim
 |some w=>
  rw[o]at h;simp only[cK,R.bind_ok]at h;obtain⟨a,C,z,_⟩:=r.dtAt (qC o);refine bV (Co ∅ (dG P T M W) bA K) ⟨.ref a,z,N F S p A H _ r ((Ok.bind h).imp λk l F1 Y Z s g1 q u D=>?_)⟩;cases n:iU l i with
  |none=>rw[n]at q;exact q.elim
  |some J=>
   rw[n]at q;simp only[cK,R.bind_ok]at q;obtain⟨a',ws,j,O,L,_⟩:=s.dtAt (qC n);rw[z]at j;cases j;cases m:mS k with
   |none=>rw[m]at q;exact q.elim
   |some I=>
    rw[m,gu]at q;obtain⟨bb,rfl,G⟩:=yV D m;rcases L.val I with⟨x,v,h1,h2,h3⟩|⟨h1,h2⟩
    .rw[h1]at q;exact⟨a,v,rfl,by rw[<-h2];exact lA.t O G,q F1 Y Z s (bd.refl ..) v h3⟩
    .rw[h1]at q;exact q.elim
def sY(i:Nat)(d de:ae->R PV):ae->R aH:=λl=>(de l).bind λy h=>(aC (iU h i) h).bind λ_ h=>(d h).bind λk a=>(aC (iU a i) a).bind λj a=>(aC (mS k) a).bind λk a=>if j.length<bH then .ok .next (a.set i (.own (.dT (jQ j k y))))else .no
theorem RB(i:Nat){y:Str}{G l:Pos}(hu:X.A.units+64<cLine)(hb:DE X E b d)(he:DE X E e de)(hN:X.N[i]?=aa y:=by rfl)(eJ:c6 X.env.scope y:=by eq_refl)(hd:(y==("__debug__":Str))=aj:=by decide) (ba:(y==("__classdict__":Str))=aj:=by decide) (hs:ii e (aa (.Subscript (.Name y G) b l)) f.line X.env=pure aj:=by rfl):DS X E pin (.Assign [.Subscript (.Name y G) b l] e f) (sY i d de):=λF S L p H D W h=>by
 refine eC (C5 ∅ (dG hN eJ hd ba) bA bA hs) (he F S L p H _ W (h.bindE.imp λy m F1 S1 H1 s g1 q v Q=>?_));cases C:iU m i with
 |none=>rw[C]at q;exact q.elim
 |some J=>
  rw[C]at q;simp only[cK,R.bind_ok]at q;obtain⟨a,M,A,vB,_⟩:=s.dtAt (qC C);refine⟨.ref a,A,hb F1 S1 m p H1 _ s (q.bindE.imp λk r F2 S2 H2 I g2 j u T=>?_)⟩;cases o:iU r i with
  |none=>rw[o]at j;exact j.elim
  |some x=>
   rw[o]at j;simp only[cK,R.bind_ok]at j;obtain⟨a',N,n,ha,K,_⟩:=I.dtAt (qC o);rw[A]at n;cases n;cases B:mS k with
   |none=>rw[B]at j;exact j.elim
   |some w=>
    rw[B]at j;simp only[cK,R.bind_ok]at j;split at j
    .rename_i hl;obtain⟨bb,rfl,Z⟩:=yV T B;have z:=K.put w (Q.grow g2 s.fit);obtain⟨Y,g3⟩:=I.updO (po':=.dT (jQ x w y)) (o':=.dT (eW N w v)) (qC o) rfl A trivial λH' m1 m2 O Sa P=>⟨⟨_,O,z.mono m1⟩,P⟩
     exact⟨a,_,rfl,x0.t ha Z (by rw[K.len];exact fU hl jf),j F2 S2 p _ Y g3 (iq.refl _ _)⟩
    .exact j.elim
def xw:ae->R PO:=λε=>.ok (.dT []) ε
theorem KC:DN X E (.Dict [] [] f) xw:=λF S m l H Q i h=>bV QG λp a=>by
 have al:Al F F H (upd H p (.dT [])):=Al.new0 a;refine h F S _ (i.al al) al.grow p (λb=>b=p) ⟨⟨[],bW,.nil⟩,λb=>pT⟩ λb z=>?_;subst z;refine⟨a,λz=>?_,λ⟨j,z⟩=>?_,_,bW,trivial⟩
 .obtain⟨o,q⟩:=i.ex b z;rw[a]at q;cases q
 .obtain⟨_,_,o,q,_⟩:=i.foot j b z;rw[a]at q;cases q
def mG(neg:Bool)(i:Nat)(d:ae->R PV):ae->R PV:=λε=>(d ε).bind λk a=>(aC (iU a i) a).bind λkvs a=>aC ((mS k).map λk=>.bl (neg^^(f9 kvs k).isSome)) a
theorem OW{i:Nat}(neg:Bool){F:ac->Prop}{S:Nat->ac->Prop}{n:ae}{j:St}{H:Hp}{Q:VK}(L:DE X E b d)(G:aM X.K F S n j H)(h:Ok X.K E j F S H (mG neg i d n) (λpv _ O _ A=>∀v,aZ X.K A O pv v->Q v A)):iV X b j H λy l=>∃x,j[i]?=aa (aa x)/\∃a o,x=.ref a/\lA l a y o/\Q (.bl (neg^^o.isSome)) l:=by
 unfold mG at h;refine L F S n j H _ G ((Ok.bind h).imp λk m B z l p P q u D=>?_);cases s:iU m i with
 |none=>rw[s]at q;exact q.elim
 |some J=>
  rw[s]at q;simp only[cK,R.bind_ok]at q;obtain⟨a,C,N,M,K,_⟩:=p.dtAt (qC s);cases r:mS k with
  |none=>rw[r]at q;exact q.elim
  |some w=>
   rw[r,pQ]at q;obtain⟨T,rfl,I⟩:=yV D r;refine⟨.ref a,N,a,eN C w,rfl,lA.t M I,?_⟩;rcases K.val w with⟨x,v,h1,h2,h3⟩|⟨h1,h2⟩
   .rw[h1]at q;rw[h2];exact q B z l p (bd.refl ..) _ rfl
   .rw[h1]at q;rw[h2];exact q B z l p (bd.refl ..) _ rfl
theorem Rv(i:Nat){y:Str}{a:Pos}(w:X.A.units+64<cLine)(n:DE X E b d)(o:X.N[i]?=aa y:=by rfl)(p:c6 X.env.scope y:=by eq_refl)(m:(y==("__debug__":Str))=aj:=by decide) (q:(y==("__classdict__":Str))=aj:=by decide) (l:pD .NotIn (.Name y a)=aj:=by rfl):DT X E (.Compare b [.NotIn] [.Name y a] f) (dB (mG ah i d)):=λF S u s H Q j h=>by refine ul (Qc (OR ∅ bA (dG o p m q)) l) ?_;have:=OW (Q:=λv r=>∃k,v=.bl k/\Q k r) ah n j (sN h);simp only[Bool.true_xor]at this;exact this
end
section
variable{X:Cx}
theorem w8{b:List ai}{a:List Tx}(h:gH b (a.map tS)):bD (dO a) b:=by
 induction a generalizing b with
 |nil=>cases h;exact .nil
 |cons x a c=>
  cases h with
  |cons _ t h=>exact .cons ⟨_,rfl⟩ (c h)
theorem Rx(J:X.calm=ah):d_ X (.type "list") (λxs H Q=>∃(d:ac) (kvs:List (aJ×V)) (a:List Tx),xs=[.ref d]/\H d=aa (.dK kvs)/\kvs.map (·.1)=a.map (λx=>Sum.inr (tS x))/\∀l,H l=af->Q (.ref l) (upd H l (.lst (dO a)))):=by
 intro Y s S H xs W Q I r h;obtain⟨d,kvs,a,rfl,G,m,q⟩:=h;obtain⟨u,rfl,C⟩:=vals1 r;cases C;obtain⟨z,F,j,rel,O⟩:=tY I.hok G;obtain⟨ep,A⟩:=O.dictAt;have p:j.length=a.length:=by have f:=congrArg nh m;simp only[bS]at f;rw[<-rel.length];exact f
 have E:a.length<=bi:=by rw[<-p,<-rel.length];exact z
 refine PySem.W.kdl_call (PySem.W.kdl_dict (knd:=g9 X.prog X.w) (kvs:=j) (ep:=ep) F) (I.ok.hd J) A (by rw[<-rel.length];exact z) λK B w P k e n=>?_;have b:gH w.toList (a.map tS):=by
  refine DV _ _ (by rw[bS,x6,n.1,p]) λi v x f c=>?_;obtain⟨D,y,N,M⟩:=n.2 i v (by rw[<-GM];exact f);obtain⟨T,L,_⟩:=KV.at rel N;have g:(kvs.map (·.1))[i]?=aa D:=by rw[kc,L];rfl
  rw[m,kc]at g;rw[kc]at c;cases o:a[i]? with
  |none=>rw[o]at c;cases c
  |some l=>
   rw[o]at g c;cases g;cases c;exact Value.isStrOf_shape M
 refine⟨.ref s.heap.objs.size,_,I.laid (t':=B) k (bB _) (show dq X.prog X.w _ K _ (.lst (dO a))from⟨by unfold dO;rw[bS];exact E,w.toList,P,w8 b,?_⟩),rfl,q _ (I.hok.fresh (bB _))⟩;rw[Array.toArray_toList];exact e
def wH(a:List (aJ×PV)):Option PO:=(n5 a).bind λb=>if ∀x∈b,x.length<=bH then aa (.lst (ak b))else af
def sV(i:Nat):ae->R PO:=λε=>(aC (eD ε i) ε).bind λa ε=>aC (wH a) ε
theorem M9:dZ "list"=aa (.type "list"):=by decide +kernel
theorem JW{E:XK}(i:Nat){y:Str}{u p g:Pos}(G:X.calm=ah)(x:X.mg "list"=af)(J:X.N[i]?=aa y:=by rfl)(L:c6 X.env.scope y:=by eq_refl)(D:(y==("__debug__":Str))=aj:=by decide) (M:(y==("__classdict__":Str))=aj:=by decide) (C:Gl X "list":=by rfl):DN X E (.Call (.Name "list" p) [.Name y u] [] g) (sV i):=λF S s N H Q d h=>by
 unfold sV at h;cases q:eD s i with
 |none=>rw[q]at h;exact h.elim
 |some m=>
  rw[q]at h;simp only[cK,R.bind_ok]at h;obtain⟨a,v,K,I,A,O,_⟩:=d.dkAt (mT q);unfold wH at h;cases n:n5 m with
  |none=>rw[n]at h;exact h.elim
  |some r=>
   rw[n,gu]at h;split at h
   .rename_i B;refine bV (ub (Rx G) C x M9 (f8 (dG J L D M) g_ (jv rfl)) (by decide) (by decide) (jv rfl) rfl) ⟨.ref a,K,a,v,r,rfl,I,by rw[A.keys];exact Fk n,λl f=>?_⟩;have al:Al F F H (L2.upd H l (.lst (dO r))):=Al.new0 f;refine h F S _ (d.al al) al.grow l (λc=>c=l) ⟨⟨_,bW,Sf.mpr ⟨rfl,B⟩⟩,λc=>pT⟩ λb z=>?_;subst z;exact⟨f,λz=>Exists.elim (d.ex _ z) (λo w=>by rw[f]at w;cases w),λ⟨j,z⟩=>Exists.elim (d.foot j b z).2.2 (λo w=>by rw[f]at w;cases w.1),_,bW,trivial⟩
   .exact h.elim
end
section
variable{K:au}{F f:ac->Prop}{S:Nat->ac->Prop}{c:ae}{σ:St}{H d:Hp}
theorem aM.putOwn{j:Nat}{po:PO}{a:ac}{Sa:ac->Prop}(r:aM K F S c σ H)(i:j<c.length)(e:σ[j]?=aa (aa (.ref a)))(h:eu K H F po a Sa)(l:pi F S H Sa):aM K F (λk b=>(S k b/\k≠j)\/(k=j/\Sa b)) (c.set j (.own po)) σ H:=by
 have:=r.setOwn i h l;have m:σ.set j (aa (.ref a))=σ:=by
  apply uU;intro k;by_cases g:j=k
  .subst g;rw[cu (by rw[<-r.len];exact i),e]
  .rw[cj g]
 rw[m]at this;exact this
end
end Pu
namespace L2
open Mx
def fi(k:List Tx):List aJ:=k.map λx=>Sum.inr (tS x)
end L2
namespace Pu
open L2
def vU:cH->Option (List Tx)
 |[]=>aa []
 |.inr z::r=>(vU r).map (z.cps.toList::·)
 |_=>af
theorem D7(t:List Tx):vU (fi t)=aa t:=by
 induction t with
 |nil=>rfl
 |cons x t a=>show vU (Sum.inr (tS x)::fi t)=_;simp[vU,a,mL]
def jW(k:List Tx):PV:=.tup (ak k)
def j4:List Int->Int
 |[]=>0
 |x::r=>r.foldl (λb y=>if y<b then y else b) x
theorem Ix(l:List Int)(y:Int)(h:l≠[]):j4 (l++[y])=if y<j4 l then y else j4 l:=by
 cases l with
 |nil=>exact absurd rfl h
 |cons x r=>show(r++[y]).foldl _ x=_;rw[BX];rfl
theorem FD(a:List Int):∀k,k<a.length->a[k6 (λi j=>decide (a.getD i 0<a.getD j 0)) k]?=aa (j4 (a.take (k+1)))
 |0,h=>by
  cases a with
  |nil=>cases h
  |cons x r=>simp[k6,j4]
 |k+1,h=>by
  have b:=FD a k ∅;have e:a.take (k+1+1)=a.take (k+1)++[a[k+1]]:=by rw[RT h]
  have g:=yW (λi j=>decide (a.getD i 0<a.getD j 0)) k;rw[e,Ix _ _ (by intro z;have:=congrArg nh z;rw[rQ,lQ]at this;lia)];unfold k6;have f:a.getD (k+1) 0=a[k+1]:=by simp[yq,h]
  have d:a.getD (k6 (λi j=>decide (a.getD i 0<a.getD j 0)) k) 0=j4 (a.take (k+1)):=by rw[B9,b];rfl
  rw[f,d];by_cases c:a[k+1]<j4 (a.take (k+1))
  .rw[if_pos (by simpa using c),if_pos c];simp[h]
  .rw[if_neg (by simpa using c),if_neg c];exact b
section
variable{X:Cx}
theorem HL(m:X.calm=ah):d_ X (.builtin "min") (λxs H Q=>∃(p:ac) (a:List Int),xs=[.ref p]/\cp X.K H p (a.map V.int)/\a≠[]/\Q (.int (j4 a)) H):=by
 intro O s w H xs Y Q I r h;obtain⟨p,a,rfl,F,N,q⟩:=h;obtain⟨u,rfl,B⟩:=vals1 r;cases B;obtain⟨d,l,pl,hz⟩:=I.list F;have n:=l.length;rw[bS]at n;have hn:0<a.length:=by cases a with|nil=>exact absurd rfl N|cons=>simp
 refine call_min_walk (uP pl.isList ?_);have S:p≠s.heap.objs.size:=by obtain⟨o,f,_⟩:=pl.isList;exact dm (bK f)
 refine⟨s.heap.objs.size,_,_,_,_,_,λi j=>decide (a.getD i 0<a.getD j 0),rfl,Walks.list (sI (I.ok.hd m)) s.heap.objs.size p S d.toArray,⟨⟨_,cW _ rfl,rfl,rfl⟩,?_⟩,?_,by rw[cR];lia,λi j W T Z Q' E' K J M=>?_,λv h' A E k=>?_⟩
 .obtain⟨o,f,m,L⟩:=pl.isList;exact⟨o,bN _ f,m,L⟩
 .intro b g;obtain⟨o,f,_⟩:=pl.isList;have y:p<s.heap.objs.size:=bK f;have sz:∀o:Obj,(s.heap.push o).objs.size=s.heap.objs.size+1:=λo=>by simp[Heap.push]
  rcases b8.mp g with rfl|g
  .show _<(s.heap.push _).objs.size;rw[sz];exact jI _
  .rw[gX.mp g];show _<(s.heap.push _).objs.size;rw[sz];exact kZ y
 .obtain⟨t,rfl⟩:=rN l K;obtain⟨t',rfl⟩:=rN l J;exact lt_int M
 .obtain⟨t,rfl⟩:=rN l E;have e:a.getD (k6 (λi j=>decide (a.getD i 0<a.getD j 0)) (d.toArray.size-1)) 0=j4 a:=by rw[cR,<-n,B9,FD a _ ∅,show a.length-1+1=a.length by lia,List.take_length];rfl
  rw[e];have P:Inv X O w H {s with heap:=s.heap.push {cls:=.type "list_iterator",data:=.fields #[.ref p,.int 0 0]},toks:=s.toks}:=I.kept (t':=s.toks) λb o e=>bN _ e;exact⟨.int (j4 a),H,Inv.turned (t':=A) P (it:=s.heap.objs.size) (λb o g e=>k b o (by simpa using g) e) I.fresh (og I.lt) (.inr I.sz) (λx c e z=>by obtain⟨v,C⟩:=I.cell x c e;exact absurd C.lt (by rw[z];exact eX _)) (λD G z=>absurd (bK (I.pin D G).1) (by rw[z];exact eX _)),⟨t,rfl⟩,q⟩
def rD:List PV->Option PV
 |[.lst xs]=>(gZ xs).bind λa=>if a≠[] then aa (.int (j4 a))else af
 |_=>af
theorem HG:PL X.K (λxs H Q=>∃(p:ac) (b:List Int),xs=[.ref p]/\cp X.K H p (b.map V.int)/\b≠[]/\Q (.int (j4 b)) H) rD:=λF H xs l Q pv f e q=>by
 unfold rD at e;split at e
 .obtain⟨v,rfl,a,m,rfl,i,_,d⟩:=iu f;obtain⟨g,j,c⟩:=B8.mp e;have:=yZ d j;subst this;split at c
  .rename_i h;cases c;exact⟨a,g,rfl,.inl i,h,q _ F H (Al.refl ..) rfl⟩
  .cases c
 .cases e
end
def jd(a:ae)(C:ac)(y:Str)(i:Nat):Option (List (Str×PV)×List PV):=match a[i]? with
 |some (.own (.inl D fs z xs))=>if D=C/\z=y then aa (fs,xs)else af
 |_=>af
theorem qG{a:ae}{C:ac}{y:Str}{i:Nat}{p:List (Str×PV)×List PV}(h:jd a C y i=aa p):a[i]?=aa (.own (.inl C p.1 y p.2)):=by
 unfold jd at h;split at h
 .rename_i D fs z xs e;split at h
  .rename_i b;obtain⟨rfl,rfl⟩:=b;cases h;exact e
  .cases h
 .cases h
theorem Qv{a:List (Str×V)}{f:Str}{v:V}{r:List (Str×V)}(h:a.lookup f=aa v):(a++r).lookup f=aa v:=by rw[uN,h];rfl
theorem wj{a:List (Str×V)}{y:Str}{v:V}(h:a.lookup y=af):(a++[(y,v)]).lookup y=aa v:=by rw[uN,h];simp[jo]
section
variable{K:au}{F u:ac->Prop}{S B:Nat->ac->Prop}{l:ae}{p:St}{H s:Hp}{i:Nat}{C a b m:ac}{fs:List (Str×PV)}{j:List (Str×V)}{y:Str}{x A:List PV}{f:List V}
theorem aM.updI(r:aM K F S l p H)(e:l[i]?=aa (.own (.inl C fs y x)))(ea:p[i]?=aa (aa (.ref a)))(Y:H a=aa (.ins C m (j++[(y,.ref b)])))(Z:iL K H F fs j)(X:fs.lookup y=af)(Q:a≠b)(P:∀c,S i c↔c=a\/c=b)(h:bc K H F A f):aM K F S (l.set i (.own (.inl C fs y A))) p (L2.upd H b (.lst f))/\bd (U S) (U S) F F H (L2.upd H b (.lst f)):=by
 have N:S i b:=(P b).mpr (.inr rfl);have L:i<l.length:=(cF.mp e).1;have g:bd (U S) (U S) F F H (L2.upd H b (.lst f)):=⟨λ_ z=>z,λc o q n=>by rw[bo (by rintro rfl;exact n ⟨i,N⟩)];exact q,λc o q=>by
  by_cases I:c=b
  .subst I;exact⟨_,bW⟩
  .exact⟨o,by rw[bo I];exact q⟩,λ_ z=>.inl z,λ_ z=>.inl z⟩
 refine⟨⟨by rw[fW];exact r.len,λb z=>let ⟨o,q⟩:=r.ex b z;g.there b o q,λk pv q=>?_,λk J q=>?_,λk c z=>?_,r.dist⟩,g⟩
 .have D:i≠k:=by rintro rfl;rw[cu L]at q;cases q
  rw[cj D]at q;obtain⟨v,G,E⟩:=r.val k pv q;exact⟨v,G,E.grow g r.fit⟩
 .by_cases D:i=k
  .subst D;rw[cu L]at q;cases q;exact⟨a,ea,m,j,b,f,by rw[bo Q];exact Y,Z.mono (λ_ _ z=>z.grow g r.fit),X,bW,h.grow g r.fit,Q,P⟩
  .rw[cj D]at q;obtain⟨c,G,E⟩:=r.own k J q;refine⟨c,G,E.mono (λ_ _ z=>z.grow g r.fit) (λ_ _ z=>z.grow g r.fit) λd o z w=>?_⟩;rw[bo (by rintro rfl;exact D (r.dist i k d N z))];exact w
 .obtain⟨⟨J,G⟩,E,o,W,T⟩:=r.foot k c z;have M:∃O,(L2.upd H b (.lst f)) c=aa O/\cN O:=by
   by_cases I:c=b
   .subst I;exact⟨_,bW,trivial⟩
   .exact⟨o,by rw[bo I];exact W,T⟩
  by_cases D:i=k
  .subst D;exact⟨⟨_,cu L⟩,E,M⟩
  .exact⟨⟨J,by rw[cj D];exact G⟩,E,M⟩
theorem aM.lookI(r:aM K F S l p H)(e:l[i]?=aa (.own (.inl C fs y x))):∃a b m j,p[i]?=aa (aa (.ref a))/\H a=aa (.ins C m j)/\j.lookup y=aa (.ref b)/\aZ K H (λc=>F c\/c=b) (.lst x) (.ref b)/\(∀c,F c\/c=b->∃o,H c=aa o) /\ (∀{u s},Al (λc=>F c\/c=b) u H s->Al F (λc=>u c/\c≠b) H s):=by
 obtain⟨a,E,m,j,b,f,q,D,h,d,n,G,v⟩:=r.own i _ e;have g:¬F b:=(r.foot i b ((v b).mpr (.inr rfl))).2.1;refine⟨a,b,m,_,E,q,wj (D.miss h),⟨b,f,rfl,.inl d,.inr rfl,bc.mono (λ_ z=>.inl z) (λ_ _ _ z=>z) (λ_ _ z _=>z) _ _ n⟩,λc z=>z.elim (r.ex c) λz=>by rw[z];exact⟨_,d⟩,λ{u s} al=>⟨λc z=>⟨al.fro c (.inl z),λw=>g (w ▸ z)⟩,al.same,λc z=>?_⟩⟩;rcases al.fnew c z.1 with(w|w)|w
 .exact .inl w
 .exact absurd w z.2
 .exact .inr w
end
section
variable{X:Cx}{E:XK}{pin:List Nat}{e m:aD}{f x y g:Str}{C:ac}{p d o:Pos}{z de:ae->R PV}{s T:String}{r:List V->Hp->VK->Prop}{j:List PV->Option PV}{u:List PV->Option PO}
def kl(C:ac)(y:Str)(i:Nat)(f:Str):ae->R PV:=λa=>(aC (jd a C y i) a).bind λq a=>aC (q.1.lookup f) a
theorem C8(i:Nat)(y:Str)(c:Cls X.K C)(n:iE X.K C f)(M:X.N[i]?=aa x:=by rfl)(I:c6 X.env.scope x:=by eq_refl)(J:(x==("__debug__":Str))=aj:=by decide)(W:(x==("__classdict__":Str))=aj:=by decide) (K:fq (.Name x p) f X.env (aK (.Name x p) X.env)=aK (.Name x p) X.env:=by rfl):DE X E (.Attribute (.Name x p) f d) (kl C y i f):=λF S D Y H Q B h=>by
 unfold kl at h;cases A:jd D C y i with
 |none=>rw[A]at h;exact h.elim
 |some q=>
  rw[A]at h;simp only[cK,R.bind_ok]at h;obtain⟨a,O,P,Z,b,vs,L,N,hy,nB,hx,gx,hS⟩:=B.own i _ (qG A);cases w:q.1.lookup f with
  |none=>rw[w]at h;exact h.elim
  |some pv=>rw[w]at h;obtain⟨v,l,G⟩:=N.look w;exact bV (qL (dG M I J W) K) ⟨.ref a,O,a,C,P,_,v,rfl,L,c,n,Qv l,h F S H B (bd.refl ..) v G⟩
def kn{b:Type}(f:List PV->Option b)(C:ac)(y:Str)(i:Nat):ae->R b:=λa=>(aC (jd a C y i) a).bind λq a=>aC (f [.lst q.2]) a
theorem NK{F:ac->Prop}{S:Nat->ac->Prop}{A:ae}{n:St}{H:Hp}{Q:VK}{i:Nat}(N:PL X.K r j)(J:aM X.K F S A n H)(h:Ok X.K E n F S H (kn (λxs=>mj (j xs)) C y i A) (λpv _ L _ l=>∀v,aZ X.K l L pv v->Q v l)):∃a b I c,n[i]?=aa (aa (.ref a))/\H a=aa (.ins C I c)/\c.lookup y=aa (.ref b)/\r [.ref b] H Q:=by
 unfold kn at h;cases G:jd A C y i with
 |none=>rw[G]at h;exact h.elim
 |some q=>
  rw[G]at h;simp only[cK,R.bind_ok]at h;obtain⟨a,b,I,c,W,P,O,M,_,K⟩:=J.lookI (qG G);refine⟨a,b,I,c,W,P,O,?_⟩;cases D:mj (j [.lst q.2])with
  |none=>rw[D]at h;exact h.elim
  |some pv=>rw[D]at h;obtain⟨Z,Y⟩:=Cs D;exact N _ H [.lst q.2] [.ref b] Q pv (.one M) Z λw L l al B=>h _ S l (J.al (K al)) (K al).grow w (aZ.imm pv Y B)
theorem Ny(i:Nat)(c:Cls X.K C)(n:iE X.K C y)(N:d_ X (.builtin s) r)(G:PL X.K r j)(J:X.mg g=af)(B:dZ g=aa (.builtin s))(W:X.N[i]?=aa x:=by rfl)(eJ:c6 X.env.scope x:=by eq_refl)(M:(x==("__debug__":Str))=aj:=by decide) (ba:(x==("__classdict__":Str))=aj:=by decide) (L:Gl X g:=by rfl) (I:g≠"__name__":=by decide) (Y:(g==("__debug__":Str))=aj:=by decide) {h l:Pos}(O:fq (.Name x h) y X.env (aK (.Name x h) X.env)=aK (.Name x h) X.env:=by rfl)(v:aN [.Attribute (.Name x h) y l] X.env=(aj,aK (.Attribute (.Name x h) y l) X.env)::aN [] X.env:=by rfl) (cG:(b9 d (aN [] X.env)).any (·.1)=aj:=by rfl):DE X E (.Call (.Name g p) [.Attribute (.Name x h) y l] [] d) (kn (λxs=>mj (j xs)) C y i):=λF S ε σ H Q A q=>by obtain⟨a,b,dx,w,Z,P,K,D⟩:=NK G A q;exact bV (rm N L J B (f8 (qL (dG W eJ M ba) O) g_ v) I Y v cG) ⟨.ref a,Z,a,C,dx,w,.ref b,rfl,P,c,n,K,D⟩
end
theorem D4{f:Str}{v:V}:∀{a:List (Str×V)},a.lookup f=af->eU f v a=a++[(f,v)]
 |[],_=>rfl
 | (g,x)::r,h=>by
  by_cases q:g=f
  .subst q;simp[jo]at h
  .have b:r.lookup f=af:=by
    have:(f == g)=aj:=by simpa using λe=>q e.symm
    simpa[jo,this]using h
   rw[eU,if_neg q,D4 b];rfl
section
variable{K:au}{F l:ac->Prop}{S A:Nat->ac->Prop}{p s:ae}{m:St}{H f:Hp}{i:Nat}{C a b u:ac}{h:PO}{fs:List (Str×PV)}{y:Str}{x D:List PV}{B:List V}
theorem aM.away(r:aM K F S p m H)(e:p[i]?=aa (.own h))(M:aM K l A s m f)(d:bd (U λj b=>S j b/\j≠i) (U A) F l H f):∃N,aM K l N (s.set i (.own h)) m f/\bd (U S) (U N) F l H f/\∀c o,S i c->H c=aa o->f c=aa o:=by
 obtain⟨a,J,Q⟩:=r.own i h e;have G:∀c,S i c->¬U (λj b=>S j b/\j≠i) c:=λc z ⟨j,w,g⟩=>g (r.dist j i c w z);have I:∀c o,S i c->H c=aa o->f c=aa o:=λc o z q=>d.keep c o q (G c z);have fit:Fit (U λj b=>S j b/\j≠i) F H:=λc ⟨j,z,_⟩=>(r.foot j c z).2;have W:i<s.length:=by rw[M.len];exact(cF.mp J).1
 have E:eu K f l h a (S i):=Q.mono (λ_ _ z=>z.grow d fit) (λ_ _ z=>z.grow d fit) I;have T:pi l A f (S i):=λc z=>by
  obtain⟨_,P,o,v,O⟩:=r.foot i c z;refine⟨λw=>?_,λw=>?_,o,I c o z v,O⟩
  .rcases d.fnew c w with w|w|w
   .exact P w
   .rw[v]at w;cases w
   .exact G c z w
  .rcases d.onew c w with w|w
   .exact G c z w
   .rw[v]at w;cases w
 have L:=M.setOwn W E T;have X:m.set i (aa (.ref a))=m:=by
  apply uU ;intro j;by_cases g:i=j
  .subst g;rw[cu (cF.mp J).1,J]
  .rw[cj g]
 rw[X]at L;refine⟨_,L,⟨d.fro,λc o q n=>d.keep c o q λ⟨j,w,_⟩=>n ⟨j,w⟩,d.there,λc w=>(d.fnew c w).imp id λw=>w.imp id λ⟨j,w,_⟩=>⟨j,w⟩,λc ⟨j,w⟩=>?_⟩,I⟩;rcases w with⟨w,_⟩|⟨_,w⟩
 .exact(d.onew c ⟨j,w⟩).imp (λ⟨j,w,_⟩=>⟨j,w⟩) id
 .exact .inl ⟨i,w⟩
theorem aM.giveI{I:List (Str×V)}{Q:ac->Prop}(r:aM K F S p m H)(e:p[i]?=aa (.own (.ins C fs)))(ea:m[i]?=aa (aa (.ref a)))(ha:H a=aa (.ins C u I))(fr:iL K H F fs I)(hS:∀c,S i c↔c=a)(hy:fs.lookup y=af)(ow:eu K H F (.lst x) b Q) (T:pi F S H Q):aM K F (λj c=>S j c\/(j=i/\Q c)) (p.set i (.own (.inl C fs y x))) m (L2.upd H a (.ins C u (eU y (.ref b) I)))/\bd (U S) (U S) F F H (L2.upd H a (.ins C u (eU y (.ref b) I))):=by
 obtain⟨⟨B,hb,hx⟩,O⟩:=ow;have W:S i a:=(hS a).mpr rfl;have hi:i<p.length:=(cF.mp e).1;have hbL:=T b ((O b).mpr rfl);have gx:a≠b:=by rintro rfl;exact hbL.2.1 ⟨i,W⟩
 have g:bd (U S) (U S) F F H (L2.upd H a (.ins C u (eU y (.ref b) I))):=⟨λ_ z=>z,λc o q n=>by rw[bo (by rintro rfl;exact n ⟨i,W⟩)];exact q,λc o q=>by
  by_cases N:c=a
  .subst N;exact⟨_,bW⟩
  .exact⟨o,by rw[bo N];exact q⟩,λ_ z=>.inl z,λ_ z=>.inl z⟩
 refine⟨⟨by rw[fW];exact r.len,λb z=>let ⟨o,q⟩:=r.ex b z;g.there b o q,λk pv q=>?_,λk h q=>?_,λk c z=>?_,λj k c L E=>?_⟩,g⟩
 .have G:i≠k:=by rintro rfl;rw[cu hi]at q;cases q
  rw[cj G]at q;obtain⟨v,M,J⟩:=r.val k pv q;exact⟨v,M,J.grow g r.fit⟩
 .by_cases G:i=k
  .subst G;rw[cu hi]at q;cases q;refine⟨a,ea,u,I,b,B,?_,fr.mono (λ_ _ z=>z.grow g r.fit),hy,by rw[bo gx.symm];exact hb,hx.grow g r.fit,gx,λc=>?_⟩
   .rw[bW,D4 (fr.miss hy)]
   .show(S i c\/i=i/\Q c)↔_;rw[hS,O];simp
  .rw[cj G]at q;obtain⟨c,M,J⟩:=r.own k h q;have:(λc=>S k c\/(k=i/\Q c))=S k:=by funext c;exact propext ⟨λz=>z.elim id λz=>absurd z.1.symm G,.inl⟩
   refine⟨c,M,?_⟩;rw[this];refine J.mono (λ_ _ z=>z.grow g r.fit) (λ_ _ z=>z.grow g r.fit) λd o z w=>?_;rw[bo (by rintro rfl;exact G (r.dist i k d W z))];exact w
 .have up:∀{c:ac}{o:HO},H c=aa o->cN o->∃o',(L2.upd H a (.ins C u (eU y (.ref b) I))) c=aa o'/\cN o':=λ{c o} h1 h2=>by
   by_cases N:c=a
   .subst N;exact⟨_,bW,trivial⟩
   .exact⟨o,by rw[bo N];exact h1,h2⟩
  have P:∀{k:Nat}{h:PO},p[k]?=aa (.own h)->∃Z,(p.set i (.own (.inl C fs y x)))[k]?=aa (.own Z):=λ{k h} q=>by
   by_cases G:i=k
   .subst G;exact⟨_,cu hi⟩
   .exact⟨h,by rw[cj G];exact q⟩
  rcases z with z|⟨rfl,z⟩
  .obtain⟨⟨h,M⟩,J,o,Y,X⟩:=r.foot k c z;exact⟨P M,J,up Y X⟩
  .obtain⟨J,_,o,Y,X⟩:=T c z;exact⟨P e,J,up Y X⟩
 .rcases L with L|⟨rfl,L⟩
  .rcases E with E|⟨rfl,E⟩
   .exact r.dist j k c L E
   .exact absurd ⟨j,L⟩ (T c E).2.1
  .rcases E with E|⟨rfl,E⟩
   .exact absurd ⟨k,E⟩ (T c L).2.1
   .rfl
theorem aM.aside{O n:ac->Prop}(r:aM K F S p m H)(g:bd O n F l H f)(d:∀c,O c->H c=af)(j:∀c,l c->∃o,f c=aa o):aM K l S p m f/\bd (U S) (U S) F l H f:=by
 have no:∀c o,H c=aa o->¬O c:=λc o q z=>by rw[d c z]at q;cases q
 have al:Al F l H f:=⟨g.fro,λc o q=>g.keep c o q (no c o q),λc z=>by
  rcases g.fnew c z with w|w|w
  .exact .inl w
  .exact .inr ⟨w,j c z⟩
  .exact .inr ⟨d c w,j c z⟩⟩
 exact⟨r.al al,al.grow⟩
end
section
variable{X:Cx}{E:XK}{pin:List Nat}{e d:aD}{f x y m:Str}{C:ac}{p g l:Pos}{G de:ae->R PV}{A T:String}{r:List V->Hp->VK->Prop}{B:List PV->Option PV}{s:List PV->Option PO}
theorem Qz{F:ac->Prop}{S:Nat->ac->Prop}{v:ae}{u:St}{H:Hp}{Q:VK}{i:Nat}(hp:mi X.K r s)(K:aM X.K F S v u H)(h:Ok X.K E u F S H (kn (λxs=>xl (s xs)) C y i v) (λL _ W S' n=>∀a I,eu X.K n W L a I->(∀b,I b->H b=af/\¬W b/\¬U S' b/\∃o,n b=aa o/\cN o)->Q (.ref a) n)):∃a b P D,u[i]?=aa (aa (.ref a))/\H a=aa (.ins C P D)/\D.lookup y=aa (.ref b)/\r [.ref b] H Q:=by
 unfold kn at h;cases O:jd v C y i with
 |none=>rw[O]at h;exact h.elim
 |some q=>
  rw[O]at h;simp only[cK,R.bind_ok]at h;obtain⟨a,b,P,D,ea,ha,hl,ra,M,ff⟩:=K.lookI (qG O);refine⟨a,b,P,D,ea,ha,hl,?_⟩;cases N:s [.lst q.2]with
  |none=>rw[N]at h;exact h.elim
  |some L=>
   rw[N]at h;cases L with
   |lst J=>
    have h:Ok X.K E u F S H (aC (if ko J then aa (PO.lst J)else af) v) _:=h;split at h
    .rename_i hi;refine hp _ H [.lst q.2] [.ref b] Q _ M (.one ra) N λc W n I al ow fr=>h _ S n (K.al (ff al)) (ff al).grow c I ?_ λb z=>?_
     .obtain⟨⟨vs,o1,o2⟩,o3⟩:=ow;exact⟨⟨vs,o1,bc.imm J hi o2⟩,o3⟩
     .obtain⟨Y,z2,o,z3,z4⟩:=fr b z;refine⟨Y,λw=>z2 w.1,λ⟨j,w⟩=>?_,o,z3,z4⟩;obtain⟨_,_,o',Z,_⟩:=K.foot j b w;rw[Y]at Z;cases Z
    .exact h.elim
   |_=>exact h.elim
theorem PB(i:Nat)(c:Cls X.K C)(n:iE X.K C y)(N:d_ X (.type T) r)(D:mi X.K r s)(J:X.mg m=af)(w:dZ m=aa (.type T))(W:X.N[i]?=aa x:=by rfl)(eJ:c6 X.env.scope x:=by eq_refl)(M:(x==("__debug__":Str))=aj:=by decide) (ba:(x==("__classdict__":Str))=aj:=by decide) (L:Gl X m:=by rfl) (I:m≠"__name__":=by decide) (Y:(m==("__debug__":Str))=aj:=by decide) {h j:Pos}(O:fq (.Name x h) y X.env (aK (.Name x h) X.env)=aK (.Name x h) X.env:=by rfl)(o:aN [.Attribute (.Name x h) y j] X.env=(aj,aK (.Attribute (.Name x h) y j) X.env)::aN [] X.env:=by rfl) (cG:(b9 g (aN [] X.env)).any (·.1)=aj:=by rfl):DN X E (.Call (.Name m p) [.Attribute (.Name x h) y j] [] g) (kn (λxs=>xl (s xs)) C y i):=λF S ε σ H Q v q=>by obtain⟨a,b,dx,u,Z,P,K,z⟩:=Qz D v q;exact bV (ub N L J w (f8 (qL (dG W eJ M ba) O) g_ o) I Y o cG) ⟨.ref a,Z,a,C,dx,u,.ref b,rfl,P,c,n,K,z⟩
def pq(C:ac)(y:Str)(i:Nat)(de:ae->R PV):ae->R aH:=λa=>(aC (jd a C y i) a).bind λq a=>match de (a.set i .none)with
 |.ok v b=>if q.2.length<bH then .ok .next (b.set i (.own (.inl C q.1 y (q.2++[v]))))else .no
 |_=>.no
theorem Nc(i:Nat)(c:Cls X.K C)(n:iE X.K C y)(he:DE X E e de){x:Str}{p M u o:Pos}(hN:X.N[i]?=aa x:=by rfl)(hv:c6 X.env.scope x:=by eq_refl)(hd:(x==("__debug__":Str))=aj:=by decide)(ba:(x==("__classdict__":Str))=aj:=by decide) (hb:fq (.Name x p) y X.env (aK (.Name x p) X.env)=aK (.Name x p) X.env:=by rfl)(h1:fq (.Attribute (.Name x p) y M) "append" X.env (aK (.Attribute (.Name x p) y M) X.env)=aK (.Attribute (.Name x p) y M) X.env:=by rfl)(h2:((b9 o (aN [e] X.env)).all (λx=>!x.1)&&(jp o (jq [] X.env)).all (λx=>x.1.isSome)&&decide ([e].length+([]:List gq).length+(if([]:List gq).isEmpty then 0 else 1)<30))=ah:=by rfl)(h3:(u.endLine == o.line)=ah:=by rfl) (h4:aN [e] X.env=(aj,aK e X.env)::aN [] X.env:=by rfl) (h5:(b9 o (aN [] X.env)).any (·.1)=aj:=by rfl)(hs:ii (.Call (.Attribute (.Attribute (.Name x p) y M) "append" u) [e] [] o) af g.line X.env=pure aj:=by rfl):DS X E pin (.Expr (.Call (.Attribute (.Attribute (.Name x p) y M) "append" u) [e] [] o) g) (pq C y i de):=λF S ε σ H D Q h=>by
 unfold pq at h;cases e0:jd ε C y i with
 |none=>rw[e0]at h;exact h.elim
 |some q=>
  rw[e0]at h;simp only[cK,R.bind_ok]at h;have K:=qG e0;obtain⟨a,O,dx,ws,b,vs,ha,fr,hy,nB,hx,gx,hS⟩:=Q.own i _ K;refine eC (qJ (ph pU B3 B4 tQ (qL (dG hN hv hd ba) hb) (f8 bA g_ h4) h1 h2 h3 h4 h5) hs) ⟨.ref a,O,a,C,dx,_,.ref b,rfl,ha,c,n,wj (fr.miss hy),.inl ⟨rfl,_,cp.of nB⟩,?_⟩;refine he F _ _ σ H _ (Q.drop i) ?_;cases Z:de (ε.set i .none)with
  |no=>rw[Z]at h;exact h.elim
  |er c' ε'=>rw[Z]at h;exact h.elim
  |ok v P=>
   rw[Z]at h;dsimp only at h;split at h
   .rename_i hl;intro F1 S1 H1 r1 g1 v' rv;obtain⟨S2,r2,g2,ke⟩:=Q.away K r1 g1;have hi:i<P.length:=by rw[r1.len];exact(cF.mp O).1
    obtain⟨a2,L,dx2,ws2,b2,vs2,N,Y,W,vF,oF,I,lW⟩:=r2.own i _ (cu hi);rw[O]at L;cases L;have z:=ke a _ ((hS a).mpr (.inl rfl)) ha;have w:=ke b _ ((hS b).mpr (.inr rfl)) nB;rw[z]at N;injection N with N;injection N with _ edx ews;obtain⟨J,j⟩:=List.append_inj' ews rfl;injection j with j _;injection j with _ j;injection j with j;subst J j edx;rw[w]at vF;cases vF;obtain⟨r3,g3⟩:=r2.updI (cu hi) O z Y W I lW (oF.app (.one rv));rw[List.set_set]at r3;exact⟨b,vs,v',rfl,rfl,w,by rw[hx.len];exact fU hl jf,h F1 S2 σ _ r3 (g2.trans g3) (iq.refl _ _)⟩
   .exact h.elim
def wp(C:ac)(y:Str)(i:Nat):ae->R PV:=λa=>(aC (jd a C y i) a).bind λq a=>(aC q.2.getLast? a).bind λv a=>.ok v (a.set i (.own (.inl C q.1 y q.2.dropLast)))
theorem bc.dropL{K:au}{H:Hp}{F:ac->Prop}:∀{xs:List PV}{a:List V},bc K H F xs a->bc K H F xs.dropLast a.dropLast
 |[],_,h=>by cases h;exact rfl
 |[x],a,h=>by
  obtain⟨v,r,rfl,j,b⟩:=h;cases b;exact rfl
 |x::n::xs,a,h=>by obtain⟨v,r,rfl,j,b⟩:=h;obtain⟨c,i,rfl,q,o⟩:=b;exact⟨v,(c::i).dropLast,rfl,j,bc.dropL (xs:=n::xs) ⟨c,i,rfl,q,o⟩⟩
theorem HV(i:Nat)(c:Cls X.K C)(n:iE X.K C y){x:Str}{p z o j:Pos}(hN:X.N[i]?=aa x:=by rfl)(hv:c6 X.env.scope x:=by eq_refl)(hd:(x==("__debug__":Str))=aj:=by decide)(ba:(x==("__classdict__":Str))=aj:=by decide) (hb:fq (.Name x p) y X.env (aK (.Name x p) X.env)=aK (.Name x p) X.env:=by rfl)(h1:fq (.Attribute (.Name x p) y z) "pop" X.env (aK (.Attribute (.Name x p) y z) X.env)=aK (.Attribute (.Name x p) y z) X.env:=by rfl) (h3:(o.endLine == j.line)=ah:=by rfl):DE X E (.Call (.Attribute (.Attribute (.Name x p) y z) "pop" o) [] [] j) (wp C y i):=λF S Y σ H Q D h=>by
 unfold wp at h;cases K:jd Y C y i with
 |none=>rw[K]at h;exact h.elim
 |some q=>
  rw[K]at h;simp only[cK,R.bind_ok]at h;have w:=qG K;obtain⟨a,W,dx,ws,b,Z,N,P,M,L,I,gx,hS⟩:=D.own i _ w;cases J:q.2.getLast? with
  |none=>rw[J]at h;exact h.elim
  |some v=>
   rw[J]at h;obtain⟨r3,O⟩:=D.updI w W N P M gx hS I.dropL;have e2:q.2[q.2.length-1]?=aa v:=by rw[<-List.getLast?_eq_getElem?];exact J
   obtain⟨u,hu,ru⟩:=I.get e2;refine bV (Do pU PySem.F.slot_list_pop PySem.F.type_list_pop LN (qL (dG hN hv hd ba) hb) h1 h3) ⟨.ref a,W,a,C,dx,_,.ref b,rfl,N,c,n,wj (P.miss M),.inl ⟨rfl,_,cp.of L⟩,b,Z,u,rfl,rfl,L,by rw[I.len];exact hu,?_⟩;exact h F S _ r3 O u (ru.grow O D.fit)
def wz(C:ac)(i:Nat)(y:Str)(dn:ae->R PO):ae->R aH:=λb=>(dn b).bind λc a=>match c with
 |.lst xs=>(aC (oW a C i) a).bind λfs a=>if fs.length<1000/\fs.lookup y=af then .ok .next (a.set i (.own (.inl C fs y xs)))else .no
 |_=>.no
theorem Pg(i:Nat)(c:Cls X.K C)(n:iE X.K C y){dn:ae->R PO}(Cj:DN X E d dn)(hN:X.N[i]?=aa x:=by rfl)(hv:c6 X.env.scope x:=by eq_refl)(hd:(x==("__debug__":Str))=aj:=by decide)(ba:(x==("__classdict__":Str))=aj:=by decide) (hs:ii d (aa (.Attribute (.Name x p) y l)) g.line X.env=pure aj:=by rfl):DS X E pin (.Assign [.Attribute (.Name x p) y l] d g) (wz C i y dn):=λF S I u H D Y h=>by
 refine eC (CU (dG hN hv hd ba) bA hs) (Cj F S I u H _ Y ?_);unfold wz at h;cases w:dn I with
 |no=>rw[w]at h;exact h.elim
 |er c Q=>rw[w]at h;exact λx F' S' H' r' g'=>h x F' S' u H' r' g' (iq.refl _ _)
 |ok po v=>
  rw[w]at h;simp only[R.bind_ok]at h;intro F1 S1 H1 J N b Sb ow O;cases po with
  |lst xs=>
   dsimp only at h;cases q:oW v C i with
   |none=>rw[q]at h;exact h.elim
   |some fs=>
    rw[q]at h;simp only[cK,R.bind_ok]at h;obtain⟨a,P,⟨dx,W,M,L⟩,hS⟩:=J.own i _ (v9 q);split at h
    .rename_i K;obtain⟨Z,g2⟩:=J.giveI (v9 q) P M L hS K.2 ow λb z=>(O b z).2;refine⟨.ref a,P,a,C,dx,W,rfl,M,c,n,by rw[L.len];exact K.1,h F1 _ u _ Z ?_ (iq.refl _ _)⟩;have o:=N.trans g2;refine⟨o.fro,o.keep,o.there,o.fnew,λb ⟨j,z⟩=>?_⟩;rcases z with z|⟨_,z⟩
     .exact N.onew b ⟨j,z⟩
     .exact .inr (O b z).1
    .exact h.elim
  |_=>exact h.elim
end
section
variable{K:au}{F:ac->Prop}{S:Nat->ac->Prop}{ε:ae}{σ c:St}{H:Hp}{i:Nat}{C:ac}{m:Str}
def mr(ε:ae)(C:ac)(m:Str)(i:Nat):Bool:=match ε[i]? with
 |some (.own (.ins D fs))=>decide (D=C)&&(fs.lookup m).isNone
 |some (.own (.inl D fs y _))=>decide (D=C)&&(fs.lookup m).isNone&&decide (m≠y)
 |_=>aj
theorem A_(r:aM K F S ε σ H)(h:mr ε C m i=ah):∃a f d,σ[i]?=aa (aa (.ref a))/\H a=aa (.ins C f d)/\d.lookup m=af:=by
 unfold mr at h;split at h
 .rename_i D fs e;simp only[dS,decide_eq_true_eq,Option.isNone_iff_eq_none]at h;obtain⟨rfl,g⟩:=h;obtain⟨a,n,⟨f,d,l,j⟩,_⟩:=r.own i _ e;exact⟨a,f,d,n,l,j.miss g⟩
 .rename_i D fs y xs e;simp only[dS,decide_eq_true_eq,Option.isNone_iff_eq_none]at h;obtain⟨⟨rfl,g⟩,o⟩:=h;obtain⟨a,n,f,d,b,vs,l,j,_⟩:=r.own i _ e;refine⟨a,f,_,n,l,?_⟩;have:(m == y)=aj:=by simpa using o
  rw[uN,j.miss g];simp[jo,this]
 .cases h
theorem fh.bare:∀{b:List bQ}{d:List V},br b=[]->fh K σ F H b d->fh K c F H b d
 |[],_,_,h=>h
 |.inl _::_,_,a,⟨v,r,e,g,f⟩=>⟨v,r,e,g,fh.bare a f⟩
 |.inr _::_,_,a,_=>by cases a
theorem aM.only{po:PO}{a:ac}{Sa:ac->Prop}(l:∀b,F b->∃o,H b=aa o)(g:eu K H F po a Sa)(h:∀b,Sa b->¬F b/\∃o,H b=aa o/\cN o):aM K F (λj b=>j=0/\Sa b) [.own po] [aa (.ref a)] H:=by
 refine⟨rfl,l,λj pv q=>?_,λj p q=>?_,λj b z=>?_,λj k b f d=>f.1.trans d.1.symm⟩
 .match j,q with
  |0,q=>cases q
 .match j,q with
  |0,q=>
   cases q;refine⟨a,rfl,?_⟩;have:(λb=>0=0/\Sa b)=Sa:=by funext b;exact propext ⟨λz=>z.2,λz=>⟨rfl,z⟩⟩
   rw[this];exact g
 .obtain⟨rfl,z⟩:=z;exact⟨⟨po,rfl⟩,h b z⟩
end
section
variable{s:eh}{X:Cx}{E:XK}{pin:List Nat}{e:aD}{l:List aD}{r:ae->R (List bQ)}{p pos d:Pos}{x m:Str}{C:ac}{k:Nat}{u:List Str}{g n A:ae->R Slot}
def cY(C:ac)(m:Str)(i:Nat)(g:ae->R Slot):ae->R Slot:=λε=>if mr ε C m i then jC ε [.inr i] g else .no
theorem mV{pl:Sem Bool}(i:Nat)(c:Cls X.K C)(G:kA s X.prog X.w X.K X.mg X.base C m k u (bh X.K g))(L:cM k X.A)(I:kD s X E)(W:X.N[i]?=aa x:=by rfl) (J:c6 X.env.scope x:=by eq_refl) (P:(x==("__debug__":Str))=aj:=by decide) (ba:(x==("__classdict__":Str))=aj:=by decide)(K:aK (.Call (.Attribute (.Name x p) m d) [] [] pos) X.env=(do
   let ov <-aK (.Name x p) X.env
   standAt d.atName
   let (f,first) <-pE [ov] (uF ov m pl)
   callWith pos f first (b9 pos (aN [] X.env)) (jp pos (jq [] X.env))):=by rfl) :
  DR X E (.Call (.Attribute (.Name x p) m d) [] [] pos) (cY C m i g):=λF S z w H Q o h=>by
 unfold cY at h;by_cases b:mr z C m i=ah
 .rw[if_pos b]at h;obtain⟨f,fd,N,Fn,T⟩:=G.ex;obtain⟨a,dx,B,q,Y,O⟩:=A_ o b;refine bV (IW (pl:=pl) (dG W J P ba) c N Fn L T .nil I K) ⟨.ref a,q,a,dx,B,rfl,Y,O,?_⟩;have j:fh X.K w F H [.inr i] [.ref a]:=⟨.ref a,[],rfl,q,rfl⟩
  exact xi (wL o j h) λv H' ⟨sl,y,F',S',Sr,r',g',D,Z,M⟩=>M v Sr D Z
 .rw[if_neg b]at h;exact h.elim
def nQ(C:ac)(n:ae->R Slot)(r:ae->R (List bQ)):ae->R PO:=λf=>(r f).bind λb a=>if br b=[] then(match jC [.own (.ins C [])] (.inr 0::b) n with
 |.ok (.val .non) [.own h]=>.ok h a
 |.er c _=>.er c a
 |_=>.no)else .no
theorem Df(mk:Bv s X.prog X.w X.K X.mg X.base C k u (bh X.K n))(hr:cM (k+1) X.A)(hx:kD s X E)(hm:X.mg x=aa (.ref C))(ha:DG X E (e::l) r)(hg:Gl X x:=by rfl)(hd:(x==("__debug__":Str))=aj:=by decide) (h1:aN (e::l) X.env=(aj,aK e X.env)::aN l X.env:=by rfl) (h2:(b9 pos (aN l X.env)).any (·.1)=aj:=by rfl):DN X E (.Call (.Name x p) (e::l) [] pos) (nQ C n r):=λF S ε σ H Q rl h=>by
 obtain⟨f,fd,M,Fn,hb⟩:=mk.ex;refine bV (MJ M Fn hr hg hm hb .nil hx iC hd h1 h2) (ha F S ε σ H _ rl ((Ok.bind h).imp λas ε1 O S1 I L g1 q vs av a G B hdx cL=>?_));rw[i5];by_cases Z:br as=[]
 .rw[if_pos Z]at q;have al:Al O O I (L2.upd (L2.upd I G (.own a)) a (.ins C G [])):=(Al.new0 hdx).trans (Al.new0 (by rw[bo (dQ cL)];exact B));have nF:¬O a:=λz=>by obtain⟨o,q⟩:=L.ex a z;rw[B]at q;cases q
  have ow:eu X.K (L2.upd (L2.upd I G (.own a)) a (.ins C G [])) O (.ins C []) a (λb=>b=a):=⟨⟨G,[],bW,.nil⟩,λb=>pT⟩
  have rp:=aM.only (L.al al).ex ow λb z=>by subst z;exact⟨nF,_,bW,trivial⟩
  have av2:fh X.K [aa (.ref a)] O (L2.upd (L2.upd I G (.own a)) a (.ins C G [])) (.inr 0::as) (.ref a::vs):=⟨.ref a,vs,rfl,rfl,fh.bare Z (av.al al)⟩
  have hU:∀c,U (λj b=>j=0/\b=a) c->I c=af:=λc ⟨j,_,z⟩=>by rw[z];exact B
  refine xi (wL (D:=λsl K P T J=>sl=.val .non/\Q (.ref a) J) rp av2 ?_) λv J ⟨sl,K,P,T,Sr,i,N,rs,fr,hs,hq⟩=>⟨by subst hs;exact rs.1,hq⟩
  split at q
  .rename_i po e0;rw[e0];intro P T J i N;obtain⟨a',ea',Y⟩:=i.own 0 _ rfl;cases ea';obtain⟨W,g2⟩:=L.aside (al.grow.trans N) hU i.ex;refine⟨rfl,q P S1 J W g2 a (T 0) Y λb z=>?_⟩;have hn:I b=af:=by
    rcases N.onew b ⟨0,z⟩with w|w
    .exact hU b w
    .exact al.same.free w
   exact⟨lz g1 hn,(i.foot 0 b z).2.1,(λ⟨j,w⟩=>by obtain⟨_,_,o,w1,_⟩:=L.foot j b w;rw[hn]at w1;cases w1),(i.foot 0 b z).2.2⟩
  .rename_i c K e0;rw[e0];intro y P T J i N;obtain⟨W,g2⟩:=L.aside (al.grow.trans N) hU i.ex;exact q y P S1 J W g2
  .exact q.elim
 .rw[if_neg Z]at q;exact q.elim
end
def eV(a:List Nat):Nat->ae->Bool
 |_,[]=>ah
 |i,.own _::b=>a.contains i&&eV a (i+1) b
 |i,_::b=>eV a (i+1) b
theorem tf{c:List Nat}:∀{b:ae}{k:Nat},eV c k b=ah->∀(i:Nat) a,b[i]?=aa (.own a)->k+i∈c
 |[],_,_,i,a,e=>by simp at e
 |.own q::b,k,h,0,a,e=>by simp only[eV,dS]at h;simpa using h.1
 |.own q::b,k,h,i+1,a,e=>by simp only[eV,dS]at h;have:=tf (k:=k+1) h.2 i a (by simpa using e);rwa[uW,uX]at this
 |.val q::b,k,h,0,a,e=>by simp at e
 |.none::b,k,h,0,a,e=>by simp at e
 |.val q::b,k,h,i+1,a,e=>by have:=tf (k:=k+1) (by simpa[eV]using h) i a (by simpa using e);rwa[uW,uX]at this
 |.none::b,k,h,i+1,a,e=>by have:=tf (k:=k+1) (by simpa[eV]using h) i a (by simpa using e);rwa[uW,uX]at this
def iM:R Slot->R Slot
 |.ok (.val v) a=>.ok (.val v) a
 |.er c a=>.er c a
 |_=>.no
theorem IP{r:R Slot}(h:iM r≠.no):iM r=r:=by unfold iM at h ⊢;split <;> simp_all
def fG(len:Nat)(b:List Nat)(g:ae->R Slot):ae->R Slot:=λa=>if a.length=len/\eV b 0 a=ah then iM (g a)else .no
section
variable{l:eh}{P:a_}{w:aU}{K:au}{j:Str->Option ai}{g:aI}{C:ac}{m x a:Str}{b:aS}{N c:List Str}{k n:Nat}{d:ae->R aH}{pin:List Nat}
theorem FP{f:ac}{u:gG}(M:lG K x a b f u)(L:bE N c (aL b))(D:N.length=c.length+n)(F:∀(kV v B:ai) (J:Option ac) (q I:ai) (r:List ai),r.length=c.length->eR (fu x a (fZ b) (c8 b) (aL b) .none kV v B J q I) ⟨r,[]⟩=pure (c.zip r))(G:∀(f:ac) (q:ai) (A:a4) (o:List Env) (s:ao) (H:Hp) (E:XK),cM k (A.deeper (fM a (aL b) s.heap.objs.size f q))->eT (fD l P w K j g N a (aL b) f q A o s H E) E pin (c8 b) d):g7 P w K j g l (k+1) f u c (bh K (fG c.length pin (aY n d))):=by
 have no:∀{p},fG c.length pin (aY n d) p≠.no->p.length=c.length/\eV pin 0 p=ah:=λ{p} h=>by
  unfold fG at h;by_cases z:p.length=c.length/\eV pin 0 p=ah
  .exact z
  .rw[if_neg z]at h;exact absurd rfl h
 refine CH M L D F (λp h=>(no h).1) (λp h i y e=>by have:=tf (no h).2 i y e;rwa[sd]at this) (λp O Q h=>.inl ?_) (λp h=>?_) λA o s H E=>G f u.code A o s H E
 .unfold fG at h;split at h
  .unfold iM at h;split at h
   .cases h;exact⟨_,rfl⟩
   .cases h
   .cases h
  .cases h
 .have z:=no h;unfold fG at h ⊢;rw[if_pos z]at h ⊢;exact(IP h).symm
theorem Ag(D:je K C m a b)(G:bE N c (aL b))(v:N.length=c.length+n)(q:∀(kV p u:ai) (F:Option ac) (i B:ai) (o:List ai),o.length=c.length->eR (fu m a (fZ b) (c8 b) (aL b) .none kV p u F i B) ⟨o,[]⟩=pure (c.zip o))(y:∀(f:ac) (i:ai) (A:a4) (h:List Env) (s:ao) (H:Hp) (E:XK),cM k (A.deeper (fM a (aL b) s.heap.objs.size f i))->eT (fD l P w K j g N a (aL b) f i A h s H E) E pin (c8 b) d):kA l P w K j g C m (k+1) c (bh K (fG c.length pin (aY n d))):=by obtain⟨f,z,M,r⟩:=D;exact⟨f,z,M,FP r G v q y,r.binds q⟩
theorem Ng(D:cq K j x b)(I:bE N c (aL b))(v:N.length=c.length+n)(r:∀(kV p u:ai) (G:Option ac) (i F:ai) (o:List ai),o.length=c.length->eR (fu x x (fZ b) (c8 b) (aL b) .none kV p u G i F) ⟨o,[]⟩=pure (c.zip o))(z:∀(f:ac) (i:ai) (A:a4) (h:List Env) (s:ao) (H:Hp) (E:XK),cM k (A.deeper (fM x (aL b) s.heap.objs.size f i))->eT (fD l P w K j g N x (aL b) f i A h s H E) E pin (c8 b) d):cD l P w K j g x (k+1) c (bh K (fG c.length pin (aY n d))):=by obtain⟨f,B,y,q⟩:=D.ex;exact⟨f,B,y,FP q I v r z,q.binds r,q.kp⟩
end
section
variable{X:Cx}{e c y:aD}{C:List aD}{m a:List aS}{t:ae->R Bool}{lu jR:ae->R Slot}{E:ae->R (List bQ)}{D:ae->R PV}{k w v u:Nat}{o f d b:List Str}{g B A z:ae->R Slot}{l j i:Str}{x h r q p s n:Pos}
def pf(t:ae->R Bool)(lu jR:ae->R Slot):ae->R Slot:=λε=>(bn (t ε)).bind λk F=>if k then lu F else jR F
end
section
variable{X:Cx}{e c j y:aD}{l:List aD}{t:ae->R Bool}{lu jR:ae->R Slot}{n:ae->R (List bQ)}{k:Nat}{w:List Str}{g:ae->R Slot}{x m:Str}{C:ac}{p pos d:Pos}
theorem KG(ht:DT X.nox E0 c t)(h1:DX X j lu)(h2:DX X y jR):DX X (.IfExp c j y pos) (pf t lu jR):=λF S N B H Q L rl h Y s I=>by
 have q0:Ok X.K E0 B F S H (t N) (λk a u i r=>Ok X.K (λc _ f=>L c f) B u i r (if k then lu a else jR a) (λs _ D K f=>∀v A,j8 X.K f D s v A->(∀b,A b->H b=af/\¬D b/\¬U K b/\∃o,f b=aa o/\cN o)->Q v f)):=by
  unfold pf at h;cases W:t N with
  |no=>rw[W]at h;exact h.elim
  |er c E=>rw[W]at h;exact h.elim
  |ok k a=>rw[W]at h;exact λu i r G T=>Ok.from h T
 have wt:=(ht F S N B H (λk r=>∃u i a,aM X.K u i a B r/\(∀b,r b=af->H b=af)/\Ok X.K (λc _ f=>L c f) B u i r (if k then lu a else jR a) (λs _ D K f=>∀v A,j8 X.K f D s v A->(∀b,A b->H b=af/\¬D b/\¬U K b/\∃o,f b=aa o/\cN o)->Q v f)) rl (q0.imp λk a u i r G T q=>⟨u,i,a,G,λb z=>lz T z,q⟩)).run Y s (I.wish _);refine wpAny_IfExp (d4 wt (λkk Z ⟨r,M,u,i,a,G,fb,q⟩=>?_) λ_ _ z=>z.elim);have M:=M.unwish;cases kk with
 |true=>exact h1 u i a B r Q L G (q.imp λsl E D K f r' g' P v A O J=>P v A O λb z=>⟨fb b (J b z).1,(J b z).2⟩) Y Z M
 |false=>exact h2 u i a B r Q L G (q.imp λsl E D K f r' g' P v A O J=>P v A O λb z=>⟨fb b (J b z).1,(J b z).2⟩) Y Z M
theorem JE{pl:Sem Bool}(i:Nat)(c:Cls X.K C)(M:kA (bP X.prog X.w) X.prog X.w X.K X.mg X.base C m k w (bh X.K g))(P:cM k X.A)(hN:X.N[i]?=aa x:=by rfl) (N:c6 X.env.scope x:=by eq_refl) (Y:(x==("__debug__":Str))=aj:=by decide) (ba:(x==("__classdict__":Str))=aj:=by decide)(O:aK (.Call (.Attribute (.Name x p) m d) [] [] pos) X.env=(do
   let ov <-aK (.Name x p) X.env
   standAt d.atName
   let (f,first) <-pE [ov] (uF ov m pl)
   callWith pos f first (b9 pos (aN [] X.env)) (jp pos (jq [] X.env))):=by rfl) :
  DX X (.Call (.Attribute (.Name x p) m d) [] [] pos) (cY C m i g):=λF S G A H Q XE B h ag s I=>by
 unfold cY at h;by_cases o:mr G C m i=ah
 .rw[if_pos o]at h;obtain⟨f,fd,D,Fn,Z⟩:=M.ex;obtain⟨a,dx,ws,j,hH,W⟩:=A_ B o;have J:=dG (X:=X.nox) (pos:=p) hN N Y ba ag s A H (λv r=>v=.ref a/\r=H) (I.wish _) ⟨.ref a,j,rfl,rfl⟩;refine GH (pl:=pl) (d4 J (λu s1 ⟨v,r,b,K,e1,e2⟩=>?_) λ_ _ z=>z.elim) O;have b:=b.unwish;subst e1 e2;obtain rfl:u=Value.ref a:=K;refine zg b hH c D W ?_;have q:fh X.K A F r [.inr i] [.ref a]:=⟨.ref a,[],rfl,j,rfl⟩
  exact PySem.W.callWith_K0 (first:=[.ref a]) b.kIn D.kp (Gm (us:=[.ref a]) (vs:=[.ref a]) Fn P Z b (.cons rfl .nil) (xi (wL B q h) λv H' ⟨sl,E,F',S',Sr,r',g',L,fr,T⟩=>T v Sr L fr))
 .rw[if_neg o]at h;exact h.elim
def t7(C:ac)(m:Str)(i:Nat)(g:ae->R Slot)(n:ae->R (List bQ)):ae->R Slot:=λε=>if mr ε C m i then(bn (n ε)).bind λb a=>jC a (.inr i::b) g else .no
theorem K3{pl:Sem Bool}(i:Nat)(c:Cls X.K C)(mt:kA (bP X.prog X.w) X.prog X.w X.K X.mg X.base C m k w (bh X.K g))(hr:cM k X.A)(ha:DG X.nox E0 (e::l) n)(hN:X.N[i]?=aa x:=by rfl) (hv:c6 X.env.scope x:=by eq_refl) (hd:(x==("__debug__":Str))=aj:=by decide) (ba:(x==("__classdict__":Str))=aj:=by decide)(h1:aN (e::l) X.env=(aj,aK e X.env)::aN l X.env:=by rfl) (h2:(b9 pos (aN l X.env)).any (·.1)=aj:=by rfl)(ht:aK (.Call (.Attribute (.Name x p) m d) (e::l) [] pos) X.env=(do
   let ov <-aK (.Name x p) X.env
   standAt d.atName
   let (f,first) <-pE [ov] (uF ov m pl)
   callWith pos f first (b9 pos (aN (e::l) X.env)) (jp pos (jq [] X.env))):=by rfl) :
  DX X (.Call (.Attribute (.Name x p) m d) (e::l) [] pos) (t7 C m i g n):=λF S O G H Q XE rl h ag s I=>by
 unfold t7 at h;by_cases Y:mr O C m i=ah
 .rw[if_pos Y]at h;obtain⟨f,fd,hm,Fn,hb⟩:=mt.ex;obtain⟨a,dx,ws,j,hH,hl⟩:=A_ rl Y;have q0:Ok X.K E0 G F S H (n O) (λE A D J K=>Ok X.K (λc _ B=>XE c B) G D J K (jC A (.inr i::E) g) (λs _ N T B=>∀v L,j8 X.K B N s v L->(∀b,L b->H b=af/\¬N b/\¬U T b/\∃o,B b=aa o/\cN o)->Q v B)):=by
   cases e0:n O with
   |no=>rw[e0]at h;exact h.elim
   |er c W=>rw[e0]at h;exact h.elim
   |ok E A=>rw[e0]at h;exact λD J K P Z=>Ok.from h Z
  have wv:=dG (X:=X.nox) (pos:=p) hN hv hd ba ag s G H (λv K=>v=.ref a/\K=H) (I.wish _) ⟨.ref a,j,rfl,rfl⟩;refine GH (pl:=pl) (d4 wv (λu s1 ⟨v,K,I1,rv,e1,e2⟩=>?_) λ_ _ z=>z.elim) ht;subst e1 e2;obtain rfl:u=Value.ref a:=rv;refine zg I1.unwish hH c hm hl ?_;have wa:=(ha F S O G K (λvs M=>∃D J A E,aM X.K D J A G M/\fh X.K G D M E vs/\(∀b,M b=af->K b=af)/\Ok X.K (λc _ B=>XE c B) G D J M (jC A (.inr i::E) g) (λs _ N T B=>∀v L,j8 X.K B N s v L->(∀b,L b->K b=af/\¬N b/\¬U T b/\∃o,B b=aa o/\cN o)->Q v B)) rl (q0.imp λE A D J M P Z q vs av=>⟨D,J,A,E,P,av,λb z=>lz Z z,q⟩)).run pos ag s1 I1;refine BH (first:=[.ref a]) (h₀:=X.base) I.ok.mod.kin hm.kp (d4 wa (λus s2 ⟨vs,M,I2,r,D,J,A,E,P,av,fb,q⟩=>⟨I2.unwish.kIn,?_⟩) λ_ _ z=>z.elim) h1 h2;have av2:fh X.K G D M (.inr i::E) (.ref a::vs):=⟨.ref a,vs,rfl,j,av⟩
  exact Gm (us:=.ref a::us) (vs:=.ref a::vs) Fn hr hb I2.unwish (.cons rfl r) (xi (wL P av2 q) λv B ⟨sl,W,N,T,L,r',g',rs,fr,hq⟩=>hq v L rs λb z=>⟨fb b (fr b z).1,(fr b z).2⟩)
 .rw[if_neg Y]at h;exact h.elim
end
section
variable{X:Cx}{E:XK}{pin:List Nat}{x y:Str}{C:ac}{e o:aD}{p m g f i:Pos}
def lF(d:ae->R Slot)(de:ae->R PV):ae->R aH:=λc=>(d c).bind λs b=>match s with
 |.own (.lst xs)=>if xs.length<bH then(de b).bind λ_ a=>.ok .next a else .no
 |_=>.no
theorem aM.beside{K:au}{F:ac->Prop}{S:Nat->ac->Prop}{u:ae}{s:St}{H:Hp}{l:ac}{v:HO}(d:HO)(r:aM K F S u s H)(J:H l=aa v)(n:cN v)(I:¬F l)(nS:¬U S l):aM K F S u s (L2.upd H l d):=by
 have h:bd (λb=>U S b\/b=l) (U S) F F H (L2.upd H l d):=⟨λ_ z=>z,λb o e n=>by rw[L2.bo λz=>n (.inr z)];exact e,λb o e=>by
  by_cases A:b=l
  .subst A;exact⟨_,L2.bW⟩
  .exact⟨o,by rw[L2.bo A];exact e⟩,λ_ z=>.inl z,λ_ z=>.inl (.inl z)⟩
 have fit:Fit (λb=>U S b\/b=l) F H:=λb z=>by
  rcases z with z|rfl
  .exact r.fit b z
  .exact⟨I,_,J,n⟩
 refine⟨r.len,λb z=>let ⟨o,q⟩:=r.ex b z;h.there b o q,λj pv e=>?_,λj G e=>?_,λj b z=>?_,r.dist⟩
 .obtain⟨w,c,a⟩:=r.val j pv e;exact⟨w,c,a.grow h fit⟩
 .obtain⟨w,c,a⟩:=r.own j G e;refine⟨w,c,a.mono (λ_ _ q=>q.grow h fit) (λ_ _ q=>q.grow h fit) λb o z q=>?_⟩;rw[L2.bo (by rintro rfl;exact nS ⟨j,z⟩)];exact q
 .obtain⟨c,a,o,D,B⟩:=r.foot j b z;exact⟨c,a,o,by rw[L2.bo (by rintro rfl;exact nS ⟨j,z⟩)];exact D,B⟩
theorem Ge{d:ae->R Slot}{de:ae->R PV}(ho:DR X E o d)(he:DE X E e de)(h1:fq o "append" X.env (aK o X.env)=aK o X.env:=by rfl)(h2:((b9 f (aN [e] X.env)).all (λx=>!x.1)&&(jp f (jq [] X.env)).all (λx=>x.1.isSome)&&decide ([e].length+([]:List gq).length+(if([]:List gq).isEmpty then 0 else 1)<30))=ah:=by rfl)(h3:(g.endLine == f.line)=ah:=by rfl) (N:aN [e] X.env=(aj,aK e X.env)::aN [] X.env:=by rfl) (h5:(b9 f (aN [] X.env)).any (·.1)=aj:=by rfl)(hs:ii (.Call (.Attribute o "append" g) [e] [] f) af i.line X.env=pure aj:=by rfl):DS X E pin (.Expr (.Call (.Attribute o "append" g) [e] [] f) i) (lF d de):=λF S J j H D Z h=>by
 refine eC (qJ (ph pU B3 B4 tQ bA (f8 bA g_ N) h1 h2 h3 N h5) hs) ?_;unfold lF at h;refine ho F S J j H _ Z ?_;cases A:d J with
 |no=>rw[A]at h;exact h.elim
 |er c r=>rw[A]at h;exact λx I B G s w=>h x I B j G s w (iq.refl _ _)
 |ok sl l=>
  rw[A]at h;simp only[R.bind_ok]at h;intro F1 S1 H1 r1 P v Sr Y fr;split at h
  .rename_i xs;split at h
   .rename_i hl;obtain⟨a,rfl,⟨K,M,W⟩,hS⟩:=Y;obtain⟨Q,f2,f3,_⟩:=fr a ((hS a).mpr rfl);refine⟨.inl ⟨rfl,_,cp.of M⟩,he F1 S1 l j H1 _ r1 ?_⟩;cases z:de l with
    |no=>rw[z]at h;exact h.elim
    |er c r=>rw[z]at h;exact λx I B G s w=>h x I B j G s (P.trans w) (iq.refl _ _)
    |ok y T=>
     rw[z]at h;simp only[R.bind_ok]at h;intro F2 S2 H2 r2 O u ru;obtain⟨L,k2,k3⟩:=O.stay M f3 f2;have r3:=r2.beside (.lst (K++[u])) L trivial k2 k3;have q:=P.trans O;refine⟨a,K,u,rfl,rfl,L,by rw[W.len];exact fU hl jf,h F2 S2 j _ r3 ⟨q.fro,λb o e n=>?_,λb o e=>?_,q.fnew,q.onew⟩ (iq.refl _ _)⟩
     .rw[bo (by rintro rfl;rw[Q]at e;cases e)];exact q.keep b o e n
     .rw[bo (by rintro rfl;rw[Q]at e;cases e)];exact q.there b o e
   .exact h.elim
  .exact h.elim
end
section
variable{X:Cx}{E:XK}{pin:List Nat}{pos:Pos}
def hZ(i j:Nat)(c:ae->R aH):List PV->ae->R aH
 |[],b=>.ok .next b
 |x::xs,b=>match x with
  |.tup [u,v]=>match c ((b.set i (.val u)).set j (.val v))with
   |.ok .next a=>hZ i j c xs a
   |.ok .cont a=>hZ i j c xs a
   |.ok .brk a=>.ok .next a
   |r=>r
  |_=>.no
def o7(i j:Nat)(c:ae->R (List PV))(d:ae->R aH):ae->R aH:=λb=>(c b).bind λxs a=>hZ i j d xs a
theorem Rb(i j:Nat){x y:Str}{p p2 A:Pos}{k:Nat}{m:aD}{n:List aS}{di:ae->R (List PV)}{L:ae->R aH}(p6:uD (aE X.prog X.w) X.A X.env X.xe)(hc:X.calm=ah)(hN:X.N.Nodup)(hi:DI X E (.Tuple [.Name x p,.Name y p2] k A) m di)(hb:eT X E pin n L)(hp:i∉pin:=by decide) (gw:j∉pin:=by decide) (I:X.N[i]?=aa x:=by rfl) (hy:X.N[j]?=aa y:=by rfl) (Y:Loc X.env.scope x:=by first|exact Or.inl rfl|exact Or.inr rfl) (jO:Loc X.env.scope y:=by first|exact Or.inl rfl|exact Or.inr rfl) (hs:∀x,nc m X.env x=pure x:=by intro _;rfl)(hf:X.fn x=ah\/X.env.scope.names.lookup x=aa .local:=by first|exact .inl rfl|exact .inr rfl) (oB:X.fn y=ah\/X.env.scope.names.lookup y=aa .local:=by first|exact .inl rfl|exact .inr rfl):DS X E pin (.For (.Tuple [.Name x p,.Name y p2] k A) m n [] pos) (o7 i j di L):=λF S ε σ H D rl h=>by
 refine eC (Ai p6 hc uw (AM hc (rE (n_ hN I Y hf) (rE (n_ hN hy jO oB) AK))) lM hs) (hi F S ε σ H _ rl (h.bindE.imp λxs N F1 S1 H1 r1 g1 h1 J vs RR rs hz hw C=>?_));refine AJ hw (λk a l=>∃o r d,aM X.K o r d a l/\bd (U S1) (U r) F1 o H1 l/\gS X.K E pin a o r l (hZ i j L (xs.drop k) d) D) ⟨F1,S1,N,r1,bd.refl ..,h1⟩ (λk a l _ ⟨o,r,d,_,g,_⟩=>C r o l g) ?_ ?_
 .rintro k v a l hv ⟨o,r,d,T,K,q⟩;obtain⟨x,I,rx⟩:=rs.back hv;have hk:k<xs.length:=(cF.mp I).1;have ed:xs.drop k=x::xs.drop (k+1):=by rw[B1 hk];congr 1;exact(cF.mp I).2
  rw[ed]at q;have Q:=rx.grow K r1.fit;unfold hZ at q;split at q
  .rename_i u w;obtain⟨pp,us,rfl,im,ru⟩:=Q;obtain⟨P,ra,rfl,r2,O,rb,rfl,B,rfl⟩:=ru;have r5:=(T.set (i:=i) r2).set (i:=j) B;have Z:bd (U r) (U λW b=>(r W b/\W≠i)/\W≠j) o o l l:=(bd.less i).trans (bd.less j);refine⟨pp,_,rfl,dj.of im,rfl,P,_,rfl,O,_,rfl,rfl,?_⟩;show my X n _ ((a.set i (aa P)).set j (aa O)) l;refine hb o _ _ _ l _ r5 ?_;have q:=q.from Z ((iq.set (x:=aa P) hp).trans (iq.set (x:=aa O) gw));cases e:L ((d.set i (.val u)).set j (.val w))with
   |no=>rw[e]at q;exact q
   |er c z=>rw[e]at q;exact q
   |ok f z=>
    rw[e]at q;cases f with
    |next=>exact λF3 S3 M H3 B G A=>⟨F3,S3,z,B,(K.trans Z).trans G,q.from G A⟩
    |cont=>exact λF3 S3 M H3 B G A=>⟨F3,S3,z,B,(K.trans Z).trans G,q.from G A⟩
    |brk=>exact q
    |ret s=>exact q
  .exact q.elim
 .rintro a l ⟨o,r,d,T,K,q⟩;have Y:vs.length=xs.length:=rs.len;rw[Y,B2]at q;exact q o r a l T (bd.refl ..) (iq.refl _ _)
end
section
variable{n:eh}{P:a_}{w:aU}{K:au}{l:Str->Option ai}{j:aI}{C:ac}{m x d:Str}{i:aS}{N g:List Str}{k:Nat}{e:aD}{o:Pos}
def qF(len:Nat)(dn:ae->R PO):ae->R Slot:=λa=>if a.length=len then(dn a).bind λb c=>.ok (.own b) c else .no
theorem HW{dn:ae->R PO}(D:je K C m d i)(Sc:bE N g (aL i))(hn:N.length=g.length)(hb:∀(kV u L:ai) (W:Option ac) (v O:ai) (B:List ai),B.length=g.length->eR (fu m d (fZ i) (c8 i) (aL i) .none kV u L W v O) ⟨B,[]⟩=pure (g.zip B))(he:c8 i=[.Return (aa e) o])(ju:∀(f:ac) (v:ai) (A:a4) (p:List Env) (s:ao) (H:Hp) (E:XK),cM k (A.deeper (fM d (aL i) s.heap.objs.size f v))->DN (fD n P w K l j N d (aL i) f v A p s H E) E e dn):kA n P w K l j C m (k+1) g (bh K (qF g.length dn)):=by
 obtain⟨f,fd,M,X⟩:=D;refine⟨f,fd,M,?_,X.binds hb⟩;have T:∀q,qF g.length dn q≠.no->q.length=g.length:=λq h=>by
  unfold qF at h;by_cases z:q.length=g.length
  .exact z
  .rw[if_neg z]at h;exact absurd rfl h
 obtain⟨oc,od,kV,u,L,W,v,O,osl,rfl,lk,ba⟩:=X.ex;refine yN lk ba Sc (wc T) λA p s H y Q E hr gY=>⟨_,lM,?_⟩
 obtain⟨F,S,q,J,ok⟩:=gY;have hl:=T q (qY ok);have h2:=J.len;rw[bS]at h2;have es:L2.start N y=y.map aa:=by unfold L2.start;rw[show N.length-y.length=0 by lia];simp
 rw[es,he];refine t_ (zq qt) (eC (qo bA) (ju _ _ A p s H E hr F S q _ H _ J ?_));unfold qF at ok;rw[if_pos hl]at ok;cases I:dn q with
 |no=>rw[I]at ok;exact ok.elim
 |er c Y=>rw[I]at ok;exact λx F' S' H' r' g'=>ok x F' S' H' r' g'
 |ok po aR=>rw[I]at ok;intro F1 S1 H1 Z r a Sa ow G;exact ok _ F1 S1 H1 Sa Z ⟨r.fro,r.keep,r.there,r.fnew,λb z=>z.elim (r.onew b) λw=>.inr (G b w).1⟩ ⟨a,rfl,ow⟩ (λb z=>let ⟨_,x2,x3,x4⟩:=G b z;⟨x2,x3,x4⟩) λb z=>(G b z).1
end
section
variable{X:Cx}{E:XK}{pin:List Nat}{pos:Pos}{C:ac}{y:Str}
def nO(C:ac)(y:Str)(i d c:Nat)(f:ae->R aH):ae->R aH:=λb=>(aC (jd b C y i) b).bind λq b=>match hZ d c f q.2 (b.set i .none)with
 |.ok .next a=>if i<a.length then .ok .next (a.set i (.own (.inl C q.1 y q.2)))else .no
 |_=>.no
theorem Ma(i K J:Nat)(c:Cls X.K C)(n:iE X.K C y){x O N:Str}{p ap p1 p2 Y:Pos}{k:Nat}{G:List aS}{db:ae->R aH}(p6:uD (aE X.prog X.w) X.A X.env X.xe)(hc:X.calm=ah)(hN:X.N.Nodup)(hb:eT X E (i::pin) G db)(hp:K∉i::pin:=by decide) (gw:J∉i::pin:=by decide) (hNi:X.N[i]?=aa x:=by rfl) (hv:c6 X.env.scope x:=by eq_refl)(hd:(x==("__debug__":Str))=aj:=by decide) (ba:(x==("__classdict__":Str))=aj:=by decide) (vD:fq (.Name x p) y X.env (aK (.Name x p) X.env)=aK (.Name x p) X.env:=by rfl)(hx:X.N[K]?=aa O:=by rfl) (hy:X.N[J]?=aa N:=by rfl) (hl:Loc X.env.scope O:=by first|exact Or.inl rfl|exact Or.inr rfl) (jO:Loc X.env.scope N:=by first|exact Or.inl rfl|exact Or.inr rfl)(vt:∀u,nc (.Attribute (.Name x p) y ap) X.env u=pure u:=by intro _;rfl)(hf:X.fn O=ah\/X.env.scope.names.lookup O=aa .local:=by first|exact .inl rfl|exact .inr rfl) (oB:X.fn N=ah\/X.env.scope.names.lookup N=aa .local:=by first|exact .inl rfl|exact .inr rfl):DS X E pin (.For (.Tuple [.Name O p1,.Name N p2] k Y) (.Attribute (.Name x p) y ap) G [] pos) (nO C y i K J db):=λF S ε σ H D rl h=>by
 unfold nO at h;cases e0:jd ε C y i with
 |none=>rw[e0]at h;exact h.elim
 |some T=>
  rw[e0]at h;simp only[cK,R.bind_ok]at h;split at h;rotate_left
  .exact h.elim
  rename_i εe R5;split at h;rotate_left
  .exact h.elim
  rename_i hie;obtain⟨a,ea,dx,ws,b,vs,ha,ki,hno,hB,rs,gx,hS⟩:=rl.own i _ (qG e0);have sA:S i a:=(hS a).mpr (.inl rfl);have hSb:S i b:=(hS b).mpr (.inr rfl);have vG:∀c,c=a\/c=b->¬U (λk b=>S k b/\k≠i) c:=λc hc ⟨k,O,N⟩=>N (rl.dist k i c O ((hS c).mpr hc));have hF0:∀c,c=a\/c=b->¬F c:=λc hc=>(rl.foot i c ((hS c).mpr hc)).2.1;have r0:aM X.K F (λk b=>S k b/\k≠i) (ε.set i .none) σ H:=rl.drop i;have hlk:(ws++[(y,V.ref b)]).lookup y=aa (.ref b):=wj (iL.miss ki hno);have fin:∀r B d l,aM X.K r B εe d l->bd (U λk b=>S k b/\k≠i) (U B) F r H l->iq (i::pin) σ d->D.nx d l:=by
   intro r B d l r' j Z;have lX:l a=aa (.ins C dx (ws++[(y,.ref b)])):=j.keep a _ ha (vG a (.inl rfl));have hB':l b=aa (.lst vs):=j.keep b _ hB (vG b (.inr rfl));obtain⟨_,nFa,nSa⟩:=j.stay ha (vG a (.inl rfl)) (hF0 a (.inl rfl));obtain⟨_,nFb,nSb⟩:=j.stay hB (vG b (.inr rfl)) (hF0 b (.inr rfl));have r4:=r'.putOwn (po:=.inl C T.1 y T.2) (Sa:=λc=>c=a\/c=b) hie (by rw[Z i (by simp)];exact ea) ⟨dx,ws,b,vs,lX,ki.mono (λ_ _ z=>z.grow j r0.fit),hno,hB',rs.grow j r0.fit,gx,λ_=>pT⟩ λc z=>by
    rcases z with rfl|rfl
    .exact⟨nFa,nSa,_,lX,trivial⟩
    .exact⟨nFb,nSb,_,hB',trivial⟩
   refine h r _ d _ r4 ⟨j.fro,λc o' e n=>j.keep c o' e λ⟨k,z⟩=>n ⟨k,z.1⟩,j.there,λc z=>?_,λc ⟨k,z⟩=>?_⟩ λk hk=>Z k (by simp[hk])
   .rcases j.fnew c z with w|w|⟨k,w⟩
    .exact .inl w
    .exact .inr (.inl w)
    .exact .inr (.inr ⟨k,w.1⟩)
   .rcases z with z|⟨_,z⟩
    .rcases j.onew c ⟨k,z.1⟩with⟨k',w⟩|w
     .exact .inl ⟨k',w.1⟩
     .exact .inr w
    .exact .inl ⟨i,(hS c).mpr z⟩
  refine eC (Ai p6 hc uw (AM hc (rE (n_ hN hx hl hf) (rE (n_ hN hy jO oB) AK))) lM vt) (Bx.mk λag s I=>?_);have w:=bV (X:=X) (qL (f:=y) (pos:=ap) (dG hNi hv hd ba) vD) (σ:=σ) (H:=H) (Q:=λv H1=>v=.ref b/\H1=H) ⟨.ref a,ea,a,C,dx,_,.ref b,rfl,ha,c,n,hlk,rfl,rfl⟩;refine aW (w.run ag s I) λv s1 ⟨x',H1,I1,rx,ex,eH⟩=>?_;subst ex eH;obtain rfl:v=Value.ref b:=rx;obtain⟨its,rr,pp,hz⟩:=I1.list (cp.of hB);refine uP pp.isList ?_;refine⟨s1.heap.objs.size,[s1.heap.objs.size],_,_,H1,rfl,I1.kept (t':=s1.toks) λb o e=>bN _ e,EL b _,⟨_,cW _ rfl,rfl,rfl⟩,λc vH=>?_,?_⟩
  .have e:c=s1.heap.objs.size:=by simpa using vH
   subst e;exact I1.fpOk (bB _) (I1.hok.fresh (bB _))
  refine AJ (EW (xs:=vs)) (λm d l=>∃r B A,aM X.K r B A d l/\bd (U λk b=>S k b/\k≠i) (U B) F r H1 l/\iq (i::pin) σ d/\hZ K J db (T.2.drop m) A=.ok .next εe) ⟨F,_,_,r0,bd.refl ..,iq.refl _ _,R5⟩ (λm d l _ ⟨r,B,A,_,g,_⟩=>cp.of (g.keep b _ hB (vG b (.inr rfl)))) ?_ ?_
  .rintro m v d l hv' ⟨r,B,A,r',j,Z,q⟩;obtain⟨xv,hxv,rxv⟩:=rs.back hv';have hk:m<T.2.length:=(cF.mp hxv).1;have ed:T.2.drop m=xv::T.2.drop (m+1):=by rw[B1 hk];congr 1;exact(cF.mp hxv).2
   rw[ed]at q;have rx':=rxv.grow j r0.fit;unfold hZ at q;split at q
   .rename_i u w';obtain⟨pp',us,rfl,im,ru⟩:=rx';obtain⟨va,ra,rfl,r2,vb,rb,rfl,P,rfl⟩:=ru;have r5:=(r'.set (i:=K) r2).set (i:=J) P;have gl:bd (U B) (U λj' b=>(B j' b/\j'≠K)/\j'≠J) r r l l:=(bd.less K).trans (bd.less J);refine⟨pp',_,rfl,dj.of im,rfl,va,_,rfl,vb,_,rfl,rfl,?_⟩;show my X G _ ((d.set K (aa va)).set J (aa vb)) l;refine hb r _ _ _ l _ r5 ?_;have W:=(Z.trans (iq.set (x:=aa va) hp)).trans (iq.set (x:=aa vb) gw);cases e:db ((A.set K (.val u)).set J (.val w'))with
    |no=>rw[e]at q;cases q
    |er c M=>rw[e]at q;cases q
    |ok f M=>
     rw[e]at q;cases f with
     |next=>exact λF3 S3 L H3 P g3 Y=>⟨F3,S3,M,P,(j.trans gl).trans g3,W.trans Y,q⟩
     |cont=>exact λF3 S3 L H3 P g3 Y=>⟨F3,S3,M,P,(j.trans gl).trans g3,W.trans Y,q⟩
     |brk=>
      cases q;exact λF3 S3 L H3 P g3 Y=>fin F3 S3 L H3 P ((j.trans gl).trans g3) (W.trans Y)
     |ret s=>cases q
   .cases q
  .rintro d l ⟨r,B,A,r',j,Z,q⟩;have hl:vs.length=T.2.length:=rs.len;rw[hl,B2]at q;cases q;exact fin r B d l r' j Z
end
def nZ(len n:Nat)(f:List Nat)(d1 d2:ae->R aH)(dn:ae->R PO):ae->R Slot:=λa=>if a.length=len/\eV f 0 a=ah then
 match d1 (a++cX n .none)with
 |.ok .next d=>match d2 d with
  |.ok .next c=>match dn c with
   |.ok g b=>(aC (back a b) []).bind λh _=>.ok (.own g) h
   |_=>.no
  |_=>.no
 |_=>.no else .no
section
variable{u:eh}{P:a_}{w:aU}{K:au}{r:Str->Option ai}{j:aI}{C:ac}{m d:Str}{l x v:aS}{N p:List Str}{k n:Nat}{pin:List Nat}{e:aD}{y:Pos}{d1 d2:ae->R aH}{dn:ae->R PO}
theorem Jd(D:je K C m d l)(Sc:bE N p (aL l))(hn:N.length=p.length+n)(hb:∀(kV T pm:ai) (an:Option ac) (I ct:ai) (us:List ai),us.length=p.length->eR (fu m d (fZ l) (c8 l) (aL l) .none kV T pm an I ct) ⟨us,[]⟩=pure (p.zip us))(he:c8 l=[x,v,.Return (aa e) y])(h1:∀(f:ac) (I:ai) (A:a4) (B:List Env) (s:ao) (H:Hp) (E:XK),cM k (A.deeper (fM d (aL l) s.heap.objs.size f I))->DS (fD u P w K r j N d (aL l) f I A B s H E) E pin x d1)(h2:∀(f:ac) (I:ai) (A:a4) (B:List Env) (s:ao) (H:Hp) (E:XK),cM k (A.deeper (fM d (aL l) s.heap.objs.size f I))->DS (fD u P w K r j N d (aL l) f I A B s H E) E pin v d2)(ju:∀(f:ac) (I:ai) (A:a4) (B:List Env) (s:ao) (H:Hp) (E:XK),cM k (A.deeper (fM d (aL l) s.heap.objs.size f I))->DN (fD u P w K r j N d (aL l) f I A B s H E) E e dn):kA u P w K r j C m (k+1) p (bh K (nZ p.length n pin d1 d2 dn)):=by
 obtain⟨f,fd,M,Fn⟩:=D;refine⟨f,fd,M,?_,Fn.binds hb⟩;have O:∀G,nZ p.length n pin d1 d2 dn G≠.no->G.length=p.length/\eV pin 0 G=ah:=λG h=>by
  unfold nZ at h;by_cases z:G.length=p.length/\eV pin 0 G=ah
  .exact z
  .rw[if_neg z]at h;exact absurd rfl h
 have bp:∀G,nZ p.length n pin d1 d2 dn G≠.no->G.length=p.length:=λG h=>(O G h).1;obtain⟨oc,od,kV,T,pm,an,I,ct,osl,rfl,lk,ba⟩:=Fn.ex;refine yN lk ba Sc (wc bp) λA B s H Z Q E hr gY=>⟨_,lM,?_⟩
 obtain⟨F,S,G,rl,ok⟩:=gY;obtain⟨hl,L⟩:=O G (qY ok);have i7:∀(i:Nat) W,G[i]?=aa (.own W)->i∈pin:=λi W e=>by have:=tf L i W e;rwa[sd]at this
 have hvl:=rl.len;rw[bS]at hvl;have es:L2.start N Z=Z.map aa++cX n af:=by unfold L2.start;rw[show N.length-Z.length=n by lia]
 unfold nZ at ok;rw[if_pos ⟨hl,L⟩]at ok;rw[es,he];refine t_ (yS qt (yS qt (zq qt))) ?_;refine h1 _ _ A B s H E hr F S _ _ H _ (rl.start n) ?_;generalize e1:d1 (G++cX n .none)=q1 at ok;cases q1 with
 |no=>exact ok.elim
 |er c ε=>exact ok.elim
 |ok f1 Y=>
  cases f1 with
  |brk=>exact ok.elim
  |cont=>exact ok.elim
  |ret _=>exact ok.elim
  |next=>
   intro F1 S1 σ1 H1 r1 g1 p1;refine h2 _ _ A B s H E hr F1 S1 _ _ H1 _ r1 ?_;dsimp only at ok;generalize e2:d2 Y=q2 at ok;cases q2 with
   |no=>exact ok.elim
   |er c ε=>exact ok.elim
   |ok f2 J=>
    cases f2 with
    |brk=>exact ok.elim
    |cont=>exact ok.elim
    |ret _=>exact ok.elim
    |next=>
     intro F2 S2 σ2 H2 r2 g2 p2;refine eC (qo bA) (ju _ _ A B s H E hr F2 S2 J _ H2 _ r2 ?_);dsimp only at ok;generalize e3:dn J=q3 at ok;cases q3 with
     |no=>exact ok.elim
     |er c ε=>exact ok.elim
     |ok W X=>
      dsimp only at ok;cases e4:back G X with
      |none=>rw[e4]at ok;exact ok.elim
      |some aR=>
       rw[e4]at ok;intro F3 S3 H3 r3 g3 a Sa ow fr;have g:=(g1.trans g2).trans g3;obtain⟨S'',r'',sub,_⟩:=rl.back r3 g (p1.trans p2) i7 e4;have nw:∀b,Sa b->H b=af:=λb z=>by
        cases q:H b with
        |none=>rfl
        |some o=>
         obtain⟨o',q'⟩:=(g1.trans g2).there b o q;rw[(fr b z).1]at q';cases q'
       refine ok _ F3 S'' H3 Sa r'' ⟨g.fro,g.keep,g.there,g.fnew,λb z=>z.elim (λw=>g.onew b (sub b w)) λw=>.inr (nw b w)⟩ ⟨a,rfl,ow⟩ (λb z=>let ⟨_,x2,x3,x4⟩:=fr b z;⟨x2,λw=>x3 (sub b w),x4⟩) nw
end
def tZ(i j:Nat)(d c:ae->R PO):ae->R aH:=λf=>match d f with
 |.ok h b=>match c b with
  |.ok g a=>if i<a.length/\j<a.length then .ok .next ((a.set i (.own h)).set j (.own g))else .no
  |_=>.no
 |_=>.no
section
variable{X:Cx}{E:XK}{pin:List Nat}{a b:aD}{f d:ae->R PO}{l:Pos}
theorem Nm(i j:Nat){x y:Str}{N O:Nat}{J n I G:Pos}(hc:X.calm=ah)(hN:X.N.Nodup)(ha:DN X E a f)(hb:DN X E b d)(hp:i∉pin:=by decide)(gw:j∉pin:=by decide)(P:i≠j:=by decide)(hi:X.N[i]?=aa x:=by rfl)(hj:X.N[j]?=aa y:=by rfl)(hx:X.env.scope.names.lookup x=aa .local:=by rfl) (hy:X.env.scope.names.lookup y=aa .local:=by rfl) (w1:aN [a,b] X.env=(aj,aK a X.env)::aN [b] X.env:=by rfl) (w2:aN [b] X.env=(aj,aK b X.env)::aN [] X.env:=by rfl)(hw:BC [.Tuple [.Name x I,.Name y G] N J] (.Tuple [a,b] O n) X.env=pure (aa [x,y]):=by rfl) (hs:BB [.Tuple [.Name x I,.Name y G] N J] (.Tuple [a,b] O n) l.line X.env=pure aj:=by rfl):DS X E pin (.Assign [.Tuple [.Name x I,.Name y G] N J] (.Tuple [a,b] O n) l) (tZ i j f d):=λF S Y W H D rl h=>by
 refine eC (MK hc hN hi hj P hx hy (f8 bA (f8 bA g_ w2) w1) hw hs) (ha F S Y W H _ rl ?_);unfold tZ at h;generalize e1:f Y=q1 at h;cases q1 with
 |no=>exact h.elim
 |er c u=>exact h.elim
 |ok p1 p=>
  intro F1 S1 H1 C g1 a1 Sa L m;refine hb F1 S1 p W H1 _ C ?_;dsimp only at h;generalize e2:d p=q2 at h;cases q2 with
  |no=>exact h.elim
  |er c u=>exact h.elim
  |ok p2 ε2=>
   intro T S2 Q r2 r a2 Sb K s;dsimp only at h;split at h
   .rename_i hl;have st:∀c,Sa c->¬T c/\¬U S2 c/\∃o,Q c=aa o/\cN o:=λc z=>by obtain⟨_,B,A,o,v,x5⟩:=m c z;obtain⟨y1,y2,y3⟩:=r.stay v A B;exact⟨y2,y3,o,y1,x5⟩
    have M:=L.mono (H':=Q) (F':=T) (λ_ _ z=>z.grow r C.fit) (λ_ _ z=>z.grow r C.fit) λc o z w=>r.keep c o w (m c z).2.2.1;have r3:=r2.setOwn hl.1 M st;have r4:=r3.setOwn (i:=j) (by rw[fW];exact hl.2) K λc z=>by
     obtain⟨x1,B,A,v⟩:=s c z;refine⟨B,λ⟨k,w⟩=>?_,v⟩;rcases w with w|⟨_,w⟩
     .exact A ⟨k,w.1⟩
     .obtain⟨_,_,_,o,y,_⟩:=m c w;rw[x1]at y;cases y
    have g:=g1.trans r;refine⟨.ref a1,.ref a2,rfl,h T _ _ Q r4 ⟨g.fro,g.keep,g.there,g.fnew,λc ⟨k,z⟩=>?_⟩ ((iq.set hp).trans (iq.set gw))⟩;rcases z with⟨z|⟨_,z⟩,_⟩|⟨_,z⟩
    .exact g.onew c ⟨k,z.1⟩
    .exact .inr (m c z).1
    .refine .inr ?_;cases q:H c with
     |none=>rfl
     |some o=>
      obtain⟨o',Z⟩:=g1.there c o q;rw[(s c z).1]at Z;cases Z
   .exact h.elim
end
end Pu
namespace L2
section
variable{X:Cx}{d:List (ac×Obj)}{c:St}{H:Hp}{s:ao}{a:ac}{b:List (aJ×V)}{k:aJ}{v:V}{u r:ai}{A:a4}{E:ai->ao->Prop}
theorem N1{Q:ai->ao->Prop}(I:Inv X d c H s)(e:H a=aa (.dK b))(l:b.length<bi)(p:RelV (kV k) u)(x:RelV v r)(K:∀w j h,eN b k=aa w->RelV w j->Inv X d c H h->Q j h) (J:eN b k=af->∀h,Inv X d c (upd H a (.dK (eW b k v))) h->Q r h):aw (aE X.prog X.w) A (call (.builtin "dict.setdefault") [.ref a,u,r]) Q E s:=by
 obtain⟨z,n,m,rel,o⟩:=tY I.hok e;have y:m.length<=bi:=by rw[<-rel.length];exact z
 have F:(eW b k v).length<=bi:=by have:=Bl b k v;lia
 have f:=rel.val k;refine BQ PySem.F.slot_dict_setdefault o.typeIs PySem.F.entry_dict_setdefault (PySem.F.args_dict_setdefault_3 _ _ _) (kt_meets_setdefault (g9 X.prog X.w) a (rK p) n r) ⟨m,o,y,λj B=>?_,λD L i C=>?_⟩
 .rw[B]at f;cases g:eN b k with
  |none=>rw[g]at f;exact f.elim
  |some w=>rw[g]at f;exact K w j _ g f (I.tok _)
 .rw[D]at f;cases g:eN b k with
  |some w=>rw[g]at f;exact f.elim
  |none=>
   have G:∃q,L.get? a=aa q:=let ⟨q,_,_,hq,_⟩:=i;⟨q,hq⟩
   exact J g _ (y9 I (by rw[e];exact True.intro) C G (CI F n (rel.put k x) i))
end
def J9(g ty:TE):TE:=λd H Q=>g d H λx f=>∃a,x=.ref a/\zy f a/\ty d f λy c=>∀l,c l=af->∃b k,upd c l (.lst []) a=aa (.dK b)/\y=kV k/\b.length<bi /\
 (∀v,eN b k=aa v->Q v (upd c l (.lst [])))/\(eN b k=af->Q (.ref l) (upd (upd c l (.lst [])) a (.dK (eW b k (.ref l)))))
theorem MD{X:Cx}{o e:aD}{f c b:Pos}{r ty:TE}(W:PE X o r)(Z:PE X e ty)(m:M2 X o "setdefault" f e (.List [] b) c):PE X (.Call (.Attribute o "setdefault" f) [e,.List [] b] [] c) (J9 r ty):=by intro n s g H Q I h;refine wpAny_Call_method m.base m.few m.line GP PySem.F.slot_dict_setdefault PySem.F.type_dict_setdefault (aW (W n s g H _ I h) λu G ⟨x,H1,B,L,a,ex,d,P⟩=>?_);subst ex;obtain rfl:u=Value.ref a:=L;obtain⟨E,D,_⟩:=E4 B d;refine⟨E,D,?_⟩;rw[m.trees];refine yf rfl (yg (uH (aW (Z n G g H1 _ B P) λiv F ⟨y,q,I2,K,O⟩=>uH (aW (FT g_ n F g q (λv C=>∃l,v=.ref l/\q l=af/\C=upd q l (.lst [])) I2 ⟨by rw[pF];simp,λl j=>⟨l,rfl,j,rfl⟩⟩) λfv s3 ⟨z,C,I3,A,l,ez,j,e3⟩=>BG ?_))));subst ez e3;obtain⟨S,k,ea,ey,bp,N,M⟩:=O l j;subst ey;exact N1 I3 ea bp K A (λw w' J T i p=>⟨w,_,p,i,N w T⟩) λY J p=>⟨_,_,p,A,M Y⟩
end L2
namespace Pu
open L2
def fS(kvs:List (aJ×List PV))(as:List ac):List (aJ×V):=(kvs.map (·.1)).zip (as.map V.ref)
def addL:List (aJ×List PV)->aJ->PV->List (aJ×List PV)
 |[],k,x=>[(k,[x])]
 |p::r,k,x=>if p.1=k then(p.1,p.2++[x])::r else p::addL r k x
theorem zb(k:aJ):∀{kvs:List (aJ×List PV)}{as:List ac},as.length=kvs.length -> (∃j xs b,(kvs.map (·.2))[j]?=aa xs/\as[j]?=aa b/\eN (fS kvs as) k=aa (.ref b)/\∀x,fS (addL kvs k x) as=fS kvs as/\(addL kvs k x).map (·.2)=(kvs.map (·.2)).set j (xs++[x])) \/ (eN (fS kvs as) k=af/\∀x l,fS (addL kvs k x) (as++[l])=fS kvs as++[(k,.ref l)]/\(addL kvs k x).map (·.2)=kvs.map (·.2)++[[x]])
 |[],[],_=>.inr ⟨rfl,λx l=>⟨rfl,rfl⟩⟩
 |p::r,b::as,h=>by
  have g:fS (p::r) (b::as)=(p.1,.ref b)::fS r as:=rfl;by_cases e:p.1=k
  .refine .inl ⟨0,p.2,b,rfl,rfl,?_,λx=>?_⟩
   .rw[g];exact qU e
   .have a:addL (p::r) k x=(p.1,p.2++[x])::r:=by rw[addL,if_pos e]
    rw[a];exact⟨rfl,rfl⟩
  .have a:∀x,addL (p::r) k x=p::addL r k x:=λx=>by rw[addL,if_neg e]
   rcases zb k (kvs:=r) (as:=as) (by simpa using h)with⟨j,xs,c,h1,h2,h3,h4⟩|⟨h1,h2⟩
   .refine .inl ⟨j+1,xs,c,by simpa using h1,by simpa using h2,by rw[g,oZ e];exact h3,λx=>?_⟩;rw[a];obtain⟨f,d⟩:=h4 x;refine⟨?_,?_⟩
    .show(p.1,V.ref b)::fS (addL r k x) as=_;rw[f];rfl
    .rw[eY,d];rfl
   .refine .inr ⟨by rw[g,oZ e];exact h1,λx l=>?_⟩;rw[a];obtain⟨f,d⟩:=h2 x l;refine⟨?_,?_⟩
    .show(p.1,V.ref b)::fS (addL r k x) (as++[l])=_;rw[f];rfl
    .rw[eY,d];rfl
section
variable{K:au}{F:ac->Prop}{S:Nat->ac->Prop}{y:ae}{A:St}{H:Hp}{i j:Nat}{s u:List (aJ×List PV)}{f:List ac}{a b l:ac}{xs:List PV}{vs:List V}{x:PV}{v:V}{k:aJ}
theorem aM.updDL(r:aM K F S y A H)(e:y[i]?=aa (.own (.dL s)))(ea:A[i]?=aa (aa (.ref a)))(Y:H a=aa (.dK (fS s f)))(T:h_ K H F (s.map (·.2)) f)(nd:f.Nodup)(M:a∉f)(O:∀b,S i b↔b=a\/b∈f)(N:f[j]?=aa b)(W:fS u f=fS s f) (X:u.map (·.2)=(s.map (·.2)).set j xs) (h:bc K H F xs vs):aM K F S (y.set i (.own (.dL u))) A (L2.upd H b (.lst vs))/\bd (U S) (U S) F F H (L2.upd H b (.lst vs)):=by
 have J:b∈f:=BK N;have I:S i b:=(O b).mpr (.inr J);have Z:a≠b:=by rintro rfl;exact M J
 have E:i<y.length:=(cF.mp e).1;have g:bd (U S) (U S) F F H (L2.upd H b (.lst vs)):=⟨λ_ z=>z,λc o q n=>by rw[bo (by rintro rfl;exact n ⟨i,I⟩)];exact q,λc o q=>by
  by_cases p:c=b
  .subst p;exact⟨_,bW⟩
  .exact⟨o,by rw[bo p];exact q⟩,λ_ z=>.inl z,λ_ z=>.inl z⟩
 refine⟨⟨by rw[fW];exact r.len,λb z=>let ⟨o,q⟩:=r.ex b z;g.there b o q,λk pv q=>?_,λk D q=>?_,λk c z=>?_,r.dist⟩,g⟩
 .have m:i≠k:=by rintro rfl;rw[cu E]at q;cases q
  rw[cj m]at q;obtain⟨v,C,B⟩:=r.val k pv q;exact⟨v,C,B.grow g r.fit⟩
 .by_cases m:i=k
  .subst m;rw[cu E]at q;cases q;refine⟨a,ea,f,by rw[bo Z];show _=aa (HO.dK (fS u f));rw[W];exact Y,?_,nd,M,O⟩;rw[X];exact T.set nd N (λ_ _ z=>z.grow g r.fit) (λc o _ p w=>by rw[bo p];exact w) ⟨vs,bW,h.grow g r.fit⟩
  .rw[cj m]at q;obtain⟨c,C,B⟩:=r.own k D q;refine⟨c,C,B.mono (λ_ _ z=>z.grow g r.fit) (λ_ _ z=>z.grow g r.fit) λd o z w=>?_⟩;rw[bo (by rintro rfl;exact m (r.dist i k d I z))];exact w
 .obtain⟨⟨D,C⟩,B,o,Q,P⟩:=r.foot k c z;have G:∃L,(L2.upd H b (.lst vs)) c=aa L/\cN L:=by
   by_cases p:c=b
   .subst p;exact⟨_,bW,trivial⟩
   .exact⟨o,by rw[bo p];exact Q,P⟩
  by_cases m:i=k
  .subst m;exact⟨⟨_,cu E⟩,B,G⟩
  .exact⟨⟨D,by rw[cj m];exact C⟩,B,G⟩
theorem aM.newDL{ws':List (aJ×V)}(r:aM K F S y A H)(e:y[i]?=aa (.own (.dL s)))(ea:A[i]?=aa (aa (.ref a)))(ha:H a=aa (.dK (fS s f)))(lr:h_ K H F (s.map (·.2)) f)(nd:f.Nodup)(na:a∉f)(X:∀b,S i b↔b=a\/b∈f)(J:H l=af)(hz:fS u (f++[l])=ws') (hm:u.map (·.2)=s.map (·.2)++[xs]) (h:bc K H F xs vs):∃S',aM K F S' (y.set i (.own (.dL u))) A (L2.upd (L2.upd (L2.upd H l (.lst [])) a (.dK ws')) l (.lst vs))/\bd (U S) (U S') F F H (L2.upd (L2.upd (L2.upd H l (.lst [])) a (.dK ws')) l (.lst vs)):=by
 have ff:a≠l:=λz=>by rw[z,J]at ha;cases ha
 have sB:S i a:=(X a).mpr (.inl rfl);have Q:i<y.length:=(cF.mp e).1;obtain⟨D,P⟩:∃D,D=L2.upd (L2.upd (L2.upd H l (.lst [])) a (.dK ws')) l (.lst vs):=⟨_,rfl⟩
 rw[<-P];have Z:D l=aa (.lst vs):=by rw[P];exact bW
 have G:D a=aa (.dK ws'):=by rw[P,bo ff];exact bW
 have M:∀c,c≠a->c≠l->D c=H c:=λc C B=>by rw[P,bo B,bo C,bo B]
 clear P;have O:∀j c,S j c->c≠l:=λj c z w=>by obtain⟨_,_,o,q,_⟩:=r.foot j c z;rw[w,J]at q;cases q
 have nF:¬F l:=λz=>by obtain⟨o,q⟩:=r.ex l z;rw[J]at q;cases q
 have g:bd (U S) (U λj c=>S j c\/j=i/\c=l) F F H D:=⟨λ_ z=>z,λc o q n=>by
   rw[M c (by rintro rfl;exact n ⟨i,sB⟩) (by rintro rfl;rw[J]at q;cases q)];exact q,λc o q=>by
   by_cases C:c=a
   .subst C;exact⟨_,G⟩
   .exact⟨o,by rw[M c C (by rintro rfl;rw[J]at q;cases q)];exact q⟩,λ_ z=>.inl z,λc ⟨j,z⟩=>by
   rcases z with z|⟨_,rfl⟩
   .exact .inl ⟨j,z⟩
   .exact .inr J⟩
 refine⟨λj c=>S j c\/j=i/\c=l,⟨by rw[fW];exact r.len,λb z=>let ⟨o,q⟩:=r.ex b z;g.there b o q,λk pv q=>?_,λk W q=>?_,λk c z=>?_,λk m c C B=>?_⟩,g⟩
 .have p:i≠k:=by rintro rfl;rw[cu Q]at q;cases q
  rw[cj p]at q;obtain⟨v,L,I⟩:=r.val k pv q;exact⟨v,L,I.grow g r.fit⟩
 .by_cases p:i=k
  .subst p;rw[cu Q]at q;cases q;have N:l∉f:=λz=>O i l ((X l).mpr (.inr z)) rfl;refine⟨a,ea,f++[l],by rw[G,<-hz];rfl,?_,?_,?_,λc=>?_⟩
   .rw[hm];refine h_.snoc (h_.mono (K:=K) (λ_ _ z=>z.grow g r.fit) (λc o E w=>?_) lr) Z (h.grow g r.fit);rw[M c (by rintro rfl;exact na E) (by rintro rfl;exact N E)];exact w
   .rw[yy];exact⟨nd,List.pairwise_singleton ..,λc E d hd=>by rw[gX.mp hd];rintro rfl;exact N E⟩
   .intro z;rcases kT.mp z with z|z
    .exact na z
    .exact ff (gX.mp z)
   .show(S i c\/i=i/\c=l)↔_;rw[X c,kT,gX];constructor
    .rintro((z|z)|⟨_,z⟩)
     .exact .inl z
     .exact .inr (.inl z)
     .exact .inr (.inr z)
    .rintro(z|z|z)
     .exact .inl (.inl z)
     .exact .inl (.inr z)
     .exact .inr ⟨rfl,z⟩
  .rw[cj p]at q;obtain⟨c,L,I⟩:=r.own k W q;refine⟨c,L,?_⟩;have T:=I.mono (H':=D) (λ_ _ z=>z.grow g r.fit) (λ_ _ z=>z.grow g r.fit) λd o z w=>by rw[M d (by rintro rfl;exact p (r.dist i k d sB z)) (O k d z)];exact w
   have eS:(λc=>S k c\/k=i/\c=l)=S k:=by funext c;simp[dQ p]
   rw[eS];exact T
 .rcases z with z|⟨rfl,rfl⟩
  .obtain⟨⟨W,L⟩,I,o,T,q4⟩:=r.foot k c z;have Y:∃o',D c=aa o'/\cN o':=by
    by_cases E:c=a
    .subst E;exact⟨_,G,trivial⟩
    .exact⟨o,by rw[M c E (O k c z)];exact T,q4⟩
   by_cases p:i=k
   .subst p;exact⟨⟨_,cu Q⟩,I,Y⟩
   .exact⟨⟨W,by rw[cj p];exact L⟩,I,Y⟩
  .exact⟨⟨_,cu Q⟩,nF,_,Z,trivial⟩
 .rcases C with C|⟨rfl,rfl⟩
  .rcases B with B|⟨_,rfl⟩
   .exact r.dist k m c C B
   .exact absurd rfl (O k c C)
  .rcases B with B|⟨rfl,_⟩
   .exact absurd rfl (O m c B)
   .rfl
theorem HR{s:List (aJ×List PV)}:∀{f:List ac},bc K H F ((s.map (·.2)).map .lst) (f.map .ref)->gT K H F (s.map λp=>(p.1,.lst p.2)) (fS s f):=by
 induction s with
 |nil=>intro f h;exact .nil
 |cons p r c=>
  intro f h;obtain⟨v,q,e,g,d⟩:=h;cases f with
  |nil=>cases e
  |cons b f=>cases e;exact .cons ⟨rfl,g⟩ (c d)
theorem aM.frzDL(r:aM K F S y A H)(e:y[i]?=aa (.own (.dL s))):∃M L,aM K M L (y.set i (.own (.dK (s.map λp=>(p.1,.lst p.2))))) A H/\bd (U S) (U L) F M H H:=by
 obtain⟨a,X,f,T,O,nd,N,B⟩:=r.own i _ e;have E:i<y.length:=(cF.mp e).1;have mono:∀x v,aZ K H F x v->aZ K H (λb=>F b\/b∈f) x v:=aZ.mono (λ_ h=>.inl h) (λ_ _ _ q=>q) (λ_ _ q _=>q);have d:∀x v,bc K H F x v->bc K H (λb=>F b\/b∈f) x v:=bc.mono (λ_ h=>.inl h) (λ_ _ _ q=>q) (λ_ _ q _=>q);have P:=HR ((O.mono d λ_ _ _ z=>z).frz λb Q=>(.inr Q:F b\/b∈f));refine⟨λb=>F b\/b∈f,λj c=>S j c/\c∉f,⟨by rw[fW];exact r.len,λb h=>?_,λj pv q=>?_,λj D q=>?_,λj b h=>?_,λj k b I G=>r.dist j k b I.1 G.1⟩,λ_ h=>.inl h,λb o h _=>h,λb o h=>⟨o,h⟩,λb h=>?_,λb ⟨j,h⟩=>.inl ⟨j,h.1⟩⟩
 .rcases h with h|h
  .exact r.ex b h
  .obtain⟨_,_,o,q,_⟩:=r.foot i b ((B b).mpr (.inr h));exact⟨o,q⟩
 .have g:i≠j:=by rintro rfl;rw[cu E]at q;cases q
  rw[cj g]at q;obtain⟨v,n,m⟩:=r.val j pv q;exact⟨v,n,mono _ _ m⟩
 .by_cases g:i=j
  .subst g;rw[cu E]at q;cases q;refine⟨a,X,⟨_,T,P⟩,λc=>?_⟩;constructor
   .rintro⟨I,G⟩;exact((B c).mp I).resolve_right G
   .rintro rfl;exact⟨(B c).mpr (.inl rfl),N⟩
  .rw[cj g]at q;obtain⟨v,n,m⟩:=r.own j D q;refine⟨v,n,?_⟩;have C:=m.mono (H':=H) mono d λ_ _ _ z=>z;have W:(λc=>S j c/\c∉f)=S j:=by funext c;exact propext ⟨λz=>z.1,λz=>⟨z,λw=>g (r.dist i j c ((B c).mpr (.inr w)) z)⟩⟩
   rw[W];exact C
 .obtain⟨⟨D,n⟩,m,C⟩:=r.foot j b h.1;have J:¬(F b\/b∈f):=λz=>z.elim m h.2;by_cases g:i=j
  .subst g;exact⟨⟨_,cu E⟩,J,C⟩
  .exact⟨⟨D,by rw[cj g];exact n⟩,J,C⟩
 .exact h.imp id λz=>.inr ⟨i,(B b).mpr (.inr z)⟩
end
section
variable{X:Cx}{E:XK}{pin:List Nat}{e b c:aD}{n:aS}{d:ae->R aH}{r:ae->R PV}{f:Pos}
def n4(g:ae)(i:Nat):Option (List (aJ×List PV)):=match g[i]? with
 |some (.own (.dL a))=>aa a
 |_=>af
theorem t4{g:ae}{i:Nat}{a:List (aJ×List PV)}(h:n4 g i=aa a):g[i]?=aa (.own (.dL a)):=by
 unfold n4 at h;split at h
 .cases h;assumption
 .cases h
def sW:ae->R PO:=λa=>.ok (.dL []) a
theorem Qw:DN X E (.Dict [] [] f) sW:=λF S l i H Q g h=>bV Dy λp a=>by
 have al:Al F F H (upd H p (.dK [])):=Al.new0 a;refine h F S _ (g.al al) al.grow p (λb=>b=p) ⟨[],bW,.nil,List.Pairwise.nil,(λz=>by cases z),λb=>by simp⟩ λb z=>?_;subst z;refine⟨a,λz=>?_,λ⟨j,z⟩=>?_,_,bW,trivial⟩
 .obtain⟨o,q⟩:=g.ex b z;rw[a]at q;cases q
 .obtain⟨_,_,o,q,_⟩:=g.foot j b z;rw[a]at q;cases q
def tL(i:Nat)(d:ae->R aH):ae->R aH:=λg=>match n4 g i with
 |some a=>d (g.set i (.own (.dK (a.map λp=>(p.1,.lst p.2)))))
 |none=>.no
theorem QW(i:Nat)(h:DS X E pin n d):DS X E pin n (tL i d):=λF S u a H D j q=>by
 unfold tL at q;split at q
 .rename_i m o;obtain⟨s,p,l,g⟩:=j.frzDL (t4 o);exact h s p _ a H D l (q.from g (iq.refl _ _))
 .exact q.elim
def um(a:List (aJ×List PV)):Bool:=decide (a.length<bH)&&a.all λp=>decide (p.2.length<bH)
def tu(i j:Nat)(r:ae->R PV):ae->R aH:=λh=>(aC (n4 h i) h).bind λ_ h=>(r h).bind λk a=>(aC (n4 a i) a).bind λg a=>(aC (g8 k) a).bind λk a=>match a[j]? with
 |some (.val x)=>if um g then .ok .next (a.set i (.own (.dL (addL g k x))))else .no
 |_=>.no
theorem JI(i j:Nat){y z:Str}{B P ap v s A g:Pos}(hu:X.A.units+64<cLine)(hb:DE X E b r)(hN:X.N[i]?=aa y:=by rfl)(eJ:c6 X.env.scope y:=by eq_refl)(hd:(y==("__debug__":Str))=aj:=by decide) (ba:(y==("__classdict__":Str))=aj:=by decide)(hNz:X.N[j]?=aa z:=by rfl) (hvz:c6 X.env.scope z:=by eq_refl)(hdz:(z==("__debug__":Str))=aj:=by decide) (hcz:(z==("__classdict__":Str))=aj:=by decide)(h1:fq (.Name y B) "setdefault" X.env (aK (.Name y B) X.env)=aK (.Name y B) X.env:=by rfl) (h3:(v.endLine == s.line)=ah:=by rfl) (s1:lK b=aj:=by rfl)(k1:fq (.Call (.Attribute (.Name y B) "setdefault" v) [b,.List [] g] [] s) "append" X.env (aK (.Call (.Attribute (.Name y B) "setdefault" v) [b,.List [] g] [] s) X.env)=aK (.Call (.Attribute (.Name y B) "setdefault" v) [b,.List [] g] [] s) X.env:=by rfl)(k2:((b9 A (aN [.Name z P] X.env)).all (λx=>!x.1)&&(jp A (jq [] X.env)).all (λx=>x.1.isSome)&&decide ([Expr.Name z P].length+([]:List gq).length+(if([]:List gq).isEmpty then 0 else 1)<30))=ah:=by rfl)(k3:(ap.endLine == A.line)=ah:=by rfl) (k5:(b9 A (aN [] X.env)).any (·.1)=aj:=by rfl)(hs:ii (.Call (.Attribute (.Call (.Attribute (.Name y B) "setdefault" v) [b,.List [] g] [] s) "append" ap) [.Name z P] [] A) af f.line X.env=pure aj:=by rfl):DS X E pin (.Expr (.Call (.Attribute (.Call (.Attribute (.Name y B) "setdefault" v) [b,.List [] g] [] s) "append" ap) [.Name z P] [] A) f) (tu i j r):=λF S ε σ H D rl h=>by
 have n:aN [b,.List [] g] X.env=[(aj,aK b X.env),(aj,aK (.List [] g) X.env)]:=by rw[jv s1];rfl
 have m:M2 X (.Name y B) "setdefault" v b (.List [] g) s:=⟨h1,by rw[n];rfl,h3,by rw[n];rfl⟩
 unfold tu at h;cases e0:n4 ε i with
 |none=>rw[e0]at h;exact h.elim
 |some kvs0=>
  rw[e0]at h;simp only[cK,R.bind_ok]at h;obtain⟨a,Z,as0,vB,_⟩:=rl.own i _ (t4 e0);refine eC (qJ (ph pU B3 B4 tQ (MD (dG hN eJ hd ba) bA m) (f8 (dG hNz hvz hdz hcz) g_ rfl) k1 k2 k3 rfl k5) hs) ⟨.ref a,Z,a,rfl,.inl ⟨_,.inl vB⟩,?_⟩;refine hb F S ε σ H _ rl (h.bindE.imp λk ε1 F1 S1 H1 T g1 q u ru=>?_);cases O:n4 ε1 i with
  |none=>rw[O]at q;exact q.elim
  |some C=>
   rw[O]at q;simp only[cK,R.bind_ok]at q;cases e2:g8 k with
   |none=>rw[e2]at q;exact q.elim
   |some K=>
    rw[e2]at q;simp only[cK,R.bind_ok]at q;split at q
    .rename_i x ex;split at q
     .rename_i Q;rw[uh ru e2];unfold um at Q;rw[dS,decide_eq_true_iff,iR]at Q;obtain⟨a',N,as,L,W,nd,na,hS⟩:=T.own i _ (t4 O);rw[Z]at N;cases N;obtain⟨I,M,J⟩:=T.val j x ex;intro l Y;have ff:a≠l:=λz=>by rw[z,Y]at L;cases L
      have bp:=W.len;rw[bS]at bp;have hzl:(fS C as).length<bi:=by unfold fS;rw[List.length_zip,bS];exact ym (Nat.min_le_left _ _) (fU Q.1 jf)
      refine⟨fS C as,K,by rw[bo ff];exact L,rfl,hzl,λw G=>?_,λG=>?_⟩
      .rcases zb K bp with⟨jj,xs,bb,f1,f2,f3,f4⟩|⟨f1,_⟩
       .rw[f3]at G;cases G;obtain⟨b',vs,f5,f6,f7⟩:=W.get f1;rw[f2]at f5;cases f5;have al:Al F1 F1 H1 (upd H1 l (.lst [])):=Al.new0 Y;have r2:=T.al al;have hbl:bb≠l:=λz=>by rw[z,Y]at f6;cases f6
        have vF:upd H1 l (.lst []) bb=aa (.lst vs):=by rw[bo hbl];exact f6
        obtain⟨q1,q2⟩:=f4 x;have oF:=al.rep J;obtain⟨r3,g3⟩:=r2.updDL (t4 O) Z (by rw[bo ff];exact L) (W.mono (λ_ _ z=>al.reps z) λc o hc w=>al.same _ _ w) nd na hS f2 q1 q2 ((al.reps f7).app (.one oF));have hxl:xs.length<bH:=by obtain⟨p,hp,rfl⟩:=b0.mp (BK f1);exact of_decide_eq_true (Q.2 p hp)
        refine⟨.inl ⟨rfl,_,cp.of vF⟩,I,M,bb,vs,I,rfl,rfl,vF,by rw[f7.len];exact fU hxl jf,?_⟩;exact q F1 S1 σ _ r3 (al.grow.trans g3) (iq.refl _ _)
       .rw[f1]at G;cases G
      .rcases zb K bp with⟨jj,xs,bb,f1,f2,f3,f4⟩|⟨_,f2⟩
       .rw[f3]at G;cases G
       .obtain⟨q1,q2⟩:=f2 x l;have vI:upd (upd H1 l (.lst [])) a (.dK (eW (fS C as) K (.ref l))) l=aa (.lst []):=by rw[bo (dQ ff)];exact bW
        obtain⟨S',r3,g3⟩:=T.newDL (xs:=[x]) (vs:=[I]) (ws':=eW (fS C as) K (.ref l)) (t4 O) Z L W nd na hS Y (by rw[JU _ G];exact q1) q2 (.one J);refine⟨.inl ⟨rfl,_,cp.of vI⟩,I,M,l,[],I,rfl,rfl,vI,by rw[pF];simp,?_⟩;exact q F1 S' σ _ r3 g3 (iq.refl _ _)
     .exact q.elim
    .exact q.elim
end
end Pu
local macro_rules | `(tactic| simp! [$xs,*]) => `(tactic| simp [Pu.aB, Pu.a6, Pu.dB, Pu.d2, Pu.d1, Pu.dV, Pu.dC, Pu.dL, Pu.dF, Pu.am, Pu.ar, Pu.a8, Pu.oQ, Pu.aT, Pu.jF, Pu.ay, Pu.gV, Pu.gO, Pu.bq, Pu.cc, Pu.cb, Pu.br, Pu.bU, Pu.ce, Pu.R.bind, Pu.aC, Pu.bf, Pu.eA, Pu.aY, Pu.back, Pu.gK, Pu.eK, Pu.P3, Pu.lw, Pu.iP, Pu.OC, Pu.aA, Pu.tK, Pu.bZ, Pu.cy, Pu.bF, Pu.FZ, Pu.jl, Pu.SF, Pu.dW, Pu.FH, Pu.iH, Pu.fX, Pu.l_, Pu.Sx, Pu.jD, Pu.bI, Pu.g6, Pu.wM, Pu.xf, Pu.mj, Pu.imm, Pu.xl, Pu.ko, cX, nh, $xs,*])
local macro_rules | `(⇑$x) => `(.val (.int $x))
local macro_rules | `(↥$x) => `(.val (.str $x))
namespace Sh
open L2 Pu
set_option genInjectivity false in
structure Ad where
 SlitError:ac
 NoText:ac
 NoWidth:ac
 NoView:ac
 NoWindow:ac
 Never:ac
 Full:ac
 Nothing:ac
 Unlike:ac
 NoPlace:ac
 NoLetters:ac
 BadText:ac
 Seeker:ac
 Slit:ac
def fj(a:Ad):List ac:=[a.NoText,a.NoWidth,a.NoView,a.NoWindow,a.Never,a.Full,a.Nothing,a.Unlike,a.NoPlace,a.NoLetters,a.BadText]
def l8(a:Ad)(c:ai):Bool:=match c with
 |.ref x=>(fj a).contains x
 |_=>aj
def i4(a:Ad)(c:ai)(D:V):Option Bool:=match c,D with
 |.ref x,.ref d=>if(fj a).contains x&&(fj a).contains d then aa (x == d)else af
 |.ref x,.ty T=>if(fj a).contains x&&T == "ValueError" then aa ah else af
 |_,_=>af
def yau(a:Ad):ae->R aH:=a8 (dL qN (am (dF (bT [1] (bx (dV 0)) (dy) (d2 (jx aj) (dV 0) (dV 1)))) (ar)))
def xQ(a:Ad):ae->R Slot:=bf 2 [] (aY 0 (yau a))
def yax(a:Ad):ae->R aH:=a8 (l_ (dL eE (am (dV 0) (am (dC (.raw (.ty "int"))) (ar)))) (FH (dL eE (am (dV 0) (am (dC (.raw (.ty "bool"))) (ar))))))
def jS(a:Ad):ae->R Slot:=bf 1 [] (aY 0 (yax a))
def yay(a:Ad):ae->R aH:=a8 (l_ (aA (ay (jS a) (gV (dV 0) (bq)))) (jD (bI λi j=>decide (i<=j)) (bI λi j=>decide (i<=j)) (dC (.int 1)) (dV 0) (dC (.int 4))))
def rA(a:Ad):ae->R Slot:=bf 1 [] (aY 0 (yay a))
def yaz(a:Ad):ae->R aH:=a8 (l_ (dL eE (am (dV 0) (am (dC (.raw (.ty "str"))) (ar)))) (l_ (d2 (eqT aj) (dL aP (am (dV 0) (ar))) (dV 1)) (aA (ay (xQ a) (gV (dV 0) (gV (dV 2) (bq)))))))
def mP(a:Ad):ae->R Slot:=bf 3 [] (aY 0 (yaz a))
def yap(a:Ad):ae->R aH:=aB (a6 (fX (dW (dB (dL eE (am (dV 0) (am (dC (.raw (.ty "tuple"))) (ar)))))) (dW (dB (jD (bI λi j=>decide (i<=j)) (bI λi j=>decide (i<=j)) (dC (.int 1)) (dL aP (am (dV 0) (ar))) (dC (.int 9)))))) (a8 (dC (.bl aj))) (bF))
 (aB (a6 (dW (dB (dL qN (am (dF (bT [1,2] (bx (dV 0)) (dy) (aA (ay (mP a) (gV (dV 0) (gV (dV 1) (gV (dV 2) (bq)))))))) (ar))))) (a8 (dC (.bl aj))) (bF))
 (a8 (d2 (eqT aj) (dF (dL kE (am (dV 0) (ar)))) (dF (dL mH (am (dV 0) (ar)))))))
def nV(a:Ad):ae->R Slot:=bf 3 [] (aY 0 (yap a))
def yaw(a:Ad):ae->R aH:=aB (a6 (fX (dW (dB (dL eE (am (dV 0) (am (dC (.raw (.ty "tuple"))) (ar)))))) (dB (d2 (eqT ah) (dL aP (am (dV 0) (ar))) (dC (.int 2))))) (a8 (dC (.bl aj))) (bF))
 (a8 (l_ (aA (ay (rA a) (gV (d2 bv (dV 0) (dC (.int 0))) (bq)))) (aA (ay (nV a) (gV (d2 bv (dV 0) (dC (.int 1))) (gV (d2 bv (dV 0) (dC (.int 0))) (gV (dV 1) (bq))))))))
def qH(a:Ad):ae->R Slot:=bf 2 [] (aY 0 (yaw a))
def yav(a:Ad):ae->R aH:=oQ (ay (qH a) (gV (dV 0) (gV (dC (.str [97,98,99])) (bq))))
def w_(a:Ad):ae->R Slot:=bf 1 [] (aY 0 (yav a))
def yas(a:Ad):ae->R aH:=a6 (dW (dB (aA (ay (w_ a) (gV (dV 0) (bq)))))) (iW (.ref a.NoView) (λb=>bn ((dC (.str [97,32,118,105,101,119,32,105,115,32,97,32,116,117,112,108,101,32,111,102,32,97,32,119,105,100,116,104,32,97,110,100,32,97,32,114,105,115,105,110,103,32,116,117,112,108,101,32,111,102,32,49,32,116,111,32,57,32,119,105,110,100,111,119,115])) b))) (bF)
def wC(a:Ad):ae->R Slot:=bf 1 [] (aY 0 (yas a))
def yat(a:Ad):ae->R aH:=aB (jF 1 (z5))
 (aB (λb=>cm (dD 2 (bx (dV 0)) (l5 1 (dV 2) (d2 bj (mO 1 (dV 2) (dC (.int 0))) (dC (.int 1)))) b))
 (qP 1))
def ut(a:Ad):ae->R Slot:=bf 1 [] (aY 2 (yat a))
def yan(a:Ad)(c:ae->R Slot):ae->R aH:=aB (a6 (dW (dB (tI 2))) (aB (wM 3 (dV 0)) (FZ (.ret (.val .non)))) (bF))
 (aB (aT 4 (c5 cx (dV 0) (cI (d2 bj (d2 fI (dL aP (am (dV 0) (ar))) (dV 1)) (dC (.int 1)))) (eL)))
 (λb=>cm (dD 5 (bx (dC (.str [97,98,99]))) (aB (aT 6 (d2 bj (dV 4) (dV 5)))
 (a6 (dB (d2 (bI λi j=>decide (j<i)) (mO 2 (dV 6) (dC (.int 0))) (dC (.int 0)))) (aB (l5 2 (dV 6) (d2 fI (ji 2 (dV 6)) (dC (.int 1))))
 (aB (jl (ay (c) (gV (d2 bj (dV 0) (dV 5)) (gV (dV 1) (gO 2 (gO 3 (bq)))))))
 (l5 2 (dV 6) (d2 bj (ji 2 (dV 6)) (dC (.int 1)))))) (bF))) b)))
def n8(a:Ad):Nat->ae->R Slot
 |0=>bf 4 [2,3] (aY 3 wJ)
 |k+1=>bf 4 [2,3] (aY 3 (yan a (n8 a k)))
def yaV(a:Ad):ae->R aH:=aB (jl (ay (wC a) (gV (dV 0) (bq))))
 (aB (aT 1 (d2 bv (dV 0) (dC (.int 0))))
 (aB (jF 2 (dL bZ (ar)))
 (aB (λb=>cm (dD 3 (bx (dF (dL tN (am (dF (bT [] (bx (d2 bv (dV 0) (dC (.int 1)))) (dy) (c5 cx (dV 0) (eL) (cI (d1 fQ (dC (.int 1))))))) (ar))))) (jl (l7 (n8 a 12) (mD (dV 3) (mD (dV 1) (gN (tK (ay (ut a) (gV (d2 bv (dV 0) (dC (.int 1))) (bq)))) (gO 2 (bq))))))) b))
 (qP 2))))
def xA(a:Ad):ae->R Slot:=bf 1 [] (aY 3 (yaV a))
def yaD(a:Ad):ae->R aH:=aB (a6 (dB (d2 (bI λi j=>decide (i<j)) (dV 1) (dL aP (am (dV 0) (ar))))) (a8 (d2 bv (dV 0) (dV 1))) (bF))
 (aB (a6 (dB (d2 (eqT aj) (dV 0) (dF (dL bZ (ar))))) (a8 (dC (.int 0))) (bF))
 (a8 (d2 bj (d2 kM (d2 bv (dV 0) (d2 ir (dV 1) (dL aP (am (dV 0) (ar))))) (dC (.int 31))) (dV 1))))
def qD(a:Ad):ae->R Slot:=bf 2 [] (aY 0 (yaD a))
def yaL(a:Ad):ae->R aH:=aB (aT 3 (d2 ir (d2 bj (d2 bj (d2 kM (aA (ay (qD a) (gV (dV 0) (gV (dV 1) (bq))))) (dC (.int 1103515245))) (d2 kM (dC (.int 7919)) (dV 1))) (dC (.int 12345))) (dC (.int 2147483647))))
 (a8 (d2 ir (d2 ir (d2 ir (d2 tq (dV 3) (dC (.int 5))) (dC (.int 2147483647))) (dC (.int 999983))) (dV 2)))
def xN(a:Ad):ae->R Slot:=bf 3 [] (aY 1 (yaL a))
def yaF(a:Ad):ae->R aH:=aB (wM 1 (dC (.int 0)))
 (oQ (ay (xN a) (gV (dV 0) (gV (xf (λxs=>mj (aP xs)) 1) (gV (dV 2) (bq))))))
def ig(a:Ad):ae->R Slot:=bf 3 [1] (aY 0 (yaF a))
def yaN(a:Ad):ae->R aH:=a8 (d2 bv (dV 2) (aA (ay (ig a) (gV (dV 0) (gO 1 (gV (dL aP (am (dV 2) (ar))) (bq)))))))
def iy(a:Ad):ae->R Slot:=bf 3 [1] (aY 0 (yaN a))
def yaP(a:Ad):ae->R aH:=aB (aT 4 (aA (ay (iy a) (gV (dV 0) (gO 1 (gV (dF (dL bZ (am (dC (.int 1)) (am (dC (.int 2)) (am (dC (.int 2)) (am (dC (.int 3)) (am (dC (.int 3)) (am (dC (.int 3)) (ar))))))))) (bq)))))))
 (aB (aT 5 (dC (.str [])))
 (aB (λb=>cm (dD 6 (dL f_ (am (d2 bj (dV 2) (aA (ay (ig a) (gV (dV 0) (gO 1 (gV (d2 bj (d2 fI (dV 3) (dV 2)) (dC (.int 1))) (bq))))))) (ar))) (aT 5 (d2 bj (dV 5) (d2 bv (dC (.str [97,98,99])) (aA (ay (ig a) (gV (dV 0) (gO 1 (gV (dV 4) (bq))))))))) b))
 (a8 (dV 5))))
def nI(a:Ad):ae->R Slot:=bf 4 [1] (aY 3 (yaP a))
def yaO(a:Ad):ae->R aH:=a8 (dL j5 (am (dF (dL mH (am (dF (bT [0,1] (dL f_ (am (dL aP (am (dV 0) (ar))) (ar))) (dB (d2 (bI λi j=>decide (i<=j)) (d2 bj (dV 0) (dV 2)) (dL aP (am (dV 1) (ar))))) (c5 cx (dV 1) (cI (dV 0)) (cI (d2 bj (dV 0) (dV 2)))))) (ar)))) (ar)))
def iZ(a:Ad):ae->R Slot:=bf 2 [] (aY 0 (yaO a))
def yaR(a:Ad):ae->R aH:=aB (jF 1 (dL bZ (am (dL (jc (i4 a)) (am (dV 0) (am (dC (.raw (.ref a.NoText))) (ar)))) (am (dL (jc (i4 a)) (am (dV 0) (am (dC (.raw (.ref a.NoWidth))) (ar)))) (am (dL (jc (i4 a)) (am (dV 0) (am (dC (.raw (.ref a.NoView))) (ar)))) (am (dL (jc (i4 a)) (am (dV 0) (am (dC (.raw (.ref a.NoWindow))) (ar)))) (ar)))))))
 (aB (mJ 1 (dF (dL bZ (am (dL (jc (i4 a)) (am (dV 0) (am (dC (.raw (.ref a.Never))) (ar)))) (am (dL (jc (i4 a)) (am (dV 0) (am (dC (.raw (.ref a.Full))) (ar)))) (am (dL (jc (i4 a)) (am (dV 0) (am (dC (.raw (.ref a.Nothing))) (ar)))) (am (dL (jc (i4 a)) (am (dV 0) (am (dC (.raw (.ref a.Unlike))) (ar)))) (ar))))))))
 (aB (mJ 1 (dF (dL bZ (am (dL (jc (i4 a)) (am (dV 0) (am (dC (.raw (.ref a.NoPlace))) (ar)))) (am (dL (jc (i4 a)) (am (dV 0) (am (dC (.raw (.ref a.NoLetters))) (ar)))) (am (dL (jc (i4 a)) (am (dV 0) (am (dC (.raw (.ref a.BadText))) (ar)))) (ar)))))))
 (aB (a6 (fX (dB (d2 (eqT ah) (qE lI 1 (dC (.bl ah))) (dC (.int 1)))) (dW (dB (dL (jc (i4 a)) (am (dV 0) (am (dC (.raw (.ty "ValueError"))) (ar))))))) (a8 (dL cy (am (dC (.str [114,101,102,117,115,101,100])) (am (d1 fQ (dC (.int 1))) (ar))))) (bF))
 (a8 (dL cy (am (dC (.str [114,101,102,117,115,101,100])) (am (qE AI 1 (dC (.bl ah))) (ar))))))))
def kI(a:Ad):ae->R Slot:=bf 1 [] (aY 1 (yaR a))
def yaQ(a:Ad):ae->R aH:=aB (aT 3 (aA (ay (iZ a) (gV (dV 0) (gV (dV 1) (bq))))))
 (a8 (dL qN (am (dF (bT [3,2] (bx (dV 3)) (dy) (d2 (bI λi j=>decide (i<=j)) (qm lI (dV 1) (dV 0)) (qm lI (dV 2) (dV 0))))) (ar))))
def n6(a:Ad):ae->R Slot:=bf 3 [] (aY 1 (yaQ a))
def yaB(a:Ad):ae->R aH:=aB (kF 1 2 (dV 0))
 (aB (aT 3 (dF (dL bZ (am (dC (.str [])) (ar)))))
 (aB (λε=>cm (dD 4 (dL f_ (am (d2 fI (d2 bj (dL aP (am (dV 2) (ar))) (dV 1)) (dC (.int 1))) (ar))) (aB (jF 5 (dL bZ (ar)))
 (aB (dD 6 (bx (dV 3)) (mJ 5 (dF (bT [6,1,2] (bx (dC (.str [97,98,99]))) (dB (aA (ay (n6 a) (gV (d2 bj (dV 1) (dV 0)) (gV (dV 2) (gV (dV 3) (bq))))))) (d2 bj (dV 1) (dV 0))))))
 (aT 3 (dM 5)))) ε))
 (kj (bT [1,2] (bx (dV 3)) (dB (d2 (eqT aj) (aA (ay (iZ a) (gV (dV 0) (gV (dV 1) (bq))))) (dV 2))) (dV 0)))))
def mq(a:Ad):ae->R Slot:=bf 1 [] (aY 6 (yaB a))
def yaK(a:Ad):ae->R aH:=aB (aT 4 (d2 bj (dC (.int 1)) (aA (ay (iy a) (gV (dV 0) (gO 1 (gV (dF (dL bZ (am (dC (.int 1)) (am (dC (.int 1)) (am (dC (.int 2)) (am (dC (.int 2)) (am (dC (.int 3)) (ar)))))))) (bq))))))))
 (aB (aT 5 (aA (ay (nI a) (gV (dV 0) (gO 1 (gV (dV 2) (gV (dC (.int 4)) (bq))))))))
 (aB (λb=>cm (ge (dB (d2 (bI λi j=>decide (i<j)) (dL aP (am (dV 5) (ar))) (d2 fI (dV 3) (dC (.int 2))))) (aT 5 (d2 bj (dV 5) (aA (ay (iy a) (gV (dV 0) (gO 1 (gV (dF (dL bZ (am (c5 cx (dV 5) (eL) (cI (dC (.int 2)))) (am (c5 cx (dV 5) (eL) (cI (dC (.int 3)))) (am (c5 cx (dV 5) (cI (dC (.int 1))) (cI (dC (.int 3)))) (am (dC (.str [97])) (am (dC (.str [98])) (am (c5 cx (dV 5) (cI (d1 fQ (dC (.int 2)))) (eL)) (ar))))))))) (bq)))))))) 1000 b))
 (a8 (dL cy (am (c5 cx (dV 5) (eL) (cI (dL t0 (am (dV 4) (am (d2 fI (dV 3) (aA (ay (ig a) (gV (dV 0) (gO 1 (gV (dC (.int 3)) (bq))))))) (ar)))))) (am (dV 4) (ar)))))))
def mh(a:Ad):ae->R Slot:=bf 4 [1] (aY 2 (yaK a))
def yaW(a:Ad):ae->R aH:=a8 (dL j5 (am (dF (bT [1,2] (bx (dV 0)) (dB (d2 (eqT aj) (d2 bv (dV 0) (dV 1)) (dV 2))) (dV 0))) (ar)))
def iY(a:Ad):ae->R Slot:=bf 3 [] (aY 0 (yaW a))
def yao(a:Ad):ae->R aH:=kj (bT [0,1] (bx (dC (.str [97,98,99]))) (dB (d2 (bI λi j=>decide (j<i)) (dL aP (am (aA (ay (iY a) (gV (dV 1) (gV (dV 2) (gV (dV 0) (bq)))))) (ar))) (dC (.int 0)))) (dV 0))
def kJ(a:Ad):ae->R Slot:=bf 2 [] (aY 0 (yao a))
def yaU(a:Ad):ae->R aH:=kj (bT [0] (dL f_ (am (dL aP (am (d2 bv (dV 0) (dC (.int 0))) (ar))) (ar))) (dB (d2 (bI λi j=>decide (j<i)) (dL aP (am (aA (ay (kJ a) (gV (dV 1) (gV (dV 0) (bq))))) (ar))) (dC (.int 1)))) (dV 0))
def nP(a:Ad):ae->R Slot:=bf 1 [] (aY 0 (yaU a))
def yaS(a:Ad)(b:ae->R Slot):ae->R aH:=aB (aT 3 (dF (bT [1,0] (bx (aA (ay (kJ a) (gV (dV 1) (gV (dV 0) (bq)))))) (dy) (aA (ay (iY a) (gV (dV 1) (gV (dV 2) (gV (dV 0) (bq)))))))))
 (a8 (d2 bj (dC (.int 1)) (dL tX (am (dF (bT [2] (bx (dV 3)) (dy) (aA (ay (b) (gV (dV 0) (gO 1 (bq))))))) (ar)))))
def oK(a:Ad)(rc:ae->R Slot):ae->R Slot:=bf 3 [2] (aY 1 (yaS a rc))
def yaT(a:Ad)(rc:ae->R Slot):ae->R aH:=aB (a6 (dB (d2 (eqT aj) (dL aP (am (dV 0) (ar))) (dC (.int 1)))) (a8 (dC (.int 0))) (bF))
 (aB (a6 (dB (mG ah 1 (dV 0))) (sY 1 (dV 0) (dL rD (am (dF (bT [0,1] (bx (aA (ay (nP a) (gV (dV 0) (bq))))) (dy) (aA (ay (oK a rc) (gV (dV 0) (gV (dV 1) (gO 2 (bq)))))))) (ar)))) (bF))
 (a8 (rO 1 (dV 0))))
def jg(a:Ad):Nat->ae->R Slot
 |0=>bf 2 [1] (aY 0 wJ)
 |k+1=>bf 2 [1] (aY 0 (yaT a (jg a k)))
def yaH(a:Ad):ae->R aH:=aB (kF 2 3 (aA (ay (mh a) (gV (dV 0) (gO 1 (gV (dC (.int 2)) (gV (dC (.int 8)) (bq))))))))
 (aB (aT 4 (dL cy (am (dV 3) (am (aA (ay (iZ a) (gV (dV 2) (gV (dV 3) (bq))))) (ar)))))
 (aB (aT 5 (aA (ay (mq a) (gV (dV 4) (bq)))))
 (aB (λb=>cm (ge (dB (d2 (bI λi j=>decide (j<i)) (dL aP (am (dV 5) (ar))) (dC (.int 16)))) (aB (aT 4 (a6 (dB (d2 (bI λi j=>decide (i<j)) (dV 3) (dC (.int 4)))) (dL cy (am (d2 bj (dV 3) (dC (.int 1))) (am (aA (ay (iZ a) (gV (dV 2) (gV (d2 bj (dV 3) (dC (.int 1))) (bq))))) (ar)))) (dL cy (am (dC (.int 1)) (am (dL cy (am (dC (.str [97])) (ar))) (ar))))))
 (aB (aT 3 (d2 bv (dV 4) (dC (.int 0))))
 (aT 5 (aA (ay (mq a) (gV (dV 4) (bq))))))) 1000 b))
 (a8 (dL cy (am (dV 4) (am (dV 5) (ar))))))))
def tt(a:Ad):ae->R Slot:=bf 2 [1] (aY 4 (yaH a))
def yaM(a:Ad):ae->R aH:=aB (jF 2 sW)
 (aB (λb=>cm (dD 3 (bx (dV 0)) (tu 2 3 (d2 bv (dV 3) (dV 1))) b))
 (tL 2 (kj (bT [2] (bx (dF (dL mH (am (dF (sV 2)) (ar))))) (dy) (ji 1 (dV 0))))))
def tF(a:Ad):ae->R Slot:=bf 2 [] (aY 2 (yaM a))
def yaC(a:Ad)(rc:ae->R Slot):ae->R aH:=aB (a6 (dB (d2 (eqT aj) (dL aP (am (dV 0) (ar))) (dC (.int 1)))) (a8 (dC (.bl ah))) (bF))
 (aB (a6 (dB (d2 (eqT aj) (dV 1) (dC (.int 0)))) (a8 (dC (.bl aj))) (bF))
 (aB (λb=>cm (dD 2 (dL f_ (am (dL aP (am (d2 bv (dV 0) (dC (.int 0))) (ar))) (ar))) (aB (aT 3 (aA (ay (tF a) (gV (dV 0) (gV (dV 2) (bq))))))
 (a6 (iH (dB (d2 (bI λi j=>decide (j<i)) (dL aP (am (dV 3) (ar))) (dC (.int 1)))) (dB (d2 (eqT aj) (dF (bT [1] (bx (dV 3)) (dW (dB (aA (ay (rc) (gV (dV 0) (gV (d2 fI (dV 1) (dC (.int 1))) (bq))))))) (dV 0))) (dF (dL bZ (ar)))))) (a8 (dC (.bl ah))) (bF))) b))
 (a8 (dC (.bl aj)))))
def kL(a:Ad):Nat->ae->R Slot
 |0=>bf 2 [] (aY 2 wJ)
 |k+1=>bf 2 [] (aY 2 (yaC a (kL a k)))
def yaI(a:Ad):ae->R aH:=a8 (d2 bv (dF (bT [0] (dL f_ (am (dL aP (am (dV 0) (ar))) (ar))) (dB (aA (ay (kL a 17) (gV (dV 1) (gV (dV 0) (bq)))))) (dV 0))) (dC (.int 0)))
def wb(a:Ad):ae->R Slot:=bf 1 [] (aY 0 (yaI a))
def yar(a:Ad):ae->R aH:=a6 (fX (dW (dB (aA (ay (jS a) (gV (dV 0) (bq)))))) (dW (dB (jD (bI λi j=>decide (i<=j)) (bI λi j=>decide (i<j)) (dC (.int 0)) (dV 0) (dV 1))))) (iW (.ref a.NoPlace) (λb=>bn ((dC (.str [97,32,112,108,97,99,101,32,105,115,32,97,32,119,104,111,108,101,32,110,117,109,98,101,114,32,102,114,111,109,32,48,32,111,110,44,32,108,101,115,115,32,116,104,97,110,32,116,104,101,32,116,101,120,116,32,104,97,115,32,108,101,116,116,101,114,115])) b))) (bF)
def qg(a:Ad):ae->R Slot:=bf 2 [] (aY 0 (yar a))
def yaq(a:Ad):ae->R aH:=a6 (dW (dB (aA (ay (mP a) (gV (dV 0) (gV (dC (.int 1)) (gV (dC (.str [97,98,99])) (bq)))))))) (iW (.ref a.NoLetters) (λb=>bn ((dC (.str [97,32,108,101,116,116,101,114,32,105,115,32,97,44,32,98,32,111,114,32,99])) b))) (bF)
def pc(a:Ad):ae->R Slot:=bf 1 [] (aY 0 (yaq a))
def yaJ(a:Ad):ae->R aH:=aB (λb=>cm (o7 2 3 (bx (dV 1)) (aT 0 (dF (bT [2,3] (bx (dV 0)) (dB (d2 (eqT aj) (d2 bv (dV 0) (dV 1)) (dV 2))) (dV 0)))) b))
 (a8 (dV 0))
def oU(a:Ad):ae->R Slot:=bf 2 [] (aY 2 (yaJ a))
def yaG(a:Ad):ae->R aH:=aB (a6 (dB (d2 (eqT aj) (dV 2) (dC (.str [117,110,100,111])))) (a8 (a6 (dB (d2 (eqT ah) (dV 1) (dF (dL bZ (ar))))) (d2 bv (dV 1) (d1 fQ (dC (.int 1)))) (dL cy (am (dC (.str [114,101,102,117,115,101,100])) (am (dC (.int 6)) (ar)))))) (bF))
 (aB (a6 (fX (dW (dB (dL eE (am (dV 2) (am (dC (.raw (.ty "int"))) (ar)))))) (fX (dB (dL eE (am (dV 2) (am (dC (.raw (.ty "bool"))) (ar))))) (dW (dB (jD (bI λi j=>decide (i<=j)) (bI λi j=>decide (i<j)) (dC (.int 0)) (dV 2) (dL aP (am (d2 bv (dV 0) (dC (.int 0))) (ar)))))))) (a8 (dL cy (am (dC (.str [114,101,102,117,115,101,100])) (am (dC (.int 8)) (ar))))) (bF))
 (aB (a6 (dB (d2 (jx ah) (dV 3) (dL cy (am (dC (.str [97])) (am (dC (.str [98])) (am (dC (.str [99])) (ar))))))) (a8 (dL cy (am (dC (.str [114,101,102,117,115,101,100])) (am (dC (.int 9)) (ar))))) (bF))
 (aB (aT 4 (aA (ay (oU a) (gV (dV 0) (gV (d2 bj (dV 1) (dF (dL bZ (am (dL cy (am (dV 2) (am (dV 3) (ar)))) (ar))))) (bq))))))
 (a8 (a6 (dB (d2 (eqT ah) (dV 4) (dF (dL bZ (ar))))) (dL aP (am (dV 4) (ar))) (dL cy (am (dC (.str [114,101,102,117,115,101,100])) (am (dC (.int 4)) (ar)))))))))
def jP(a:Ad):ae->R Slot:=bf 4 [] (aY 1 (yaG a))
end Sh
local macro_rules | `(tactic| and_intros) => `(tactic| (refine' Pu.R8 ?a ?l ?c ?k; (case a => k_is); (case l => k_is); (case c => k_is); (case k => k_is)))
namespace K33
open L2 Pu Sh
def cr(i:Nat):aS:=PySem.Challenge.pw_slitview_k33_whole_seekers.main.body.getD i (.Pass ⟨0,0,0,0⟩)
def qW(s:aS)(j:Nat):aS:=match s with
 |.ClassDef _ _ _ b _ _ _ _ _ _ _=>b.getD j (.Pass ⟨0,0,0,0⟩)
 |_=>.Pass ⟨0,0,0,0⟩
abbrev zd:aS:=cr 41
abbrev yR:aS:=cr 42
abbrev Aj:aS:=cr 43
abbrev Bd:aS:=cr 44
abbrev z7:aS:=cr 45
abbrev AO:aS:=cr 46
abbrev vV:aS:=cr 47
abbrev xR:aS:=cr 48
abbrev sM:aS:=cr 49
abbrev An:aS:=cr 50
abbrev xX:aS:=cr 57
abbrev At:aS:=cr 56
abbrev zV:aS:=cr 54
abbrev AX:aS:=qW (cr 39) 6
abbrev zJ:aS:=cr 19
abbrev Ak:aS:=cr 37
abbrev wx:aS:=cr 18
abbrev AU:aS:=cr 21
abbrev Aq:aS:=cr 38
abbrev xG:aS:=cr 32
abbrev zR:aS:=qW (cr 39) 1
abbrev yU:aS:=qW (cr 39) 4
abbrev AF:aS:=cr 55
abbrev wV:aS:=cr 51
abbrev vY:aS:=cr 52
abbrev wq:aS:=cr 53
abbrev Bt:aS:=cr 20
abbrev wB:aS:=cr 22
abbrev AN:aS:=cr 23
abbrev As:aS:=cr 24
abbrev Bu:aS:=cr 25
abbrev zT:aS:=cr 28
abbrev zx:aS:=cr 27
abbrev xS:aS:=cr 29
abbrev AB:aS:=qW (cr 39) 0
abbrev zF:aS:=qW (cr 39) 5
abbrev xy:aS:=cr 33
abbrev sR:aS:=cr 35
abbrev v5:aS:=cr 34
abbrev wG:aS:=cr 36
abbrev AV:aS:=qW (cr 39) 2
abbrev vR:aS:=cr 58
structure cn(K:au)(mg:Str->Option ai)(base:aI)(a:Ad):Prop where
 yaD:cq K mg "_law_cell_at" zd
 yaL:cq K mg "_law_mixed" yR
 yaF:cq K mg "_law_draw" Aj
 yaN:cq K mg "_law_pick" Bd
 yaP:cq K mg "_law_text" z7
 yaK:cq K mg "_law_like" AO
 yaO:cq K mg "_law_seen" vV
 yaQ:cq K mg "_law_under" xR
 yaB:cq K mg "_law_all" sM
 yaH:cq K mg "_law_few" An
 yaJ:cq K mg "_law_left" xX
 yaG:cq K mg "_law_due" At
 yaR:cq K mg "_law_which" zV
 ybp:je K a.Seeker "undo" "Seeker.undo" AX
 yax:cq K mg "is_whole_number" zJ
 yar:cq K mg "check_place" Ak
 yau:cq K mg "has_only" wx
 yaz:cq K mg "is_window" AU
 yaq:cq K mg "check_letter" Aq
 yaW:cq K mg "with_letter" xG
 ybn:je K a.Seeker "left" "Seeker.left" zR
 ybl:je K a.Seeker "hear" "Seeker.hear" yU
 yaE:cq K mg "_law_do" AF
 yaM:cq K mg "_law_parts" wV
 yaC:cq K mg "_law_can" vY
 yaI:cq K mg "_law_least" wq
 yay:cq K mg "is_width" Bt
 yap:cq K mg "are_windows" wB
 yaw:cq K mg "is_view_with" AN
 yav:cq K mg "is_view" As
 yas:cq K mg "check_view" Bu
 yan:cq K mg "add_endings" zT
 yat:cq K mg "counted" zx
 yaV:cq K mg "texts" xS
 yaX:wD K a.Seeker "Seeker.__init__" AB
 ybm:je K a.Seeker "heard" "Seeker.heard" zF
 yao:cq K mg "answers_to" xy
 yaS:cq K mg "needed_by" sR
 yaU:cq K mg "places_to_ask" v5
 yaT:cq K mg "needed_for" wG
 ybo:je K a.Seeker "needed" "Seeker.needed" AV
 yaA:cq K mg "law" vR
 k_Seeker:Cls K a.Seeker
 ybd:iE K a.Seeker "answers"
 ybe:iE K a.Seeker "having"
 yaY:mg "ValueError"=af
 yaZ:mg "all"=af
 ya0:mg "any"=af
 ya1:mg "bool"=af
 ya2:mg "int"=af
 ya3:mg "isinstance"=af
 ya4:mg "len"=af
 ya5:mg "list"=af
 ya6:mg "max"=af
 ya7:mg "min"=af
 ya8:mg "range"=af
 ya9:mg "set"=af
 yba:mg "sorted"=af
 ybb:mg "str"=af
 ybc:mg "tuple"=af
 ybq:∃t,mg "LETTERS"=aa (.str (tS [97,98,99]) t)
 ybr:∃t,mg "MOST_TEXTS"=aa (.int 16 t)
 ybs:∃t,mg "MOST_WINDOWS"=aa (.int 9 t)
 ybt:∃t,mg "WIDEST"=aa (.int 4 t)
 yal:mg "SlitError"=aa (.ref a.SlitError)
 yaf:mg "NoText"=aa (.ref a.NoText)
 yah:mg "NoWidth"=aa (.ref a.NoWidth)
 yag:mg "NoView"=aa (.ref a.NoView)
 yai:mg "NoWindow"=aa (.ref a.NoWindow)
 yac:mg "Never"=aa (.ref a.Never)
 yab:mg "Full"=aa (.ref a.Full)
 yaj:mg "Nothing"=aa (.ref a.Nothing)
 yam:mg "Unlike"=aa (.ref a.Unlike)
 yae:mg "NoPlace"=aa (.ref a.NoPlace)
 yad:mg "NoLetters"=aa (.ref a.NoLetters)
 yaa:mg "BadText"=aa (.ref a.BadText)
 yak:mg "Seeker"=aa (.ref a.Seeker)
 ybk:pV "Nothing" a.Nothing [.type "ValueError",.type "Exception",.type "BaseException",.type "object"] "ValueError.__new__" mg base
 ybi:pV "NoPlace" a.NoPlace [.type "ValueError",.type "Exception",.type "BaseException",.type "object"] "ValueError.__new__" mg base
 ybh:pV "NoLetters" a.NoLetters [.type "ValueError",.type "Exception",.type "BaseException",.type "object"] "ValueError.__new__" mg base
 ybg:pV "Never" a.Never [.type "ValueError",.type "Exception",.type "BaseException",.type "object"] "ValueError.__new__" mg base
 ybj:pV "NoView" a.NoView [.type "ValueError",.type "Exception",.type "BaseException",.type "object"] "ValueError.__new__" mg base
 ybf:pV "Full" a.Full [.type "ValueError",.type "Exception",.type "BaseException",.type "object"] "ValueError.__new__" mg base
 err_SlitError:pe base a.SlitError
 und:∀c,l8 a c=ah->Under base a.SlitError c
 tab:zQ K (i4 a)
section
variable{P:a_}{w:aU}{K:au}{c:Str->Option ai}{b:aI}{a:Ad}
theorem OU:bE ["_law_script","_law_k"] ["_law_script","_law_k"] (aL zd):=by ac_nf
theorem O6(G:cn K c b a):cD (bP P w) P w K c b "_law_cell_at" 1 ["_law_script","_law_k"] (bh K (qD a)) :=
 cU (k:=0) (pin:=[]) G.yaD OU rfl (λ_ _ _ _ _ _ g i=>Pu.R_ (λ_ _=>rfl) g i) (λf j A d s H E h=>by exact
  (a5 (eB (cP qZ gC (aq 1) (bL dJ dP G.ya4 dH (az (aq 0) aQ)) rfl) (a9 (cE (fY gd gf (aq 0) (aq 1)))) et)
  (a5 (eB (cP (gE h.units) gz (aq 0) (iB aQ) rfl) (a9 (cE aV)) et)
  (a9 (cE (cJ fH fA (cJ Ae zP (fY gd gf (aq 0) (cJ sQ ux (aq 1) (bL dJ dP G.ya4 dH (az (aq 0) aQ)))) aV) (aq 1)))))))
theorem N2:bE ["_law_script","_law_k","_law_many","_law_drawn"] ["_law_script","_law_k","_law_many"] (aL yR):=by ac_nf
theorem Hw(G:cn K c b a):cD (bP P w) P w K c b "_law_mixed" 2 ["_law_script","_law_k","_law_many"] (bh K (xN a)) :=
 cU (k:=1) (pin:=[]) G.yaL N2 rfl (λ_ _ _ _ _ _ g i=>Pu.Sm (λ_ _ _=>rfl) g i) (λf j A d s H E h=>by exact
  (a5 (c0 3 N2.nd (cJ sQ ux (cJ fH fA (cJ fH fA (cJ Ae zP ((bG (O6 G) (h.mono (by decide)) cT (aO (aq 0) (aO (aq 1) bw)))).de aV) (cJ Ae zP aV (aq 1))) aV) aV))
  (a9 (cE (cJ sQ ux (cJ sQ ux (cJ sQ ux (cJ PU RI (aq 3) aV) aV) aV) (aq 2))))))
theorem QO:bE ["_law_script","_law_town","_law_many"] ["_law_script","_law_town","_law_many"] (aL Aj):=by ac_nf
theorem oJ(G:cn K c b a):cD (bP P w) P w K c b "_law_draw" 3 ["_law_script","_law_town","_law_many"] (bh K (ig a)) :=
 cU (k:=2) (pin:=[1]) G.yaF QO rfl (λ_ _ _ _ _ _ g i=>Pu.Sm (λ_ _ _=>rfl) g i) (λf j A d s H E h=>by exact
  (a5 (EQ 1 aV)
  (a9 (vX (bG (Hw G) (h.mono (by decide)) cT (aO (aq 0) (aO (OS 1 dJ dP G.ya4 dH) (aO (aq 2) bw))))))))
theorem N5:bE ["_law_script","_law_town","_law_some"] ["_law_script","_law_town","_law_some"] (aL Bd):=by ac_nf
theorem rG(G:cn K c b a):cD (bP P w) P w K c b "_law_pick" 4 ["_law_script","_law_town","_law_some"] (bh K (iy a)) :=
 cU (k:=3) (pin:=[1]) G.yaN N5 rfl (λ_ _ _ _ _ _ g i=>Pu.Sm (λ_ _ _=>rfl) g i) (λf j A d s H E h=>by exact
  (a9 (cE (fY gd gf (aq 2) ((bG (oJ G) (h.mono (by decide)) cT (aO (aq 0) (fO 1 (aO (bL dJ dP G.ya4 dH (az (aq 2) aQ)) bw))))).de))))
theorem Rq:bE ["_law_script","_law_town","_law_low","_law_most","_law_few_here","_law_made","_law_k"] ["_law_script","_law_town","_law_low","_law_most"] (aL z7):=by ac_nf
theorem IY(G:cn K c b a):cD (bP P w) P w K c b "_law_text" 5 ["_law_script","_law_town","_law_low","_law_most"] (bh K (nI a)) :=
 cU (k:=4) (pin:=[1]) G.yaP Rq rfl (λ_ _ _ _ _ _ h i=>Pu.SE (λ_ _ _ _=>rfl) h i) (λf j A d s H E g=>by exact
  (a5 (c0 4 Rq.nd ((bG (rG G) (g.mono (by decide)) cT (aO (aq 0) (fO 1 (aO (iB (az aV (az aV (az aV (az aV (az aV (az aV aQ))))))) bw))))).de)
  (a5 (c0 5 Rq.nd (c7 []))
  (a5 (jV (mw 6 kg rfl Rq.nd (oS G.ya8 (az (cJ fH fA (aq 2) ((bG (oJ G) (g.mono (by decide)) c9 (aO (aq 0) (fO 1 (aO (cJ fH fA (cJ oM oO (aq 3) (aq 2)) aV) bw))))).de) aQ)) (a9 (c0 5 Rq.nd (cJ fH fA (aq 5) (fY gd gf (c7 [97,98,99]) ((bG (oJ G) (g.mono (by decide)) c9 (aO (aq 0) (fO 1 (aO (aq 4) bw))))).de))))))
  (a9 (cE (aq 5)))))))
theorem Ms:bE ["_law_script","_law_town","_law_low","_law_most","_law_width","_law_made"] ["_law_script","_law_town","_law_low","_law_most"] (aL AO):=by ac_nf
theorem JO(G:cn K c b a):cD (bP P w) P w K c b "_law_like" 6 ["_law_script","_law_town","_law_low","_law_most"] (bh K (mh a)) :=
 cU (k:=5) (pin:=[1]) G.yaK Ms rfl (λ_ _ _ _ _ _ h i=>Pu.SE (λ_ _ _ _=>rfl) h i) (λf j A g s H E d=>by exact
  (a5 (c0 4 Ms.nd (cJ fH fA aV ((bG (rG G) (d.mono (by decide)) cT (aO (aq 0) (fO 1 (aO (iB (az aV (az aV (az aV (az aV (az aV aQ)))))) bw))))).de))
  (a5 (c0 5 Ms.nd ((bG (IY G) (d.mono (by decide)) cT (aO (aq 0) (fO 1 (aO (aq 2) (aO aV bw)))))).de)
  (a5 (jV (Ey (λ_=>1000) kg (cP qZ gC (bL dJ dP G.ya4 dH (az (aq 5) aQ)) (cJ oM oO (aq 3) aV) rfl) (a9 (c0 5 Ms.nd (cJ fH fA (aq 5) ((bG (rG G) (d.mono (by decide)) c9 (aO (aq 0) (fO 1 (aO (iB (az (mR mX mU (aq 5) o0 (km aV)) (az (mR mX mU (aq 5) o0 (km aV)) (az (mR mX mU (aq 5) (km aV) (km aV)) (az (c7 [97]) (az (c7 [98]) (az (mR mX mU (aq 5) (km (qI qu rk aV)) o0) aQ))))))) bw))))).de)))))
  (a9 (cE (iJ (az (mR mX mU (aq 5) o0 (km (bL (Nw rfl) J_ G.ya6 Ec (az (aq 4) (az (cJ oM oO (aq 3) ((bG (oJ G) (d.mono (by decide)) cT (aO (aq 0) (fO 1 (aO aV bw))))).de) aQ))))) (az (aq 4) aQ)))))))))
theorem Qf:bE ["_law_text_here","_law_width"] ["_law_text_here","_law_width"] (aL vV):=by ac_nf
theorem v6(G:cn K c b a):cD (bP P w) P w K c b "_law_seen" 1 ["_law_text_here","_law_width"] (bh K (iZ a)) :=
 cU (k:=0) (pin:=[]) G.yaO Qf rfl (λ_ _ _ _ _ _ i l=>Pu.R_ (λ_ _=>rfl) i l) (λf o A h s H E n=>by exact
  (a9 (cE (xT xC xI G.ybc qw (az (zu za zD G.yba wQ (az (iT (cap:=[0,1]) (N':=["_law_at","_law_text_here","_law_width"]) (jB.of ["_law_text_here","_law_width"] (aL vV) rfl rfl (by decide +kernel)) rfl (oS G.ya8 (az (bL dJ dP G.ya4 dH (az (aq 0) aQ)) aQ)) (λC d g m j=>by exact mF (cP nD gC (cJ fH fA (aq 0) (aq 2)) (bL dJ dP G.ya4 dH (az (aq 1) aQ)) rfl)) (λC d g m j=>by exact(mR mX mU (aq 1) (km (aq 0)) (km (cJ fH fA (aq 0) (aq 2)))))).de aQ)).de aQ)))))
theorem Ig:bE ["_law_text_here","_law_width","_law_windows","_law_made"] ["_law_text_here","_law_width","_law_windows"] (aL xR):=by ac_nf
theorem Nn(G:cn K c b a):cD (bP P w) P w K c b "_law_under" 2 ["_law_text_here","_law_width","_law_windows"] (bh K (n6 a)) :=
 cU (k:=1) (pin:=[]) G.yaQ Ig rfl (λ_ _ _ _ _ _ i m=>Pu.Sm (λ_ _ _=>rfl) i m) (λf o A h s H E l=>by exact
  (a5 (c0 3 Ig.nd ((bG (v6 G) (l.mono (by decide)) cT (aO (aq 0) (aO (aq 1) bw)))).de)
  (a9 (cE (bL (A1 rfl) Bw G.yaZ Bp (az (iT (cap:=[3,2]) (N':=["_law_window","_law_made","_law_windows"]) (jB.of ["_law_text_here","_law_width","_law_windows","_law_made"] (aL xR) rfl rfl (by decide +kernel)) rfl (gF (aq 3)) (λC d g n j=>by exact nH) (λC d g n j=>by exact(re nD gC (ET (aq 1) (aq 0)) (ET (aq 2) (aq 0)) rfl))).de aQ))))))
theorem Kb:bE ["_law_asked","_law_width","_law_windows","_law_rows","_law_k","_law_longer","_law_line"] ["_law_asked"] (aL sM):=by ac_nf
theorem Db(G:cn K c b a):cD (bP P w) P w K c b "_law_all" 3 ["_law_asked"] (bh K (mq a)) :=
 cU (k:=2) (pin:=[]) G.yaB Kb rfl (λ_ _ _ _ _ _ m n=>Pu.Sq (λ_=>rfl) m n) (λf o A i s H E j=>by exact
  (a5 (Bj 1 2 rfl Kb.nd (aq 0))
  (a5 (c0 3 Kb.nd (iB (az (c7 []) aQ)))
  (a5 (jV (mw 4 kg rfl Kb.nd (oS G.ya8 (az (cJ oM oO (cJ fH fA (bL dJ dP G.ya4 dH (az (aq 2) aQ)) (aq 1)) aV) aQ)) (a5 (qT 5 Kb.nd (qr aQ))
  (a5 (mw 6 kg rfl Kb.nd (gF (aq 3)) (a9 (z9 5 (iT (cap:=[6,1,2]) (N':=["_law_letter","_law_line","_law_width","_law_windows"]) (jB.of ["_law_asked","_law_width","_law_windows","_law_rows","_law_k","_law_longer","_law_line"] (aL sM) rfl rfl (by decide +kernel)) rfl (gF (c7 [97,98,99])) (λC d g l h=>by exact mF (jm ((bG (Nn G) (j.mono (by decide)) c9 (aO (cJ fH fA (aq 1) (aq 0)) (aO (aq 2) (aO (aq 3) bw))))).de)) (λC d g l h=>by exact(cJ fH fA (aq 1) (aq 0)))).de)))
  (a9 (c0 3 Kb.nd (Rg 5)))))))
  (a9 (wK (iT (cap:=[1,2]) (N':=["_law_line","_law_width","_law_windows"]) (jB.of ["_law_asked","_law_width","_law_windows","_law_rows","_law_k","_law_longer","_law_line"] (aL sM) rfl rfl (by decide +kernel)) rfl (gF (aq 3)) (λC d g l h=>by exact mF (cP (gE j.units) gz ((bG (v6 G) (j.mono (by decide)) c9 (aO (aq 0) (aO (aq 1) bw)))).de (aq 2) rfl)) (λC d g l h=>by exact(aq 0)))))))))
theorem PR:bE ["_law_script","_law_town","_law_text_here","_law_width","_law_asked","_law_lines"] ["_law_script","_law_town"] (aL An):=by ac_nf
theorem My(G:cn K c b a):cD (bP P w) P w K c b "_law_few" 7 ["_law_script","_law_town"] (bh K (tt a)) :=
 cU (k:=6) (pin:=[1]) G.yaH PR rfl (λ_ _ _ _ _ _ h i=>Pu.R_ (λ_ _=>rfl) h i) (λf j A g s H E d=>by exact
  (a5 (Bj 2 3 rfl PR.nd ((bG (JO G) (d.mono (by decide)) cT (aO (aq 0) (fO 1 (aO aV (aO aV bw)))))).de)
  (a5 (c0 4 PR.nd (iJ (az (aq 3) (az ((bG (v6 G) (d.mono (by decide)) cT (aO (aq 2) (aO (aq 3) bw)))).de aQ))))
  (a5 (c0 5 PR.nd ((bG (Db G) (d.mono (by decide)) cT (aO (aq 4) bw))).de)
  (a5 (jV (Ey (λ_=>1000) kg (cP qA gC (bL dJ dP G.ya4 dH (az (aq 5) aQ)) aV rfl) (a5 (c0 4 PR.nd (qK (cP qZ gC (aq 3) aV rfl) (iJ (az (cJ fH fA (aq 3) aV) (az ((bG (v6 G) (d.mono (by decide)) c9 (aO (aq 2) (aO (cJ fH fA (aq 3) aV) bw)))).de aQ))) (iJ (az aV (az (iJ (az (c7 [97]) aQ)) aQ)))))
  (a5 (c0 3 PR.nd (fY gd gf (aq 4) aV))
  (a9 (c0 5 PR.nd ((bG (Db G) (d.mono (by decide)) c9 (aO (aq 4) bw))).de))))))
  (a9 (cE (iJ (az (aq 4) (az (aq 5) aQ))))))))))
theorem Nz:bE ["_law_lines","_law_row","_law_place","_law_letter"] ["_law_lines","_law_row"] (aL xX):=by ac_nf
theorem Dj(G:cn K c b a):cD (bP P w) P w K c b "_law_left" 1 ["_law_lines","_law_row"] (bh K (oU a)) :=
 cU (k:=0) (pin:=[]) G.yaJ Nz rfl (λ_ _ _ _ _ _ i m=>Pu.R_ (λ_ _=>rfl) i m) (λf o A h s H E l=>by exact
  (a5 (jV (Rb 2 3 kg rfl Nz.nd (gF (aq 1)) (a9 (Cw 0 Nz.nd (cap:=[2,3]) (N':=["_law_text_here","_law_place","_law_letter"]) (jB.of ["_law_lines","_law_row","_law_place","_law_letter"] (aL xX) rfl rfl (by decide +kernel)) rfl (gF (aq 0)) (λC d g n j=>by exact mF (cP (gE l.units) gz (fY gd gf (aq 0) (aq 1)) (aq 2) rfl)) (λC d g n j=>by exact(aq 0))))))
  (a9 (cE (aq 0)))))
theorem J4:bE ["_law_lines","_law_row","_law_place","_law_letter","_law_rest"] ["_law_lines","_law_row","_law_place","_law_letter"] (aL At):=by ac_nf
theorem QQ(G:cn K c b a):cD (bP P w) P w K c b "_law_due" 2 ["_law_lines","_law_row","_law_place","_law_letter"] (bh K (jP a)) :=
 cU (k:=1) (pin:=[]) G.yaG J4 rfl (λ_ _ _ _ _ _ h i=>Pu.SE (λ_ _ _ _=>rfl) h i) (λf j A g s H E d=>by exact
  (a5 (eB (cP (gE d.units) gz (aq 2) (c7 [117,110,100,111]) rfl) (a9 (cE (qK (cP (me d.units) mK (aq 1) (iB aQ) rfl) (fY gd gf (aq 1) (qI qu rk aV)) (iJ (az (c7 [114,101,102,117,115,101,100]) (az aV aQ)))))) et)
  (a5 (eB ((nG (jz (jm (bL l9 mC G.ya3 gA (az (aq 2) (az (mf G.ya2 Av) aQ))))) (nG (jm (bL l9 mC G.ya3 gA (az (aq 2) (az (mf G.ya1 E_) aQ)))) (qb (jz (zv nD qZ gC gC aV (aq 2) (bL dJ dP G.ya4 dH (az (fY gd gf (aq 0) aV) aQ)))))))).dt (a9 (cE (iJ (az (c7 [114,101,102,117,115,101,100]) (az aV aQ))))) et)
  (a5 (eB (cP LO QV (aq 3) (iJ (az (c7 [97]) (az (c7 [98]) (az (c7 [99]) aQ)))) rfl) (a9 (cE (iJ (az (c7 [114,101,102,117,115,101,100]) (az aV aQ))))) et)
  (a5 (c0 4 J4.nd ((bG (Dj G) (d.mono (by decide)) cT (aO (aq 0) (aO (cJ fH fA (aq 1) (iB (az (iJ (az (aq 2) (az (aq 3) aQ))) aQ))) bw)))).de)
  (a9 (cE (qK (cP (me d.units) mK (aq 4) (iB aQ) rfl) (bL dJ dP G.ya4 dH (az (aq 4) aQ)) (iJ (az (c7 [114,101,102,117,115,101,100]) (az aV aQ)))))))))))
theorem Jx:bE ["_law_e","_law_own"] ["_law_e"] (aL zV):=by ac_nf
theorem LJ(G:cn K c b a):wA P w K c b "_law_which" 1 ["_law_e"] (bh K (kI a)) :=
 JC (k:=0) (pin:=[]) G.yaR Jx rfl (λ_ _ _ _ _ _ g i=>Pu.Sq (λ_=>rfl) g i) (λf j A d s H h=>by exact
  (a5 (qT 1 Jx.nd (qr (az (bL j9 (jY G.tab) G.ya3 gA (az (aq 0) (az (kG G.yaf) aQ))) (az (bL j9 (jY G.tab) G.ya3 gA (az (aq 0) (az (kG G.yah) aQ))) (az (bL j9 (jY G.tab) G.ya3 gA (az (aq 0) (az (kG G.yag) aQ))) (az (bL j9 (jY G.tab) G.ya3 gA (az (aq 0) (az (kG G.yai) aQ))) aQ))))))
  (a5 (z9 1 (iB (az (bL j9 (jY G.tab) G.ya3 gA (az (aq 0) (az (kG G.yac) aQ))) (az (bL j9 (jY G.tab) G.ya3 gA (az (aq 0) (az (kG G.yab) aQ))) (az (bL j9 (jY G.tab) G.ya3 gA (az (aq 0) (az (kG G.yaj) aQ))) (az (bL j9 (jY G.tab) G.ya3 gA (az (aq 0) (az (kG G.yam) aQ))) aQ))))))
  (a5 (z9 1 (iB (az (bL j9 (jY G.tab) G.ya3 gA (az (aq 0) (az (kG G.yae) aQ))) (az (bL j9 (jY G.tab) G.ya3 gA (az (aq 0) (az (kG G.yad) aQ))) (az (bL j9 (jY G.tab) G.ya3 gA (az (aq 0) (az (kG G.yaa) aQ))) aQ)))))
  (a5 (eB ((nG (cP (me h.units) mK (Kg 1 j3) aV rfl) (qb (jz (jm (bL j9 (jY G.tab) G.ya3 gA (az (aq 0) (az (mf G.yaY Px) aQ)))))))).dt (a9 (cE (iJ (az (c7 [114,101,102,117,115,101,100]) (az (qI qu rk aV) aQ))))) et)
  (a9 (cE (iJ (az (c7 [114,101,102,117,115,101,100]) (az (IA 1 j3) aQ))))))))))
def ze(a:Ad):ae->R aH:=aB (a6 (dB (d2 (eqT aj) (kn (λxs=>mj (aP xs)) a.Seeker "answers" 0) (dC (.int 0)))) (iW (.ref a.Nothing) (λd=>bn ((dC (.str [116,104,101,114,101,32,105,115,32,110,111,32,97,110,115,119,101,114,32,116,111,32,116,97,107,101,32,98,97,99,107])) d))) (bF))
 (a8 (wp a.Seeker "answers" 0))
def nN(a:Ad):ae->R Slot:=fG 1 [0] (aY 0 (ze a))
theorem L9:bE ["self"] ["self"] (aL AX):=by ac_nf
theorem NI(G:cn K c b a):kA (bP P w) P w K c b a.Seeker "undo" 1 ["self"] (bh K (nN a)) :=
 Ag (k:=0) (pin:=[0]) G.ybp L9 rfl (λ_ _ _ _ _ _ g i=>Pu.Sq (λ_=>rfl) g i) (λf j A d s H E h=>by exact
  (a5 (eB (cP (gE h.units) gz (Ny 0 G.k_Seeker G.ybd dJ dP G.ya4 dH) aV rfl) (a9 (o6 oP rfl G.ybk se (c7 [116,104,101,114,101,32,105,115,32,110,111,32,97,110,115,119,101,114,32,116,111,32,116,97,107,101,32,98,97,99,107]))) et)
  (a9 (cE (HV 0 G.k_Seeker G.ybd)))))
theorem LH:bE ["thing"] ["thing"] (aL zJ):=by ac_nf
theorem C1(G:cn K c b a):cD (bP P w) P w K c b "is_whole_number" 1 ["thing"] (bh K (jS a)) :=
 cU (k:=0) (pin:=[]) G.yax LH rfl (λ_ _ _ _ _ _ g h=>Pu.Sq (λ_=>rfl) g h) (λf j A d s H E i=>by exact
  (a9 (cE (qV (bL l9 mC G.ya3 gA (az (aq 0) (az (mf G.ya2 Av) aQ))) (sJ (Po (bL l9 mC G.ya3 gA (az (aq 0) (az (mf G.ya1 E_) aQ)))))))))
theorem JY:bE ["thing","count"] ["thing","count"] (aL Ak):=by ac_nf
theorem Ov(G:cn K c b a):cD (bP P w) P w K c b "check_place" 2 ["thing","count"] (bh K (qg a)) :=
 cU (k:=1) (pin:=[]) G.yar JY rfl (λ_ _ _ _ _ _ g i=>Pu.R_ (λ_ _=>rfl) g i) (λf j A d s H E h=>by exact
  (a9 (eB ((nG (jz (jm ((bG (C1 G) (h.mono (by decide)) cT (aO (aq 0) bw))).de)) (qb (jz (zv nD qZ gC gC aV (aq 0) (aq 1)))))).dt (a9 (o6 oP rfl G.ybi se (c7 [97,32,112,108,97,99,101,32,105,115,32,97,32,119,104,111,108,101,32,110,117,109,98,101,114,32,102,114,111,109,32,48,32,111,110,44,32,108,101,115,115,32,116,104,97,110,32,116,104,101,32,116,101,120,116,32,104,97,115,32,108,101,116,116,101,114,115]))) et)))
theorem Jj:bE ["text","signs"] ["text","signs"] (aL wx):=by ac_nf
theorem Oa(G:cn K c b a):cD (bP P w) P w K c b "has_only" 1 ["text","signs"] (bh K (xQ a)) :=
 cU (k:=0) (pin:=[]) G.yau Jj rfl (λ_ _ _ _ _ _ i l=>Pu.R_ (λ_ _=>rfl) i l) (λf o A h s H E n=>by exact
  (a9 (cE (bL (A1 rfl) Bw G.yaZ Bp (az (iT (cap:=[1]) (N':=["sign","signs"]) (jB.of ["text","signs"] (aL wx) rfl rfl (by decide +kernel)) rfl (gF (aq 0)) (λC d g m j=>by exact nH) (λC d g m j=>by exact(re P8 HM (aq 0) (aq 1) rfl))).de aQ)))))
theorem Jo:bE ["thing","width","signs"] ["thing","width","signs"] (aL AU):=by ac_nf
theorem DZ(G:cn K c b a):cD (bP P w) P w K c b "is_window" 2 ["thing","width","signs"] (bh K (mP a)) :=
 cU (k:=1) (pin:=[]) G.yaz Jo rfl (λ_ _ _ _ _ _ h i=>Pu.Sm (λ_ _ _=>rfl) h i) (λf j A d s H E g=>by exact
  (a9 (cE (qV (bL l9 mC G.ya3 gA (az (aq 0) (az (mf G.ybb Mq) aQ))) (qV (re (gE g.units) gz (bL dJ dP G.ya4 dH (az (aq 0) aQ)) (aq 1) rfl) (sJ ((bG (Oa G) (g.mono (by decide)) cT (aO (aq 0) (aO (aq 2) bw)))).de))))))
theorem Kr:bE ["thing"] ["thing"] (aL Aq):=by ac_nf
theorem N8(G:cn K c b a):cD (bP P w) P w K c b "check_letter" 3 ["thing"] (bh K (pc a)) :=
 cU (k:=2) (pin:=[]) G.yaq Kr rfl (λ_ _ _ _ _ _ g i=>Pu.Sq (λ_=>rfl) g i) (λf j A d s H E h=>by exact
  (a9 (eB (jz (jm ((bG (DZ G) (h.mono (by decide)) cT (aO (aq 0) (aO aV (aO (xM G.ybq) bw))))).de)) (a9 (o6 oP rfl G.ybh se (c7 [97,32,108,101,116,116,101,114,32,105,115,32,97,44,32,98,32,111,114,32,99]))) et)))
theorem Oo:bE ["left","place","letter"] ["left","place","letter"] (aL xG):=by ac_nf
theorem wm(G:cn K c b a):cD (bP P w) P w K c b "with_letter" 1 ["left","place","letter"] (bh K (iY a)) :=
 cU (k:=0) (pin:=[]) G.yaW Oo rfl (λ_ _ _ _ _ _ i m=>Pu.Sm (λ_ _ _=>rfl) i m) (λf o A h s H E l=>by exact
  (a9 (cE (xT xC xI G.ybc qw (az (iT (cap:=[1,2]) (N':=["text","place","letter"]) (jB.of ["left","place","letter"] (aL xG) rfl rfl (by decide +kernel)) rfl (gF (aq 0)) (λC d g n j=>by exact mF (cP (gE l.units) gz (fY gd gf (aq 0) (aq 1)) (aq 2) rfl)) (λC d g n j=>by exact(aq 0))).de aQ)))))
def iA(a:Ad):ae->R Slot:=nZ 1 3 [0] (aT 1 (kl a.Seeker "answers" 0 "having")) (λε=>cm (nO a.Seeker "answers" 0 2 3 (aT 1 (aA (ay (iY a) (gV (dV 1) (gV (dV 2) (gV (dV 3) (bq))))))) ε)) (dL kE (am (dV 1) (ar)))
theorem J2:bE ["self","found","place","letter"] ["self"] (aL zR):=by ac_nf
theorem uj(G:cn K c b a):kA (bP P w) P w K c b a.Seeker "left" 2 ["self"] (bh K (iA a)) :=
 Jd (k:=1) (pin:=[0]) G.ybn J2 rfl (λ_ _ _ _ _ _ i j=>Pu.Sq (λ_=>rfl) i j) rfl (λf h A d s H E g=>by exact
  ((c0 1 J2.nd (C8 0 "answers" G.k_Seeker G.ybe)))) (λf h A d s H E g=>by exact
  ((jV (Ma 0 2 3 G.k_Seeker G.ybd kg rfl J2.nd (a9 (c0 1 J2.nd ((bG (wm G) (g.mono (by decide)) c9 (aO (aq 1) (aO (aq 2) (aO (aq 3) bw))))).de)))))) (λf h A d s H E g=>by exact
  (Es Bo Ao G.ya5 zE (az (aq 1) aQ)))
def zM(a:Ad):ae->R aH:=aB (jl (ay (qg a) (gV (dV 1) (gV (dL aP (am (d2 bv (kl a.Seeker "answers" 0 "having") (dC (.int 0))) (ar))) (bq)))))
 (aB (jl (ay (pc a) (gV (dV 2) (bq))))
 (aB (aT 3 (aA (ay (iY a) (gV (aA (cY a.Seeker "left" 0 (iA a))) (gV (dV 1) (gV (dV 2) (bq)))))))
 (aB (a6 (dB (d2 (eqT aj) (dL aP (am (dV 3) (ar))) (dC (.int 0)))) (iW (.ref a.Never) (λd=>bn ((dC (.str [110,111,32,116,101,120,116,32,116,104,97,116,32,105,115,32,108,101,102,116,32,104,97,115,32,116,104,105,115,32,108,101,116,116,101,114,32,116,104,101,114,101])) d))) (bF))
 (aB (pq a.Seeker "answers" 0 (dL cy (am (dV 1) (am (dV 2) (ar)))))
 (a8 (dL aP (am (dV 3) (ar))))))))
def kq(a:Ad):ae->R Slot:=fG 3 [0] (aY 1 (zM a))
theorem Ly:bE ["self","place","letter","found"] ["self","place","letter"] (aL yU):=by ac_nf
theorem NU(G:cn K c b a):kA (bP P w) P w K c b a.Seeker "hear" 4 ["self","place","letter"] (bh K (kq a)) :=
 Ag (k:=3) (pin:=[0]) G.ybl Ly rfl (λ_ _ _ _ _ _ h i=>Pu.Sm (λ_ _ _=>rfl) h i) (λf j A g s H E d=>by exact
  (a5 (sK (bG (Ov G) (d.mono (by decide)) cT (aO (aq 1) (aO (bL dJ dP G.ya4 dH (az (fY gd gf (C8 0 "answers" G.k_Seeker G.ybe) aV) aQ)) bw))))
  (a5 (sK (bG (N8 G) (d.mono (by decide)) cT (aO (aq 2) bw)))
  (a5 (c0 3 Ly.nd ((bG (wm G) (d.mono (by decide)) cT (aO ((mV 0 G.k_Seeker (uj G) (d.mono (by decide)) cT)).de (aO (aq 1) (aO (aq 2) bw))))).de)
  (a5 (eB (cP (gE d.units) gz (bL dJ dP G.ya4 dH (az (aq 3) aQ)) aV rfl) (a9 (o6 oP rfl G.ybg se (c7 [110,111,32,116,101,120,116,32,116,104,97,116,32,105,115,32,108,101,102,116,32,104,97,115,32,116,104,105,115,32,108,101,116,116,101,114,32,116,104,101,114,101]))) et)
  (a5 (Nc 0 G.k_Seeker G.ybd (iJ (az (aq 1) (az (aq 2) aQ))))
  (a9 (cE (bL dJ dP G.ya4 dH (az (aq 3) aQ))))))))))
def yaE(a:Ad):ae->R aH:=nX 3 (l8 a) (pf (dB (d2 (eqT aj) (dV 1) (dC (.str [117,110,100,111])))) (cY a.Seeker "undo" 0 (nN a)) (t7 a.Seeker "hear" 0 (kq a) (gV (dV 1) (gV (dV 2) (bq))))) (oQ (λε=>bn (ay (kI a) (gV (dV 3) (bq)) ε)))
def jA(a:Ad):ae->R Slot:=fG 3 [0] (aY 1 (yaE a))
theorem O3:bE ["_law_seeker","_law_place","_law_letter","_law_e"] ["_law_seeker","_law_place","_law_letter"] (aL AF):=by ac_nf
theorem M5(G:cn K c b a):cD (bP P w) P w K c b "_law_do" 5 ["_law_seeker","_law_place","_law_letter"] (bh K (jA a)) :=
 Ng (k:=4) (pin:=[0]) G.yaE O3 rfl (λ_ _ _ _ _ _ j l=>Pu.Sm (λ_ _ _=>rfl) j l) (λf m A g s H E d=>by
  have h:=λi=>cM.hand (v:=aa (.ref i)) d;exact
  (a9 (Lm 3 O3.nd (KG (cP (gE d.units) gz (aq 1) (c7 [117,110,100,111]) rfl) (JE 0 G.k_Seeker (NI G) (d.mono (by decide))) (K3 0 G.k_Seeker (NU G) (d.mono (by decide)) (aO (aq 1) (aO (aq 2) bw)))) G.yal G.err_SlitError G.und (λi=>by exact(a9 (vX (NA (LJ G) ((h i).mono (by decide)) (aO (aq 3) bw))))))))
theorem IN:bE ["_law_some","_law_at","_law_made","_law_text_here"] ["_law_some","_law_at"] (aL wV):=by ac_nf
theorem QT(G:cn K c b a):cD (bP P w) P w K c b "_law_parts" 1 ["_law_some","_law_at"] (bh K (tF a)) :=
 cU (k:=0) (pin:=[]) G.yaM IN rfl (λ_ _ _ _ _ _ j m=>Pu.R_ (λ_ _=>rfl) j m) (λf o A h s H E i=>by exact
  (a5 (qT 2 IN.nd Qw)
  (a5 (jV (mw 3 kg rfl IN.nd (gF (aq 0)) (a9 (JI 2 3 i.units (fY gd gf (aq 3) (aq 1))))))
  (a9 (QW 2 (wK (iT (cap:=[2]) (N':=["_law_letter","_law_made"]) (jB.of ["_law_some","_law_at","_law_made","_law_text_here"] (aL wV) rfl rfl (by decide +kernel)) rfl (gF (zu za zD G.yba wQ (az (JW 2 rfl G.ya5).de aQ)).de) (λC d g n l=>by exact nH) (λC d g n l=>by exact(zY 1 i.units (aq 0))))))))))
theorem Ek:bE ["_law_some","_law_most","_law_at","_law_parts_here"] ["_law_some","_law_most"] (aL vY):=by ac_nf
theorem RM(G:cn K c b a)(m:Nat):cD (bP P w) P w K c b "_law_can" (2+m) ["_law_some","_law_most"] (bh K (kL a m)):=by
 induction m with
 |zero=>exact cU (k:=1) (pin:=[]) G.yaC Ek rfl (λ_ _ _ _ _ _ j l=>Pu.R_ (λ_ _=>rfl) j l) (λf q A d s H E g=>Bc)
 |succ m o=>exact cU (k:=2+m) (pin:=[]) G.yaC Ek rfl (λ_ _ _ _ _ _ j l=>Pu.R_ (λ_ _=>rfl) j l) (λf q A d s H E g=>by exact
  (a5 (eB (cP (gE g.units) gz (bL dJ dP G.ya4 dH (az (aq 0) aQ)) aV rfl) (a9 (cE j3)) et)
  (a5 (eB (cP (gE g.units) gz (aq 1) aV rfl) (a9 (cE j3)) et)
  (a5 (jV (mw 2 kg rfl Ek.nd (oS G.ya8 (az (bL dJ dP G.ya4 dH (az (fY gd gf (aq 0) aV) aQ)) aQ)) (a5 (c0 3 Ek.nd ((bG (QT G) (g.mono ∅) c9 (aO (aq 0) (aO (aq 2) bw)))).de)
  (a9 (eB ((Ef (cP qA gC (bL dJ dP G.ya4 dH (az (aq 3) aQ)) aV rfl) (Cv (cP (gE g.units) gz (iT (cap:=[1]) (N':=["_law_part","_law_most"]) (jB.of ["_law_some","_law_most","_law_at","_law_parts_here"] (aL vY) rfl rfl (by decide +kernel)) rfl (gF (aq 3)) (λC h i p n=>by exact mF (jz (jm ((bG o (g.mono ∅) c9 (aO (aq 0) (aO (cJ oM oO (aq 1) aV) bw)))).de))) (λC h i p n=>by exact(aq 0))).de (iB aQ) rfl)))).dt (a9 (cE j3)) et)))))
  (a9 (cE j3))))))
theorem P0:bE ["_law_some"] ["_law_some"] (aL wq):=by ac_nf
theorem LX(G:cn K c b a):cD (bP P w) P w K c b "_law_least" 20 ["_law_some"] (bh K (wb a)) :=
 cU (k:=19) (pin:=[]) G.yaI P0 rfl (λ_ _ _ _ _ _ i m=>Pu.Sq (λ_=>rfl) i m) (λf o A h s H E l=>by exact
  (a9 (cE (fY gd gf (iT (cap:=[0]) (N':=["_law_most","_law_some"]) (jB.of ["_law_some"] (aL wq) rfl rfl (by decide +kernel)) rfl (oS G.ya8 (az (bL dJ dP G.ya4 dH (az (aq 0) aQ)) aQ)) (λC d g n j=>by exact mF (jm ((bG (RM G 17) (l.mono (by decide)) c9 (aO (aq 1) (aO (aq 0) bw)))).de)) (λC d g n j=>by exact(aq 0))).de aV))))
theorem QB:bE ["thing"] ["thing"] (aL Bt):=by ac_nf
theorem Lx(G:cn K c b a):cD (bP P w) P w K c b "is_width" 2 ["thing"] (bh K (rA a)) :=
 cU (k:=1) (pin:=[]) G.yay QB rfl (λ_ _ _ _ _ _ g i=>Pu.Sq (λ_=>rfl) g i) (λf j A d s H E h=>by exact
  (a9 (cE (qV ((bG (C1 G) (h.mono (by decide)) cT (aO (aq 0) bw))).de (sJ (Q4 nD nD gC gC aV (aq 0) (A0 G.ybt)))))))
theorem Pw:bE ["thing","width","signs"] ["thing","width","signs"] (aL wB):=by ac_nf
theorem Ml(G:cn K c b a):cD (bP P w) P w K c b "are_windows" 3 ["thing","width","signs"] (bh K (nV a)) :=
 cU (k:=2) (pin:=[]) G.yap Pw rfl (λ_ _ _ _ _ _ j m=>Pu.Sm (λ_ _ _=>rfl) j m) (λf o A h s H E i=>by exact
  (a5 (eB ((nG (jz (jm (bL l9 mC G.ya3 gA (az (aq 0) (az (mf G.ybc qw) aQ))))) (qb (jz (zv nD nD gC gC aV (bL dJ dP G.ya4 dH (az (aq 0) aQ)) (A0 G.ybs)))))).dt (a9 (cE j3)) et)
  (a5 (eB (jz (jm (bL (A1 rfl) Bw G.yaZ Bp (az (iT (cap:=[1,2]) (N':=["window","width","signs"]) (jB.of ["thing","width","signs"] (aL wB) rfl rfl (by decide +kernel)) rfl (gF (aq 0)) (λC d g n l=>by exact nH) (λC d g n l=>by exact((bG (DZ G) (i.mono (by decide)) c9 (aO (aq 0) (aO (aq 1) (aO (aq 2) bw))))).de)).de aQ)))) (a9 (cE j3)) et)
  (a9 (cE (re (gE i.units) gz (Es Bo Ao G.ya5 zE (az (aq 0) aQ)).de (zu za zD G.yba wQ (az (aq 0) aQ)).de rfl))))))
theorem HD:bE ["thing","signs"] ["thing","signs"] (aL AN):=by ac_nf
theorem Jr(G:cn K c b a):cD (bP P w) P w K c b "is_view_with" 4 ["thing","signs"] (bh K (qH a)) :=
 cU (k:=3) (pin:=[]) G.yaw HD rfl (λ_ _ _ _ _ _ h i=>Pu.R_ (λ_ _=>rfl) h i) (λf j A d s H E g=>by exact
  (a5 (eB ((nG (jz (jm (bL l9 mC G.ya3 gA (az (aq 0) (az (mf G.ybc qw) aQ))))) (qb (cP (me g.units) mK (bL dJ dP G.ya4 dH (az (aq 0) aQ)) aV rfl)))).dt (a9 (cE j3)) et)
  (a9 (cE (qV ((bG (Lx G) (g.mono (by decide)) cT (aO (fY gd gf (aq 0) aV) bw))).de (sJ ((bG (Ml G) (g.mono (by decide)) cT (aO (fY gd gf (aq 0) aV) (aO (fY gd gf (aq 0) aV) (aO (aq 1) bw))))).de))))))
theorem IE:bE ["thing"] ["thing"] (aL As):=by ac_nf
theorem Pq(G:cn K c b a):cD (bP P w) P w K c b "is_view" 5 ["thing"] (bh K (w_ a)) :=
 cU (k:=4) (pin:=[]) G.yav IE rfl (λ_ _ _ _ _ _ g i=>Pu.Sq (λ_=>rfl) g i) (λf j A d s H E h=>by exact
  (a9 (vX (bG (Jr G) (h.mono (by decide)) cT (aO (aq 0) (aO (xM G.ybq) bw))))))
theorem Ru:bE ["thing"] ["thing"] (aL Bu):=by ac_nf
theorem P4(G:cn K c b a):cD (bP P w) P w K c b "check_view" 6 ["thing"] (bh K (wC a)) :=
 cU (k:=5) (pin:=[]) G.yas Ru rfl (λ_ _ _ _ _ _ g i=>Pu.Sq (λ_=>rfl) g i) (λf j A d s H E h=>by exact
  (a9 (eB (jz (jm ((bG (Pq G) (h.mono (by decide)) cT (aO (aq 0) bw))).de)) (a9 (o6 oP rfl G.ybj se (c7 [97,32,118,105,101,119,32,105,115,32,97,32,116,117,112,108,101,32,111,102,32,97,32,119,105,100,116,104,32,97,110,100,32,97,32,114,105,115,105,110,103,32,116,117,112,108,101,32,111,102,32,49,32,116,111,32,57,32,119,105,110,100,111,119,115]))) et)))
theorem CY:bE ["text","width","left","found","head","letter","window"] ["text","width","left","found"] (aL zT):=by ac_nf
theorem MN(G:cn K c b a)(m:Nat):cD (bP P w) P w K c b "add_endings" (1+m) ["text","width","left","found"] (bh K (n8 a m)):=by
 induction m with
 |zero=>exact cU (k:=0) (pin:=[2,3]) G.yan CY rfl (λ_ _ _ _ _ _ h i=>Pu.SE (λ_ _ _ _=>rfl) h i) (λf l A d s H E g=>Bc)
 |succ m j=>exact cU (k:=1+m) (pin:=[2,3]) G.yan CY rfl (λ_ _ _ _ _ _ h i=>Pu.SE (λ_ _ _ _=>rfl) h i) (λf l A d s H E g=>by exact
  (a5 (eB (jz (jm (NH 2 rfl G.ya0))) (a5 (EQ 3 (aq 0))
  (a9 QN)) et)
  (a5 (c0 4 CY.nd (mR mX mU (aq 0) (km (cJ fH fA (cJ oM oO (bL dJ dP G.ya4 dH (az (aq 0) aQ)) (aq 1)) aV)) o0))
  (a9 (jV (mw 5 kg rfl CY.nd (gF (xM G.ybq)) (a5 (c0 6 CY.nd (cJ fH fA (aq 4) (aq 5)))
  (a9 (eB (cP qA gC (Fp 2 g.units (aq 6) aV) aV rfl) (a5 (Bi 2 g.units (aq 6) (cJ oM oO (zY 2 g.units (aq 6)) aV))
  (a5 (sK (bG j (g.mono ∅) c9 (aO (cJ fH fA (aq 0) (aq 5)) (aO (aq 1) (fO 2 (fO 3 bw))))))
  (a9 (Bi 2 g.units (aq 6) (cJ fH fA (zY 2 g.units (aq 6)) aV))))) et)))))))))
theorem Iq:bE ["windows","counts","window"] ["windows"] (aL zx):=by ac_nf
theorem J3(G:cn K c b a):cD (bP P w) P w K c b "counted" 1 ["windows"] (bh K (ut a)) :=
 cU (k:=0) (pin:=[]) G.yat Iq rfl (λ_ _ _ _ _ _ h i=>Pu.Sq (λ_=>rfl) h i) (λf j A d s H E g=>by exact
  (a5 (qT 1 Iq.nd (Ju))
  (a5 (jV (mw 2 kg rfl Iq.nd (gF (aq 0)) (a9 (Bi 1 g.units (aq 2) (cJ fH fA (Fp 1 g.units (aq 2) aV) aV)))))
  (a9 (Fa 1)))))
theorem Rz:bE ["view","width","found","head"] ["view"] (aL xS):=by ac_nf
theorem Iu(G:cn K c b a):cD (bP P w) P w K c b "texts" 14 ["view"] (bh K (xA a)) :=
 cU (k:=13) (pin:=[]) G.yaV Rz rfl (λ_ _ _ _ _ _ j m=>Pu.Sq (λ_=>rfl) j m) (λf o A h s H E i=>by exact
  (a5 (sK (bG (P4 G) (i.mono (by decide)) cT (aO (aq 0) bw)))
  (a5 (c0 1 Rz.nd (fY gd gf (aq 0) aV))
  (a5 (qT 2 Rz.nd (qr aQ))
  (a5 (jV (mw 3 kg rfl Rz.nd (gF (MF rfl (az (iT (cap:=[]) (N':=["window"]) (jB.of ["view","width","found","head"] (aL xS) rfl rfl (by decide +kernel)) rfl (gF (fY gd gf (aq 0) aV)) (λC d g n l=>by exact nH) (λC d g n l=>by exact(mR mX mU (aq 0) o0 (km (qI qu rk aV))))).de aQ) G.yba G.ya9).de) (a9 (sK (Fx (MN G 12) (i.mono (by decide)) c9 (y8 (aq 3) (y8 (aq 1) (DC (((bG (J3 G) (i.mono (by decide)) c9 (aO (fY gd gf (aq 0) aV) bw))).dn) (fO 2 bw)))))))))
  (a9 (Fa 2)))))))
def E1(a:Ad):ae->R aH:=aB (aT 2 (aA (ay (xA a) (gV (dV 1) (bq)))))
 (aB (a6 (dB (d2 (eqT aj) (dL aP (am (dV 2) (ar))) (dC (.int 0)))) (iW (.ref a.Never) (λd=>bn ((dC (.str [110,111,32,116,101,120,116,32,104,97,115,32,116,104,105,115,32,118,105,101,119])) d))) (bF))
 (aB (a6 (dB (d2 (bI λi j=>decide (j<i)) (dL aP (am (dV 2) (ar))) (dC (.int 16)))) (iW (.ref a.Full) (λd=>bn ((dC (.str [97,32,115,101,101,107,101,114,32,116,97,107,101,115,32,97,32,118,105,101,119,32,116,104,97,116,32,117,112,32,116,111,32,49,54,32,116,101,120,116,115,32,104,97,118,101])) d))) (bF))
 (aB (zH a.Seeker 0 "having" (dL j5 (am (dV 2) (ar))))
 (wz a.Seeker 0 "answers" (dL bZ (ar))))))
def ma(a:Ad):ae->R Slot:=bf 2 [0] (aY 1 (E1 a))
theorem Km:bE ["self","view","having"] ["self","view"] (aL AB):=by ac_nf
theorem Eu(G:cn K c b a):Bv (bP P w) P w K c b a.Seeker 15 ["self","view"] (bh K (ma a)) :=
 Lb (k:=14) (pin:=[0]) G.yaX Km rfl (λ_ _ _ _ _ _ h i=>Pu.R_ (λ_ _=>rfl) h i) (λf j A d s H E g=>by exact
  (a5 (c0 2 Km.nd ((bG (Iu G) (g.mono (by decide)) cT (aO (aq 1) bw))).de)
  (a5 (eB (cP (gE g.units) gz (bL dJ dP G.ya4 dH (az (aq 2) aQ)) aV rfl) (a9 (o6 oP rfl G.ybg se (c7 [110,111,32,116,101,120,116,32,104,97,115,32,116,104,105,115,32,118,105,101,119]))) et)
  (a5 (eB (cP qA gC (bL dJ dP G.ya4 dH (az (aq 2) aQ)) (A0 G.ybr) rfl) (a9 (o6 oP rfl G.ybf se (c7 [97,32,115,101,101,107,101,114,32,116,97,107,101,115,32,97,32,118,105,101,119,32,116,104,97,116,32,117,112,32,116,111,32,49,54,32,116,101,120,116,115,32,104,97,118,101]))) et)
  (a5 (Nh 0 G.k_Seeker G.ybe (xT xC xI G.ybc qw (az (aq 2) aQ)))
  (a9 (Pg 0 G.k_Seeker G.ybd (qr aQ))))))))
def kH(a:Ad):ae->R Slot:=qF 1 (kn (λxs=>xl (kE xs)) a.Seeker "answers" 0)
theorem O9:bE ["self"] ["self"] (aL zF):=by ac_nf
theorem Aa(G:cn K c b a):kA (bP P w) P w K c b a.Seeker "heard" 1 ["self"] (bh K (kH a)) :=
 HW (k:=0) G.ybm O9 rfl (λ_ _ _ _ _ _ g h=>Pu.Sq (λ_=>rfl) g h) rfl (λf j A d s H E i=>by exact
  (PB 0 G.k_Seeker G.ybd Bo Ao G.ya5 zE))
theorem QY:bE ["left","place"] ["left","place"] (aL xy):=by ac_nf
theorem Fj(G:cn K c b a):cD (bP P w) P w K c b "answers_to" 2 ["left","place"] (bh K (kJ a)) :=
 cU (k:=1) (pin:=[]) G.yao QY rfl (λ_ _ _ _ _ _ i m=>Pu.R_ (λ_ _=>rfl) i m) (λf o A h s H E l=>by exact
  (a9 (wK (iT (cap:=[0,1]) (N':=["letter","left","place"]) (jB.of ["left","place"] (aL xy) rfl rfl (by decide +kernel)) rfl (gF (xM G.ybq)) (λC d g n j=>by exact mF (cP qA gC (bL dJ dP G.ya4 dH (az ((bG (wm G) (l.mono (by decide)) c9 (aO (aq 1) (aO (aq 2) (aO (aq 0) bw))))).de aQ)) aV rfl)) (λC d g n j=>by exact(aq 0))))))
theorem M4:bE ["place","left","known","parts"] ["place","left","known"] (aL sR):=by ac_nf
theorem Nq(G:cn K c b a){m:Nat}{n:ae->R Slot}(r:2<=m)(p:cD (bP P w) P w K c b "needed_for" m ["left","known"] (bh K n)):cD (bP P w) P w K c b "needed_by" (m+1) ["place","left","known"] (bh K (oK a n)) :=
 cU (k:=m) (pin:=[2]) G.yaS M4 rfl (λ_ _ _ _ _ _ o q=>Pu.Sm (λ_ _ _=>rfl) o q) (λf u A i s H E j=>by exact
  (a5 (Cw 3 M4.nd (cap:=[1,0]) (N':=["letter","left","place"]) (jB.of ["place","left","known","parts"] (aL sR) rfl rfl (by decide +kernel)) rfl (gF ((bG (Fj G) (j.mono ∅) cT (aO (aq 1) (aO (aq 0) bw)))).de) (λC d g l h=>by exact nH) (λC d g l h=>by exact((bG (wm G) (j.mono ∅) c9 (aO (aq 1) (aO (aq 2) (aO (aq 0) bw))))).de))
  (a9 (cE (cJ fH fA aV (bL (Kh rfl) IS G.ya6 Ec (az (iT (cap:=[2]) (N':=["part","known"]) (jB.of ["place","left","known","parts"] (aL sR) rfl rfl (by decide +kernel)) rfl (gF (aq 3)) (λC d g l h=>by exact nH) (λC d g l h=>by exact((bG p (j.mono ∅) c9 (aO (aq 0) (fO 1 bw)))).de)).de aQ)))))))
theorem Ie:bE ["left"] ["left"] (aL v5):=by ac_nf
theorem QP(G:cn K c b a):cD (bP P w) P w K c b "places_to_ask" 3 ["left"] (bh K (nP a)) :=
 cU (k:=2) (pin:=[]) G.yaU Ie rfl (λ_ _ _ _ _ _ i m=>Pu.Sq (λ_=>rfl) i m) (λf o A h s H E l=>by exact
  (a9 (wK (iT (cap:=[0]) (N':=["place","left"]) (jB.of ["left"] (aL v5) rfl rfl (by decide +kernel)) rfl (oS G.ya8 (az (bL dJ dP G.ya4 dH (az (fY gd gf (aq 0) aV) aQ)) aQ)) (λC d g n j=>by exact mF (cP qA gC (bL dJ dP G.ya4 dH (az ((bG (Fj G) (l.mono (by decide)) c9 (aO (aq 1) (aO (aq 0) bw)))).de aQ)) aV rfl)) (λC d g n j=>by exact(aq 0))))))
theorem CO:bE ["left","known"] ["left","known"] (aL wG):=by ac_nf
theorem JK(G:cn K c b a)(m:Nat):cD (bP P w) P w K c b "needed_for" (4+2*m) ["left","known"] (bh K (jg a m)):=by
 induction m with
 |zero=>exact cU (k:=3) (pin:=[1]) G.yaT CO rfl (λ_ _ _ _ _ _ j l=>Pu.R_ (λ_ _=>rfl) j l) (λf q A d s H E g=>Bc)
 |succ m o=>exact cU (k:=4+2*m+1) (pin:=[1]) G.yaT CO rfl (λ_ _ _ _ _ _ j l=>Pu.R_ (λ_ _=>rfl) j l) (λf q A d s H E g=>by exact
  (a5 (eB (cP (gE g.units) gz (bL dJ dP G.ya4 dH (az (aq 0) aQ)) aV rfl) (a9 (cE aV)) et)
  (a5 (eB (Rv 1 g.units (aq 0)) (a9 (RB 1 g.units (aq 0) (bL (HL rfl) HG G.ya7 Hr (az (iT (cap:=[0,1]) (N':=["place","left","known"]) (jB.of ["left","known"] (aL wG) rfl rfl (by decide +kernel)) rfl (gF ((bG (QP G) (g.mono ∅) cT (aO (aq 0) bw))).de) (λC h i p n=>by exact nH) (λC h i p n=>by exact((bG (Nq G ∅ o) (g.mono ∅) c9 (aO (aq 0) (aO (aq 1) (fO 2 bw))))).de)).de aQ)))) et)
  (a9 (cE (MH 1 g.units (aq 0)))))))
def Di(a:Ad):ae->R aH:=oQ (l7 (jg a 17) (mD (dL j5 (am (aA (cY a.Seeker "left" 0 (iA a))) (ar))) (gN (xw) (bq))))
def rq(a:Ad):ae->R Slot:=fG 1 [0] (aY 0 (Di a))
theorem Ow:bE ["self"] ["self"] (aL AV):=by ac_nf
theorem KR(G:cn K c b a):kA (bP P w) P w K c b a.Seeker "needed" 39 ["self"] (bh K (rq a)) :=
 Ag (k:=38) (pin:=[0]) G.ybo Ow rfl (λ_ _ _ _ _ _ h i=>Pu.Sq (λ_=>rfl) h i) (λf j A d s H E g=>by exact
  (a9 (vX (Fx (JK G 17) (g.mono (by decide)) cT (y8 (xT xC xI G.ybc qw (az ((mV 0 G.k_Seeker (uj G) (g.mono (by decide)) cT)).de aQ)) (DC (KC) bw))))))
def yaA(a:Ad):ae->R aH:=aB (jF 1 (dL bZ (ar)))
 (aB (kF 2 3 (aA (ay (tt a) (gV (dV 0) (gO 1 (bq))))))
 (aB (tZ 4 5 (nQ a.Seeker (ma a) (gV (dV 2) (bq))) (nQ a.Seeker (ma a) (gV (dV 2) (bq))))
 (aB (aT 6 (dF (dL bZ (ar))))
 (aB (aT 7 (aA (ay (iy a) (gV (dV 0) (gO 1 (gV (dV 3) (bq)))))))
 (aB (λd=>cm (dD 8 (dL f_ (am (aA (ay (ig a) (gV (dV 0) (gO 1 (gV (dC (.int 15)) (bq)))))) (ar))) (aB (aT 9 (aA (ay (ig a) (gV (dV 0) (gO 1 (gV (dL aP (am (dV 7) (ar))) (bq)))))))
 (aB (aT 10 (d2 bv (dV 7) (dV 9)))
 (aB (aT 11 (aA (ay (ig a) (gV (dV 0) (gO 1 (gV (dC (.int 8)) (bq)))))))
 (aB (aT 9 (a6 (dB (d2 (bI λi j=>decide (i<j)) (dV 11) (dC (.int 2)))) (dC (.str [117,110,100,111])) (a6 (dB (d2 (eqT aj) (dV 11) (dC (.int 2)))) (aA (ay (iy a) (gV (dV 0) (gO 1 (gV (dF (dL bZ (am (d1 fQ (dC (.int 1))) (am (dL aP (am (dV 7) (ar))) (am (dC .non) (am (dC (.bl ah)) (am (dC (.str [48])) (ar)))))))) (bq)))))) (dV 9))))
 (aB (aT 10 (a6 (dB (d2 (eqT aj) (dV 11) (dC (.int 3)))) (aA (ay (iy a) (gV (dV 0) (gO 1 (gV (dF (dL bZ (am (dC (.str [97])) (am (dC (.str [98])) (am (dC (.str [99])) (am (dC (.str [100])) (am (dC (.str [])) (am (dC (.str [97,98])) (am (dC .non) (ar)))))))))) (bq)))))) (dV 10)))
 (aB (aT 12 (aA (ay (jP a) (gV (dV 3) (gV (dV 6) (gV (dV 9) (gV (dV 10) (bq))))))))
 (aB (a6 (dB (d2 (eqT ah) (aA (ay (jA a) (gO 4 (gV (dV 9) (gV (dV 10) (bq)))))) (dV 12))) (a8 (dC (.bl aj))) (bF))
 (aB (a6 (iH (dB (d2 (eqT aj) (dV 9) (dC (.str [117,110,100,111])))) (dB (d2 (eqT ah) (dV 6) (dF (dL bZ (ar)))))) (aT 6 (c5 cx (dV 6) (eL) (cI (d1 fQ (dC (.int 1)))))) (bF))
 (aB (a6 (dB (dL eE (am (dV 12) (am (dC (.raw (.ty "int"))) (ar))))) (aT 6 (d2 bj (dV 6) (dF (dL bZ (am (dL cy (am (dV 9) (am (dV 10) (ar)))) (ar)))))) (bF))
 (aB (lF (cY a.Seeker "heard" 4 (kH a)) (dC (.int 1)))
 (aB (lF (cY a.Seeker "left" 4 (iA a)) (dC (.int 1)))
 (aB (aT 13 (aA (ay (oU a) (gV (dV 3) (gV (dV 6) (bq))))))
 (a6 (fX (dB (d2 (eqT ah) (aA (cY a.Seeker "left" 4 (iA a))) (dV 13))) (fX (dB (d2 (eqT ah) (aA (cY a.Seeker "heard" 4 (kH a))) (dV 6))) (dB (d2 (eqT ah) (aA (cY a.Seeker "needed" 4 (rq a))) (aA (ay (wb a) (gV (dV 13) (bq)))))))) (a8 (dC (.bl aj))) (bF)))))))))))))) d))
 (a8 (l_ (d2 (eqT aj) (aA (cY a.Seeker "left" 5 (iA a))) (dV 3)) (d2 (eqT aj) (aA (cY a.Seeker "heard" 5 (kH a))) (dF (dL bZ (ar)))))))))))
def sS(a:Ad):ae->R Slot:=bf 1 [] (aY 13 (yaA a))
theorem NF:bE ["_law_script","_law_town","_law_asked","_law_lines","_law_seeker","_law_second","_law_row","_law_meant","_law_k","_law_place","_law_letter","_law_way","_law_due_here","_law_rest"] ["_law_script"] (aL vR):=by ac_nf
theorem Ni(G:cn K c b a){f:ac}{h:gG}(l:lG K "law" "law" vR f h):g7 P w K c b (bP P w) 40 f h ["_law_script"] (bh K (sS a)) :=
 Ee (k:=39) (pin:=[]) l NF rfl (λ_ _ _ _ _ _ i j=>Pu.Sq (λ_=>rfl) i j) (λf m A g s H E d=>by exact
  (a5 (qT 1 NF.nd (qr aQ))
  (a5 (Bj 2 3 rfl NF.nd ((bG (My G) (d.mono (by decide)) cT (aO (aq 0) (fO 1 bw)))).de)
  (a5 (Nm 4 5 rfl NF.nd (Df (Eu G) (d.mono (by decide)) cT G.yak (aO (aq 2) bw)) (Df (Eu G) (d.mono (by decide)) cT G.yak (aO (aq 2) bw)))
  (a5 (c0 6 NF.nd (iB aQ))
  (a5 (c0 7 NF.nd ((bG (rG G) (d.mono (by decide)) cT (aO (aq 0) (fO 1 (aO (aq 3) bw))))).de)
  (a5 (jV (mw 8 kg rfl NF.nd (oS G.ya8 (az ((bG (oJ G) (d.mono (by decide)) c9 (aO (aq 0) (fO 1 (aO aV bw))))).de aQ)) (a5 (c0 9 NF.nd ((bG (oJ G) (d.mono (by decide)) c9 (aO (aq 0) (fO 1 (aO (bL dJ dP G.ya4 dH (az (aq 7) aQ)) bw))))).de)
  (a5 (c0 10 NF.nd (fY gd gf (aq 7) (aq 9)))
  (a5 (c0 11 NF.nd ((bG (oJ G) (d.mono (by decide)) c9 (aO (aq 0) (fO 1 (aO aV bw))))).de)
  (a5 (c0 9 NF.nd (qK (cP qZ gC (aq 11) aV rfl) (c7 [117,110,100,111]) (qK (cP (gE d.units) gz (aq 11) aV rfl) ((bG (rG G) (d.mono (by decide)) c9 (aO (aq 0) (fO 1 (aO (iB (az (qI qu rk aV) (az (bL dJ dP G.ya4 dH (az (aq 7) aQ)) (az Cu (az j3 (az (c7 [48]) aQ)))))) bw))))).de (aq 9))))
  (a5 (c0 10 NF.nd (qK (cP (gE d.units) gz (aq 11) aV rfl) ((bG (rG G) (d.mono (by decide)) c9 (aO (aq 0) (fO 1 (aO (iB (az (c7 [97]) (az (c7 [98]) (az (c7 [99]) (az (c7 [100]) (az (c7 []) (az (c7 [97,98]) (az Cu aQ)))))))) bw))))).de (aq 10)))
  (a5 (c0 12 NF.nd ((bG (QQ G) (d.mono (by decide)) c9 (aO (aq 3) (aO (aq 6) (aO (aq 9) (aO (aq 10) bw)))))).de)
  (a5 (eB (cP (me d.units) mK ((bG (M5 G) (d.mono (by decide)) c9 (fO 4 (aO (aq 9) (aO (aq 10) bw))))).de (aq 12) rfl) (a9 (cE j3)) et)
  (a5 (eB ((Ef (cP (gE d.units) gz (aq 9) (c7 [117,110,100,111]) rfl) (Cv (cP (me d.units) mK (aq 6) (iB aQ) rfl)))).dt (a9 (c0 6 NF.nd (mR mX mU (aq 6) o0 (km (qI qu rk aV))))) et)
  (a5 (eB (jm (bL l9 mC G.ya3 gA (az (aq 12) (az (mf G.ya2 Av) aQ)))) (a9 (c0 6 NF.nd (cJ fH fA (aq 6) (iB (az (iJ (az (aq 9) (az (aq 10) aQ))) aQ))))) et)
  (a5 (Ge (mV 4 G.k_Seeker (Aa G) (d.mono (by decide)) c9) aV)
  (a5 (Ge (mV 4 G.k_Seeker (uj G) (d.mono (by decide)) c9) aV)
  (a5 (c0 13 NF.nd ((bG (Dj G) (d.mono (by decide)) c9 (aO (aq 3) (aO (aq 6) bw)))).de)
  (a9 (eB ((nG (cP (me d.units) mK ((mV 4 G.k_Seeker (uj G) (d.mono (by decide)) c9)).de (aq 13) rfl) (nG (cP (me d.units) mK ((mV 4 G.k_Seeker (Aa G) (d.mono (by decide)) c9)).de (aq 6) rfl) (qb (cP (me d.units) mK ((mV 4 G.k_Seeker (KR G) (d.mono (by decide)) c9)).de ((bG (LX G) (d.mono (by decide)) c9 (aO (aq 13) bw))).de rfl))))).dt (a9 (cE j3)) et))))))))))))))))
  (a9 (cE (qV (re (gE d.units) gz ((mV 5 G.k_Seeker (uj G) (d.mono (by decide)) cT)).de (aq 3) rfl) (sJ (re (gE d.units) gz ((mV 5 G.k_Seeker (Aa G) (d.mono (by decide)) cT)).de (iB aQ) rfl))))))))))))
end
end K33
namespace Mx
open L2 Pu
def bu:Tx:=[97,98,99]
def dR:Nat->List Tx
 |0=>[[]]
 |k+1=>bu.flatMap λc=>(dR k).map (c::·)
theorem mI:∀(k:Nat) (x:Tx),x∈dR k↔x.length=k/\∀c∈x,c∈bu
 |0,x=>by
  simp only[dR,gX];constructor
  .rintro rfl;simp
  .rintro⟨h,_⟩;exact G0.mp h
 |k+1,x=>by
  simp only[dR,List.mem_flatMap,b0];constructor
  .rintro⟨c,i,y,g,rfl⟩;obtain⟨f,b⟩:=(mI k y).mp g;refine⟨by simp[f],λd a=>?_⟩;rcases b8.mp a with rfl|a
   .exact i
   .exact b d a
  .rintro⟨f,b⟩;cases x with
   |nil=>cases f
   |cons c y=>exact⟨c,b c (by simp),y,(mI k y).mpr ⟨yA f,λd a=>b d (by simp[a])⟩,rfl⟩
theorem Ba:∀k:Nat,(dR k).length=3^k
 |0=>rfl
 |k+1=>by simp only[dR,bu,sh,G1,eZ,bS,Ba k,lQ,Nat.pow_succ];lia
theorem EF(i j:Nat):dR (i+j)=(dR i).flatMap λh=>(dR j).map (h++·):=by
 induction i with
 |zero=>simp[dR]
 |succ i a=>rw[show i+1+j=(i+j)+1 by lia];simp only[dR,a,List.flatMap_assoc,List.map_flatMap,List.flatMap_map,fc,Function.comp_def,List.cons_append]
theorem Iw(k:Nat):dR (k+1)=(dR k).flatMap λh=>bu.map λc=>h++[c]:=by rw[EF k 1];congr 1
theorem AW:∀k:Nat,(dR k).Pairwise (λa b=>a<b)
 |0=>by simp[dR]
 |k+1=>by
  simp only[dR];rw[List.pairwise_flatMap];refine⟨λc _=>?_,?_⟩
  .rw[GT];exact(AW k).imp λh=>List.cons_lt_cons_iff.mpr (.inr ⟨rfl,h⟩)
  .have:bu.Pairwise (λa b=>a<b):=by decide
   refine this.imp λh=>?_;intro x f y d;obtain⟨i,_,rfl⟩:=b0.mp f;obtain⟨g,_,rfl⟩:=b0.mp d;exact List.cons_lt_cons_iff.mpr (.inl h)
theorem HC{a b:Tx}(h:a<b):dz a b=ah:=by simp only[dz,decide_eq_true_eq];exact List.le_of_lt h
theorem Io(k:Nat):(dR k).Pairwise (λa b=>dz a b=ah):=(AW k).imp HC
theorem EC(k:Nat):(dR k).Nodup:=(AW k).imp λh z=>by subst z;exact List.lt_irrefl _ h
def bM(z:Tx)(w:Nat):List Tx:=((bX z.length).filter λi=>decide (i+w<=z.length)).map λi=>(z.drop i).take w
theorem EU(w L:Nat):∀m:Nat,(bX m).filter (λi=>decide (i+w<=L))=bX (min m (L+1-w))
 |0=>by simp
 |m+1=>by
  rw[uQ,G2,EU w L m];by_cases h:m+w<=L
  .rw[show min m (L+1-w)=m by lia,show min (m+1) (L+1-w)=m+1 by lia,uQ];simp[h]
  .rw[show min (m+1) (L+1-w)=min m (L+1-w) by lia];simp[h]
theorem xq(z:Tx)(w:Nat)(a:1<=w):bM z w=(bX (z.length+1-w)).map λi=>(z.drop i).take w:=by unfold bM;rw[EU,show min z.length (z.length+1-w)=z.length+1-w by lia]
def nw(w:Nat)(t:Tx):Tx->List Tx
 |[]=>[]
 |c::s=>(t.drop (t.length+1-w)++[c])::nw w (t++[c]) s
theorem FM(w:Nat)(b:1<=w):∀(s t:Tx),w<=t.length+1->nw w t s=(bX s.length).map λi=>((t++s).drop (t.length+1-w+i)).take w
 |[],t,_=>by simp[nw]
 |c::s,t,h=>by
  rw[nw,FM w b s (t++[c]) (by simp;lia),fL,BS,eY,fc];congr 1
  .show _=((t++c::s).drop (t.length+1-w)).take w;rw[GQ ∅,List.take_append];have a:(t.drop (t.length+1-w)).length=w-1:=by rw[pJ];lia
   rw[a,pN (by rw[a];lia),show w-(w-1)=1 by lia];rfl
  .refine lR λi _=>?_;simp only[ou];rw[eZ,pM,show t.length+1+1-w+i=t.length+1-w+Nat.succ i by lia];simp
theorem C6{w:Nat}(a:1<=w){h s:Tx}(b:h.length=w-1):bM (h++s) w=nw w h s:=by rw[xq _ _ a,FM w a s h ∅,eZ,show h.length+s.length+1-w=s.length by lia];refine lR λi _=>?_;rw[show h.length+1-w+i=i by lia]
theorem PX{w:Nat}(a:1<=w)(t:Tx)(c:Nat):bM (t++[c]) w=bM t w++(if w<=t.length+1 then [((t++[c]).drop (t.length+1-w)).take w] else []):=by
 rw[xq _ _ a,xq _ _ a,eZ,pM];by_cases h:w<=t.length+1
 .rw[if_pos h,show t.length+1+1-w=(t.length+1-w)+1 by lia,uQ,oq];congr 1;refine lR λi b=>?_;have b:i<t.length+1-w:=by simpa using b
  rw[GQ ∅,List.take_append_of_le_length (by rw[pJ];lia)]
 .rw[if_neg h,show t.length+1+1-w=0 by lia,show t.length+1-w=0 by lia];simp
theorem Sj{z:Tx}{w:Nat}{x:Tx}(a:x∈bM z w):x.length=w/\∀c∈x,c∈z:=by simp only[bM,b0,gU,mY,decide_eq_true_eq]at a;obtain⟨i,⟨_,h⟩,rfl⟩:=a;exact⟨by rw[rQ,pJ];lia,λc b=>G3 (yB b)⟩
def iz(w:Nat):Nat->Tx->List Tx->List Tx
 |0,t,_=>[t]
 |r+1,t,q=>bu.flatMap λc=>if t.drop (t.length+1-w)++[c]∈q then iz w r (t++[c]) (q.erase (t.drop (t.length+1-w)++[c]))else []
theorem CA(w:Nat):∀(r:Nat) (t:Tx) (q:List Tx),q.length=r->iz w r t q=((dR r).filter λs=>(nw w t s).isPerm q).map (t++·)
 |0,t,q,hq=>by have:q=[]:=G0.mp hq;subst this;simp[iz,dR,nw,List.isPerm]
 |r+1,t,q,hq=>by
  simp only[iz,dR,G4,List.map_flatMap];congr 1;funext c;rw[k9,fc];by_cases h:t.drop (t.length+1-w)++[c]∈q
  .rw[if_pos h,CA w r (t++[c]) _ (by rw[List.length_erase_of_mem h,hq];rfl)];have e:((λs=>(nw w t s).isPerm q) ∘ λx=>c::x)=λs=>(nw w (t++[c]) s).isPerm (q.erase (t.drop (t.length+1-w)++[c])):=by funext s;show(q.contains (t.drop (t.length+1-w)++[c])&&(nw w (t++[c]) s).isPerm (q.erase (t.drop (t.length+1-w)++[c])))=_;rw[List.contains_iff_mem.mpr h,yr]
   rw[e];refine lR λs _=>?_;simp
  .rw[if_neg h];have e:((λs=>(nw w t s).isPerm q) ∘ λx=>c::x)=λ_=>aj:=by
    funext s;show(q.contains (t.drop (t.length+1-w)++[c])&&(nw w (t++[c]) s).isPerm (q.erase (t.drop (t.length+1-w)++[c])))=_;have:q.contains (t.drop (t.length+1-w)++[c])=aj:=by rw[GZ];intro z;exact h (List.contains_iff_mem.mp z)
    rw[this,Bool.false_and]
   rw[e];simp
def cg(w:Nat)(a:List Tx):List Tx:=(bJ (fR (a.map pW))).flatMap λh=>iz w a.length h a
theorem ER{a b:Type}{l:List a}{f:a->List b}(p:a->Bool)(h:∀x∈l,p x=aj->f x=[]):l.flatMap f=(l.filter p).flatMap f:=by
 induction l with
 |nil=>rfl
 |cons x l c=>
  rw[sh,c λy d=>h y (by simp[d]),G5];cases e:p x with
  |true=>simp
  |false=>rw[h x (by simp) e];simp
theorem uc{w:Nat}{a:List Tx}(g:1<=w)(D:1<=a.length)(j:∀x∈a,x.length=w/\∀c∈x,c∈bu):cg w a=(dR (w-1+a.length)).filter λz=>(bM z w).isPerm a:=by
 rw[EF,G4];have B:(λh=>((dR a.length).map (h++·)).filter λz=>(bM z w).isPerm a)=λh=>((dR a.length).filter λs=>(bM (h++s) w).isPerm a).map (h++·):=by funext h;rw[k9];rfl
 rw[B,ER (λh=>decide (h∈a.map pW))]
 .have A:(dR (w-1)).filter (λh=>decide (h∈a.map pW))=bJ (fR (a.map pW)):=by
   refine xr ?_ ((Io (w-1)).filter _);refine(List.perm_ext_iff_of_nodup ((EC (w-1)).filter _) (Q7 _)).mpr λx=>?_;rw[gU,decide_eq_true_eq,tz,mI];refine⟨λh=>h.2,λh=>⟨?_,h⟩⟩;obtain⟨y,d,rfl⟩:=b0.mp h;obtain⟨u,r⟩:=j y d;exact⟨by rw[yh,u],λc q=>r c ((List.dropLast_sublist _).mem q)⟩
  rw[A];unfold cg;have:∀l:List Tx,(∀h∈l,h.length=w-1)->l.flatMap (λh=>iz w a.length h a)=l.flatMap λh=>((dR a.length).filter λs=>(bM (h++s) w).isPerm a).map (h++·):=by
   intro l
   induction l with
   |nil=>intro _;rfl
   |cons h l n=>
    intro b;rw[sh,sh,n λy d=>b y (by simp[d]),CA w _ h a rfl];have v:(λs=>(nw w h s).isPerm a)=λs=>(bM (h++s) w).isPerm a:=by funext s;rw[C6 g (b h (by simp))]
    rw[v]
  refine this _ λh b=>?_;have p:=(tz _ _).mp ((jU _).mem_iff.mp b);obtain⟨y,d,rfl⟩:=b0.mp p;rw[yh,(j y d).1]
 .intro h b i;have C:=((mI _ h).mp b).1;rw[List.map_eq_nil_iff,B_];intro s o f;have m:=((mI _ s).mp o).1;rw[C6 g C,List.isPerm_iff]at f;cases s with
  |nil=>rw[lQ]at m;lia
  |cons c s=>rw[nw,show h.length+1-w=0 by lia,BU]at f;have:h++[c]∈a:=f.mem_iff.mp (by simp);rw[decide_eq_false_iff_not]at i;exact i (b0.mpr ⟨_,this,by simp⟩)
def unD(w:Nat)(a:List Tx)(t:Tx):Bool:=(bM t w).all λx=>decide ((bM t w).count x<=a.count x)
theorem Eg{w:Nat}{a:List Tx}{t:Tx}:unD w a t=ah↔∀x,(bM t w).count x<=a.count x:=by
 unfold unD;rw[iR];constructor
 .intro h x;by_cases b:x∈bM t w
  .simpa using h x b
  .rw[G6 b];lia
 .intro h x _;simpa using h x
theorem Jv{w:Nat}(b:1<=w){a:List Tx}{t:Tx}{c:Nat}(h:unD w a (t++[c])=ah):unD w a t=ah:=by rw[Eg]at h ⊢;intro x;have:=h x;rw[PX b,G7]at this;lia
def rowsOf(w:Nat)(a:List Tx)(k:Nat):List Tx:=(dR k).filter (unD w a)
theorem HP{w:Nat}(b:1<=w)(a:List Tx):rowsOf w a 0=[[]]:=by simp[rowsOf,dR,unD,bM]
theorem Pd{w:Nat}(f:1<=w)(a:List Tx)(k:Nat):rowsOf w a (k+1)=(rowsOf w a k).flatMap λt=>(bu.map λc=>t++[c]).filter (unD w a):=by
 unfold rowsOf;rw[Iw,G4];refine ER _ λt _ b=>?_;rw[B_];intro z d g;obtain⟨c,_,rfl⟩:=b0.mp d;rw[Jv f g]at b;cases b
theorem Q8(w:Nat)(a:List Tx)(k:Nat):(rowsOf w a k).length<=3^k:=by rw[<-Ba k];exact G8 _ _
theorem Jh{w:Nat}{c:List Tx}(d:c.Pairwise (λa b=>dz a b=ah))(L:Nat):(rowsOf w c L).filter (λz=>decide (bJ (bM z w)=c))=(dR L).filter λz=>(bM z w).isPerm c:=by
 unfold rowsOf;rw[List.filter_filter];refine List.filter_congr λz _=>?_;rw[oi,dS,decide_eq_true_eq,List.isPerm_iff];constructor
 .rintro⟨h,_⟩;rw[<-h];exact(jU _).symm
 .intro h;refine⟨by rw[zh h,xu d],?_⟩;rw[Eg];intro x;rw[h.count_eq];exact bB _
end Mx
namespace Sh
open L2 Pu Mx
theorem gP{a:Type}{f:List PV->Option a}{b:ae->R (List PV)}{ε ε1:ae}{xs:List PV}{v:a}(h:b ε=.ok xs ε1)(c:f xs=aa v):dL f b ε=.ok v ε1:=by unfold dL;rw[h];show aC (f xs) ε1=_;rw[c];rfl
theorem cA{d:ae->R PV}{b:ae->R (List PV)}{ε ε1 a:ae}{x:PV}{xs:List PV}(h:d ε=.ok x ε1)(c:b ε1=.ok xs a):am d b ε=.ok (x::xs) a:=by unfold am;rw[h];show(b ε1).bind _=_;rw[c];rfl
theorem gJ{ε:ae}:ar ε=.ok [] ε:=rfl
theorem c4(pv:PV)(ε:ae):dC pv ε=.ok pv ε:=rfl
theorem dI{f:PV->PV->Option PV}{c b:ae->R PV}{ε ε1 a:ae}{x y z:PV}(h:c ε=.ok x ε1)(g:b ε1=.ok y a)(d:f x y=aa z):d2 f c b ε=.ok z a:=by unfold d2;rw[h];show(b ε1).bind _=_;rw[g];show aC (f x y) a=_;rw[d];rfl
section
theorem MQ{a:List Tx}(h:a.length<64):mH [.lst (ak a)]=aa (.lst (ak (bJ a))):=by show(iD (ak a)).bind _=_;rw[qd,gu,if_pos h]
end
section
variable{a:Ad}
abbrev bz(b:List Int):Slot:=.val (.lst (b.map .int))
theorem FX(b:List Int)(k:Int)(d:0<=k)(h:k<b.length):∃v,dr (b.map PV.int) k=aa (.int v):=by
 have c:k.toNat<b.length:=∅
 refine⟨b[k.toNat],?_⟩;rw[Fg d (by rw[bS];exact c)];simp
theorem K5(b:List Int):Pu.eqT aj (.lst (b.map .int)) (.lst [])=aa (.bl b.isEmpty):=by
 cases b with
 |nil=>rfl
 |cons x xs=>
  have d:∀l:List Int,eG (l.map .int)=0:=λl=>by induction l with|nil=>rfl|cons y l c=>simp[eG,gQ,c]
  have:eG ((x::xs).map .int)=0:=d _;simp only[eY]at this;simp[Pu.eqT,c_,cV,eO,gQ,this]
theorem j7(neg:Bool)(i j:Int):Pu.eqT neg (.int i) (.int j)=aa (.bl (neg^^decide (i=j))):=by show(if o8 (V.int i) (V.int j)then aa (PV.bl (neg^^decide (V.int i=V.int j)))else af)=_;have:o8 (V.int i) (V.int j)=ah:=rfl;rw[if_pos this];simp
theorem z8(neg:Bool)(x y:Tx):Pu.eqT neg (.str x) (.str y)=aa (.bl (neg^^decide (x=y))):=by show(if o8 (tV x) (tV y)then aa (PV.bl (neg^^decide (tV x=tV y)))else af)=_;have:o8 (tV x) (tV y)=ah:=rfl;rw[if_pos this];have e:(tV x=tV y)=(x=y):=propext ⟨Lu,λh=>by rw[h]⟩;simp only[e]
theorem Iy(b:List Int)(k:Int)(j:0<=k):∃v,qD a [bz b,⇑k]=.ok (⇑v) [bz b,⇑k]:=by
 by_cases h:k<b.length
 .obtain⟨v,d⟩:=FX b k j h;refine⟨v,?_⟩;simp![qD,yaD,aP,bv,d,h]
 .have e:=K5 b;by_cases f:b=[]
  .subst f;refine⟨0,?_⟩;simp only[List.map_nil,G9]at e;have l:¬k<0:=∅
   simp![qD,yaD,aP,bv,e,l]
  .have g:0<b.length:=by cases b with|nil=>exact absurd rfl f|cons=>simp
   obtain⟨v,d⟩:=FX b (k % b.length) (Int.emod_nonneg _ ∅) (G_ _ ∅);refine⟨v*31+k,?_⟩;have m:b.isEmpty=aj:=by cases b with|nil=>exact absurd rfl f|cons=>rfl
   rw[m]at e;have i:ir (.int k) (.int (b.length:Int))=aa (.int (k % b.length)):=by simp[ir];lia
   have c:kM (.int v) (.int 31)=aa (.int (v*31)):=by simp[kM,ui]
   simp![qD,yaD,aP,bv,h,e,i,d,c,bj]
theorem Nk(b:List Int)(k m:Int)(q:0<=k)(i:0<m):∃v,0<=v/\v<m/\xN a [bz b,⇑k,⇑m]=.ok (⇑v) [bz b,⇑k,⇑m]:=by
 obtain⟨c,p⟩:=Iy (a:=a) b k q;have r:0<=(c*1103515245+7919*k+12345) % 2147483647:=Int.emod_nonneg _ (by decide);have d1:(c*1103515245+7919*k+12345) % 2147483647<2147483647:=G_ _ (by decide);have o:kM (.int c) (.int 1103515245)=aa (.int (c*1103515245)):=by simp[kM,ui]
 have n:kM (.int 7919) (.int k)=aa (.int (7919*k)):=by simp[kM,ui]
 have h:ir (.int (c*1103515245+7919*k+12345)) (.int 2147483647)=aa (.int ((c*1103515245+7919*k+12345) % 2147483647)):=by simp[ir]
 generalize (c*1103515245+7919*k+12345) % 2147483647=d at r d1 h;have l:tq (.int d) (.int 5)=aa (.int (d^5)):=by
  have:d.natAbs<2^64:=∅
  simp[tq,this]
 have g:ir (.int (d^5)) (.int 2147483647)=aa (.int (d^5 % 2147483647)):=by simp[ir]
 generalize d^5 % 2147483647=d5 at g;have f:ir (.int d5) (.int 999983)=aa (.int (d5 % 999983)):=by simp[ir]
 generalize d5 % 999983=d6 at f;have j:ir (.int d6) (.int m)=aa (.int (d6 % m)):=by simp[ir,i]
 refine⟨d6 % m,Int.emod_nonneg _ ∅,G_ _ i,?_⟩;simp![xN,yaL,p,o,n,h,l,g,f,j,bj]
theorem pr(b:List Int)(xs:List PV)(m:Int)(f:0<m)(g:xs.length<=1000):∃v,0<=v/\v<m/\ig a [bz b,.own (.lst xs),⇑m]=.ok (⇑v) [bz b,.own (.lst (xs++[.int 0])),⇑m]:=by
 obtain⟨v,v0,v1,d⟩:=Nk (a:=a) b ((xs.length:Int)+1) m ∅ f;refine⟨v,v0,v1,?_⟩;have c:xs.length<bH:=by unfold bH;lia
 simp![ig,yaF,aP,c,d]
theorem DQ{c:Type}(b:List c)(v:Int)(f:0<=v)(g:v<b.length):∃x∈b,dr b v=aa x:=by
 have d:v.toNat<b.length:=∅
 exact⟨b[v.toNat],uR _,Fg f d⟩
theorem qX(c:List Int)(xs b:List PV)(h:xs.length<=1000)(l:0<b.length):∃x∈b,iy a [bz c,.own (.lst xs),.val (.lst b)]=.ok (.val x) [bz c,.own (.lst (xs++[.int 0])),.val (.lst b)]:=by obtain⟨v,f,d,i⟩:=pr (a:=a) c xs (b.length:Nat) ∅ h;obtain⟨x,j,g⟩:=DQ b v f d;refine⟨x,j,?_⟩;simp![iy,yaN,aP,bv,i,g]
theorem pd{n:Nat}(h:n<=1000000):f_ [.int n]=aa (fg 0 n):=by show(if(n:Int)<=1000000/\-1000000<=(n:Int)then aa (fg 0 (n:Int).toNat)else af)=_;rw[if_pos ⟨∅,∅⟩];simp
theorem tD{x y:Tx}(h:x.length+y.length<=bH):bj (.str x) (.str y)=aa (.str (x++y)):=by show(if(x++y).length<=bH then aa (PV.str (x++y))else af)=_;rw[if_pos (by rw[eZ];exact h)]
theorem bO{d1 d2:ae->R aH}{ε ε1:ae}(h:d1 ε=.ok .next ε1):aB d1 d2 ε=d2 ε1:=by unfold aB;rw[h]
theorem fJ{i:Nat}{d:ae->R PV}{ε ε1:ae}{x:PV}(h:d ε=.ok x ε1):aT i d ε=.ok .next (ε1.set i (.val x)):=by unfold aT;rw[h];rfl
theorem zG{i:Nat}{db:ae->R aH}{I:Nat->ae->Prop}{N:Nat}(step:∀k ε x,k<N->I k ε->∃b,db (ε.set i (.val x))=.ok .next b/\I (k+1) b):∀(xs:List PV) (k:Nat) (ε:ae),k+xs.length<=N->I k ε->∃b,fK i db xs ε=.ok .next b/\I (k+xs.length) b
 |[],k,ε,_,h=>⟨ε,rfl,h⟩
 |x::xs,k,ε,d,h=>by simp only[fL]at d;obtain⟨ε1,l,g⟩:=step k ε x ∅ h;obtain⟨c,j,f⟩:=zG step xs (k+1) ε1 ∅ g;refine⟨c,by unfold fK;rw[l];exact j,?_⟩;rw[fL,show k+(xs.length+1)=k+1+xs.length by lia];exact f
theorem ur{i:Nat}{db:ae->R aH}{I:List PV->ae->Prop}(step:∀(x:PV) (r:List PV) ε,I (x::r) ε->∃b,db (ε.set i (.val x))=.ok .next b/\I r b):∀(xs:List PV) (ε:ae),I xs ε->∃b,fK i db xs ε=.ok .next b/\I [] b
 |[],ε,h=>⟨ε,rfl,h⟩
 |x::xs,ε,h=>by obtain⟨d,l,g⟩:=step x xs ε h;obtain⟨c,j,f⟩:=ur step xs d g;exact⟨c,by unfold fK;rw[l];exact j,f⟩
theorem Ol(l:List Int)(xs:List PV)(g b:Nat)(O:g<=b)(Y:b<=100)(X:xs.length<=500):∃(z:Tx) (j:List PV),g<=z.length/\z.length<=b/\(∀c∈z,c∈bu)/\j.length<=xs.length+2+b /\ nI a [bz l,.own (.lst xs),⇑g,⇑b]=.ok (↥z) [bz l,.own (.lst j),⇑g,⇑b]:=by
 obtain⟨f,y,L⟩:=qX (a:=a) l xs [.int 1,.int 2,.int 2,.int 3,.int 3,.int 3] ∅ (by decide);obtain⟨h,rfl,Q,f1⟩:∃h:Int,f=.int h/\0<h/\h<=3:=by simp only[b8,iS,or_false]at y;rcases y with rfl|rfl|rfl|rfl|rfl|rfl <;> exact⟨_,rfl,by decide,by decide⟩
 obtain⟨m,W,T,o⟩:=pr (a:=a) l (xs++[.int 0]) ((b:Int)-g+1) ∅ (by simp;lia);obtain⟨n,M⟩:∃n:Nat,(g:Int)+m=n:=⟨(g+m).toNat,∅⟩
 have K:f_ [.int ((g:Int)+m)]=aa (fg 0 n):=by rw[M];exact pd ∅
 have bp:(fg 0 n).length=n:=by simp[fg]
 obtain⟨B,A,j,z,p,rfl,w,H,s⟩:=zG (i:=6) (db:=aT 5 (d2 bj (dV 5) (d2 bv (dC (.str [97,98,99])) (aA (ay (ig a) (gV (dV 0) (gO 1 (gV (dV 4) (Pu.bq)))))))))
  (I:=λk u=>∃j z p,u=[bz l,.own (.lst j),⇑g,⇑b,⇑h,↥z,p]/\z.length=k/\j.length<=xs.length+2+k/\∀c∈z,c∈bu) (N:=n)
  (by
   rintro k u x Z ⟨j,z,p,rfl,w,H,s⟩;obtain⟨v,C,S,J⟩:=pr (a:=a) l j h Q ∅;obtain⟨c,P,q⟩:=DQ bu v C (by simp[bu];lia);refine⟨[bz l,.own (.lst (j++[.int 0])),⇑g,⇑b,⇑h,↥(z++[c]),.val x],?_,j++[.int 0],z++[c],.val x,rfl,by simp[w],by simp;lia,λd o=>?_⟩
   .have D:bv (.str [97,98,99]) (.int v)=aa (.str [c]):=by
     show(dr bu v).map _=_;rw[q];rfl
    have F:bj (.str z) (.str [c])=aa (.str (z++[c])):=tD (by simp[bH];lia);simp![J,D,F]
   .simp only[kT,gX]at o;rcases o with o|rfl
    .exact s d o
    .exact P)
  (fg 0 n) 0 [bz l,.own (.lst (xs++[.int 0]++[.int 0])),⇑g,⇑b,⇑h,.val (.str []),.none] ∅ ⟨xs++[.int 0]++[.int 0],[],.none,rfl,rfl,by simp,by simp⟩
 refine⟨z,j,∅,∅,s,∅,?_⟩;have G:fI (.int b) (.int g)=aa (.int ((b:Int)-g)):=rfl;have r:bj (.int ((b:Int)-g)) (.int 1)=aa (.int ((b:Int)-g+1)):=rfl;have E:bj (.int g) (.int m)=aa (.int ((g:Int)+m)):=rfl;simp only[BZ,List.cons_append,ik]at A;simp![nI,yaP,L,G,r,E,o,dD,K,cm,A]
theorem iI{cap:List Nat}{dt:ae->R Bool}{de:ae->R PV}{ε:ae}(p:PV->Bool)(f:PV->PV):∀(xs:List PV),(∀x∈xs,bn (ci cap dt x ε)=.ok (p x) ε/\(p x=ah->bn (ci cap de x ε)=.ok (f x) ε))->∀b,iN cap dt de xs b ε=.ok (b++(xs.filter p).map f) ε
 |[],_,b=>by simp[iN]
 |x::xs,h,b=>by
  have g:=h x (by simp);have d:=iI p f xs (λy i=>h y (by simp[i]));unfold iN;rw[g.1];simp only[R.bind_ok];cases c:p x with
  |false=>simp only[d b,G5,c];simp
  |true=>simp only[g.2 c,R.bind_ok,d (b++[f x]),G5,c];simp
theorem MX{z:Tx}{i w:Nat}(h:i+w<=z.length):dY z (aa (i:Int)) (aa ((i:Int)+w))=(z.drop i).take w:=by
 unfold dY;have c:HT.sIx z.length 0 (aa (i:Int))=i:=by rw[HT.sIx_nat];lia
 have b:HT.sIx z.length z.length (aa ((i:Int)+w))=i+w:=by rw[show(i:Int)+w=((i+w:Nat):Int) by lia,HT.sIx_nat];lia
 rw[c,b,Nat.add_sub_cancel_left]
theorem xm(z:Tx)(w:Nat)(o:z.length<=60):iZ a [↥z,⇑w]=.ok (.val (.tup (ak (bJ (bM z w))))) [↥z,⇑w]:=by
 have g:f_ [.int (z.length:Nat)]=aa (fg 0 z.length):=pd ∅;have b:=iI (cap:=[0,1]) (dt:=(dB (d2 (bI λi j=>decide (i<=j)) (d2 bj (dV 0) (dV 2)) (dL aP (am (dV 1) (ar)))))) (de:=(c5 cx (dV 1) (cI (dV 0)) (cI (d2 bj (dV 0) (dV 2)))))
  (ε:=[↥z,⇑w]) (λx=>match x with|.int i=>decide (i+w<=z.length)|_=>aj) (λx=>match x with|.int i=>.str (dY z (aa i) (aa (i+w)))|_=>.non) (fg 0 z.length)
  (by
   intro x d;simp only[fg,b0]at d;obtain⟨i,f,rfl⟩:=d;refine⟨?_,λh=>?_⟩
   .simp![ci,cZ,bn,aP,bj]
   .simp![ci,cZ,bn,aP,bj,c5,cI,cx]) []
 have l:(bM z w).length<64:=by unfold bM;rw[bS];have:=G8 (λi=>decide (i+w<=z.length)) (bX z.length);rw[GR]at this;lia
 have m:(((fg 0 z.length).filter (λx=>match x with|.int i=>decide (i+w<=z.length)|_=>aj)).map (λx=>match x with|.int i=>PV.str (dY z (aa i) (aa (i+w)))|_=>.non))=ak (bM z w):=by
  unfold fg bM ak;rw[k9,fc,fc];have n:((λx=>match x with|PV.int i=>decide (i+(w:Int)<=(z.length:Nat))|_=>aj) ∘ λ(i:Nat)=>PV.int (0+(i:Nat)))=λi=>decide (i+w<=z.length):=by funext i;simp only[ou];congr 1;simp;lia
  rw[n];refine lR λi f=>?_;have:=(gU.mp f).2;simp only[decide_eq_true_eq]at this;simp only[ou,Int.zero_add];rw[MX this]
 simp only[ik]at b;rw[m]at b;have c:=MQ l;generalize ak (bJ (bM z w))=T at c;generalize ak (bM z w)=B at b c;simp![iZ,yaO,aP,g,bT,b,c,j5]
structure Good(l:Tx)(w:Nat)(ls:List Tx):Prop where
 len:∀x∈ls,x.length=w
 abc:∀x∈ls,∀c∈x,c∈l
 some:1<=ls.length
 few:ls.length<=9
theorem gL(b:List Tx):(ak b).length=b.length:=by simp[ak]
theorem rj{n:Nat}{v:Int}(c:0<=v)(b:v<n):ku n v=aa v.toNat:=by unfold ku;rw[if_pos c,if_pos b]
theorem Lo{b:Type}(xs:List b)(n:Nat):dY xs af (aa (n:Int))=xs.take n:=by
 unfold dY;have c:HT.sIx xs.length 0 af=0:=rfl;rw[c,HT.sIx_nat,BU,Nat.sub_zero];by_cases h:n<=xs.length
 .rw[Ca h]
 .rw[Ha ∅,pN (bB _),pN ∅]
theorem Nu{b:Type}(xs:List b)(n:Nat):dY xs (aa (n:Int)) af=xs.drop n:=by
 unfold dY;have c:HT.sIx xs.length xs.length af=xs.length:=rfl;rw[c,HT.sIx_nat];by_cases h:n<=xs.length
 .rw[Ca h,pN (by rw[pJ];lia)]
 .rw[Ha ∅,Cb ∅,Cb ∅];simp
theorem jh{t T:String}{b:Bool}{x:PV}(h:rn x=aa t)(e:gk [] (.type t) (.type T)=aa b):eE [x,.raw (.ty T)]=aa (.bl b):=by show((rn x).bind λt=>(gk [] (.type t) (.type T)).map λb=>PV.bl b)=_;rw[h,gu,e];rfl
theorem Oe:gk [] (.type "int") (.type "int")=aa ah:=by decide +kernel
theorem P_:gk [] (.type "int") (.type "bool")=aa aj:=by decide +kernel
theorem KM:gk [] (.type "bool") (.type "int")=aa ah:=by decide +kernel
theorem RC:gk [] (.type "bool") (.type "bool")=aa ah:=by decide +kernel
theorem OM:gk [] (.type "str") (.type "int")=aa aj:=by decide +kernel
theorem Nj:gk [] (.type "str") (.type "str")=aa ah:=by decide +kernel
theorem zt:gk [] (.type "tuple") (.type "tuple")=aa ah:=by decide +kernel
theorem Jb(bs:List Bool):l6 (bs.map .bl)=aa bs:=by
 induction bs with
 |nil=>rfl
 |cons b bs c=>show(l6 (bs.map .bl)).map (b::·)=_;rw[c];rfl
theorem zS(bs:List Bool):qN [.lst (bs.map .bl)]=aa (.bl (bs.all id)):=by show(l6 (bs.map .bl)).map _=_;rw[Jb];rfl
theorem MB(z s:Tx):xQ a [↥z,↥s]=.ok (.val (.bl (z.all s.contains))) [↥z,↥s]:=by
 have b:=iI (cap:=[1]) (dt:=dy) (de:=(d2 (jx aj) (dV 0) (dV 1))) (ε:=[↥z,↥s]) (λ_=>ah) (λx=>match x with|.str [c]=>.bl (s.contains c)|_=>.non) (z.map λc=>.str [c])
  (by
   intro x h;obtain⟨c,_,rfl⟩:=b0.mp h;refine⟨by simp![ci,cZ,bn,dy],λ_=>?_⟩;have g:jx aj (.str [c]) (.str s)=aa (.bl (s.contains c)):=by rw[<-IK];simp[jx]
   simp![ci,cZ,bn,g]) []
 have i:((z.map λc=>PV.str [c]).filter (λ_=>ah)).map (λx=>match x with|.str [c]=>PV.bl (s.contains c)|_=>.non)=(z.map s.contains).map .bl:=by rw[uY.mpr (by simp),fc,fc];rfl
 rw[ik,i]at b;have f:(z.map s.contains).all id=z.all s.contains:=by rw[yo];rfl
 generalize z.map s.contains=bs at b f;have d:=zS bs;rw[f]at d;simp![xQ,yau,bT,bx,hV,b,d]
def ja(w:Int)(s z:Tx):Bool:=decide ((z.length:Int)=w)&&z.all s.contains
theorem sT(z s:Tx)(w:Int):mP a [↥z,⇑w,↥s]=.ok (.val (.bl (ja w s z))) [↥z,⇑w,↥s]:=by
 have d:eE [.str z,.raw (.ty "str")]=aa (.bl ah):=jh rfl Nj;have f:=MB (a:=a) z s;have c:aP [.str z]=aa (.int (z.length:Nat)):=rfl;have b:=j7 aj (z.length:Nat) w;unfold ja;by_cases h:((z.length:Nat):Int)=w
 .simp only[h,decide_true,Bool.xor_true,Bool.not_false]at b;simp![mP,yaz,d,c,b,f,h]
 .simp only[h,decide_false,Bool.xor_false]at b;simp![mP,yaz,d,c,b,h]
theorem CM(d c:List Tx):eO (ak d) (ak c)=aa (decide (d=c)):=by
 induction d generalizing c with
 |nil=>cases c <;> simp[ak,eO]
 |cons x d f=>
  cases c with
  |nil=>simp[ak,eO]
  |cons y c=>
   show(cV (.str x) (.str y)).bind (λa=>(eO (ak d) (ak c)).map λb=>a&&b)=_;rw[f];have:cV (.str x) (.str y)=aa (decide (x=y)):=by
    show aa (tS x == tS y)=_;by_cases h:x=y
    .subst h;simp
    .have:tS x≠tS y:=λz=>h (qy z);simp[h,this]
   rw[this];simp[uZ]
theorem zj(b:List Tx):eG (ak b)=0:=by
 induction b with
 |nil=>rfl
 |cons x b c=>show max (gQ (.str x)) (eG (ak b))=0;rw[c];rfl
theorem xO(neg:Bool)(b c:List Tx):Pu.eqT neg (.lst (ak b)) (.lst (ak c))=aa (.bl (neg^^decide (b=c))):=by show(if gQ (.lst (ak b))<=8 then(eO (ak b) (ak c)).map (λk=>PV.bl (neg^^k))else af)=_;rw[if_pos (by show eG (ak b)+1<=8;rw[zj];decide),CM];rfl
theorem JF(b:List Tx)(w:Int)(s:Tx)(u:1<=b.length)(r:b.length<=9):nV a [.val (.tup (ak b)),⇑w,↥s]=.ok (.val (.bl (b.all (ja w s)&&decide (b=bJ b)))) [.val (.tup (ak b)),⇑w,↥s]:=by
 have h:eE [.tup (ak b),.raw (.ty "tuple")]=aa (.bl ah):=jh rfl zt;have i:aP [.tup (ak b)]=aa (.int (b.length:Nat)):=by simp[aP,gL]
 have m:(1:Int)<=(b.length:Nat):=∅
 have l:((b.length:Nat):Int)<=9:=∅
 have d:=iI (cap:=[1,2]) (dt:=dy) (de:=(aA (ay (mP a) (gV (dV 0) (gV (dV 1) (gV (dV 2) (Pu.bq))))))) (ε:=[.val (.tup (ak b)),⇑w,↥s]) (λ_=>ah) (λx=>match x with|.str z=>.bl (ja w s z)|_=>.non) (ak b)
  (by intro x o;obtain⟨z,_,rfl⟩:=b0.mp o;refine⟨by simp![ci,cZ,bn,dy],λ_=>?_⟩;have p:=sT (a:=a) z s w;simp![ci,cZ,bn,p]) []
 have q:((ak b).filter (λ_=>ah)).map (λx=>match x with|.str z=>PV.bl (ja w s z)|_=>.non)=(b.map (ja w s)).map .bl:=by rw[uY.mpr (by simp)];unfold ak;rw[fc,fc];rfl
 rw[ik,q]at d;have g:(b.map (ja w s)).all id=b.all (ja w s):=by rw[yo];rfl
 generalize b.map (ja w s)=bs at d g;have f:=zS bs;have n:b.length<64:=∅
 have c:=xO aj b (bJ b);cases j:b.all (ja w s)with
 |false=>rw[g,j]at f;simp![nV,yap,h,i,m,l,bT,bx,hV,d,f]
 |true=>rw[g,j]at f;simp only[u0]at c;simp![nV,yap,h,i,m,l,bT,bx,hV,d,f,kE,mH,qd,n,c]
theorem Rt(b:List Tx)(w:Int)(s:Tx)(h:b.length=0\/9<b.length):nV a [.val (.tup (ak b)),⇑w,↥s]=.ok (.val (.bl aj)) [.val (.tup (ak b)),⇑w,↥s]:=by
 have c:eE [.tup (ak b),.raw (.ty "tuple")]=aa (.bl ah):=jh rfl zt;have d:aP [.tup (ak b)]=aa (.int (b.length:Nat)):=by simp[aP,gL]
 by_cases f:(1:Int)<=(b.length:Nat)
 .have g:¬((b.length:Nat):Int)<=9:=∅
  simp![nV,yap,c,d,f,g]
 .simp![nV,yap,c,d,f]
theorem xF(i:Int):jS a [⇑i]=.ok (.val (.bl ah)) [⇑i]:=by have c:eE [.int i,.raw (.ty "int")]=aa (.bl ah):=jh rfl Oe;have b:eE [.int i,.raw (.ty "bool")]=aa (.bl aj):=jh rfl P_;simp![jS,yax,c,b]
theorem Js(b:Bool):jS a [.val (.bl b)]=.ok (.val (.bl aj)) [.val (.bl b)]:=by have d:eE [.bl b,.raw (.ty "int")]=aa (.bl ah):=jh rfl KM;have c:eE [.bl b,.raw (.ty "bool")]=aa (.bl ah):=jh rfl RC;simp![jS,yax,d,c]
theorem Kt(x:Tx):jS a [↥x]=.ok (.val (.bl aj)) [↥x]:=by have b:eE [.str x,.raw (.ty "int")]=aa (.bl aj):=jh rfl OM;simp![jS,yax,b]
theorem KF(i:Int):rA a [⇑i]=.ok (.val (.bl (decide (1<=i/\i<=4)))) [⇑i]:=by
 have h:=xF (a:=a) i;by_cases b:1<=i
 .by_cases c:i<=4
  .simp![rA,yay,h,b,c]
  .simp![rA,yay,h,b,c]
 .simp![rA,yay,h,b]
def sP(s:Tx)(w:Int)(b:List Tx):Bool:=decide (1<=w/\w<=4)&&(decide (1<=b.length/\b.length<=9)&&(b.all (ja w s)&&decide (b=bJ b)))
theorem RE(s:Tx)(w:Int)(b:List Tx):qH a [.val (.tup [.int w,.tup (ak b)]),↥s]=.ok (.val (.bl (sP s w b))) [.val (.tup [.int w,.tup (ak b)]),↥s]:=by
 have h:eE [.tup [.int w,.tup (ak b)],.raw (.ty "tuple")]=aa (.bl ah):=jh rfl zt;have l:aP [.tup [.int w,.tup (ak b)]]=aa (.int 2):=rfl;have f:=j7 ah 2 2;simp only[decide_true,Bool.true_xor,Bool.not_true]at f;have j:bv (.tup [.int w,.tup (ak b)]) (.int 0)=aa (.int w):=rfl;have i:bv (.tup [.int w,.tup (ak b)]) (.int 1)=aa (.tup (ak b)):=rfl;have d:=KF (a:=a) w;unfold sP;by_cases c:1<=w/\w<=4
 .rw[decide_eq_true c]at d ⊢;by_cases g:1<=b.length/\b.length<=9
  .have m:=JF (a:=a) b w s g.1 g.2;rw[decide_eq_true g];simp![qH,yaw,h,l,f,j,i,d,m]
  .have m:=Rt (a:=a) b w s ∅;rw[decide_eq_false g];simp![qH,yaw,h,l,f,j,i,d,m]
 .rw[decide_eq_false c]at d ⊢;simp![qH,yaw,h,l,f,j,i,d]
abbrev vw(w:Int)(b:List Tx):Bool:=sP bu w b
theorem Lf(w:Int)(b:List Tx):w_ a [.val (.tup [.int w,.tup (ak b)])]=.ok (.val (.bl (vw w b))) [.val (.tup [.int w,.tup (ak b)])]:=by have c:=RE (a:=a) bu w b;simp only[bu]at c;simp![w_,yav,c];rfl
theorem PF{w:Int}{b:List Tx}(h:vw w b=ah):wC a [.val (.tup [.int w,.tup (ak b)])]=.ok (.val .non) [.val (.tup [.int w,.tup (ak b)])]:=by have c:=Lf (a:=a) w b;rw[h]at c;simp![wC,yas,c]
theorem Good.vw{w:Nat}{d:List Tx}(g:Good bu w d)(n:1<=w)(m:w<=4)(h:d.Pairwise (λa b=>dz a b=ah)):vw w d=ah:=by
 have l:d.all (ja w bu)=ah:=by rw[iR];intro x f;unfold ja;rw[g.len x f,decide_eq_true rfl,yr,iR];intro c i;simpa using g.abc x f c i
 have j:decide (d=bJ d)=ah:=decide_eq_true (xu h).symm;show sP bu w d=ah;unfold sP;rw[l,j,decide_eq_true (show 1<=(w:Int)/\(w:Int)<=4 by lia),decide_eq_true (show 1<=d.length/\d.length<=9 from⟨g.some,g.few⟩)];rfl
end
def df(m:List (Tx×Int))(x:Tx):Option Int:=(m.find? λp=>decide (p.1=x)).map (·.2)
def dU(m:List (Tx×Int))(x:Tx)(n:Int):List (Tx×Int):=if(m.any λp=>decide (p.1=x))=ah then m.map (λp=>if p.1=x then(p.1,n)else p)else m++[(x,n)]
def dk(m:List (Tx×Int)):List (aJ×PV):=m.map λp=>(Sum.inr (tS p.1),PV.int p.2)
theorem Bm(x y:Tx):((Sum.inr (tS x):aJ)=Sum.inr (tS y))=(x=y):=propext ⟨λh=>qy (Sum.inr.inj h),λh=>by rw[h]⟩
theorem v_(m:List (Tx×Int))(x:Tx):jy (dk m) (Sum.inr (tS x))=(df m x).map .int:=by
 induction m with
 |nil=>rfl
 |cons p m a=>
  show((List.find? _ ((Sum.inr (tS p.1),PV.int p.2)::dk m)).map (·.2))=_;unfold df;rw[ij,ij];simp only[Bm];by_cases h:p.1=x
  .simp[h]
  .simp only[h,decide_false];exact a
theorem QS(m:List (Tx×Int))(x:Tx):((dk m).any λa=>decide (a.1=(Sum.inr (tS x):aJ)))=m.any λp=>decide (p.1=x):=by unfold dk;rw[List.any_map];congr 1;funext p;simp only[ou,Bm]
theorem zz(m:List (Tx×Int))(x:Tx)(n:Int):qf (dk m) (Sum.inr (tS x)) (.int n)=dk (dU m x n):=by
 unfold qf dU;rw[QS];split
 .unfold dk;rw[fc,fc];refine lR λp _=>?_;simp only[ou,Bm];split <;> rfl
 .unfold dk;simp
theorem Fe(m:List (Tx×Int)):pb (dk m)=aa (m.any λp=>decide (p.2≠0)):=by
 induction m with
 |nil=>rfl
 |cons p m a=>show(pb (dk m)).map _=_;rw[a];simp
theorem y_{m:List (Tx×Int)}{x:Tx}(h:(m.any λp=>decide (p.1=x))=aj):df m x=af:=by unfold df;rw[Cc,Hb];intro p a;have:=Gz.mp h p a;simpa using this
theorem LK{m:List (Tx×Int)}{x y:Tx}{n:Int}(h:(m.any λp=>decide (p.1=x))=aj):df (m++[(x,n)]) y=if y=x then aa n else df m y:=by
 have a:=y_ h;unfold df at a ⊢;rw[List.find?_append];by_cases e:y=x
 .subst e;rw[Cc]at a;simp[a]
 .rw[if_neg e];have:¬x=y:=λz=>e z.symm;cases b:m.find? (λp=>decide (p.1=y))with
  |none=>simp[this]
  |some p=>simp
theorem Iv{m:List (Tx×Int)}{x y:Tx}{n:Int}:df (m.map λp=>if p.1=x then(p.1,n)else p) y=(df m y).map λz=>if y=x then n else z:=by
 induction m with
 |nil=>rfl
 |cons p m a=>
  unfold df at a ⊢;rw[eY,ij,ij];by_cases h:p.1=x
  .rw[if_pos h];by_cases e:p.1=y
   .simp[e,show y=x from e.symm.trans h]
   .simp only[e,decide_false];exact a
  .rw[if_neg h];by_cases e:p.1=y
   .simp[e,show ¬y=x from λz=>h (e.trans z)]
   .simp only[e,decide_false];exact a
theorem Rh{m:List (Tx×Int)}{x:Tx}(h:(m.any λp=>decide (p.1=x))=ah):∃n,df m x=aa n:=by
 unfold df;cases a:m.find? (λp=>decide (p.1=x))with
 |none=>rw[Hb]at a;obtain⟨p,c,b⟩:=k_.mp h;exact absurd b (a p c)
 |some p=>exact⟨_,rfl⟩
theorem yQ(m:List (Tx×Int))(x y:Tx)(n:Int):df (dU m x n) y=if y=x then aa n else df m y:=by
 unfold dU;by_cases h:(m.any λp=>decide (p.1=x))=ah
 .rw[if_pos h,Iv];by_cases e:y=x
  .subst e;obtain⟨k,a⟩:=Rh h;rw[a];simp
  .simp[e]
 .rw[if_neg h,LK (GZ.mpr h)]
structure nR(m:List (Tx×Int))(q:List Tx):Prop where
 nd:(m.map (·.1)).Nodup
 get:∀x,(df m x).getD 0=(q.count x:Nat)
theorem nR.mem{m:List (Tx×Int)}{q:List Tx}(h:nR m q){p:Tx×Int}(a:p∈m):df m p.1=aa p.2:=by
 have nd:=h.nd;clear h
 induction m with
 |nil=>cases a
 |cons r m b=>
  unfold df;rw[ij];rcases b8.mp a with rfl|a
  .simp
  .rw[eY,jK]at nd;have:¬r.1=p.1:=λz=>nd.1 (b0.mpr ⟨p,a,z.symm⟩);simp only[this,decide_false];exact b a nd.2
theorem Ds{m:List (Tx×Int)}{x:Tx}{n:Int}:(dU m x n).map (·.1)=if(m.any λp=>decide (p.1=x))=ah then m.map (·.1)else m.map (·.1)++[x]:=by
 unfold dU;split
 .rw[fc];refine lR λp _=>?_;simp only[ou];split <;> rfl
 .simp
theorem Eh{m:List (Tx×Int)}{x:Tx}{n:Int}(h:(m.map (·.1)).Nodup):((dU m x n).map (·.1)).Nodup:=by
 rw[Ds];split
 .exact h
 .rename_i f;rw[yy];refine⟨h,by simp,λa g b c=>?_⟩;rw[gX]at c;subst c;rintro rfl;obtain⟨p,d,rfl⟩:=b0.mp g;exact f (k_.mpr ⟨p,d,by simp⟩)
theorem nR.any{m:List (Tx×Int)}{q:List Tx}(h:nR m q):(m.any λp=>decide (p.2≠0))=!q.isEmpty:=by
 cases q with
 |nil=>rw[G9,Bool.not_true,Gz];intro p b;have a:=h.get p.1;rw[h.mem b]at a;simpa using a
 |cons x q=>
  rw[List.isEmpty_cons,Bool.not_false,k_];have a:=h.get x;rw[List.count_cons_self]at a;cases e:m.find? (λp=>decide (p.1=x))with
  |none=>unfold df at a;rw[e]at a;simp at a;lia
  |some p=>unfold df at a;rw[e]at a;refine⟨p,Hc e,?_⟩;simp at a;simp;lia
theorem nR.dec{m:List (Tx×Int)}{q:List Tx}(h:nR m q){x:Tx}(i:x∈q):∃n,df m x=aa n/\0<n/\nR (dU m x (n-1)) (q.erase x)/\df (dU m x (n-1)) x=aa (n-1)/\dU (dU m x (n-1)) x (n-1+1)=m:=by
 have a:=h.get x;have o:0<q.count x:=List.count_pos_iff.mpr i;cases e:df m x with
 |none=>rw[e]at a;simp at a;lia
 |some n=>
  rw[e]at a;simp only[Hd]at a;refine⟨n,rfl,∅,⟨Eh h.nd,λy=>?_⟩,by rw[yQ,if_pos rfl],?_⟩
  .rw[yQ];by_cases c:y=x
   .subst c;rw[if_pos rfl,List.count_erase_self];simp only[Hd];lia
   .rw[if_neg c,List.count_erase_of_ne (dQ (dQ c))];exact h.get y
  .have f:(m.any λp=>decide (p.1=x))=ah:=by
    cases z:(m.any λp=>decide (p.1=x))with
    |true=>rfl
    |false=>rw[y_ z]at e;cases e
   have j:((dU m x (n-1)).any λp=>decide (p.1=x))=ah:=by unfold dU;rw[if_pos f];obtain⟨p,d,b⟩:=k_.mp f;refine k_.mpr ⟨_,b0.mpr ⟨p,d,rfl⟩,?_⟩;rw[decide_eq_true_eq]at b;rw[if_pos b];simpa using b
   have l:dU (dU m x (n-1)) x (n-1+1)=(m.map λp=>if p.1=x then(p.1,n-1)else p).map λp=>if p.1=x then(p.1,n-1+1)else p:=by show(if((dU m x (n-1)).any λp=>decide (p.1=x))=ah then _ else _)=_;rw[if_pos j];unfold dU;rw[if_pos f]
   rw[l,fc];have:∀p∈m,((λp:Tx×Int=>if p.1=x then(p.1,n-1+1)else p) ∘ λp:Tx×Int=>if p.1=x then(p.1,n-1)else p) p=p:=by
    intro p d;simp only[ou];by_cases c:p.1=x
    .rw[if_pos c,if_pos c];have g:=h.mem d;rw[c,e]at g;cases g;rw[show p.2-1+1=p.2 by lia]
    .rw[if_neg c,if_neg c]
   rw[lR this,List.map_id''];intro p;rfl
theorem nR.zero{m:List (Tx×Int)}{q:List Tx}(h:nR m q){x:Tx}(a:x∉q):(df m x).getD 0=0:=by rw[h.get,G6 a];rfl
section
variable{a:Ad}
theorem Qj(b:List Tx)(G:b.length<=100):∃m,nR m b/\m.length<=b.length/\ut a [.val (.tup (ak b))]=.ok (.own (.dK (dk m))) [.val (.tup (ak b))]:=by
 obtain⟨A,w,m,g,l,rfl,f,n,B⟩:=ur (i:=2) (db:=(l5 1 (dV 2) (d2 bj (mO 1 (dV 2) (dC (.int 0))) (dC (.int 1)))))
  (I:=λr j=>∃(m:List (Tx×Int)) (g:Slot) (l:List Tx),j=[.val (.tup (ak b)),.own (.dK (dk m)),g]/\nR m l/\m.length<=l.length/\∃q,b=l++q/\r=ak q)
  (by
   rintro x r j ⟨m,g,l,rfl,f,n,q,d,s⟩;cases q with
   |nil=>cases s
   |cons y q=>
    have o:x::r=.str y::ak q:=s;simp only[uZ]at o;obtain⟨rfl,rfl⟩:=o;have F:m.length<bH:=by have:=congrArg nh d;simp at this;unfold bH;lia
    refine⟨[.val (.tup (ak b)),.own (.dK (dk (dU m y ((df m y).getD 0+1)))),↥y],?_,dU m y ((df m y).getD 0+1),_,l++[y],rfl,⟨Eh f.nd,λz=>?_⟩,?_,q,by rw[d];simp,rfl⟩
    .have p:=v_ m y;have u:=zz m y ((df m y).getD 0+1);have v:(dk m).length<bH:=by unfold dk;rw[bS];exact F
     have C:((df m y).map PV.int).getD (.int 0)=.int ((df m y).getD 0):=by cases df m y <;> rfl
     generalize dk m=D at p u v;simp![l5,mO,eD,g8,p,C,bj,v,u]
    .rw[yQ];by_cases c:z=y
     .subst c;rw[if_pos rfl,G7,List.count_singleton_self];have:=f.get z;simp only[Hd];lia
     .rw[if_neg c,G7,f.get z];have:[y].count z=0:=G6 (by simpa using c);rw[this];rfl
    .have:(dU m y ((df m y).getD 0+1)).length<=m.length+1:=by
      unfold dU;split <;> simp
     rw[eZ,pM];lia)
  (ak b) [.val (.tup (ak b)),.own (.dK (dk [])),.none] ⟨[],.none,[],rfl,⟨by simp,λx=>by simp[df]⟩,by simp,b,by simp,rfl⟩
 obtain⟨q,d,h⟩:=B;have:q=[]:=by cases q with|nil=>rfl|cons=>cases h
 subst this;rw[i5]at d;subst d;refine⟨m,f,n,?_⟩;have E:dk []=[]:=rfl;rw[E]at w;simp![ut,yat,z5,dD,bx,hV,cm,w,qP]
theorem Oq{t:Tx}{w:Nat}(b:w<=t.length+1)(c:1<=w):cx (.str t) (aa ((t.length:Int)-w+1)) af=aa (.str (t.drop (t.length+1-w))):=by show aa (PV.str (dY t _ af))=_;rw[show((t.length:Int)-w+1)=((t.length+1-w:Nat):Int) by lia,Nu]
def jZ(c:Nat):PV:=.str [c]
theorem EM(w:Nat)(S:1<=w):∀(r v:Nat) (t:Tx) (m:List (Tx×Int)) (q:List Tx) (b:List Tx),r<v->q.length=r->nR m q->w<=t.length+1->t.length+r<=1000->m.length<=1000->b.length+(iz w r t q).length<=bH -> n8 a v [↥t,⇑w,.own (.dK (dk m)),.own (.lst (ak b))]=.ok (.val .non) [↥t,⇑w,.own (.dK (dk m)),.own (.lst (ak (b++iz w r t q)))]
 |0,0,_,_,_,_,h,_,_,_,_,_,_=>absurd h ∅
 |r+1,0,_,_,_,_,h,_,_,_,_,_,_=>absurd h ∅
 |0,v+1,t,m,q,b,_,hq,hm,hw,ht,sC,hs=>by
  have O:q=[]:=G0.mp hq;subst O;have d:=Fe m;rw[hm.any]at d;simp only[G9,Bool.not_true]at d;have Y:(ak b).length<bH:=by rw[gL];simp only[iz,pM]at hs;lia
  have e:ak (b++iz w 0 t [])=ak b++[.str t]:=by simp[ak,iz]
  rw[e];generalize dk m=D at d;generalize ak b=L at Y;simp![n8,yan,tI,eD,d,Y]
 |r+1,v+1,t,m,q,b,hf,hq,hm,hw,ht,sC,hs=>by
  have cL:q.isEmpty=aj:=by cases q with|nil=>cases hq|cons=>rfl
  have d:=Fe m;rw[hm.any,cL]at d;simp only[Bool.not_false]at d;have C:=Oq (t:=t) hw S;have cz:aP [.str t]=aa (.int (t.length:Nat)):=rfl;have kh:fI (.int (t.length:Nat)) (.int w)=aa (.int ((t.length:Int)-w)):=rfl;have lS:bj (.int ((t.length:Int)-w)) (.int 1)=aa (.int ((t.length:Int)-w+1)):=rfl
  let H:=t.drop (t.length+1-w)
  let f:=λc=>if H++[c]∈q then iz w r (t++[c]) (q.erase (H++[c]))else []
  have Z:iz w (r+1) t q=bu.flatMap f:=rfl;have hH:H.length<=1000:=by simp only[H,pJ];lia
  obtain⟨ε',u,K,J,p,rest,s,vK,rfl⟩:=ur (i:=5) (db:=(aB (aT 6 (d2 bj (dV 4) (dV 5)))
 (a6 (dB (d2 (bI λi j=>decide (j<i)) (mO 2 (dV 6) (dC (.int 0))) (dC (.int 0)))) (aB (l5 2 (dV 6) (d2 fI (ji 2 (dV 6)) (dC (.int 1))))
 (aB (jl (ay (n8 a v) (gV (d2 bj (dV 0) (dV 5)) (gV (dV 1) (gO 2 (gO 3 (Pu.bq)))))))
 (l5 2 (dV 6) (d2 bj (ji 2 (dV 6)) (dC (.int 1)))))) (bF))))
   (I:=λM Q=>∃(K J:Slot) (p rest:Tx),bu=p++rest/\M=rest.map jZ/\Q=[↥t,⇑w,.own (.dK (dk m)),.own (.lst (ak (b++p.flatMap f))),↥H,K,J])
   (by
    rintro x M Q ⟨K,J,p,rest,s,X,rfl⟩;cases rest with
    |nil=>cases X
    |cons c rest=>
     have Ho:x::M=jZ c::rest.map jZ:=X;simp only[uZ]at Ho;obtain⟨rfl,rfl⟩:=Ho;have A:bj (.str H) (.str [c])=aa (.str (H++[c])):=tD (by simp[bH];lia);have oF:bj (.str t) (.str [c])=aa (.str (t++[c])):=tD (by simp[bH];lia);have RW:b.length+(p.flatMap f).length+(f c).length<=bH:=by rw[Z,s,He,sh,eZ,eZ]at hs;lia
     have W:ak (b++(p++[c]).flatMap f)=ak ((b++p.flatMap f)++f c):=by simp
     by_cases E:H++[c]∈q
     .obtain⟨n,P,g2,g3,g4,g5⟩:=hm.dec E;have l:f c=iz w r (t++[c]) (q.erase (H++[c])):=if_pos E;have y:=EM w S r v (t++[c]) (dU m (H++[c]) (n-1)) (q.erase (H++[c])) (b++p.flatMap f) ∅ (by rw[List.length_erase_of_mem E,hq];rfl) g3 (by simp;lia) (by simp;lia)
       (by
        have:(dU m (H++[c]) (n-1)).length=m.length:=by
         have:=congrArg nh (Ds (m:=m) (x:=H++[c]) (n:=n-1));have d:(m.any λp=>decide (p.1=H++[c]))=ah:=by
          cases z:(m.any λp=>decide (p.1=H++[c]))with
          |true=>rfl
          |false=>rw[y_ z]at P;cases P
         rw[if_pos d]at this;simpa using this
        lia)
       (by rw[<-l,eZ];exact RW)
      rw[<-l]at y;have o:=v_ m (H++[c]);rw[P]at o;have G:=zz m (H++[c]) (n-1);have g:=v_ (dU m (H++[c]) (n-1)) (H++[c]);rw[g4]at g;have F:=zz (dU m (H++[c]) (n-1)) (H++[c]) (n-1+1);rw[g5,show n-1+1=n by lia]at F;have B:(dk m).length<bH:=by unfold dk;rw[bS];unfold bH;lia
      have T:(dk (dU m (H++[c]) (n-1))).length<bH:=by
       unfold dk;rw[bS];have:(dU m (H++[c]) (n-1)).length<=m.length+1:=by unfold dU;split <;> simp
       unfold bH;lia
      have gt:(0:Int)<n:=g2;refine⟨[↥t,⇑w,.own (.dK (dk m)),.own (.lst (ak (b++(p++[c]).flatMap f))),↥H,.val (.str [c]),↥(H++[c])],?_,_,_,p++[c],rest,by rw[s];simp,rfl,rfl⟩;rw[W];have s1:fI (.int n) (.int 1)=aa (.int (n-1)):=rfl;have s2:bj (.int (n-1)) (.int 1)=aa (.int n):=by show aa (PV.int (n-1+1))=_;congr 2;lia
      simp only[pQ]at o g;generalize dk m=D at o G F B;generalize dk (dU m (H++[c]) (n-1))=D2 at g G F y T;generalize ak (b++p.flatMap f)=L at y;generalize ak ((b++p.flatMap f)++f c)=L2 at y;clear_value H f;simp![jZ,A,mO,ji,l5,eD,g8,o,gt,s1,B,G,oF,y,g,s2,T,F]
     .have l:f c=[]:=if_neg E;have N:=hm.zero E;have o:=v_ m (H++[c]);have hg:((df m (H++[c])).map PV.int).getD (.int 0)=.int 0:=by
       cases e:df m (H++[c])with
       |none=>rfl
       |some k=>rw[e]at N;simp at N;subst N;rfl
      refine⟨[↥t,⇑w,.own (.dK (dk m)),.own (.lst (ak (b++(p++[c]).flatMap f))),↥H,.val (.str [c]),↥(H++[c])],?_,_,_,p++[c],rest,by rw[s];simp,rfl,rfl⟩;rw[W,l,i5];generalize dk m=D at o;generalize ak (b++p.flatMap f)=L;clear_value H f;simp![jZ,A,mO,eD,g8,o,hg])
   (bu.map jZ) [↥t,⇑w,.own (.dK (dk m)),.own (.lst (ak (b++([]:Tx).flatMap f))),↥H,.none,.none] ⟨.none,.none,[],bu,by simp,rfl,rfl⟩
  have vM:rest=[]:=by cases rest with|nil=>rfl|cons=>cases vK
  subst vM;rw[i5]at s;rw[Z];rw[<-s]at u;simp only[G1,i5]at u;have yL:hV (.str [97,98,99])=aa (bu.map jZ):=rfl;have R7:cx (.str t) (aa ((t.length:Int)-w+1)) af=aa (.str H):=C;generalize dk m=D at d u;generalize ak b=L at u;generalize ak (b++bu.flatMap f)=L2 at u;clear_value H f;simp![n8,yan,tI,eD,d,c5,cI,eL,cz,kh,lS,R7,cm,dD,bx,yL,u]
end
section
variable{a:Ad}
abbrev bR(w:Nat)(b:List Tx):PV:=.tup [.int w,.tup (ak b)]
theorem EN{b:Type}(xs:List b):dY xs af (aa (-1))=xs.dropLast:=by unfold dY;rw[show HT.sIx xs.length 0 af=0 from rfl,BU,Nat.sub_zero,List.dropLast_eq_take];congr 1;show(HT.sIx xs.length xs.length (aa (-1)))=_;show(if(-1:Int)<0 then((-1:Int)+(xs.length:Int)).toNat else min (-1:Int).toNat xs.length)=_;rw[if_pos (by decide)];lia
theorem NO{w:Nat}{b:List Tx}(g:Good bu w b)(d:1<=w)(f:w<=4):(cg w b).length<=531441:=by rw[uc d g.some λx c=>⟨g.len x c,g.abc x c⟩];refine d3 (G8 _ _) ?_;rw[Ba];exact d3 (Hf (by decide) (show w-1+b.length<=12 by have:=g.few;lia)) (by decide)
theorem Ic(V:PV)(d:List Tx)(w:Nat)(c b:Slot):iN [] dy (c5 cx (dV 0) eL (cI (d1 fQ (dC (.int 1))))) (ak d) [] [.val V,⇑w,c,b]=.ok (ak (d.map pW)) [.val V,⇑w,c,b]:=by
 have i:=iI (cap:=[]) (dt:=dy) (de:=(c5 cx (dV 0) eL (cI (d1 fQ (dC (.int 1)))))) (ε:=[.val V,⇑w,c,b]) (λ_=>ah) (λx=>match x with|.str z=>.str z.dropLast|_=>.non) (ak d)
  (by
   intro x f;obtain⟨z,_,rfl⟩:=b0.mp f;refine⟨by simp![ci,cZ,bn,dy],λ_=>?_⟩;have g:cx (.str z) af (aa (-1))=aa (.str z.dropLast):=by show aa (PV.str (dY z af (aa (-1))))=_;rw[EN]
   have h:fQ (.int 1)=aa (.int (-1)):=rfl;simp![ci,cZ,bn,c5,eL,cI,h,g]) []
 rw[i,ik,uY.mpr (by simp)];unfold ak;rw[fc,fc];rfl
theorem QJ{w:Nat}{c:List Tx}(g:Good bu w c)(u:1<=w)(H:w<=4)(Y:c.Pairwise (λa b=>dz a b=ah)):xA a [.val (bR w c)]=.ok (.own (.lst (ak (cg w c)))) [.val (bR w c)]:=by
 have n:=PF (a:=a) (g.vw u H Y);have B:bv (bR w c) (.int 0)=aa (.int w):=rfl;have o:bv (bR w c) (.int 1)=aa (.tup (ak c)):=rfl;obtain⟨m,C,M,v⟩:=Qj (a:=a) c (by have:=g.few;lia);have W:m.length<=1000:=by have:=g.few;lia
 let hd:=bJ (fR (c.map pW))
 have E:∀h∈hd,h.length=w-1:=λh N=>by have C:=(tz _ _).mp ((jU _).mem_iff.mp N);obtain⟨y,X,rfl⟩:=b0.mp C;rw[yh,g.len y X]
 let f:=λh=>iz w c.length h c
 have O:cg w c=hd.flatMap f:=rfl;have F:=NO g u H;obtain⟨P,j,A,p,rest,q,S,rfl⟩:=ur (i:=3) (db:=(jl (l7 (n8 a 12) (mD (dV 3) (mD (dV 1) (gN (tK (ay (ut a) (gV (d2 bv (dV 0) (dC (.int 1))) (Pu.bq)))) (gO 2 (Pu.bq))))))))
  (I:=λr G=>∃(A:Slot) (p rest:List Tx),hd=p++rest/\r=ak rest/\G=[.val (bR w c),⇑w,.own (.lst (ak (p.flatMap f))),A])
  (by
   rintro x r G ⟨A,p,rest,q,K,rfl⟩;cases rest with
   |nil=>cases K
   |cons h rest=>
    have J:x::r=.str h::ak rest:=K;simp only[uZ]at J;obtain⟨rfl,rfl⟩:=J;have N:h.length=w-1:=E h (by rw[q];simp);have s:=EM (a:=a) w u c.length 12 h m c (p.flatMap f) (by have:=g.few;lia) rfl C ∅ (by have:=g.few;lia) W (by rw[O,q,He,sh,eZ,eZ]at F;show(p.flatMap f).length+(f h).length<=bH;unfold bH;lia);refine⟨[.val (bR w c),⇑w,.own (.lst (ak ((p++[h]).flatMap f))),↥h],?_,_,p++[h],rest,by rw[q];simp,rfl,rfl⟩;have e2:(p++[h]).flatMap f=p.flatMap f++iz w c.length h c:=by simp[f]
    rw[e2];generalize ak (p.flatMap f)=L at s;generalize ak (p.flatMap f++iz w c.length h c)=L2 at s;generalize dk m=D at s v;simp only[bR]at o ⊢;generalize ak c=T at v o;clear_value f hd;simp![l7,mD,gN,zZ,o,v,s])
  (ak hd) [.val (bR w c),⇑w,.own (.lst (ak (([]:List Tx).flatMap f))),.none] ⟨.none,[],hd,by simp,rfl,rfl⟩
 have Q:rest=[]:=by cases rest with|nil=>rfl|cons=>cases S
 subst Q;rw[i5]at q;rw[<-q,<-O]at j;simp only[G1]at j;have d:=Ic (bR w c) c w (.own (.lst [])) .none;have l:tN [.lst (ak (c.map pW))]=aa (.lst (ak hd)):=by show(iD (ak _)).bind _=_;have h2:=g.few;rw[qd,gu,if_pos ⟨λz=>by have:=congrArg nh z;have:=g.some;simp at *;simp_all,ym (OX _) (by rw[bS];lia)⟩]
 have e0:ak ([]:List Tx)=[]:=rfl;rw[e0]at j;generalize ak (cg w c)=L at j;generalize ak hd=D at j l;generalize ak (c.map pW)=D0 at d l;simp only[bR]at n B o d j ⊢;generalize Z:ak c=T at n B o d j;clear_value f hd;simp![xA,yaV,n,B,o,cm,dD,bx,hV,bT,d,l,j,qP]
theorem L8(b:List Tx):iO (ak b)=aa (dO b):=by
 induction b with
 |nil=>rfl
 |cons x b c=>show(c_ (.str x)).bind (λv=>(iO (ak b)).map (v::·))=_;rw[c];rfl
theorem Fu(b:List Tx)(x:Tx):lI (ak b) (.str x)=aa (.int (b.count x:Nat)):=by show(c_ (.str x)).bind (λv=>(iO (ak b)).map λc=>PV.int (c.countP λz=>dX z v))=_;rw[L8,<-Jz];rfl
theorem Qg(w:Nat)(b:List Tx)(t:Tx)(p:t.length<=60):n6 a [↥t,⇑w,.val (.tup (ak b))]=.ok (.val (.bl (unD w b t))) [↥t,⇑w,.val (.tup (ak b))]:=by
 have g:=xm (a:=a) t w p
 let M:=bJ (bM t w)
 have f:=iI (cap:=[3,2]) (dt:=dy) (de:=(d2 (bI λi j=>decide (i<=j)) (qm lI (dV 1) (dV 0)) (qm lI (dV 2) (dV 0)))) (ε:=[↥t,⇑w,.val (.tup (ak b)),.val (.tup (ak M))]) (λ_=>ah) (λx=>match x with|.str z=>.bl (decide (M.count z<=b.count z))|_=>.non) (ak M)
  (by intro x c;obtain⟨z,_,rfl⟩:=b0.mp c;refine⟨by simp![ci,cZ,bn,dy],λ_=>?_⟩;have n:=Fu M z;have m:=Fu b z;generalize ak M=A at n;generalize ak b=B at m;simp![ci,cZ,bn,qm,n,m]) []
 have q:((ak M).filter (λ_=>ah)).map (λx=>match x with|.str z=>PV.bl (decide (M.count z<=b.count z))|_=>.non)=(M.map λz=>decide (M.count z<=b.count z)).map .bl:=by rw[uY.mpr (by simp)];unfold ak;rw[fc,fc];rfl
 rw[ik,q]at f;have o:(M.map λz=>decide (M.count z<=b.count z)).all id=unD w b t:=by
  rw[yo];unfold unD;have d:=jU (bM t w);rw[oi,iR,iR];constructor
  .intro h x c;have:=h x (d.mem_iff.mpr c);simp only[ou,id,M,d.count_eq]at this;exact this
  .intro h x c;have:=h x (d.mem_iff.mp c);simp only[ou,id,M,d.count_eq];exact this
 generalize (M.map λz=>decide (M.count z<=b.count z))=bs at f o;have l:=zS bs;rw[o]at l;change iZ a _=R.ok (Slot.val (.tup (ak M))) _ at g;generalize ak M=MM at g f;clear_value M;simp![n6,yaQ,g,bT,bx,hV,f,l]
theorem Qh(neg:Bool)(b c:List Tx):Pu.eqT neg (.tup (ak b)) (.tup (ak c))=aa (.bl (neg^^decide (b=c))):=by show(if gQ (.tup (ak b))<=8 then(eO (ak b) (ak c)).map (λk=>PV.bl (neg^^k))else af)=_;rw[if_pos (by show eG (ak b)+1<=8;rw[zj];decide),CM];rfl
def nextT(w:Nat)(b:List Tx)(t:Tx):List Tx:=(bu.map λc=>t++[c]).filter (unD w b)
theorem QM(w:Nat)(g:List Tx)(V j h s:Slot)(d:List Tx)(H:∀t∈d,t.length<=50)(M:(d.flatMap (nextT w g)).length<=999999):∃l,fK 6 (mJ 5 (dF (bT [6,1,2] (bx (dC (.str [97,98,99]))) (dB (aA (ay (n6 a) (gV (d2 bj (dV 1) (dV 0)) (gV (dV 2) (gV (dV 3) (Pu.bq))))))) (d2 bj (dV 1) (dV 0))))) (ak d) [V,⇑w,.val (.tup (ak g)),j,h,.own (.lst []),s]=.ok .next [V,⇑w,.val (.tup (ak g)),j,h,.own (.lst (ak (d.flatMap (nextT w g)))),l]:=by
 let f:=nextT w g
 obtain⟨C,A,l,p,rest,m,E,rfl⟩:=ur (i:=6) (db:=(mJ 5 (dF (bT [6,1,2] (bx (dC (.str [97,98,99]))) (dB (aA (ay (n6 a) (gV (d2 bj (dV 1) (dV 0)) (gV (dV 2) (gV (dV 3) (Pu.bq))))))) (d2 bj (dV 1) (dV 0))))))
  (I:=λr ε=>∃(l:Slot) (p rest:List Tx),d=p++rest/\r=ak rest/\ε=[V,⇑w,.val (.tup (ak g)),j,h,.own (.lst (ak (p.flatMap f))),l])
  (by
   rintro x r ε ⟨l,p,rest,m,z,rfl⟩;cases rest with
   |nil=>cases z
   |cons t rest=>
    have y:x::r=.str t::ak rest:=z;simp only[uZ]at y;obtain⟨rfl,rfl⟩:=y;have G:=H t (by rw[m];simp);have n:=iI (cap:=[6,1,2]) (dt:=(dB (aA (ay (n6 a) (gV (d2 bj (dV 1) (dV 0)) (gV (dV 2) (gV (dV 3) (Pu.bq)))))))) (de:=(d2 bj (dV 1) (dV 0))) (ε:=[V,⇑w,.val (.tup (ak g)),j,h,.own (.lst (ak (p.flatMap f))),↥t])
     (λx=>match x with|.str [c]=>unD w g (t++[c])|_=>aj) (λx=>match x with|.str [c]=>.str (t++[c])|_=>.non) (bu.map jZ)
     (by
      intro x F;obtain⟨c,_,rfl⟩:=b0.mp F;have o:=Qg (a:=a) w g (t++[c]) (by simp;lia);have u:bj (.str t) (.str [c])=aa (.str (t++[c])):=tD (by simp[bH];lia);simp only[jZ];generalize ak (p.flatMap f)=L;generalize unD w g (t++[c])=b at o;generalize t++[c]=tc at o u;generalize ak g=B at o;refine⟨?_,λ_=>?_⟩
      .simp![ci,cZ,bn,u,o]
      .simp![ci,cZ,bn,u]) []
    have J:((bu.map jZ).filter (λx=>match x with|.str [c]=>unD w g (t++[c])|_=>aj)).map (λx=>match x with|.str [c]=>PV.str (t++[c])|_=>.non)=ak (f t):=by simp only[f,nextT];rw[k9,fc,k9];unfold ak;rw[fc];rfl
    rw[ik,J]at n;have v:hV (.str [97,98,99])=aa (bu.map jZ):=rfl;have q:(ak (p.flatMap f)).length+(ak (f t)).length<=bH:=by
     rw[gL,gL];have N:(p.flatMap f).length+(f t).length<=(d.flatMap (nextT w g)).length:=by rw[m,He,sh,eZ,eZ];simp only[f];lia
     unfold bH;lia
    refine⟨[V,⇑w,.val (.tup (ak g)),j,h,.own (.lst (ak ((p++[t]).flatMap f))),↥t],?_,↥t,p++[t],rest,by rw[m];simp,rfl,rfl⟩;have K:ak ((p++[t]).flatMap f)=ak (p.flatMap f)++ak (f t):=by simp[ak]
    rw[K];generalize ak (f t)=Y at n q;generalize ak (p.flatMap f)=L at n q;generalize ak g=B at n;generalize bu.map jZ=A3 at n v;clear_value f;simp![mJ,bT,bx,v,n,q])
  (ak d) [V,⇑w,.val (.tup (ak g)),j,h,.own (.lst (ak (([]:List Tx).flatMap f))),s] ⟨s,[],d,by simp,rfl,rfl⟩
 have D:rest=[]:=by cases rest with|nil=>rfl|cons=>cases E
 subst D;rw[i5]at m;rw[<-m]at A;exact⟨l,A⟩
theorem Qs{k:Nat}(h:k<=12):3^k<=531441:=d3 (Hf (by decide) h) (by decide)
theorem Fc{w:Nat}{c:List Tx}(g:Good bu w c)(u:1<=w)(w4:w<=4)(W:c.Pairwise (λa b=>dz a b=ah)):mq a [.val (bR w c)]=.ok (.own (.lst (ak (cg w c)))) [.val (bR w c)]:=by
 have G:cg w c=(rowsOf w c (c.length+w-1)).filter (λz=>decide (bJ (bM z w)=c)):=by rw[Jh W,uc u g.some λx s=>⟨g.len x s,g.abc x s⟩];congr 2;lia
 obtain⟨L,C⟩:∃L:Nat,c.length+w-1=L:=⟨_,rfl⟩
 rw[C]at G;have F:L<=12:=by have:=g.few;lia
 have H:aP [.tup (ak c)]=aa (.int (c.length:Nat)):=by simp[aP,gL]
 have A:bj (.int (c.length:Nat)) (.int w)=aa (.int ((c.length:Int)+w)):=rfl;have P:fI (.int ((c.length:Int)+w)) (.int 1)=aa (.int L):=by show aa (PV.int ((c.length:Int)+w-1))=_;congr 2;lia
 have X:f_ [.int L]=aa (fg 0 L):=pd ∅;have y:(fg 0 L).length=L:=by simp[fg]
 obtain⟨J,n,r,q,j,rfl⟩:=zG (i:=4) (db:=(aB (jF 5 (dL bZ (ar)))
 (aB (dD 6 (bx (dV 3)) (mJ 5 (dF (bT [6,1,2] (bx (dC (.str [97,98,99]))) (dB (aA (ay (n6 a) (gV (d2 bj (dV 1) (dV 0)) (gV (dV 2) (gV (dV 3) (Pu.bq))))))) (d2 bj (dV 1) (dV 0))))))
 (aT 3 (dM 5)))))
  (I:=λk ε=>∃(r q j:Slot),ε=[.val (bR w c),⇑w,.val (.tup (ak c)),.val (.lst (ak (rowsOf w c k))),r,q,j]) (N:=L)
  (by
   rintro k ε x hk ⟨r,q,j,rfl⟩;have o:∀t∈rowsOf w c k,t.length<=50:=λt S=>by have:=((mI k t).mp (gU.mp S).1).1;lia
   have e:(rowsOf w c k).flatMap (nextT w c)=rowsOf w c (k+1):=(Pd u c k).symm;have K:((rowsOf w c k).flatMap (nextT w c)).length<=999999:=by rw[e];have m:=Q8 w c (k+1);have h2:=Qs (show k+1<=12 by lia);lia
   obtain⟨O,m⟩:=QM (a:=a) w c (.val (bR w c)) (.val (.lst (ak (rowsOf w c k)))) (.val x) j (rowsOf w c k) o K;rw[e]at m;refine⟨_,?_,.val x,.val (.lst (ak (rowsOf w c (k+1)))),O,rfl⟩;generalize ak (rowsOf w c (k+1))=R1 at m;generalize Y:ak (rowsOf w c k)=R0 at m;simp only[bR]at m ⊢;have p:∀(d:ae->R aH) (xs:List PV) (ε:ae),ε[3]?=aa (.val (.lst xs))->dD 6 (bx (dV 3)) d ε=fK 6 d xs ε:=λd xs ε h=>by unfold dD bx dV;rw[h];rfl
   refine(bO (ε1:=[.val (.tup [.int w,.tup (ak c)]),⇑w,.val (.tup (ak c)),.val (.lst R0),.val x,.own (.lst []),j]) (by simp![])).trans ?_;refine(bO ((p _ R0 _ rfl).trans m)).trans ?_;simp[aT,dM,R.bind])
  (fg 0 L) 0 [.val (bR w c),⇑w,.val (.tup (ak c)),.val (.lst (ak (rowsOf w c 0))),.none,.none,.none] ∅ ⟨.none,.none,.none,rfl⟩
 rw[y,sd,HP u]at n;have l:=iI (cap:=[1,2]) (dt:=(dB (d2 (Pu.eqT aj) (aA (ay (iZ a) (gV (dV 0) (gV (dV 1) (Pu.bq))))) (dV 2)))) (de:=dV 0) (ε:=[.val (bR w c),⇑w,.val (.tup (ak c)),.val (.lst (ak (rowsOf w c L))),r,q,j])
  (λx=>match x with|.str z=>decide (bJ (bM z w)=c)|_=>aj) (λx=>x) (ak (rowsOf w c L))
  (by
   intro x s;obtain⟨z,Q,rfl⟩:=b0.mp s;have v:z.length<=60:=by have:=((mI L z).mp (gU.mp Q).1).1;lia
   have E:=xm (a:=a) z w v;have f:=Qh aj (bJ (bM z w)) c;simp only[u0]at f;generalize ak (bJ (bM z w))=M at E f;generalize Z:decide (bJ (bM z w)=c)=D at f;generalize ak (rowsOf w c L)=RR;simp only[bR];refine⟨?_,λ_=>?_⟩
   .simp only[Z];generalize ak c=B at f;simp![ci,cZ,bn,E,f]
   .generalize ak c=B;simp![ci,cZ,bn]) []
 have f:((ak (rowsOf w c L)).filter (λx=>match x with|.str z=>decide (bJ (bM z w)=c)|_=>aj)).map (λx=>x)=ak (cg w c):=by rw[pX,G];unfold ak;rw[k9];rfl
 rw[ik,f]at l;have e0:ak [[]]=[.str []]:=rfl;rw[e0]at n;generalize ak (cg w c)=T at l;generalize ak (rowsOf w c L)=RR at l n;simp only[bR]at l n ⊢;generalize ak c=B at l n H;simp![mq,yaB,kF,H,A,P,cm,dD,X,n,kj,bT,bx,hV,l]
end
end Sh
namespace Mx
open L2 Pu
def mW(z:Tx)(i:Nat):Nat:=z.getD (i % z.length) 0
def Lq(z:Tx)(w:Nat):Tx:=((cX w z).flatten).take (z.length+w-1)
end Mx
namespace Sh
open L2 Pu Mx
section
variable{a:Ad}
def C0(t:Tx)(v:Nat):List Tx:=(bX (t.length+1-v)).map λi=>(t.drop i).take v
def qz(b c:Nat):List Nat:=List.range' b (c-b)
def part(t:Tx)(i j:Nat):Tx:=(t.drop i).take (j-i)
theorem No(t:Tx)(i j:Nat):dY t (aa (i:Nat)) (aa (j:Nat))=part t i j:=by
 unfold dY part;rw[HT.sIx_nat,HT.sIx_nat];by_cases h:i<=t.length
 .rw[Ca h];by_cases b:j<=t.length
  .rw[Ca b]
  .rw[Ha ∅,pN (by simp),pN (by simp;lia)]
 .rw[show min i t.length=t.length by lia,Cb (bB _),Cb (show t.length<=i by lia)];simp
theorem Lg(t:Tx)(i j:Nat):cx (.str t) (aa (i:Nat)) (aa (j:Nat))=aa (.str (part t i j)):=by show aa (PV.str (dY t (aa (i:Nat)) (aa (j:Nat))))=_;rw[No]
theorem Ap(t:Tx)(j:Nat):cx (.str t) af (aa (j:Nat))=aa (.str (t.take j)):=by show aa (PV.str (dY t af (aa (j:Nat))))=_;rw[Lo]
def mW(b:List Tx)(i:Nat):Tx:=b.getD i []
def O_(t:Tx)(s e g l:Nat):Tx:=t.take s++part t g l++part t e g++part t s e++t.drop l
def Pl(t:Tx)(b:List Tx)(s g e:Nat):List Tx:=(qz (g+1) b.length).flatMap λl=>if mW b e=mW b l then [O_ t s e g l] else []
def LM(t:Tx)(b:List Tx)(s g:Nat):List Tx:=(qz (s+1) (g+1)).flatMap λe=>Pl t b s g e
theorem NW{i:Nat}{f:ae->R (List PV)}{g:ae->R aH}{d c b:ae}{xs:List PV}(h:f d=.ok xs c)(j:fK i g xs c=.ok .next b):dD i f g d=.ok .next b:=by unfold dD;rw[h];exact j
theorem QZ{i:Nat}{f:ae->R (List PV)}{g:ae->R aH}{d c b:ae}{xs:List PV}(h:f d=.ok xs c)(j:fK i g xs c=.ok .next b):(λd=>cm (dD i f g d)) d=.ok .next b:=by show cm _=_;rw[NW h j];rfl
theorem C3{i:Nat}{d:ae->R (List PV)}{f d2:ae->R aH}{b ε1 c:ae}{xs:List PV}(h:d b=.ok xs ε1)(g:fK i f xs ε1=.ok .next c):aB (λb=>cm (dD i d f b)) d2 b=d2 c :=bO (d1:=λb=>cm (dD i d f b)) (QZ h g)
end
section
variable{a:Ad}
def Iz(t:Tx)(b:List Tx)(s:Nat):List Tx:=(qz (s+1) b.length).flatMap λg=>if mW b s=mW b g then LM t b s g else []
def Oj(t:Tx)(b:List Tx):List Tx:=(qz 0 b.length).flatMap λs=>Iz t b s
theorem bC{i:Nat}{ε:ae}{v:PV}(h:ε[i]?=aa (.val v)):dV i ε=.ok v ε:=by unfold dV;rw[h]
theorem we{d:ae->R PV}{g:ae->R (List bQ)}{f c b:ae}{x:PV}{i:List bQ}(h:d f=.ok x c)(j:g c=.ok i b):gV d g f=.ok (.inl x::i) b:=by unfold gV;rw[h,R.bind_ok,j];rfl
theorem LD{b:ae}:Pu.bq b=.ok [] b:=rfl
theorem Lc{G:ae->R Slot}{b:ae}{g f d c:Nat}{v0 v1 v2 v3:PV}{r:Slot}(m:b[g]?=aa (.val v0))(l:b[f]?=aa (.val v1))(j:b[d]?=aa (.val v2))(i:b[c]?=aa (.val v3))(h:G [.val v0,.val v1,.val v2,.val v3]=.ok r [.val v0,.val v1,.val v2,.val v3]):ay G (gV (dV g) (gV (dV f) (gV (dV d) (gV (dV c) (Pu.bq))))) b=.ok r b:=by unfold ay;rw[we (bC m) (we (bC l) (we (bC j) (we (bC i) LD))),R.bind_ok];simp[br,bU,R.bind,aC,h,cc,ce,cb]
theorem j6{d:Type}{c:ae->R Bool}{d1 d2:ae->R d}{b ε1:ae}(h:c b=.ok ah ε1):a6 c d1 d2 b=d1 ε1:=by unfold a6;rw[h];rfl
theorem gM{d:Type}{c:ae->R Bool}{d1 d2:ae->R d}{b ε1:ae}(h:c b=.ok aj ε1):a6 c d1 d2 b=d2 ε1:=by unfold a6;rw[h];rfl
theorem eM{d:ae->R PV}{b:Bool}{ε ε1:ae}(h:d ε=.ok (.bl b) ε1):dB d ε=.ok b ε1:=by unfold dB;rw[h];rfl
def HA(t:Tx)(m w:Nat):List Tx:=(qz 1 m).map λp=>Lq ((t.take m).drop p++(t.take m).take p) w
def Mu(t:Tx)(b:List Tx)(w:Nat):List Tx:=if mW b 0=mW b (b.length-1)then HA t (b.length-1) w else []
def JQ(t:Tx)(w:Nat):List Tx:=Oj t (C0 t (w-1))++Mu t (C0 t (w-1)) w
def Ji(t:Tx)(m:Nat):List Tx:=(qz 1 m).map λp=>part (cX 3 (t.take m)).flatten p (p+t.length)
def jX(t:Tx)(b:List Tx):List Tx:=if mW b 0=mW b (b.length-1)then Ji t (b.length-1)else []
end
section
variable{a:Ad}
theorem Pb{b:Type}(xs:List b)(k:Nat)(c:1<=k):dY xs (aa (-(k:Int))) af=xs.drop (xs.length-k):=by
 unfold dY;rw[show HT.sIx xs.length xs.length af=xs.length from rfl];have:HT.sIx xs.length 0 (aa (-(k:Int)))=xs.length-k:=by show(if(-(k:Int))<0 then((-(k:Int))+(xs.length:Int)).toNat else min (-(k:Int)).toNat xs.length)=_;rw[if_pos ∅];lia
 rw[this,pN (by simp)]
def ua(a:Ad):ae->R aH:=aT 5 (d2 bj (dV 5) (aA (ay (iy a) (gV (dV 0) (gO 1 (gV (dF (dL bZ (am (c5 cx (dV 5) (eL) (cI (dC (.int 2)))) (am (c5 cx (dV 5) (eL) (cI (dC (.int 3)))) (am (c5 cx (dV 5) (cI (dC (.int 1))) (cI (dC (.int 3)))) (am (dC (.str [97])) (am (dC (.str [98])) (am (c5 cx (dV 5) (cI (d1 fQ (dC (.int 2)))) (eL)) (ar))))))))) (Pu.bq)))))))
def uy:ae->R Bool:=dB (d2 (bI λi j=>decide (i<j)) (dL aP (am (dV 5) (ar))) (d2 fI (dV 3) (dC (.int 2))))
theorem Rc:yaK a=aB (aT 4 (d2 bj (dC (.int 1)) (aA (ay (iy a) (gV (dV 0) (gO 1 (gV (dF (dL bZ (am (dC (.int 1)) (am (dC (.int 1)) (am (dC (.int 2)) (am (dC (.int 2)) (am (dC (.int 3)) (ar)))))))) (Pu.bq)))))))) (aB (aT 5 (aA (ay (nI a) (gV (dV 0) (gO 1 (gV (dV 2) (gV (dC (.int 4)) (Pu.bq)))))))) (aB (λb=>cm (ge uy (ua a) 1000 b)) (a8 (dL cy (am (c5 cx (dV 5) (eL) (cI (dL t0 (am (dV 4) (am (d2 fI (dV 3) (aA (ay (ig a) (gV (dV 0) (gO 1 (gV (dC (.int 3)) (Pu.bq))))))) (ar)))))) (am (dV 4) (ar))))))):=rfl
theorem ME(b:List Int)(xs:List PV)(L M W:PV)(z:Tx)(w:2<=z.length)(s:z.length<=12)(f:∀c∈z,c∈bu)(A:xs.length<=900):∃y:Tx,1<=y.length/\y.length<=3/\(∀c∈y,c∈bu) /\ ua a [bz b,.own (.lst xs),.val L,.val M,.val W,↥z]=.ok .next [bz b,.own (.lst (xs++[.int 0])),.val L,.val M,.val W,↥(z++y)]:=by
 obtain⟨x,m,d⟩:=qX (a:=a) b xs [.str (z.take 2),.str (z.take 3),.str (part z 1 3),.str [97],.str [98],.str (z.drop (z.length-2))] ∅ (by simp);obtain⟨y,rfl,r,q,p⟩:∃y:Tx,x=.str y/\1<=y.length/\y.length<=3/\∀c∈y,c∈bu:=by
  simp only[b8,iS,or_false]at m;rcases m with rfl|rfl|rfl|rfl|rfl|rfl
  .exact⟨_,rfl,by simp;lia,by simp;lia,λc h=>f c (yB h)⟩
  .exact⟨_,rfl,by simp;lia,by simp;lia,λc h=>f c (yB h)⟩
  .exact⟨_,rfl,by unfold part;simp;lia,by unfold part;simp;lia,λc h=>f c (G3 (yB h))⟩
  .exact⟨_,rfl,by simp,by simp,by simp[bu]⟩
  .exact⟨_,rfl,by simp,by simp,by simp[bu]⟩
  .exact⟨_,rfl,by simp;lia,by simp;lia,λc h=>f c (G3 h)⟩
 refine⟨y,r,q,p,?_⟩;have l:cx (.str z) af (aa 2)=aa (.str (z.take 2)):=Ap z 2;have j:cx (.str z) af (aa 3)=aa (.str (z.take 3)):=Ap z 3;have i:cx (.str z) (aa 1) (aa 3)=aa (.str (part z 1 3)):=Lg z 1 3;have g:cx (.str z) (aa (-2)) af=aa (.str (z.drop (z.length-2))):=by show aa (PV.str (dY z (aa (-((2:Nat):Int))) af))=_;rw[Pb _ _ (by decide)]
 have u:fQ (.int 2)=aa (.int (-2)):=rfl;have n:bj (.str z) (.str y)=aa (.str (z++y)):=tD (by unfold bH;lia);generalize z++y=ZY at n;generalize z.take 2=Z1 at l d;generalize z.take 3=Z2 at j d;generalize part z 1 3=Z3 at i d;generalize z.drop (z.length-2)=Z4 at g d;unfold ua;generalize iy a=G at d ⊢;have o:dF (dL bZ (am (c5 cx (dV 5) (eL) (cI (dC (.int 2)))) (am (c5 cx (dV 5) (eL) (cI (dC (.int 3)))) (am (c5 cx (dV 5) (cI (dC (.int 1))) (cI (dC (.int 3)))) (am (dC (.str [97])) (am (dC (.str [98])) (am (c5 cx (dV 5) (cI (d1 fQ (dC (.int 2)))) (eL)) (ar)))))))) [bz b,.own (.lst xs),.val L,.val M,.val W,↥z]=.ok (.lst [.str Z1,.str Z2,.str Z3,.str [97],.str [98],.str Z4]) [bz b,.own (.lst xs),.val L,.val M,.val W,↥z]:=by simp![c5,cI,eL,l,j,i,g,u]
 have v:aA (ay G (gV (dV 0) (gO 1 (gV (dF (dL bZ (am (c5 cx (dV 5) (eL) (cI (dC (.int 2)))) (am (c5 cx (dV 5) (eL) (cI (dC (.int 3)))) (am (c5 cx (dV 5) (cI (dC (.int 1))) (cI (dC (.int 3)))) (am (dC (.str [97])) (am (dC (.str [98])) (am (c5 cx (dV 5) (cI (d1 fQ (dC (.int 2)))) (eL)) (ar))))))))) (Pu.bq))))) [bz b,.own (.lst xs),.val L,.val M,.val W,↥z]=.ok (.str y) [bz b,.own (.lst (xs++[.int 0])),.val L,.val M,.val W,↥z]:=by generalize dF (dL bZ _)=D at o ⊢;simp[aA,ay,gV,gO,Pu.bq,dV,o,R.bind,aC,br,bU,d,cc,ce,cb,iP]
 exact fJ (dI (x:=.str z) rfl v n)
theorem Dp(c:List Int)(xs:List PV)(L W:PV)(b:Nat)(z:Tx)(h:2<=b):uy [bz c,.own (.lst xs),.val L,⇑b,.val W,↥z]=.ok (decide (z.length<b-2)) [bz c,.own (.lst xs),.val L,⇑b,.val W,↥z]:=by
 have f:aP [.str z]=aa (.int (z.length:Nat)):=rfl;have d:fI (.int b) (.int 2)=aa (.int ((b-2:Nat):Int)):=by show aa (PV.int _)=_;congr 2;lia
 have g:decide (((z.length:Nat):Int)<((b-2:Nat):Int))=decide (z.length<b-2):=by
  by_cases q:z.length<b-2
  .rw[decide_eq_true q,decide_eq_true ∅]
  .rw[decide_eq_false q,decide_eq_false ∅]
 rw[<-g];generalize ((b-2:Nat):Int)=m2 at d;generalize ((z.length:Nat):Int)=zl at f;simp![uy,f,d]
theorem Am{t:ae->R Bool}{d:ae->R aH}{n:Nat}{f c b:ae}(h:t f=.ok ah c)(g:d c=.ok .next b):ge t d (n+1) f=ge t d n b:=by rw[ge,h,R.bind_ok];simp only;rw[g]
theorem xH{t:ae->R Bool}{d:ae->R aH}{n:Nat}{c b:ae}(h:t c=.ok aj b):ge t d (n+1) c=.ok .next b:=by rw[ge,h,R.bind_ok]
theorem Mg(h:List Int)(L W:PV)(b:Nat)(H:6<=b)(w:b<=10):∀(k g:Nat) (xs:List PV) (z:Tx),b-2-z.length<=k->k<g->2<=z.length->z.length<=b->(∀c∈z,c∈bu)->xs.length+k<=900 -> ∃(l:List PV) (y:Tx),b<=y.length+2/\y.length<=b/\(∀c∈y,c∈bu)/\l.length<=xs.length+k/\ge uy (ua a) g [bz h,.own (.lst xs),.val L,⇑b,.val W,↥z]=.ok .next [bz h,.own (.lst l),.val L,⇑b,.val W,↥y]:=by
 intro k
 induction k with
 |zero=>
  intro g xs z E D n m j A;obtain⟨f,rfl⟩:∃f,g=f+1:=⟨g-1,∅⟩
  have c:=Dp h xs L W b z ∅;rw[decide_eq_false ∅]at c;exact⟨xs,z,∅,m,j,∅,xH c⟩
 |succ k x=>
  intro g xs z E D n m j A;obtain⟨f,rfl⟩:∃f,g=f+1:=⟨g-1,∅⟩
  have c:=Dp h xs L W b z ∅;by_cases q:z.length<b-2
  .rw[decide_eq_true q]at c;obtain⟨y,G,F,o,C⟩:=ME (a:=a) h xs L (.int b) W z n ∅ j ∅;obtain⟨l,v,u,s,r,p,B⟩:=x f (xs++[.int 0]) (z++y) (by simp;lia) ∅ (by simp;lia) (by simp;lia) (λd i=>by
    rcases kT.mp i with i|i
    .exact j d i
    .exact o d i) (by simp;lia)
   refine⟨l,v,u,s,r,?_,(Am c C).trans B⟩;simp at p;lia
  .rw[decide_eq_false q]at c;exact⟨xs,z,∅,m,j,∅,xH c⟩
theorem OJ(j:List Int)(xs:List PV)(g b:Nat)(Z:2<=g)(K:g<=4)(J:6<=b)(u:b<=10)(hx:xs.length<=400):∃(t:Tx) (w:Nat) (B:List PV),2<=w/\w<=4/\b<=t.length+2/\t.length<=b/\(∀c∈t,c∈bu)/\B.length<=xs.length+30 /\ mh a [bz j,.own (.lst xs),⇑g,⇑b]=.ok (.val (.tup [.str t,.int w])) [bz j,.own (.lst B),⇑g,⇑b]:=by
 obtain⟨f,H,F⟩:=qX (a:=a) j xs [.int 1,.int 1,.int 2,.int 2,.int 3] ∅ (by decide);obtain⟨i,rfl,f0,f1⟩:∃i:Nat,f=.int i/\1<=i/\i<=3:=by
  simp only[b8,iS,or_false]at H;rcases H with rfl|rfl|rfl|rfl|rfl
  .exact⟨1,rfl,by decide,by decide⟩
  .exact⟨1,rfl,by decide,by decide⟩
  .exact⟨2,rfl,by decide,by decide⟩
  .exact⟨2,rfl,by decide,by decide⟩
  .exact⟨3,rfl,by decide,by decide⟩
 obtain⟨z,r,S,Q,l,y,N⟩:=Ol (a:=a) j (xs++[.int 0]) g 4 K (by decide) (by simp;lia);simp only[eZ,pM]at y;obtain⟨q,m,c1,c2,P,O,E⟩:=Mg (a:=a) j (.int g) (.int ((i+1:Nat):Int)) b J u 10 1000 r z ∅ ∅ ∅ ∅ l ∅;obtain⟨v,W,T,A⟩:=pr (a:=a) j q 3 (by decide) ∅;obtain⟨d,rfl⟩:∃d:Nat,v=d:=⟨v.toNat,∅⟩
 obtain⟨n,p,Y,X⟩:∃n:Nat,t0 [.int ((i+1:Nat):Int),.int ((b:Int)-d)]=aa (.int n)/\b<=n+2/\n<=b:=by refine⟨b-d,?_,∅,∅⟩;show aa (PV.int (if((b:Int)-d) > ((i+1:Nat):Int)then((b:Int)-d)else((i+1:Nat):Int)))=_;congr 2;split <;> lia
 refine⟨m.take n,i+1,q++[.int 0],∅,∅,by simp;lia,by simp;lia,λc h=>P c (yB h),by simp;lia,?_⟩;have C:bj (.int 1) (.int i)=aa (.int ((i+1:Nat):Int)):=by show aa (PV.int _)=_;congr 2;lia
 have x:fI (.int b) (.int d)=aa (.int ((b:Int)-d)):=rfl;have s:=Ap m n;have I:yaK a [bz j,.own (.lst xs),⇑g,⇑b,.none,.none]=.ok (.ret (.val (.tup [.str (m.take n),.int ((i+1:Nat):Int)]))) [bz j,.own (.lst (q++[.int 0])),⇑g,⇑b,⇑((i+1:Nat):Int),↥m]:=by
  rw[Rc];generalize (b:Int)-d=md at p x;generalize ((d:Nat):Int)=di at A x;generalize ((i+1:Nat):Int)=wi at p C E ⊢;generalize m.take n=ZN at s ⊢;generalize ((n:Nat):Int)=ni at p s;have M:aT 4 (d2 bj (dC (.int 1)) (aA (ay (iy a) (gV (dV 0) (gO 1 (gV (dF (dL bZ (am (dC (.int 1)) (am (dC (.int 1)) (am (dC (.int 2)) (am (dC (.int 2)) (am (dC (.int 3)) (ar)))))))) (Pu.bq))))))) [bz j,.own (.lst xs),⇑g,⇑b,.none,.none]=.ok .next [bz j,.own (.lst (xs++[.int 0])),⇑g,⇑b,⇑wi,.none]:=by generalize iy a=G at F ⊢;simp![F,C]
  have L:aT 5 (aA (ay (nI a) (gV (dV 0) (gO 1 (gV (dV 2) (gV (dC (.int 4)) (Pu.bq))))))) [bz j,.own (.lst (xs++[.int 0])),⇑g,⇑b,⇑wi,.none]=.ok .next [bz j,.own (.lst r),⇑g,⇑b,⇑wi,↥z]:=by have o:nI a [bz j,.own (.lst (xs++[.int 0])),⇑g,⇑4]=.ok (↥z) [bz j,.own (.lst r),⇑g,⇑4]:=N;generalize nI a=G at o ⊢;simp![o]
  refine(bO M).trans ?_;refine(bO L).trans ?_;refine(bO (d1:=λε=>cm (ge uy (ua a) 1000 ε)) (by show cm _=_;rw[E];rfl)).trans ?_;generalize ig a=G at A ⊢;simp![A,x,p,c5,cI,eL,s]
 unfold mh;generalize yaK a=D at I;simp[bf,eA,aY,cX,I,back,aC,R.bind,gK]
end
end Sh
namespace Mx
open L2 Pu
theorem Fy{z:Tx}{w:Nat}(a:1<=w):(bM z w).length=z.length+1-w:=by rw[xq z w a];simp
def Pi(t:Tx)(w:Nat):List Tx:=(dR t.length).filter λz=>(bM z w).isPerm (bM t w)
end Mx
namespace Sh
open L2 Pu Mx
section
variable{v:Nat}
def oc(v:Nat)(M:List Tx)(y:Tx):Nat:=(M.map λx=>if x.take v=y then 1 else 0).sum
abbrev b2(p:Prop)[Decidable p]:Nat:=if p then 1 else 0
end
inductive WN(w:Nat):Nat->Tx->Tx->Prop
 |here (n:Nat) (t:Tx):WN w n t t
 |on {n:Nat}{t u z:Tx}:WN w n t u->z∈JQ u w->WN w (n+1) t z
def Full(w:Nat)(t:Tx)(k:Nat):Prop:=∀z∈Pi t w,WN w k t z
abbrev ks(m:List (Tx×Int)):List Tx:=m.map (·.1)
def b1(p:Prop)[Decidable p]:Int:=if p then 1 else 0
def exc(a:List Tx)(y:Tx):Int:=(a.map λx=>b1 (x.dropLast=y)-b1 (x.tail=y)).sum
section
variable{a:Ad}
def IH:ae->R PV:=c5 cx (dV 1) (eL) (cI (d1 fQ (dC (.int 1))))
def f2(a:Ad):ae->R aH:=aT 2 (dF (bT [1] (bx (dF (Q9 1))) (dB (d2 (bI λi j=>decide (j<i)) (ji 1 (dV 0)) (dC (.int 0)))) (dV 0)))
def f3:ae->R aH:=a6 (dB (d2 (bI λi j=>decide (j<i)) (dL aP (am (dV 2) (ar))) (dC (.int 1)))) (a8 (dL cy (am (dC (.str [116,119,111])) (am (d2 bv (dV 2) (dC (.int 0))) (am (d2 bv (dV 2) (dC (.int 1))) (ar)))))) (bF)
def f4:ae->R aH:=a6 (iH (dB (d2 (eqT aj) (dL aP (am (dV 2) (ar))) (dC (.int 1)))) (dB (d2 (bI λi j=>decide (j<i)) (ji 1 (d2 bv (dV 2) (dC (.int 0)))) (dC (.int 1))))) (a8 (dL cy (am (dC (.str [109,111,114,101])) (am (d2 bv (dV 2) (dC (.int 0))) (ar))))) (bF)
def f6:ae->R aH:=aT 4 (dF (N9 [3] (Mz (am (dV 0) (ar))) (dB (Kl aj 2 IH)) (dV 0)))
def f7:ae->R aH:=a6 (dB (d2 (bI λi j=>decide (i<j)) (dL aP (am (dV 4) (ar))) (dL aP (am (dV 0) (ar))))) (a8 (dL cy (am (dC (.str [97,112,97,114,116])) (am (dL j5 (am (dV 4) (ar))) (ar))))) (bF)
end
end Sh
namespace Mx
open L2 Pu
def ovD(a w:Tx):Nat->Nat
 |0=>0
 |k+1=>if w.take (k+1) <:+ a then k+1 else ovD a w k
def ov(a w:Tx):Nat:=ovD a w (w.length-1)
theorem OD{w:Nat}{a:List Tx}(b:1<=w)(d:1<=a.length)(f:∀x∈a,x.length=w/\∀c∈x,c∈bu):(cg w a).Nodup:=by rw[uc b d f];exact(EC _).filter _
theorem Hv{w:Nat}{d:List Tx}(f:1<=w)(i:1<=d.length)(j:∀x∈d,x.length=w/\∀c∈x,c∈bu)(h:d.Pairwise (λa b=>dz a b=ah)){z:Tx}(g:∀c∈z,c∈bu):z∈cg w d↔bJ (bM z w)=d:=by
 rw[uc f i j,gU,mI,List.isPerm_iff];constructor
 .rintro⟨_,p⟩;rw[zh p,xu h]
 .intro e;have p:(bM z w).Perm d:=by rw[<-e];exact(jU _).symm
  have l:=p.length_eq;rw[Fy f]at l;exact⟨⟨∅,g⟩,p⟩
theorem HN{w:Nat}{a:List Tx}(b:1<=w)(d:1<=a.length)(f:∀x∈a,x.length=w/\∀c∈x,c∈bu){z:Tx}(h:z∈cg w a):z.length=w-1+a.length/\∀c∈z,c∈bu:=by rw[uc b d f,gU,mI]at h;exact h.1
end Mx
namespace Sh
open L2 Pu Mx
theorem txKey_ii{x y:List Tx}:fi x=fi y↔x=y:=by
 constructor
 .intro h;have a:=D7 x;rw[h,D7]at a;exact(fk a).symm
 .rintro rfl;rfl
def GG:Nat->Nat
 |0=>1
 |k+1=>1+3*GG k
def wl(l:List Tx)(p c:Nat):List Tx:=l.filter λt=>decide (t[p]?=aa c)
def ans(l:List Tx)(p:Nat):Tx:=bu.filter λc=>decide (wl l p c≠[])
def parts(l:List Tx)(p:Nat):List (List Tx):=(ans l p).map (wl l p)
def wide(l:List Tx):Nat:=(l.headD []).length
def can:Nat->List Tx->Bool
 |0,l=>decide (l.length=1)
 |m+1,l=>decide (l.length=1)||(bX (wide l)).any λp=>decide (1<(parts l p).length)&&(parts l p).all (can m)
structure Ql(l:List Tx):Prop where
 ne:l≠[]
 nd:l.Nodup
 abc:∀t∈l,∀c∈t,c∈bu
 len:∀t∈l,t.length=wide l
theorem wl_sub(l:List Tx)(p c:Nat):(wl l p c).Sublist l:=Hg
theorem parts_mem{l m:List Tx}{p:Nat}:m∈parts l p↔∃c∈bu,m=wl l p c/\wl l p c≠[]:=by
 unfold parts ans;rw[b0];constructor
 .rintro⟨c,h,rfl⟩;obtain⟨b,a⟩:=gU.mp h;exact⟨c,b,rfl,of_decide_eq_true a⟩
 .rintro⟨c,b,rfl,a⟩;exact⟨c,gU.mpr ⟨b,decide_eq_true a⟩,rfl⟩
theorem Ql.sub{l m:List Tx}(h:Ql l)(a:m.Sublist l)(c:m≠[]):Ql m:=by
 have e:wide m=wide l:=by
  cases m with
  |nil=>exact absurd rfl c
  |cons x r=>exact h.len x (a.mem (by simp))
 exact⟨c,h.nd.sublist a,λt b=>h.abc t (a.mem b),λt b=>by rw[e];exact h.len t (a.mem b)⟩
theorem Ql.part{l m:List Tx}{p:Nat}(h:Ql l)(a:m∈parts l p):Ql m/\m.Sublist l:=by obtain⟨c,_,rfl,b⟩:=parts_mem.mp a;exact⟨h.sub (wl_sub l p c) b,wl_sub l p c⟩
theorem ans_nodup(l:List Tx)(p:Nat):(ans l p).Nodup:=List.Nodup.sublist Hg (show bu.Nodup by decide)
theorem part_lt{l m:List Tx}{p:Nat}(a:1<(parts l p).length)(j:m∈parts l p):m.length<l.length:=by
 obtain⟨c,q,rfl,s⟩:=parts_mem.mp j;rw[parts,bS]at a;obtain⟨d,n,b⟩:∃d∈ans l p,d≠c:=by
  have nd:=ans_nodup l p
  match e:ans l p with
  |[]=>rw[e]at a;simp at a
  |[x]=>rw[e]at a;simp at a
  |x::y::r=>
   rw[e]at nd;by_cases z:x=c
   .refine⟨y,by simp,λw=>?_⟩;have:=(jK.mp nd).1;exact this (by rw[z,<-w];simp)
   .exact⟨x,by simp,z⟩
 have o:=of_decide_eq_true (gU.mp n).2;obtain⟨t,i⟩:=List.exists_mem_of_ne_nil _ o;obtain⟨g,h⟩:=gU.mp i;rcases yC (wl l p c).length l.length with z|z
 .exact z
 .have e:=(wl_sub l p c).eq_of_length_le z;rw[<-e]at g;have f:=of_decide_eq_true (gU.mp g).2;rw[of_decide_eq_true h]at f;exact absurd (fk f) b
theorem can_succ:∀(m:Nat) {l:List Tx},can m l=ah->can (m+1) l=ah
 |0,l,h=>by unfold can at h;unfold can;rw[h];rfl
 |m+1,l,h=>by unfold can at h ⊢;rw[pO]at h ⊢;refine h.imp id λh=>?_;obtain⟨p,b,h⟩:=k_.mp h;rw[dS]at h;exact k_.mpr ⟨p,b,by rw[dS];exact⟨h.1,iR.mpr λq a=>can_succ m (iR.mp h.2 q a)⟩⟩
theorem can_le{m n:Nat}{l:List Tx}(h:m<=n)(a:can m l=ah):can n l=ah:=by
 induction n with
 |zero=>
  obtain rfl:m=0:=∅
  exact a
 |succ n b=>
  rcases yC m (n+1)with z|z
  .exact can_succ n (b ∅)
  .obtain rfl:m=n+1:=∅
   exact a
theorem Ql.differ{l:List Tx}(h:Ql l)(n:2<=l.length):∃p,p<wide l/\1<(parts l p).length:=by
 match l,h,n with
 |x::y::r,h,_=>
  have i:x≠y:=λz=>(jK.mp h.nd).1 (by rw[z];simp);have A:=h.len x (by simp);have v:=h.len y (by simp);obtain⟨p,j,m⟩:∃p,p<wide (x::y::r)/\x[p]?≠y[p]?:=Decidable.byContradiction λz=>i (uU λp=>Decidable.byContradiction λw=>by
   rcases yC p (wide (x::y::r))with q|q
   .exact z ⟨p,q,w⟩
   .exact w (by rw[pR ∅,pR ∅]))
  refine⟨p,j,?_⟩;have b:∀t∈x::y::r,∃c,t[p]?=aa c/\c∈ans (x::y::r) p:=λt g=>by
   have B:=h.len t g;have a:p<t.length:=∅
   refine⟨t[p],e_ a,gU.mpr ⟨h.abc t g _ (uR a),decide_eq_true (List.ne_nil_of_mem (gU.mpr ⟨g,decide_eq_true (e_ a)⟩))⟩⟩
  obtain⟨c,o,f⟩:=b x (by simp);obtain⟨d,d1,d2⟩:=b y (by simp);have s:c≠d:=λz=>m (by rw[o,d1,z]);rw[parts,bS]
  match e:ans (x::y::r) p with
  |[]=>rw[e]at f;cases f
  |[u]=>rw[e]at f d2;exact absurd ((gX.mp f).trans (gX.mp d2).symm) s
  |_::_::_=>simp
theorem Ql.can{l:List Tx}(h:Ql l):∀(k:Nat),l.length<=k+1->Sh.can k l=ah:=by
 intro k
 induction k generalizing l with
 |zero=>intro f;have:=nu.mpr h.ne;unfold Sh.can;exact decide_eq_true ∅
 |succ k c=>
  intro f;unfold Sh.can;rw[pO];by_cases g:l.length=1
  .exact .inl (decide_eq_true g)
  .have:=nu.mpr h.ne;obtain⟨p,d,a⟩:=h.differ ∅;refine .inr (k_.mpr ⟨p,mY.mpr d,?_⟩);rw[dS];exact⟨decide_eq_true a,iR.mpr λm b=>c (h.part b).1 (by have:=part_lt a b;lia)⟩
def nd(l:List Tx):Nat:=((bX l.length).filter λm=>can m l).headD 0
theorem range_first(f:Nat->Bool):∀n,(∃m,m<n/\f m=ah)->∃m r,(bX n).filter f=m::r/\f m=ah/\(∀i,i<m->f i=aj)/\m<n:=by
 intro n
 induction n with
 |zero=>rintro⟨m,h,_⟩;lia
 |succ n c=>
  rintro⟨m,j,b⟩;rw[uQ,G2];by_cases h:∃m,m<n/\f m=ah
  .obtain⟨m,r,e,g,d,l⟩:=c h;exact⟨m,r++[n].filter f,by rw[e];rfl,g,d,∅⟩
  .have e:m=n:=by
    rcases yC m n with z|z
    .exact absurd ⟨m,z,b⟩ h
    .lia
   subst e;refine⟨m,[],?_,b,λi a=>?_,∅⟩
   .rw[B_.mpr λi a=>λz=>h ⟨i,mY.mp a,z⟩];simp[b]
   .cases q:f i with
    |false=>rfl
    |true=>exact absurd ⟨i,a,q⟩ h
theorem Ql.ndS{l:List Tx}(h:Ql l):∃r,(bX l.length).filter (λm=>Sh.can m l)=Sh.nd l::r/\Sh.can (Sh.nd l) l=ah/\(∀m,m<Sh.nd l->Sh.can m l=aj)/\Sh.nd l<l.length:=by
 have d:=nu.mpr h.ne;obtain⟨m,r,e,c,b,a⟩:=range_first (λm=>Sh.can m l) l.length ⟨l.length-1,∅,h.can _ ∅⟩;have:Sh.nd l=m:=by unfold Sh.nd;rw[e];rfl
 rw[this];exact⟨r,e,c,b,a⟩
theorem Ql.nd_le{l:List Tx}(h:Ql l)(m:Nat):Sh.can m l=ah↔Sh.nd l<=m:=by
 obtain⟨_,_,c,b,_⟩:=h.ndS;constructor
 .intro a;rcases yC m (Sh.nd l)with z|z
  .rw[b m z]at a;cases a
  .exact z
 .exact λz=>can_le z c
theorem Ql.nd_one{l:List Tx}(h:Ql l)(b:l.length=1):Sh.nd l=0:=by obtain⟨_,_,_,_,a⟩:=h.ndS;lia
def mxI(l:List Nat):Nat:=l.foldl max 0
theorem mxI_le:∀(l:List Nat) (b m:Nat),l.foldl max b<=m↔b<=m/\∀x∈l,x<=m
 |[],b,m=>by simp
 |x::l,b,m=>by rw[nk,mxI_le l (max b x) m];simp only[b8,forall_eq_or_imp,Nat.max_le,and_assoc]
def plq(l:List Tx):List Nat:=(bX (wide l)).filter λp=>decide (1<(ans l p).length)
def nb(l:List Tx)(p:Nat):Nat:=1+mxI ((parts l p).map nd)
theorem Ql.nd_min{l:List Tx}(h:Ql l)(u:2<=l.length):(∃p∈plq l,nb l p=Sh.nd l)/\∀p∈plq l,Sh.nd l<=nb l p:=by
 have o:∀p,p∈plq l↔p<wide l/\1<(parts l p).length:=λp=>by unfold plq;rw[gU,mY,decide_eq_true_iff,parts,bS]
 have i:∀p∈plq l,∀m,nb l p<=m+1->Sh.can (m+1) l=ah:=λp f m s=>by obtain⟨j,n⟩:=(o p).mp f;unfold nb mxI at s;have g:=((mxI_le ((parts l p).map Sh.nd) 0 m).mp ∅).2;unfold Sh.can;rw[pO];refine .inr (k_.mpr ⟨p,mY.mpr j,?_⟩);rw[dS];exact⟨decide_eq_true n,iR.mpr λq c=>((h.part c).1.nd_le m).mpr (g _ (b0.mpr ⟨q,c,rfl⟩))⟩
 have b:∀p∈plq l,Sh.nd l<=nb l p:=λp f=>by
  obtain⟨m,e⟩:∃m,nb l p=m+1:=⟨mxI ((parts l p).map Sh.nd),by unfold nb;lia⟩
  rw[e];exact(h.nd_le _).mp (i p f m ∅)
 refine⟨?_,b⟩;obtain⟨_,_,a,_,_⟩:=h.ndS;cases e:Sh.nd l with
 |zero=>rw[e]at a;unfold Sh.can at a;have:=of_decide_eq_true a;lia
 |succ m=>
  rw[e]at a;unfold Sh.can at a;rw[pO]at a;rcases a with a|a
  .have:=of_decide_eq_true a;lia
  .obtain⟨p,f,a⟩:=k_.mp a;rw[dS]at a;have d:=(o p).mpr ⟨mY.mp f,of_decide_eq_true a.1⟩;refine⟨p,d,?_⟩;have j:=b p d;have n:mxI ((parts l p).map Sh.nd)<=m:=(mxI_le _ 0 m).mpr ⟨jJ _,λx r=>by obtain⟨q,c,rfl⟩:=b0.mp r;exact((h.part c).1.nd_le m).mp (iR.mp a.2 q c)⟩;unfold nb at j ⊢;lia
structure Vd where
 w:Nat
 ls:List Tx
def tx(v:Vd):List Tx:=cg v.w v.ls
section
variable{a:Ad}
theorem sk_ix{t:Tx}{p:Nat}(h:p<t.length):bv (.str t) (.int p)=aa (.str [t[p]]):=by show(dr t ((p:Nat):Int)).map _=_;unfold dr;rw[rj ∅ ∅];simp[h]
theorem sk_test{t:Tx}{p c:Nat}(h:p<t.length):(bv (.str t) (.int p)).bind (λv=>Pu.eqT aj v (.str [c]))=aa (.bl (decide (t[p]?=aa c))):=by rw[sk_ix h,gu,z8,u0];congr 2;exact decide_eq_decide.mpr (by rw[e_ h];simp)
def hasC(p c:Nat):PV->Bool
 |.str t=>decide (t[p]?=aa c)
 |_=>aj
theorem sk_blk{t:Tx}{p c:Nat}(h:p<t.length)(f:PV):bn (ci [1,2] (dB (d2 (Pu.eqT aj) (d2 bv (dV 0) (dV 1)) (dV 2))) (.str t) [.val f,⇑p,.val (.str [c])])=.ok (decide (t[p]?=aa c)) [.val f,⇑p,.val (.str [c])]:=by have d:=sk_ix h;have b:=sk_test (c:=c) h;rw[d,gu]at b;generalize ((p:Nat):Int)=PI at d;generalize decide (t[p]?=aa c)=B at b;simp![ci,cZ,bn,d,b]
theorem with_eq{L:PV}{l:List Tx}{p c:Nat}(f:hV L=aa (ak l))(h:∀t∈l,p<t.length):iY a [.val L,⇑p,.val (.str [c])]=.ok (.val (.tup (ak (wl l p c)))) [.val L,⇑p,.val (.str [c])]:=by
 have b:=iI (cap:=[1,2]) (dt:=(dB (d2 (Pu.eqT aj) (d2 bv (dV 0) (dV 1)) (dV 2)))) (de:=dV 0) (ε:=[.val L,⇑p,.val (.str [c])]) (hasC p c) (λv=>v) (ak l) (λv g=>by obtain⟨t,d,rfl⟩:=b0.mp g;exact⟨sk_blk (h t d) L,λ_=>by generalize ((p:Nat):Int)=PI;simp![ci,cZ,bn]⟩) [];have i:((ak l).filter (hasC p c)).map (λv=>v)=ak (wl l p c):=by rw[pX];unfold ak wl;rw[k9];rfl
 rw[ik,i]at b;have d:j5 [.lst (ak (wl l p c))]=aa (.tup (ak (wl l p c))):=rfl;generalize ak (wl l p c)=W at b d;generalize ak l=TL at b f;generalize ((p:Nat):Int)=PI at b;simp![iY,yaW,bx,bT,f,b,d]
def sgP(b:Tx):List PV:=b.map λc=>.str [c]
theorem sk_len{x:PV}{n:Nat}{d:ae->R PV}{ε:ae}(h:d ε=.ok x ε)(b:aP [x]=aa (.int n))(k:Nat):dB (d2 (bI λi j=>decide (j<i)) (dL aP (am d ar)) (dC (.int k))) ε=.ok (decide (k<n)) ε:=by
 have e:(bI λi j=>decide (j<i)) (.int n) (.int k)=aa (.bl (decide (k<n))):=by show aa (PV.bl (decide (((k:Nat):Int)<(n:Nat))))=_;congr 2;exact decide_eq_decide.mpr ∅
 generalize ((n:Nat):Int)=N at b e;generalize ((k:Nat):Int)=KI at e;simp[dB,d2,dL,am,ar,dC,h,b,e,R.bind,aC,eK]
theorem sk_call3{G:ae->R Slot}{d e f:ae->R PV}{ε:ae}{x y z u:PV}(h:d ε=.ok x ε)(g:e ε=.ok y ε)(c:f ε=.ok z ε)(b:G [.val x,.val y,.val z]=.ok (.val u) [.val x,.val y,.val z]):aA (ay G (gV d (gV e (gV f Pu.bq)))) ε=.ok u ε:=by simp[aA,ay,gV,Pu.bq,h,g,c,b,R.bind,aC,cc,cb,br,bU,ce,iP]
theorem sk_call2o{G:ae->R Slot}{d e:ae->R PV}{ε:ae}{x y:PV}{l:List PV}(h:d ε=.ok x ε)(c:e ε=.ok y ε)(b:G [.val x,.val y]=.ok (.own (.lst l)) [.val x,.val y]):aA (ay G (gV d (gV e Pu.bq))) ε=.ok (.lst l) ε:=by simp[aA,ay,gV,Pu.bq,h,c,b,R.bind,aC,cc,cb,br,bU,ce,iP,lw]
theorem sk_call1o{G:ae->R Slot}{d:ae->R PV}{ε:ae}{x:PV}{l:List PV}(h:d ε=.ok x ε)(b:G [.val x]=.ok (.own (.lst l)) [.val x]):aA (ay G (gV d Pu.bq)) ε=.ok (.lst l) ε:=by simp[aA,ay,gV,Pu.bq,h,b,R.bind,aC,cc,cb,br,bU,ce,iP,lw]
theorem blk2{f:Type}{d:ae->R f}{x c b:PV}{r:f}(h:d [.val x,.val c,.val b]=.ok r [.val x,.val c,.val b]):bn (ci [0,1] d x [.val c,.val b])=.ok r [.val c,.val b]:=by simp[ci,cZ,bn,br,bU,R.bind,aC,h,cc,ce,cb]
theorem blk1{c:Type}{d:ae->R c}{x b:PV}{r:c}(h:d [.val x,.val b]=.ok r [.val x,.val b]):bn (ci [0] d x [.val b])=.ok r [.val b]:=by simp[ci,cZ,bn,br,bU,R.bind,aC,h,cc,ce,cb]
def ansB(l:List Tx)(p:Nat):PV->Bool
 |.str [c]=>decide (wl l p c≠[])
 |_=>aj
theorem answers_eq{L:PV}{l:List Tx}{p:Nat}(r:hV L=aa (ak l))(o:∀t∈l,p<t.length):kJ a [.val L,⇑p]=.ok (.own (.lst (sgP (ans l p)))) [.val L,⇑p]:=by
 have b:=iI (cap:=[0,1]) (dt:=(dB (d2 (bI λi j=>decide (j<i)) (dL aP (am (aA (ay (iY a) (gV (dV 1) (gV (dV 2) (gV (dV 0) (Pu.bq)))))) (ar))) (dC (.int 0))))) (de:=dV 0) (ε:=[.val L,⇑p]) (ansB l p) (λv=>v) (sgP bu) (λv m=>by obtain⟨c,b,rfl⟩:=b0.mp m;refine⟨blk2 ?_,λ_=>blk2 rfl⟩;have h:=sk_len (sk_call3 (d:=dV 1) (e:=dV 2) (f:=dV 0) (ε:=[.val (.str [c]),.val L,⇑p]) rfl rfl rfl (with_eq (a:=a) r o)) (n:=(wl l p c).length) (by simp[aP,gL]) 0;refine h.trans ?_;congr 1;exact decide_eq_decide.mpr nu) [];have q:((sgP bu).filter (ansB l p)).map (λv=>v)=sgP (ans l p):=by rw[pX];unfold sgP ans;rw[k9];rfl
 rw[ik,q]at b;have g:hV (.str [97,98,99])=aa (sgP bu):=rfl;unfold kJ yao;generalize (dB (d2 (bI λi j=>decide (j<i)) (dL aP (am (aA (ay (iY a) (gV (dV 1) (gV (dV 2) (gV (dV 0) (Pu.bq)))))) (ar))) (dC (.int 0))))=DT at b;generalize sgP (ans l p)=W at b;generalize sgP bu=TL at b g;generalize ((p:Nat):Int)=PI at b;simp![bx,bT,kj,g,b]
theorem sg_len(b:Tx):aP [.lst (sgP b)]=aa (.int (b.length:Nat)):=by simp[aP,sgP]
def plB(l:List Tx):PV->Bool
 |.int i=>decide (1<(ans l i.toNat).length)
 |_=>aj
def nsP(l:List Nat):List PV:=l.map λp=>.int (p:Nat)
theorem rng_ns(n:Nat):fg 0 n=nsP (bX n):=by unfold fg nsP;exact lR λi _=>by simp
theorem places_eq{l:List Tx}(h:Ql l)(s:wide l<=1000):nP a [.val (.tup (ak l))]=.ok (.own (.lst (nsP (plq l)))) [.val (.tup (ak l))]:=by
 have b:=iI (cap:=[0]) (dt:=(dB (d2 (bI λi j=>decide (j<i)) (dL aP (am (aA (ay (kJ a) (gV (dV 1) (gV (dV 0) (Pu.bq))))) (ar))) (dC (.int 1))))) (de:=dV 0) (ε:=[.val (.tup (ak l))]) (plB l) (λv=>v) (nsP (bX (wide l))) (λv n=>by obtain⟨p,f,rfl⟩:=b0.mp n;have f:=mY.mp f;refine⟨blk1 ?_,λ_=>blk1 rfl⟩;have h:=sk_len (sk_call2o (d:=dV 1) (e:=dV 0) (ε:=[⇑p,.val (.tup (ak l))]) rfl rfl (answers_eq (a:=a) rfl λt o=>by rw[h.len t o];exact f)) (sg_len _) 1;exact h) [];have q:((nsP (bX (wide l))).filter (plB l)).map (λv=>v)=nsP (plq l):=by rw[pX];unfold nsP plq;rw[k9];congr 1
 rw[ik,q]at b;obtain⟨x,r,e⟩:=pY h.ne;have m:bv (.tup (ak l)) (.int 0)=aa (.str x):=by rw[e];show dr (ak (x::r)) ((0:Nat):Int)=_;unfold dr;rw[rj ∅ (by simp[ak])];rfl
 have g:aP [.str x]=aa (.int (wide l:Nat)):=by have:x.length=wide l:=h.len x (by rw[e];simp);show aa (PV.int (x.length:Nat))=_;rw[this]
 have c:f_ [.int (wide l:Nat)]=aa (nsP (bX (wide l))):=by rw[<-rng_ns];exact pd ∅
 unfold nP yaU;generalize (dB (d2 (bI λi j=>decide (j<i)) (dL aP (am (aA (ay (kJ a) (gV (dV 1) (gV (dV 0) (Pu.bq))))) (ar))) (dC (.int 1))))=DT at b;generalize nsP (plq l)=W at b;generalize nsP (bX (wide l))=TL at b c;generalize ((wide l:Nat):Int)=WI at g c;generalize ak l=TX at b m;simp![bT,kj,m,g,c,b]
end
theorem ints_nat(l:List Nat):gZ (nsP l)=aa (l.map λi:Nat=>(i:Int)):=by
 induction l with
 |nil=>rfl
 |cons x l a=>show(gZ (nsP l)).map _=_;rw[a];rfl
theorem max_fold:∀(r:List Nat) (b:Nat),(r.map λi:Nat=>(i:Int)).foldl (λb y=>if y > b then y else b) (b:Int)=((r.foldl max b:Nat):Int)
 |[],b=>rfl
 |x::r,b=>by
  rw[eY,nk,nk];have e:(if((x:Nat):Int) > (b:Nat)then((x:Nat):Int)else(b:Nat))=((max b x:Nat):Int):=by split <;> lia
  rw[e];exact max_fold r (max b x)
theorem maxP_nat{l:List Nat}(h:l≠[]):tX [.lst (nsP l)]=aa (.int (mxI l:Nat)):=by
 show(gZ (nsP l)).bind _=_;rw[ints_nat,gu,if_pos (by simpa using h)];congr 2
 match l,h with
 |x::r,_=>show(r.map λi:Nat=>(i:Int)).foldl (λb y=>if y > b then y else b) ((x:Nat):Int)=_;rw[max_fold];unfold mxI;rw[nk,Nat.zero_max]
theorem min_fold:∀(r:List Nat) (b m:Nat),m<=b->(∀x∈r,m<=x)->(m=b\/m∈r)->(r.map λi:Nat=>(i:Int)).foldl (λb y=>if y<b then y else b) (b:Int)=(m:Int)
 |[],b,m,_,_,h=>by
  rcases h with rfl|h
  .rfl
  .cases h
 |x::r,b,m,g,c,h=>by
  rw[eY,nk];have e:(if((x:Nat):Int)<(b:Nat)then((x:Nat):Int)else(b:Nat))=((min b x:Nat):Int):=by split <;> lia
  rw[e];have f:=c x (by simp);refine min_fold r (min b x) m ∅ (λy d=>c y (by simp[d])) ?_;rcases h with h|h
  .exact .inl ∅
  .rcases b8.mp h with h|h
   .exact .inl ∅
   .exact .inr h
theorem minP_nat{l:List Nat}{m:Nat}(h:m∈l)(a:∀x∈l,m<=x):rD [.lst (nsP l)]=aa (.int m):=by
 have c:=List.ne_nil_of_mem h;show(gZ (nsP l)).bind _=_;rw[ints_nat,gu,if_pos (by simpa using c)];congr 2
 match l,h,a with
 |x::r,h,a=>exact min_fold r x m (a x (by simp)) (λy b=>a y (by simp[b])) (b8.mp h)
def subs:List Tx->List (List Tx)
 |[]=>[[]]
 |x::l=>subs l++(subs l).map (x::·)
theorem subs_mem:∀{l m:List Tx},m.Sublist l->m∈subs l
 |[],m,h=>by rw[List.sublist_nil.mp h];simp[subs]
 |x::l,m,h=>by
  unfold subs;rw[kT,b0];cases h with
  |cons _ h=>exact .inl (subs_mem h)
  |cons_cons _ h=>exact .inr ⟨_,subs_mem h,rfl⟩
theorem subs_len:∀l:List Tx,(subs l).length=2^l.length
 |[]=>rfl
 |x::l=>by rw[subs,eZ,bS,subs_len l,fL,Nat.pow_succ];lia
structure Kn(l0:List Tx)(kvs:List (cH×PV)):Prop where
 key:∀q∈kvs,∃l:List Tx,q.1=fi l/\q.2=.int (nd l:Nat)/\l.Sublist l0
 nd:(kvs.map (·.1)).Nodup
theorem Kn.nil(l0:List Tx):Kn l0 []:=⟨(λq h=>by cases h),List.Pairwise.nil⟩
theorem Kn.len{l0:List Tx}{kvs:List (cH×PV)}(h:Kn l0 kvs)(f:l0.length<=16):kvs.length<=65536:=by
 have d:=h.nd.length_le_of_subset (l₂:=(subs l0).map fi) λk c=>by obtain⟨q,b,rfl⟩:=b0.mp c;obtain⟨l,e,_,a⟩:=h.key q b;exact b0.mpr ⟨l,subs_mem a,e.symm⟩
 rw[bS,bS,subs_len]at d;have:2^l0.length<=2^16:=Hf (by decide) f;lia
theorem Kn.val{l0 l:List Tx}{kvs:List (cH×PV)}(h:Kn l0 kvs):f9 kvs (fi l)=af\/f9 kvs (fi l)=aa (.int (Sh.nd l:Nat)):=by
 unfold f9;cases e:kvs.find? λa=>decide (a.1=fi l)with
 |none=>exact .inl rfl
 |some q=>obtain⟨m,d,c,_⟩:=h.key q (Hc e);have b:q.1=fi l:=of_decide_eq_true (List.find?_some (p:=λa:cH×PV=>decide (a.1=fi l)) e);rw[d]at b;have:=txKey_ii.mp b;subst this;exact .inr (by rw[pQ,c])
theorem valT_none{a:List (cH×PV)}{k:cH}(h:f9 a k=af):∀q∈a,q.1≠k:=λq b e=>by unfold f9 at h;rw[Cc,Hb]at h;exact h q b (decide_eq_true e)
theorem putT_new{a:List (cH×PV)}{k:cH}{v:PV}(h:f9 a k=af):jQ a k v=a++[(k,v)]/\f9 (a++[(k,v)]) k=aa v:=by
 have c:=valT_none h;refine⟨?_,?_⟩
 .unfold jQ;rw[if_neg];intro z;obtain⟨q,b,e⟩:=k_.mp z;exact c q b (of_decide_eq_true e)
 .unfold f9 at h ⊢;rw[Cc]at h;rw[List.find?_append,h];simp
theorem Kn.put{c l:List Tx}{a:List (cH×PV)}(h:Kn c a)(g:l.Sublist c)(f:f9 a (fi l)=af):Kn c (a++[(fi l,.int (Sh.nd l:Nat))]):=by
 refine⟨λq b=>?_,?_⟩
 .rcases kT.mp b with b|b
  .exact h.key q b
  .rw[gX.mp b];exact⟨l,rfl,rfl,g⟩
 .rw[oq,yy];refine⟨h.nd,by simp,λk i j d=>?_⟩;obtain⟨q,b,rfl⟩:=b0.mp i;have d:j=fi l:=by simpa using d
  rw[d];exact valT_none f q b
section
variable{a:Ad}
def partE(b:ae->R Slot):ae->R PV:=(aA (ay (b) (gV (dV 0) (gO 1 (Pu.bq)))))
theorem part_blk{d:ae->R Slot}{s0 s1 s3:Slot}{m:List Tx}{c b:List (cH×PV)}{n:Nat}(h:d [.val (.tup (ak m)),.own (.dT c)]=.ok (⇑n) [.val (.tup (ak m)),.own (.dT b)]):bn (ci [2] (partE d) (jW m) [s0,s1,.own (.dT c),s3])=.ok (.int n) [s0,s1,.own (.dT b),s3]:=by have e:jW m=.tup (ak m):=rfl;rw[e];generalize ak m=M at h;generalize ((n:Nat):Int)=N at h;simp[partE,ci,cZ,bn,br,bU,R.bind,aC,aA,ay,gV,gO,dV,Pu.bq,h,cc,ce,cb,iP]
theorem part_loop{rc:ae->R Slot}{g:List Tx}{s0 s1 s3:Slot}:∀(d:List (List Tx)) (f:List PV) (b:List (cH×PV)),Kn g b -> (∀m∈d,∀b,Kn g b->∃c,Kn g c/\rc [.val (.tup (ak m)),.own (.dT b)]=.ok (⇑(nd m:Nat)) [.val (.tup (ak m)),.own (.dT c)]) -> ∃c,Kn g c/\iN [2] dy (partE rc) (d.map jW) f [s0,s1,.own (.dT b),s3]=.ok (f++nsP (d.map nd)) [s0,s1,.own (.dT c),s3]
 |[],f,b,j,_=>⟨b,j,by simp[iN,nsP]⟩
 |m::d,f,b,j,h=>by obtain⟨o,v,u⟩:=h m (by simp) b j;obtain⟨n,s,r⟩:=part_loop d (f++[.int (nd m:Nat)]) o v λl i=>h l (by simp[i]);refine⟨n,s,?_⟩;have q:=part_blk (s0:=s0) (s1:=s1) (s3:=s3) u;have p:bn (ci [2] dy (jW m) [s0,s1,.own (.dT b),s3])=.ok ah [s0,s1,.own (.dT b),s3]:=rfl;rw[eY,iN,p,R.bind_ok];show(bn (ci [2] (partE rc) (jW m) [s0,s1,.own (.dT b),s3])).bind _=_;rw[q,R.bind_ok,r,BZ];rfl
theorem blk_v{f:Type}{d:ae->R f}{x c b:PV}{i g:Slot}{r:f}(h:d [.val x,.val b,.val c]=.ok r [.val x,.val b,.val c]):bn (ci [1,0] d x [.val c,.val b,i,g])=.ok r [.val c,.val b,i,g]:=by simp[ci,cZ,bn,br,bU,R.bind,aC,h,cc,ce,cb]
def prtP(l:List Tx)(p:Nat):PV->PV
 |.str [c]=>jW (wl l p c)
 |v=>v
theorem parts_val{l:List Tx}{p:Nat}(i:∀t∈l,p<t.length)(b s3:Slot):dF (bT [1,0] (bx (aA (ay (kJ a) (gV (dV 1) (gV (dV 0) (Pu.bq)))))) (dy) (aA (ay (iY a) (gV (dV 1) (gV (dV 2) (gV (dV 0) (Pu.bq))))))) [⇑p,.val (.tup (ak l)),b,s3]=.ok (.lst ((parts l p).map jW)) [⇑p,.val (.tup (ak l)),b,s3]:=by
 have g:=iI (cap:=[1,0]) (dt:=dy) (de:=(aA (ay (iY a) (gV (dV 1) (gV (dV 2) (gV (dV 0) (Pu.bq))))))) (ε:=[⇑p,.val (.tup (ak l)),b,s3]) (λ_=>ah) (prtP l p) (sgP (ans l p)) (λv j=>by obtain⟨c,g,rfl⟩:=b0.mp j;refine⟨rfl,λ_=>blk_v ?_⟩;exact sk_call3 (d:=dV 1) (e:=dV 2) (f:=dV 0) (ε:=[.val (.str [c]),.val (.tup (ak l)),⇑p]) rfl rfl rfl (with_eq (a:=a) rfl i)) [];have n:((sgP (ans l p)).filter (λ_=>ah)).map (prtP l p)=(parts l p).map jW:=by rw[uY.mpr (λ_ _=>rfl)];unfold sgP parts;rw[fc,fc];rfl
 rw[ik,n]at g;have m:bx (aA (ay (kJ a) (gV (dV 1) (gV (dV 0) (Pu.bq))))) [⇑p,.val (.tup (ak l)),b,s3]=.ok (sgP (ans l p)) [⇑p,.val (.tup (ak l)),b,s3]:=by have h:=sk_call2o (d:=dV 1) (e:=dV 0) (ε:=[⇑p,.val (.tup (ak l)),b,s3]) rfl rfl (answers_eq (a:=a) (L:=.tup (ak l)) (p:=p) rfl i);unfold bx;rw[h];rfl
 generalize (parts l p).map jW=PP at g;unfold dF bT;rw[m,R.bind_ok,g];rfl
def nbE(rc:ae->R Slot):ae->R aH:=(a8 (d2 bj (dC (.int 1)) (dL tX (am (dF (bT [2] (bx (dV 3)) (dy) (partE rc))) (ar)))))
theorem nb_def(rc:ae->R Slot):oK a rc=bf 3 [2] (aY 1 (aB (aT 3 (dF (bT [1,0] (bx (aA (ay (kJ a) (gV (dV 1) (gV (dV 0) (Pu.bq)))))) (dy) (aA (ay (iY a) (gV (dV 1) (gV (dV 2) (gV (dV 0) (Pu.bq))))))))) (nbE rc))):=rfl
theorem nb_ret{rc:ae->R Slot}{s0 s1:Slot}{c:List PV}{b:List Nat}{j i:List (cH×PV)}(l:b≠[])(h:iN [2] dy (partE rc) c [] [s0,s1,.own (.dT j),.val (.lst c)]=.ok (nsP b) [s0,s1,.own (.dT i),.val (.lst c)]):nbE rc [s0,s1,.own (.dT j),.val (.lst c)]=.ok (.ret (⇑((1+mxI b:Nat):Int))) [s0,s1,.own (.dT i),.val (.lst c)]:=by
 have f:=maxP_nat l;have g:bj (.int 1) (.int (mxI b:Nat))=aa (.int ((1+mxI b:Nat):Int)):=by show aa (PV.int (1+((mxI b:Nat):Int)))=_;exact congrArg (λz=>aa (PV.int z)) ∅
 generalize nsP b=NS at h f;generalize ((1+mxI b:Nat):Int)=R1 at g;generalize ((mxI b:Nat):Int)=R2 at g f;generalize d:partE rc=PE at h;unfold nbE;rw[d];simp[a8,d2,dC,dL,am,ar,dF,bT,bx,dV,hV,R.bind,aC,h,lw,f,g]
theorem needed_by_eq{rc:ae->R Slot}{f l:List Tx}{p:Nat}(u:Ql l)(n:p∈plq l){c:List (cH×PV)}(v:Kn f c)(h:∀m∈parts l p,∀c,Kn f c->∃b,Kn f b/\rc [.val (.tup (ak m)),.own (.dT c)]=.ok (⇑(nd m:Nat)) [.val (.tup (ak m)),.own (.dT b)]):∃b,Kn f b/\oK a rc [⇑p,.val (.tup (ak l)),.own (.dT c)]=.ok (⇑(nb l p:Nat)) [⇑p,.val (.tup (ak l)),.own (.dT b)]:=by
 unfold plq at n;obtain⟨g,i⟩:=gU.mp n;have g:=mY.mp g;have i:=of_decide_eq_true i;have y:∀t∈l,p<t.length:=λt r=>by rw[u.len t r];exact g
 obtain⟨j,w,o⟩:=part_loop (rc:=rc) (s0:=⇑p) (s1:=.val (.tup (ak l))) (s3:=.val (.lst ((parts l p).map jW))) (parts l p) [] c v h;rw[ik]at o;have x:(parts l p).map nd≠[]:=λz=>by have:=congrArg nh z;rw[bS,parts,bS,lQ]at this;lia
 refine⟨j,w,?_⟩;have q:=parts_val (a:=a) y (.own (.dT c)) .none;have s:=nb_ret x o;rw[nb_def];have d:aB (aT 3 (dF (bT [1,0] (bx (aA (ay (kJ a) (gV (dV 1) (gV (dV 0) (Pu.bq)))))) (dy) (aA (ay (iY a) (gV (dV 1) (gV (dV 2) (gV (dV 0) (Pu.bq))))))))) (nbE rc) [⇑p,.val (.tup (ak l)),.own (.dT c),.none]=.ok (.ret (⇑(nb l p:Nat))) [⇑p,.val (.tup (ak l)),.own (.dT j),.val (.lst ((parts l p).map jW))]:=(bO (fJ q)).trans s;generalize aB (aT 3 _) (nbE rc)=DD at d;generalize (parts l p).map jW=PP at d;generalize ((nb l p:Nat):Int)=NB at d;generalize ((p:Nat):Int)=PI at d;generalize ak l=TX at d;simp[bf,eA,aY,cX,d,back,gK,aC,R.bind]
def plE(a:Ad)(rc:ae->R Slot):ae->R PV:=(aA (ay (oK a rc) (gV (dV 0) (gV (dV 1) (gO 2 (Pu.bq))))))
theorem pl_blk{d:ae->R Slot}{T:PV}{p n:Nat}{c b:List (cH×PV)}(h:oK a d [⇑p,.val T,.own (.dT c)]=.ok (⇑n) [⇑p,.val T,.own (.dT b)]):bn (ci [0,1] (plE a d) (.int p) [.val T,.own (.dT c)])=.ok (.int n) [.val T,.own (.dT b)]:=by generalize f:oK a d=GG at h;generalize ((n:Nat):Int)=N at h;generalize ((p:Nat):Int)=PI at h;unfold plE;rw[f];simp[ci,cZ,bn,br,bU,R.bind,aC,aA,ay,gV,gO,dV,Pu.bq,h,cc,ce,cb,iP]
theorem pl_loop{rc:ae->R Slot}{l0 l:List Tx}(f:Ql l)(h:∀p∈plq l,∀m∈parts l p,∀kvs,Kn l0 kvs->∃b,Kn l0 b/\rc [.val (.tup (ak m)),.own (.dT kvs)]=.ok (⇑(nd m:Nat)) [.val (.tup (ak m)),.own (.dT b)]):∀(c:List Nat) (d:List PV) (kvs:List (cH×PV)),Kn l0 kvs->(∀p∈c,p∈plq l) -> ∃b,Kn l0 b/\iN [0,1] dy (plE a rc) (nsP c) d [.val (.tup (ak l)),.own (.dT kvs)]=.ok (d++nsP (c.map (nb l))) [.val (.tup (ak l)),.own (.dT b)]
 |[],d,kvs,i,_=>⟨kvs,i,by simp[iN,nsP]⟩
 |p::c,d,kvs,i,g=>by obtain⟨j,v,u⟩:=needed_by_eq (a:=a) f (g p (by simp)) i (h p (g p (by simp)));obtain⟨k2,s,r⟩:=pl_loop f h c (d++[.int (nb l p:Nat)]) j v λq f=>g q (by simp[f]);refine⟨k2,s,?_⟩;have o:=pl_blk u;have n:bn (ci [0,1] dy (.int p) [.val (.tup (ak l)),.own (.dT kvs)])=.ok ah [.val (.tup (ak l)),.own (.dT kvs)]:=rfl;have e:nsP (p::c)=.int p::nsP c:=rfl;rw[e,iN,n,R.bind_ok];show(bn (ci [0,1] (plE a rc) (.int p) [.val (.tup (ak l)),.own (.dT kvs)])).bind _=_;rw[o,R.bind_ok,r,BZ];rfl
def nfP(a:Ad)(rc:ae->R Slot):ae->R aH:=(sY 1 (dV 0) (dL rD (am (dF (bT [0,1] (bx (aA (ay (nP a) (gV (dV 0) (Pu.bq))))) (dy) (plE a rc))) (ar))))
def nfI(a:Ad)(rc:ae->R Slot):ae->R aH:=(a6 (dB (mG ah 1 (dV 0))) (nfP a rc) (bF))
def nfH:ae->R aH:=(a6 (dB (d2 (Pu.eqT aj) (dL aP (am (dV 0) (ar))) (dC (.int 1)))) (a8 (dC (.int 0))) (bF))
theorem nf_def(rc:ae->R Slot):yaT a rc=aB nfH (aB (nfI a rc) (a8 (rO 1 (dV 0)))):=rfl
theorem nfH_eq{T:PV}{n:Nat}(c:aP [T]=aa (.int n))(d:Slot):nfH [.val T,d]=if n=1 then .ok (.ret (⇑0)) [.val T,d] else .ok .next [.val T,d]:=by
 have f:=j7 aj (n:Nat) 1;by_cases h:n=1
 .rw[if_pos h];have b:Pu.eqT aj (.int n) (.int 1)=aa (.bl ah):=by rw[f,decide_eq_true ∅];rfl
  generalize ((n:Nat):Int)=N at c b;simp[nfH,a6,dB,d2,dL,am,ar,dV,dC,c,b,R.bind,aC,eK,a8]
 .rw[if_neg h];have b:Pu.eqT aj (.int n) (.int 1)=aa (.bl aj):=by rw[f,decide_eq_false ∅];rfl
  generalize ((n:Nat):Int)=N at c b;simp[nfH,a6,dB,d2,dL,am,ar,dV,dC,c,b,R.bind,aC,eK,bF]
theorem tkey_sk(k:List Tx):mS (.tup (ak k))=aa (fi k):=by
 show qh (ak k)=_
 induction k with
 |nil=>rfl
 |cons x k b=>show(g8 (.str x)).bind _=_;show(qh (ak k)).map _=_;rw[b];rfl
theorem nf_in{l:List Tx}{kvs:List (cH×PV)}{b:Bool}(d:(f9 kvs (fi l)).isSome=b):dB (mG ah 1 (dV 0)) [.val (.tup (ak l)),.own (.dT kvs)]=.ok (!b) [.val (.tup (ak l)),.own (.dT kvs)]:=by have c:=tkey_sk l;generalize ak l=TX at c;simp only[dB,mG,dV,iU,c,R.bind,aC,eK,List.getElem?_cons_zero,List.getElem?_cons_succ,pQ,d,Bool.true_xor]
theorem nf_get{l:List Tx}{kvs:List (cH×PV)}{v:PV}(c:f9 kvs (fi l)=aa v):a8 (rO 1 (dV 0)) [.val (.tup (ak l)),.own (.dT kvs)]=.ok (.ret (.val v)) [.val (.tup (ak l)),.own (.dT kvs)]:=by have b:=tkey_sk l;generalize ak l=TX at b;simp[a8,rO,dV,iU,b,c,R.bind,aC]
theorem nf_put{d:ae->R PV}{l:List Tx}{b k2:List (cH×PV)}{v:PV}(f:d [.val (.tup (ak l)),.own (.dT b)]=.ok v [.val (.tup (ak l)),.own (.dT k2)])(g:k2.length<bH):sY 1 (dV 0) d [.val (.tup (ak l)),.own (.dT b)]=.ok .next [.val (.tup (ak l)),.own (.dT (jQ k2 (fi l) v))]:=by have c:=tkey_sk l;generalize ak l=TX at c f;simp[sY,dV,iU,f,c,g,R.bind,aC]
theorem nf_ret{d:ae->R aH}{b v:PV}{c k2:List (cH×PV)}(h:d [.val b,.own (.dT c)]=.ok (.ret (.val v)) [.val b,.own (.dT k2)]):bf 2 [1] (aY 0 d) [.val b,.own (.dT c)]=.ok (.val v) [.val b,.own (.dT k2)]:=by simp[bf,eA,aY,cX,h,back,gK,aC,R.bind]
theorem Kn.get{l0 l:List Tx}{kvs:List (cH×PV)}(h:Kn l0 kvs)(i:l.Sublist l0):f9 (jQ kvs (fi l) (.int (Sh.nd l:Nat))) (fi l)=aa (.int (Sh.nd l:Nat))/\Kn l0 (jQ kvs (fi l) (.int (Sh.nd l:Nat))):=by
 rcases h.val (l:=l)with e|e
 .obtain⟨f,d⟩:=putT_new (v:=.int (Sh.nd l:Nat)) e;rw[f];exact⟨d,h.put i e⟩
 .have n:jQ kvs (fi l) (.int (Sh.nd l:Nat))=kvs:=by
   unfold jQ;split
   .refine(lR λq b=>?_).trans (pX kvs);split
    .rename_i c;obtain⟨m,f,d,_⟩:=h.key q b;have:=txKey_ii.mp (f.symm.trans c);subst this;rw[<-d]
    .rfl
   .rename_i j;exfalso;refine j (k_.mpr ?_);unfold f9 at e;obtain⟨q,b,_⟩:=uL.mp e;exact⟨q,Hc b,List.find?_some (p:=λg:cH×PV=>decide (g.1=fi l)) b⟩
  rw[n];exact⟨e,h⟩
theorem needed_eq{l0:List Tx}(X:l0.length<=16)(M:∀l,Ql l->l.Sublist l0->wide l<=1000):∀(k j:Nat) (l:List Tx) (kvs:List (cH×PV)),l.length<=k+1->k+1<=j->Ql l->l.Sublist l0->Kn l0 kvs -> ∃c,Kn l0 c/\jg a j [.val (.tup (ak l)),.own (.dT kvs)]=.ok (⇑(nd l:Nat)) [.val (.tup (ak l)),.own (.dT c)]:=by
 intro k
 induction k with
 |zero=>
  intro j l kvs N O g y r;obtain⟨f,rfl⟩:∃f,j=f+1:=⟨j-1,∅⟩
  have u:l.length=1:=by have:=nu.mpr g.ne;lia
  refine⟨kvs,r,?_⟩;rw[g.nd_one u];show bf 2 [1] (aY 0 (yaT a (jg a f))) _=_;refine nf_ret ?_;rw[nf_def];have i:=nfH_eq (T:=.tup (ak l)) (n:=l.length) (by simp[aP,gL]) (.own (.dT kvs));rw[if_pos u]at i;unfold aB;rw[i];rfl
 |succ k K=>
  intro j l kvs N O g y r;obtain⟨f,rfl⟩:∃f,j=f+1:=⟨j-1,∅⟩
  have i:=nfH_eq (T:=.tup (ak l)) (n:=l.length) (by simp[aP,gL]) (.own (.dT kvs));show ∃c,Kn l0 c/\bf 2 [1] (aY 0 (yaT a (jg a f))) _=_;by_cases u:l.length=1
  .refine⟨kvs,r,?_⟩;rw[g.nd_one u];refine nf_ret ?_;rw[nf_def];rw[if_pos u]at i;unfold aB;rw[i];rfl
  .have Q:2<=l.length:=by have:=nu.mpr g.ne;lia
   rw[if_neg u]at i;rcases r.val (l:=l)with e|e
   .obtain⟨k2,D,s⟩:=pl_loop (a:=a) (rc:=jg a f) (l0:=l0) g (λp A m o c B=>by
     have C:1<(parts l p).length:=by rw[parts,bS];exact of_decide_eq_true (gU.mp A).2
     obtain⟨I,H⟩:=g.part o;have:=part_lt C o;exact K f m c ∅ ∅ I (H.trans y) B) (plq l) [] kvs r λp A=>A
    rw[ik]at s;obtain⟨⟨p,G,C⟩,F⟩:=g.nd_min Q;have o:=minP_nat (l:=(plq l).map (nb l)) (m:=nd l) (b0.mpr ⟨p,G,C⟩) λx L=>by obtain⟨q,J,rfl⟩:=b0.mp L;exact F q J
    have Y:=places_eq (a:=a) g (M l g y);have z:bx (aA (ay (nP a) (gV (dV 0) (Pu.bq)))) [.val (.tup (ak l)),.own (.dT kvs)]=.ok (nsP (plq l)) [.val (.tup (ak l)),.own (.dT kvs)]:=by have h:=sk_call1o (d:=dV 0) (ε:=[.val (.tup (ak l)),.own (.dT kvs)]) rfl Y;unfold bx;rw[h];rfl
    have P:dL rD (am (dF (bT [0,1] (bx (aA (ay (nP a) (gV (dV 0) (Pu.bq))))) (dy) (plE a (jg a f)))) (ar)) [.val (.tup (ak l)),.own (.dT kvs)]=.ok (.int (nd l:Nat)) [.val (.tup (ak l)),.own (.dT k2)]:=by generalize nsP ((plq l).map (nb l))=NN at s o;generalize (plE a (jg a f))=PE at s;generalize nsP (plq l)=PL at s z;generalize (bx (aA (ay (nP a) (gV (dV 0) (Pu.bq)))))=DI at z;generalize ak l=TX at s z;generalize ((nd l:Nat):Int)=ND at o;simp[dL,am,ar,dF,bT,z,s,lw,R.bind,aC,o]
    have w:=nf_put P (by have:=D.len X;unfold bH;lia);obtain⟨W,S⟩:=D.get y;refine⟨_,S,nf_ret (k2:=jQ k2 (fi l) (.int (nd l:Nat))) ?_⟩;rw[nf_def];refine(bO i).trans ((bO ?_).trans (nf_get W));have v:=nf_in (l:=l) (kvs:=kvs) (b:=aj) (by rw[e];rfl);have E:nfP a (jg a f) [.val (.tup (ak l)),.own (.dT kvs)]=_:=w;unfold nfI;generalize nfP a (jg a f)=NP at E;generalize dB (mG ah 1 (dV 0))=D1 at v;simp[a6,v,R.bind,E]
   .refine⟨kvs,r,nf_ret ?_⟩;rw[nf_def];refine(bO i).trans ((bO ?_).trans (nf_get e));have v:=nf_in (l:=l) (kvs:=kvs) (b:=ah) (by rw[e];rfl);unfold nfI;generalize nfP a (jg a f)=NP;generalize dB (mG ah 1 (dV 0))=D1 at v;simp[a6,v,R.bind,bF]
end
def kyC(c:Nat):aJ:=.inr (tS [c])
theorem kyC_inj{c d:Nat}(h:kyC c=kyC d):c=d:=by have a:tS [c]=tS [d]:=Sum.inr.inj h;have:=qy a;simpa using this
def valL(a:List (aJ×List PV))(k:aJ):List PV:=((a.find? λq=>decide (q.1=k)).map (·.2)).getD []
theorem addL_keys:∀(a:List (aJ×List PV)) (k:aJ) (x:PV),(k∈a.map (·.1)->(Pu.addL a k x).map (·.1)=a.map (·.1))/\(k∉a.map (·.1)->(Pu.addL a k x).map (·.1)=a.map (·.1)++[k])
 |[],k,x=>⟨(λh=>by cases h),λ_=>rfl⟩
 |p::r,k,x=>by
  obtain⟨c,b⟩:=addL_keys r k x;unfold Pu.addL;rw[eY];by_cases h:p.1=k
  .rw[if_pos h];exact⟨λ_=>rfl,λz=>absurd (by rw[h];simp) z⟩
  .rw[if_neg h,eY];refine⟨λz=>by rw[c ((b8.mp z).resolve_left λw=>h w.symm)],λz=>?_⟩;rw[b λw=>z (jn _ w)];rfl
theorem addL_val:∀(b:List (aJ×List PV)) (k j:aJ) (x:PV),valL (Pu.addL b k x) j=if j=k then valL b k++[x] else valL b j
 |[],k,j,x=>by
  unfold Pu.addL valL;by_cases h:j=k
  .subst h;simp
  .rw[if_neg h];simp[dQ h]
 |p::r,k,j,x=>by
  have c:=addL_val r k j x;unfold Pu.addL;unfold valL at c ⊢;by_cases h:p.1=k
  .rw[if_pos h];by_cases a:j=k
   .subst a;simp[h]
   .have d:¬p.1=j:=λz=>a (z.symm.trans h);rw[if_neg a];simp[d]
  .rw[if_neg h];by_cases d:p.1=j
   .have a:¬j=k:=λz=>h (d.trans z);rw[if_neg a];simp[d]
   .by_cases a:j=k
    .subst a;rw[if_pos rfl]at c ⊢;simp only[ij,decide_eq_false h,c]
    .rw[if_neg a]at c ⊢;simp only[ij,decide_eq_false d,c]
structure Gk(p:Nat)(ls:List Tx)(kvs:List (aJ×List PV)):Prop where
 keys:∃cs:Tx,kvs.map (·.1)=cs.map kyC/\cs.Nodup/\∀c,c∈cs↔c∈bu/\wl ls p c≠[]
 val:∀c,valL kvs (kyC c)=ak (wl ls p c)
theorem Gk.nil(p:Nat):Gk p [] []:=⟨⟨[],rfl,List.Pairwise.nil,λc=>by simp[wl]⟩,λc=>rfl⟩
theorem wl_snoc(a:List Tx)(t:Tx)(p c:Nat):wl (a++[t]) p c=wl a p c++if t[p]?=aa c then [t] else []:=by unfold wl;rw[G2];congr 1;by_cases h:t[p]?=aa c <;> simp[h]
theorem Gk.step{p:Nat}{f:List Tx}{a:List (aJ×List PV)}(h:Gk p f a){t:Tx}{c:Nat}(u:t[p]?=aa c)(l:c∈bu):Gk p (f++[t]) (Pu.addL a (kyC c) (.str t)):=by
 obtain⟨b,v,m,i⟩:=h.keys;have g:∀d,wl (f++[t]) p d=wl f p d++if d=c then [t] else []:=λd=>by
  rw[wl_snoc,u];congr 1;by_cases z:d=c
  .rw[if_pos z,if_pos (by rw[z])]
  .rw[if_neg z,if_neg (λw=>z (fk w).symm)]
 refine⟨?_,λd=>?_⟩
 .have j:kyC c∈b.map kyC↔c∈b:=⟨λz=>by
   obtain⟨d,s,e⟩:=b0.mp z;rw[<-kyC_inj e];exact s,λz=>b0.mpr ⟨c,z,rfl⟩⟩
  obtain⟨o,n⟩:=addL_keys a (kyC c) (.str t);rw[v]at o n;by_cases z:c∈b
  .rw[o (j.mpr z)];refine⟨b,rfl,m,λd=>?_⟩;rw[i d,g d];by_cases e:d=c
   .rw[e];have:=((i c).mp z).2;simp[l,this]
   .rw[if_neg e];simp
  .rw[n (λw=>z (j.mp w))];refine⟨b++[c],by rw[oq];rfl,?_,λd=>?_⟩
   .rw[yy];exact⟨m,by simp,λx r y q=>by rw[gX.mp q];rintro rfl;exact z r⟩
   .rw[kT,gX,i d,g d];by_cases e:d=c
    .rw[e];simp[l]
    .rw[if_neg e];simp[e]
 .rw[addL_val,g d];by_cases e:d=c
  .subst e;rw[if_pos rfl,if_pos rfl,h.val d];simp[ak]
  .rw[if_neg (λw=>e (kyC_inj w)),if_neg e,h.val d,i5]
theorem Gk.big{p:Nat}{l:List Tx}{d:List (aJ×List PV)}(h:Gk p l d)(A:l.length<=100):um d=ah:=by
 obtain⟨y,j,o,v⟩:=h.keys;have u:d.length<=3:=by have e:=congrArg nh j;rw[bS,bS]at e;rw[e];exact o.length_le_of_subset (l₂:=bu) λc n=>((v c).mp n).1
 unfold um;rw[dS,decide_eq_true_iff,iR];refine⟨by unfold bH;lia,λq g=>decide_eq_true ?_⟩;have f:(d.map (·.1)).Nodup:=by rw[j];exact List.Pairwise.map _ (λa b w e=>w (kyC_inj e)) o
 obtain⟨c,n,e⟩:∃c,c∈y/\kyC c=q.1:=by have:q.1∈d.map (·.1):=b0.mpr ⟨q,g,rfl⟩;rw[j]at this;exact b0.mp this
 have m:=h.val c;have x:valL d (kyC c)=q.2:=by
  rw[e];clear j u m h
  induction d with
  |nil=>cases g
  |cons r d s=>
   rw[eY,jK]at f;rcases b8.mp g with rfl|g
   .simp[valL]
   .have:¬r.1=q.1:=λz=>f.1 (z ▸ b0.mpr ⟨q,g,rfl⟩);have i:=s g f.2;unfold valL at i ⊢;simp only[ij,decide_eq_false this,i]
 rw[<-x,m,gL];have:=(wl_sub l p c).length_le;unfold bH;lia
section
variable{a:Ad}
def lsP(l:List Tx):PV:=.lst (ak l)
def gB:ae->R aH:=(tu 2 3 (d2 bv (dV 3) (dV 1)))
theorem gB_eq{s0 s3:Slot}{p:Nat}{t:Tx}{b:List (aJ×List PV)}(d:p<t.length)(f:um b=ah):gB [s0,⇑p,.own (.dL b),↥t]=.ok .next [s0,⇑p,.own (.dL (Pu.addL b (kyC t[p]) (.str t))),↥t]:=by have h:=sk_ix d;have c:g8 (.str [t[p]])=aa (kyC t[p]):=rfl;generalize kyC t[p]=K at c;generalize PV.str [t[p]]=C at h c;generalize ((p:Nat):Int)=PI at h;simp[gB,tu,n4,d2,dV,R.bind,aC,h,c,f]
theorem g_loop{s0:Slot}{p:Nat}:∀(l i:List Tx) (b:List (aJ×List PV)) (s3:Slot),(∀t∈l,p<t.length/\∀c∈t,c∈bu)->i.length+l.length<=100->Gk p i b -> ∃f n,Gk p (i++l) f/\fK 3 gB (ak l) [s0,⇑p,.own (.dL b),s3]=.ok .next [s0,⇑p,.own (.dL f),n]
 |[],i,b,s3,_,_,g=>⟨b,s3,by rw[i5];exact g,rfl⟩
 |t::l,i,b,s3,h,v,g=>by
  rw[fL]at v;obtain⟨j,x⟩:=h t (by simp);have w:=gB_eq (s0:=s0) (s3:=s3) j (g.big ∅);have z:=g.step (e_ j) (x _ (uR j));obtain⟨o,m,y,s⟩:=g_loop (s0:=s0) l (i++[t]) _ (↥t) (λu q=>h u (by simp[q])) (by simp;lia) z;refine⟨o,m,by simpa using y,?_⟩;show fK 3 gB (.str t::ak l) _=_;rw[fK];show(match gB [s0,⇑p,.own (.dL b),↥t]with
   |.ok .next d=>fK 3 gB (ak l) d
   |.ok .cont d=>fK 3 gB (ak l) d
   |.ok .brk d=>.ok .next d
   |r=>r)=_
  rw[w];exact s
theorem abcs_rise:bu.Pairwise (·<=·):=by decide
theorem ans_rise(l:List Tx)(p:Nat):((ans l p).map λc=>([c]:Tx)).Pairwise (λa b=>dz a b=ah):=by
 have h:(ans l p).Pairwise (·<=·):=abcs_rise.sublist Hg;refine GT.mpr (h.imp λ{x y} d=>decide_eq_true ?_);intro z;cases z with
 |rel h=>exact absurd h (Nat.not_lt.mpr d)
 |cons h=>exact absurd h (List.not_lt_nil _)
theorem keys_list{b:List (aJ×PV)}{d:Tx}(h:b.map (·.1)=d.map kyC):wH b=aa (.lst (ak (d.map λc=>[c]))):=by
 have m:n5 b=aa (d.map λc=>[c]):=by
  induction b generalizing d with
  |nil=>
   cases d with
   |nil=>rfl
   |cons=>cases h
  |cons q b g=>
   cases d with
   |nil=>cases h
   |cons c d=>obtain⟨f,l⟩:=List.cons.inj h;have i:=g l;obtain⟨k,v⟩:=q;have f:k=kyC c:=f;subst f;simp[n5,kyC,i,mL]
 unfold wH;rw[m,gu,if_pos];intro x j;obtain⟨c,_,rfl⟩:=b0.mp j;show 1<=bH;decide
def gR:ae->R aH:=(kj (bT [2] (bx (dF (dL mH (am (dF (sV 2)) (ar))))) (dy) (ji 1 (dV 0))))
theorem lp_def:tF a=bf 2 [] (aY 2 (aB (jF 2 sW) (aB (λb=>cm (dD 3 (bx (dV 0)) gB b)) (tL 2 gR)))):=rfl
def prtS(l:List Tx)(p:Nat):PV->PV
 |.str [c]=>lsP (wl l p c)
 |v=>v
theorem val_shift(b:List (aJ×List PV))(k:aJ)(h:k∈b.map (·.1)):jy (b.map λp=>(p.1,.lst p.2)) k=aa (.lst (valL b k)):=by
 induction b with
 |nil=>cases h
 |cons q b c=>
  unfold jy valL at c ⊢;by_cases e:q.1=k
  .simp[e]
  .have:=c ((b8.mp h).resolve_left λz=>e z.symm);simp only[eY,ij,decide_eq_false e,this]
theorem gblk{i g f:Slot}{c:Nat}{b:List (aJ×PV)}{v:PV}(h:jy b (kyC c)=aa v):bn (ci [2] (ji 1 (dV 0)) (.str [c]) [i,g,.own (.dK b),f])=.ok v [i,g,.own (.dK b),f]:=by have d:g8 (.str [c])=aa (kyC c):=rfl;generalize kyC c=K at d h;generalize PV.str [c]=C at d;simp[ci,cZ,bn,br,bU,R.bind,aC,ji,eD,dV,d,h,cc,ce,cb]
theorem gR_eq{s0 m j:Slot}{l:List Tx}{p:Nat}{b:List (aJ×List PV)}(g:Gk p l b)(E:l.length<=100):gR [s0,m,.own (.dK (b.map λq=>(q.1,.lst q.2))),j]=.ok (.ret (.own (.lst ((parts l p).map lsP)))) [s0,m,.own (.dK (b.map λq=>(q.1,.lst q.2))),j]:=by
 obtain⟨f,y,w,u⟩:=g.keys;have B:(b.map λq=>(q.1,PV.lst q.2)).map (·.1)=f.map kyC:=by rw[fc];exact y
 have r:=keys_list B;have D:f.length<=3:=w.length_le_of_subset (l₂:=bu) λc d=>((u c).mp d).1;have s:f.Perm (ans l p):=(List.perm_ext_iff_of_nodup w (ans_nodup l p)).mpr λc=>by rw[u c];unfold ans;rw[gU,decide_eq_true_iff]
 have n:bJ (f.map λc=>([c]:Tx))=(ans l p).map λc=>[c]:=(zh (s.map _)).trans (xu (ans_rise l p));have o:mH [.lst (ak (f.map λc=>[c]))]=aa (.lst (ak ((ans l p).map λc=>[c]))):=by show(iD (ak _)).bind _=_;rw[qd,gu,if_pos (by rw[bS];lia),n]
 have d:=iI (cap:=[2]) (dt:=dy) (de:=(ji 1 (dV 0))) (ε:=[s0,m,.own (.dK (b.map λq=>(q.1,.lst q.2))),j]) (λ_=>ah) (prtS l p) (ak ((ans l p).map λc=>[c])) (λv i=>by
  obtain⟨x,A,rfl⟩:=b0.mp i;obtain⟨c,d,rfl⟩:=b0.mp A;have z:kyC c∈b.map (·.1):=by rw[y];exact b0.mpr ⟨c,s.mem_iff.mpr d,rfl⟩
  have i:=val_shift b (kyC c) z;rw[g.val c]at i;exact⟨rfl,λ_=>gblk i⟩) []
 have C:((ak ((ans l p).map λc=>[c])).filter (λ_=>ah)).map (prtS l p)=(parts l p).map lsP:=by rw[uY.mpr (λ_ _=>rfl)];unfold ak parts;rw[fc,fc,fc];rfl
 rw[ik,C]at d;have h:lw (.lst (ak (f.map λc=>[c])))=aa (.lst (ak (f.map λc=>[c]))):=rfl;unfold gR;generalize (parts l p).map lsP=PP at d;generalize F:ak ((ans l p).map λc=>[c])=TA at d o;generalize ak (f.map λc=>[c])=TC at r o h;generalize (b.map λq=>(q.1,PV.lst q.2))=KV at r d;simp[kj,bT,bx,hV,dF,dL,am,ar,sV,eD,R.bind,aC,r,h,o,lw,d]
theorem lparts_eq{l:List Tx}{p:Nat}(j:∀t∈l,p<t.length/\∀c∈t,c∈bu)(h:l.length<=100):tF a [.val (lsP l),⇑p]=.ok (.own (.lst ((parts l p).map lsP))) [.val (lsP l),⇑p]:=by
 obtain⟨d,f,g,i⟩:=g_loop (s0:=.val (lsP l)) l [] [] .none j (by simp;exact h) (Gk.nil p);rw[ik]at g;rw[lp_def];have b:aB (jF 2 sW) (aB (λε=>cm (dD 3 (bx (dV 0)) gB ε)) (tL 2 gR)) [.val (lsP l),⇑p,.none,.none]=.ok (.ret (.own (.lst ((parts l p).map lsP)))) [.val (lsP l),⇑p,.own (.dK (d.map λq=>(q.1,.lst q.2))),f]:=by refine(bO (ε1:=[.val (lsP l),⇑p,.own (.dL []),.none]) rfl).trans ?_;refine(C3 (ε1:=[.val (lsP l),⇑p,.own (.dL []),.none]) rfl i).trans ?_;exact gR_eq g h
 generalize aB (jF 2 sW) _=DD at b;generalize (parts l p).map lsP=PP at b;generalize ((p:Nat):Int)=PI at b;generalize lsP l=LP at b;simp[bf,eA,aY,cX,b,back,gK,aC,R.bind]
end
theorem deps_ls:∀X:List (List Tx),eG (X.map lsP)<=1
 |[]=>by simp[eG]
 |k::ks=>by show max (eG (ak k)+1) (eG (ks.map lsP))<=1;have:=deps_ls ks;rw[zj];lia
theorem eq_none(X:List (List Tx)):Pu.eqT aj (.lst (X.map lsP)) (.lst [])=aa (.bl (decide (X=[]))):=by
 show(if gQ (.lst (X.map lsP))<=8 then(eO (X.map lsP) []).map (λk=>PV.bl (aj^^k))else af)=_;rw[if_pos (by show eG (X.map lsP)+1<=8;have:=deps_ls X;lia)];cases X with
 |nil=>rfl
 |cons x r=>rfl
def notC(m:Nat):PV->Bool
 |.lst xs=>match iD xs with
  |some q=>!can m q
  |none=>aj
 |_=>aj
section
variable{a:Ad}
theorem cblk{g:ae->R Slot}{f d c:Slot}{m:Nat}{q:List Tx}(h:g [.val (lsP q),⇑m]=.ok (.val (.bl (can m q))) [.val (lsP q),⇑m]):bn (ci [1] (dW (dB (aA (ay (g) (gV (dV 0) (gV (d2 fI (dV 1) (dC (.int 1))) (Pu.bq))))))) (lsP q) [f,⇑((m+1:Nat):Int),d,c])=.ok (notC m (lsP q)) [f,⇑((m+1:Nat):Int),d,c]:=by
 have b:fI (.int ((m+1:Nat):Int)) (.int 1)=aa (.int m):=by show aa (PV.int (((m+1:Nat):Int)-1))=_;exact congrArg (λz=>aa (PV.int z)) ∅
 have e:notC m (lsP q)=!can m q:=by
  show(match iD (ak q)with|aa q=>!can m q|af=>aj)=_;rw[qd]
 rw[e];generalize can m q=B at h;generalize lsP q=LQ at h;generalize ((m+1:Nat):Int)=M1 at b;generalize ((m:Nat):Int)=M0 at b h;cases B <;> simp[ci,cZ,bn,br,bU,R.bind,aC,dW,dB,eK,aA,ay,gV,d2,dV,dC,Pu.bq,b,h,cc,ce,cb,iP]
def cC(b:ae->R Slot):ae->R PV:=(d2 (Pu.eqT aj) (dF (bT [1] (bx (dV 3)) (dW (dB (aA (ay (b) (gV (dV 0) (gV (d2 fI (dV 1) (dC (.int 1))) (Pu.bq))))))) (dV 0))) (dF (dL bZ (ar))))
theorem cC_eq{c:ae->R Slot}{s0 s2:Slot}{m:Nat}{Q:List (List Tx)}(h:∀q∈Q,c [.val (lsP q),⇑m]=.ok (.val (.bl (can m q))) [.val (lsP q),⇑m]):cC c [s0,⇑((m+1:Nat):Int),s2,.val (.lst (Q.map lsP))]=.ok (.bl (Q.all (can m))) [s0,⇑((m+1:Nat):Int),s2,.val (.lst (Q.map lsP))]:=by
 have b:=iI (cap:=[1]) (dt:=(dW (dB (aA (ay (c) (gV (dV 0) (gV (d2 fI (dV 1) (dC (.int 1))) (Pu.bq)))))))) (de:=dV 0) (ε:=[s0,⇑((m+1:Nat):Int),s2,.val (.lst (Q.map lsP))]) (notC m) (λv=>v) (Q.map lsP) (λv f=>by obtain⟨q,g,rfl⟩:=b0.mp f;refine⟨cblk (h q g),λ_=>?_⟩;generalize ((m+1:Nat):Int)=M1;generalize lsP q=LQ;simp[ci,cZ,bn,br,bU,R.bind,aC,dV,cc,ce,cb]) [];have j:((Q.map lsP).filter (notC m)).map (λv=>v)=(Q.filter λq=>!can m q).map lsP:=by
  rw[pX,k9];congr 1;refine List.filter_congr λq _=>?_;show(match iD (ak q)with|aa q=>!can m q|af=>aj)=_;rw[qd]
 rw[ik,j]at b;have d:=eq_none (Q.filter λq=>!can m q);have l:decide ((Q.filter λq=>!can m q)=[])=Q.all (can m):=by rw[oi,decide_eq_true_iff,B_,iR];simp
 rw[l]at d;have i:bZ []=aa (.lst []):=rfl;unfold cC;generalize (dW (dB (aA (ay (c) (gV (dV 0) (gV (d2 fI (dV 1) (dC (.int 1))) (Pu.bq)))))))=DT at b;generalize (Q.filter λq=>!can m q).map lsP=FL at b d;generalize Q.map lsP=QL at b;generalize ((m+1:Nat):Int)=M1 at b;simp[d2,dF,bT,bx,hV,dV,dL,ar,lw,R.bind,aC,b,i,d]
def cB(a:Ad)(rc:ae->R Slot):ae->R aH:=(aB (aT 3 (aA (ay (tF a) (gV (dV 0) (gV (dV 2) (Pu.bq)))))) (a6 (iH (dB (d2 (bI λi j=>decide (j<i)) (dL aP (am (dV 3) (ar))) (dC (.int 1)))) (dB (cC rc))) (a8 (dC (.bl ah))) (bF)))
theorem cB_eq{rc:ae->R Slot}{s3:Slot}{m p:Nat}{l:List Tx}(r:Ql l)(s:l.length<=100)(v:p<wide l)(h:1<(parts l p).length->∀q∈parts l p,rc [.val (lsP q),⇑m]=.ok (.val (.bl (can m q))) [.val (lsP q),⇑m]):cB a rc [.val (lsP l),⇑((m+1:Nat):Int),⇑p,s3]=if(decide (1<(parts l p).length)&&(parts l p).all (can m))=ah then .ok (.ret (.val (.bl ah))) [.val (lsP l),⇑((m+1:Nat):Int),⇑p,.val (.lst ((parts l p).map lsP))] else .ok .next [.val (lsP l),⇑((m+1:Nat):Int),⇑p,.val (.lst ((parts l p).map lsP))]:=by
 have g:=lparts_eq (a:=a) (l:=l) (p:=p) (λt o=>⟨by rw[r.len t o];exact v,r.abc t o⟩) s;have u:=sk_call2o (d:=dV 0) (e:=dV 2) (ε:=[.val (lsP l),⇑((m+1:Nat):Int),⇑p,s3]) rfl rfl g;unfold cB;refine(bO (fJ u)).trans ?_;have b:=sk_len (d:=dV 3) (x:=.lst ((parts l p).map lsP)) (n:=(parts l p).length) (ε:=[.val (lsP l),⇑((m+1:Nat):Int),⇑p,.val (.lst ((parts l p).map lsP))]) rfl (by simp[aP]) 1;by_cases f:1<(parts l p).length
 .have c:=cC_eq (s0:=.val (lsP l)) (s2:=⇑p) (h f);rw[decide_eq_true f,yr];rw[decide_eq_true f]at b;show a6 (iH (dB (d2 (bI λi j=>decide (j<i)) (dL aP (am (dV 3) (ar))) (dC (.int ((1:Nat):Int))))) (dB (cC rc))) (a8 (dC (.bl ah))) (bF) _=_;generalize (dB (d2 (bI λi j=>decide (j<i)) (dL aP (am (dV 3) (ar))) (dC (.int ((1:Nat):Int)))))=D1 at b;show a6 (iH D1 (dB (cC rc))) (a8 (dC (.bl ah))) (bF) [.val (lsP l),⇑((m+1:Nat):Int),⇑p,.val (.lst ((parts l p).map lsP))]=_;generalize cC rc=D2 at c;generalize (parts l p).all (can m)=B at c;generalize (parts l p).map lsP=PP at b c;generalize ((m+1:Nat):Int)=M1 at b c;cases B <;> simp[a6,iH,dB,eK,a8,dC,bF,b,c,R.bind,aC]
 .rw[decide_eq_false f,Bool.false_and,if_neg (by simp)];rw[decide_eq_false f]at b;show a6 (iH (dB (d2 (bI λi j=>decide (j<i)) (dL aP (am (dV 3) (ar))) (dC (.int ((1:Nat):Int))))) (dB (cC rc))) (a8 (dC (.bl ah))) (bF) _=_;generalize (dB (d2 (bI λi j=>decide (j<i)) (dL aP (am (dV 3) (ar))) (dC (.int ((1:Nat):Int)))))=D1 at b;show a6 (iH D1 (dB (cC rc))) (a8 (dC (.bl ah))) (bF) [.val (lsP l),⇑((m+1:Nat):Int),⇑p,.val (.lst ((parts l p).map lsP))]=_;generalize cC rc=D2;generalize (parts l p).map lsP=PP at b;generalize ((m+1:Nat):Int)=M1 at b;simp[a6,iH,bF,b,R.bind]
theorem c_loop{rc:ae->R Slot}{m:Nat}{l:List Tx}(d:Ql l)(f:l.length<=100)(h:∀p,1<(parts l p).length->∀q∈parts l p,rc [.val (lsP q),⇑m]=.ok (.val (.bl (can m q))) [.val (lsP q),⇑m]):∀(b:List Nat) (s2 s3:Slot),(∀p∈b,p<wide l)->∃g i,fK 2 (cB a rc) (nsP b) [.val (lsP l),⇑((m+1:Nat):Int),s2,s3]=if(b.any λp=>decide (1<(parts l p).length)&&(parts l p).all (can m))=ah then .ok (.ret (.val (.bl ah))) [.val (lsP l),⇑((m+1:Nat):Int),g,i] else .ok .next [.val (lsP l),⇑((m+1:Nat):Int),g,i]
 |[],s2,s3,_=>⟨s2,s3,rfl⟩
 |p::b,s2,s3,j=>by
  have s:=cB_eq (a:=a) (rc:=rc) (s3:=s3) (m:=m) d f (j p (by simp)) (h p);obtain⟨o,n,r⟩:=c_loop d f h b (⇑p) (.val (.lst ((parts l p).map lsP))) λq d=>j q (by simp[d]);have e:nsP (p::b)=.int p::nsP b:=rfl;rw[e];have w:((p::b).any λp=>decide (1<(parts l p).length)&&(parts l p).all (can m))=((decide (1<(parts l p).length)&&(parts l p).all (can m))||b.any λp=>decide (1<(parts l p).length)&&(parts l p).all (can m)):=lP;rw[w];simp only[fK];have u:([.val (lsP l),⇑((m+1:Nat):Int),s2,s3]:ae).set 2 (⇑p)=[.val (lsP l),⇑((m+1:Nat):Int),⇑p,s3]:=rfl;rw[u,s];by_cases c:(decide (1<(parts l p).length)&&(parts l p).all (can m))=ah
  .refine⟨⇑p,.val (.lst ((parts l p).map lsP)),?_⟩;rw[if_pos c,if_pos (by rw[c,Bool.true_or])]
  .refine⟨o,n,?_⟩;rw[if_neg c];have x:(decide (1<(parts l p).length)&&(parts l p).all (can m))=aj:=by simpa using c
   have v:((decide (1<(parts l p).length)&&(parts l p).all (can m))||b.any λp=>decide (1<(parts l p).length)&&(parts l p).all (can m))=b.any λp=>decide (1<(parts l p).length)&&(parts l p).all (can m):=by rw[x,Bool.false_or]
   rw[v];exact r
def cH1:ae->R aH:=(a6 (dB (d2 (Pu.eqT aj) (dL aP (am (dV 0) (ar))) (dC (.int 1)))) (a8 (dC (.bl ah))) (bF))
def cH2:ae->R aH:=(a6 (dB (d2 (Pu.eqT aj) (dV 1) (dC (.int 0)))) (a8 (dC (.bl aj))) (bF))
theorem lc_def(rc:ae->R Slot):yaC a rc=aB cH1 (aB cH2 (aB (λb=>cm (dD 2 (dL f_ (am (dL aP (am (d2 bv (dV 0) (dC (.int 0))) (ar))) (ar))) (cB a rc) b)) (a8 (dC (.bl aj))))):=rfl
theorem cH1_eq{L:PV}{n:Nat}(c:aP [L]=aa (.int n))(d s2 s3:Slot):cH1 [.val L,d,s2,s3]=if n=1 then .ok (.ret (.val (.bl ah))) [.val L,d,s2,s3] else .ok .next [.val L,d,s2,s3]:=by
 have f:=j7 aj (n:Nat) 1;by_cases h:n=1
 .rw[if_pos h];have b:Pu.eqT aj (.int n) (.int 1)=aa (.bl ah):=by rw[f,decide_eq_true ∅];rfl
  generalize ((n:Nat):Int)=N at c b;simp[cH1,a6,dB,d2,dL,am,ar,dV,dC,c,b,R.bind,aC,eK,a8]
 .rw[if_neg h];have b:Pu.eqT aj (.int n) (.int 1)=aa (.bl aj):=by rw[f,decide_eq_false ∅];rfl
  generalize ((n:Nat):Int)=N at c b;simp[cH1,a6,dB,d2,dL,am,ar,dV,dC,c,b,R.bind,aC,eK,bF]
theorem cH2_eq(m:Nat)(c s2 s3:Slot):cH2 [c,⇑m,s2,s3]=if m=0 then .ok (.ret (.val (.bl aj))) [c,⇑m,s2,s3] else .ok .next [c,⇑m,s2,s3]:=by
 have d:=j7 aj (m:Nat) 0;by_cases h:m=0
 .rw[if_pos h];have b:Pu.eqT aj (.int m) (.int 0)=aa (.bl ah):=by rw[d,decide_eq_true ∅];rfl
  generalize ((m:Nat):Int)=N at b;simp[cH2,a6,dB,d2,dV,dC,b,R.bind,aC,eK,a8]
 .rw[if_neg h];have b:Pu.eqT aj (.int m) (.int 0)=aa (.bl aj):=by rw[d,decide_eq_false ∅];rfl
  generalize ((m:Nat):Int)=N at b;simp[cH2,a6,dB,d2,dV,dC,b,R.bind,aC,eK,bF]
theorem lc_ret{d:ae->R aH}{c b v:PV}{s2 s3:Slot}(h:d [.val c,.val b,.none,.none]=.ok (.ret (.val v)) [.val c,.val b,s2,s3]):bf 2 [] (aY 2 d) [.val c,.val b]=.ok (.val v) [.val c,.val b]:=by simp[bf,eA,aY,cX,h,back,aC,R.bind]
theorem lcan_eq:∀(k g:Nat) (l:List Tx) (m:Nat),l.length<=k+1->k+1<=g->Ql l->l.length<=100->wide l<=1000->kL a g [.val (lsP l),⇑m]=.ok (.val (.bl (can m l))) [.val (lsP l),⇑m]:=by
 intro k
 induction k with
 |zero=>
  intro g l m u G h _ _;obtain⟨f,rfl⟩:∃f,g=f+1:=⟨g-1,∅⟩
  have c:l.length=1:=by have:=nu.mpr h.ne;lia
  have s:can m l=ah:=can_le (jJ m) (decide_eq_true c);rw[s];show bf 2 [] (aY 2 (yaC a (kL a f))) _=_;refine lc_ret (s2:=.none) (s3:=.none) ?_;rw[lc_def];have d:=cH1_eq (L:=lsP l) (n:=l.length) (by simp[aP,lsP,gL]) (⇑m) .none .none;rw[if_pos c]at d;unfold aB;rw[d]
 |succ k E=>
  intro g l m u G h C H;obtain⟨f,rfl⟩:∃f,g=f+1:=⟨g-1,∅⟩
  show bf 2 [] (aY 2 (yaC a (kL a f))) _=_;have d:=cH1_eq (L:=lsP l) (n:=l.length) (by simp[aP,lsP,gL]) (⇑m) .none .none;by_cases c:l.length=1
  .have s:can m l=ah:=can_le (jJ m) (decide_eq_true c);rw[s];refine lc_ret (s2:=.none) (s3:=.none) ?_;rw[lc_def];rw[if_pos c]at d;unfold aB;rw[d]
  .rw[if_neg c]at d;have b:=cH2_eq m (.val (lsP l)) .none .none;cases m with
   |zero=>rw[if_pos rfl]at b;have s:can 0 l=aj:=decide_eq_false c;rw[s];refine lc_ret (s2:=.none) (s3:=.none) ?_;rw[lc_def];refine(bO d).trans ?_;unfold aB;rw[b]
   |succ m=>
    rw[if_neg ∅]at b;have o:can (m+1) l=(bX (wide l)).any λp=>decide (1<(parts l p).length)&&(parts l p).all (can m):=by rw[can,decide_eq_false c,Bool.false_or]
    obtain⟨s2,s3,i⟩:=c_loop (a:=a) (rc:=kL a f) (m:=m) h C (λp y q j=>by
     obtain⟨v,D⟩:=h.part j;have:=part_lt y j;have F:wide q=wide l:=by obtain⟨x,r,e⟩:=pY v.ne;have c:=v.len x (by rw[e];simp);have I:=h.len x (D.mem (by rw[e];simp));lia
     exact E f q m ∅ ∅ v ∅ ∅) (bX (wide l)) .none .none λp y=>mY.mp y
    rw[<-o]at i;have A:dL f_ (am (dL aP (am (d2 bv (dV 0) (dC (.int 0))) (ar))) (ar)) [.val (lsP l),⇑((m+1:Nat):Int),.none,.none]=.ok (nsP (bX (wide l))) [.val (lsP l),⇑((m+1:Nat):Int),.none,.none]:=by
     obtain⟨x,r,e⟩:=pY h.ne;have B:bv (lsP l) (.int 0)=aa (.str x):=by rw[e];show dr (ak (x::r)) ((0:Nat):Int)=_;unfold dr;rw[rj ∅ (by simp[ak])];rfl
     have u:aP [.str x]=aa (.int (wide l:Nat)):=by have:x.length=wide l:=h.len x (by rw[e];simp);show aa (PV.int (x.length:Nat))=_;rw[this]
     have w:f_ [.int (wide l:Nat)]=aa (nsP (bX (wide l))):=by rw[<-rng_ns];exact pd ∅
     generalize nsP (bX (wide l))=TL at w;generalize ((wide l:Nat):Int)=WI at u w;generalize lsP l=TX at B;generalize ((m+1:Nat):Int)=M1;simp[dL,am,ar,d2,dV,dC,R.bind,aC,B,u,w]
    refine lc_ret (s2:=s2) (s3:=s3) ?_;rw[lc_def];refine(bO d).trans ((bO b).trans ?_);cases z:can (m+1) l with
    |true=>rw[z,if_pos rfl]at i;unfold aB dD;dsimp only;rw[A,R.bind_ok,i];rfl
    |false=>rw[z,if_neg (by decide)]at i;refine(bO (d1:=λε=>cm (dD 2 _ (cB a (kL a f)) ε)) (ε1:=[.val (lsP l),⇑((m+1:Nat):Int),s2,s3]) ?_).trans rfl;show cm (dD 2 _ _ _)=_;unfold dD;rw[A,R.bind_ok,i];rfl
theorem least_eq{l:List Tx}(j:Ql l)(w:l.length<=16)(o:wide l<=1000):wb a [.val (lsP l)]=.ok (⇑(nd l:Nat)) [.val (lsP l)]:=by
 obtain⟨r,q,_⟩:=j.ndS;have b:=iI (cap:=[0]) (dt:=(dB (aA (ay (kL a 17) (gV (dV 1) (gV (dV 0) (Pu.bq))))))) (de:=dV 0) (ε:=[.val (lsP l)]) (λv=>match v with|.int i=>can i.toNat l|_=>aj) (λv=>v) (nsP (bX l.length)) (λv p=>by obtain⟨m,u,rfl⟩:=b0.mp p;refine⟨blk1 ?_,λ_=>blk1 rfl⟩;have h:=lcan_eq (a:=a) 16 17 l m ∅ ∅ j ∅ o;show dB _ _=.ok (can m l) _;generalize kL a 17=GC at h;generalize can m l=B at h;generalize lsP l=LP at h;generalize ((m:Nat):Int)=MI at h;simp[dB,eK,aA,ay,gV,dV,Pu.bq,h,R.bind,aC,cc,cb,br,bU,ce,iP]) [];have s:((nsP (bX l.length)).filter (λv=>match v with|.int i=>can i.toNat l|_=>aj)).map (λv=>v)=nsP (nd l::r):=by rw[pX,<-q];unfold nsP;rw[k9];congr 1
 rw[ik,s]at b;have c:dL f_ (am (dL aP (am (dV 0) (ar))) (ar)) [.val (lsP l)]=.ok (nsP (bX l.length)) [.val (lsP l)]:=by
  have f:aP [lsP l]=aa (.int (l.length:Nat)):=by simp[aP,lsP,gL]
  have d:f_ [.int (l.length:Nat)]=aa (nsP (bX l.length)):=by rw[<-rng_ns];exact pd ∅
  generalize nsP (bX l.length)=NL at d;generalize ((l.length:Nat):Int)=LI at f d;generalize lsP l=LP at f;simp[dL,am,ar,dV,R.bind,aC,f,d]
 have g:bv (.lst (nsP (nd l::r))) (.int 0)=aa (.int (nd l:Nat)):=by show dr (nsP (nd l::r)) ((0:Nat):Int)=_;unfold dr;rw[rj ∅ (by simp[nsP])];rfl
 have n:yaI a [.val (lsP l)]=.ok (.ret (⇑(nd l:Nat))) [.val (lsP l)]:=by unfold yaI;generalize (dB (aA (ay (kL a 17) (gV (dV 1) (gV (dV 0) (Pu.bq))))))=DT at b;generalize nsP (nd l::r)=NL at b g;generalize dL f_ (am (dL aP (am (dV 0) (ar))) (ar))=DI at c;generalize nsP (bX l.length)=RL at c b;generalize lsP l=LP at b c;generalize ((nd l:Nat):Int)=ND at g;simp[a8,d2,dF,bT,dC,c,b,g,lw,R.bind,aC]
 show bf 1 [] (aY 0 (yaI a)) _=_;generalize yaI a=DD at n;simp[bf,eA,aY,cX,n,back,aC,R.bind]
end
end Sh
namespace K33
open L2 Pu Mx Sh
section
variable{a:Ad}
abbrev ft(T:List Tx):List (Str×PV):=[(bY "having",.tup (ak T))]
def SK(a:Ad)(T:List Tx)(L:List PV):PO:=.inl a.Seeker (ft T) (bY "answers") L
def aF(Rw:List (Nat×Nat)):List PV:=Rw.map λq=>.tup [.int (q.1:Nat),.str [q.2]]
def lf(T:List Tx)(Rw:List (Nat×Nat)):List Tx:=Rw.foldl (λl q=>wl l q.1 q.2) T
theorem pj(T:List Tx)(L:List PV)(b:ae):jd (.own (SK a T L)::b) a.Seeker (bY "answers") 0=aa (ft T,L):=by show(if a.Seeker=a.Seeker/\_=_ then _ else _)=_;rw[if_pos ⟨rfl,rfl⟩]
theorem Cm(T:List Tx):(ft T).lookup (bY "having")=aa (.tup (ak T)):=rfl
theorem ud(Rw:List (Nat×Nat)):∀T:List Tx,(lf T Rw).Sublist T:=by
 induction Rw with
 |nil=>intro T;exact List.Sublist.refl _
 |cons q Rw b=>intro T;exact(b _).trans (wl_sub T q.1 q.2)
theorem xa(T:List Tx)(b:List (Nat×Nat))(q:Nat×Nat):lf T (b++[q])=wl (lf T b) q.1 q.2:=by unfold lf;rw[BX];rfl
theorem IQ{w:Nat}{c:List Tx}(g:Good bu w c)(r:1<=w)(q:w<=4)(s:c.Pairwise (λa b=>dz a b=ah))(p:cg w c≠[])(u:(cg w c).length<=16):ma a [.own (.ins a.Seeker []),.val (bR w c)]=.ok (.val .non) [.own (SK a (cg w c) []),.val (bR w c)]:=by
 have i:=QJ (a:=a) g r q s;generalize v:cg w c=T at i p u;have j:aP [.lst (ak T)]=aa (.int (T.length:Nat)):=by simp[aP,gL]
 have o:Pu.eqT aj (.int (T.length:Nat)) (.int 0)=aa (.bl aj):=by rw[j7,decide_eq_false (by have:=nu.mpr p;lia)];rfl
 have n:¬(16:Int)<(T.length:Nat):=∅
 have d:j5 [.lst (ak T)]=aa (.tup (ak T)):=rfl;have h:q_ (bY "having") (.tup (ak T)) []=ft T:=rfl;have m:(ft T).lookup (bY "answers")=af:=rfl;have l:(ft T).length<1000:=by simp
 unfold SK;generalize ft T=f at h m l ⊢;generalize ((T.length:Nat):Int)=N at j o n;generalize ak T=L at i j d h;generalize bR w c=V at i;generalize PV.tup L=TL at d h;simp![ma,E1,i,j,o,n,d,zH,oW,h,wz,m,l]
theorem IT{w:Nat}{c:List Tx}{f:ae}{d:ae->R PV}(g:Good bu w c)(i:1<=w)(h:w<=4)(j:c.Pairwise (λa b=>dz a b=ah))(n:cg w c≠[])(o:(cg w c).length<=16)(m:d f=.ok (bR w c) f):nQ a.Seeker (ma a) (gV d Pu.bq) f=.ok (SK a (cg w c) []) f:=by have l:=IQ (a:=a) g i h j n o;simp[nQ,gV,Pu.bq,m,jC,br,bU,l,cc,cb,ce,aC,R.bind]
def mM(a:Ad):ae->R aH:=(aT 1 (aA (ay (iY a) (gV (dV 1) (gV (dV 2) (gV (dV 3) (Pu.bq)))))))
theorem F7{s0:Slot}{n:Nat}:∀(d:List (Nat×Nat)) (T:List Tx) (g f:Slot),(∀t∈T,t.length=n)->(∀q∈d,q.1<n) -> ∃m u,hZ 2 3 (mM a) (aF d) [s0,.val (.tup (ak T)),g,f]=.ok .next [s0,.val (.tup (ak (lf T d))),m,u]
 |[],T,g,f,_,_=>⟨g,f,rfl⟩
 |q::d,T,g,f,i,j=>by
  obtain⟨s,o,y⟩:=F7 (s0:=s0) d (wl T q.1 q.2) (⇑(q.1:Nat)) (.val (.str [q.2])) (λt h=>i t ((wl_sub T q.1 q.2).mem h)) λx v=>j x (by simp[v]);refine⟨s,o,?_⟩;have w:=with_eq (a:=a) (L:=.tup (ak T)) (l:=T) (p:=q.1) (c:=q.2) rfl λt h=>by rw[i t h];exact j q (by simp)
  have z:mM a [s0,.val (.tup (ak T)),⇑(q.1:Nat),.val (.str [q.2])]=.ok .next [s0,.val (.tup (ak (wl T q.1 q.2))),⇑(q.1:Nat),.val (.str [q.2])]:=fJ (sk_call3 rfl rfl rfl w);show hZ 2 3 (mM a) (.tup [.int (q.1:Nat),.str [q.2]]::aF d) _=_;rw[hZ];show(match mM a [s0,.val (.tup (ak T)),⇑(q.1:Nat),.val (.str [q.2])]with
   |.ok .next b=>hZ 2 3 (mM a) (aF d) b
   |.ok .cont b=>hZ 2 3 (mM a) (aF d) b
   |.ok .brk b=>.ok .next b
   |r=>r)=_
  rw[z];exact y
theorem Jp{T:List Tx}{b:List (Nat×Nat)}{n:Nat}(o:∀t∈T,t.length=n)(p:∀q∈b,q.1<n):iA a [.own (SK a T (aF b))]=.ok (.own (.lst (ak (lf T b)))) [.own (SK a T (aF b))]:=by
 obtain⟨g,d,m⟩:=F7 (a:=a) (s0:=.none) b T .none .none o p;have j:aT 1 (kl a.Seeker (bY "answers") 0 (bY "having")) [.own (SK a T (aF b)),.none,.none,.none]=.ok .next [.own (SK a T (aF b)),.val (.tup (ak T)),.none,.none]:=by have e:=pj (a:=a) T (aF b) [.none,.none,.none];have l:=Cm T;generalize SK a T (aF b)=P at e ⊢;generalize ft T=f at e l;simp[aT,kl,e,l,R.bind,aC]
 have i:(λc=>cm (nO a.Seeker (bY "answers") 0 2 3 (mM a) c)) [.own (SK a T (aF b)),.val (.tup (ak T)),.none,.none]=.ok .next [.own (SK a T (aF b)),.val (.tup (ak (lf T b))),g,d]:=by have e:=pj (a:=a) T (aF b) [.val (.tup (ak T)),.none,.none];show cm (nO _ _ _ _ _ _ _)=_;unfold nO;rw[e];simp only[cK,R.bind_ok];have r:([.own (SK a T (aF b)),.val (.tup (ak T)),.none,.none]:ae).set 0 .none=[.none,.val (.tup (ak T)),.none,.none]:=rfl;rw[r,m];rfl
 have h:dL kE (am (dV 1) (ar)) [.own (SK a T (aF b)),.val (.tup (ak (lf T b))),g,d]=.ok (.lst (ak (lf T b))) [.own (SK a T (aF b)),.val (.tup (ak (lf T b))),g,d]:=by have:kE [.tup (ak (lf T b))]=aa (.lst (ak (lf T b))):=rfl;generalize SK a T (aF b)=P;generalize ak (lf T b)=X at this ⊢;simp[dL,am,ar,dV,R.bind,aC,this]
 show nZ 1 3 [0] (aT 1 (kl a.Seeker (bY "answers") 0 (bY "having"))) (λc=>cm (nO a.Seeker (bY "answers") 0 2 3 (mM a) c)) (dL kE (am (dV 1) (ar))) _=_;generalize aT 1 (kl a.Seeker (bY "answers") 0 (bY "having"))=D1 at j;generalize (λc=>cm (nO a.Seeker (bY "answers") 0 2 3 (mM a) c))=D2 at i;generalize dL kE (am (dV 1) (ar))=D3 at h;generalize SK a T (aF b)=P at j i h ⊢;simp[nZ,eV,cX,j,i,h,back,aC,R.bind]
theorem tT{ε:ae}{i:Nat}{T:List Tx}{L:List PV}{m:Str}(b:ε[i]?=aa (.own (SK a T L)))(d:(ft T).lookup m=af)(c:m≠bY "answers"):mr ε a.Seeker m i=ah:=by unfold mr;rw[b];show(decide (a.Seeker=a.Seeker)&&((ft T).lookup m).isNone&&decide (m≠bY "answers"))=ah;rw[decide_eq_true rfl,d,decide_eq_true c];rfl
theorem Bf{G:ae->R Slot}{b:ae}{i:Nat}{T:List Tx}{L f:List PV}{m:Str}{r:Slot}(c:b[i]?=aa (.own (SK a T L)))(j:(ft T).lookup m=af)(h:m≠bY "answers")(d:G [.own (SK a T L)]=.ok r [.own (SK a T f)]):cY a.Seeker m i G b=.ok r (b.set i (.own (SK a T f))):=by have g:=tT (a:=a) (m:=m) c j h;unfold cY;rw[g];generalize SK a T L=P at c d;generalize SK a T f=P' at d;simp[jC,br,bU,c,aC,R.bind,d,cc,ce,cb]
theorem Aw{b:ae}{i:Nat}{s:Slot}(h:b[i]?=aa s):b.set i s=b:=by
 apply uU;intro j;by_cases e:i=j
 .subst e;have c:=(cF.mp h).1;rw[cu c,h]
 .rw[cj e]
theorem P7{T:List Tx}{L:List PV}(c:ko L=ah):kH a [.own (SK a T L)]=.ok (.own (.lst L)) [.own (SK a T L)]:=by have e:=pj (a:=a) T L [];have b:kE [.lst L]=aa (.lst L):=rfl;generalize SK a T L=P at e ⊢;generalize ft T=f at e;simp[kH,qF,kn,e,aC,R.bind,xl,b,Fv,c]
def eF:Tx:=[117,110,100,111]
inductive Pk(n:Nat):PV->Prop
 |neg:Pk n (.int (-1))
 |big:Pk n (.int n)
 |non:Pk n .non
 |tru:Pk n (.bl ah)
 |zero:Pk n (.str [48])
inductive Lk:PV->Prop
 |d:Lk (.str [100])
 |e:Lk (.str [])
 |ab:Lk (.str [97,98])
 |non:Lk .non
theorem Pk.ne{n:Nat}{x:PV}(h:Pk n x):Pu.eqT aj x (.str eF)=aa (.bl aj):=by
 cases h with
 |neg=>rfl
 |big=>rfl
 |non=>rfl
 |tru=>rfl
 |zero=>rw[z8];rfl
def uu(x:PV):Bool:=match x with|.int _=>ah|_=>aj
theorem Pk.whole{n:Nat}{x:PV}(h:Pk n x):jS a [.val x]=.ok (.val (.bl (uu x))) [.val x]:=by
 cases h with
 |neg=>exact xF _
 |big=>exact xF _
 |non=>have b:eE [.non,.raw (.ty "int")]=aa (.bl aj):=jh rfl (by decide +kernel);simp![jS,yax,b,uu]
 |tru=>exact Js _
 |zero=>exact Kt _
def chn(n:Nat)(x:PV):Bool:=match x with|.int i=>decide (0<=i)&&decide (i<n)|_=>aj
theorem Pk.chn{n:Nat}{x:PV}(h:Pk n x):(uu x&&K33.chn n x)=aj:=by
 cases h <;> simp[uu,K33.chn]
def uf:ae->R PV:=λb=>bn ((dC (.str [97,32,112,108,97,99,101,32,105,115,32,97,32,119,104,111,108,101,32,110,117,109,98,101,114,32,102,114,111,109,32,48,32,111,110,44,32,108,101,115,115,32,116,104,97,110,32,116,104,101,32,116,101,120,116,32,104,97,115,32,108,101,116,116,101,114,115])) b)
def o5:ae->R Bool:=(dB (jD (bI λi j=>decide (i<=j)) (bI λi j=>decide (i<j)) (dC (.int 0)) (dV 0) (dV 1)))
theorem FK(i n:Int):o5 [⇑i,⇑n]=.ok (decide (0<=i)&&decide (i<n)) [⇑i,⇑n]:=by
 by_cases b:0<=i
 .by_cases c:i<n <;> simp[o5,dB,jD,dC,dV,bI,R.bind,aC,eK,b,c]
 .simp[o5,dB,jD,dC,dV,bI,R.bind,aC,eK,b]
theorem Go:qg a=bf 2 [] (aY 0 (a6 (fX (dW (dB (aA (ay (jS a) (gV (dV 0) (Pu.bq)))))) (dW o5)) (iW (.ref a.NoPlace) uf) (bF))):=rfl
theorem LV{n:Nat}{x:PV}(h:Pk n x):qg a [.val x,⇑n]=.er (.ref a.NoPlace) [.val x,⇑n]:=by
 have f:=h.whole (a:=a);have j:=h.chn;have b:∃v,∀g,uf g=.ok v g:=⟨_,λg=>rfl⟩
 obtain⟨v,b⟩:=b;rw[Go];cases c:uu x with
 |false=>rw[c]at f;generalize o5=C;generalize uf=M at b;generalize ((n:Nat):Int)=N;simp[bf,eA,aY,a6,fX,dW,dB,aA,ay,gV,dV,Pu.bq,f,R.bind,aC,cc,cb,br,bU,ce,iP,eK,iW,b,back]
 |true=>
  rw[c]at f;rw[c,yr]at j;obtain⟨i,rfl⟩:∃i,x=.int i:=by
   cases h with
   |neg=>exact⟨_,rfl⟩
   |big=>exact⟨_,rfl⟩
   |non=>cases c
   |tru=>cases c
   |zero=>cases c
  have d:=FK i (n:Nat);have e:(decide (0<=i)&&decide (i<(n:Nat)))=aj:=j;rw[e]at d;generalize o5=C at d;generalize uf=M at b;generalize ((n:Nat):Int)=N at d;simp[bf,eA,aY,a6,fX,dW,dB,aA,ay,gV,dV,Pu.bq,f,R.bind,aC,cc,cb,br,bU,ce,iP,eK,iW,b,d,back]
theorem z_{n p:Nat}(h:p<n):qg a [⇑p,⇑n]=.ok (.val .non) [⇑p,⇑n]:=by
 have c:=xF (a:=a) (p:Nat);have b:=FK (p:Nat) (n:Nat);have e:(decide ((0:Int)<=(p:Nat))&&decide (((p:Nat):Int)<(n:Nat)))=ah:=by simp;lia
 rw[e]at b;rw[Go];generalize o5=C at b;generalize uf=M;generalize ((n:Nat):Int)=N at b;generalize ((p:Nat):Int)=PI at b c;simp[bf,eA,aY,a6,fX,dW,dB,aA,ay,gV,dV,Pu.bq,c,R.bind,aC,cc,cb,br,bU,ce,iP,eK,bF,b,back]
theorem Lk.win{y:PV}(h:Lk y):mP a [.val y,⇑1,.val (.str [97,98,99])]=.ok (.val (.bl aj)) [.val y,⇑1,.val (.str [97,98,99])]:=by
 cases h with
 |d=>exact(sT (a:=a) [100] [97,98,99] 1).trans rfl
 |e=>exact(sT (a:=a) [] [97,98,99] 1).trans rfl
 |ab=>exact(sT (a:=a) [97,98] [97,98,99] 1).trans rfl
 |non=>have b:eE [.non,.raw (.ty "str")]=aa (.bl aj):=jh rfl (by decide +kernel);simp![mP,yaz,b]
theorem HE{y:PV}(h:Lk y):pc a [.val y]=.er (.ref a.NoLetters) [.val y]:=by have b:=h.win (a:=a);simp![pc,yaq,b,iW,bn]
theorem CG{c:Nat}(h:c∈bu):pc a [.val (.str [c])]=.ok (.val .non) [.val (.str [c])]:=by
 have b:=sT (a:=a) [c] [97,98,99] 1;have e:ja 1 [97,98,99] [c]=ah:=by simp only[bu,b8,iS,or_false]at h;rcases h with rfl|rfl|rfl <;> rfl
 rw[e]at b;simp![pc,yaq,b]
theorem Lk.out{y:PV}(h:Lk y):jx ah y (.tup [.str [97],.str [98],.str [99]])=aa (.bl ah):=by cases h <;> rfl
theorem Oz{c:Nat}(h:c∈bu):jx ah (.str [c]) (.tup [.str [97],.str [98],.str [99]])=aa (.bl aj):=by simp only[bu,b8,iS,or_false]at h;rcases h with rfl|rfl|rfl <;> rfl
end
section
variable{a:Ad}
theorem Qt{t:Tx}{w:Nat}(g:1<=w)(l:w<=t.length)(n:t.length+1-w<=9)(i:∀c∈t,c∈bu):Good bu w (bJ (bM t w))/\(bJ (bM t w)).Pairwise (λa b=>dz a b=ah)/\cg w (bJ (bM t w))≠[]:=by
 have j:=Fy (z:=t) g;have f:∀x∈bJ (bM t w),x.length=w/\∀c∈x,c∈bu:=λx d=>by have:=Mx.Sj ((jU _).mem_iff.mp d);exact⟨this.1,λc h=>i c (this.2 c h)⟩
 have m:(bJ (bM t w)).length=t.length+1-w:=by rw[(jU _).length_eq,j]
 refine⟨⟨λx d=>(f x d).1,λx d=>(f x d).2,∅,∅⟩,xz _,λe=>?_⟩;have:=(Hv g ∅ f (xz _) i).mpr rfl;rw[e]at this;cases this
def sU:ae->R Bool:=dB (d2 (bI λi j=>decide (j<i)) (dL aP (am (dV 5) (ar))) (dC (.int 16)))
def rJ(a:Ad):ae->R PV:=(a6 (dB (d2 (bI λi j=>decide (i<j)) (dV 3) (dC (.int 4)))) (dL cy (am (d2 bj (dV 3) (dC (.int 1))) (am (aA (ay (iZ a) (gV (dV 2) (gV (d2 bj (dV 3) (dC (.int 1))) (Pu.bq))))) (ar)))) (dL cy (am (dC (.int 1)) (am (dL cy (am (dC (.str [97])) (ar))) (ar)))))
def qx(a:Ad):ae->R aH:=(aB (aT 4 (rJ a)) (aB (aT 3 (d2 bv (dV 4) (dC (.int 0)))) (aT 5 (aA (ay (mq a) (gV (dV 4) (Pu.bq)))))))
theorem Q_:tt a=bf 2 [1] (aY 4 (aB (kF 2 3 (aA (ay (mh a) (gV (dV 0) (gO 1 (gV (dC (.int 2)) (gV (dC (.int 8)) (Pu.bq)))))))) (aB (aT 4 (dL cy (am (dV 3) (am (aA (ay (iZ a) (gV (dV 2) (gV (dV 3) (Pu.bq))))) (ar))))) (aB (aT 5 (aA (ay (mq a) (gV (dV 4) (Pu.bq))))) (aB (λε=>cm (ge sU (qx a) 1000 ε)) (a8 (dL cy (am (dV 4) (am (dV 5) (ar)))))))))):=rfl
theorem qc{G:ae->R Slot}{b:ae}{d:ae->R PV}{v0 v r:PV}{p p':Pu.PO}(h:b[0]?=aa (.val v0))(g:b[1]?=aa (.own p))(f:d b=.ok v b)(c:G [.val v0,.own p,.val v]=.ok (.val r) [.val v0,.own p',.val v]):ay G (gV (dV 0) (gO 1 (gV d Pu.bq))) b=.ok (.val r) (b.set 1 (.own p')):=by simp[ay,gV,gO,Pu.bq,dV,h,g,f,c,R.bind,aC,cc,cb,br,bU,ce]
theorem Ku{G:ae->R Slot}{ε:ae}{d f:ae->R PV}{b v c r:PV}{p p':Pu.PO}(l:ε[0]?=aa (.val b))(j:ε[1]?=aa (.own p))(i:d ε=.ok v ε)(g:f ε=.ok c ε)(h:G [.val b,.own p,.val v,.val c]=.ok (.val r) [.val b,.own p',.val v,.val c]):ay G (gV (dV 0) (gO 1 (gV d (gV f Pu.bq)))) ε=.ok (.val r) (ε.set 1 (.own p')):=by simp[ay,gV,gO,Pu.bq,dV,l,j,i,g,h,R.bind,aC,cc,cb,br,bU,ce]
structure Vw(w:Nat)(ls:List Tx):Prop where
 g:Good bu w ls
 w1:1<=w
 w4:w<=4
 hs:ls.Pairwise (λa b=>dz a b=ah)
 h0:cg w ls≠[]
theorem A5{t:Tx}{w:Nat}(b:1<=w)(d:w<=4)(f:w<=t.length)(j:t.length+1-w<=9)(i:∀c∈t,c∈bu):Vw w (bJ (bM t w)):=by obtain⟨g,h,l⟩:=Qt b f j i;exact⟨g,b,d,h,l⟩
theorem Pr:Vw 1 [[97]]/\(cg 1 [[97]]).length<=16:=by
 have h:bJ (bM [97] 1)=[[97]]:=by decide +kernel
 have v:=A5 (t:=[97]) (w:=1) (by decide) (by decide) (by decide) (by decide) (by decide);rw[h]at v;exact⟨v,by decide +kernel⟩
def fF(a:Ad)(d:List Int)(c:List PV)(t:Tx)(w:Nat)(b:List Tx):ae:=[bz d,.own (.lst c),↥t,⇑w,.val (bR w b),.val (.lst (ak (cg w b)))]
theorem E7(d:List Int)(c:List PV)(t:Tx)(w:Nat)(b:List Tx):sU (fF a d c t w b)=.ok (decide (16<(cg w b).length)) (fF a d c t w b):=by
 have g:aP [.lst (ak (cg w b))]=aa (.int ((cg w b).length:Nat)):=by simp[aP,gL]
 have f:bI (λi j=>decide (j<i)) (.int ((cg w b).length:Nat)) (.int 16)=aa (.bl (decide (16<(cg w b).length))):=by show aa (PV.bl (decide ((16:Int)<((cg w b).length:Nat))))=_;congr 2;exact decide_eq_decide.mpr ∅
 exact eM (dI (gP (cA (bC rfl) gJ) g) (c4 (.int 16) _) f)
theorem Dl(f:List Int)(d:List PV)(t:Tx)(w:Nat)(g:List Tx){x:PV}{c:Nat}{b:List Tx}(v:Vw c b)(h:rJ a (fF a f d t w g)=.ok (bR c b) (fF a f d t w g)):qx a (fF a f d t w g)=.ok .next (fF a f d t c b):=by have j:=Fc (a:=a) v.g v.w1 v.w4 v.hs;have i:bv (bR c b) (.int 0)=aa (.int c):=rfl;unfold qx;refine(bO (fJ h)).trans ?_;have l:aT 3 (d2 bv (dV 4) (dC (.int 0))) ((fF a f d t w g).set 4 (.val (bR c b)))=.ok .next (((fF a f d t w g).set 4 (.val (bR c b))).set 3 (⇑c)) :=fJ (dI (bC rfl) (c4 (.int 0) _) i);refine(bO l).trans ?_;exact fJ (sk_call1o (bC rfl) j)
theorem IR(c:List Int)(b:List PV)(t:Tx)(w:Nat)(d:List Tx)(h:w<4)(m:t.length<=60):rJ a (fF a c b t w d)=.ok (bR (w+1) (bJ (bM t (w+1)))) (fF a c b t w d):=by
 have g:=xm (a:=a) t (w+1) m;have o:bI (λi j=>decide (i<j)) (.int w) (.int 4)=aa (.bl ah):=by show aa (PV.bl (decide (((w:Nat):Int)<4)))=_;rw[decide_eq_true ∅]
 have n:bj (.int w) (.int 1)=aa (.int ((w+1:Nat):Int)):=rfl;unfold rJ;refine(j6 (eM (dI (bC rfl) (c4 (.int 4) _) o))).trans ?_;have f:d2 bj (dV 3) (dC (.int 1)) (fF a c b t w d)=.ok (.int ((w+1:Nat):Int)) (fF a c b t w d):=dI (bC rfl) (c4 (.int 1) _) n;have p:aA (ay (iZ a) (gV (dV 2) (gV (d2 bj (dV 3) (dC (.int 1))) (Pu.bq)))) (fF a c b t w d)=.ok (.tup (ak (bJ (bM t (w+1))))) (fF a c b t w d):=by generalize d2 bj (dV 3) (dC (.int 1))=D at f ⊢;have l:dV 2 (fF a c b t w d)=.ok (.str t) (fF a c b t w d):=bC rfl;generalize fF a c b t w d=ε at l f ⊢;generalize ((w+1:Nat):Int)=W1 at f g;simp[aA,ay,gV,Pu.bq,l,f,g,R.bind,aC,cc,cb,br,bU,ce,iP]
 exact gP (cA f (cA p gJ)) rfl
theorem L3(c:List Int)(b:List PV)(t:Tx)(w:Nat)(d:List Tx)(h:¬w<4):rJ a (fF a c b t w d)=.ok (bR 1 [[97]]) (fF a c b t w d):=by
 have f:bI (λi j=>decide (i<j)) (.int w) (.int 4)=aa (.bl aj):=by show aa (PV.bl (decide (((w:Nat):Int)<4)))=_;rw[decide_eq_false ∅]
 unfold rJ;exact(gM (eM (dI (bC rfl) (c4 (.int 4) _) f))).trans rfl
theorem M6(h:List Int)(g:List PV)(t:Tx)(B:6<=t.length)(D:t.length<=8)(z:∀c∈t,c∈bu):∀(k i:Nat) (w:Nat) (d:List Tx),Vw w d->5-w<=k->k+1<i -> ∃(j:Nat) (b:List Tx),Vw j b/\(cg j b).length<=16/\ge sU (qx a) i (fF a h g t w d)=.ok .next (fF a h g t j b):=by
 intro k
 induction k with
 |zero=>intro i w d v y;have:=v.w4;lia
 |succ k s=>
  intro i w d v y C;obtain⟨f,rfl⟩:∃f,i=f+1:=⟨i-1,∅⟩
  have c:=E7 (a:=a) h g t w d;by_cases q:16<(cg w d).length
  .rw[decide_eq_true q]at c;by_cases o:w<4
   .have n:=A5 (t:=t) (w:=w+1) ∅ ∅ ∅ (by have:=v.w1;lia) z;obtain⟨j,b,r,A,u⟩:=s f (w+1) _ n ∅ ∅;exact⟨j,b,r,A,(Am c (Dl h g t w d (x:=.non) n (IR h g t w d o ∅))).trans u⟩
   .obtain⟨m,l⟩:=Pr;have p:=E7 (a:=a) h g t 1 [[97]];rw[decide_eq_false ∅]at p;obtain⟨f2,rfl⟩:∃f2,f=f2+1:=⟨f-1,∅⟩
    exact⟨1,[[97]],m,l,(Am c (Dl h g t w d (x:=.non) m (L3 h g t w d o))).trans (xH p)⟩
  .rw[decide_eq_false q]at c;exact⟨w,d,v,∅,xH c⟩
theorem HQ(c:List Int)(xs:List PV)(A:xs.length<=400):∃(w:Nat) (h:List Tx) (d:List PV),Vw w h/\(cg w h).length<=16/\d.length<=xs.length+30 /\ tt a [bz c,.own (.lst xs)]=.ok (.val (.tup [bR w h,.lst (ak (cg w h))])) [bz c,.own (.lst d)]:=by
 obtain⟨t,w,d,H,n,J,I,m,z,C⟩:=OJ (a:=a) c xs 2 8 (by decide) (by decide) (by decide) (by decide) A;have v:=A5 (t:=t) (w:=w) ∅ n ∅ ∅ m;obtain⟨g,b,o,F,B⟩:=M6 (a:=a) c d t ∅ ∅ m 4 1000 w _ v ∅ (by decide);refine⟨g,b,d,o,F,z,?_⟩;have l:=xm (a:=a) t w ∅;have E:=Fc (a:=a) v.g v.w1 v.w4 v.hs;have q:mh a [bz c,.own (.lst xs),⇑2,⇑8]=.ok (.val (.tup [.str t,.int w])) [bz c,.own (.lst d),⇑2,⇑8]:=C;have y:kF 2 3 (aA (ay (mh a) (gV (dV 0) (gO 1 (gV (dC (.int 2)) (gV (dC (.int 8)) (Pu.bq))))))) [bz c,.own (.lst xs),.none,.none,.none,.none]=.ok .next [bz c,.own (.lst d),↥t,⇑w,.none,.none]:=by have e:=Ku (G:=mh a) (ε:=[bz c,.own (.lst xs),.none,.none,.none,.none]) (p:=.lst xs) (p':=.lst d) rfl rfl (c4 (.int 2) _) (c4 (.int 8) _) q;unfold kF aA;rw[e];rfl
 have u:aT 4 (dL cy (am (dV 3) (am (aA (ay (iZ a) (gV (dV 2) (gV (dV 3) (Pu.bq))))) (ar)))) [bz c,.own (.lst d),↥t,⇑w,.none,.none]=.ok .next [bz c,.own (.lst d),↥t,⇑w,.val (bR w (bJ (bM t w))),.none]:=by refine(fJ (gP (cA (bC rfl) (cA (x:=.tup (ak (bJ (bM t w)))) (ε1:=[bz c,.own (.lst d),↥t,⇑w,.none,.none]) ?_ gJ)) (v:=bR w (bJ (bM t w))) rfl)).trans rfl;generalize iZ a=G at l;generalize ak (bJ (bM t w))=X at l;simp[aA,ay,gV,Pu.bq,dV,l,R.bind,aC,cc,cb,br,bU,ce,iP]
 have s:aT 5 (aA (ay (mq a) (gV (dV 4) (Pu.bq)))) [bz c,.own (.lst d),↥t,⇑w,.val (bR w (bJ (bM t w))),.none]=.ok .next (fF a c d t w (bJ (bM t w))) :=fJ (sk_call1o (bC rfl) E);have r:a8 (dL cy (am (dV 4) (am (dV 5) (ar)))) (fF a c d t g b)=.ok (.ret (.val (.tup [bR g b,.lst (ak (cg g b))]))) (fF a c d t g b):=by unfold a8;rw[gP (f:=cy) (cA (bC (i:=4) (v:=bR g b) rfl) (cA (bC (i:=5) (v:=.lst (ak (cg g b))) rfl) gJ)) rfl];rfl
 rw[Q_];have j:aB (kF 2 3 (aA (ay (mh a) (gV (dV 0) (gO 1 (gV (dC (.int 2)) (gV (dC (.int 8)) (Pu.bq))))))))
   (aB (aT 4 (dL cy (am (dV 3) (am (aA (ay (iZ a) (gV (dV 2) (gV (dV 3) (Pu.bq))))) (ar)))))
   (aB (aT 5 (aA (ay (mq a) (gV (dV 4) (Pu.bq)))))
   (aB (λε=>cm (ge sU (qx a) 1000 ε))
   (a8 (dL cy (am (dV 4) (am (dV 5) (ar)))))))) [bz c,.own (.lst xs),.none,.none,.none,.none]=.ok (.ret (.val (.tup [bR g b,.lst (ak (cg g b))]))) (fF a c d t g b):=by
  refine(bO y).trans ((bO u).trans ((bO s).trans ?_));refine(bO (d1:=λε=>cm (ge sU (qx a) 1000 ε)) (by show cm _=_;rw[B];rfl)).trans ?_;exact r
 unfold fF at j;generalize aB _ _=D at j;generalize PV.tup [bR g b,.lst (ak (cg g b))]=Q at j ⊢;simp[bf,eA,aY,cX,j,back,aC,R.bind,gK]
theorem Vw.ql{w:Nat}{b:List Tx}(v:Vw w b):Ql (cg w b)/\∃n,1<=n/\n<=20/\∀t∈cg w b,t.length=n:=by
 have g:∀x∈b,x.length=w/\∀c∈x,c∈bu:=λx h=>⟨v.g.len x h,v.g.abc x h⟩
 have f:∀t∈cg w b,t.length=w-1+b.length/\∀c∈t,c∈bu:=λt d=>HN v.w1 v.g.some g d;have m:=v.g.some;have l:=v.g.few;have j:=v.w4;have i:=v.w1;refine⟨⟨v.h0,OD v.w1 v.g.some g,λt d=>(f t d).2,λt d=>?_⟩,w-1+b.length,∅,∅,λt d=>(f t d).1⟩;obtain⟨x,r,e⟩:=pY v.h0;have:wide (cg w b)=w-1+b.length:=by rw[e];exact(f x (by rw[e];simp)).1
 rw[this];exact(f t d).1
theorem LW(T:List Tx):(ft T).lookup (bY "left")=af:=rfl
theorem tW{ε:ae}{i:Nat}{T:List Tx}{Rw:List (Nat×Nat)}{n:Nat}(c:∀t∈T,t.length=n)(d:∀q∈Rw,q.1<n)(b:ε[i]?=aa (.own (SK a T (aF Rw)))):cY a.Seeker (bY "left") i (iA a) ε=.ok (.own (.lst (ak (lf T Rw)))) ε:=by have h:=Bf (a:=a) b (LW T) (by decide) (Jp c d);rw[Aw b]at h;exact h
theorem Pa{T:List Tx}{b:List (Nat×Nat)}{n:Nat}(m:∀t∈T,t.length=n)(s:∀q∈b,q.1<n)(p:Ql (lf T b))(u:(lf T b).length<=16)(v:n<=1000):rq a [.own (SK a T (aF b))]=.ok (⇑(nd (lf T b):Nat)) [.own (SK a T (aF b))]:=by
 have g:=tW (a:=a) (ε:=[.own (SK a T (aF b))]) (i:=0) m s rfl;obtain⟨h,_,c⟩:=needed_eq (a:=a) (l0:=lf T b) u (λl g o=>by
  obtain⟨x,r,e⟩:=pY g.ne;have:wide l=n:=by rw[e];exact m x ((ud b T).mem (o.mem (by rw[e];simp)))
  lia) 16 17 (lf T b) [] ∅ ∅ p (List.Sublist.refl _) (Kn.nil _)
 have j:j5 [.lst (ak (lf T b))]=aa (.tup (ak (lf T b))):=rfl;have f:aA (cY a.Seeker (bY "left") 0 (iA a)) [.own (SK a T (aF b))]=.ok (.lst (ak (lf T b))) [.own (SK a T (aF b))]:=by unfold aA;rw[g];rfl
 have d:l7 (jg a 17) (mD (dL j5 (am (aA (cY a.Seeker (bY "left") 0 (iA a))) (ar))) (gN (xw) (Pu.bq))) [.own (SK a T (aF b))]=.ok (.val (.int (nd (lf T b):Nat))) [.own (SK a T (aF b))]:=by generalize aA (cY a.Seeker (bY "left") 0 (iA a))=D at f;generalize jg a 17=G at c ⊢;generalize SK a T (aF b)=P at f ⊢;generalize ak (lf T b)=X at f c j;generalize ((nd (lf T b):Nat):Int)=M at c ⊢;simp[l7,mD,gN,xw,dL,am,ar,f,j,Pu.bq,R.bind,aC,br,bU,c,cc,cb,ce,zZ]
 unfold rq Di;generalize l7 _ _=D at d;generalize SK a T (aF b)=P at d ⊢;generalize ((nd (lf T b):Nat):Int)=M at d ⊢;simp[fG,eV,iM,aY,oQ,d,R.bind,aC,back]
theorem xt{T:List Tx}{L:List PV}{x y:PV}{n:Nat}(i:T≠[])(h:∀t∈T,t.length=n):dL aP (am (d2 bv (kl a.Seeker (bY "answers") 0 (bY "having")) (dC (.int 0))) (ar)) [.own (SK a T L),.val x,.val y,.none]=.ok (.int n) [.own (SK a T L),.val x,.val y,.none]:=by
 obtain⟨t,r,e⟩:=pY i;have c:=pj (a:=a) T L [.val x,.val y,.none];have b:=Cm T;have g:bv (.tup (ak T)) (.int 0)=aa (.str t):=by rw[e];show dr (ak (t::r)) ((0:Nat):Int)=_;unfold dr;rw[rj ∅ (by simp[ak])];rfl
 have d:aP [.str t]=aa (.int n):=by rw[<-h t (by rw[e];simp)];rfl
 generalize ((n:Nat):Int)=N at d ⊢;generalize ak T=X at b g;generalize SK a T L=P at c ⊢;generalize ft T=f at c b;simp[dL,am,ar,d2,dC,kl,c,b,g,d,R.bind,aC]
theorem NG{T:List Tx}{L:List PV}{x y:PV}{n:Nat}(f:T≠[])(d:∀t∈T,t.length=n)(h:Pk n x):kq a [.own (SK a T L),.val x,.val y]=.er (.ref a.NoPlace) [.own (SK a T L),.val x,.val y]:=by have b:=xt (a:=a) (L:=L) (x:=x) (y:=y) f d;have c:=LV (a:=a) h;unfold kq zM;generalize dL aP _=D at b;generalize ((n:Nat):Int)=N at b c;generalize SK a T L=P at b ⊢;simp[fG,eV,iM,aY,aB,jl,ay,gV,dV,b,Pu.bq,R.bind,aC,br,bU,c,cc,cb,ce,back]
theorem J1{T:List Tx}{L:List PV}{y:PV}{n p:Nat}(i:T≠[])(f:∀t∈T,t.length=n)(d:p<n)(h:Lk y):kq a [.own (SK a T L),⇑p,.val y]=.er (.ref a.NoLetters) [.own (SK a T L),⇑p,.val y]:=by have b:=xt (a:=a) (L:=L) (x:=.int p) (y:=y) i f;have c:=z_ (a:=a) d;have g:=HE (a:=a) h;unfold kq zM;generalize dL aP (am _ _)=D at b;generalize ((n:Nat):Int)=N at b c;generalize ((p:Nat):Int)=PI at b c ⊢;generalize SK a T L=P at b ⊢;simp[fG,eV,iM,aY,aB,jl,ay,gV,dV,b,Pu.bq,R.bind,aC,br,bU,c,g,cc,cb,ce,back]
def hW(a:Ad):ae->R PV:=aA (ay (iY a) (gV (aA (cY a.Seeker (bY "left") 0 (iA a))) (gV (dV 1) (gV (dV 2) (Pu.bq)))))
theorem CN{T:List Tx}{b:List (Nat×Nat)}{n p c:Nat}(d:∀t∈T,t.length=n)(j:∀q∈b,q.1<n)(g:p<n):hW a [.own (SK a T (aF b)),⇑p,.val (.str [c]),.none]=.ok (.tup (ak (wl (lf T b) p c))) [.own (SK a T (aF b)),⇑p,.val (.str [c]),.none]:=by
 have h:=tW (a:=a) (ε:=[.own (SK a T (aF b)),.val (.int p),.val (.str [c]),.none]) (i:=0) d j rfl;have l:aA (cY a.Seeker (bY "left") 0 (iA a)) [.own (SK a T (aF b)),.val (.int p),.val (.str [c]),.none]=.ok (.lst (ak (lf T b))) [.own (SK a T (aF b)),.val (.int p),.val (.str [c]),.none]:=by unfold aA;rw[h];rfl
 exact sk_call3 l rfl rfl (with_eq (a:=a) rfl λt f=>by rw[d t ((ud b T).mem f)];exact g)
theorem Ev:kq a=fG 3 [0] (aY 1 (aB (jl (ay (qg a) (gV (dV 1) (gV (dL aP (am (d2 bv (kl a.Seeker (bY "answers") 0 (bY "having")) (dC (.int 0))) (ar))) (Pu.bq))))) (aB (jl (ay (pc a) (gV (dV 2) (Pu.bq)))) (aB (aT 3 (hW a)) (aB (a6 (dB (d2 (Pu.eqT aj) (dL aP (am (dV 3) (ar))) (dC (.int 0)))) (iW (.ref a.Never) (λb=>bn ((dC (.str [110,111,32,116,101,120,116,32,116,104,97,116,32,105,115,32,108,101,102,116,32,104,97,115,32,116,104,105,115,32,108,101,116,116,101,114,32,116,104,101,114,101])) b))) (bF)) (aB (pq a.Seeker (bY "answers") 0 (dL cy (am (dV 1) (am (dV 2) (ar))))) (a8 (dL aP (am (dV 3) (ar)))))))))):=rfl
theorem L4{T:List Tx}{d:List (Nat×Nat)}{n p c:Nat}(u:T≠[])(i:∀t∈T,t.length=n)(o:∀q∈d,q.1<n)(h:p<n)(m:c∈bu)(l:wl (lf T d) p c=[]):kq a [.own (SK a T (aF d)),⇑p,.val (.str [c])]=.er (.ref a.Never) [.own (SK a T (aF d)),⇑p,.val (.str [c])]:=by have f:=xt (a:=a) (L:=aF d) (x:=.int p) (y:=.str [c]) u i;have g:=z_ (a:=a) h;have s:=CG (a:=a) m;have b:=CN (a:=a) (c:=c) i o h;rw[l]at b;have j:aP [.tup (ak [])]=aa (.int 0):=rfl;have r:Pu.eqT aj (.int 0) (.int 0)=aa (.bl ah):=rfl;rw[Ev];generalize hW a=W at b;generalize ak []=X at b j;generalize dL aP (am (d2 bv _ _) _)=D at f;generalize ((n:Nat):Int)=N at f g;generalize ((p:Nat):Int)=PI at f g b ⊢;generalize SK a T (aF d)=P at f b ⊢;simp[fG,eV,iM,aY,aB,jl,ay,gV,dV,f,Pu.bq,R.bind,aC,br,bU,g,s,b,j,r,cc,cb,ce,back,aT,a6,dB,eK,d2,dL,am,ar,dC,iW,bn]
theorem vT(Rw:List (Nat×Nat))(p c:Nat):aF (Rw++[(p,c)])=aF Rw++[.tup [.int p,.str [c]]]:=by unfold aF;rw[oq];rfl
theorem LL{T:List Tx}{b:List (Nat×Nat)}{n p c:Nat}(G:T≠[])(w:∀t∈T,t.length=n)(E:∀q∈b,q.1<n)(v:p<n)(C:c∈bu)(B:wl (lf T b) p c≠[])(H:b.length<=1000):kq a [.own (SK a T (aF b)),⇑p,.val (.str [c])]=.ok (⇑((lf T (b++[(p,c)])).length:Nat)) [.own (SK a T (aF (b++[(p,c)]))),⇑p,.val (.str [c])]:=by
 have j:=xt (a:=a) (L:=aF b) (x:=.int p) (y:=.str [c]) G w;have s:=z_ (a:=a) v;have F:=CG (a:=a) C;have i:=CN (a:=a) (c:=c) w E v;have r:aP [.tup (ak (wl (lf T b) p c))]=aa (.int ((wl (lf T b) p c).length:Nat)):=by simp[aP,gL]
 have A:Pu.eqT aj (.int ((wl (lf T b) p c).length:Nat)) (.int 0)=aa (.bl aj):=by rw[j7,decide_eq_false (by have:=nu.mpr B;lia)];rfl
 have z:(aF b).length<bH:=by unfold bH aF;rw[bS];lia
 have o:cy [.int p,.str [c]]=aa (.tup [.int p,.str [c]]):=rfl;have l:=λh=>pj (a:=a) T (aF b) h;have g:PO.inl a.Seeker (ft T) (bY "answers") (aF b++[.tup [.int p,.str [c]]])=SK a T (aF b++[.tup [.int p,.str [c]]]):=rfl;rw[xa,vT,Ev];generalize hW a=W at i;generalize (((wl (lf T b) p c).length:Nat):Int)=WL at r A ⊢;generalize ak (wl (lf T b) p c)=X at i r;have u:dL aP (am (dV 3) (ar))=(λh=>(dV 3 h).bind λx m=>aC (aP [x]) m):=by
  funext h;simp[dL,am,ar,R.bind];cases dV 3 h <;> rfl
 rw[u];generalize dL aP (am (d2 bv _ _) _)=D at j;generalize ((n:Nat):Int)=N at j s;generalize ((p:Nat):Int)=PI at j s i o g ⊢;generalize PV.tup [.int PI,.str [c]]=Q at o g ⊢;have d:pq a.Seeker (bY "answers") 0 (dL cy (am (dV 1) (am (dV 2) (ar)))) [.own (SK a T (aF b)),.val (.int PI),.val (.str [c]),.val (.tup X)]=.ok .next [.own (SK a T (aF b++[Q])),.val (.int PI),.val (.str [c]),.val (.tup X)]:=by generalize aF b=L at z l g ⊢;generalize SK a T (L++[Q])=P2 at g ⊢;generalize SK a T L=P at l ⊢;generalize ft T=f at l g;simp[pq,l,R.bind,aC,dL,am,ar,dV,o,z,g]
 generalize pq _ _ _ _=DA at d;generalize SK a T (aF b++[Q])=P2 at d ⊢;generalize SK a T (aF b)=P at j i d ⊢;simp[fG,eV,iM,aY,aB,jl,ay,gV,dV,j,Pu.bq,R.bind,aC,br,bU,s,F,i,r,A,cc,cb,ce,back,aT,a6,dB,eK,d2,dC,bF,a8,d]
theorem Lh{T:List Tx}:nN a [.own (SK a T [])]=.er (.ref a.Nothing) [.own (SK a T [])]:=by have b:=pj (a:=a) T [] [];have d:aP [.lst []]=aa (.int 0):=rfl;have c:Pu.eqT aj (.int 0) (.int 0)=aa (.bl ah):=rfl;generalize SK a T []=P at b ⊢;generalize ft T=f at b;simp![nN,ze,fG,eV,iM,kn,b,d,c,iW,bn]
theorem KB{T:List Tx}{b:List (Nat×Nat)}{q:Nat×Nat}:nN a [.own (SK a T (aF (b++[q])))]=.ok (.val (.tup [.int (q.1:Nat),.str [q.2]])) [.own (SK a T (aF b))]:=by
 have h:=λL=>pj (a:=a) T L [];have c:aP [.lst (aF (b++[q]))]=aa (.int ((b.length+1:Nat):Int)):=by show aa (PV.int _)=_;unfold aF;rw[bS,eZ,pM]
 have d:=j7 aj ((b.length+1:Nat):Int) 0;have j:¬((b.length+1:Nat):Int)=0:=∅
 simp only[j,decide_false,u0]at d;have l:aF (b++[q])=aF b++[.tup [.int (q.1:Nat),.str [q.2]]]:=vT b q.1 q.2;rw[l]at c ⊢;have g:∀i,(PO.inl a.Seeker (ft T) (bY "answers") i)=SK a T i:=λ_=>rfl;generalize PV.tup [.int (q.1:Nat),.str [q.2]]=Q at c ⊢;generalize ((b.length+1:Nat):Int)=n at c d;generalize aF b=L at c ⊢;generalize SK a T=P at h g ⊢;generalize ft T=f at h g;simp![nN,ze,fG,eV,iM,kn,wp,h,g,c,d]
end
section
variable{a:Ad}
def rf(n:Int):PV:=.tup [.str [114,101,102,117,115,101,100],.int n]
def gc(q:Nat×Nat):PV:=.tup [.int (q.1:Nat),.str [q.2]]
def Wh(a:Ad):Prop:=[kI a [.val (.exc (.ref a.NoPlace))],kI a [.val (.exc (.ref a.NoLetters))],kI a [.val (.exc (.ref a.Never))],kI a [.val (.exc (.ref a.Nothing))]] =
 [.ok (.val (rf 8)) [.val (.exc (.ref a.NoPlace))],.ok (.val (rf 9)) [.val (.exc (.ref a.NoLetters))],.ok (.val (rf 4)) [.val (.exc (.ref a.Never))],.ok (.val (rf 6)) [.val (.exc (.ref a.Nothing))]]
theorem SA (h:[kI a [.val (.exc (.ref a.NoPlace))],kI a [.val (.exc (.ref a.NoLetters))],kI a [.val (.exc (.ref a.Never))],kI a [.val (.exc (.ref a.Nothing))]]=[.ok (.val (rf 8)) [.val (.exc (.ref a.NoPlace))],.ok (.val (rf 9)) [.val (.exc (.ref a.NoLetters))],.ok (.val (rf 4)) [.val (.exc (.ref a.Never))],.ok (.val (rf 6)) [.val (.exc (.ref a.Nothing))]]):Wh a:=h
def qp(a:Ad)(c:ac)(n:Int):Prop:=l8 a (.ref c)=ah/\kI a [.val (.exc (.ref c))]=.ok (.val (rf n)) [.val (.exc (.ref c))]
theorem Jf(h:Wh a):qp a a.NoPlace 8/\qp a a.NoLetters 9/\qp a a.Never 4/\qp a a.Nothing 6:=by unfold Wh at h;simp only[uZ,and_true]at h;exact⟨⟨by simp[l8,fj],h.1⟩,⟨by simp[l8,fj],h.2.1⟩,⟨by simp[l8,fj],h.2.2.1⟩,by simp[l8,fj],h.2.2.2⟩
theorem xK(n:Int):Pu.eqT ah (rf n) (rf n)=aa (.bl aj):=by unfold rf Pu.eqT;simp[c_,gQ,eG,cV,eO];exact⟨by rw[Bk];exact decide_eq_true rfl,by simp[dX]⟩
theorem Gs(q:Nat×Nat):cV (gc q) (gc q)=aa ah:=by unfold gc;simp[c_,cV,eO];exact⟨by simp[dX],by rw[Bk];exact decide_eq_true rfl⟩
theorem Qk(q:Nat×Nat):Pu.eqT ah (gc q) (gc q)=aa (.bl aj):=by show(if gQ (gc q)<=8 then(cV (gc q) (gc q)).map (λk=>PV.bl (ah^^k))else af)=_;rw[if_pos (by show max 0 (max 0 0)+1<=8;decide),Gs];rfl
theorem DH:∀b:List (Nat×Nat),eO (aF b) (aF b)=aa ah
 |[]=>rfl
 |q::b=>by have d:=Gs q;have c:=DH b;show eO (gc q::aF b) (gc q::aF b)=_;generalize aF b=X at c ⊢;generalize gc q=Y at d ⊢;simp[eO,d,c]
theorem y4:∀b:List (Nat×Nat),eG (aF b)<=1
 |[]=>by simp[aF,eG]
 |q::b=>by show max (max 0 (max 0 0)+1) (eG (aF b))<=1;have:=y4 b;lia
theorem L6(Rw:List (Nat×Nat)):Pu.eqT ah (.lst (aF Rw)) (.lst (aF Rw))=aa (.bl aj):=by show(if gQ (.lst (aF Rw))<=8 then(eO (aF Rw) (aF Rw)).map (λk=>PV.bl (ah^^k))else af)=_;rw[if_pos (by show eG (aF Rw)+1<=8;have:=y4 Rw;lia),DH];rfl
theorem wU(b:List (Nat×Nat)):Pu.eqT ah (.lst (aF b)) (.lst [])=aa (.bl (decide (b≠[]))):=by
 show(if gQ (.lst (aF b))<=8 then(eO (aF b) []).map (λk=>PV.bl (ah^^k))else af)=_;rw[if_pos (by show eG (aF b)+1<=8;have:=y4 b;lia)];cases b with
 |nil=>rfl
 |cons x r=>rfl
def lL:ae->R aH:=(aT 0 (dF (bT [2,3] (bx (dV 0)) (dB (d2 (Pu.eqT aj) (d2 bv (dV 0) (dV 1)) (dV 2))) (dV 0))))
theorem Pz{l:List Tx}{p c:Nat}(i:∀t∈l,p<t.length)(v1:PV):lL [.val (lsP l),.val v1,⇑p,.val (.str [c])]=.ok .next [.val (lsP (wl l p c)),.val v1,⇑p,.val (.str [c])]:=by
 have b:=iI (cap:=[2,3]) (dt:=(dB (d2 (Pu.eqT aj) (d2 bv (dV 0) (dV 1)) (dV 2)))) (de:=dV 0) (ε:=[.val (lsP l),.val v1,⇑p,.val (.str [c])]) (hasC p c) (λv=>v) (ak l) (λv j=>by
  obtain⟨t,h,rfl⟩:=b0.mp j;have d:=sk_ix (i t h);have g:=sk_test (c:=c) (i t h);rw[d,gu]at g;refine⟨?_,λ_=>?_⟩
  .show _=R.ok (decide (t[p]?=aa c)) _;generalize decide (t[p]?=aa c)=B at g ⊢;generalize ((p:Nat):Int)=PI at d ⊢;generalize lsP l=LP;simp![ci,cZ,bn,d,g]
  .generalize ((p:Nat):Int)=PI at d ⊢;generalize lsP l=LP;simp![ci,cZ,bn]) []
 have n:((ak l).filter (hasC p c)).map (λv=>v)=ak (wl l p c):=by rw[pX];unfold ak wl;rw[k9];rfl
 rw[ik,n]at b;have f:hV (lsP l)=aa (ak l):=rfl;have m:lsP (wl l p c)=.lst (ak (wl l p c)):=rfl;rw[m];generalize ak (wl l p c)=W at b ⊢;generalize ak l=TL at b f;generalize lsP l=LP at b f ⊢;generalize ((p:Nat):Int)=PI at b ⊢;unfold lL;generalize (dB (d2 (Pu.eqT aj) (d2 bv (dV 0) (dV 1)) (dV 2)))=DT at b;simp[aT,dF,bx,dV,bT,f,b,R.bind,aC,lw]
theorem Eb{v1:PV}{n:Nat}:∀(d:List (Nat×Nat)) (T:List Tx) (g f:Slot),(∀t∈T,t.length=n)->(∀q∈d,q.1<n) -> ∃m u,hZ 2 3 lL (aF d) [.val (lsP T),.val v1,g,f]=.ok .next [.val (lsP (lf T d)),.val v1,m,u]
 |[],T,g,f,_,_=>⟨g,f,rfl⟩
 |q::d,T,g,f,i,j=>by
  obtain⟨s,o,w⟩:=Eb (v1:=v1) d (wl T q.1 q.2) (⇑(q.1:Nat)) (.val (.str [q.2])) (λt h=>i t ((wl_sub T q.1 q.2).mem h)) λx v=>j x (by simp[v]);refine⟨s,o,?_⟩;have y:=Pz (l:=T) (p:=q.1) (c:=q.2) (λt h=>by rw[i t h];exact j q (by simp)) v1;show hZ 2 3 lL (.tup [.int (q.1:Nat),.str [q.2]]::aF d) _=_;rw[hZ];show(match lL [.val (lsP T),.val v1,⇑(q.1:Nat),.val (.str [q.2])]with
   |.ok .next b=>hZ 2 3 lL (aF d) b
   |.ok .cont b=>hZ 2 3 lL (aF d) b
   |.ok .brk b=>.ok .next b
   |r=>r)=_
  rw[y];exact w
theorem EI{T:List Tx}{Rw:List (Nat×Nat)}{n:Nat}(d:∀t∈T,t.length=n)(f:∀q∈Rw,q.1<n):oU a [.val (lsP T),.val (.lst (aF Rw))]=.ok (.val (lsP (lf T Rw))) [.val (lsP T),.val (.lst (aF Rw))]:=by
 obtain⟨s2,s3,h⟩:=Eb (v1:=.lst (aF Rw)) Rw T .none .none d f;have c:(λb=>cm (o7 2 3 (bx (dV 1)) lL b)) [.val (lsP T),.val (.lst (aF Rw)),.none,.none]=.ok .next [.val (lsP (lf T Rw)),.val (.lst (aF Rw)),s2,s3]:=by show cm (o7 2 3 _ _ _)=_;unfold o7;rw[show bx (dV 1) [.val (lsP T),.val (.lst (aF Rw)),.none,.none]=.ok (aF Rw) [.val (lsP T),.val (.lst (aF Rw)),.none,.none] from rfl,R.bind_ok,h];rfl
 show bf 2 [] (aY 2 (aB (λb=>cm (o7 2 3 (bx (dV 1)) lL b)) (a8 (dV 0)))) _=_;generalize (λb=>cm (o7 2 3 (bx (dV 1)) lL b))=D at c;generalize PV.lst (aF Rw)=RR at c ⊢;generalize lsP (lf T Rw)=L2 at c ⊢;generalize lsP T=L1 at c ⊢;simp[bf,eA,aY,cX,aB,a8,dV,c,back,aC,R.bind,gK]
theorem s_{g f:ae->R Bool}{ε d c:ae}{b:Bool}(i:g ε=.ok aj d)(h:f d=.ok b c):fX g f ε=.ok b c:=by unfold fX;rw[i,R.bind_ok];exact h
theorem Bs{d g:ae->R Bool}{c b:ae}(f:d c=.ok ah b):fX d g c=.ok ah b:=by unfold fX;rw[f,R.bind_ok]
theorem not_of{c:ae->R Bool}{f d:ae}{b:Bool}(h:c f=.ok b d):dW c f=.ok (!b) d:=by unfold dW;rw[h];rfl
theorem qS{d:ae->R PV}{c b:ae}{x:PV}(h:d c=.ok x b):a8 d c=.ok (.ret (.val x)) b:=by unfold a8;rw[h];rfl
theorem xW{d1 d2:ae->R aH}{c b:ae}{s:Slot}(h:d1 c=.ok (.ret s) b):aB d1 d2 c=.ok (.ret s) b:=by unfold aB;rw[h]
theorem Ct{G:ae->R Slot}{d e:ae->R PV}{b:ae}{x y u:PV}(h:d b=.ok x b)(f:e b=.ok y b)(c:G [.val x,.val y]=.ok (.val u) [.val x,.val y]):aA (ay G (gV d (gV e Pu.bq))) b=.ok u b:=by simp[aA,ay,gV,Pu.bq,h,f,c,R.bind,aC,cc,cb,br,bU,ce,iP]
def uk(n:Int):ae->R PV:=dL cy (am (dC (.str [114,101,102,117,115,101,100])) (am (dC (.int n)) (ar)))
theorem vS(n:Int)(b:ae):uk n b=.ok (rf n) b:=gP (cA (c4 _ _) (cA (c4 _ _) gJ)) rfl
theorem oY(b:ae):dF (dL bZ ar) b=.ok (.lst []) b:=rfl
def lu:ae->R Bool:=dB (d2 (Pu.eqT aj) (dV 2) (dC (.str [117,110,100,111])))
def Pn:ae->R PV:=(a6 (dB (d2 (Pu.eqT ah) (dV 1) (dF (dL bZ (ar))))) (d2 bv (dV 1) (d1 fQ (dC (.int 1)))) (uk 6))
def vO:ae->R Bool:=(dB (jD (bI λi j=>decide (i<=j)) (bI λi j=>decide (i<j)) (dC (.int 0)) (dV 2) (dL aP (am (d2 bv (dV 0) (dC (.int 0))) (ar)))))
def jR:ae->R Bool:=(fX (dW (dB (dL eE (am (dV 2) (am (dC (.raw (.ty "int"))) (ar)))))) (fX (dB (dL eE (am (dV 2) (am (dC (.raw (.ty "bool"))) (ar))))) (dW vO)))
def Gc:ae->R Bool:=(dB (d2 (jx ah) (dV 3) (dL cy (am (dC (.str [97])) (am (dC (.str [98])) (am (dC (.str [99])) (ar)))))))
def CS:ae->R PV:=(d2 bj (dV 1) (dF (dL bZ (am (dL cy (am (dV 2) (am (dV 3) (ar)))) (ar)))))
def Ib:ae->R PV:=(a6 (dB (d2 (Pu.eqT ah) (dV 4) (dF (dL bZ (ar))))) (dL aP (am (dV 4) (ar))) (uk 4))
theorem sL:yaG a=aB (a6 lu (a8 Pn) (bF)) (aB (a6 jR (a8 (uk 8)) (bF)) (aB (a6 Gc (a8 (uk 9)) (bF)) (aB (aT 4 (aA (ay (oU a) (gV (dV 0) (gV CS (Pu.bq)))))) (a8 Ib)))):=rfl
def dE(T:List Tx)(Rw:List (Nat×Nat))(x y:PV):ae:=[.val (lsP T),.val (.lst (aF Rw)),.val x,.val y,.none]
theorem tP{T:List Tx}{Rw:List (Nat×Nat)}{x y r:PV}{s0 s1 s2 s3 s4:Slot}(h:yaG a (dE T Rw x y)=.ok (.ret (.val r)) [s0,s1,s2,s3,s4]):jP a [.val (lsP T),.val (.lst (aF Rw)),.val x,.val y]=.ok (.val r) [.val (lsP T),.val (.lst (aF Rw)),.val x,.val y]:=by unfold jP;unfold dE at h;generalize yaG a=D at h;generalize lsP T=A at h ⊢;generalize PV.lst (aF Rw)=B at h ⊢;simp[bf,eA,aY,cX,h,back,aC,R.bind,gK]
theorem uv{T:List Tx}{Rw:List (Nat×Nat)}{x y:PV}{b:Bool}(h:Pu.eqT aj x (.str [117,110,100,111])=aa (.bl b)):lu (dE T Rw x y)=.ok b (dE T Rw x y):=eM (dI (bC rfl) (c4 _ _) h)
theorem qe:Pu.eqT aj (.str eF) (.str [117,110,100,111])=aa (.bl ah):=by rw[z8];rfl
theorem Ko(b:List (Nat×Nat))(q:Nat×Nat):bv (.lst (aF (b++[q]))) (.int (-1))=aa (gc q):=by
 have c:ku (aF (b++[q])).length (-1)=aa b.length:=by unfold ku aF;rw[bS,eZ,pM,if_neg ∅,if_pos ∅];congr 1;lia
 show dr _ _=_;unfold dr;rw[c];unfold aF gc;simp
theorem M3{T:List Tx}{y:PV}:jP a [.val (lsP T),.val (.lst (aF [])),↥eF,.val y]=.ok (.val (rf 6)) [.val (lsP T),.val (.lst (aF [])),↥eF,.val y]:=by refine tP (s0:=.val (lsP T)) (s1:=.val (.lst (aF []))) (s2:=↥eF) (s3:=.val y) (s4:=.none) ?_;rw[sL];refine xW ((j6 (uv qe)).trans (qS ?_));exact(gM (eM (dI (bC rfl) (oY _) (wU [])))).trans (vS 6 _)
theorem ML{T:List Tx}{y:PV}{b:List (Nat×Nat)}{q:Nat×Nat}:jP a [.val (lsP T),.val (.lst (aF (b++[q]))),↥eF,.val y]=.ok (.val (gc q)) [.val (lsP T),.val (.lst (aF (b++[q]))),↥eF,.val y]:=by refine tP (s0:=.val (lsP T)) (s1:=.val (.lst (aF (b++[q])))) (s2:=↥eF) (s3:=.val y) (s4:=.none) ?_;rw[sL];refine xW ((j6 (uv qe)).trans (qS ?_));have c:=wU (b++[q]);rw[decide_eq_true (by simp)]at c;refine(j6 (eM (dI (bC rfl) (oY _) c))).trans ?_;exact dI (bC rfl) (show d1 fQ (dC (.int 1)) _=.ok (.int (-1)) _ from rfl) (Ko b q)
theorem Jq{T:List Tx}{b:List (Nat×Nat)}{y:PV}{n:Nat}(j:T≠[])(g:∀t∈T,t.length=n)(i:Int):vO (dE T b (.int i) y)=.ok (decide (0<=i)&&decide (i<n)) (dE T b (.int i) y):=by
 obtain⟨t,r,e⟩:=pY j;have d:bv (lsP T) (.int 0)=aa (.str t):=by rw[e];show dr (ak (t::r)) ((0:Nat):Int)=_;unfold dr;rw[rj ∅ (by simp[ak])];rfl
 have c:aP [.str t]=aa (.int n):=by rw[<-g t (by rw[e];simp)];rfl
 unfold dE;generalize lsP T=A at d;generalize PV.lst (aF b)=B;generalize ((n:Nat):Int)=N at c;by_cases f:0<=i
 .by_cases h:i<N <;> simp[vO,dB,jD,dC,dV,dL,am,ar,d2,d,c,bI,R.bind,aC,eK,f,h]
 .simp[vO,dB,jD,dC,dV,bI,R.bind,aC,eK,f]
theorem qR{T:List Tx}{Rw:List (Nat×Nat)}{x y:PV}{t C:String}{b:Bool}(h:rn x=aa t)(e:gk [] (.type t) (.type C)=aa b):dB (dL eE (am (dV 2) (am (dC (.raw (.ty C))) (ar)))) (dE T Rw x y)=.ok b (dE T Rw x y) :=eM (gP (cA (bC rfl) (cA (c4 _ _) gJ)) (jh h e))
theorem A9{T:List Tx}{Rw:List (Nat×Nat)}{y:PV}{n:Nat}(d:T≠[])(c:∀t∈T,t.length=n)(i:Int):jR (dE T Rw (.int i) y)=.ok (!(decide (0<=i)&&decide (i<n))) (dE T Rw (.int i) y) :=s_ (not_of (qR (t:="int") (b:=ah) rfl (by decide +kernel))) (s_ (qR (t:="int") rfl (by decide +kernel)) (not_of (Jq d c i)))
theorem Rf{T:List Tx}{Rw:List (Nat×Nat)}{x y:PV}{n:Nat}(d:T≠[])(c:∀t∈T,t.length=n)(h:Pk n x):jR (dE T Rw x y)=.ok ah (dE T Rw x y):=by
 cases h with
 |neg=>exact A9 d c (-1)
 |big=>have:=A9 (Rw:=Rw) (y:=y) d c (n:Nat);rwa[show(!(decide ((0:Int)<=(n:Nat))&&decide (((n:Nat):Int)<(n:Nat))))=ah by simp]at this
 |non=>exact Bs (not_of (qR (b:=aj) rfl (by decide +kernel)))
 |tru=>exact s_ (not_of (qR (b:=ah) rfl (by decide +kernel))) (Bs (qR rfl (by decide +kernel)))
 |zero=>exact Bs (not_of (qR (b:=aj) rfl (by decide +kernel)))
theorem Mw{T:List Tx}{b:List (Nat×Nat)}{x y:PV}{n:Nat}(d:T≠[])(c:∀t∈T,t.length=n)(h:Pk n x):jP a [.val (lsP T),.val (.lst (aF b)),.val x,.val y]=.ok (.val (rf 8)) [.val (lsP T),.val (.lst (aF b)),.val x,.val y]:=by refine tP (s0:=.val (lsP T)) (s1:=.val (.lst (aF b))) (s2:=.val x) (s3:=.val y) (s4:=.none) ?_;rw[sL];refine(bO (gM (uv h.ne))).trans ?_;exact xW ((j6 (Rf d c h)).trans (qS (vS 8 _)))
theorem nL{p:Int}:Pu.eqT aj (.int p) (.str [117,110,100,111])=aa (.bl aj):=by rfl
theorem Dr{T:List Tx}{Rw:List (Nat×Nat)}{y:PV}{n p:Nat}(c:T≠[])(b:∀t∈T,t.length=n)(d:p<n):jR (dE T Rw (.int p) y)=.ok aj (dE T Rw (.int p) y):=by have:=A9 (Rw:=Rw) (y:=y) c b (p:Nat);rwa[show(!(decide ((0:Int)<=(p:Nat))&&decide (((p:Nat):Int)<(n:Nat))))=aj by simp;lia]at this
theorem FU{T:List Tx}{Rw:List (Nat×Nat)}{x y:PV}{b:Bool}(h:jx ah y (.tup [.str [97],.str [98],.str [99]])=aa (.bl b)):Gc (dE T Rw x y)=.ok b (dE T Rw x y) :=eM (dI (bC rfl) (gP (cA (c4 _ _) (cA (c4 _ _) (cA (c4 _ _) gJ))) rfl) h)
theorem JN{T:List Tx}{b:List (Nat×Nat)}{y:PV}{n p:Nat}(f:T≠[])(d:∀t∈T,t.length=n)(c:p<n)(h:Lk y):jP a [.val (lsP T),.val (.lst (aF b)),⇑p,.val y]=.ok (.val (rf 9)) [.val (lsP T),.val (.lst (aF b)),⇑p,.val y]:=by refine tP (s0:=.val (lsP T)) (s1:=.val (.lst (aF b))) (s2:=⇑p) (s3:=.val y) (s4:=.none) ?_;rw[sL];refine(bO (gM (uv nL))).trans ((bO (gM (Dr f d c))).trans ?_);exact xW ((j6 (FU h.out)).trans (qS (vS 9 _)))
theorem Kd{T:List Tx}{Rw:List (Nat×Nat)}{n p c:Nat}(o:T≠[])(f:∀t∈T,t.length=n)(m:∀q∈Rw,q.1<n)(d:p<n)(j:c∈bu)(b:Rw.length<=1000):jP a [.val (lsP T),.val (.lst (aF Rw)),⇑p,.val (.str [c])]=.ok (.val (if lf T (Rw++[(p,c)])=[] then rf 4 else .int ((lf T (Rw++[(p,c)])).length:Nat))) [.val (lsP T),.val (.lst (aF Rw)),⇑p,.val (.str [c])]:=by
 refine tP (s0:=.val (lsP T)) (s1:=.val (.lst (aF Rw))) (s2:=⇑p) (s3:=.val (.str [c])) (s4:=.val (lsP (lf T (Rw++[(p,c)])))) ?_;rw[sL];refine(bO (gM (uv nL))).trans ((bO (gM (Dr o f d))).trans ((bO (gM (FU (Oz j)))).trans ?_));have l:CS (dE T Rw (.int p) (.str [c]))=.ok (.lst (aF (Rw++[(p,c)]))) (dE T Rw (.int p) (.str [c])):=by
  refine dI (bC (v:=.lst (aF Rw)) rfl) (y:=.lst [.tup [.int p,.str [c]]]) (show dF _ _=_ from ?_) ?_
  .have e:dL bZ (am (dL cy (am (dV 2) (am (dV 3) (ar)))) (ar)) (dE T Rw (.int p) (.str [c]))=.ok (.lst [.tup [.int p,.str [c]]]) (dE T Rw (.int p) (.str [c])) :=
    gP (cA (gP (cA (bC (v:=.int p) rfl) (cA (bC (v:=.str [c]) rfl) gJ)) rfl) gJ) rfl
   unfold dF;rw[e];rfl
  .rw[vT];show(if(aF Rw).length+1<=bH then aa (PV.lst _)else af)=_;rw[if_pos (by unfold bH aF;rw[bS];lia)]
 have i:=EI (a:=a) (Rw:=Rw++[(p,c)]) f (λq g=>by
  rcases kT.mp g with h|h
  .exact m q h
  .rw[gX.mp h];exact d)
 refine(bO (fJ (Ct (bC rfl) l i))).trans (qS ?_);have b:=xO ah (lf T (Rw++[(p,c)])) [];by_cases q:lf T (Rw++[(p,c)])=[]
 .rw[if_pos q];rw[decide_eq_true q]at b;exact(gM (eM (dI (bC (v:=lsP (lf T (Rw++[(p,c)]))) rfl) (oY _) b))).trans (vS 4 _)
 .rw[if_neg q];rw[decide_eq_false q]at b;refine(j6 (eM (dI (bC (v:=lsP (lf T (Rw++[(p,c)]))) rfl) (oY _) b))).trans ?_;exact gP (cA (bC (v:=lsP (lf T (Rw++[(p,c)]))) rfl) gJ) (by show aa (PV.int _)=_;rw[gL])
theorem E2(T:List Tx):(ft T).lookup (bY "undo")=af:=rfl
theorem Gn(T:List Tx):(ft T).lookup (bY "hear")=af:=rfl
theorem LA{T:List Tx}{L c:List PV}{r y:PV}(h:nN a [.own (SK a T L)]=.ok (.val r) [.own (SK a T c)]):jA a [.own (SK a T L),↥eF,.val y]=.ok (.val r) [.own (SK a T c),↥eF,.val y]:=by have b:=tT (a:=a) (ε:=[.own (SK a T L),↥eF,.val y,.none]) (i:=0) rfl (E2 T) (by decide);have d:=qe;generalize SK a T L=P at b h ⊢;generalize SK a T c=P' at h ⊢;generalize eF=u at b d ⊢;simp![jA,yaE,fG,eV,iM,nX,pf,bn,d,cY,b,jC,h]
theorem N_{T:List Tx}{L:List PV}{c:ac}{n:Int}{y:PV}(g:qp a c n)(h:nN a [.own (SK a T L)]=.er (.ref c) [.own (SK a T L)]):jA a [.own (SK a T L),↥eF,.val y]=.ok (.val (rf n)) [.own (SK a T L),↥eF,.val y]:=by have b:=tT (a:=a) (ε:=[.own (SK a T L),↥eF,.val y,.none]) (i:=0) rfl (E2 T) (by decide);have f:=qe;obtain⟨j,d⟩:=g;generalize SK a T L=P at b h ⊢;generalize eF=u at b f ⊢;generalize rf n=z at d ⊢;simp![jA,yaE,fG,eV,iM,nX,pf,bn,f,cY,b,jC,h,j,d]
theorem MT{T:List Tx}{L b:List PV}{x y r:PV}(d:Pu.eqT aj x (.str [117,110,100,111])=aa (.bl aj))(h:kq a [.own (SK a T L),.val x,.val y]=.ok (.val r) [.own (SK a T b),.val x,.val y]):jA a [.own (SK a T L),.val x,.val y]=.ok (.val r) [.own (SK a T b),.val x,.val y]:=by have c:=tT (a:=a) (ε:=[.own (SK a T L),.val x,.val y,.none]) (i:=0) rfl (Gn T) (by decide);generalize SK a T L=P at c h ⊢;generalize SK a T b=P' at h ⊢;simp![jA,yaE,fG,eV,iM,nX,pf,bn,d,t7,c,jC,h]
theorem zN{T:List Tx}{L:List PV}{x y:PV}{c:ac}{n:Int}(f:qp a c n)(j:Pu.eqT aj x (.str [117,110,100,111])=aa (.bl aj))(h:kq a [.own (SK a T L),.val x,.val y]=.er (.ref c) [.own (SK a T L),.val x,.val y]):jA a [.own (SK a T L),.val x,.val y]=.ok (.val (rf n)) [.own (SK a T L),.val x,.val y]:=by have d:=tT (a:=a) (ε:=[.own (SK a T L),.val x,.val y,.none]) (i:=0) rfl (Gn T) (by decide);obtain⟨g,b⟩:=f;generalize SK a T L=P at d h ⊢;generalize rf n=z at b ⊢;simp![jA,yaE,fG,eV,iM,nX,pf,bn,j,t7,d,jC,h,g,b]
inductive Kx(n:Nat):PV->Prop
 |un:Kx n (.str eF)
 |bad {x:PV} (h:Pk n x):Kx n x
 |pl {p:Nat} (h:p<n):Kx n (.int p)
inductive Ky:PV->Prop
 |bad {y:PV} (h:Lk y):Ky y
 |le {c:Nat} (h:c∈bu):Ky (.str [c])
inductive St(T:List Tx)(n:Nat)(Rw:List (Nat×Nat)):PV->PV->PV->List (Nat×Nat)->Prop
 |un0 {y:PV} (h:Rw=[]):St T n Rw (.str eF) y (rf 6) Rw
 |un {y:PV}{pre:List (Nat×Nat)}{q:Nat×Nat} (h:Rw=pre++[q]):St T n Rw (.str eF) y (gc q) pre
 |no {x y:PV}{k:Int} (h:Pu.eqT aj x (.str [117,110,100,111])=aa (.bl aj)):St T n Rw x y (rf k) Rw
 |ok {p c:Nat}:St T n Rw (.int p) (.str [c]) (.int ((lf T (Rw++[(p,c)])).length:Nat)) (Rw++[(p,c)])
theorem MZ(o:Wh a){T:List Tx}{Rw:List (Nat×Nat)}{n:Nat}{x y:PV}(i:T≠[])(g:∀t∈T,t.length=n)(d:∀q∈Rw,q.1<n)(j:lf T Rw≠[])(m:Rw.length<=1000)(C:Kx n x)(B:Ky y):∃(r:PV) (b:List (Nat×Nat)),St T n Rw x y r b/\(∀q∈b,q.1<n)/\lf T b≠[]/\b.length<=Rw.length+1/\Pu.eqT ah r r=aa (.bl aj) /\ jP a [.val (lsP T),.val (.lst (aF Rw)),.val x,.val y]=.ok (.val r) [.val (lsP T),.val (.lst (aF Rw)),.val x,.val y] /\ jA a [.own (SK a T (aF Rw)),.val x,.val y]=.ok (.val r) [.own (SK a T (aF b)),.val x,.val y]:=by
 obtain⟨u,s,A,v⟩:=Jf o;cases C with
 |un=>
  by_cases q:Rw=[]
  .subst q;exact⟨rf 6,[],.un0 rfl,d,j,by simp,xK 6,M3,N_ v Lh⟩
  .obtain⟨f,z,rfl⟩:∃f z,Rw=f++[z]:=⟨Rw.dropLast,Rw.getLast q,(List.dropLast_concat_getLast q).symm⟩
   refine⟨gc z,f,.un rfl,λw E=>d w (by simp[E]),λe=>j ?_,by simp;lia,Qk z,ML,LA KB⟩;rw[xa,e];rfl
 |bad h=>exact⟨rf 8,Rw,.no h.ne,d,j,by simp,xK 8,Mw i g h,zN u h.ne (NG i g h)⟩
 |@pl p hp=>
  cases B with
  |bad h=>exact⟨rf 9,Rw,.no nL,d,j,by simp,xK 9,JN i g hp h,zN s nL (J1 i g hp h)⟩
  |@le c hc=>
   have l:=Kd (a:=a) i g d hp hc m;by_cases q:lf T (Rw++[(p,c)])=[]
   .rw[if_pos q]at l;exact⟨rf 4,Rw,.no nL,d,j,by simp,xK 4,l,zN A nL (L4 i g d hp hc (by rw[xa]at q;exact q))⟩
   .rw[if_neg q]at l;refine⟨_,Rw++[(p,c)],.ok,λz D=>?_,q,by simp,by rw[j7];simp,l,MT nL (LL i g d hp hc (by rw[xa]at q;exact q) m)⟩;rcases kT.mp D with h|h
    .exact d z h
    .rw[gX.mp h];exact hp
end
section
variable{a:Ad}
theorem PY{G:ae->R Slot}{b:ae}{c r:PV}{p p':Pu.PO}(g:b[0]?=aa (.val c))(f:b[1]?=aa (.own p))(d:G [.val c,.own p]=.ok (.val r) [.val c,.own p']):ay G (gV (dV 0) (gO 1 Pu.bq)) b=.ok (.val r) (b.set 1 (.own p')):=by simp[ay,gV,gO,Pu.bq,dV,g,f,d,R.bind,aC,cc,cb,br,bU,ce]
theorem LG{G:ae->R Slot}{b:ae}{i:Nat}{d e:ae->R PV}{v u r:PV}{p p':Pu.PO}(h:b[i]?=aa (.own p))(g:d b=.ok v b)(f:e b=.ok u b)(c:G [.own p,.val v,.val u]=.ok (.val r) [.own p',.val v,.val u]):ay G (gO i (gV d (gV e Pu.bq))) b=.ok (.val r) (b.set i (.own p')):=by simp[ay,gV,gO,Pu.bq,h,g,f,R.bind,aC,br,bU,c,cc,ce,cb]
theorem Od{G:ae->R Slot}{d:ae->R PV}{ε:ae}{x u:PV}(h:d ε=.ok x ε)(b:G [.val x]=.ok (.val u) [.val x]):aA (ay G (gV d Pu.bq)) ε=.ok u ε:=by simp[aA,ay,gV,Pu.bq,h,b,R.bind,aC,cc,cb,br,bU,ce,iP]
theorem lC{d:ae->R Slot}{ε b:ae}{r:PV}(h:d ε=.ok (.val r) b):aA d ε=.ok r b:=by unfold aA;rw[h];rfl
theorem wu{d:ae->R Slot}{ε b:ae}{xs:List PV}(h:d ε=.ok (.own (.lst xs)) b):aA d ε=.ok (.lst xs) b:=by unfold aA;rw[h];rfl
theorem AG{d:ae->R PO}{b ε1:ae}{xs:List PV}(h:d b=.ok (.lst xs) ε1):dF d b=.ok (.lst xs) ε1:=by unfold dF;rw[h];rfl
def fE(a:Ad)(j:List Int)(g:List PV)(V:PV)(T:List Tx)(Rw m:List (Nat×Nat))(l:Tx)(i h f d c b:Slot):ae :=[bz j,.own (.lst g),.val V,.val (lsP T),.own (SK a T (aF Rw)),.own (SK a T (aF [])),.val (.lst (aF m)),↥l,i,h,f,d,c,b]
theorem NY(T:List Tx):(ft T).lookup (bY "heard")=af:=rfl
theorem J0(T:List Tx):(ft T).lookup (bY "needed")=af:=rfl
theorem FW:∀b:List (Nat×Nat),ko (aF b)=ah
 |[]=>rfl
 |q::b=>by show(ko [.int (q.1:Nat),.str [q.2]]&&ko (aF b))=ah;rw[FW b];rfl
theorem yT{ε:ae}{i:Nat}{T:List Tx}{Rw:List (Nat×Nat)}(b:ε[i]?=aa (.own (SK a T (aF Rw)))):cY a.Seeker (bY "heard") i (kH a) ε=.ok (.own (.lst (aF Rw))) ε:=by have h:=Bf (a:=a) b (NY T) (by decide) (P7 (FW Rw));rw[Aw b]at h;exact h
theorem Mr{ε:ae}{i:Nat}{T:List Tx}{Rw:List (Nat×Nat)}{n:Nat}(f:∀t∈T,t.length=n)(g:∀q∈Rw,q.1<n)(c:Ql (lf T Rw))(j:(lf T Rw).length<=16)(d:n<=1000)(b:ε[i]?=aa (.own (SK a T (aF Rw)))):cY a.Seeker (bY "needed") i (rq a) ε=.ok (⇑(nd (lf T Rw):Nat)) ε:=by have h:=Bf (a:=a) b (J0 T) (by decide) (Pa f g c j d);rw[Aw b]at h;exact h
def xD(a:Ad):ae->R PV:=(a6 (dB (d2 (bI λi j=>decide (i<j)) (dV 11) (dC (.int 2)))) (dC (.str [117,110,100,111])) (a6 (dB (d2 (Pu.eqT aj) (dV 11) (dC (.int 2)))) (aA (ay (iy a) (gV (dV 0) (gO 1 (gV (dF (dL bZ (am (d1 fQ (dC (.int 1))) (am (dL aP (am (dV 7) (ar))) (am (dC .non) (am (dC (.bl ah)) (am (dC (.str [48])) (ar)))))))) (Pu.bq)))))) (dV 9)))
def yD(a:Ad):ae->R PV:=(a6 (dB (d2 (Pu.eqT aj) (dV 11) (dC (.int 3)))) (aA (ay (iy a) (gV (dV 0) (gO 1 (gV (dF (dL bZ (am (dC (.str [97])) (am (dC (.str [98])) (am (dC (.str [99])) (am (dC (.str [100])) (am (dC (.str [])) (am (dC (.str [97,98])) (am (dC .non) (ar)))))))))) (Pu.bq)))))) (dV 10))
theorem KD(h:List Int)(f:List PV)(V:PV)(T:List Tx)(Rw m:List (Nat×Nat))(g:Tx)(l d c b:Slot){p:Nat}{k:Int}(y:p<g.length)(A:f.length<=900):∃x n,Kx g.length x/\n.length<=f.length+1/\aT 9 (xD a) (fE a h f V T Rw m g l (⇑p) d (⇑k) c b)=.ok .next (fE a h n V T Rw m g l (.val x) d (⇑k) c b):=by
 have o:dB (d2 (bI λi j=>decide (i<j)) (dV 11) (dC (.int 2))) (fE a h f V T Rw m g l (⇑p) d (⇑k) c b)=.ok (decide (k<2)) (fE a h f V T Rw m g l (⇑p) d (⇑k) c b) :=eM (dI (bC rfl) (c4 (.int 2) _) rfl);have q:dB (d2 (Pu.eqT aj) (dV 11) (dC (.int 2))) (fE a h f V T Rw m g l (⇑p) d (⇑k) c b)=.ok (decide (k=2)) (fE a h f V T Rw m g l (⇑p) d (⇑k) c b) :=eM (dI (bC rfl) (c4 (.int 2) _) (by rw[j7,u0]));by_cases u:k<2
 .rw[decide_eq_true u]at o;exact⟨.str eF,f,.un,∅,(fJ ((j6 o).trans rfl)).trans rfl⟩
 .rw[decide_eq_false u]at o;by_cases s:k=2
  .rw[decide_eq_true s]at q;obtain⟨x,r,w⟩:=qX (a:=a) h f [.int (-1),.int (g.length:Nat),.non,.bl ah,.str [48]] ∅ (by simp);have z:dF (dL bZ (am (d1 fQ (dC (.int 1))) (am (dL aP (am (dV 7) (ar))) (am (dC .non) (am (dC (.bl ah)) (am (dC (.str [48])) (ar))))))) (fE a h f V T Rw m g l (⇑p) d (⇑k) c b)=.ok (.lst [.int (-1),.int (g.length:Nat),.non,.bl ah,.str [48]]) (fE a h f V T Rw m g l (⇑p) d (⇑k) c b) :=AG (gP (cA (show d1 fQ (dC (.int 1)) _=.ok (.int (-1)) _ from rfl) (cA (gP (cA (bC (i:=7) (v:=.str g) rfl) gJ) rfl) (cA (c4 _ _) (cA (c4 _ _) (cA (c4 _ _) gJ))))) rfl);refine⟨x,f++[.int 0],.bad ?_,by simp,(fJ ((gM o).trans ((j6 q).trans (lC (qc (p:=.lst f) (p':=.lst (f++[.int 0])) rfl rfl z w))))).trans rfl⟩;simp only[b8,iS,or_false]at r;rcases r with rfl|rfl|rfl|rfl|rfl
   .exact .neg
   .exact .big
   .exact .non
   .exact .tru
   .exact .zero
  .rw[decide_eq_false s]at q;exact⟨.int p,f,.pl y,∅,(fJ ((gM o).trans ((gM q).trans (bC rfl)))).trans rfl⟩
theorem Kz(g:List Int)(f:List PV)(V:PV)(T:List Tx)(Rw l:List (Nat×Nat))(j:Tx)(i h d b:Slot){c:Nat}{k:Int}(u:c∈bu)(v:f.length<=900):∃y m,Ky y/\m.length<=f.length+1/\aT 10 (yD a) (fE a g f V T Rw l j i h (.val (.str [c])) (⇑k) d b)=.ok .next (fE a g m V T Rw l j i h (.val y) (⇑k) d b):=by
 have n:dB (d2 (Pu.eqT aj) (dV 11) (dC (.int 3))) (fE a g f V T Rw l j i h (.val (.str [c])) (⇑k) d b)=.ok (decide (k=3)) (fE a g f V T Rw l j i h (.val (.str [c])) (⇑k) d b) :=eM (dI (bC rfl) (c4 (.int 3) _) (by rw[j7,u0]));by_cases q:k=3
 .rw[decide_eq_true q]at n;obtain⟨x,o,r⟩:=qX (a:=a) g f [.str [97],.str [98],.str [99],.str [100],.str [],.str [97,98],.non] ∅ (by decide);have s:dF (dL bZ (am (dC (.str [97])) (am (dC (.str [98])) (am (dC (.str [99])) (am (dC (.str [100])) (am (dC (.str [])) (am (dC (.str [97,98])) (am (dC .non) (ar))))))))) (fE a g f V T Rw l j i h (.val (.str [c])) (⇑k) d b)=.ok (.lst [.str [97],.str [98],.str [99],.str [100],.str [],.str [97,98],.non]) (fE a g f V T Rw l j i h (.val (.str [c])) (⇑k) d b) :=AG (gP (cA (c4 _ _) (cA (c4 _ _) (cA (c4 _ _) (cA (c4 _ _) (cA (c4 _ _) (cA (c4 _ _) (cA (c4 _ _) gJ))))))) rfl);refine⟨x,f++[.int 0],?_,by simp,(fJ ((j6 n).trans (lC (qc (p:=.lst f) (p':=.lst (f++[.int 0])) rfl rfl s r)))).trans rfl⟩;simp only[b8,iS,or_false]at o;rcases o with rfl|rfl|rfl|rfl|rfl|rfl|rfl
  .exact .le (by decide)
  .exact .le (by decide)
  .exact .le (by decide)
  .exact .bad .d
  .exact .bad .e
  .exact .bad .ab
  .exact .bad .non
 .rw[decide_eq_false q]at n;exact⟨.str [c],f,.le u,∅,(fJ ((gM n).trans (bC rfl))).trans rfl⟩
def u1:ae->R aH:=(a6 (iH (dB (d2 (Pu.eqT aj) (dV 9) (dC (.str [117,110,100,111])))) (dB (d2 (Pu.eqT ah) (dV 6) (dF (dL bZ (ar)))))) (aT 6 (c5 cx (dV 6) (eL) (cI (d1 fQ (dC (.int 1)))))) (bF))
def u2:ae->R aH:=(a6 (dB (dL eE (am (dV 12) (am (dC (.raw (.ty "int"))) (ar))))) (aT 6 (d2 bj (dV 6) (dF (dL bZ (am (dL cy (am (dV 9) (am (dV 10) (ar)))) (ar)))))) (bF))
theorem C4{g f:ae->R Bool}{d ε1 c:ae}{b:Bool}(i:g d=.ok ah ε1)(h:f ε1=.ok b c):iH g f d=.ok b c:=by unfold iH;rw[i];exact h
theorem Dg{c f:ae->R Bool}{b ε1:ae}(d:c b=.ok aj ε1):iH c f b=.ok aj ε1:=by unfold iH;rw[d];rfl
theorem zL{b:ae}{xs:List PV}(h:b[12]?=aa (.val (.tup xs))):u2 b=.ok .next b :=gM (eM (gP (cA (bC h) (cA (c4 _ _) gJ)) (jh (t:="tuple") rfl (by decide +kernel))))
theorem IM(m:List Int)(j:List PV)(V:PV){T:List Tx}{Rw f:List (Nat×Nat)}{n:Nat}(o:Tx)(l i g:Slot){x y r:PV}(h:St T n Rw x y r f)(z:Rw.length<=1000)(d:ae->R aH):aB u1 (aB u2 d) (fE a m j V T f Rw o l (.val x) (.val y) i (.val r) g)=d (fE a m j V T f f o l (.val x) (.val y) i (.val r) g):=by
 cases h with
 |un0 h=>subst h;have s:u1 (fE a m j V T [] [] o l (↥eF) (.val y) i (.val (rf 6)) g)=.ok .next (fE a m j V T [] [] o l (↥eF) (.val y) i (.val (rf 6)) g) :=gM (C4 (eM (dI (bC rfl) (c4 _ _) qe)) (eM (dI (bC rfl) (oY _) (wU []))));exact(bO s).trans (bO (zL rfl))
 |@un _ pre q h=>
  subst h;have u:=wU (f++[q]);rw[decide_eq_true (by simp)]at u;have w:cx (.lst (aF (f++[q]))) af (aa (-1))=aa (.lst (aF f)):=by show aa (PV.lst (dY _ _ _))=_;rw[EN];unfold aF;rw[oq];simp
  have s:u1 (fE a m j V T f (f++[q]) o l (↥eF) (.val y) i (.val (gc q)) g)=.ok .next (fE a m j V T f f o l (↥eF) (.val y) i (.val (gc q)) g):=by refine(j6 (C4 (eM (dI (bC rfl) (c4 _ _) qe)) (eM (dI (bC rfl) (oY _) u)))).trans ?_;refine(fJ (x:=.lst (aF f)) (ε1:=fE a m j V T f (f++[q]) o l (↥eF) (.val y) i (.val (gc q)) g) ?_).trans rfl;unfold c5;rw[show dV 6 (fE a m j V T f (f++[q]) o l (↥eF) (.val y) i (.val (gc q)) g)=.ok (.lst (aF (f++[q]))) (fE a m j V T f (f++[q]) o l (↥eF) (.val y) i (.val (gc q)) g)from rfl,R.bind_ok];show aC (cx (.lst (aF (f++[q]))) af (aa (-1))) _=_;rw[w];rfl
  exact(bO s).trans (bO (zL rfl))
 |@no _ _ k h=>have s:u1 (fE a m j V T Rw Rw o l (.val x) (.val y) i (.val (rf k)) g)=.ok .next (fE a m j V T Rw Rw o l (.val x) (.val y) i (.val (rf k)) g) :=gM (Dg (eM (dI (bC rfl) (c4 _ _) h)));exact(bO s).trans (bO (zL rfl))
 |@ok p c=>have s:u1 (fE a m j V T (Rw++[(p,c)]) Rw o l (⇑p) (.val (.str [c])) i (⇑((lf T (Rw++[(p,c)])).length:Nat)) g)=.ok .next (fE a m j V T (Rw++[(p,c)]) Rw o l (⇑p) (.val (.str [c])) i (⇑((lf T (Rw++[(p,c)])).length:Nat)) g) :=gM (Dg (eM (dI (bC rfl) (c4 _ _) nL)));refine(bO s).trans (bO ?_);unfold u2;refine(j6 (eM (gP (cA (bC rfl) (cA (c4 _ _) gJ)) (jh (t:="int") (b:=ah) rfl (by decide +kernel))))).trans ?_;refine(fJ (x:=.lst (aF (Rw++[(p,c)]))) (ε1:=fE a m j V T (Rw++[(p,c)]) Rw o l (⇑p) (.val (.str [c])) i (⇑((lf T (Rw++[(p,c)])).length:Nat)) g) ?_).trans rfl;refine dI (bC (v:=.lst (aF Rw)) rfl) (AG (xs:=[.tup [.int p,.str [c]]]) (gP (cA (gP (cA (bC (v:=.int p) rfl) (cA (bC (v:=.str [c]) rfl) gJ)) rfl) gJ) rfl)) ?_;rw[vT];show(if(aF Rw).length+1<=bH then aa (PV.lst _)else af)=_;rw[if_pos (by unfold bH aF;rw[bS];lia)]
def tE(a:Ad):ae->R Bool:=(fX (dB (d2 (Pu.eqT ah) (aA (cY a.Seeker (bY "left") 4 (iA a))) (dV 13))) (fX (dB (d2 (Pu.eqT ah) (aA (cY a.Seeker (bY "heard") 4 (kH a))) (dV 6))) (dB (d2 (Pu.eqT ah) (aA (cY a.Seeker (bY "needed") 4 (rq a))) (aA (ay (wb a) (gV (dV 13) (Pu.bq))))))))
theorem K8(j:List Int)(f:List PV)(V:PV){T:List Tx}{Rw:List (Nat×Nat)}{n:Nat}(l:Tx)(h g d c b:Slot)(o:∀t∈T,t.length=n)(p:∀q∈Rw,q.1<n)(m:Ql (lf T Rw))(s:(lf T Rw).length<=16)(y:n<=1000):tE a (fE a j f V T Rw Rw l h g d c b (.val (lsP (lf T Rw))))=.ok aj (fE a j f V T Rw Rw l h g d c b (.val (lsP (lf T Rw)))):=by
 have C:=wu (tW (a:=a) (ε:=fE a j f V T Rw Rw l h g d c b (.val (lsP (lf T Rw)))) (i:=4) o p rfl);have B:=wu (yT (a:=a) (ε:=fE a j f V T Rw Rw l h g d c b (.val (lsP (lf T Rw)))) (i:=4) (Rw:=Rw) rfl);have A:=lC (Mr (a:=a) (ε:=fE a j f V T Rw Rw l h g d c b (.val (lsP (lf T Rw)))) (i:=4) o p m s y rfl);have w:wide (lf T Rw)<=1000:=by
  obtain⟨x,r,e⟩:=pY m.ne;have:wide (lf T Rw)=n:=by have v:=o x ((ud Rw T).mem (by rw[e];simp));rw[e];exact v
  lia
 have z:=Od (bC (i:=13) (ε:=fE a j f V T Rw Rw l h g d c b (.val (lsP (lf T Rw)))) rfl) (least_eq (a:=a) m s w);have u:Pu.eqT ah (lsP (lf T Rw)) (lsP (lf T Rw))=aa (.bl aj):=by show Pu.eqT ah (.lst (ak (lf T Rw))) (.lst (ak (lf T Rw)))=_;rw[xO];simp
 exact s_ (eM (dI C (bC (i:=13) rfl) u)) (s_ (eM (dI B (bC (i:=6) rfl) (L6 Rw))) (eM (dI A z (by rw[j7];simp))))
def lB(a:Ad):ae->R aH:=(aB (aT 9 (aA (ay (ig a) (gV (dV 0) (gO 1 (gV (dL aP (am (dV 7) (ar))) (Pu.bq))))))) (aB (aT 10 (d2 bv (dV 7) (dV 9))) (aB (aT 11 (aA (ay (ig a) (gV (dV 0) (gO 1 (gV (dC (.int 8)) (Pu.bq))))))) (aB (aT 9 (xD a)) (aB (aT 10 (yD a)) (aB (aT 12 (aA (ay (jP a) (gV (dV 3) (gV (dV 6) (gV (dV 9) (gV (dV 10) (Pu.bq)))))))) (aB (a6 (dB (d2 (Pu.eqT ah) (aA (ay (jA a) (gO 4 (gV (dV 9) (gV (dV 10) (Pu.bq)))))) (dV 12))) (a8 (dC (.bl aj))) (bF)) (aB u1 (aB u2 (aB (lF (cY a.Seeker (bY "heard") 4 (kH a)) (dC (.int 1))) (aB (lF (cY a.Seeker (bY "left") 4 (iA a)) (dC (.int 1))) (aB (aT 13 (aA (ay (oU a) (gV (dV 3) (gV (dV 6) (Pu.bq)))))) (a6 (tE a) (a8 (dC (.bl aj))) (bF))))))))))))))
theorem Gd{d:ae->R Slot}{b:ae}{xs:List PV}(h:d b=.ok (.own (.lst xs)) b)(c:xs.length<=1000):lF d (dC (.int 1)) b=.ok .next b:=by unfold lF;rw[h,R.bind_ok];show(if xs.length<bH then _ else _)=_;rw[if_pos (by unfold bH;lia)];rfl
theorem JL(S:Wh a)(g:List Int)(u:List PV)(V:PV){T:List Tx}{Rw:List (Nat×Nat)}{f:Tx}(h L o l j d:Slot)(Q:Ql T)(C:∀t∈T,t.length=f.length)(m1:1<=f.length)(Z:f.length<=20)(Y:∀c∈f,c∈bu)(d9:T.length<=16)(hR:∀q∈Rw,q.1<f.length)(hl:lf T Rw≠[])(hn:Rw.length<=500)(hy:u.length<=500):∃b z X G F E D,(∀q∈b,q.1<f.length)/\lf T b≠[]/\b.length<=Rw.length+1/\z.length<=u.length+4/\lB a (fE a g u V T Rw Rw f h L o l j d)=.ok .next (fE a g z V T b b f h X G F E D):=by
 obtain⟨v,v0,v1,O⟩:=pr (a:=a) g u (f.length:Nat) ∅ ∅;obtain⟨p,rfl⟩:∃p:Nat,v=p:=⟨v.toNat,∅⟩
 have H:p<f.length:=∅
 obtain⟨n,B⟩:∃n:List PV,n=u++[.int 0]:=⟨_,rfl⟩
 have l1:n.length=u.length+1:=by rw[B];simp
 rw[<-B]at O;obtain⟨k,k0,k8,P⟩:=pr (a:=a) g n 8 (by decide) ∅;obtain⟨w,M⟩:∃w:List PV,w=n++[.int 0]:=⟨_,rfl⟩
 have l2:w.length=n.length+1:=by rw[M];simp
 rw[<-M]at P;have hc:f[p]∈bu:=Y _ (uR H);have I:=sk_ix H;obtain⟨x,Y3,kx,l3,e4⟩:=KD (a:=a) g w V T Rw Rw f h (.val (.str [f[p]])) j d (k:=k) H ∅;obtain⟨y,m,ky,l4,e5⟩:=Kz (a:=a) g Y3 V T Rw Rw f h (.val x) j d (k:=k) hc ∅;obtain⟨r,b,fN,s,N,W,cL,A,J⟩:=MZ S Q.ne C hR hl ∅ kx ky;refine⟨b,m,.val x,.val y,.val (.int k),.val r,.val (lsP (lf T b)),s,N,W,∅,?_⟩;have e1:aT 9 (aA (ay (ig a) (gV (dV 0) (gO 1 (gV (dL aP (am (dV 7) (ar))) (Pu.bq)))))) (fE a g u V T Rw Rw f h L o l j d)=.ok .next (fE a g n V T Rw Rw f h (.val (.int p)) o l j d) :=(fJ (lC (qc (p:=.lst u) (p':=.lst n) rfl rfl (gP (cA (bC (i:=7) (v:=.str f) rfl) gJ) rfl) O))).trans rfl;have e2:aT 10 (d2 bv (dV 7) (dV 9)) (fE a g n V T Rw Rw f h (.val (.int p)) o l j d)=.ok .next (fE a g n V T Rw Rw f h (.val (.int p)) (.val (.str [f[p]])) l j d) :=(fJ (dI (bC (v:=.str f) rfl) (bC (v:=.int p) rfl) I)).trans rfl;have e3:aT 11 (aA (ay (ig a) (gV (dV 0) (gO 1 (gV (dC (.int 8)) (Pu.bq)))))) (fE a g n V T Rw Rw f h (.val (.int p)) (.val (.str [f[p]])) l j d)=.ok .next (fE a g w V T Rw Rw f h (.val (.int p)) (.val (.str [f[p]])) (.val (.int k)) j d) :=(fJ (lC (qc (p:=.lst n) (p':=.lst w) rfl rfl (c4 (.int 8) _) P))).trans rfl;have e6:aT 12 (aA (ay (jP a) (gV (dV 3) (gV (dV 6) (gV (dV 9) (gV (dV 10) (Pu.bq))))))) (fE a g m V T Rw Rw f h (.val x) (.val y) (.val (.int k)) j d)=.ok .next (fE a g m V T Rw Rw f h (.val x) (.val y) (.val (.int k)) (.val r) d) :=(fJ (lC (Lc (v0:=lsP T) (v1:=.lst (aF Rw)) (v2:=x) (v3:=y) rfl rfl rfl rfl A))).trans rfl;have e7:dB (d2 (Pu.eqT ah) (aA (ay (jA a) (gO 4 (gV (dV 9) (gV (dV 10) (Pu.bq)))))) (dV 12)) (fE a g m V T Rw Rw f h (.val x) (.val y) (.val (.int k)) (.val r) d)=.ok aj (fE a g m V T b Rw f h (.val x) (.val y) (.val (.int k)) (.val r) d) :=eM (dI (lC (LG (p:=SK a T (aF Rw)) (p':=SK a T (aF b)) rfl (bC (v:=x) rfl) (bC (v:=y) rfl) J)) (bC (i:=12) (v:=r) rfl) cL);have e8:lF (cY a.Seeker (bY "heard") 4 (kH a)) (dC (.int 1)) (fE a g m V T b b f h (.val x) (.val y) (.val (.int k)) (.val r) d)=.ok .next (fE a g m V T b b f h (.val x) (.val y) (.val (.int k)) (.val r) d) :=Gd (yT (Rw:=b) rfl) (by unfold aF;rw[bS];lia);have bp:(lf T b).length<=16:=d3 (ud b T).length_le d9;have e9:lF (cY a.Seeker (bY "left") 4 (iA a)) (dC (.int 1)) (fE a g m V T b b f h (.val x) (.val y) (.val (.int k)) (.val r) d)=.ok .next (fE a g m V T b b f h (.val x) (.val y) (.val (.int k)) (.val r) d) :=Gd (tW (Rw:=b) C s rfl) (by rw[gL];lia);have K:aT 13 (aA (ay (oU a) (gV (dV 3) (gV (dV 6) (Pu.bq))))) (fE a g m V T b b f h (.val x) (.val y) (.val (.int k)) (.val r) d)=.ok .next (fE a g m V T b b f h (.val x) (.val y) (.val (.int k)) (.val r) (.val (lsP (lf T b)))) :=(fJ (Ct (bC (v:=lsP T) rfl) (bC (v:=.lst (aF b)) rfl) (EI C s))).trans rfl;unfold lB;refine(bO e1).trans ((bO e2).trans ((bO e3).trans ((bO e4).trans ((bO e5).trans ((bO e6).trans ((bO (gM e7)).trans ?_))))));refine(IM g m V f h (.val (.int k)) d fN ∅ _).trans ?_;refine(bO e8).trans ((bO e9).trans ((bO K).trans ?_));exact gM (K8 g m V f h (.val x) (.val y) (.val (.int k)) (.val r) C s (Q.sub (ud b T) N) bp ∅)
theorem CD(E:Wh a)(r:List Int)(V:PV){T:List Tx}{i:Tx}(M:Ql T)(K:∀t∈T,t.length=i.length)(G:1<=i.length)(u:i.length<=20)(F:∀c∈i,c∈bu)(N:T.length<=16):∀(xs:List PV) (h:List (Nat×Nat)) (j:List PV) (s p g f d b:Slot),(∀q∈h,q.1<i.length)->lf T h≠[]->h.length+xs.length<=100->j.length+4*xs.length<=300 -> ∃v w S C o n m l,fK 8 (lB a) xs (fE a r j V T h h i s p g f d b)=.ok .next (fE a r w V T v v i S C o n m l)
 |[],h,j,s,p,g,f,d,b,L,J,I,H=>⟨h,j,s,p,g,f,d,b,rfl⟩
 |x::xs,h,j,s,p,g,f,d,b,L,J,I,H=>by simp only[fL]at I H;obtain⟨R1,Y1,C,o,n,m,l,D,O,X,W,e⟩:=JL E r j V (.val x) p g f d b M K G u F N L J ∅ ∅;obtain⟨R2,Z,Q,P,B,A,z,y,Y⟩:=CD E r V M K G u F N xs R1 Y1 (.val x) C o n m l D O ∅ ∅;refine⟨R2,Z,Q,P,B,A,z,y,?_⟩;rw[fK,show(fE a r j V T h h i s p g f d b).set 8 (.val x)=fE a r j V T h h i (.val x) p g f d b from rfl,e];exact Y
def De(a:Ad):ae->R aH:=a8 (l_ (d2 (Pu.eqT aj) (aA (cY a.Seeker (bY "left") 5 (iA a))) (dV 3)) (d2 (Pu.eqT aj) (aA (cY a.Seeker (bY "heard") 5 (kH a))) (dF (dL bZ (ar)))))
theorem Jl{b:ae}{T:List Tx}{n:Nat}(g:∀t∈T,t.length=n)(h:b[3]?=aa (.val (lsP T)))(c:b[5]?=aa (.own (SK a T (aF [])))):De a b=.ok (.ret (.val (.bl ah))) b:=by
 have j:=wu (tW (a:=a) (Rw:=[]) g (λq f=>by cases f) c);have i:=wu (yT (a:=a) (Rw:=[]) c);have d:Pu.eqT aj (.lst (ak (lf T []))) (lsP T)=aa (.bl ah):=by show Pu.eqT aj (.lst (ak T)) (.lst (ak T))=_;rw[xO];simp
 refine qS ?_;unfold l_;rw[eM (dI j (bC h) d),R.bind_ok];exact dI i (oY _) rfl
theorem M8(S:Wh a)(b:List Int):sS a [bz b]=.ok (.val (.bl ah)) [bz b]:=by
 obtain⟨w,d,f,v,H,l1,O⟩:=HQ (a:=a) b [] (by simp);simp only[lQ,sd]at l1;obtain⟨u,n,Y,F,y⟩:=v.ql;have I:∀l:ae,l[2]?=aa (.val (bR w d))->nQ a.Seeker (ma a) (gV (dV 2) (Pu.bq)) l=.ok (SK a (cg w d) []) l:=λl h=>IT v.g v.w1 v.w4 v.hs v.h0 H (bC h);obtain⟨T,lj⟩:∃T,T=cg w d:=⟨_,rfl⟩
 rw[<-lj]at u y I O H;obtain⟨x,hx,J⟩:=qX (a:=a) b f (ak T) ∅ (by rw[gL];exact nu.mpr u.ne);obtain⟨o,N,rfl⟩:=b0.mp hx;have ml:=y o N;subst ml;obtain⟨g,K⟩:∃g:List PV,g=f++[.int 0]:=⟨_,rfl⟩
 have l2:g.length=f.length+1:=by rw[K];simp
 rw[<-K]at J;obtain⟨L,n00,Z,M⟩:=pr (a:=a) b g 15 (by decide) ∅;obtain⟨r,s⟩:∃r:List PV,r=g++[.int 0]:=⟨_,rfl⟩
 have l3:r.length=g.length+1:=by rw[s];simp
 rw[<-s]at M;obtain⟨m,G⟩:∃m:Nat,L=(m:Nat):=⟨L.toNat,∅⟩
 subst G;obtain⟨z,Q,X,W,E,C,B,A,ln⟩:=CD S b (bR w d) u y Y F (λc hc=>u.abc o N c hc) H (fg 0 m) [] r .none .none .none .none .none .none (λq hq=>by cases hq) u.ne (by simp[fg];lia) (by simp[fg];lia);have k1:jF 1 (dL bZ ar) [bz b,.none,.none,.none,.none,.none,.none,.none,.none,.none,.none,.none,.none,.none]=.ok .next [bz b,.own (.lst []),.none,.none,.none,.none,.none,.none,.none,.none,.none,.none,.none,.none]:=rfl;have k2:kF 2 3 (aA (ay (tt a) (gV (dV 0) (gO 1 (Pu.bq))))) [bz b,.own (.lst []),.none,.none,.none,.none,.none,.none,.none,.none,.none,.none,.none,.none]=.ok .next [bz b,.own (.lst f),.val (bR w d),.val (lsP T),.none,.none,.none,.none,.none,.none,.none,.none,.none,.none]:=by unfold kF;rw[lC (PY (p:=.lst []) (p':=.lst f) rfl rfl O)];rfl
 have k3:tZ 4 5 (nQ a.Seeker (ma a) (gV (dV 2) (Pu.bq))) (nQ a.Seeker (ma a) (gV (dV 2) (Pu.bq))) [bz b,.own (.lst f),.val (bR w d),.val (lsP T),.none,.none,.none,.none,.none,.none,.none,.none,.none,.none]=.ok .next [bz b,.own (.lst f),.val (bR w d),.val (lsP T),.own (SK a T []),.own (SK a T []),.none,.none,.none,.none,.none,.none,.none,.none]:=by have h:=I [bz b,.own (.lst f),.val (bR w d),.val (lsP T),.none,.none,.none,.none,.none,.none,.none,.none,.none,.none] rfl;unfold tZ;rw[h];dsimp only;rw[h];rfl
 have k4:aT 6 (dF (dL bZ (ar))) [bz b,.own (.lst f),.val (bR w d),.val (lsP T),.own (SK a T []),.own (SK a T []),.none,.none,.none,.none,.none,.none,.none,.none]=.ok .next [bz b,.own (.lst f),.val (bR w d),.val (lsP T),.own (SK a T []),.own (SK a T []),.val (.lst []),.none,.none,.none,.none,.none,.none,.none]:=rfl;have k5:aT 7 (aA (ay (iy a) (gV (dV 0) (gO 1 (gV (dV 3) (Pu.bq)))))) [bz b,.own (.lst f),.val (bR w d),.val (lsP T),.own (SK a T []),.own (SK a T []),.val (.lst []),.none,.none,.none,.none,.none,.none,.none]=.ok .next (fE a b g (bR w d) T [] [] o .none .none .none .none .none .none) :=(fJ (lC (qc (p:=.lst f) (p':=.lst g) rfl rfl (bC (i:=3) (v:=.lst (ak T)) rfl) J))).trans rfl;have k7:dL f_ (am (aA (ay (ig a) (gV (dV 0) (gO 1 (gV (dC (.int 15)) (Pu.bq)))))) (ar)) (fE a b g (bR w d) T [] [] o .none .none .none .none .none .none)=.ok (fg 0 m) (fE a b r (bR w d) T [] [] o .none .none .none .none .none .none) :=gP (cA (lC (qc (p:=.lst g) (p':=.lst r) rfl rfl (c4 (.int 15) _) M)) gJ) (pd ∅);have j:yaA a [bz b,.none,.none,.none,.none,.none,.none,.none,.none,.none,.none,.none,.none,.none]=.ok (.ret (.val (.bl ah))) (fE a b Q (bR w d) T z z o X W E C B A):=by show aB _ (aB _ (aB _ (aB _ (aB _ (aB (λl=>cm (dD 8 _ (lB a) l)) (De a)))))) _=_;refine(bO k1).trans ((bO k2).trans ((bO k3).trans ((bO k4).trans ((bO k5).trans ?_))));refine(C3 k7 ln).trans ?_;exact Jl y rfl rfl
 unfold sS;unfold fE at j;generalize yaA a=D at j;generalize SK a T (aF z)=P at j;generalize SK a T (aF [])=P1 at j;generalize lsP T=A2 at j;generalize bR w d=A3 at j;generalize PV.lst (aF z)=A4 at j;simp[bf,eA,aY,cX,j,back,aC,R.bind,gK]
end
open L2 Pu Sh
def ug(K:au)(a:Ad):Bool:=ot K a.SlitError tO "ValueError.__new__" && (fj a).all (λx=>ot K x tO "ValueError.__new__" && subB K a.SlitError x&&wT K x&&(fj a).all (λd=>gk K (.ref x) (.ref d) == aa (x == d))&&gk K (.ref x) (.type "ValueError") == aa ah)&&yM K&&decide (fj a).Nodup
section
variable{K:au}{h g:aI}{i:Str->Option ai}{a:Ad}
theorem lD(h:ug K a=ah):ot K a.SlitError tO "ValueError.__new__"=ah/\(∀x∈fj a,ot K x tO "ValueError.__new__"=ah/\subB K a.SlitError x=ah/\wT K x=ah/\(∀d∈fj a,gk K (.ref x) (.ref d)=aa (x == d))/\gk K (.ref x) (.type "ValueError")=aa ah)/\yM K=ah/\(fj a).Nodup:=by unfold ug at h;simp only[dS,iR,beq_iff_eq,decide_eq_true_eq]at h;obtain⟨⟨⟨l,c⟩,j⟩,f⟩:=h;exact⟨l,λx b=>⟨(c x b).1.1.1.1,(c x b).1.1.1.2,(c x b).1.1.2,(c x b).1.2,(c x b).2⟩,j,f⟩
theorem Oc(h:ug K a=ah):zQ K (i4 a):=by
 obtain⟨_,l,_,_⟩:=lD h;intro c D b e;unfold i4 at e;split at e
 .rename_i x d;split at e
  .rename_i f;rw[dS]at f;cases e;have j:x∈fj a:=by simpa using f.1
   have m:d∈fj a:=by simpa using f.2
   exact⟨x,.ref d,rfl,Dw (l x j).2.2.1,rfl,(l x j).2.2.2.1 d m⟩
  .cases e
 .rename_i x T;split at e
  .rename_i f;rw[dS]at f;cases e;have j:x∈fj a:=by simpa using f.1
   have n:T = "ValueError":=by simpa using f.2
   subst n;exact⟨x,.type "ValueError",rfl,Dw (l x j).2.2.1,rfl,(l x j).2.2.2.2⟩
  .cases e
 .cases e
theorem OO(X:K.In g)(h:ug K a=ah):∀c,l8 a c=ah->Under g a.SlitError c:=by
 obtain⟨_,d,_,_⟩:=lD h;intro c e;unfold l8 at e;split at e
 .rename_i x;have b:x∈fj a:=by simpa using e
  exact Kc X (d x b).1 (d x b).2.1
 .cases e
structure Top(K:au)(a:Ad):Prop where
 ybp:je K a.Seeker "undo" "Seeker.undo" AX
 ybn:je K a.Seeker "left" "Seeker.left" zR
 ybl:je K a.Seeker "hear" "Seeker.hear" yU
 yaX:wD K a.Seeker "Seeker.__init__" AB
 ybm:je K a.Seeker "heard" "Seeker.heard" zF
 ybo:je K a.Seeker "needed" "Seeker.needed" AV
 k_Seeker:Cls K a.Seeker
 ybd:iE K a.Seeker "answers"
 ybe:iE K a.Seeker "having"
 yaD:cO K "_law_cell_at" zd
 yaL:cO K "_law_mixed" yR
 yaF:cO K "_law_draw" Aj
 yaN:cO K "_law_pick" Bd
 yaP:cO K "_law_text" z7
 yaK:cO K "_law_like" AO
 yaO:cO K "_law_seen" vV
 yaQ:cO K "_law_under" xR
 yaB:cO K "_law_all" sM
 yaH:cO K "_law_few" An
 yaJ:cO K "_law_left" xX
 yaG:cO K "_law_due" At
 yaR:cO K "_law_which" zV
 yax:cO K "is_whole_number" zJ
 yar:cO K "check_place" Ak
 yau:cO K "has_only" wx
 yaz:cO K "is_window" AU
 yaq:cO K "check_letter" Aq
 yaW:cO K "with_letter" xG
 yaE:cO K "_law_do" AF
 yaM:cO K "_law_parts" wV
 yaC:cO K "_law_can" vY
 yaI:cO K "_law_least" wq
 yay:cO K "is_width" Bt
 yap:cO K "are_windows" wB
 yaw:cO K "is_view_with" AN
 yav:cO K "is_view" As
 yas:cO K "check_view" Bu
 yan:cO K "add_endings" zT
 yat:cO K "counted" zx
 yaV:cO K "texts" xS
 yao:cO K "answers_to" xy
 yaS:cO K "needed_by" sR
 yaU:cO K "places_to_ask" v5
 yaT:cO K "needed_for" wG
 yaA:cO K "law" vR
 yaY:cS K b7 "ValueError"=aa af
 yaZ:cS K b7 "all"=aa af
 ya0:cS K b7 "any"=aa af
 ya1:cS K b7 "bool"=aa af
 ya2:cS K b7 "int"=aa af
 ya3:cS K b7 "isinstance"=aa af
 ya4:cS K b7 "len"=aa af
 ya5:cS K b7 "list"=aa af
 ya6:cS K b7 "max"=aa af
 ya7:cS K b7 "min"=aa af
 ya8:cS K b7 "range"=aa af
 ya9:cS K b7 "set"=aa af
 yba:cS K b7 "sorted"=aa af
 ybb:cS K b7 "str"=aa af
 ybc:cS K b7 "tuple"=aa af
 ybq:∃t,cS K b7 "LETTERS"=aa (aa (.str (tS [97,98,99]) t))
 ybr:∃t,cS K b7 "MOST_TEXTS"=aa (aa (.int 16 t))
 ybs:∃t,cS K b7 "MOST_WINDOWS"=aa (aa (.int 9 t))
 ybt:∃t,cS K b7 "WIDEST"=aa (aa (.int 4 t))
 yal:cS K b7 "SlitError"=aa (aa (.ref a.SlitError))
 yaf:cS K b7 "NoText"=aa (aa (.ref a.NoText))
 yah:cS K b7 "NoWidth"=aa (aa (.ref a.NoWidth))
 yag:cS K b7 "NoView"=aa (aa (.ref a.NoView))
 yai:cS K b7 "NoWindow"=aa (aa (.ref a.NoWindow))
 yac:cS K b7 "Never"=aa (aa (.ref a.Never))
 yab:cS K b7 "Full"=aa (aa (.ref a.Full))
 yaj:cS K b7 "Nothing"=aa (aa (.ref a.Nothing))
 yam:cS K b7 "Unlike"=aa (aa (.ref a.Unlike))
 yae:cS K b7 "NoPlace"=aa (aa (.ref a.NoPlace))
 yad:cS K b7 "NoLetters"=aa (aa (.ref a.NoLetters))
 yaa:cS K b7 "BadText"=aa (aa (.ref a.BadText))
 yak:cS K b7 "Seeker"=aa (aa (.ref a.Seeker))
 ck:ug K a=ah
 z0:pB K "least_ending"=af
 wh:Wh a
theorem Kv(T:Top K a)(X:K.In g)(G:g.Ns b7 i):cn K i g a where
 ybp:=T.ybp
 ybn:=T.ybn
 ybl:=T.ybl
 yaX:=T.yaX
 ybm:=T.ybm
 ybo:=T.ybo
 k_Seeker:=T.k_Seeker
 ybd:=T.ybd
 ybe:=T.ybe
 yaD:=T.yaD.at X G
 yaL:=T.yaL.at X G
 yaF:=T.yaF.at X G
 yaN:=T.yaN.at X G
 yaP:=T.yaP.at X G
 yaK:=T.yaK.at X G
 yaO:=T.yaO.at X G
 yaQ:=T.yaQ.at X G
 yaB:=T.yaB.at X G
 yaH:=T.yaH.at X G
 yaJ:=T.yaJ.at X G
 yaG:=T.yaG.at X G
 yaR:=T.yaR.at X G
 yax:=T.yax.at X G
 yar:=T.yar.at X G
 yau:=T.yau.at X G
 yaz:=T.yaz.at X G
 yaq:=T.yaq.at X G
 yaW:=T.yaW.at X G
 yaE:=T.yaE.at X G
 yaM:=T.yaM.at X G
 yaC:=T.yaC.at X G
 yaI:=T.yaI.at X G
 yay:=T.yay.at X G
 yap:=T.yap.at X G
 yaw:=T.yaw.at X G
 yav:=T.yav.at X G
 yas:=T.yas.at X G
 yan:=T.yan.at X G
 yat:=T.yat.at X G
 yaV:=T.yaV.at X G
 yao:=T.yao.at X G
 yaS:=T.yaS.at X G
 yaU:=T.yaU.at X G
 yaT:=T.yaT.at X G
 yaA:=T.yaA.at X G
 yaY:=jt X G T.yaY
 yaZ:=jt X G T.yaZ
 ya0:=jt X G T.ya0
 ya1:=jt X G T.ya1
 ya2:=jt X G T.ya2
 ya3:=jt X G T.ya3
 ya4:=jt X G T.ya4
 ya5:=jt X G T.ya5
 ya6:=jt X G T.ya6
 ya7:=jt X G T.ya7
 ya8:=jt X G T.ya8
 ya9:=jt X G T.ya9
 yba:=jt X G T.yba
 ybb:=jt X G T.ybb
 ybc:=jt X G T.ybc
 ybq:=T.ybq.imp λ_ e=>fz X G e
 ybr:=T.ybr.imp λ_ e=>fz X G e
 ybs:=T.ybs.imp λ_ e=>fz X G e
 ybt:=T.ybt.imp λ_ e=>fz X G e
 yal:=fz X G T.yal
 yaf:=fz X G T.yaf
 yah:=fz X G T.yah
 yag:=fz X G T.yag
 yai:=fz X G T.yai
 yac:=fz X G T.yac
 yab:=fz X G T.yab
 yaj:=fz X G T.yaj
 yam:=fz X G T.yam
 yae:=fz X G T.yae
 yad:=fz X G T.yad
 yaa:=fz X G T.yaa
 yak:=fz X G T.yak
 ybk:=qj X (fz X G T.yaj) ((lD T.ck).2.1 a.Nothing (by simp[fj])).1
 ybi:=qj X (fz X G T.yae) ((lD T.ck).2.1 a.NoPlace (by simp[fj])).1
 ybh:=qj X (fz X G T.yad) ((lD T.ck).2.1 a.NoLetters (by simp[fj])).1
 ybg:=qj X (fz X G T.yac) ((lD T.ck).2.1 a.Never (by simp[fj])).1
 ybj:=qj X (fz X G T.yag) ((lD T.ck).2.1 a.NoView (by simp[fj])).1
 ybf:=qj X (fz X G T.yab) ((lD T.ck).2.1 a.Full (by simp[fj])).1
 err_SlitError:=Qd X (lD T.ck).1
 und:=OO X T.ck
 tab:=Oc T.ck
theorem LY{l:BR}{w:aU}{d:ac}(X:K.In h)(G:h.Ns b7 i)(b:i "law"=aa (.ref d))(T:Top K a):∃c:gG,(∀(s:ao) (v:ai),BindsTo s c ⟨[v],[]⟩ [("_law_script",v)])/\∀g:aI,K.In g->g.Ns b7 i->g7 l.prog w K i g (bP l.prog w) 40 d c ["_law_script"] (bh K (sS a)):=by
 obtain⟨f,oc,x,kV,y,u,B,A,z,r,o,n,m,j⟩:=T.yaA;have e:=b.symm.trans (fz X G o);cases e;exact⟨_,λs v=>.of_eq rfl,λg p q=>Ni (Kv T p q) (xn n m j)⟩
theorem Le{l:BR}{q:a_}{j:List Str}{XP:(Str->Option ai)->aI->Prop}{o:aU->aI->Prop}{d:DefRec}{K:Params->au}(y:l.most=aa 63)(u:d.params.defaults=[])(m:d.name = "law")(A:∀(w:aU) (h:aI),o w h->(K w.params).In h) {a:Ad} (T:∀w:aU,Top (K w.params) a):PySem.W.WalkO q j XP o l.row.toRowW d [] (λf p=>PySem.call f p) :=
 L2.SH (n:=63) (k:=40) (x:="_law_script") (K:=K) (CX:=λw=>bP l.prog w) (sp:=λw=>bh (K w.params) (sS a)) y (by decide) u ⟨rfl,by decide,by decide⟩ (λw h Y=>⟨A w h Y,λc P e=>by rw[(T w).z0]at e;cases e⟩)
  (λw i F h C G r=>LY C G (by rw[<-m];exact r) (T w))
  (λw H b v E _ B=>QC (PN (lD (T w).ck).2.2.1 B) (M8 (T w).wh v))
  (λw H s e D z=>by obtain⟨_,_,_,_,_,_,_,_,_,_,_,f⟩:=z;exact f)
theorem SC{l:BR}{q:a_}{b:List Str}{XP:(Str->Option ai)->aI->Prop}{j:aU->aI->Prop}{d:DefRec}{K:Params->au}{yal yaf yah yag yai yac yab yaj yam yae yad yaa yak:ac}(o:l.most=aa 63)(n:d.params.defaults=[])(c:d.name = "law")(p:∀(w:aU) (h:aI),j w h->(K w.params).In h) (T:∀w:aU,Top (K w.params) ⟨yal,yaf,yah,yag,yai,yac,yab,yaj,yam,yae,yad,yaa,yak,0⟩):PySem.W.WalkO q b XP j l.row.toRowW d [] (λf m=>PySem.call f m):=Le o n c p T
end
end K33
def PySem.W.Fast.tw12764981295811852618:Nat:=0
def PySem.W.Fast.tw13014975166317900083:Nat:=0
def PySem.W.Fast.tw4839704944014468366:Nat:=0
def PySem.W.Fast.tw18164113227767313067:Nat:=0
def PySem.W.Fast.tw7504291361863601998:Nat:=0
def PySem.W.Fast.tw2330344596572213197:Nat:=0
def PySem.W.Fast.tw1566751794599637519:Nat:=0
def PySem.W.Fast.tw6006969444319084555:Nat:=0
def PySem.W.Fast.tw12971676615646222044:Nat:=0
def PySem.W.Fast.tw2396348865527000563:Nat:=0
def PySem.W.Fast.tw12545827765157282275:Nat:=0
def PySem.W.Fast.tw13637592925941982797:Nat:=0
def PySem.W.Fast.tw18392114533595075439:Nat:=0
def PySem.W.Fast.tw1952471623880932347:Nat:=0
def PySem.W.Fast.tw9170825705966588375:Nat:=0
def PySem.W.Fast.tw10827087559289379453:Nat:=0
def PySem.W.Fast.tw1322375606173206275:Nat:=0
def PySem.W.Fast.tw15774657849993978705:Nat:=0
def PySem.W.Fast.tw5902201691108422298:Nat:=0
def PySem.W.Fast.tw9962778787635732552:Nat:=0
def PySem.W.Fast.tw8235940910477213337:Nat:=0
def PySem.W.Fast.tw3925317253711978206:Nat:=0
def PySem.W.Fast.tw18049946550860876161:Nat:=0
def PySem.W.Fast.tw2501650398149747116:Nat:=0
def PySem.W.Fast.tw8002966837154376972:Nat:=0
def PySem.W.Fast.tw12038952684945499331:Nat:=0
def PySem.W.Fast.tw8859405274561129421:Nat:=0
def PySem.W.Fast.tw1956735071837641730:Nat:=0
def PySem.W.Fast.tw15316789734048975143:Nat:=0
def PySem.W.Fast.tw2127132487811906361:Nat:=0
def PySem.W.Fast.tw6179939740765456486:Nat:=0
def PySem.W.Fast.tw10604216002966564963:Nat:=0
def PySem.W.Fast.tw15091095799981423363:Nat:=0
def PySem.W.Fast.tw10329862453196541088:Nat:=0
def PySem.W.Fast.tw9423071111680729235:Nat:=0
def PySem.W.Fast.tw7903572799576838809:Nat:=0
def PySem.W.Fast.tw11577500877352656127:Nat:=0
def PySem.W.Fast.tw17227750987238483594:Nat:=0
def PySem.W.Fast.tw14560446947045772245:Nat:=0
def PySem.W.Fast.tw5809391523873432676:Nat:=0
def PySem.W.Fast.tw6674278935790300317:Nat:=0
def PySem.W.Fast.tw14087181636725406987:Nat:=0
def PySem.W.Fast.tw18167967933671979046:Nat:=0
def PySem.W.Fast.tw1881522380644376983:Nat:=0
def PySem.W.Fast.tw9042604345435542169:Nat:=0
def PySem.W.Fast.tw18126790864856237792:Nat:=0
def PySem.W.Fast.tw860174055558626357:Nat:=0
def PySem.W.Fast.tw9392985232373514269:Nat:=0
def PySem.W.Fast.tw13707533014302122868:Nat:=0
def PySem.W.Fast.tw7114338594368788102:Nat:=0
def PySem.W.Fast.tw16670845894874095862:Nat:=0
def PySem.W.Fast.tw6662420290278669301:Nat:=0
def PySem.W.Fast.tw15891873556133751016:Nat:=0
def PySem.W.Fast.tw4726063450165618223:Nat:=0
def PySem.W.Fast.tw2762945303155695103:Nat:=0
def PySem.W.Fast.tw3520139699190361306:Nat:=0
def PySem.W.Fast.tw17358831557108038827:Nat:=0
def PySem.W.Fast.tw4960114320314662863:Nat:=0
def PySem.W.Fast.tw14253083672828897763:Nat:=0
def PySem.W.Fast.tw4350956185059632154:Nat:=0
open PySem PySem.W PyProof.Rows
set_option maxRecDepth 100000 in
set_option maxHeartbeats 0 in
theorem PySem.Challenge.cw_slitview_k33_whole_seekers_holds : PySem.Challenge.rw_slitview_k33_whole_seekers.Holds := by
 w_on; o_law; k_head; (case hw=>w_witness2)
 k_fill
 refine' K33.SC (l:=PySem.Challenge.rw_slitview_k33_whole_seekers) rfl rfl rfl (fun w h Y=>PySem.W.kIn_of Y) ?T
 case T =>
  intro w
  refine' { ybp:=?ybp,ybn:=?ybn,ybl:=?ybl,yaX:=?yaX,ybm:=?ybm,ybo:=?ybo,k_Seeker:=?k_Seeker,ybd:=?ybd,ybe:=?ybe,yaD:=?yaD,yaL:=?yaL,yaF:=?yaF,yaN:=?yaN,yaP:=?yaP,yaK:=?yaK,yaO:=?yaO,yaQ:=?yaQ,yaB:=?yaB,yaH:=?yaH,yaJ:=?yaJ,yaG:=?yaG,yaR:=?yaR,yax:=?yax,yar:=?yar,yau:=?yau,yaz:=?yaz,yaq:=?yaq,yaW:=?yaW,yaE:=?yaE,yaM:=?yaM,yaC:=?yaC,yaI:=?yaI,yay:=?yay,yap:=?yap,yaw:=?yaw,yav:=?yav,yas:=?yas,yan:=?yan,yat:=?yat,yaV:=?yaV,yao:=?yao,yaS:=?yaS,yaU:=?yaU,yaT:=?yaT,yaA:=?yaA,yaY:=?yaY,yaZ:=?yaZ,ya0:=?ya0,ya1:=?ya1,ya2:=?ya2,ya3:=?ya3,ya4:=?ya4,ya5:=?ya5,ya6:=?ya6,ya7:=?ya7,ya8:=?ya8,ya9:=?ya9,yba:=?yba,ybb:=?ybb,ybc:=?ybc,ybq:=?ybq,ybr:=?ybr,ybs:=?ybs,ybt:=?ybt,yal:=?yal,yaf:=?yaf,yah:=?yah,yag:=?yag,yai:=?yai,yac:=?yac,yab:=?yab,yaj:=?yaj,yam:=?yam,yae:=?yae,yad:=?yad,yaa:=?yaa,yak:=?yak,ck:=?ck,z0:=?z0,wh:=?wh }
  (case yal=>k_is)
  (case yaf=>k_is)
  (case yah=>k_is)
  (case yag=>k_is)
  (case yai=>k_is)
  (case yac=>k_is)
  (case yab=>k_is)
  (case yaj=>k_is)
  (case yam=>k_is)
  (case yae=>k_is)
  (case yad=>k_is)
  (case yaa=>k_is)
  (case yak=>k_is)
  (case ybp=>refine' Pu.SD ?yi ?yn ?yl ?yc ?yk; (case yi=>k_is); (case yn=>k_is); (case yl=>k_is); (case yc=>k_is); (case yk=>k_is))
  (case ybn=>refine' Pu.SD ?yi ?yn ?yl ?yc ?yk; (case yi=>k_is); (case yn=>k_is); (case yl=>k_is); (case yc=>k_is); (case yk=>k_is))
  (case ybl=>refine' Pu.SD ?yi ?yn ?yl ?yc ?yk; (case yi=>k_is); (case yn=>k_is); (case yl=>k_is); (case yc=>k_is); (case yk=>k_is))
  (case yaX=>refine' Pu.Sk ?zm ?zi ?zn ?zp ?zl ?zc ?zk; (case zm=>k_is); (case zi=>k_is); (case zn=>k_is); (case zp=>k_is); (case zl=>k_is); (case zc=>k_is); (case zk=>k_is))
  (case ybm=>refine' Pu.SD ?yi ?yn ?yl ?yc ?yk; (case yi=>k_is); (case yn=>k_is); (case yl=>k_is); (case yc=>k_is); (case yk=>k_is))
  (case ybo=>refine' Pu.SD ?yi ?yn ?yl ?yc ?yk; (case yi=>k_is); (case yn=>k_is); (case yl=>k_is); (case yc=>k_is); (case yk=>k_is))
  (case k_Seeker=>refine' L2.Cls.mk ?xp ?xh ?xo ?xs; (case xp=>k_is); (case xh=>k_is); (case xo=>k_is); (case xs=>k_is))
  (case ybd=>unfold L2.iE; k_is)
  (case ybe=>unfold L2.iE; k_is)
  (case yaD=>and_intros)
  (case yaL=>and_intros)
  (case yaF=>and_intros)
  (case yaN=>and_intros)
  (case yaP=>and_intros)
  (case yaK=>and_intros)
  (case yaO=>and_intros)
  (case yaQ=>and_intros)
  (case yaB=>and_intros)
  (case yaH=>and_intros)
  (case yaJ=>and_intros)
  (case yaG=>and_intros)
  (case yaR=>and_intros)
  (case yax=>and_intros)
  (case yar=>and_intros)
  (case yau=>and_intros)
  (case yaz=>and_intros)
  (case yaq=>and_intros)
  (case yaW=>and_intros)
  (case yaE=>and_intros)
  (case yaM=>and_intros)
  (case yaC=>and_intros)
  (case yaI=>and_intros)
  (case yay=>and_intros)
  (case yap=>and_intros)
  (case yaw=>and_intros)
  (case yav=>and_intros)
  (case yas=>and_intros)
  (case yan=>and_intros)
  (case yat=>and_intros)
  (case yaV=>and_intros)
  (case yao=>and_intros)
  (case yaS=>and_intros)
  (case yaU=>and_intros)
  (case yaT=>and_intros)
  (case yaA=>and_intros)
  (case yaY=>k_is)
  (case yaZ=>k_is)
  (case ya0=>k_is)
  (case ya1=>k_is)
  (case ya2=>k_is)
  (case ya3=>k_is)
  (case ya4=>k_is)
  (case ya5=>k_is)
  (case ya6=>k_is)
  (case ya7=>k_is)
  (case ya8=>k_is)
  (case ya9=>k_is)
  (case yba=>k_is)
  (case ybb=>k_is)
  (case ybc=>k_is)
  (case ybq=>refine' Pu.Ss ?e; (case e=>k_is))
  (case ybr=>refine' Pu.Sz ?e; (case e=>k_is))
  (case ybs=>refine' Pu.Sz ?e; (case e=>k_is))
  (case ybt=>refine' Pu.Sz ?e; (case e=>k_is))
  (case ck=>kernel_rfl)
  (case z0=>kernel_rfl)
  (case wh=>refine K33.SA ?_; kernel_rfl)
