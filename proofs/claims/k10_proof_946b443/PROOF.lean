import PyProof.Rows.All
import Wide.All
import OpenK.AllK
import Wide.FinOn
import Lean
import PyProof.EqAt
import PyProof.EqKinds
import PyProof.TupleCall
import KE.KIntText
import KE.KDictList
import KE.KDictSum
import PyProof.Rows.Range3
import PyProof.DictWalks
import KE.KMinKey
import KE.KSortTup
import PyProof.EnumStmt
import PyProof.EnumMake
import PyProof.EnumFor
import PyProof.Draws
import PyProof.Rows.TupDisplay
import PyProof.Rows.SumAny
import KE.LcSums
import PyProof.FString5
import PyProof.WalkInts
import KE.KDictLaws
import PySem.Challenge.RW_slitview_k10_whole_seen_windows
noncomputable section
set_option compiler.extract_closed false
local macro_rules | `(tactic| eq_refl) => `(tactic| first | exact Or.inl rfl | exact Or.inr (Or.inl rfl) | exact Or.inr (Or.inr rfl))
local macro_rules | `(∅) => `(by first | lia | omega)
set_option Elab.async false
set_option bootstrap.genMatcherCode false
set_option genSizeOf false
set_option linter.all false
set_option maxRecDepth 100000
local macro_rules | `(tactic| mleft) => `(tactic| first | exact .inl rfl | exact .inr rfl | assumption)
local macro_rules | `(~~~$x) => `(by simpa using $x)
local macro_rules | `(tactic| ac_nf) => `(tactic| exact ⟨rfl,rfl,rfl,by decide +kernel,rfl,by decide +kernel,by decide +kernel⟩)
open Option renaming some->aa,none->ae,bind_some->gz,map_eq_some_iff->mO,bind_eq_some_iff->uz,map_some->wS,isSome_iff_exists->Di,getD_none->JT,isSome_map->JY
open PySem renaming Addr->af,Value->ai,Shared->ao,wpAny_bind->aq,wpAny->ar,model->aw,Heap->aB,Expr->aC,wpAny_pure->aF,World->aJ,Program->aQ,starEach->aV,Around->aX,eval->a9,Stmt->bf,sizeLine->bo,mainGlobals->cm,SetTable->cx,backTo->c8,rawInt->dq,Scope->dU,compareOp->eF,Paired->eV,wpAny_mono->fh,bootBuiltins->fA,cellsFrom->gc,strKind->gh,bindArgs->gy,NameKind->hZ,FuncData->iw,wpAny_holding->iQ,swapsWith->jr,binaryOp->js,sysModules->jK,Keyword->jL,holding->kb,wpAny_newObj_type->ke,wpAny_call_entry->ll,foldedSetIterable->lT,mem_of_lookup->lV,wpAny_field->lX,wpAny_setState_of->l4,setField->l5,unsupported->l6,assign->mJ,pyNext->mK,codeAny->mL,wpAny_rule->mR,wpAny_setField->mT,isTrue->nX,pyIter->nY,IsPart->n0,attributeBase->n4,wpAny_of_eq->n8,setNext->n9,wpAny_truthy_bool->ph,wpAny_loadPart'->pq,reduceHash->qQ,builtinsNs->qR,behindInMarks->qT,assignEach->qU,codeAny_mono->qW,getItem->qY,backToKw->q8,keywordEach->q_,newExc->rh,tupleKind->t7,wpAny_passesOwn->t8,sizeLine_eq->t_,sliceBounds->ub,valueAt->uc,callerA->ue,DictEntry->uf,relayAll->uk,wpAny_askSetting->um,hashByValue->uw,setSearchFrom->ux,wpAny_execs_nil->wy,PassesOwn->wz,wpAny_callSpecial?_slot->wG,wpAny_specialOf->wJ,lookup_relabel_local->wL,codeAny_builtin->wO,raiseNew->wP,pickOrder->wQ,firstArgMember->wR,wpAny_seqItems->wT,setFlight->wV,eqIsQuiet->w6,ofAClassStatement->w8,wpAny_forIn_list->w_,wpAny_call->zR,wpAny_Call_Name_kw->zS,call_meets->zU,noteFrame->zY,seqItems?->z7,isInstance->z8,setsByText->z_,wpAny_ite_split->Aa,wpAny_pyIter_tuple->Ab,swapsWithSole->De,swappedStores->Df,letOwnedTupleGo->Dg,wpAny_typeOf->Dk,subscripted->Dm,tupleKind_room_in1->Dp,wpAny_newList->Dz,setAddHashed->DH,wpAny_storeSet_of->DJ,fits_of_scanBound->DK,plainId_quiet->DL,wpAny_attempt->DM,wpAny_isInstance->DP,intKind->Eg,wpAny_typeNameOfWhole_keyiter->El,wpAny_typeNameOf_keyiter->Em,wpAny_execs_cons->JF,noFill_tuple_add->JO,wpAny_pyIter_list->J2,checkBuiltinCall->Ka,wpAny_pyIter_slot->Kb,wpAny_loadPart_at->Kg,searchCouldBeSeen->Ko,wpAny_dictEntries->Kv
open Bool renaming true->ah,false->ak,false_eq_true->fi,false_ne_true->gb,and_eq_true->h_,eq_iff_iff->nZ,not_true->rE,false_xor->wY,and_false->zZ,true_and->Du,or_eq_true->Dx,eq_false_iff->D5,not_false->Ee,not_eq_true'->Ki
open PySem.W renaming Frag->ax,nsIn->dr,kitOne->iR,fnOf->iS,kia_one->lU,excIn->pF,tabIn->qS,findIn->qV,keepIn->qX,hashAt->rD,InstAt->wA,codeIn->wD,mroIn->zQ,mg_of->Ag,OpenLaw->Dq,clsIn->D4,kat_nil->Eh,methodObj->JE,specialIn->JJ,callWith_K->JL,cellsFrom_some->JM,kat_cons->Kt,KatTups->Vc
open PyProof.Rows renaming wpS_bind->aO,wpS_pure->aZ,pendingOf->bF,SortSt->bN,StrsAre->cS,seqObj->gf,SortKind->gS,wpS_mono->ie,wpS_forRange->ig,envOfC->jt,pairsOf->lm,size_push'->l0,wpS_get->l7,AllBare->nV,wpS_modify->oq,wpS_lift->ur,listUpdate_at->DV,callWith_type1->JG,slot_tuple_getitem->U8
open Nat renaming le_refl->bi,le_trans->c7,ne_of_lt->dE,lt_of_lt_of_le->gQ,lt_irrefl->jq,zero_le->jM,le_of_lt->kI,mod_lt->n_,not_lt_zero->og,zero_add->pD,ne_of_gt->t9,le_of_eq->ug,succ_pos->uu,lt_trans->wI,le_succ->wK,lt_succ_of_lt->wN,lt_of_le_of_lt->zX,pow_succ->Ah,pow_add->Ai,mul_le_mul->DB,mul_comm->D_,mod_eq_of_lt->Ea,lt_succ_self->Kc,add_right_comm->Kn,eq_zero_or_pos->KH
open PySem.Heap renaming lt_size->bH,get?_push_of_some->bL,get?_push_size->cV,SameBut->ka,get?_update_self->mM,get?_update_other->pr,get?_none_of_le->Dd,size_push->Dr,get?_update_ne->Ke
open List renaming mem_map->b8,mem_cons->cC,range->cJ,length_map->cK,getElem?_eq_some_iff->cP,getElem?_set_ne->cQ,map_cons->cR,map_map->cT,replicate->dW,getElem?_map->d8,getElem?_eq_getElem->d9,getElem?_set_self->eE,nil_append->eW,size_toArray->fD,length_set->ge,length_cons->gR,mem_cons_of_mem->iu,append_nil->ix,length_append->iT,foldl_cons->iU,not_mem_nil->ju,append_assoc->jN,mem_cons_self->j_,mem_of_getElem?->kc,mem_singleton->kg,mem_filter->kH,mem_append_right->kJ,nodup_cons->kL,mem_append->lj,map_congr_left->lY,all_eq_true->lZ,take_append_drop->l8,lookup_cons->mP,sum_cons->mV,filter_eq_self->m8,filterMap_cons->nW,find?_cons->n5,getElem?_eq_none->oh,getElem_of_mem->om,filter_map->ou,mem_range->pf,length->pi,any_cons->pt,take_of_length_le->pA,pairwise_map->pB,ext_getElem?->pC,all_cons->qZ,length_nil->re,range_succ->rf,mem_reverse->rn,cons_append->rq,nodup_nil->ud,all_map->uh,map_append->ui,pairwise_iff_getElem->ut,map_id'->uy,flatMap_cons->uA,of_mem_zip->wB,getElem?_append_left->wC,length_take->wE,length_drop->wF,getElem_mem->wM,drop_eq_getElem_cons->wU,mem_flatMap->xf,mem_append_left->zP,filterMap_map->zT,map_nil->zW,foldl_append->z5,getElem?_zip_eq_some->Ac,drop_length->Ae,length_eq_zero_iff->Aj,dropLast->Ak,lookup->Ds,getElem?_range->Dt,eq_nil_of_length_eq_zero->Dv,toList_toArray->Dw,mergeSort_perm->Dy,getElem?_cons_succ->DQ,getElem?_drop->DY,take_zero->DZ,getElem?_cons_zero->D6,singleton_append->D7,take_length->D8,zip_cons_cons->Ed,flatMap_append->Eo,any_map->Ep,exists_cons_of_ne_nil->Er,mem_filterMap->JH,getElem?_append_right->JN,lookup_append->J0,range_succ_eq_map->J1,pairwise_mergeSort->J3,map_filterMap->Kd,getElem?_of_mem->Kh,reverse_append->Kj,reverse_perm->Kk,pairwise_reverse->Kl,getElem?_take->Km,cons_lt_cons_iff->Kq,zip_nil_left->Kr,map_snd_zip->Ku,filter_flatMap->Kx,filter_congr->Kz,mem_or_eq_of_mem_set->KB,drop_of_length_le->KC,length_flatMap->KD,dropLast_eq_take->KF,any_eq_true->KG,findIdx?_eq_some_iff_getElem->U9,take_succ_eq_append_getElem->Va,Perm->Vd,drop_append_of_le_length->Vg
open Ne renaming symm->dj
open PySem.SetTable renaming bits->fE,runEnd->fM,below->jO,Probe->kP,leap->mY,grown->n6,insertAt->rg,turns->uv,laid->DC,layClean->DD,advance->Ec,sizeAbove->J8
open Option.some renaming inj->f_
open False renaming elim->iy
open Array renaming length_toList->iP,getElem?_eq_getElem->kf,getElem?_eq_some_iff->mQ,toList_append->mW,getElem_extract->ot,getElem?_toList->rj,toList_push->ul,perm_iff_toList_perm->D9,getD_eq_getD_getElem?->Eb,forIn_toList->Ef
open PySem.PassesOwn renaming never->iV
open PySem.Str renaming empty->kK,ofString->ua
open PySem.Obj renaming mapSeq->kM,mapFields->mU,data_mapFields->oj,isFreed_of_fields->wW,cls_mapFields->Kf
open Iff renaming rfl->kN
open PySem.Builtin.Tuple renaming tupleHashOf->lS,tupleExact->Dl
open Int renaming toNat_natCast->lW,emod_lt_of_pos->KA
open Function renaming comp_def->l3,comp->En
open PyProof.Rows.KeyOrd renaming kle_of_klt->l9,kle_refl->mX,kle_trans->rm
open PySem.Heap.SameBut renaming update->mS,refl->J9
open List.cons renaming injEq->mZ
open PySem.Value renaming isStrOf->qO,isInt->Dc
open PySem.Paired renaming length->qP,snoc->zV
open PySem.SetTable.layClean renaming free->rA
open List.Perm renaming refl->uj,append_left->z9,eq_of_pairwise->J4
open PySem.SetTable.below renaming go->uo
open PySem.SeqAt renaming EqAt->wH
open Exists renaming elim->wX
open PySem.SetTable.probe renaming go->wZ
open PySem.Around renaming under_plainId->z6
open Nat.succ renaming inj->Af
open PySem.Calls renaming spliced_cons->Dh,evalArgs_plain->Do,spliced_nil->JK,callWith_builtin->JW,call_function_entry->J5
open PySem.Builtin.Slice renaming slicePlaces->Dj,sliceAdjust->JS
open PySem.F renaming plainAttrs_list->D3,slot_tuple_iterator_next->Ej,slot_dict_keyiterator_next->Ek,slot_tuple_add->JP,entry_tuple_add->JQ,args_tuple_add_2->JR,slot_dict_get->JZ,excBase_ValueError->Kw,slot_tuple_hash->Vb,entry_dict_keyiterator_next->Ve,args_dict_keyiterator_next_1->Vf
open PySem.Builtin.SmallTypes renaming nextOf->Ei
open PySem.Builtin.Str renaming occurrences->JI
open PySem.SeqAt.EqAt renaming int_int->JU,str_str->JV
open PySem.Builtin.List renaming listTooLong->JX
open PySem.Builtin renaming sorted->J7
open PyProof.Rows.F renaming plain_set_update_loop->J_,entry_set_update_loop->U_
open Classical renaming byContradiction->KI
open PySem PySem.Spec PyProof.Rows
namespace L2
abbrev aK:=Sum Int Str
def tq:aK->ai->Bool
 |.inl k,v=>Dc k v
 |.inr x,v=>qO x v
def UQ(w:aJ):aK->Int
 |.inl k=>hashInt k
 |.inr x=>hashStr w x
def nQ:∀{k:aK}{v:ai},tq k v=ah->(∃i t,k=Sum.inl i/\v=Value.int i t)\/(∃x t,k=Sum.inr x/\v=Value.str x t)
 |.inl i,v,h=>by obtain⟨t,e⟩:=Value.isInt_shape (k:=i) (v:=v) h;exact .inl ⟨i,t,rfl,e⟩
 |.inr x,v,h=>by obtain⟨t,e⟩:=Value.isStrOf_shape (x:=x) (v:=v) h;exact .inr ⟨x,t,rfl,e⟩
def Mb(i:Int)(t:Tok):tq (.inl i) (.int i t)=ah:=by simp[tq,Dc]
def R6(x:Str)(t:Tok):tq (.inr x) (.str x t)=ah:=by simp[tq,qO]
def T7(a b:Int):decide ((Sum.inl a:aK)=Sum.inl b)=(a == b):=by lia
def Uq(a b:Str):decide ((Sum.inr a:aK)=Sum.inr b)=decide (a=b):=by lia
def Nx(a:Int)(b:Str):decide ((Sum.inl a:aK)=Sum.inr b)=ak:=decide_eq_false (λq=>nomatch q)
def NQ(a:Str)(b:Int):decide ((Sum.inr a:aK)=Sum.inl b)=ak:=decide_eq_false (λq=>nomatch q)
def g9(c:aQ)(w:aJ):PySem.KeyKind c w aK where
 is:=tq
 hash:=UQ w
 inj:=λv a b l f=>by
  rcases nQ l with⟨i,t,rfl,rfl⟩|⟨x,t,rfl,rfl⟩
  .rcases nQ f with⟨j,u,rfl,e⟩|⟨y,u,rfl,e⟩
   .injection e with e1 _;rw[e1]
   .exact nomatch e
  .rcases nQ f with⟨j,u,rfl,e⟩|⟨y,u,rfl,e⟩
   .exact nomatch e
   .injection e with e1 _;rw[e1]
 byValue:=λk v h=>by rcases nQ h with⟨i,t,rfl,rfl⟩|⟨x,t,rfl,rfl⟩ <;> rfl
 pyHash:=λd h=>by
  rcases nQ d with⟨i,t,rfl,rfl⟩|⟨x,t,rfl,rfl⟩
  .exact wpAny_pyHash_int h
  .exact wpAny_pyHash_str h
 eqBool:=λg d h=>by
  rcases nQ g with⟨i,t,rfl,rfl⟩|⟨x,t,rfl,rfl⟩
  .rcases nQ d with⟨j,u,rfl,rfl⟩|⟨y,u,rfl,rfl⟩
   .rw[T7]at h;exact wpAny_eqBool_int h
   .rw[Nx]at h;exact SeqAt.EqAt.int_str i t y u _ _ _ _ h
  .rcases nQ d with⟨j,u,rfl,rfl⟩|⟨y,u,rfl,rfl⟩
   .rw[NQ]at h;exact SeqAt.EqAt.str_int x t j u _ _ _ _ h
   .rw[Uq]at h;exact wpAny_eqBool_str h
 «strs»:=λk x t v h=>by
  rcases nQ h with⟨i,u,rfl,e⟩|⟨y,u,rfl,e⟩
  .exact nomatch e
  .injection e with e1 _;subst e1;cases v <;> rfl
def LC(a:aQ)(w:aJ)(i:Int)(t:Tok):(g9 a w).is (.inl i) (.int i t)=ah:=Mb i t
def NR(a:aQ)(w:aJ)(x:Str)(t:Tok):(g9 a w).is (.inr x) (.str x t)=ah:=R6 x t
inductive V where
 |non|bl (b:Bool)|int (i:Int)|str (x:Str)|byt (b:Array UInt8)|flt (b:UInt64)|ref (a:af)|ty (n:String)
 deriving DecidableEq
def RelV:V->ai->Prop
 |.non,u=>u=Value.none
 |.bl b,u=>u=Value.bool b
 |.int i,u=>∃t,u=Value.int i t
 |.str x,u=>∃t,u=Value.str x t
 |.byt b,u=>∃t,u=Value.bytes b t
 |.flt b,u=>∃t,u=Value.float b t
 |.ref a,u=>u=Value.ref a
 |.ty n,u=>u=Value.type n
abbrev bG:List V->List ai->Prop:=eV RelV
def bG.length{xs:List V}{a:List ai}(r:bG xs a):xs.length=a.length:=qP r
def bG.get:∀{xs:List V}{a:List ai}{i:Nat}{x:V},bG xs a->xs[i]?=aa x->∃u,a[i]?=aa u/\RelV x u
 |_,_,_,_,.nil,e=>by simp at e
 |_,_,0,_,.cons r _,e=>by simp at e;subst e;exact⟨_,rfl,r⟩
 |_,_,i+1,x,.cons _ t,e=>by obtain⟨u,c,b⟩:=bG.get (i:=i) (x:=x) t (~~~e);exact⟨u,~~~c,b⟩
def bG.set(r:RelV x u):∀{xs:List V}{a:List ai} (i:Nat),bG xs a->bG (xs.set i x) (a.set i u)
 |_,_,_,.nil=>.nil
 |_,_,0,.cons _ t=>.cons r t
 |_,_,i+1,.cons q t=>.cons q (bG.set r i t)
def bG.append:∀{xs a:List V}{c b:List ai},bG xs c->bG a b->bG (xs++a) (c++b)
 |_,_,_,_,.nil,s=>s
 |_,_,_,_,.cons r t,s=>.cons r (bG.append t s)
def bG.take:∀{xs:List V}{a:List ai} (n:Nat),bG xs a->bG (xs.take n) (a.take n)
 |_,_,0,_=>.nil
 |_,_,_+1,.nil=>.nil
 |_,_,n+1,.cons r t=>.cons r (bG.take n t)
def bG.drop:∀{xs:List V}{a:List ai} (n:Nat),bG xs a->bG (xs.drop n) (a.drop n)
 |_,_,0,r=>r
 |_,_,_+1,.nil=>.nil
 |_,_,n+1,.cons _ t=>bG.drop n t
def pc:Option V->Option ai->Prop
 |some v,aa u=>RelV v u
 |none,ae=>True
 |_,_=>False
def KV{a:Type}:List (a×V)->List (a×ai)->Prop:=eV λ(p:a×V) (q:a×ai)=>p.1=q.1/\RelV p.2 q.2
def kV:aK->V
 |.inl i=>.int i
 |.inr x=>.str x
inductive HO where
 |lst (xs:List V)
 |tup (xs:List V)
 |dK (kvs:List (aK×V))|dT (kvs:List (List aK×V))|dN (kvs:List ((Str×List Str)×V))
 |set (S:Int->Bool) (n:Nat)
 |ins (C dx:af) (fs:List (Str×V))
 |own (x:af)
 |xd (fs:List (Str×V))
 |met (f x:af)
 |rng (lo hi:Int)
 |frz (o:Obj) (u:HO)
 |tbl (q:Str)
 |ext (φ:aB->Prop)
abbrev Hp:=af->Option HO
def upd(H:Hp)(a:af)(o:HO):Hp:=λb=>if b=a then aa o else H b
def upd_same:upd H a o a=aa o:=by unfold upd;rw[if_pos rfl]
def a8(h:b≠a):upd H a o b=H b:=by unfold upd;rw[if_neg h]
def ya{H:Hp}{a b:af}{o u:HO}(h:H a=aa o)(h':H b=aa u)(d:o≠u):a≠b:=by lia
def kX{H:Hp}{a b:af}{o:HO}(h:H a=aa o)(c:H b=ae):a≠b:=by lia
def JC(h:aB)(a:af)(b:Array ai):Prop:=IsTup h a b/\∃o,h.get? a=aa o/\o.dict=ae
def JC.new(h:aB)(its:Array ai):JC (h.push {cls:=.type "tuple",data:=.seq its}) h.objs.size its:=⟨IsTup.new _ _,_,cV _ rfl,rfl⟩
section
variable(P:aQ)(w:aJ)
def MR(k:Str×List Str):Int:=qQ (lS [hashStr w k.1,qQ (lS (k.2.map (hashStr w)))])
def NA(H:Hp)(k:Str×List Str)(a:af):Prop:=∃b,H a=aa (.tup [.str k.1,.ref b])/\H b=aa (.tup (k.2.map .str))
def cn(H:Hp)(h:aB)(a:af):HO->Prop
 |.lst xs=>xs.length<=bo/\∃(d:List ai) (n:Nat),bG xs d/\h.get? a=aa {cls:=.type "list",data:=.seq d.toArray n}
 |.tup xs=>xs.length<=bo/\∃d:List ai,bG xs d/\JC h a d.toArray
 |.dK b=>b.length<=bo/\(a == jK)=ak/\∃s,KV b s/\h.DictOf (g9 P w) a s
 |.dT b=>b.length<=bo/\(a == jK)=ak/\∃xs:List (List aK×af×ai),
   eV (λ(p:List aK×V) (q:List aK×af×ai)=>p.1=q.1/\H q.2.1=aa (.tup (p.1.map kV))/\RelV p.2 q.2.2) b xs /\
   ∃o es ep,h.get? a=aa o/\o.ExactDict/\o.data=.dict es ep/\es.toList=xs.map (entryOfKey (t7 (g9 P w)))/\(xs.map (·.1)).Nodup
 |.dN b=>b.length<=bo/\(a == jK)=ak/\∃xs:List ((Str×List Str)×af×ai),
   eV (λ(p:(Str×List Str)×V) (q:(Str×List Str)×af×ai)=>p.1=q.1/\NA H p.1 q.2.1/\RelV p.2 q.2.2) b xs /\
   ∃o es ep,h.get? a=aa o/\o.ExactDict/\o.data=.dict es ep/\es.toList=xs.map (λx=>⟨MR w x.1,.ref x.2.1,x.2.2⟩)/\(xs.map (·.1)).Nodup
 |.set S n=>h.SetOf (intKind P w) a S n
 |.ins C i fs=>H i=aa (.own a)/\fs.length<=1000/\i≠a/\h.get? a=aa (PySem.W.instObj C i) /\
   ∃g,h.Ns1 i g/\(∀f,pc (fs.lookup f) (g f))/\PySem.Within g (fs.map (·.1))
 |.own _=>∃o,h.get? a=aa o
 |.xd fs=>∃g,h.Ns1 a g/\∀f,pc (fs.lookup f) (g f)
 |.rng A B=>∃t u v,h.get? a=aa {cls:=.type "range",data:=.fields #[.int A t,.int B u,.int 1 v]}
 |.frz o u=>h.get? a=aa o/\cn H h a u
 |.tbl q=>∃l:Array ai,h.get? a=aa {cls:=.none,data:=.fields l}/\TriplesOk l.toList/\∀m r,codeAmong m l.toList=aa r->∃c,r=.ref c/\H c=aa (.own a)/\h.CodeRec r q
 |.met f x=>h.get? a=aa (JE (.ref f) (.ref x))
 |.ext j=>j h/\(∃o,h.get? a=aa o)/\∀z y:aB,j z->(∀o,z.get? a=aa o->y.get? a=aa o)->j y
def dy(H:Hp)(h:aB):Prop:=∀a o,H a=aa o->cn P w H h a o
end
section
variable{P:aQ}{w:aJ}{H i:Hp}{h h':aB}{a:af}{o:HO}
def cn.lt(x:cn P w H h a o):a<h.objs.size:=by
 cases o with
 |lst xs=>obtain⟨_,_,_,_,e⟩:=x;exact bH e
 |tup xs=>obtain⟨_,_,_,p,_⟩:=x;exact p.lt
 |dK b=>obtain⟨_,_,_,_,o,_,_,e,_⟩:=x;exact bH e
 |dT b=>obtain⟨_,_,_,_,o,_,_,e,_⟩:=x;exact bH e
 |dN b=>obtain⟨_,_,_,_,o,_,_,e,_⟩:=x;exact bH e
 |set S n=>obtain⟨o,_,_,_,e,_⟩:=x;exact bH e
 |ins C l fs=>obtain⟨_,_,_,e,_⟩:=x;exact bH e
 |own y=>obtain⟨_,e⟩:=x;exact bH e
 |xd fs=>obtain⟨_,⟨_,_,_,e,_⟩,_⟩:=x;exact bH e
 |rng g j=>obtain⟨_,_,_,e⟩:=x;exact bH e
 |frz d u=>obtain⟨e,_⟩:=x;exact bH e
 |tbl q=>obtain⟨_,e,_⟩:=x;exact bH e
 |met f y=>exact bH (show h.get? a=aa _ from x)
 |ext c=>obtain⟨_,⟨_,e⟩,_⟩:=x;exact bH e
def Paired.mapP:∀{d:List j}{c:List g},eV F d c->(∀a b,F a b->G a b)->eV G d c
 |_,_,.nil,_=>.nil
 |_,_,.cons r t,f=>.cons (f _ _ r) (Paired.mapP t f)
def cn.stay(x:cn P w H h a o)(k:∀b u,(b=a\/H b=aa (.own a))->h.get? b=aa u->h'.get? b=aa u)(M:∀b,H b=aa (.own a)->i b=aa (.own a)) (J:∀b xs,H b=aa (.tup xs)->i b=aa (.tup xs)):cn P w i h' a o:=by
 induction o with
 |lst xs=>obtain⟨z,s,n,r,e⟩:=x;exact⟨z,s,n,r,k _ _ (.inl rfl) e⟩
 |tup xs=>obtain⟨z,s,r,⟨j,e,c⟩,T,B,N⟩:=x;exact⟨z,s,r,⟨j,k _ _ (.inl rfl) e,c⟩,T,k _ _ (.inl rfl) B,N⟩
 |dK A=>obtain⟨z,y,E,r,j,l,m,e,c⟩:=x;exact⟨z,y,E,r,j,l,m,k _ _ (.inl rfl) e,c⟩
 |dT A=>obtain⟨z,y,xs,r,j,l,m,e,c⟩:=x;exact⟨z,y,xs,Paired.mapP r λp q z=>⟨z.1,J _ _ z.2.1,z.2.2⟩,j,l,m,k _ _ (.inl rfl) e,c⟩
 |dN A=>obtain⟨z,y,xs,r,j,l,m,e,c⟩:=x;exact⟨z,y,xs,Paired.mapP r λp q z=>⟨z.1,(let ⟨b,D,h2⟩:=z.2.1;⟨b,J _ _ D,J _ _ h2⟩),z.2.2⟩,j,l,m,k _ _ (.inl rfl) e,c⟩
 |set S n=>obtain⟨j,l,m,t,e,c⟩:=x;exact⟨j,l,m,t,k _ _ (.inl rfl) e,c⟩
 |ins C dx fs=>obtain⟨d,z,W,e,I,⟨G,l,m,B,c⟩,r⟩:=x;exact⟨M _ d,z,W,k _ _ (.inl rfl) e,I,⟨G,l,m,k _ _ (.inr d) B,c⟩,r⟩
 |own y=>obtain⟨j,e⟩:=x;exact⟨j,k _ _ (.inl rfl) e⟩
 |xd fs=>obtain⟨I,⟨G,l,m,e,c⟩,r⟩:=x;exact⟨I,⟨G,l,m,k _ _ (.inl rfl) e,c⟩,r⟩
 |rng lo hi=>obtain⟨t,u,v,e⟩:=x;exact⟨t,u,v,k _ _ (.inl rfl) e⟩
 |frz j u X=>obtain⟨e,q⟩:=x;exact⟨k _ _ (.inl rfl) e,X q⟩
 |tbl q=>
  obtain⟨Q,e,t,g⟩:=x;refine⟨Q,k a _ (.inl rfl) e,t,λF cv Y=>?_⟩;obtain⟨c,rfl,D,N,o,E,O,B,Z,r⟩:=g F cv Y;cases B;exact⟨c,rfl,M c D,c,o,E,O,rfl,k c _ (.inr D) Z,r⟩
 |met f y=>have e:h.get? a=aa (JE (.ref f) (.ref y)):=x;show h'.get? a=aa (JE (.ref f) (.ref y));exact k a _ (.inl rfl) e
 |ext φ=>obtain⟨p,⟨o,e⟩,L⟩:=x;exact⟨L _ _ p λo q=>k _ _ (.inl rfl) q,⟨o,k _ _ (.inl rfl) e⟩,L⟩
def dy.lt(x:dy P w H h)(e:H a=aa o):a<h.objs.size:=(x a o e).lt
def dy.fresh(x:dy P w H h)(e:h.objs.size<=a):H a=ae:=by
 cases q:H a with
 |none=>rfl
 |some u=>exact absurd (gQ (x.lt q) e) (jq _)
def dy.kept(x:dy P w H h)(k:∀b u,h.get? b=aa u->h'.get? b=aa u):dy P w H h':=λa o e=>(x a o e).stay (λb u _ q=>k b u q) (λ_ q=>q) λ_ _ q=>q
def dy.laid(x:dy P w H h)(k:∀b u,h.get? b=aa u->h'.get? b=aa u)(f:h.objs.size<=a)(new:cn P w (upd H a o) h' a o):dy P w (upd H a o) h':=λb u e=>by
 have hn:=x.fresh f;by_cases d:b=a
 .subst d;rw[upd_same]at e;lia
 .rw[a8 d]at e;exact(x b u e).stay (λc v _ q=>k c v q) (λc q=>by rw[a8 (kX q hn)];exact q) λc xs q=>by rw[a8 (kX q hn)];exact q
end
def Rd(H:Hp)(a:af)(u:HO):Prop:=H a=aa u\/∃o,H a=aa (.frz o u)
def Rd.ok{P:aQ}{w:aJ}{H:Hp}{h:aB}{a:af}{u:HO}(r:Rd H a u)(x:dy P w H h):cn P w H h a u:=by
 rcases r with r|⟨o,r⟩
 .exact x a u r
 .obtain⟨_,q⟩:=x a _ r;exact q
def vy:Option HO->Prop
 |some (.lst _)=>True
 |some (.dK _)=>True
 |some (.dT _)=>True
 |some (.dN _)=>True
 |some (.set _ _)=>True
 |some (.ins _ _ _)=>True
 |some (.ext _)=>True
 |_=>False
section
variable{P:aQ}{w:aJ}{H:Hp}{h a:aB}{x e:af}{d:HO}
def dy.write(ok:dy P w H h)(i:vy (H x))(p:e=x\/H e=aa (.own x))(k:∀b u,b≠e->h.get? b=aa u->a.get? b=aa u)(m:∃u,a.get? e=aa u)(new:cn P w (upd H x d) a x d):dy P w (upd H x d) a:=λb u q=>by
 have g:∀c y,H c=aa (.own y)->c≠x:=λc y r z=>by subst z;rw[r]at i;exact i
 have f:∀c xs,H c=aa (.tup xs)->c≠x:=λc xs r z=>by subst z;rw[r]at i;exact i
 by_cases l:b=x
 .subst l;rw[upd_same]at q;lia
 .rw[a8 l]at q;by_cases n:b=e
  .have j:H b=aa (.own x):=by
    lia
   rw[q]at j;cases j;obtain⟨v,o⟩:=m;exact⟨v,by lia⟩
  .refine(ok b u q).stay (λc v s r=>k c v ?_ r) (λc r=>by rw[a8 (g c b r)];exact r) λc xs r=>by rw[a8 (f c xs r)];exact r
   grind
end
structure Un(fs ex:List af)(H H':Hp)(h h':aB):Prop where
 keep:∀b o,h.get? b=aa o->H b=ae->b∉fs->b∉ex->h'.get? b=aa o
 slot:∀b o,h.get? b=aa o->H b=ae->b∈fs->b∉ex->∃sl,h'.get? b=aa {o with slots:=sl}
 free:∀b o,h.get? b=aa o->H b=ae->b∉ex->H' b=ae
 there:∀b o,h.get? b=aa o->b∉ex->∃o',h'.get? b=aa o'
 tups:∀b xs,H b=aa (.tup xs)->H' b=aa (.tup xs)
 frzs:∀b o u,H b=aa (.frz o u)->H' b=aa (.frz o u)
 tbls:∀b q,H b=aa (.tbl q)->H' b=aa (.tbl q)/\∀c o,H c=aa (.own b)->h.get? c=aa o->h'.get? c=aa o/\H' c=aa (.own b)
section
variable{fs f ex i:List af}{H j m:Hp}{h d l h':aB}{a x e:af}{o:HO}
def Un.any(u:Un fs ex H j h d){b:af}{c:Obj}(q:h.get? b=aa c)(n:H b=ae)(g:b∉ex):∃r,d.get? b=aa {c with slots:=r}:=by
 by_cases p:b∈fs
 .exact u.slot b c q n p g
 .exact⟨c.slots,u.keep b c q n p g⟩
def Un.kept(k:∀b u,h.get? b=aa u->h'.get? b=aa u):Un fs ex H H h h' :=⟨λb p q _ _ _=>k b p q,λb p q _ _ _=>⟨p.slots,k b p q⟩,λ_ _ _ n _=>n,λb p q _=>⟨p,k b p q⟩,λ_ _ q=>q,λ_ _ _ q=>q,λ_ _ q=>⟨q,λc o e g=>⟨k c o g,e⟩⟩⟩
def Un.refl:Un fs ex H H h h:=Un.kept λ_ _ q=>q
def Un.laid(k:∀b u,h.get? b=aa u->h'.get? b=aa u)(s:h.objs.size<=a)(hn:H a=ae):Un fs ex H (upd H a o) h h' where
 keep:=λb u q _ _ _=>k b u q
 slot:=λb u q _ _ _=>⟨u.slots,k b u q⟩
 free:=λb u q n _=>by rw[a8 (dE (gQ (bH q) s))];exact n
 there:=λb u q _=>⟨u,k b u q⟩
 tups:=λb xs q=>by rw[a8 (kX q hn)];exact q
 frzs:=λb u xs q=>by rw[a8 (kX q hn)];exact q
 tbls:=λb v q=>⟨by rw[a8 (kX q hn)];exact q,λc r p g=>⟨k c r g,by rw[a8 (kX p hn)];exact p⟩⟩
def Un.write(s:vy (H x))(B:e=x\/H e=aa (.own x))(k:∀b u,b≠e->h.get? b=aa u->h'.get? b=aa u)(C:∃u,h'.get? e=aa u):Un fs ex H (upd H x o) h h':=by
 have A:∀b,H b=ae->b≠x:=λb n z=>by subst z;rw[n]at s;exact s
 have w:∀b,H b=ae->b≠e:=λb n z=>by lia
 have p:∀b u,H b=aa u->¬vy (aa u)->b≠x:=λb u q E z=>by lia
 refine⟨λb u q n _ _=>k b u (w b n) q,λb u q n _ _=>⟨u.slots,k b u (w b n) q⟩,λb u q n _=>by rw[a8 (A b n)];exact n,λb u q _=>?_,
  λb xs q=>by rw[a8 (p b _ q λz=>z)];exact q,λb u xs q=>by rw[a8 (p b _ q λz=>z)];exact q,λb D q=>⟨by rw[a8 (p b _ q λz=>z)];exact q,λc y v g=>⟨k c y (by
   rintro rfl;rcases B with r|r
   .exact p c _ v (λz=>z) r
   .rw[v]at r;cases r;rw[q]at s;exact s) g,by rw[a8 (p c _ v λz=>z)];exact v⟩⟩⟩
 grind
end
def ze(h:aB)(H:Hp):List af:=(cJ h.objs.size).filter λa=>(H a).isSome
def nE(h:aB)(H:Hp):aB:=PySem.W.hideAll h (ze h H)
def La(h:aB)(H:Hp):(nE h H).objs.size=h.objs.size:=PySem.W.hideAll_size _ _
def Ps{h:aB}(e:h.get? b=aa o)(n:H b=ae):(nE h H).get? b=aa o :=
 PySem.W.hideAll_get _ e λa=>by
  have q:(H b).isSome=ah:=(kH.mp a).2
  grind
def U5(e:(nE h H).get? b=aa o):h.get? b=aa o/\H b=ae:=by
 have a:h.get? b=aa o:=PySem.W.of_hideAll (ze h H) e;refine⟨a,?_⟩;cases q:H b with
 |none=>rfl
 |some x=>have c:b∈ze h H:=kH.mpr ⟨pf.mpr (bH a),by simp[q]⟩;have z:(nE h H).get? b=ae:=PySem.W.hideAll_none (ze h H) c;lia
def Ry(g h:aB)(L:af):List (af×Obj):=(cJ h.objs.size).filterMap λa=>if a=L\/(g.get? a).isSome=ah then ae else(h.get? a).map λo=>(a,o)
def rest(g h:aB)(L d:af):List (af×Obj):=(Ry g h L).filter λp=>decide (p.1≠d)
structure Mod(K:ax)(mg:Str->Option ai)(base:aB):Prop where
 kin:K.In base
 glob:base.Ns cm mg
 blt:∃mb,base.Ns qR mb/\∀x:Str,x≠"__name__"->mb x=fA x
 nolimit:base.NoLimit
 bm:∃bm ob,mg "__builtins__"=aa (.ref bm)/\bm≠qR/\base.get? bm=aa ob/\ob.cls=.type "module"/\ob.dict=aa qR/\ob.data=.plain
set_option genInjectivity false in
structure Cx where
 prog:aQ
 w:aJ
 K:ax
 mg:Str->Option ai
 base:aB
 A:aX
 N:List Str
 s₀:ao
 H₀:Hp
 env:Env
 outer:List Env
 stack:List Env
 ex:List af
 fn:Str->Bool
 calm:Bool
 pn:List (af×Obj)
 xe:ai->ao->Prop
def fJ(l:List Env):List af:=l.filterMap (·.frame)
abbrev Cx.fs(X:Cx):List af:=fJ X.outer
def ee(a:dU)(x:Str):Prop:=a.names.lookup x=aa .local\/a.names.lookup x=aa .cell\/a.names.lookup x=aa .free
def Loc(a:dU)(x:Str):Prop:=a.names.lookup x=aa .local\/a.names.lookup x=aa .cell
def Look(a:Env)(h:aB)(m:Str->Option ai)(x:Str)(u:ai):Prop :=(a.kindOf x=aa .local/\m x=aa u)\/((a.kindOf x=aa .cell\/a.kindOf x=aa .free)/\∃c,a.cells.lookup x=aa c/\h.IsCell c (aa u))
def C0:List Str:=["least_ending"]
def xY(K:ax)(H:Hp):Prop:=∀x∈C0,∀c P,qS K x=aa (c,P)->H P=aa (.tbl (x++".<locals>.<lambda>"))
set_option genInjectivity false in
structure Cx.Ok(X:Cx):Prop where
 mod:Mod X.K X.mg X.base
 kind:X.env.scope.kind=.function
 glob:X.env.globals=cm
 blt:X.env.builtins=qR
 above:X.s₀.heap.objs.size<=X.env.locals
 inj:∀x y c,X.env.cells.lookup x=aa c->X.env.cells.lookup y=aa c->x=y
 has:∀x,(X.env.kindOf x=aa .cell\/X.env.kindOf x=aa .free)->∃c,X.env.cells.lookup x=aa c
 cab:∀x c,X.fn x=ah->X.env.cells.lookup x=aa c->X.s₀.heap.objs.size<=c
 hd:X.calm=ah->X.A.handled=ae
 frames:X.A.frames=aa X.stack
 stk:X.stack=X.outer\/(X.stack=X.env::X.outer/\X.env.frame=aa X.env.locals)
 exf:∀b∈X.ex,b≠X.env.locals/\∀x c,X.env.cells.lookup x=aa c->c≠b
 bs:∀b o,X.base.get? b=aa o->X.s₀.heap.get? b=aa o/\X.H₀ b=ae
 bsz:X.base.objs.size<=X.s₀.heap.objs.size
 noex:∀b o,X.base.get? b=aa o->b∉X.ex
 exfs:∀b∈X.ex,b∉X.fs
 funs:X.s₀.heap.FunFrames X.base X.outer
 frf:∀b∈X.fs,X.H₀ b=ae
 tab:xY X.K X.H₀
structure Inv(X:Cx)(ag:List (af×Obj))(σ:List (Option V))(H:Hp)(s:ao):Prop where
 ok:X.Ok
 os:s.os=X.s₀.os
 bare:nV s.gens
 base:Un X.fs X.ex X.H₀ H X.s₀.heap s.heap
 loc:∃m,s.heap.Ns X.env.locals m/\∀(i:Nat) (x:Str) (v:V),X.N[i]?=aa x->σ[i]?=aa (aa v)->ee X.env.scope x->∃u,RelV v u/\Look X.env s.heap m x u
 cell:∀x c,X.env.cells.lookup x=aa c->∃v,s.heap.IsCell c v
 free:H X.env.locals=ae
 freeC:∀x c,X.env.cells.lookup x=aa c->H c=ae
 pin:∀p∈X.pn++ag,s.heap.get? p.1=aa p.2/\H p.1=ae/\p.1≠X.env.locals/\p.1∉X.fs/\∀v,p.2.data≠.cell v
 hok:dy X.prog X.w H s.heap
 len:σ.length=X.N.length
section
variable{X:Cx}{f:List (af×Obj)}{w:List (Option V)}{H B:Hp}{s:ao}{h':aB}
def Cx.Ok.nofr(ok:X.Ok)(e:X.base.get? b=aa o):b∉X.fs:=λa=>by have:=(ok.funs.mem a).1;lia
def Inv.bs(I:Inv X f w H s):∀b o,X.base.get? b=aa o->s.heap.get? b=aa o/\H b=ae:=λb o e=>⟨I.base.keep b o (I.ok.bs b o e).1 (I.ok.bs b o e).2 (I.ok.nofr e) (I.ok.noex b o e),I.base.free b o (I.ok.bs b o e).1 (I.ok.bs b o e).2 (I.ok.noex b o e)⟩
def Inv.bk(I:Inv X f w H s):∀b o,X.base.get? b=aa o->s.heap.get? b=aa o:=λb o e=>(I.bs b o e).1
def Inv.mod(I:Inv X f w H s):Mod X.K X.mg X.base:=I.ok.mod
def Inv.kIn(I:Inv X f w H s):X.K.In s.heap:=I.ok.mod.kin.keeps I.bk
def Inv.lt(I:Inv X f w H s):X.env.locals<s.heap.objs.size:=let ⟨_,hn,_⟩:=I.loc;hn.lt
def Inv.sz(I:Inv X f w H s):X.s₀.heap.objs.size<=s.heap.objs.size:=c7 I.ok.above (kI I.lt)
def Inv.nofs(I:Inv X f w H s)(h:s.heap.objs.size<=a):a∉X.fs:=λc=>by obtain⟨_,o,b,_⟩:=I.ok.funs.mem c;exact absurd (gQ (bH b) (c7 I.sz h)) (jq _)
def Inv.cne(I:Inv X f w H s):∀x c,X.env.cells.lookup x=aa c->c≠X.env.locals:=λx c e z=>by obtain⟨v,o,d,g⟩:=I.cell x c e;obtain⟨m,⟨b,i,j,h,a,_⟩,_⟩:=I.loc;lia
def Inv.tab(I:Inv X f w H s):xY X.K H:=λx a c P h=>(I.base.tbls P _ (I.ok.tab x a c P h)).1
def Inv.funs(I:Inv X f w H s):s.heap.FunFrames X.base X.outer:=by
 have all:∀(l:List Env),(∀b∈fJ l,b∈X.fs)->X.s₀.heap.FunFrames X.base l->s.heap.FunFrames X.base l:=by
  intro l
  induction l with
  |nil=>intro _ _;trivial
  |cons u r h=>intro g n;obtain⟨p,⟨L,o,a,m,j,q⟩,i⟩:=n;have d:L∈X.fs:=g L (by unfold fJ;rw[nW,a];exact j_);obtain⟨v,e⟩:=I.base.slot L o j (I.ok.frf L d) d λz=>I.ok.exfs L z d;exact⟨p,⟨L,_,a,m,e,q⟩,h (λb c=>g b (by unfold fJ;rw[nW,a];exact iu _ c)) i⟩
 exact all X.outer (λ_ c=>c) I.ok.funs
def Inv.stack(I:Inv X f w H s):s.heap.FunFrames X.base X.stack:=by
 rcases I.ok.stk with e|⟨e,b⟩
 .rw[e];exact I.funs
 .rw[e];obtain⟨m,a,_⟩:=I.loc;refine .cons (by rw[I.ok.kind];decide) b a ?_ I.funs;exact Dd (c7 I.ok.bsz I.ok.above)
def Inv.stkSub(I:Inv X f w H s):∀b∈fJ X.stack,b∈X.env.locals::X.fs:=λb a=>by
 rcases I.ok.stk with e|⟨e,c⟩
 .grind
 .rw[e]at a;unfold fJ at a;rw[nW,c]at a;exact a
def Inv.stkFree(I:Inv X f w H s):∀b∈fJ X.stack,H b=ae:=λb a=>by
 rcases cC.mp (I.stkSub b a)with e|a
 .rw[e];exact I.free
 .obtain⟨_,o,c,_⟩:=I.ok.funs.mem a;exact I.base.free b o c (I.ok.frf b a) λz=>I.ok.exfs b z a
def Inv.step{g':Array GenState}{t':Nat}{d':Drawn}{ch:List af}(I:Inv X f w H s)(O:∀b∈ch,(b∈X.ex\/X.s₀.heap.objs.size<=b)/\b≠X.env.locals/\(∀x c,X.env.cells.lookup x=aa c->c≠b)/\∀p∈X.pn++f,p.1≠b)(keep:∀b o,b≠X.env.locals->b∉X.fs->b∉ch->s.heap.get? b=aa o->H b=ae->h'.get? b=aa o)(C:∀b o,b≠X.env.locals->b∈X.fs->b∉ch->s.heap.get? b=aa o->H b=ae->∃T,h'.get? b=aa {o with slots:=T}) (free:∀b o,b∉ch->s.heap.get? b=aa o->H b=ae->B b=ae)(D:∀b o,b∉ch->s.heap.get? b=aa o->∃M,h'.get? b=aa M)(L:∀b xs,H b=aa (.tup xs)->B b=aa (.tup xs)) (P:∀b o u,H b=aa (.frz o u)->B b=aa (.frz o u)) (A:∀b q,H b=aa (.tbl q)->B b=aa (.tbl q)/\∀c o,H c=aa (.own b)->s.heap.get? c=aa o->h'.get? c=aa o/\B c=aa (.own b))(ns:∀m,s.heap.Ns X.env.locals m->h'.Ns X.env.locals m) (W:dy X.prog X.w B h') (hg:nV g'):Inv X f w B {s with heap:=h',gens:=g',drawn:=d',toks:=t'}:=by
 have N:∀b o,X.s₀.heap.get? b=aa o->b≠X.env.locals:=λb o e=>dE (gQ (bH e) I.ok.above);have y:∀b o,X.s₀.heap.get? b=aa o->b∉X.ex->b∉ch:=λb o e a E=>by
  rcases(O b E).1 with z|z
  .exact a z
  .exact absurd (gQ (bH e) z) (jq _)
 have j:∀x c,X.env.cells.lookup x=aa c->∀v,s.heap.IsCell c v->h'.IsCell c v:=λx c e v ⟨o,G,Y⟩=>by
  have h:c∉ch:=λz=>(O c z).2.2.1 x c e rfl;by_cases hc:c∈X.fs
  .obtain⟨T,q⟩:=C c o (I.cne x c e) hc h G (I.freeC x c e);exact⟨_,q,Y⟩
  .exact⟨o,keep c o (I.cne x c e) hc h G (I.freeC x c e),Y⟩
 refine⟨I.ok,I.os,hg,⟨λb o e n E a=>?_,λb o e n E a=>?_,λb o e n a=>?_,λb o e a=>?_,λb xs e=>L b xs (I.base.tups b xs e),λb o xs e=>P b o xs (I.base.frzs b o xs e),λb Q e=>?_⟩,?_,λx c e=>?_,?_,λx c e=>?_,λp hp=>?_,W,I.len⟩
 .exact keep b o (N b o e) E (y b o e a) (I.base.keep b o e n E a) (I.base.free b o e n a)
 .obtain⟨T,F⟩:=I.base.slot b o e n E a;obtain⟨S,J⟩:=C b _ (N b o e) E (y b o e a) F (I.base.free b o e n a);exact⟨S,J⟩
 .obtain⟨M,F⟩:=I.base.there b o e a;exact free b M (y b o e a) F (I.base.free b o e n a)
 .obtain⟨M,F⟩:=I.base.there b o e a;exact D b M (y b o e a) F
 .exact⟨(A b _ (I.base.tbls b Q e).1).1,λc o J g=>(A b _ (I.base.tbls b Q e).1).2 c o ((I.base.tbls b Q e).2 c o J g).2 ((I.base.tbls b Q e).2 c o J g).1⟩
 .obtain⟨m,hn,hl⟩:=I.loc;refine⟨m,ns m hn,λi x v F J e3=>?_⟩;obtain⟨u,r,l⟩:=hl i x v F J e3;refine⟨u,r,?_⟩;rcases l with l|⟨k,c,e,z⟩
  .exact .inl l
  .exact .inr ⟨k,c,e,j x c e _ z⟩
 .obtain⟨v,z⟩:=I.cell x c e;exact⟨v,j x c e v z⟩
 .obtain⟨m,⟨o,_,_,G,_⟩,_⟩:=I.loc;exact free _ o (λz=>(O _ z).2.1 rfl) G I.free
 .obtain⟨v,o,G,Y⟩:=I.cell x c e;exact free c o (λz=>(O c z).2.2.1 x c e rfl) G (I.freeC x c e)
 .obtain⟨e,n,ne,Z,d⟩:=I.pin p hp;have h:p.1∉ch:=λz=>(O p.1 z).2.2.2 p hp rfl;exact⟨keep p.1 p.2 ne Z h e n,free p.1 p.2 h e n,ne,Z,d⟩
def Inv.un{t':Nat}(I:Inv X f w H s)(u:Un X.fs [] H B s.heap h')(a:dy X.prog X.w B h'):Inv X f w B {s with heap:=h',toks:=t'}:=by
 obtain⟨m,⟨o,y,A,h,r⟩,_⟩:=id I.loc;obtain⟨q,p⟩:=u.any h I.free (by simp);exact I.step (g':=s.gens) (d':=s.drawn) (ch:=[]) (λ_ z=>nomatch z) (λb o _ c _ e n=>u.keep b o e n c (by simp)) (λb o _ c _ e n=>u.slot b o e n c (by simp)) (λb o _ e n=>u.free b o e n (by simp)) (λb o _ e=>u.there b o e (by simp)) u.tups u.frzs u.tbls (λx l=>by
  obtain⟨v,d,g,i,j⟩:=l;rw[h]at i;cases i;exact⟨_,d,g,p,j⟩) a I.bare
def Inv.call{g':Array GenState}{t':Nat}{d':Drawn}{ch:List af}(I:Inv X f w H s)(u:Un (fJ X.stack) ch H B s.heap h')(d:dy X.prog X.w B h')(A:nV g')(j:∀b∈ch,(b∈X.ex\/X.s₀.heap.objs.size<=b)/\b≠X.env.locals/\(∀x c,X.env.cells.lookup x=aa c->c≠b)/\∀p∈X.pn++f,p.1≠b):Inv X f w B {s with heap:=h',gens:=g',drawn:=d',toks:=t'}:=by
 obtain⟨m,⟨o,G,J,l,r⟩,_⟩:=id I.loc;obtain⟨D,g⟩:=u.any l I.free λz=>(j _ z).2.1 rfl;exact I.step (ch:=ch) j (λb o g C a e n=>u.keep b o e n (λz=>(cC.mp (I.stkSub b z)).elim g C) a) (λb o _ _ a e n=>u.any e n a) (λb o a e n=>u.free b o e n a) (λb o a e=>u.there b o e a) u.tups u.frzs u.tbls (λF y=>by
  obtain⟨E,h,i,q,v⟩:=y;rw[l]at q;cases q;exact⟨_,h,i,g,v⟩) d A
def Inv.turned{t':Nat}{it:af}(I:Inv X f w H s)(k:∀b o,b≠it->s.heap.get? b=aa o->h'.get? b=aa o)(G:H it=ae)(h:it≠X.env.locals)(D:it∈X.ex\/X.s₀.heap.objs.size<=it) (C:∀x c,X.env.cells.lookup x=aa c->c≠it) (A:∀p∈X.pn++f,p.1≠it):Inv X f w H {s with heap:=h',toks:=t'}:=by
 have d:∀b u,H b=aa u->b≠it:=λb u e z=>by lia
 refine I.step (g':=s.gens) (d':=s.drawn) (ch:=[it]) (λb y=>?_) (λb o _ _ a e _=>k b o (λz=>a (by simp[z])) e) (λb o _ _ a e _=>⟨o.slots,k b o (λz=>a (by simp[z])) e⟩) (λ_ _ _ _ n=>n)
  (λb o a e=>⟨o,k b o (λz=>a (by simp[z])) e⟩) (λ_ _ e=>e) (λ_ _ _ e=>e) (λ_ _ e=>⟨e,λc o i g=>⟨k c o (d c _ i) g,i⟩⟩) (λm l=>?_) (λb u e=>?_) I.bare
 .have e:b=it:= ~~~y
  subst e;exact⟨D,h,C,A⟩
 .obtain⟨o,E,F,j,r⟩:=l;exact⟨o,E,F,k _ o (dj h) j,r⟩
 .refine(I.hok b u e).stay (λc v a q=>k c v ?_ q) (λ_ q=>q) λ_ _ q=>q;lia
def Inv.tok(I:Inv X f w H s)(t:Nat):Inv X f w H {s with toks:=t}:=I.un (h':=s.heap) (t':=t) Un.refl I.hok
def Inv.kept{t':Nat}(I:Inv X f w H s)(k:∀b u,s.heap.get? b=aa u->h'.get? b=aa u):Inv X f w H {s with heap:=h',toks:=t'}:=I.un (Un.kept k) (I.hok.kept k)
def Inv.laid{a:af}{o:HO}{t':Nat}(I:Inv X f w H s)(k:∀b u,s.heap.get? b=aa u->h'.get? b=aa u)(c:s.heap.objs.size<=a)(new:cn X.prog X.w (upd H a o) h' a o):Inv X f w (upd H a o) {s with heap:=h',toks:=t'}:=I.un (Un.laid k c (I.hok.fresh c)) (I.hok.laid k c new)
def Inv.write(I:Inv X f w H s)(c:vy (H x))(d:e=x\/H e=aa (.own x))(k:∀b u,b≠e->s.heap.get? b=aa u->h'.get? b=aa u)(a:∃u,h'.get? e=aa u)(new:cn X.prog X.w (upd H x o) h' x o):Inv X f w (upd H x o) {s with heap:=h',toks:=g}:=I.un (Un.write c d k a) (I.hok.write c d k a new)
def Inv.pins_of(I:Inv X f w H s)(h:∀p∈a,s.heap.get? p.1=aa p.2/\H p.1=ae/\p.1≠X.env.locals/\p.1∉X.fs/\∀v,p.2.data≠.cell v):Inv X a w H s :=⟨I.ok,I.os,I.bare,I.base,I.loc,I.cell,I.free,I.freeC,λp b=>(lj.mp b).elim (λz=>I.pin p (zP _ z)) (h p),I.hok,I.len⟩
def AQ{N:List Str}(c:N.Nodup){i j:Nat}(a:N[i]?=aa x)(b:N[j]?=aa x):i=j:=by obtain⟨l,g⟩:=cP.mp a;obtain⟨h,d⟩:=cP.mp b;exact(List.getElem_inj c).mp (g.trans d.symm)
abbrev av(X:Cx)(x:Str):=X.fn x=ah\/X.env.scope.names.lookup x=aa .local
def Ig{i:Nat}(I:Inv X f w H s)(hN:X.N.Nodup)(Z:X.N[i]?=aa x)(G:Loc X.env.scope x)(r:RelV v u)(h:∀s',Inv X f (w.set i (aa v)) H s'->(∃a,ka a s.heap s'.heap/\(a=X.env.locals\/X.env.cells.lookup x=aa a))->Q () s') (hf:av X x:=by mleft):ar M A (storeName X.env x u) Q E s:=by
 obtain⟨m,hn,hl⟩:=id I.loc;have oy:(X.env.scope.kind == .class||(X.env.scope.kind == .module&&X.env.locals != X.env.globals))=ak:=by rw[I.ok.kind];rfl
 have N:i<w.length:=by rw[I.len];exact(cP.mp Z).1
 have cne:=I.cne;have D:∀{a:af}{h':aB},(∃o,s.heap.get? a=aa o/\H a=ae)->ka a s.heap h'->dy X.prog X.w H h':=λ{a h'} ha C b ob e=>by obtain⟨_,_,KJ⟩:=ha;refine(I.hok b ob e).stay (λc w' J q=>(C.2 c ?_).trans q) (λ_ q=>q) λ_ _ q=>q;lia
 rcases G with T|T
 .refine wpAny_storeName_local T hn (λh' hn' C=>?_) oy;obtain⟨oL,_,_,ki,_⟩:=id hn;refine h _ ⟨I.ok,I.os,I.bare,⟨λb o e n S G=>?_,λb o e n S G=>?_,I.base.free,λb o e G=>?_,I.base.tups,I.base.frzs,λb q e=>⟨(I.base.tbls b q e).1,λc o F g=>⟨(C.2 c (λz=>by have l:=((I.base.tbls b q e).2 c o F g).2;rw[z,I.free]at l;cases l)).trans ((I.base.tbls b q e).2 c o F g).1,((I.base.tbls b q e).2 c o F g).2⟩⟩⟩,⟨_,hn',λj y v' l F e3=>?_⟩,λy c e=>?_,I.free,I.freeC,λp hp=>?_,D ⟨oL,ki,I.free⟩ C,~~~I.len⟩ ⟨_,C,.inl rfl⟩
  .exact(C.2 b (dE (gQ (bH e) I.ok.above))).trans (I.base.keep b o e n S G)
  .obtain⟨sl,l⟩:=I.base.slot b o e n S G;exact⟨sl,(C.2 b (dE (gQ (bH e) I.ok.above))).trans l⟩
  .obtain⟨o',l⟩:=I.base.there b o e G;exact⟨o',(C.2 b (dE (gQ (bH e) I.ok.above))).trans l⟩
  .by_cases O:j=i
   .subst O;rw[Z]at l;cases l;rw[eE N]at F;cases F;exact⟨u,r,.inl ⟨T,by simp⟩⟩
   .rw[cQ (dj O)]at F;obtain⟨u',r',q⟩:=hl j y v' l F e3;refine⟨u',r',?_⟩;rcases q with⟨k,e⟩|⟨k,c,e,z⟩
    .refine .inl ⟨k,?_⟩;have:y≠x:=λe=>O (AQ hN l (e ▸ Z));simp[this,e]
    .exact .inr ⟨k,c,e,z.sameBut C (cne y c e)⟩
  .obtain⟨w',z⟩:=I.cell y c e;exact⟨w',z.sameBut C (cne y c e)⟩
  .obtain⟨e,n,ne,nf,d⟩:=I.pin p hp;exact⟨(C.2 p.1 ne).trans e,n,ne,nf,d⟩
 .have P:X.fn x=ah:=by
   lia
  obtain⟨c,J⟩:=I.ok.has x (.inl T);obtain⟨w',z⟩:=I.cell x c J;refine wpAny_storeName_cell I.ok.kind T J z (λh' kj C=>?_);obtain⟨oc,Y,W⟩:=id z;refine h {s with heap:=h'} ⟨I.ok,I.os,I.bare,⟨λb o e n S G=>?_,λb o e n S G=>?_,I.base.free,λb o e G=>?_,I.base.tups,I.base.frzs,λb q e=>⟨(I.base.tbls b q e).1,λL o F g=>⟨(C.2 L (λz=>by have l:=((I.base.tbls b q e).2 L o F g).2;rw[z,I.freeC x c J]at l;cases l)).trans ((I.base.tbls b q e).2 L o F g).1,((I.base.tbls b q e).2 L o F g).2⟩⟩⟩,⟨m,hn.sameBut C (dj (cne x c J)),λj y v' l F e3=>?_⟩,λy L e=>?_,I.free,I.freeC,λp hp=>?_,D ⟨oc,Y,I.freeC x c J⟩ C,~~~I.len⟩ ⟨c,C,.inr J⟩
  .exact(C.2 b (dE (gQ (bH e) (I.ok.cab x c P J)))).trans (I.base.keep b o e n S G)
  .obtain⟨sl,l⟩:=I.base.slot b o e n S G;exact⟨sl,(C.2 b (dE (gQ (bH e) (I.ok.cab x c P J)))).trans l⟩
  .obtain⟨o',l⟩:=I.base.there b o e G;exact⟨o',(C.2 b (dE (gQ (bH e) (I.ok.cab x c P J)))).trans l⟩
  .by_cases O:j=i
   .subst O;rw[Z]at l;cases l;rw[eE N]at F;cases F;exact⟨u,r,.inr ⟨.inl T,c,J,kj⟩⟩
   .rw[cQ (dj O)]at F;obtain⟨u',r',q⟩:=hl j y v' l F e3;refine⟨u',r',?_⟩;rcases q with q|⟨k,L,e,z'⟩
    .exact .inl q
    .refine .inr ⟨k,L,e,z'.sameBut C ?_⟩;rintro rfl;exact O (AQ hN l (I.ok.inj _ _ _ e J ▸ Z))
  .by_cases hcc:L=c
   .subst hcc;exact⟨_,kj⟩
   .obtain⟨w2,z2⟩:=I.cell y L e;exact⟨w2,z2.sameBut C hcc⟩
  .obtain⟨e,n,ne,nf,d⟩:=I.pin p hp;refine⟨(C.2 p.1 ?_).trans e,n,ne,nf,d⟩;intro q;rw[q,Y]at e;have q':oc=p.2:=f_ e;exact d w' (by rw[<-q'];exact W)
def vV{M:Model}{A:aX}{E:ai->ao->Prop}{i:Nat}{x:Str}{v:V}{u:ai}{Q:Unit->ao->Prop}(I:Inv X f w H s)(d:X.N.Nodup)(b:X.N[i]?=aa x)(a:Loc X.env.scope x)(r:RelV v u)(h:∀s',Inv X f (w.set i (aa v)) H s'->Q () s') (c:av X x:=by mleft):ar M A (storeName X.env x u) Q E s :=Ig I d b a r (λs' g _=>h s' g) c
def Inv.call'{s':ao}(I:Inv X f w H s)(h:s'.os=s.os)(u:Un (fJ X.stack) ch H B s.heap s'.heap)(a:dy X.prog X.w B s'.heap)(i:nV s'.gens)(g:∀b∈ch,(b∈X.ex\/X.s₀.heap.objs.size<=b)/\b≠X.env.locals/\(∀x c,X.env.cells.lookup x=aa c->c≠b)/\∀p∈X.pn++f,p.1≠b):Inv X f w B s':=by obtain⟨h',g',d',t',d⟩:=s';have e:d=s.os:=h;subst e;exact I.call (g':=g') (t':=t') (d':=d') u a i g
end
abbrev XK:=ai->Option af->Hp->Prop
abbrev St:=List (Option V)
abbrev VK:=V->Hp->Prop
abbrev TE:=St->Hp->VK->Prop
abbrev TT:=St->Hp->(Bool->Hp->Prop)->Prop
abbrev TA:=St->Hp->(List V->Hp->Prop)->Prop
structure j4 where
 nx:St->Hp->Prop
 rt:VK
 bk:St->Hp->Prop:=λ_ _=>False
 ct:St->Hp->Prop:=λ_ _=>False
abbrev TS:=j4->St->Hp->Prop
def EP(X:Cx)(d:List (af×Obj))(b:St)(Q:VK)(u:ai)(c:ao):Prop:=∃v a,Inv X d b a c/\RelV v u/\Q v a
def TP(X:Cx)(f:List (af×Obj))(c:St)(Q:Bool->Hp->Prop)(b:Bool)(d:ao):Prop:=∃a,Inv X f c a d/\Q b a
def AP(X:Cx)(g:List (af×Obj))(c:St)(Q:List V->Hp->Prop)(d:List ai)(f:ao):Prop:=∃a b,Inv X g c b f/\bG a d/\Q a b
def SP(X:Cx)(c:List (af×Obj))(D:j4)(f:Flow)(s':ao):Prop :=
 match f with
 |.next=>∃a b,Inv X c a b s'/\D.nx a b
 |.brk=>∃a b,Inv X c a b s'/\D.bk a b
 |.cont=>∃a b,Inv X c a b s'/\D.ct a b
 |.ret u=>∃v a b,Inv X c a b s'/\RelV v u/\D.rt v b
abbrev Cx.zz(X:Cx):=aw X.prog X.w
def PE(X:Cx)(e:aC)(t:TE):Prop :=
 ∀(b:List (af×Obj)) (s:ao) (a:St) (H:Hp) (Q:VK),Inv X b a H s->t a H Q->ar X.zz X.A (a9 e X.env) (EP X b a Q) X.xe s
def PT(X:Cx)(e:aC)(t:TT):Prop :=
 ∀(b:List (af×Obj)) (s:ao) (a:St) (H:Hp) (Q:Bool->Hp->Prop),Inv X b a H s->t a H Q->ar X.zz X.A (nX e X.env (a9 e X.env)) (TP X b a Q) X.xe s
def PW(X:Cx)(e:aC)(t:TT):Prop :=
 ∀(c:Sem ai) (b:List (af×Obj)) (s:ao) (a:St) (H:Hp) (Q:Bool->Hp->Prop),Inv X b a H s->t a H Q->ar X.zz X.A (nX e X.env c) (TP X b a Q) X.xe s
def PA(X:Cx)(d:List aC)(t:TA):Prop :=
 ∀(b:Pos) (c:List (af×Obj)) (s:ao) (a:St) (H:Hp) (Q:List V->Hp->Prop),Inv X c a H s->t a H Q->ar X.zz X.A (spliced (c8 b (aV d X.env))) (AP X c a Q) X.xe s
def PS(X:Cx)(c:bf)(t:TS):Prop :=
 ∀(b:List (af×Obj)) (s:ao) (a:St) (H:Hp) (D:j4),Inv X b a H s->t D a H->ar X.zz X.A (exec c X.env) (SP X b D) X.xe s
def lg(X:Cx)(c:List bf)(t:TS):Prop :=
 ∀(b:List (af×Obj)) (s:ao) (a:St) (H:Hp) (D:j4),Inv X b a H s->t D a H->ar X.zz X.A (execs c X.env) (SP X b D) X.xe s
def aW{b:Type}{t:Sem b}{Q c:b->ao->Prop}{M:Model}{A:aX}{E:ai->ao->Prop}{s:ao}(h:ar M A t Q E s)(d:∀a s,Q a s->c a s):ar M A t c E s:=fh h d λ_ _ x=>x
section
variable{X:Cx}
def II(i:Nat):TE:=λa H Q=>∃v,a[i]?=aa (aa v)/\Q v H
def tC(v:V):TE:=λ_ H Q=>Q v H
abbrev ad(x:Str):=(x==("__debug__":Str))=ak
abbrev az(x:Str):=(x==("__classdict__":Str))=ak
def e_(p:X.N[i]?=aa x)(j:ee X.env.scope x)(d:ad x:=by decide)(q:az x:=by decide):PE X (.Name x f) (II i):=by
 intro w s g H Q I h;obtain⟨v,e,h⟩:=h;obtain⟨m,n,o⟩:=I.loc;obtain⟨u,r,l⟩:=o i x v p e j;have b:EP X w g Q u s:=⟨v,H,I,r,h⟩
 rcases l with⟨a,hm⟩|⟨a,c,hc,Am⟩
 .exact wpAny_Name (wpAny_loadName_local I.ok.kind a n hm b) d
 .rcases a with a|a
  .exact wpAny_Name (wpAny_loadName_cell I.ok.kind a hc Am b) d
  .exact wpAny_Name (wpAny_loadName_free I.ok.kind a hc Am b q) d
def Us{i j f}:PE X (.Constant (.int i) j f) (tC (.int i)):=λ_ _ _ H _ I h=>wpAny_Constant_int ⟨.int i,H,I.tok _,⟨_,rfl⟩,h⟩
def QZ{b j f}:PE X (.Constant (.bool b) j f) (tC (.bl b)):=λ_ _ _ H _ I h=>Constant_bool ⟨.bl b,H,I,rfl,h⟩
def Rf{j f}:PE X (.Constant .none j f) (tC .non):=λ_ _ _ H _ I h=>Constant_none ⟨.non,H,I,rfl,h⟩
def PR{x j f}:PE X (.Constant (.str x) j f) (tC (.str x)):=λ_ _ _ H _ I h=>Calls.Constant_str ⟨.str x,H,I.tok _,⟨_,rfl⟩,h⟩
def Gl(X:Cx)(x:Str):Prop:=X.env.kindOf x=aa .globalImplicit
def tY{E:ai->ao->Prop}{g:List (af×Obj)}{s:ao}{a:St}{H:Hp}{x:Str}{u:ai}{f:Pos}{Q:ai->ao->Prop}(I:Inv X g a H s)(c:Gl X x)(b:X.mg x=aa u)(h:Q u s)(d:ad x:=by decide):ar X.zz X.A (a9 (.Name x f) X.env) Q E s :=Calls.Name_function_global I.ok.kind c (Calls.loadGlobal_global (by rw[I.ok.glob];exact I.mod.glob.keeps I.bk) b h) d
def wd{E:ai->ao->Prop}{m:List (af×Obj)}{s:ao}{a:St}{H:Hp}{x:Str}{u:ai}{f:Pos}{Q:ai->ao->Prop}(I:Inv X m a H s)(g:Gl X x)(d:X.mg x=ae)(b:fA x=aa u)(h:Q u s)(c:x≠"__name__":=by decide) (i:ad x:=by decide):ar X.zz X.A (a9 (.Name x f) X.env) Q E s:=by obtain⟨n,l,j⟩:=I.mod.blt;exact Calls.Name_function_global I.ok.kind g (Calls.loadGlobal_builtin (by rw[I.ok.glob];exact I.mod.glob.keeps I.bk) d (by rw[I.ok.blt];exact l.keeps I.bk) ((j x c).trans b) h) i
def B_(b:Gl X x)(a:X.mg x=aa u)(r:RelV v u)(c:ad x:=by decide):PE X (.Name x f) (tC v) :=λ_ _ _ H _ I h=>tY I b a ⟨v,H,I,r,h⟩ c
def O9(d:Gl X x)(c:X.mg x=ae)(a:fA x=aa u)(r:RelV v u)(b:x≠"__name__":=by decide)(g:ad x:=by decide):PE X (.Name x f) (tC v) :=λ_ _ _ H _ I h=>wd I d c a ⟨v,H,I,r,h⟩ b g
variable{a b:aC}{g p:TE}{f:Pos}
def PC(X:Cx)(j:CmpOp)(a b:aC)(t:TE):Prop :=
 ∀(i:List (af×Obj)) (s:ao) (h:St) (H:Hp) (Q:VK),Inv X i h H s->t h H Q ->
  ar X.zz X.A (a9 a X.env) (λv d=>ar X.zz X.A (a9 b X.env) (λu c=>ar X.zz X.A (eF j v u) (EP X i h Q) X.xe c) X.xe d) X.xe s
def UD(b:aC){c:CmpOp}(h:c≠.In)(j:c≠.NotIn):qT c b=ak:=by
 have i:(c == CmpOp.In)=ak:=by lia
 have d:(c == CmpOp.NotIn)=ak:=by lia
 cases b <;> simp[qT,i,d]
def tB(t:TE):TT:=λd H Q=>t d H λx h=>∃c,x=.bl c/\Q c h
def Tl{i:CmpOp}{t:TE}(h:PC X i a b t)(j:qT i b=ak:=by first|exact UD _ (by decide) (by decide)|rfl):PT X (.Compare a [i] [b] f) (tB t):=by
 intro w s l H Q I o;refine wpAny_isTrue_Compare1 (aW (h w s l H _ I o) λv C j=>aW j λu B r=>aW r λc A ⟨x,z,y,m,n⟩=>?_) j;obtain⟨d,rfl,q⟩:=n;cases m;exact ph ⟨z,y,q⟩
def SN{e:aC}{t:TE}(h:PE X e t)(n:∀c,nX e X.env c=(do let v <-c;standAt e.pos;kb [v] (truthy v)):=by intro _;rfl):PT X e (tB t):=by
 intro o s i H Q I m;refine isTrue_plain (aW (h o s i H _ I m) λv w ⟨x,u,r,j,l⟩=>?_) (n _);obtain⟨d,rfl,q⟩:=l;cases j;exact ph ⟨u,r,q⟩
variable{n o:TT}{rest:List aC}
def Le(t u:TT):TT:=λd H Q=>t d H λc h=>if c=ah then u d h Q else Q ak h
def Md(t u:TT):TT:=λd H Q=>t d H λc h=>if c=ah then Q ah h else u d h Q
def T_(t:TT):TT:=λd H Q=>t d H λc h=>Q (!c) h
def QY(i:PT X a n):PW X (.BoolOp .And [a] f) n:=by
 intro l j s d H Q I h;refine isTrue_and (aW (i j s d H Q I h) λc m e=>?_);cases c with
 |true=>exact isTrue_and_nil e
 |false=>exact e
def Pj(i:PT X a n):PW X (.BoolOp .Or [a] f) n:=by
 intro l j s d H Q I h;refine isTrue_or (aW (i j s d H Q I h) λc m e=>?_);cases c with
 |false=>exact isTrue_or_nil e
 |true=>exact e
def O_(v:PT X a n)(u:PW X (.BoolOp .And (b::rest) f) o):PW X (.BoolOp .And (a::b::rest) f) (Le n o):=by
 intro q j s d H Q I h;refine isTrue_and (aW (v j s d H _ I h) λc r ⟨m,l,i⟩=>?_);cases c with
 |true=>exact u q j r d m Q l i
 |false=>exact⟨m,l,i⟩
def Q9(v:PT X a n)(u:PW X (.BoolOp .Or (b::rest) f) o):PW X (.BoolOp .Or (a::b::rest) f) (Md n o):=by
 intro q j s d H Q I h;refine isTrue_or (aW (v j s d H _ I h) λc r ⟨m,l,i⟩=>?_);cases c with
 |true=>exact⟨m,l,i⟩
 |false=>exact u q j r d m Q l i
def Nm(i:PT X a n):PT X (.UnaryOp .Not a f) (T_ n):=by intro j s d H Q I h;exact isTrue_not (i j s d H (λc l=>Q (!c) l) I h)
def Nd(g p:TE):TE:=λd H Q=>g d H λx h=>∃c,x=.bl c/\if c=ah then p d h Q else Q (.bl ak) h
def Ql(g:TE):TE:=λd H Q=>g d H λx h=>∃c,x=.bl c/\Q (.bl (!c)) h
def Ol{op}(h:PE X a t):PE X (.BoolOp op [a] f) t:=λi s c H Q I d=>BoolOp_one (h i s c H Q I d)
def Lp(w:PE X a g)(u:PE X (.BoolOp .And (b::rest) f) p):PE X (.BoolOp .And (a::b::rest) f) (Nd g p):=by
 intro j s i H Q I h;refine BoolOp_and (aW (w j s i H _ I h) λv q ⟨x,m,l,r,d⟩=>?_);obtain⟨c,rfl,d⟩:=d;cases r;refine ph ?_;cases c with
 |true=>exact u j q i m Q l d
 |false=>exact⟨.bl ak,m,l,rfl,d⟩
def Tf(l:PE X a g):PE X (.UnaryOp .Not a f) (Ql g):=by
 intro m s i H Q I h;refine UnaryOp_ (aW (l m s i H _ I h) λv u ⟨x,r,q,j,d⟩=>?_);obtain⟨c,rfl,d⟩:=d;cases j;exact not_of (ph ⟨.bl (!c),r,q,rfl,d⟩)
def Px(t:TT)(g p:TE):TE:=λd H Q=>t d H λc h=>if c=ah then g d h Q else p d h Q
def Pd{c:aC}(u:PT X c n)(w:PE X a g)(v:PE X b p):PE X (.IfExp c a b f) (Px n g p):=by
 intro j s i H Q I h;refine wpAny_IfExp (aW (u j s i H _ I h) λd l ⟨r,q,m⟩=>?_);cases d with
 |true=>exact w j l i r Q q m
 |false=>exact v j l i r Q q m
end
def cF(K:ax)(H:Hp)(a:af)(xs:List V):Prop :=
 Rd H a (.lst xs) \/
  ∃(o:Obj) (b:Array ai) (n:Nat),K.lookup a=aa o/\o.cls=.type "list"/\o.dict=ae/\o.data=.seq b n/\b.size<=bo/\bG xs b.toList
def cu(K:ax)(H:Hp)(a:af)(xs:List V):Prop :=
 Rd H a (.tup xs) \/
  ∃(o:Obj) (b:Array ai) (n:Nat),K.lookup a=aa o/\o.cls=.type "tuple"/\o.data=.seq b n/\b.size<=bo/\bG xs b.toList
def U7:ai->Option V
 |.none=>aa .non
 |.bool b=>aa (.bl b)
 |.int i _=>aa (.int i)
 |.str x _=>aa (.str x)
 |.bytes b _=>aa (.byt b)
 |.float b _=>aa (.flt b)
 |.ref a=>aa (.ref a)
 |.type n=>aa (.ty n)
 |_=>ae
def RelV.abs(r:RelV x u):U7 u=aa x:=by
 cases x with
 |non=>cases r;rfl
 |bl _=>cases r;rfl
 |int _=>obtain⟨t,rfl⟩:=r;rfl
 |str _=>obtain⟨t,rfl⟩:=r;rfl
 |byt _=>obtain⟨t,rfl⟩:=r;rfl
 |flt _=>obtain⟨t,rfl⟩:=r;rfl
 |ref _=>cases r;rfl
 |ty _=>cases r;rfl
def RelV.inj{x y:V}{u:ai}(r:RelV x u)(q:RelV y u):x=y:=f_ (r.abs.symm.trans q.abs)
def bG.inj:∀{xs a:List V}{b:List ai},bG xs b->bG a b->xs=a
 |_,_,_,.nil,.nil=>rfl
 |_,_,_,.cons r t,.cons d c=>by rw[r.inj d,bG.inj t c]
section
variable{X:Cx}{g:List (af×Obj)}{c:St}{H:Hp}{s:ao}{a:af}{b f:List V}
def cF.of{K:ax}(h:H a=aa (.lst b)):cF K H a b:=.inl (.inl h)
def cu.of{K:ax}(h:H a=aa (.tup b)):cu K H a b:=.inl (.inl h)
def Inv.list(I:Inv X g c H s)(h:cF X.K H a b):∃its:List ai,bG b its/\PlainL s.heap a its.toArray/\b.length<=bo:=by
 rcases h with h|⟨o,its,n,i,l,j,d,m,r⟩
 .obtain⟨z,its,n,r,e⟩:=h.ok I.hok;exact⟨its,r,⟨_,n,e,rfl,rfl,rfl⟩,z⟩
 .refine⟨its.toList,r,⟨o,n,I.kIn a o i,l,j,~~~d⟩,?_⟩;have e:=r.length
  grind
def Inv.tuple(I:Inv X g c H s)(h:cu X.K H a b):∃d:List ai,bG b d/\IsTup s.heap a d.toArray/\b.length<=bo:=by
 rcases h with h|⟨o,d,n,j,l,i,m,r⟩
 .obtain⟨z,d,r,p,_⟩:=h.ok I.hok;exact⟨d,r,p,z⟩
 .refine⟨d.toList,r,⟨o,I.kIn a o j,l,n,~~~i⟩,?_⟩;have e:=r.length;simp only[iP]at e;lia
def Inv.list_inj(I:Inv X g c H s)(h:cF X.K H a b)(q:cF X.K H a f):b=f:=by
 obtain⟨j,r,⟨o,n,e,_,_,d⟩,_⟩:=I.list h;obtain⟨i,p,⟨u,v,l,_,_,m⟩,_⟩:=I.list q;rw[e]at l;cases l;rw[d]at m;injection m with d1 _;have:j=i:=by lia
 subst this;exact r.inj p
def Inv.tuple_inj(I:Inv X g c H s)(h:cu X.K H a b)(q:cu X.K H a f):b=f:=by
 obtain⟨j,r,⟨o,e,_,n,d⟩,_⟩:=I.tuple h;obtain⟨i,p,⟨u,l,_,v,m⟩,_⟩:=I.tuple q;rw[e]at l;cases l;rw[d]at m;injection m with d1 _;have:j=i:=by lia
 subst this;exact r.inj p
end
abbrev Cx.wish(X:Cx)(E:ai->ao->Prop):Cx:={X with xe:=E}
abbrev Cx.nox(X:Cx):Cx:=X.wish λ_ _=>False
def Cx.Ok.wish{X:Cx}(ok:X.Ok)(E:ai->ao->Prop):(X.wish E).Ok :=⟨ok.mod,ok.kind,ok.glob,ok.blt,ok.above,ok.inj,ok.has,ok.cab,ok.hd,ok.frames,ok.stk,ok.exf,ok.bs,ok.bsz,ok.noex,ok.exfs,ok.funs,ok.frf,ok.tab⟩
def Cx.Ok.unwish{X:Cx}(ok:(X.wish E).Ok):X.Ok :=⟨ok.mod,ok.kind,ok.glob,ok.blt,ok.above,ok.inj,ok.has,ok.cab,ok.hd,ok.frames,ok.stk,ok.exf,ok.bs,ok.bsz,ok.noex,ok.exfs,ok.funs,ok.frf,ok.tab⟩
section
variable{X:Cx}{a:List (af×Obj)}{b:St}{H:Hp}{s:ao}{E:ai->ao->Prop}
def Inv.wish(I:Inv X a b H s)(E:ai->ao->Prop):Inv (X.wish E) a b H s:=⟨I.ok.wish E,I.os,I.bare,I.base,I.loc,I.cell,I.free,I.freeC,I.pin,I.hok,I.len⟩
def Inv.unwish(I:Inv (X.wish E) a b H s):Inv X a b H s:=⟨I.ok.unwish,I.os,I.bare,I.base,I.loc,I.cell,I.free,I.freeC,I.pin,I.hok,I.len⟩
def SP.unwish(h:SP (X.wish E) a D f g):SP X a D f g:=by
 cases f with
 |next=>obtain⟨c,d,I,q⟩:=h;exact⟨c,d,I.unwish,q⟩
 |brk=>obtain⟨c,d,I,q⟩:=h;exact⟨c,d,I.unwish,q⟩
 |cont=>obtain⟨c,d,I,q⟩:=h;exact⟨c,d,I.unwish,q⟩
 |ret u=>obtain⟨v,c,d,I,r,q⟩:=h;exact⟨v,c,d,I.unwish,r,q⟩
end
section
variable{X:Cx}{j:bf}{rest:List bf}{t u:TS}{e:aC}{i:TE}{g:Pos}
def OF:TS:=λD a H=>D.nx a H
def Nj(t u:TS):TS:=λD a H=>t {D with nx:=u D} a H
def MP:lg X [] OF:=λ_ _ a H _ I h=>wy ⟨a,H,I,h⟩
def LF(m:PS X j t)(l:lg X rest u):lg X (j::rest) (Nj t u):=by
 intro b s c H D I h;refine JF (aW (m b s c H {D with nx:=u D} I h) λf d q=>?_);cases f with
 |next=>obtain⟨a,o,n,q⟩:=q;exact l b d a o D n q
 |ret v=>exact q
 |brk=>exact q
 |cont=>exact q
def MJ(b:PS X j t):lg X [j] t:=by
 intro c s a H D I h;refine JF (aW (b c s a H D I h) λf d q=>?_);cases f with
 |next=>exact wy q
 |ret v=>exact q
 |brk=>exact q
 |cont=>exact q
def Inv.quiet{b:List (af×Obj)}{a:St}{H:Hp}{s:ao}(I:Inv X b a H s):interactive X.env=ak:=by simp[interactive,I.ok.kind]
def QE(i:TE):TS:=λD a H=>i a H λ_ b=>D.nx a b
def B0(d:PE X e i)(c:jr e ae g.line X.env=pure ak:=by rfl):PS X (.Expr e g) (QE i):=by intro f s a H D I h;exact wpAny_Expr_any (aW (d f s a H _ I h) λv n ⟨x,m,l,o,b⟩=>⟨a,m,l,b⟩) I.quiet c
def Qc(i:TE):TS:=λD a H=>i a H D.rt
def yu(d:PE X e i):PS X (.Return (aa e) g) (Qc i):=by intro f s a H D I h;exact wpAny_Return_some (aW (d f s a H _ I h) λv n ⟨x,m,l,b,c⟩=>⟨x,a,m,l,b,c⟩)
def Uy(c:TT)(t u:TS):TS:=λD a H=>c a H λb d=>if b=ah then t D a d else u D a d
def Ul{c:aC}{a b:List bf}{m:TT}(r:PT X c m)(w:lg X a t)(v:lg X b u):PS X (.If c a b g) (Uy m t u):=by
 intro l s f H D I h;refine wpAny_If (aW (r l s f H _ I h) λd n ⟨q,p,o⟩=>?_);cases d with
 |true=>exact w l n f q D p o
 |false=>exact v l n f q D p o
end
abbrev TG:=V->St->Hp->(St->Hp->Prop)->Prop
abbrev qy:=List V->St->Hp->(St->Hp->Prop)->Prop
def PG(X:Cx)(a:aC)(t:TG):Prop :=
 ∀(d:List (af×Obj)) (s:ao) (c:St) (H:Hp) (v:V) (u:ai) (Q:St->Hp->Prop),Inv X d c H s->RelV v u->t v c H Q ->
  ar X.zz X.A (mJ a X.env u) (λ_ s'=>∃b f,Inv X d b f s'/\Q b f) X.xe s
def yr(X:Cx)(h:List aC)(t:qy):Prop :=
 ∀(f:List (af×Obj)) (s:ao) (b:St) (H:Hp) (c:List V) (d:List ai) (Q:St->Hp->Prop),Inv X f b H s->bG c d->t c b H Q ->
  ar X.zz X.A (assignInOrder ((qU h X.env).map (·.2)) d) (λ_ i=>∃a g,Inv X f a g i/\Q a g) X.xe s
abbrev Cn:=V->V->V->Hp->(Hp->Prop)->Prop
def HJ(X:Cx)(t:Cn):Prop :=
 ∀(d:List (af×Obj)) (s:ao) (a:St) (H:Hp) (o i v:V) (b c u:ai) (Q:Hp->Prop),Inv X d a H s->RelV o b->RelV i c->RelV v u->t o i v H Q ->
  ar X.zz X.A (setItem b c u) (λ_ g=>∃f,Inv X d a f g/\Q f) X.xe s
section
variable{X:Cx}{d:Pos}
def Fh(i:Nat):TG:=λv a H Q=>Q (a.set i (aa v)) H
def qN(f:X.N.Nodup)(b:X.N[i]?=aa x)(a:Loc X.env.scope x)(c:av X x:=by mleft):PG X (.Name x d) (Fh i):=by intro m s j H v u Q I r h;exact wpAny_assign_Name (vV I f b a r (λl g=>⟨_,H,g,h⟩) c)
def bY:qy:=λb a H Q=>b=[]/\Q a H
def Qb(t:TG)(u:qy):qy:=λc b H Q=>∃v r,c=v::r/\t v b H λa f=>u r a f Q
def HS:yr X [] bY:=by
 intro f s a H b c Q I r h;obtain⟨e,h⟩:=h;subst e;cases r;exact assignInOrder_nil ⟨a,H,I,h⟩
def zG{e:aC}{a:List aC}{t:TG}{u:qy}(n:PG X e t)(m:yr X a u)(l:(qU (e::a) X.env).map (·.2)=mJ e X.env::(qU a X.env).map (·.2):=by rfl):yr X (e::a) (Qb t u):=by
 intro c s f H w y Q I r h;obtain⟨v,x,o,h⟩:=h;subst o;cases r with
 |cons r i=>rw[l];refine assignInOrder_cons (aW (n c s f H _ _ _ I r h) λ_ g ⟨b,q,p,j⟩=>?_);exact m c g b q _ _ Q p i j
def Sj(K:ax)(n:Nat)(t:qy):TG:=λv b H Q=>∃a xs,v=.ref a/\cu K H a xs/\xs.length=n/\t xs b H Q
def HZ(y:X.calm=ah)(h:yr X c t)(w:(qU c X.env).length=n:=by rfl) (B:(qU c X.env).findIdx? (·.1)=ae:=by rfl):PG X (.Tuple c k d) (Sj X.K n t):=by
 intro j s g H v u Q I r f;obtain⟨a,xs,A,q,x,f⟩:=f;subst A;cases r;obtain⟨l,i,p,D⟩:=I.tuple q;refine assign_Tuple_tuple (I.ok.hd y) p (by simp[w,<-x,i.length]) B λz m=>?_;have C:Inv X j g H {s with heap:=z}:=I.kept (t':=s.toks) λb o e=>m b o (dE (bH e)) e;exact h j _ g H xs _ Q C (~~~i) f
def TC(b c:TE)(t:Cn):TG:=λv a H Q=>b a H λo h=>c a h λi g=>t o i v g λf=>Q a f
def EK{o i:aC}{g j:TE}{t:Cn}(B:PE X o g)(C:PE X i j)(A:HJ X t)(D:∀v,mJ (.Subscript o i d) X.env v=(do
   let a <-kb [v] (a9 o X.env)
   let b <-kb [v,a] (a9 i X.env)
   standAt d
   kb [v,a,b] (setItem a b v)
   release [v,a,b] []):=by intro _;rfl):PG X (.Subscript o i d) (TC g j t):=by
 intro f s c H v u Q I r h;rw[D];refine aq (iQ (aW (B f s c H _ I h) λa m ⟨x,M,G,p,z⟩=>?_));refine aq (iQ (aW (C f m c M _ G z) λb l ⟨y,L,F,n,w⟩=>?_));refine aq (wpAny_standAt (aq (iQ (aW (A f l c L x y v a b u _ F p n r w) λ_ N ⟨J,E,q⟩=>?_))));exact wpAny_release ⟨c,J,E,q⟩
def FS(b:TE)(g:TG):TS:=λD a H=>b a H λx c=>g x a c D.nx
def By{a e:aC}{c:TE}{g:TG}(p:PE X e c)(o:PG X a g)(n:De [a] e d.line X.env=pure ak:=by rfl)(m:Df [a] e X.env=pure ae:=by rfl)(r:(qU [a] X.env).map (·.2)=[mJ a X.env]:=by rfl):PS X (.Assign [a] e d) (FS c g):=by intro f s b H D I h;refine wpAny_Assign_stores (aW (p f s b H _ I h) λv i ⟨x,w,u,j,l⟩=>?_) n m;rw[r];exact aW (o f i b w x v _ u j l) λ_ y q=>q
def CY{i:Nat}{x:Str}{e:aC}{b:TE}{a:Pos}(p:X.N.Nodup)(m:X.N[i]?=aa x)(j:Loc X.env.scope x)(o:PE X e b)(l:jr e (aa (.Name x a)) d.line X.env=pure ak:=by rfl)(n:av X x:=by mleft):PS X (.Assign [.Name x a] e d) (FS b (Fh i)):=by intro q s c H D I h;refine wpAny_Assign_Name (aW (o q s c H _ I h) λv A ⟨y,w,u,f,g⟩=>?_) l;exact vV u p m j f (λz r=>⟨_,w,r,g⟩) n
def NL(c:TT)(j:TS):TS:=λD a H=>∃W:Nat->St->Hp->Prop,(∃m,W m a H)/\∀m a H,W m a H ->
 c a H λb h=>if b=ah then ∃N:St->Hp->Prop,(∀f i,N f i->∃g,g<m/\W g f i)/\j {D with nx:=N,ct:=N,bk:=D.nx} a h else D.nx a h
def TN{c:aC}{i:List bf}{z:TT}{A:TS}(B:wz X.zz X.A X.env X.xe)(Y:PT X c z)(Z:lg X i A):PS X (.While c i [] d) (NL z A):=by
 intro x s L H D I h;obtain⟨W,⟨T,O⟩,l⟩:=h;refine wpAny_While (codeAny_whileLoop (λn S=>∃j J,Inv X x j J S/\W n j J) ?_ T ⟨L,H,I,O⟩);rintro n Q ⟨g,G,I1,M⟩;refine t8 B (aW (Y x Q g G _ I1 (l n g G M)) λb P ⟨F,E,p⟩=>?_);cases b with
 |true=>
  obtain⟨N,C,p⟩:=p;rw[if_pos rfl];refine t8 B (aW (Z x P g F _ E p) λf s3 o=>?_);cases f with
  |next=>obtain⟨a,m,y,r⟩:=o;obtain⟨u,w,q⟩:=C a m r;exact⟨u,w,a,m,y,q⟩
  |cont=>obtain⟨a,m,y,r⟩:=o;obtain⟨u,w,q⟩:=C a m r;exact⟨u,w,a,m,y,q⟩
  |brk=>exact o
  |ret v=>exact o
 |false=>rw[if_neg gb];exact wy ⟨g,F,E,p⟩
end
structure It where
 go:Nat->Hp->Prop
 yld:Nat->Hp->V->Hp->Prop
 stop:Nat->Hp->Prop
def lR(X:Cx)(a:List (af×Obj))(H:Hp)(b:af):Prop :=
 H b=ae/\b≠X.env.locals/\b∉X.fs/\(b∈X.ex\/X.s₀.heap.objs.size<=b)/\(∀x c,X.env.cells.lookup x=aa c->c≠b)/\∀p∈X.pn++a,p.1≠b
def Inv.fpOk{X:Cx}{d:List (af×Obj)}{g:St}{H f:Hp}{s:ao}{b:af}(I:Inv X d g H s)(a:s.heap.objs.size<=b)(i:f b=ae):lR X d f b:=by
 refine⟨i,t9 (gQ I.lt a),I.nofs a,.inr (c7 I.sz a),λx c e z=>?_,λp h z=>?_⟩
 .obtain⟨v,q⟩:=I.cell x c e;exact absurd (gQ q.lt (by rw[z];exact a)) (jq _)
 .exact absurd (gQ (bH (I.pin p h).1) (by rw[z];exact a)) (jq _)
structure qh(P:aQ)(w:aJ)(K:ax)(tg:aC)(J:It)(fp:List af)(it:af)(tn:Nat->aB->Prop):Prop where
 mem:it∈fp
 obj:∀i h,tn i h->∀b∈fp,∃o,h.get? b=aa o/\∀v,o.data≠.cell v
 keep:∀i h h',tn i h->(∀b∈fp,∀o,h.get? b=aa o->h'.get? b=aa o)->tn i h'
 item:∀(X:Cx),X.prog=P->X.w=w->X.K=K->X.calm=ah->∀(i:Nat) (ag:List (af×Obj)) (s:ao) (σ:St) (H:Hp) (E:ai->ao->Prop),Inv X ag σ H s->(∀b∈fp,lR X ag H b)->tn i s.heap->J.go i H ->
  ar (aw P w) X.A (mK (.ref it)) (λr s1=>∃u,r=aa u /\ ar (aw P w) X.A (Dg tg (.ref it) u) (λ_ s2=>∃x H',Inv X ag σ H' s2/\RelV x u/\J.yld i H x H'/\tn (i+1) s2.heap/\∀b∈fp,H' b=ae) E s1) E s
 done:∀(X:Cx),X.prog=P->X.w=w->X.K=K->X.calm=ah->∀(i:Nat) (ag:List (af×Obj)) (s:ao) (σ:St) (H:Hp) (E:ai->ao->Prop),Inv X ag σ H s->(∀b∈fp,lR X ag H b)->tn i s.heap->J.stop i H ->
  ar (aw P w) X.A (mK (.ref it)) (λr s1=>r=ae/\Inv X ag σ H s1) E s
 self:∀(A:aX) (i:Nat) (s:ao) (Q:ai->ao->Prop) (E:ai->ao->Prop),tn i s.heap->Q (.ref it) s->ar (aw P w) A (nY (.ref it)) Q E s
abbrev TI:=St->Hp->(It->Hp->Prop)->Prop
def yi(X:Cx)(i:List (af×Obj))(j:St)(l:aC)(R:It->Hp->Prop)(a:ai)(f:ao):Prop :=
 ∃(g:af) (h:List af) (d:Nat->aB->Prop) (J:It) (c:Hp),a=.ref g/\Inv X i j c f/\qh X.prog X.w X.K l J h g d/\d 0 f.heap/\(∀b∈h,lR X i c b)/\R J c
def PI(X:Cx)(f a:aC)(d:TI):Prop :=
 ∀(c:List (af×Obj)) (s:ao) (b:St) (H:Hp) (R:It->Hp->Prop),Inv X c b H s->d b H R ->
  ar X.zz X.A (a9 a X.env) (λv g=>ar X.zz X.A (nY v) (yi X c b f R) X.xe g) X.xe s
def u7{s:ao}(f:s.heap.get? d=aa o)(j:o.cls=.type n)(i:o.data=.fields b)(g:["enumerate","zip","dict_itemiterator","dict_reverseitemiterator","odict_iterator","itertools.zip_longest","itertools.pairwise"].contains n=ak) (a:Q () s):ar M A (Dg c (.ref d) u) Q E s:=by
 unfold Dg;cases c <;> first
  |exact aF a
  | (cases u <;> first
    |exact aF a
    | (refine aq (wpAny_load f ?_)
       rw[j,i];show ar M A (if(["enumerate","zip","dict_itemiterator","dict_reverseitemiterator","odict_iterator","itertools.zip_longest","itertools.pairwise"].contains n&&b[0]? == aa (dq _))=ah then _ else _) Q E s;rw[if_neg (by intro h;rw[g,Bool.false_and]at h;cases h)];exact aF a))
def AT(K:ax)(a:af):It :=⟨λi H=>∃xs x,cF K H a xs/\xs[i]?=aa x,λi H x b=>b=H/\∀xs,cF K H a xs->xs[i]?=aa x,λi H=>∃xs,cF K H a xs/\xs.length<=i⟩
def Cj(K:ax)(a:af):It :=⟨λi H=>∃xs x,cu K H a xs/\xs[i]?=aa x,λi H x b=>b=H/\∀xs,cu K H a xs->xs[i]?=aa x,λi H=>∃xs,cu K H a xs/\xs.length<=i⟩
def yT(a:Int)(n:Nat):It:=⟨λi _=>i<n,λi H x b=>b=H/\x=.int (a+i),λi _=>n<=i⟩
def Qu{P:aQ}{w:aJ}{K:ax}{N:aC}(a g:af):qh P w K N (AT K a) [g] g (λi h=>h.IsListIter g a i) where
 mem:=by simp
 obj:=λi h f b j=>by
  have e:b=g:= ~~~j
  subst e;obtain⟨o,e,c,d⟩:=f
  grind
 keep:=λi h n f k=>f.at λo e=>k g (by simp) o e
 item:=by intro X A y B J i L s G H E I m f z;subst A y B;obtain⟨xs,x,l,v⟩:=z;obtain⟨r,q,p,Q⟩:=I.list l;obtain⟨u,T,O⟩:=q.get v;obtain⟨F,D,f2,f3,f4,C⟩:=m g (by simp);refine wpAny_pyNext_list_item f p.isList (x:=u) (~~~T) λn M sb=>?_;have Y:Inv X L G H {s with heap:=n}:=I.turned (t':=s.toks) (λb o j e=>(sb.2 b j).trans e) F D f3 f4 C;obtain⟨o,e,c,d⟩:=id M;exact⟨u,rfl,u7 (s:={s with heap:=n}) e c d (by decide) ⟨x,H,Y,O,⟨rfl,λZ S=>by rw[I.list_inj S l];exact v⟩,M,λb j=>(m b j).1⟩⟩
 done:=by intro X A y B J i L s G H E I m f z;subst A y B;obtain⟨xs,l,v⟩:=z;obtain⟨r,q,p,Q⟩:=I.list l;obtain⟨F,D,f2,f3,f4,C⟩:=m g (by simp);have hl:=q.length;exact wpAny_pyNext_list_end (I.ok.hd J) f p.isList (by simp;lia) λn W=>⟨rfl,I.turned (t':=s.toks) (λb o j e=>W b o j e) F D f3 f4 C⟩
 self:=λ_ _ _ _ _ f h=>wpAny_pyIter_listiter f h
def Ti{P:aQ}{w:aJ}{K:ax}{N:aC}(a j:af):qh P w K N (Cj K a) [j] j (λi h=>h.IsTupleIter j a i) where
 mem:=by simp
 obj:=λi h f b l=>by
  have e:b=j:= ~~~l
  subst e;obtain⟨o,e,c,d⟩:=f
  grind
 keep:=λi h q f k=>f.at λo e=>k j (by simp) o e
 item:=by intro X A y B J i L s G H E I n f z;subst A y B;obtain⟨xs,x,m,v⟩:=z;obtain⟨g,r,p,Q⟩:=I.tuple m;obtain⟨u,T,O⟩:=r.get v;obtain⟨F,D,f2,f3,f4,C⟩:=n j (by simp);refine wpAny_pyNext_tuple_item f (show s.heap.IsTuple a g.toArray from p) (x:=u) (~~~T) λq M sb=>?_;have Y:Inv X L G H {s with heap:=q}:=I.turned (t':=s.toks) (λb o l e=>(sb.2 b l).trans e) F D f3 f4 C;obtain⟨o,e,c,d⟩:=id M;exact⟨u,rfl,u7 (s:={s with heap:=q}) e c d (by decide) ⟨x,H,Y,O,⟨rfl,λZ S=>by rw[I.tuple_inj S m];exact v⟩,M,λb l=>(n b l).1⟩⟩
 done:=by intro X A y B J i L s G H E I n f z;subst A y B;obtain⟨xs,m,v⟩:=z;obtain⟨g,r,p,Q⟩:=I.tuple m;obtain⟨F,D,f2,f3,f4,C⟩:=n j (by simp);have hl:=r.length;exact wpAny_pyNext_tuple_end (I.ok.hd J) f (show s.heap.IsTuple a g.toArray from p) (by simp;lia) λq W=>⟨rfl,I.turned (t':=s.toks) (λb o l e=>W b o l e) F D f3 f4 C⟩
 self:=λ_ _ _ _ _ f h=>wpAny_pyIter_tupleiter f h
def O0{P:aQ}{w:aJ}{K:ax}{D:aC}(c:af)(f:Int)(n:Nat):qh P w K D (yT f n) [c] c (λi h=>IsRangeIter h c (f+(i:Nat)*1) ((n:Int)-(i:Nat)) 1) where
 mem:=by simp
 obj:=λi h a b d=>by
  grind
 keep:=λi h j a k=>k c (by simp) _ a
 item:=by intro X q l r p i B s z H E I g a m;subst q l r;obtain⟨y,x,f2,f3,f4,u⟩:=g c (by simp);have W:=Walks.range (prog:=X.prog) (w:=X.w) (I.ok.hd p) c f 1 n;refine W.item i s _ _ m a λv j A G C F=>?_;obtain⟨t,rfl⟩:=G;have L:Inv X B z H {s with heap:=j,toks:=A}:=I.turned (λb o d e=>F b o (~~~d) e) y x f3 f4 u;refine⟨_,rfl,u7 (s:={s with heap:=j,toks:=A}) (n:="range_iterator") C rfl rfl (by decide) ⟨.int (f+i),H,L,⟨t,?_⟩,⟨rfl,rfl⟩,C,λb d=>(g b d).1⟩⟩;rw[Int.mul_one]
 done:=by intro X q l r p i B s z H E I g a m;subst q l r;obtain⟨y,x,f2,f3,f4,u⟩:=g c (by simp);exact wpAny_pyNext_range_end (I.ok.hd p) a (by have:n<=i:=m;lia) λj J=>⟨rfl,I.turned (t':=s.toks) (λb o d e=>J b o d e) y x f3 f4 u⟩
 self:=λ_ _ _ _ _ a h=>wpAny_pyIter_rangeiter a h
section
variable{X:Cx}{c:aC}
def LH{h:List (af×Obj)}{f:St}{H:Hp}{s:ao}{R:It->Hp->Prop}{E:ai->ao->Prop}{a d:Int}{t u v:Tok}{g:Nat}(I:Inv X h f H s)(p:-(2^62)<=a)(n:a<2^62)(m:-(2^62)<=d)(l:d<2^62)(q:R (yT a (d-a).toNat) H):ar X.zz X.A (nY (.ref s.heap.objs.size)) (yi X h f c R) E {s with heap:=s.heap.push {cls:=.type "range",data:=.fields #[.int a t,.int d u,.int 1 v]},toks:=g}:=by
 refine wpAny_pyIter_range (IsRange.new ..) (small_one p n m l) ?_;have i:Inv X h f H {s with heap:=s.heap.push {cls:=.type "range",data:=.fields #[.int a t,.int d u,.int 1 v]},toks:=g}:=I.kept λb o e=>bL _ e;refine⟨(s.heap.push {cls:=.type "range",data:=.fields #[.int a t,.int d u,.int 1 v]}).objs.size,[(s.heap.push {cls:=.type "range",data:=.fields #[.int a t,.int d u,.int 1 v]}).objs.size],_,_,H,rfl,i.kept (t':=g) λb o e=>bL _ e,O0 _ a (d-a).toNat,?_,λb j=>?_,q⟩
 .have w:a+((0:Nat):Int)*1=a:=by simp
  have r:(((d-a).toNat:Nat):Int)-((0:Nat):Int)=Builtin.Range.rangeSize a d 1:=by rw[rangeSize_one];split <;> lia
  show IsRangeIter _ _ (a+((0:Nat):Int)*1) ((((d-a).toNat:Nat):Int)-((0:Nat):Int)) 1;rw[w,r];exact cV _ rfl
 .have e:b=(s.heap.push {cls:=.type "range",data:=.fields #[.int a t,.int d u,.int 1 v]}).objs.size:= ~~~j
  subst e;exact i.fpOk (bi _) (i.hok.fresh (bi _))
def LY(d:TA):TI:=λa H R=>d a H λb f=>∃j:Int,b=[.int j]/\-(2^62)<=j/\j<2^62/\R (yT 0 j.toNat) f
def UJ{a:aC}{f:TA}{p b:Pos}(u:Gl X "range")(o:X.mg "range"=ae)(v:PA X [a] f)(n:aV [a] X.env=[(ak,a9 a X.env)]:=by rfl):PI X c (.Call (.Name "range" p) [a] [] b) (LY f):=by
 intro w s g H R I h;refine Call_ (wd I u o boot_range (JG (aW (v b w s g H _ I h) λz A ⟨y,B,x,l,d⟩=>?_) n rfl));obtain⟨j,e,d,m,q⟩:=d;subst e;cases l with
 |cons r i=>
  cases i;obtain⟨t,rfl⟩:=r;exact call_range_1 (LH x ∅ ∅ d m (~~~q))
def SZ(j:TI)(g:TG)(l:TS):TS:=λD a H=>j a H λJ o=>∃W:Nat->Nat->St->Hp->Prop,(∃m,W 0 m a o)/\∀i m a H,W i m a H ->
 (J.stop i H/\D.nx a H)\/(J.go i H/\∃N:St->Hp->Prop,(∀b d,N b d->∃h,h<m/\W (i+1) h b d)/\∀x d,J.yld i H x d->g x a d λf n=>l {D with nx:=N,ct:=N,bk:=D.nx} f n)
def v9(a:List af)(h:aB):List (af×Obj):=a.filterMap λb=>(h.get? b).map λo=>(b,o)
def zh{a:List af}{h:aB}{b:af}{o:Obj}(d:b∈a)(e:h.get? b=aa o):(b,o)∈v9 a h:=JH.mpr ⟨b,d,by rw[e];rfl⟩
def Pe(d:p∈v9 a h):p.1∈a/\h.get? p.1=aa p.2:=by
 obtain⟨b,f,e⟩:=JH.mp d;cases q:h.get? b with
 |none=>grind
 |some o=>grind
def Inv.pinned{d:List (af×Obj)}{f:St}{H:Hp}{s:ao}{a:List af}(I:Inv X d f H s)(h:∀b∈a,lR X d H b)(j:∀b∈a,∃o,s.heap.get? b=aa o/\∀v,o.data≠.cell v):Inv X (d++v9 a s.heap) f H s :=
 I.pins_of λp g=>(lj.mp g).elim (λz=>I.pin p (kJ _ z)) λz=>by
  obtain⟨i,e⟩:=Pe z;obtain⟨m,l,f2,_⟩:=h p.1 i
  grind
def Inv.unpinned{b d:List (af×Obj)}{a:St}{H:Hp}{s:ao}(I:Inv X (b++d) a H s):Inv X b a H s:=I.pins_of λp f=>I.pin p (kJ _ (zP _ f))
def G9{q:aC}{E:List bf}{wi:TI}{g:TG}{tb:TS}{Z:Pos}(M:wz X.zz X.A X.env X.xe)(hc:X.calm=ah)(hi:PI X c q wi)(hg:PG X c g)(w:lg X E tb)(hs:∀x,lT q X.env x=pure x:=by intro _;rfl):PS X (.For c q E [] Z) (SZ wi g tb):=by
 intro F s σ H D I h;refine wpAny_For (aW (hi F s σ H _ I h) λv s1 h1=>aW h1 λitv s2 h2=>?_) hs;obtain⟨it,P,tn,J,H2,e,I2,T,bt,f2,W,⟨m0,w0⟩,G⟩:=h2;subst e;have p:∀{B:Hp},(∀b∈P,B b=ae)->∀b∈P,lR X F B b:=λhn b w=>⟨hn b w,(f2 b w).2⟩
 refine codeAny_forLoop_any (λn s'=>∃i l B,Inv X F l B s'/\tn i s'.heap/\(∀b∈P,B b=ae)/\W i n l B) ?_ m0 ⟨0,σ,H2,I2,bt,λb w=>(f2 b w).1,w0⟩;rintro n s3 ⟨i,j,Q,I3,bM,O,w3⟩;rcases G i n j Q w3 with⟨stop,qn⟩|⟨go,N,hN,step⟩
 .refine t8 M (aW (T.done X rfl rfl rfl hc i F s3 j Q X.xe I3 (p O) bM stop) λr s4 ⟨hr,I4⟩=>?_);subst hr;exact wy ⟨j,Q,I4,qn⟩
 .refine t8 M (aW (T.item X rfl rfl rfl hc i F s3 j Q X.xe I3 (p O) bM go) λr s4 ⟨u,hr,h4⟩=>?_);subst hr;refine t8 M (aW h4 λ_ s5 ⟨x,H5,I5,r5,y5,cA,fr5⟩=>?_);have I5':=I5.pinned (p fr5) (T.obj _ _ cA);refine t8 M (aW (hg _ s5 j H5 x u _ I5' r5 (step x H5 y5)) λ_ s6 ⟨S,H6,I6,q6⟩=>?_);refine t8 M (aW (w _ s6 S H6 _ I6 q6) λf Y C=>?_);have y:∀{a:St}{A:Hp},Inv X (F++v9 P s5.heap) a A Y->N a A->∃m,m<n/\∃i l B,Inv X F l B Y/\tn i Y.heap/\(∀b∈P,B b=ae)/\W i m l B:=λ{a A} z L=>by obtain⟨m',hm,w7⟩:=hN a A L;refine⟨m',hm,i+1,a,A,z.unpinned,T.keep _ _ _ cA λb w o e=>(z.pin (b,o) (kJ _ (kJ _ (zh w e)))).1,λb w=>?_,w7⟩;obtain⟨o,e,d⟩:=T.obj _ _ cA b w;exact(z.pin (b,o) (kJ _ (kJ _ (zh w e)))).2.1
  cases f with
  |next=>obtain⟨a,A,z,L⟩:=C;exact y z L
  |cont=>obtain⟨a,A,z,L⟩:=C;exact y z L
  |brk=>obtain⟨a,A,z,C⟩:=C;exact⟨a,A,z.unpinned,C⟩
  |ret v=>obtain⟨x7,a,A,z,r7,C⟩:=C;exact⟨x7,a,A,z.unpinned,r7,C⟩
end
abbrev R2:=V->V->Hp->VK->Prop
def cg(X:Cx)(f:ai->ai->Sem ai)(r:R2):Prop :=
 ∀(b:List (af×Obj)) (s:ao) (a:St) (H:Hp) (x y:V) (v u:ai) (Q:VK),Inv X b a H s->RelV x v->RelV y u->r x y H Q ->
  ar X.zz X.A (f v u) (EP X b a Q) X.xe s
def zL(X:Cx)(f:ai->Sem ai)(r:V->Hp->VK->Prop):Prop :=
 ∀(b:List (af×Obj)) (s:ao) (a:St) (H:Hp) (x:V) (v:ai) (Q:VK),Inv X b a H s->RelV x v->r x H Q ->
  ar X.zz X.A (f v) (EP X b a Q) X.xe s
def eG(X:Cx)(f:ai)(r:List V->Hp->VK->Prop):Prop :=
 ∀(c:List (af×Obj)) (s:ao) (a:St) (H:Hp) (xs:List V) (b:List ai) (Q:VK),Inv X c a H s->bG xs b->r xs H Q ->
  ar X.zz X.A (call f b) (EP X c a Q) X.xe s
def ym(r:R2)(c b:TE):TE:=λa H Q=>c a H λx f=>b a f λy d=>r x y d Q
def SF(r:V->Hp->VK->Prop)(b:TE):TE:=λa H Q=>b a H λx c=>r x c Q
def rI(C:Int->Int->Prop)(g:Int->Int->V):R2:=λx y H Q=>∃i j,x=.int i/\y=.int j/\C i j/\Q (g i j) H
def mr(g:Int->Int->V):R2:=λx y H Q=>∃i j,x=.int i/\y=.int j/\Q (g i j) H
def rU(g:Int->V):V->Hp->VK->Prop:=λx H Q=>∃i,x=.int i/\Q (g i) H
section
variable{X:Cx}{a b c:aC}{d m n:TE}{l:Pos}
def CQ(F:PE X a d)(E:PE X b m){q:List (af×Obj)}{s:ao}{g:St}{H:Hp}{R:V->V->Hp->Prop}(I:Inv X q g H s)(h:d g H λx r=>m g r λy i=>R x y i) {Q:ai->ao->Prop}{f:ai->ai->Sem ai}(D:∀v u p x y i,Inv X q g i p->RelV x v->RelV y u->R x y i->ar X.zz X.A (f v u) Q X.xe p):ar X.zz X.A (a9 a X.env) (λv o=>ar X.zz X.A (a9 b X.env) (λu j=>ar X.zz X.A (f v u) Q X.xe j) X.xe o) X.xe s:=by refine aW (F q s g H _ I h) λv w ⟨x,r,J,A,C⟩=>?_;refine aW (E q w g r _ J C) λu p ⟨y,i,G,z,B⟩=>?_;exact D v u p x y i G A z B
def K_{f:Operator}{r:R2}(p:cg X (js f) r)(z:PE X a d)(w:PE X b m):PE X (.BinOp a f b l) (ym r d m):=by intro A s g H Q I h;exact wpAny_BinOp (CQ z w I h λv u i x y C B o j q=>p A i g C x y v u Q B o j q)
def S7{g:UnaryOp}{r:V->Hp->VK->Prop}(q:zL X (unaryOp g) r)(u:PE X a d):PE X (.UnaryOp g a l) (SF r d):=by intro i s f H Q I h;exact UnaryOp_ (aW (u i s f H _ I h) λv j ⟨x,y,w,o,p⟩=>q i j f y x v Q w o p)
def Ck{f:ai->ai->Sem ai}{C:Int->Int->Prop}{g:Int->Int->Int}(o:∀(i j:Int) (t u:Tok) (s:ao) (Q:ai->ao->Prop) (E:ai->ao->Prop),C i j->Q (.int (g i j) s.toks) {s with toks:=s.toks+1}->ar X.zz X.A (f (.int i t) (.int j u)) Q E s):cg X f (rI C λi j=>.int (g i j)):=by intro B s A H x y v u Q I w r h;obtain⟨i,j,rfl,rfl,z,q⟩:=h;obtain⟨t,rfl⟩:=w;obtain⟨p,rfl⟩:=r;exact o i j t p s _ _ z ⟨.int (g i j),H,I.tok _,⟨_,rfl⟩,q⟩
def Ha{f:ai->ai->Sem ai}{g:Int->Int->Int}(o:∀(i j:Int) (t u:Tok) (s:ao) (Q:ai->ao->Prop) (E:ai->ao->Prop),Q (.int (g i j) s.toks) {s with toks:=s.toks+1}->ar X.zz X.A (f (.int i t) (.int j u)) Q E s):cg X f (mr λi j=>.int (g i j)):=by intro A s z H x y v u Q I w r h;obtain⟨i,j,rfl,rfl,q⟩:=h;obtain⟨t,rfl⟩:=w;obtain⟨p,rfl⟩:=r;exact o i j t p s _ _ ⟨.int (g i j),H,I.tok _,⟨_,rfl⟩,q⟩
def Db{f:ai->ai->Sem ai}{g:Int->Int->Bool}(o:∀(i j:Int) (t u:Tok) (s:ao) (Q:ai->ao->Prop) (E:ai->ao->Prop),Q (.bool (g i j)) s->ar X.zz X.A (f (.int i t) (.int j u)) Q E s):cg X f (mr λi j=>.bl (g i j)):=by intro A s z H x y v u Q I w r h;obtain⟨i,j,rfl,rfl,q⟩:=h;obtain⟨t,rfl⟩:=w;obtain⟨p,rfl⟩:=r;exact o i j t p s _ _ ⟨.bl (g i j),H,I,rfl,q⟩
def Gx(i j:Int):Prop:=0<=j/\j<=1000000/\i.natAbs<2^64
def Cf(i j:Int):Prop:=(-(2^64)<i/\i<2^64)\/(-(2^64)<j/\j<2^64)
def Cf.ok{i j:Int}(h:Cf i j):IntMulOk i j:=by
 rcases h with⟨h1,h2⟩|⟨h1,h2⟩
 .exact .of_left (intBits_le_64 h1 h2)
 .exact .of_right (intBits_le_64 h1 h2)
def VL:cg X (js .Add) (mr λi j=>.int (i+j)):=Ha λ_ _ _ _ _ _ _ q=>add_int q
def x_:cg X (js .Sub) (mr λi j=>.int (i-j)):=Ha λ_ _ _ _ _ _ _ q=>sub_int q
def VA:cg X (js .Mult) (rI Cf λi j=>.int (i*j)):=Ck λ_ _ _ _ _ _ _ f q=>mul_int q f.ok
def sy:cg X (js .Mod) (rI (λ_ j=>0<j) λi j=>.int (i % j)):=Ck λi j _ _ _ _ _ f q=>by have g:(0:Int)<j:=f;exact mod_int' ∅ (by rw[Int.fmod_eq_emod_of_nonneg i ∅];exact q)
def S8:cg X (js .Pow) (rI Gx λi j=>.int (i^j.toNat)):=Ck λ_ _ _ _ _ _ _ f q=>pow_int_small f.1 f.2.1 f.2.2 q
def LL{f:ai->Sem ai}{g:Int->Int}(j:∀(i:Int) (t:Tok) (s:ao) (Q:ai->ao->Prop) (E:ai->ao->Prop),Q (.int (g i) s.toks) {s with toks:=s.toks+1}->ar X.zz X.A (f (.int i t)) Q E s):zL X f (rU λi=>.int (g i)):=by intro r s p H x v Q I o h;obtain⟨i,rfl,q⟩:=h;obtain⟨t,rfl⟩:=o;exact j i t s _ _ ⟨.int (g i),H,I.tok _,⟨_,rfl⟩,q⟩
def qg:zL X (unaryOp .USub) (rU λi=>.int (-i)):=LL λ_ _ _ _ _ q=>neg_int q
end
def qx:V->V->Bool
 |.non,.non=>ah|.non,.int _=>ah|.int _,.non=>ah|.non,.bl _=>ah|.bl _,.non=>ah|.non,.str _=>ah|.str _,.non=>ah
 |.int _,.int _=>ah|.bl _,.bl _=>ah|.str _,.str _=>ah|.byt _,.byt _=>ah
 |.int _,.str _=>ah|.str _,.int _=>ah|.bl _,.str _=>ah|.str _,.bl _=>ah
 |_,_=>ak
def Hu:R2:=λx y H Q=>qx x y=ah/\Q (.bl (decide (x=y))) H
def GF:R2:=λx y H Q=>qx x y=ah/\Q (.bl (!decide (x=y))) H
def Hd:decide (V.int i=V.int j)=(i == j):=by lia
def GM:decide (V.bl i=V.bl j)=(i == j):=by lia
def F_:decide (V.str i=V.str j)=(i == j):=by lia
def Jt:decide (V.byt i=V.byt j)=(i.toList == j.toList):=by rw[nZ];simp_all
section
variable{X:Cx}{a b c:aC}{l g o:TE}{m:Pos}
def dJ(I:Inv X h d H s)(q:Q (.bl k) H)(e:k=f):EP X h d Q (.bool f) s:=by subst e;exact⟨.bl k,H,I,rfl,q⟩
def VH:cg X (eF .Eq) Hu:=by
 intro w s r H x y v u Q I p d h;obtain⟨n,q⟩:=h;cases x with
 |non=>
  cases p;cases y with
  |non=>cases d;exact PySem.EqNone.eq_none_none (dJ I q (by simp))
  |bl j=>cases d;exact PySem.EqNone.eq_none_bool (dJ I q (by simp))
  |int j=>obtain⟨f,rfl⟩:=d;exact PySem.EqNone.eq_none_int (dJ I q (by simp))
  |str j=>obtain⟨f,rfl⟩:=d;exact PySem.EqNone.eq_none_str (dJ I q (by simp))
  |_=>exact absurd (show ak=ah from n) gb
 |bl i=>
  cases p;cases y with
  |non=>cases d;exact PySem.EqNone.eq_bool_none (dJ I q (by simp))
  |bl j=>cases d;exact eq_bool (dJ I q GM)
  |str j=>obtain⟨f,rfl⟩:=d;exact PySem.EqMixed.eq_bool_str (dJ I q (by simp))
  |_=>exact absurd (show ak=ah from n) gb
 |int i=>
  obtain⟨t,rfl⟩:=p;cases y with
  |non=>cases d;exact PySem.EqNone.eq_int_none (dJ I q (by simp))
  |int j=>obtain⟨f,rfl⟩:=d;exact eq_int (dJ I q Hd)
  |str j=>obtain⟨f,rfl⟩:=d;exact PySem.EqMixed.eq_int_str (dJ I q (by simp))
  |_=>exact absurd (show ak=ah from n) gb
 |str i=>
  obtain⟨t,rfl⟩:=p;cases y with
  |non=>cases d;exact PySem.EqNone.eq_str_none (dJ I q (by simp))
  |bl j=>cases d;exact PySem.EqMixed.eq_str_bool (dJ I q (by simp))
  |int j=>obtain⟨f,rfl⟩:=d;exact PySem.EqMixed.eq_str_int (dJ I q (by simp))
  |str j=>obtain⟨f,rfl⟩:=d;exact eq_str (dJ I q F_)
  |_=>exact absurd (show ak=ah from n) gb
 |byt i=>
  obtain⟨t,rfl⟩:=p;cases y with
  |byt j=>obtain⟨f,rfl⟩:=d;exact PySem.W.eq_bytes (dJ I q Jt)
  |_=>exact absurd (show ak=ah from n) gb
 |_=>cases y <;> exact absurd (show ak=ah from n) gb
def VX:cg X (eF .NotEq) GF:=by
 intro w s r H x y v u Q I p d h;obtain⟨n,q⟩:=h;cases x with
 |non=>
  cases p;cases y with
  |non=>cases d;exact PySem.EqNone.ne_none_none (dJ I q (by simp))
  |bl j=>cases d;exact PySem.EqNone.ne_none_bool (dJ I q (by simp))
  |int j=>obtain⟨f,rfl⟩:=d;exact PySem.EqNone.ne_none_int (dJ I q (by simp))
  |str j=>obtain⟨f,rfl⟩:=d;exact PySem.EqNone.ne_none_str (dJ I q (by simp))
  |_=>exact absurd (show ak=ah from n) gb
 |bl i=>
  cases p;cases y with
  |non=>cases d;exact PySem.EqNone.ne_bool_none (dJ I q (by simp))
  |bl j=>cases d;exact ne_bool (dJ I q (congrArg not GM))
  |str j=>obtain⟨f,rfl⟩:=d;exact PySem.EqMixed.ne_bool_str (dJ I q (by simp))
  |_=>exact absurd (show ak=ah from n) gb
 |int i=>
  obtain⟨t,rfl⟩:=p;cases y with
  |non=>cases d;exact PySem.EqNone.ne_int_none (dJ I q (by simp))
  |int j=>obtain⟨f,rfl⟩:=d;exact ne_int (dJ I q (congrArg not Hd))
  |str j=>obtain⟨f,rfl⟩:=d;exact PySem.EqMixed.ne_int_str (dJ I q (by simp))
  |_=>exact absurd (show ak=ah from n) gb
 |str i=>
  obtain⟨t,rfl⟩:=p;cases y with
  |non=>cases d;exact PySem.EqNone.ne_str_none (dJ I q (by simp))
  |bl j=>cases d;exact PySem.EqMixed.ne_str_bool (dJ I q (by simp))
  |int j=>obtain⟨f,rfl⟩:=d;exact PySem.EqMixed.ne_str_int (dJ I q (by simp))
  |str j=>obtain⟨f,rfl⟩:=d;exact ne_str (dJ I q (congrArg not F_))
  |_=>exact absurd (show ak=ah from n) gb
 |byt i=>
  obtain⟨t,rfl⟩:=p;cases y with
  |byt j=>obtain⟨f,rfl⟩:=d;exact PySem.W.ne_bytes (dJ I q (congrArg not Jt))
  |_=>exact absurd (show ak=ah from n) gb
 |_=>cases y <;> exact absurd (show ak=ah from n) gb
def CI:cg X (eF .Lt) (mr λi j=>.bl (decide (i<j))):=Db λ_ _ _ _ _ _ _ q=>lt_int q
def pR:cg X (eF .LtE) (mr λi j=>.bl (decide (i<=j))):=Db λ_ _ _ _ _ _ _ q=>le_int q
def Bt:cg X (eF .Gt) (mr λi j=>.bl (decide (j<i))):=Db λ_ _ _ _ _ _ _ q=>gt_int q
def VE:cg X (eF .In) (λx y H Q=>∃i j,x=.str i/\y=.str j/\Q (.bl (!(JI j i 0 j.length 1).isEmpty)) H):=by intro r s n H x y v u Q I f d h;obtain⟨i,j,rfl,rfl,q⟩:=h;obtain⟨t,rfl⟩:=f;obtain⟨p,rfl⟩:=d;exact in_str (dJ I q rfl)
def EQ:cg X (eF .Is) (λx y H Q=>y=.non/\Q (.bl (decide (x=.non))) H):=by
 intro j s i H x y v u Q I d f h;obtain⟨rfl,q⟩:=h;cases f;refine is_none_gen (dJ I q ?_);cases x <;> first
  | (cases d;rfl)
  | (obtain⟨t,rfl⟩:=d;rfl)
def cg.or(h:cg X f r)(w:cg X f n):cg X f (λx y H Q=>r x y H Q\/n x y H Q):=by
 intro p s d H x y v u Q I j i q;rcases q with q|q
 .exact h p s d H x y v u Q I j i q
 .exact w p s d H x y v u Q I j i q
def Sz{d:CmpOp}{r:R2}(p:cg X (eF d) r)(A:PE X a l)(z:PE X b g)(w:qT d b=ak):PE X (.Compare a [d] [b] m) (ym r l g):=by intro B s f H Q I h;exact wpAny_Compare1 (CQ A z I h λv u i x y D C n j q=>p B i f D x y v u Q C n j q) w
def GU(t:TE):TT:=λd H Q=>t d H λx f=>∃k,x=.bl k/\Q k f
def Oz{f:CmpOp}{r:R2}(D:cg X (eF f) r)(G:PE X a l)(F:PE X b g)(E:qT f b=ak):PT X (.Compare a [f] [b] m) (GU (ym r l g)):=by
 intro i s d H Q I h;refine wpAny_isTrue_Compare1 (aW (G i s d H _ I h) λv n ⟨x,P,M,w,C⟩=>aW (F i n d P _ M C) λu j ⟨y,O,L,q,B⟩=>aW (D i j d O x y v u _ L w q B) λc S ⟨z,N,J,p,k,e,A⟩=>?_) E;subst e;cases p;exact ph ⟨N,J,A⟩
def A0(r i:R2)(l g o:TE):TE:=λd H Q=>l d H λx p=>g d p λy n=>r x y n λz f=>∃k,z=.bl k /\
 (if k=ah then o d f λh j=>i y h j Q else Q (.bl ak) f)
def Q_{n f:CmpOp}{r q:R2}(T:cg X (eF n) r)(gi:cg X (eF f) q)(ha:PE X a l)(Z:PE X b g)(Y:PE X c o)(W:lastMarks [n,f] [b,c]=ak:=by with_unfolding_all rfl):PE X (.Compare a [n,f] [b,c] m) (A0 r q l g o):=by
 intro j s i H Q I h;refine Compare_chain (aW (ha j s i H _ I h) λv J ⟨x,H1,I1,N,S⟩=>chain_link (aW (Z j J i H1 _ I1 S) λu G ⟨y,H2,I2,p,P⟩=>aW (T j G i H2 x y v u _ I2 N p P) λd F ⟨z,B,A,M,k,e,w⟩=>?_)) W;subst e;cases M;refine ph ?_;cases k with
 |false=>exact ite_ff ⟨.bl ak,B,A,rfl,w⟩
 |true=>exact ite_tt (chain_last (aW (Y j F i B _ A w) λD E ⟨C,H4,I4,L,O⟩=>gi j E i H4 y C u D Q I4 p L O))
def RJ{n f:CmpOp}{r q:R2}(Z:cg X (eF n) r)(gi:cg X (eF f) q)(ha:PE X a l)(hb:PE X b g)(hc:PE X c o)(hm:lastMarks [n,f] [b,c]=ak:=by with_unfolding_all rfl):PT X (.Compare a [n,f] [b,c] m) (GU (A0 r q l g o)):=by
 intro j s i H Q I h;refine isTrue_chain (aW (ha j s i H _ I h) λv J ⟨x,H1,I1,O,W⟩=>test_link (aW (hb j J i H1 _ I1 W) λu G ⟨y,H2,I2,p,T⟩=>aW (Z j G i H2 x y v u _ I2 O p T) λd F ⟨z,B,A,N,k,e,w⟩=>?_)) hm;subst e;cases N;refine ph ?_;cases k with
 |false=>
  obtain⟨k',e',Y⟩:=w;cases e';exact ite_ff ⟨B,A,Y⟩
 |true=>
  refine ite_tt (test_last (aW (hc j F i B _ A w) λD E ⟨C,H4,I4,M,S⟩=>aW (gi j E i H4 y C u D _ I4 p M S) λd' s5 ⟨z2,H5,I5,L,k2,e2,P⟩=>?_));subst e2;cases L;exact ph ⟨H5,I5,P⟩
def sP:(bo:Nat)<2^63:=by rw[t_];decide
def NY:cg X (js .Add) (λx y H Q=>∃i j,x=.str i/\y=.str j/\i.length+j.length<=bo/\Q (.str (i++j)) H):=by intro z s r H x y v u Q I n f h;obtain⟨i,j,rfl,rfl,p,q⟩:=h;obtain⟨t,rfl⟩:=n;obtain⟨d,rfl⟩:=f;exact add_str (λd w=>⟨.str (i++j),H,I.tok _,⟨_,rfl⟩,q⟩) p
def vals1(r:bG [x] d):∃u,d=[u]/\RelV x u:=by
 cases r with
 |cons h f=>cases f;exact⟨_,rfl,h⟩
def vals2(r:bG [x,y] f):∃u d,f=[u,d]/\RelV x u/\RelV y d:=by
 cases r with
 |cons n j=>
  cases j with
  |cons i h=>cases h;exact⟨_,_,rfl,n,i⟩
def F6(K:ax)(x:V)(H:Hp)(n:Nat):Prop :=
 match x with
 |.str y=>y.length<=bo/\n=y.length
 |.byt y=>y.size<=bo/\n=y.size
 |.ref p=>(∃xs,cF K H p xs/\n=xs.length)\/∃xs,cu K H p xs/\n=xs.length
 |_=>False
def iN:eG X (.builtin "len") (λxs H Q=>∃x n,xs=[x]/\F6 X.K x H n/\Q (.int n) H):=by
 intro F s B H xs C Q I r h;obtain⟨x,n,rfl,e,q⟩:=h;obtain⟨u,rfl,f⟩:=vals1 r;have E:=sP;have D:bo=16777216:=t_;cases x with
 |str y=>obtain⟨t,rfl⟩:=f;obtain⟨A,d⟩:y.length<=bo/\n=y.length:=e;subst d;exact len_str ∅ ⟨.int _,H,I.tok _,⟨_,rfl⟩,q⟩
 |byt y=>obtain⟨t,rfl⟩:=f;obtain⟨A,d⟩:y.size<=bo/\n=y.size:=e;subst d;exact PySem.W.len_bytes ∅ ⟨.int _,H,I.tok _,⟨_,rfl⟩,q⟩
 |ref p=>
  cases f;have d:(∃xs,cF X.K H p xs/\n=xs.length)\/∃xs,cu X.K H p xs/\n=xs.length:=e;rcases d with⟨xs,hx,d⟩|⟨xs,hx,d⟩
  .subst d;obtain⟨v,i,j,z⟩:=I.list hx;have w:=i.length;exact Calls.call_len_list j.isList (by simp only[fD];lia) ⟨.int xs.length,H,I.tok _,⟨_,by simp only[fD];rw[w]⟩,q⟩
  .subst d;obtain⟨v,i,j,z⟩:=I.tuple hx;have w:=i.length;exact len_tuple j (by simp only[fD];lia) ⟨.int xs.length,H,I.tok _,⟨_,by simp only[fD];rw[w]⟩,q⟩
 |_=>exact(show False from e).elim
end
structure Jo(h:aB)(x dx C:af)(mA:Str->Option ai):Prop where
 obj:h.get? x=aa (PySem.W.instObj C dx)
 ns:h.Ns1 dx mA
 ne:dx≠x
def Sl{h:aB}(n:h.Ns1 f d):∃c,h.get? f=aa c/\∀b,PySem.W.lookIn b c=aa (d b):=by
 obtain⟨o,r,s,j,p,m,_,l⟩:=n;refine⟨o,j,λb=>?_⟩;have e:=l b;unfold nsFind findBy at e;rw[<-Array.find?_toList]at e;unfold PySem.W.lookIn;rw[p];dsimp only;split
 .grind
 .rename_i q;rw[q]at e;have a:r.toList.any (·.refKey)=ak:=by rw[List.any_eq_false];intro y i;obtain⟨z,t,g⟩:=m y (Array.mem_toList_iff.mp i);simp[DictEntry.refKey,g]
  grind
def Jo.look(I:Jo h x d C c):∃b,wA h x (PySem.W.instObj C d) C (aa b)/\∀a,PySem.W.lookIn a b=aa (c a) :=
 let ⟨b,ho,hl⟩:=Sl I.ns
 ⟨b,⟨I.obj,rfl,rfl,ho⟩,hl⟩
def pc.some_of(r:pc (aa v) o):∃u,o=aa u/\RelV v u:=by
 cases o with
 |none=>exact(show False from r).elim
 |some u=>exact⟨u,rfl,r⟩
section
variable{P:aQ}{w:aJ}{H i:Hp}{h g:aB}{a C b:af}{fs c:List (Str×V)}
def P6(l:dy P w H h)(e:H a=aa (.ins C b fs)):∃j,Jo h a b C j/\(∀f,pc (fs.lookup f) (j f))/\PySem.Within j (fs.map (·.1))/\fs.length<=1000/\H b=aa (.own a):=by
 obtain⟨d,z,o,m,j,n,r,q⟩:=(show cn P w H h a (.ins C b fs)from l a _ e)
 exact⟨j,⟨m,n,o⟩,r,q,z,d⟩
end
structure Hr(K:ax)(C:af):Prop where
 pg:PySem.W.plainGet K C kK=ah
 hd:PySem.W.hasDictIn K C=ah
 po:PySem.W.plainOver K C=ah
 sa:qV K (.ref C) "__setattr__"=aa (aa (.builtin "object.__setattr__"))
def Hr.get{K:ax}{C:af}(c:Hr K C)(f:Str):PySem.W.plainGet K C f=ah:=c.pg
section
variable{X:Cx}{f:List (af×Obj)}{d:St}{H:Hp}{s:ao}{A:aX}{E:ai->ao->Prop}{Q:ai->ao->Prop}{c:ai}{b:Bool}
inductive jo(K:ax)(H:Hp):V->ai->Prop where
 |non:jo K H .non (.type "NoneType")
 |bl (x:Bool):jo K H (.bl x) (.type "bool")
 |int (i:Int):jo K H (.int i) (.type "int")
 |str (x:Str):jo K H (.str x) (.type "str")
 |flt (x:UInt64):jo K H (.flt x) (.type "float")
 |lst {a:af}{xs:List V} (e:H a=aa (.lst xs)):jo K H (.ref a) (.type "list")
 |frz {a:af}{o:Obj}{xs:List V} (e:H a=aa (.frz o (.lst xs))):jo K H (.ref a) (.type "list")
 |tup {a:af}{xs:List V} (e:H a=aa (.tup xs)):jo K H (.ref a) (.type "tuple")
 |dK {a:af}{kvs:List (aK×V)} (e:H a=aa (.dK kvs)):jo K H (.ref a) (.type "dict")
 |dT {a:af}{kvs:List (List aK×V)} (e:H a=aa (.dT kvs)):jo K H (.ref a) (.type "dict")
 |ins {a C dx:af}{fs:List (Str×V)} (e:H a=aa (.ins C dx fs)) (cl:Hr K C) (ha:qV K (.ref C) "__class__"=aa (aa (.builtin "object.__class__")))
   (hn:JJ K (.builtin "object.__class__") "__get__"=aa (aa (.builtin "getset_descriptor.__get__"))) (rL:PySem.W.takesIn K (.builtin "object.__class__")=aa ah)
   (hm:zQ K C (.type "object")=aa ah):jo K H (.ref a) (.ref C)
def OD(I:Inv X f d H s)(g:RelV x u)(ty:jo X.K H x t)(e:iR X.K t c=aa b)(h:∀m,Q (.bool b) {s with toks:=m}):ar X.zz A (call (.builtin "isinstance") [u,c]) Q E s:=by
 cases ty with
 |non=>cases (show u=Value.none from g);exact lU PySem.W.kitx_none I.kIn True.intro e (λz=>nomatch z) h
 |bl y=>cases (show u=Value.bool y from g);exact lU PySem.W.kitx_bool I.kIn True.intro e (λz=>nomatch z) h
 |int i=>obtain⟨t,q⟩:=(show ∃t,u=Value.int i t from g);cases q;exact lU PySem.W.kitx_int I.kIn True.intro e (λz=>nomatch z) h
 |str y=>obtain⟨t,q⟩:=(show ∃t,u=Value.str y t from g);cases q;exact lU PySem.W.kitx_str I.kIn True.intro e (λz=>nomatch z) h
 |flt y=>obtain⟨t,q⟩:=(show ∃t,u=Value.float y t from g);cases q;exact lU PySem.W.kitx_float I.kIn True.intro e (λz=>nomatch z) h
 |@lst a xs ea=>
  cases (show u=Value.ref a from g);obtain⟨_,_,n,_,j⟩:=(show cn X.prog X.w H s.heap a (.lst xs)from I.hok a _ ea)
  exact lU PySem.W.kitx_list I.kIn ⟨_,j,rfl⟩ e (λz=>nomatch z) h
 |@frz a ob xs ea=>
  cases (show u=Value.ref a from g);obtain⟨_,_,_,n,_,j⟩:=(show cn X.prog X.w H s.heap a (.frz ob (.lst xs))from I.hok a _ ea)
  exact lU PySem.W.kitx_list I.kIn ⟨_,j,rfl⟩ e (λz=>nomatch z) h
 |@tup a xs ea=>
  cases (show u=Value.ref a from g);obtain⟨_,_,_,p,_⟩:=(show cn X.prog X.w H s.heap a (.tup xs)from I.hok a _ ea)
  obtain⟨o,j,l,_⟩:=p;exact lU PySem.W.kitx_tuple I.kIn ⟨o,j,l⟩ e (λz=>nomatch z) h
 |@dK a kvs ea=>
  cases (show u=Value.ref a from g);obtain⟨_,_,w,_,p⟩:=(show cn X.prog X.w H s.heap a (.dK kvs)from I.hok a _ ea)
  obtain⟨o,r,v,j,l,_⟩:=p;exact lU PySem.W.kitx_dict I.kIn ⟨o,j,l.1⟩ e (λz=>nomatch z) h
 |@dT a kvs ea=>
  cases (show u=Value.ref a from g);obtain⟨_,_,xs,_,o,r,v,j,l,_⟩:=(show cn X.prog X.w H s.heap a (.dT kvs)from I.hok a _ ea)
  exact lU PySem.W.kitx_dict I.kIn ⟨o,j,l.1⟩ e (λz=>nomatch z) h
 |@ins a C dx fs ea cl ha hn rL hm=>
  cases (show u=Value.ref a from g);obtain⟨D,O,_⟩:=P6 I.hok ea;obtain⟨B,J,_⟩:=O.look;exact lU (PySem.W.kitx_own (cl.get _) cl.hd ha hn rL hm) I.kIn J e (λz=>nomatch z) h
end
structure fR(k:Nat)(A:aX):Prop where
 hd:A.handled=ae
 dp:A.depth+3*k+5<recursionLimit
 un:A.units+16*k+200<cLine
def fR.mono(r:fR k A)(h:j<=k):fR j A:=⟨r.hd,by have:=r.dp;lia,by have:=r.un;lia⟩
def fR.deeper(r:fR (k+1) A)(a:Env):fR k (A.deeper a) :=⟨r.hd,by have:=r.dp;show A.depth+1+3*k+5<_;lia,by have:=r.un;show A.units+3+16*k+200<_;lia⟩
def fR.depth(r:fR k A):A.depth<recursionLimit:=by have:=r.dp;lia
def fR.units{k:Nat}{A:aX}(r:fR k A):A.units+64<cLine:=by have:=r.un;lia
def On:TA:=λ_ H Q=>Q [] H
def N5(c:TE)(b:TA):TA:=λa H Q=>c a H λx f=>b a f λxs d=>Q (x::xs) d
section
variable{X:Cx}{e:aC}{es:List aC}{c:TE}{t:TA}{a:Pos}
def jE:PA X [] On:=λ_ _ _ _ H Q I h=>JK ⟨[],H,I,.nil,h⟩
def je(o:PE X e c)(n:PA X es t)(m:aV (e::es) X.env=(ak,a9 e X.env)::aV es X.env:=by rfl):PA X (e::es) (N5 c t):=by intro a d s b H Q I h;rw[m];show ar _ _ (spliced ((ak,a9 e X.env)::c8 a (aV es X.env))) _ _ s;refine Dh (aW (o d s b H _ I h) λu f ⟨x,v,q,i,l⟩=>?_);exact aW (n a d f b v _ q l) λw y ⟨xs,r,p,g,j⟩=>⟨x::xs,r,p,.cons i g,j⟩
def Qg(t:TA):TE:=λd H Q=>t d H λxs b=>xs.length<=bo/\∀p,b p=ae->Q (.ref p) (upd b p (.tup xs))
def LV(t:TA):TE:=λd H Q=>t d H λxs b=>xs.length<=bo/\∀p,b p=ae->Q (.ref p) (upd b p (.lst xs))
def Nc{x1}(h:PA X es t):PE X (.Tuple es x1 a) (Qg t):=by intro n s i H Q I l;refine wpAny_Tuple_spliced (aW (h a n s i H _ I l) λj d ⟨xs,g,f,r,z,q⟩=>⟨by rw[<-r.length];exact z,?_⟩);have m:g d.heap.objs.size=ae:=f.hok.fresh (bi _);refine⟨.ref d.heap.objs.size,upd g d.heap.objs.size (.tup xs),f.laid (t':=d.toks) (λb u e=>bL _ e) (bi _) ?_,rfl,q _ m⟩;exact⟨z,j,r,⟨⟨_,cV _ rfl,rfl,_,rfl⟩,_,cV _ rfl,rfl⟩⟩
def Ua(h:PA X es t):PE X (.List es a) (LV t):=by intro n s i H Q I l;refine wpAny_List_spliced (aW (h a n s i H _ I l) λj d ⟨xs,g,f,r,z,q⟩=>⟨by rw[<-r.length];exact z,?_⟩);have m:g d.heap.objs.size=ae:=f.hok.fresh (bi _);refine⟨.ref d.heap.objs.size,upd g d.heap.objs.size (.lst xs),f.laid (t':=d.toks) (λb u e=>bL _ e) (bi _) ?_,rfl,q _ m⟩;exact⟨z,j,0,r,cV _ rfl⟩
end
abbrev Sp:=List V->Hp->VK->XK->Prop
abbrev gE:=List Env->Hp->ao->XK->ai->ao->Prop
structure sJ(P:aQ)(w:aJ)(K:ax)(mg:Str->Option ai)(base:aB)(A:aX)(outer:List Env)(s:ao)(H:Hp):Prop where
 frames:A.frames=aa outer
 mod:Mod K mg base
 bs:∀b o,base.get? b=aa o->s.heap.get? b=aa o/\H b=ae
 bsz:base.objs.size<=s.heap.objs.size
 funs:s.heap.FunFrames base outer
 frf:∀b∈fJ outer,H b=ae
 hok:dy P w H s.heap
 bare:nV s.gens
 tab:xY K H
def CE(a:List Env)(P:aQ)(w:aJ)(H:Hp)(s:ao)(Q:VK)(u:ai)(b:ao):Prop :=
 ∃v c,b.os=s.os/\nV b.gens/\Un (fJ a) [] H c s.heap b.heap/\dy P w c b.heap/\RelV v u/\Q v c
def CR(c:gE)(a:List Env)(P:aQ)(w:aJ)(H:Hp)(s:ao)(Q:VK)(E:XK)(r:Result)(b:ao):Prop :=
 match r with
 |.ok (.ret u)=>CE a P w H s Q u b
 |.ok _=>False
 |.error e=>c a H s E e b
structure lD(P:aQ)(w:aJ)(K:ax)(mg:Str->Option ai)(base:aB)(CX:gE)(k:Nat)(f:af)(fd:iw)(ps:List Str)(sp:Sp):Prop where
 len:∀vs H Q E,sp vs H Q E->vs.length=ps.length
 run:∀(A:aX) (outer:List Env) (s:ao) (H:Hp) (args:Args) (us:List ai) (vs:List V) (Q:VK) (E:XK),fR k A->sJ P w K mg base A outer s H->BindsTo s fd args (ps.zip us)->bG vs us->sp vs H Q E ->
  mL (aw P w) A (.call (.ref f) args) (CR CX outer P w H s Q E) s
section
variable{X:Cx}{f:List (af×Obj)}{a:St}{H:Hp}{s c:ao}
def Inv.env0(I:Inv X f a H s):sJ X.prog X.w X.K X.mg X.base X.A X.stack s H :=⟨I.ok.frames,I.ok.mod,I.bs,c7 I.ok.bsz I.sz,I.stack,I.stkFree,I.hok,I.bare,I.tab⟩
def Inv.after(I:Inv X f a H s)(h:CE X.stack X.prog X.w H s Q u c):EP X f a Q u c:=by obtain⟨v,o,m,i,un,l,r,q⟩:=h;obtain⟨n,g,d,t,j⟩:=c;obtain rfl:j=s.os:=m;exact⟨v,o,I.call (h':=n) (g':=g) (d':=d) (t':=t) (ch:=[]) un l i (λb z=>absurd z (by simp)),r,q⟩
end
def Nz(d:Sp)(a:List V)(E:XK)(t:TA):TE:=λb H Q=>t b H λc f=>d (c++a) f Q E
def Binds(K:ax)(d:iw)(b:List Str)(c:List ai):Prop :=
 ∀(s:ao) (a:List ai),K.In s.heap->(a++c).length=b.length->BindsTo s d ⟨a,[]⟩ (b.zip (a++c))
def Binds.all{K:ax}{d:iw}{b:List Str}(h:∀a:List ai,a.length=b.length->gy d ⟨a,[]⟩=pure (b.zip a)):Binds K d b []:=λs a _ c=>by rw[ix]at c ⊢;exact .of_eq (h a c)
def s_(c:gE)(X:Cx)(E:XK):Prop:=∀(b:List (af×Obj)) (a:St) (H:Hp) (s:ao) (e:ai) (s':ao),Inv X b a H s->c X.stack H s E e s'->X.xe e s'
section
variable{X:Cx}{l:gE}{k:Nat}{f C:af}{j:iw}{d:List Str}{i:Sp}{a:List V}{c:List ai}{E:XK}{x m:Str}{p b n:Pos}{e o:aC}{g:List aC}{v:TE}{t:TA}
def U4{A:List (af×Obj)}{z:St}{H:Hp}{s:ao}{Q:VK}{q:List ai}{y:List V}(F:lD X.prog X.w X.K X.mg X.base l k f j d i)(J:fR k X.A)(N:Binds X.K j d c)(M:bG a c)(G:s_ l X E)(I:Inv X A z H s) (r:bG y q) (h:i (y++a) H Q E):ar X.zz X.A (call (.ref f) q) (EP X A z Q) X.xe s:=by
 have B:bG (y++a) (q++c):=r.append M;have L:(q++c).length=d.length:=by rw[<-B.length];exact F.len _ _ _ _ h
 refine zR (qW (F.run X.A X.stack s H ⟨q,[]⟩ (q++c) (y++a) Q E J I.env0 (N s q I.kIn L) B h) λr D w=>?_);cases r with
 |error e=>exact G A z H s e D I w
 |ok O=>
  cases O with
  |ret u=>exact I.after w
  |next=>exact iy w
  |brk=>exact iy w
  |cont=>exact iy w
def NK(F:lD X.prog X.w X.K X.mg X.base l k f j d i)(A:fR k X.A)(G:Gl X x)(B:X.mg x=aa (.ref f))(D:qX X.K (.ref f)=ah)(M:Binds X.K j d c)(L:bG a c)(z:s_ l X E)(N:PA X (e::g) t) (y:ad x:=by decide) (J:aV (e::g) X.env=(ak,a9 e X.env)::aV g X.env:=by rfl) (O:(c8 b (aV g X.env)).any (·.1)=ak:=by rfl):PE X (.Call (.Name x p) (e::g) [] b) (Nz i a E t):=by intro P s w H Q I h;refine zS (tY I G B ?_ y);refine JL (h₀:=X.base) I.ok.mod.kin D (aW (N b P s w H _ I h) λT W ⟨S,Y,u,r,q⟩=>⟨u.kIn,?_⟩) J O;exact U4 F A M L z u r q
end
structure cq(N P:List Str)(sc:dU):Prop where
 kind:sc.kind=.function
 co:sc.isCoroutine=ak
 gen:sc.isGenerator=ak
 nd:N.Nodup
 pre:N.take P.length=P
 par:∀x∈P,sc.names.lookup x=aa .local\/sc.names.lookup x=aa .cell
 nofree:∀y∈sc.names,y.2≠.free
def Hw{a:Str->Option hZ}{x:Str}:∀{binds:List (Str×ai)}{m:Str->Option ai},(∀v,(x,v)∉binds)->bindL a binds m x=m x
 |[],_,_=>rfl
 | (n,v)::r,m,h=>by
  unfold bindL;rw[Hw λw b=>h w (iu _ b)];split
  all_goals grind
def Ju{a:Str->Option hZ}{x:Str}:∀{binds:List (Str×ai)}{m:Str->Option ai},(∀v,(x,v)∉binds)->bindC a binds m x=m x
 |[],_,_=>rfl
 | (n,v)::r,m,h=>by
  unfold bindC;rw[Ju λw b=>h w (iu _ b)];split
  all_goals grind
def FY{a:Str->Option hZ}{x:Str}{v:ai}:∀{P:List Str}{b:List ai}{i:Nat}{m:Str->Option ai},P.Nodup->P[i]?=aa x->b[i]?=aa v->a x=aa .local -> bindL a (P.zip b) m x=aa v
 |[],_,_,_,_,h,_,_=>by simp at h
 |_::_,[],_,_,_,_,h,_=>by simp at h
 |p::P,w::b,0,m,nd,h1,h2,hk=>by simp at h1 h2;subst h1;subst h2;show bindL a ((p,w)::P.zip b) m p=_;unfold bindL;rw[Hw λv c=>(kL.mp nd).1 (wB c).1,if_pos hk];simp
 |p::P,w::b,i+1,m,nd,h1,h2,hk=>by show bindL a ((p,w)::P.zip b) m x=_;unfold bindL;exact FY (i:=i) (kL.mp nd).2 (~~~h1) (~~~h2) hk
def Jk{a:Str->Option hZ}{x:Str}{v:ai}:∀{P:List Str}{b:List ai}{i:Nat}{m:Str->Option ai},P.Nodup->P[i]?=aa x->b[i]?=aa v->a x≠aa .local -> bindC a (P.zip b) m x=aa v
 |[],_,_,_,_,h,_,_=>by simp at h
 |_::_,[],_,_,_,_,h,_=>by simp at h
 |p::P,w::b,0,m,nd,h1,h2,hk=>by simp at h1 h2;subst h1;subst h2;show bindC a ((p,w)::P.zip b) m p=_;unfold bindC;rw[Ju λv c=>(kL.mp nd).1 (wB c).1,if_neg hk];simp
 |p::P,w::b,i+1,m,nd,h1,h2,hk=>by show bindC a ((p,w)::P.zip b) m x=_;unfold bindC;exact Jk (i:=i) (kL.mp nd).2 (~~~h1) (~~~h2) hk
def start(N:List Str)(a:List V):St:=a.map aa++dW (N.length-a.length) ae
def jc(g:gE)(P:aQ)(w:aJ)(K:ax)(mg:Str->Option ai)(base:aB)(N:List Str)(b:Str)(a:dU)(f:af)(d:ai)(A:aX)(outer:List Env)(s:ao)(H:Hp)(E:XK):Cx where
 prog:=P
 w:=w
 K:=K
 mg:=mg
 base:=base
 A:=A.deeper (jt b a s.heap.objs.size f d)
 N:=N
 s₀:=s
 H₀:=H
 env:=jt b a s.heap.objs.size f d
 outer:=outer
 stack:=jt b a s.heap.objs.size f d::outer
 ex:=[]
 calm:=ah
 fn:=λ_=>ah
 pn:=[]
 xe:=λe s'=>ar (aw P w) (A.deeper (jt b a s.heap.objs.size f d)) (leaving (jt b a s.heap.objs.size f d) e) (λ_ c=>g outer H s E e c) (λh c=>g outer H s E h c) s'
def FO{a:dU}(h:a.names.lookup x=aa .cell):∃c,(gc n a.names []).lookup x=aa c:=by have q:=JM a.names n [] (.inl h);exact Di.mp q
def G0{Y:gE}{P:aQ}{w:aJ}{K:ax}{Q:Str->Option ai}{o:aB}{N C:List Str}{j:Str}{d:dU}{f:af}{M:ai}{A:aX}{g:List Env}{s T:ao}{H:Hp}{E:XK}{O:List ai}{B:List V}(S:cq N C d) (hd:A.handled=ae) (m:sJ P w K Q o A g s H) (hl:B.length=C.length) (r:bG B O)(x:InCallC s s.heap.objs.size (bindL (jt j d s.heap.objs.size f M).kindOf (C.zip O) λ_=>ae) (gc (s.heap.objs.size+1) d.names []) (bindC (jt j d s.heap.objs.size f M).kindOf (C.zip O) λ_=>ae) T):Inv (jc Y P w K Q o N j d f M A g s H E) [] (start N B) H T:=by
 have dv:C.length<=N.length:=by have:=congrArg pi S.pre;grind
 obtain⟨L,tk,rfl,X⟩:=x.done;have D:∀b:af,b∉(jc Y P w K Q o N j d f M A g s H E).ex:=λb z=>absurd (show b∈([]:List af)from z) (by simp);refine⟨⟨m.mod,S.kind,rfl,rfl,bi _,λy z c L l=>?_,λy F=>?_,λy c _ h=>?_,λ_=>hd,Around.frames_deeper m.frames,.inr ⟨rfl,rfl⟩,λb z=>absurd z (D b),m.bs,m.bsz,λb _ _=>D b,λb z=>absurd z (D b),m.funs,m.frf,m.tab⟩,rfl,m.bare,Un.kept X,⟨_,x.toInCall.ns,λi y v L l h3=>?_⟩,λy c h=>⟨_,x.cell y c h⟩,m.hok.fresh (bi _),λy c h=>?_,λp I=>absurd (show p∈([]:List (af×Obj))from I) (by simp),m.hok.kept X,?_⟩
 .exact name_of_addr x.apart (lV L) (lV l)
 .have F:d.names.lookup y=aa .cell\/d.names.lookup y=aa .free:=F;rcases F with F|F
  .exact FO F
  .exact absurd rfl (S.nofree _ (lV F))
 .exact kI (x.above y c (lV h))
 .have J:i<B.length:=by
   unfold start at l;by_cases J:i<B.length
   .exact J
   .rw[JN (~~~J)]at l;rw[List.getElem?_replicate]at l;split at l <;> cases l
  have ha:B[i]?=aa v:=by
   unfold start at l;rw[wC (~~~J),d8]at l;cases e:B[i]? with
   |none=>rw[e]at l;cases l
   |some a=>rw[e]at l;cases l;rfl
  obtain⟨u,W,Z⟩:=r.get ha;have I:C[i]?=aa y:=by rw[<-S.pre,List.getElem?_take_of_lt ∅];exact L
  have G:C.Nodup:=by rw[<-S.pre];exact S.nd.sublist (List.take_sublist _ _)
  refine⟨u,Z,?_⟩;rcases S.par y (kc I)with k|k
  .exact .inl ⟨k,FY G I W k⟩
  .obtain⟨c,e⟩:=FO (n:=s.heap.objs.size+1) k;refine .inr ⟨.inl k,c,e,?_⟩;have q:=x.cell y c e;rw[Jk G I W (by show d.names.lookup y≠_;rw[k];decide)]at q;exact q
 .exact m.hok.fresh (kI (x.above y c (lV h)))
 .unfold start;show _=N.length
  grind
def Lr{M:gE}{K:ax}{L:Str->Option ai}{k:Nat}{m d:Str}{g:Arguments}{i:List bf}{a:dU}{dV kV F pm z ct oc:ai}{an od:Option af}{X:Array (Option ai)}{N G:List Str}{O:Sp} (lk:K.lookup f=aa ⟨oc,od,.func (iS m d g i a dV kV F pm an z ct),X⟩) (bv:wD K z d=ah) (S:cq N G a)(len:∀l H Q E,O l H Q E->l.length=G.length)(ii:∀(A:aX) (c:List Env) (s:ao) (H:Hp) (l:List V) (Q:VK) (E:XK),fR k (A.deeper (jt d a s.heap.objs.size f z))->O l H Q E -> ∃t,lg (jc M P w K L h N d a f z A c s H E) i t/\t {nx:=λ_ p=>Q .non p,rt:=Q} (start N l) H):lD P w K L h M (k+1) f (iS m d g i a dV kV F pm an z ct) G O:=by
 refine⟨len,λA c s H args us l Q E Z D hb r gT=>?_⟩;have hl:=len _ _ _ _ gT;have KX:K.In s.heap:=D.mod.kin.keeps λb o e=>(D.bs b o e).1;have Y:s.heap.NoLimit:=D.mod.nolimit.keeps λb o e=>(D.bs b o e).1;have Es:∀y∈G.zip us,a.names.lookup y.1=aa .local\/(a.names.lookup y.1=aa .cell/\((gc (s.heap.objs.size+1) a.names []).lookup y.1).isSome=ah):=λ⟨n,v⟩ hy=>by
  rcases S.par n (wB hy).1 with q|q
  .exact .inl q
  .exact .inr ⟨q,JM _ _ _ (.inl q)⟩
 refine codeAny_call_function Z.depth (KX _ _ lk) rfl S.co S.gen rfl (PySem.W.codeRec_of KX bv) (hb _ _ _ _ ?_);refine wpAny_newFunctionEnv_cells S.kind Es λenv he s1 x=>?_;subst he;refine⟨Y.keeps x.toInCall.keep,codeAny_func ?_⟩;obtain⟨t,ht,hq⟩:=ii A c s H l Q E (Z.deeper _) gT;have I:Inv (jc M P w K L h N d a f z A c s H E) [] (start N l) H s1:=G0 S Z.hd D hl r x;refine fh (ht [] s1 (start N l) H _ I hq) (λfl T B=>?_) λe T B=>B;have C:∀{j:St}{p:Hp}{v:V}{u:ai},Inv (jc M P w K L h N d a f z A c s H E) [] j p T->RelV v u->Q v p->CE c P w H s Q u T :=λ{j p v u} J W q=>⟨v,p,J.os,J.bare,J.base,J.hok,W,q⟩
 cases fl with
 |ret u=>obtain⟨v,j,p,J,W,q⟩:=B;exact C J W q
 |next=>obtain⟨j,p,J,q⟩:=B;exact C (v:=V.non) (u:=Value.none) J rfl q
 |brk=>obtain⟨_,_,_,q⟩:=B;exact iy q
 |cont=>obtain⟨_,_,_,q⟩:=B;exact iy q
section
variable{X:Cx}{x:Str}{p a:Pos}{e:aC}{b:List aC}{t:TA}{c T:String}{r:List V->Hp->VK->Prop}
def Im(r:List V->Hp->VK->Prop)(t:TA):TE:=λd H Q=>t d H λf g=>r f g Q
def mH(y:eG X (.builtin c) r)(v:Gl X x)(u:X.mg x=ae)(o:fA x=aa (.builtin c))(z:PA X (e::b) t)(q:x≠"__name__":=by decide)(n:ad x:=by decide)(w:aV (e::b) X.env=(ak,a9 e X.env)::aV b X.env:=by rfl) (A:(c8 a (aV b X.env)).any (·.1)=ak:=by rfl):PE X (.Call (.Name x p) (e::b) [] a) (Im r t):=by intro f s d H Q I h;refine zS (wd I v u o ?_ q n);exact PyProof.Rows.callWith_builtin1 (aW (z a f s d H _ I h) λi j ⟨g,C,B,l,m⟩=>y f j d C g i Q B l m) w A
def zk(y:eG X (.type T) r)(v:Gl X x)(u:X.mg x=ae)(o:fA x=aa (.type T))(z:PA X (e::b) t)(q:x≠"__name__":=by decide)(n:ad x:=by decide)(w:aV (e::b) X.env=(ak,a9 e X.env)::aV b X.env:=by rfl) (A:(c8 a (aV b X.env)).any (·.1)=ak:=by rfl):PE X (.Call (.Name x p) (e::b) [] a) (Im r t):=by intro f s d H Q I h;refine zS (wd I v u o ?_ q n);exact JG (aW (z a f s d H _ I h) λi j ⟨g,C,B,l,m⟩=>y f j d C g i Q B l m) w A
end
end L2
namespace HT
section
open PySem.SeqAt
open PySem.AutoSeq1 (wpAny_loadPart')
open PySem.MeetsSeq PySem.MeetsSeq2 PySem.MeetsSeq3
end
section
variable{a:aQ}{w:aJ}{A:aX}{E:ai->ao->Prop}{s:ao}
def cat_tup{d c:List ai}(B:IsTup s.heap t d.toArray)(C:IsTup s.heap b c.toArray)(u:d≠[])(F:c=[]->Q (.ref t) s) (D:c≠[]->Q (.ref s.heap.objs.size) {s with heap:=s.heap.push {cls:=.type "tuple",data:=.seq (d++c).toArray}})(l:d.length+c.length<=bo):ar (aw a w) A (js .Add (.ref t) (.ref b)) Q E s:=by
 obtain⟨⟨cls,y,data,o⟩,j,x,n,v⟩:=id B;obtain⟨⟨z,g,m,f⟩,h,r,q,p⟩:=id C;simp only at x v r p;subst x v r p;have e:d.toArray++c.toArray=(d++c).toArray:=by simp
 by_cases i:c=[]
 .exact concat_meets ⟨_,j,rfl⟩ ⟨_,h,rfl⟩ JO seq_tuple_add JP JQ (JR _ _)
   (tuple_addW1 t b d.toArray c.toArray n q y g o f (~~~u) (by simp[i])) ⟨j,h,F i⟩
 .refine concat_meets ⟨_,j,rfl⟩ ⟨_,h,rfl⟩ JO seq_tuple_add JP JQ (JR _ _)
   (tuple_addW2 t b d.toArray c.toArray n q y g o f (~~~u) (~~~i) (by rw[fD,fD];exact l)) ⟨j,h,?_⟩
  rw[e];exact D i
def sIx(n d:Nat):Option Int->Nat
 |none=>d
 |some v=>if v<0 then(v+(n:Int)).toNat else min v.toNat n
def sIx_nat(n d k:Nat):sIx n d (aa (k:Int))=min k n:=by show(if(k:Int)<0 then((k:Int)+(n:Int)).toNat else min (k:Int).toNat n)=min k n;rw[if_neg ∅,lW]
def sIx_le(n d:Nat)(b:d<=n)(o:Option Int):sIx n d o<=n:=by
 cases o with
 |none=>exact b
 |some v=>show(if v<0 then(v+(n:Int)).toNat else min v.toNat n)<=n;lia
def Fy(v:Int)(n d:Nat):(if v<0 then max (v+(n:Int)) 0 else min v (n:Int))=((sIx n d (aa v):Nat):Int):=by
 show(if v<0 then max (v+(n:Int)) 0 else min v (n:Int))=(((if v<0 then(v+(n:Int)).toNat else min v.toNat n):Nat):Int)
 lia
def Oi(b c:Option Int)(n:Nat):JS b c 1 (n:Int)=(((sIx n 0 b:Nat):Int),((sIx n n c:Nat):Int)):=by
 have d:¬((1:Int)<0):=∅
 unfold JS;simp only[d,if_false];refine Prod.ext ?_ ?_
 .cases b with
  |none=>rfl
  |some v=>exact Fy v n 0
 .cases c with
  |none=>rfl
  |some v=>exact Fy v n n
def RC(i j:Nat):Dj (i:Int) (j:Int) 1=j-i:=by unfold Dj;lia
def IN(p:n0 v o)(h:Q o s):ar (aw a w) A (Builtin.Slice.slicePartIndex v) Q E s:=by
 cases p with
 |none=>exact slicePart_none h
 |int i t=>exact slicePart_int h
def SU{i g:ai}{b c:Option Int}{n:Nat}{Q:Int×Int×Nat->ao->Prop}(o:s.heap.IsSliceOf j i g .none)(m:n0 i b)(l:n0 g c)(h:Q (((sIx n 0 b:Nat):Int),1,sIx n n c-sIx n 0 b) s):ar (aw a w) A (Builtin.Slice.sliceApplied (.ref j) (pure (n:Int))) Q E s:=by
 obtain⟨q,f,p,d⟩:=id o;unfold Builtin.Slice.sliceApplied Builtin.Slice.sliceFields;refine aq (aq (lX f d (x:=i) rfl (aq (lX f d (x:=g) rfl (aq (lX f d (x:=.none) rfl (aF ?_)))))));refine aq (slicePart_none ?_);show ar _ _ (if((1:Int) == 0)=ah then _ else _) _ _ s;rw[if_neg (by decide)];refine aq (IN m (aq (IN l (aq (aF ?_)))));show ar _ _ (match JS b c 1 (n:Int)with | (b,c)=>pure (b,(1:Int),Dj b c 1)) _ _ s;rw[Oi b c n];show ar _ _ (pure (((sIx n 0 b:Nat):Int),(1:Int),Dj ((sIx n 0 b:Nat):Int) ((sIx n n c:Nat):Int) 1)) _ _ s;rw[RC];exact aF h
def QM(xs:Array ai)(i k:Nat):((cJ k).filterMap λ(m:Nat)=>xs[((i:Int)+(m:Int)*1).toNat]?).toArray=((xs.toList.drop i).take k).toArray:=by
 have e:(λ(m:Nat)=>xs[((i:Int)+(m:Int)*1).toNat]?)=λm=>xs[i+m]?:=by
  grind
 rw[e];have:=pick_run xs i k;rw[zT]at this;have b:((λx=>xs[x]?) ∘ λx=>i+x)=λm=>xs[i+m]?:=rfl;rw[b]at this;rw[this]
def getItem_tuple_cut{b:Array ai}{o n:ai}{c d:Option Int}{Q:ai->ao->Prop}(f:IsTup s.heap t b)(p:s.heap.IsSliceOf i o n .none)(v:n0 o c)(u:n0 n d)(B:¬(sIx b.size 0 c=0/\sIx b.size b.size d=b.size))(h:Q (.ref s.heap.objs.size) {s with heap:=s.heap.push {cls:=.type "tuple",data:=.seq ((b.toList.drop (sIx b.size 0 c)).take (sIx b.size b.size d-sIx b.size 0 c)).toArray}})(y:b.size<=bo):ar (aw a w) A (qY (.ref t) (.ref i)) Q E s:=by
 have g:sizeOk (.seq ((b.toList.drop (sIx b.size 0 c)).take (sIx b.size b.size d-sIx b.size 0 c)).toArray):=by show((b.toList.drop (sIx b.size 0 c)).take (sIx b.size b.size d-sIx b.size 0 c)).toArray.size<=bo;rw[fD,wE,wF,iP];lia
 have C:sIx b.size b.size d<=b.size:=sIx_le _ _ (bi _) d;obtain⟨x,r,q,z⟩:=id p;have l:s.TypeIs (.ref i) "slice":=⟨x,r,q⟩
 unfold qY
 try with_reducible refine iQ ?_
 first|refine aq (aF ?_)|skip
 refine aq (wpAny_sequenceKey f.typeIs (by decide) ?_);refine aq (wG (name:=ua "__getitem__") f.typeIs U8 (ll U8 f.typeIs entry_tuple_getitem ?_ (args_tuple_getitem _ _)));show ar _ _ (Builtin.Tuple.tupleItemsOf (.ref t) >>= _) _ _ s;refine aq (tupleItemsOf_ f ?_);refine aq (Dk l ?_);rw[if_pos (by decide)];refine aq (SU p v u ?_);have j:¬((((sIx b.size 0 c:Nat):Int) == 0&&(1:Int) == 1&&(sIx b.size b.size d-sIx b.size 0 c) == b.size)=ah):=by lia
 show ar _ _ (if(((sIx b.size 0 c:Nat):Int) == 0&&(1:Int) == 1&&(sIx b.size b.size d-sIx b.size 0 c) == b.size)=ah then _ else _) _ _ s;rw[if_neg j,QM]
 first
  |exact aq (m:=Dl _) (ke (aF ⟨_,rfl,aF h⟩) g)
  |exact aq (m:=Dl _) (ke (aq (aF (aF ⟨_,rfl,aF h⟩))) g)
  |exact aq (aq (m:=Dl _) (ke (aF (aF ⟨_,rfl,aF h⟩)) g))
  |exact aq (aq (m:=Dl _) (ke (aF ⟨_,rfl,aF h⟩) g))
end
end HT
namespace L2
abbrev TO:=St->Hp->(Option Int->Hp->Prop)->Prop
def PO(X:Cx)(e:Option aC)(t:TO):Prop :=
 ∀(b:List (af×Obj)) (s:ao) (a:St) (H:Hp) (Q:Option Int->Hp->Prop),Inv X b a H s->t a H Q ->
  ar X.zz X.A (evalPart e X.env) (λu d=>∃o c,Inv X b a c d/\n0 u o/\Q o c) X.xe s
def Tk:TO:=λ_ H Q=>Q ae H
def NH(t:TE):TO:=λa H Q=>t a H λx b=>∃i,x=.int i/\Q (aa i) b
section
variable{X:Cx}{e:aC}{f:TE}{c d:Option aC}{g j:TO}{n m:Pos}
def OR:PO X ae Tk:=by intro b s a H Q I h;rw[evalPart_none];exact aF ⟨ae,H,I,.none,h⟩
def QT(h:PE X e f):PO X (aa e) (NH f):=by intro p s a H Q I o;rw[evalPart_some];refine aW (h p s a H _ I o) λu w ⟨x,v,r,b,l⟩=>?_;obtain⟨i,rfl,q⟩:=l;obtain⟨t,rfl⟩:=b;exact⟨aa i,v,r,.int i t,q⟩
def nD(X:Cx)(r:V->Option Int->Option Int->Hp->VK->Prop):Prop :=
 ∀(l:List (af×Obj)) (s:ao) (a:St) (H:Hp) (x:V) (v h b:ai) (c d:Option Int) (i:af) (Q:VK),Inv X l a H s->RelV x v->s.heap.IsSliceOf i h b .none->n0 h c->n0 b d->r x c d H Q ->
  ∃T o,typeLookup (.type T) "__getitem__"=pure (aa (.builtin o))/\s.TypeIs v T/\ar X.zz X.A (qY v (.ref i)) (EP X l a Q) X.xe s
def nD.or(h:nD X r)(A:nD X p):nD X (λx c d H Q=>r x c d H Q\/p x c d H Q):=by
 intro z s a H x v i b c d l Q I o y w u q;rcases q with q|q
 .exact h z s a H x v i b c d l Q I o y w u q
 .exact A z s a H x v i b c d l Q I o y w u q
def Sf(r:V->Option Int->Option Int->Hp->VK->Prop)(f:TE)(g j:TO):TE:=λa H Q=>f a H λx i=>g a i λl h=>j a h λu b=>r x l u b Q
def P8{r:V->Option Int->Option Int->Hp->VK->Prop}(M:nD X r)(P:PE X e f)(N:PO X c g)(J:PO X d j):PE X (.Subscript e (.Slice c d ae m) n) (Sf r f g j):=by intro o s i H Q I h;refine Subscript_ (aW (P o s i H _ I h) λv A ⟨x,H1,I1,B,E⟩=>?_);refine wpAny_Slice (aW (N o A i H1 _ I1 E) λw z ⟨l,H2,Z,G,D⟩=>aW (J o z i H2 _ Z D) λp a ⟨u,y,Y,F,C⟩=>?_);rw[evalPart_none];refine aF ?_;have W:Inv X o i y {a with heap:=a.heap.push {cls:=.type "slice",data:=.fields #[w,p,.none]}}:=Y.kept (t':=a.toks) λb ob q=>bL _ q;obtain⟨T,id,S,L,O⟩:=M o {a with heap:=a.heap.push {cls:=.type "slice",data:=.fields #[w,p,.none]}} i y x v w p l u a.heap.objs.size Q W B (Heap.IsSliceOf.new ..) G F C;show ar X.zz X.A (subscriptTail e (.Slice c d ae m) v (.ref a.heap.objs.size)) (EP X o i Q) X.xe {a with heap:=a.heap.push {cls:=.type "slice",data:=.fields #[w,p,.none]}};exact tail_any (ops:=[.ref a.heap.objs.size,v]) L S O (by with_unfolding_all rfl)
def oP(xs:List V)(c d:Option Int):List V:=(xs.drop (HT.sIx xs.length 0 c)).take (HT.sIx xs.length xs.length d-HT.sIx xs.length 0 c)
def Fx(xs:List V)(c d:Option Int):(oP xs c d).length<=xs.length:=by unfold oP;rw[wE,wF];lia
def HR(K:ax):V->Option Int->Option Int->Hp->VK->Prop:=λx c d H Q=>∃a xs,x=.ref a/\cu K H a xs /\
 ¬(HT.sIx xs.length 0 c=0/\HT.sIx xs.length xs.length d=xs.length)/\∀p,H p=ae->Q (.ref p) (upd H p (.tup (oP xs c d)))
def Oy:nD X (HR X.K):=by
 intro L s D H x v F E c d G Q I w C z y h;obtain⟨a,xs,rfl,A,B,q⟩:=h;cases w;obtain⟨i,r,u,p⟩:=I.tuple A;have l:i.toArray.size=xs.length:=by rw[fD];exact r.length.symm
 refine⟨"tuple",_,PyProof.Rows.slot_tuple_getitem.lookup,u.typeIs,?_⟩;refine HT.getItem_tuple_cut u C z y (by rw[l];exact B) ?_ (by rw[l];exact p);rw[l];refine⟨.ref s.heap.objs.size,_,I.laid (t':=s.toks) (o:=.tup (oP xs c d)) (λb J q=>bL _ q) (bi _) ?_,rfl,q _ (I.hok.fresh (bi _))⟩;exact⟨c7 (Fx xs c d) p,_,(r.drop (HT.sIx xs.length 0 c)).take (HT.sIx xs.length xs.length d-HT.sIx xs.length 0 c),JC.new _ _⟩
def Gf(K:ax):R2:=λx y H Q=>∃a b xs h,x=.ref a/\y=.ref b/\cu K H a xs/\cu K H b h/\xs≠[]/\xs.length+h.length<=bo /\
 (h=[]->Q (.ref a) H)/\(h≠[]->∀p,H p=ae->Q (.ref p) (upd H p (.tup (xs++h))))
def bG.nil_iff(r:bG xs a):a=[]↔xs=[]:=by
 cases r with
 |nil=>simp
 |cons _ _=>simp
def VG:cg X (js .Add) (Gf X.K):=by
 intro P s N H x y v u Q I C B h;obtain⟨a,b,xs,A,rfl,rfl,M,L,J,r,E,D⟩:=h;cases C;cases B;obtain⟨G,l,F,_⟩:=I.tuple M;obtain⟨p,i,m,_⟩:=I.tuple L;refine HT.cat_tup F m (λz=>J (l.nil_iff.mp z)) (λz=>⟨.ref a,H,I,rfl,E (i.nil_iff.mp z)⟩) (λz=>?_) (by rw[<-l.length,<-i.length];exact r);refine⟨.ref s.heap.objs.size,_,I.laid (t':=s.toks) (o:=.tup (xs++A)) (λb O q=>bL _ q) (bi _) ?_,rfl,D (λw=>z (i.nil_iff.mpr w)) _ (I.hok.fresh (bi _))⟩;exact⟨by rw[iT];exact r,_,l.append i,JC.new _ _⟩
end
def il(n:Nat)(i:Int):Option Nat:=if 0<=i then(if i<n then aa i.toNat else ae)else if -(n:Int)<=i then aa (i+n).toNat else ae
def fI{a:Type}(xs:List a)(i:Int):Option a:=(il xs.length i).bind λj=>xs[j]?
def A8(h:il n i=aa j):seqIndex? i n=aa j/\j<n/\-(n:Int)<=i/\i<n:=by
 unfold il at h;by_cases b:0<=i
 .rw[if_pos b]at h;by_cases a:i<n
  .rw[if_pos a]at h;have e:i.toNat=j:=f_ h;exact⟨by rw[seqIndex_of b a,e],∅,∅,a⟩
  .rw[if_neg a]at h;cases h
 .rw[if_neg b]at h;by_cases a:-(n:Int)<=i
  .rw[if_pos a]at h;have e:(i+n).toNat=j:=f_ h;exact⟨by rw[seqIndex_neg ∅ a,e],∅,a,∅⟩
  .rw[if_neg a]at h;cases h
def AS{a:Type}{xs:List a}{i:Int}{v:a}(h:fI xs i=aa v):∃j,seqIndex? i xs.length=aa j/\xs[j]?=aa v/\j<xs.length/\-(xs.length:Int)<=i/\i<xs.length:=by
 unfold fI at h;cases e:il xs.length i with
 |none=>rw[e]at h;cases h
 |some j=>rw[e]at h;obtain⟨f,d,c,b⟩:=A8 e;exact⟨j,f,h,d,c,b⟩
def Sv{a:Type}{xs:List a}{j:Nat}{v:a}(h:xs[j]?=aa v):fI xs (j:Int)=aa v:=by
 have b:j<xs.length:=(cP.mp h).1;have e:il xs.length (j:Int)=aa j:=by unfold il;rw[if_pos ∅,if_pos ∅];simp
 unfold fI;rw[e];exact h
def BZ(b:aC):Prop:=∀o i,Dm b ak o i=operate [o,i] (qY o i)
def nr(X:Cx)(r:R2):Prop :=
 ∀(b a:aC) (d:List (af×Obj)) (s:ao) (c:St) (H:Hp) (x y:V) (v u:ai) (Q:VK),Inv X d c H s->RelV x v->RelV y u->r x y H Q ->
  Dm a ak v u=operate [v,u] (qY v u)->ar X.zz X.A (subscriptTail b a v u) (EP X d c Q) X.xe s
def wx(X:Cx)(d:String)(r:V->List V->Hp->VK->Prop):Prop :=
 ∀(c:List (af×Obj)) (s:ao) (a:St) (H:Hp) (x:V) (xs:List V) (v:ai) (b:List ai) (Q:VK),Inv X c a H s->RelV x v->bG xs b->r x xs H Q ->
  ar X.zz X.A (call (.builtin d) (v::b)) (EP X c a Q) X.xe s
section
variable{X:Cx}{a b:aC}{F E:TE}{D:Pos}
def nr.or(h:nr X r)(n:nr X j):nr X (λx y H Q=>r x y H Q\/j x y H Q):=by
 intro c d m s f H x y v u Q I i g q l;rcases q with q|q
 .exact h c d m s f H x y v u Q I i g q l
 .exact n c d m s f H x y v u Q I i g q l
def GN{r:R2}(j:nr X r)(m:PE X a F)(l:PE X b E)(i:BZ b):PE X (.Subscript a b D) (ym r F E):=by intro n s c H Q I h;exact Subscript_ (CQ m l I h λv u d x y p o g f q=>j a b n d c p x y v u Q o g f q (i _ _))
def HG(K:ax):R2:=λx y H Q=>∃p xs i v,x=.ref p/\y=.int i/\cF K H p xs/\fI xs i=aa v/\Q v H
def EX(K:ax):R2:=λx y H Q=>∃p xs i v,x=.ref p/\y=.int i/\cu K H p xs/\fI xs i=aa v/\Q v H
def Fe:R2:=λx y H Q=>∃z i c,x=.str z/\y=.int i/\z.length<=bo/\fI z.cps.toList i=aa c/\Q (.str ⟨#[c]⟩) H
def VI:nr X (HG X.K):=by
 intro d f J s A H x y v u Q I N M h B;obtain⟨p,xs,i,z,rfl,rfl,O,S,q⟩:=h;cases N;obtain⟨t,rfl⟩:=M;obtain⟨m,r,l,Z⟩:=I.list O;obtain⟨j,o,Y,h3,W,T⟩:=AS S;obtain⟨w,G,g⟩:=r.get Y;have P:=r.length;have hn:=sP;have c:EP X J A Q w s:=⟨z,H,I,g,q⟩
 by_cases C:0<=i
 .have n:i.toNat=j:=by
   rw[seqIndex_of C T]at o;lia
  exact item_listR l.isList C ∅ (by rw[n];simpa using G) c B
 .have n:(i+(m.toArray.size:Int)).toNat=j:=by
   rw[seqIndex_neg ∅ W]at o;rw[fD,<-P];exact f_ o
  exact subscriptTail_builtinR (x:=w) l.isList.typeIs slot_list_getitem.lookup
   (wpAny_getItem_list_neg (Q:=λr L=>r=w/\EP X J A Q r L) l.isList ∅ (by rw[fD] <;> lia) ∅ (by rw[n];simpa using G) ⟨rfl,c⟩) B
def VN:nr X (EX X.K):=by
 intro c d n s l H x y v u Q I B A h G;obtain⟨p,xs,i,z,rfl,rfl,J,M,q⟩:=h;cases B;obtain⟨t,rfl⟩:=A;obtain⟨C,r,m,S⟩:=I.tuple J;obtain⟨j,O,N,Z,Y,W⟩:=AS M;obtain⟨w,P,f⟩:=r.get N;have L:=r.length;have T:=sP;have g:EP X n l Q w s:=⟨z,H,I,f,q⟩
 exact subscriptTail_builtinR (x:=w) m.typeIs slot_tuple_getitem.lookup
  (getItem_tuple (j:=j) (Q:=λr o=>r=w/\EP X n l Q r o) m ∅ ∅ (by rw[fD,<-L];exact O) (~~~P) ⟨rfl,g⟩) G
def P0:nr X Fe:=by
 intro d f M s B H x y v u Q I m l h n;obtain⟨z,i,c,rfl,rfl,G,p,q⟩:=h;obtain⟨t,rfl⟩:=m;obtain⟨C,rfl⟩:=l;obtain⟨j,g,A,L,w,r⟩:=AS p;have o:z.cps.toList.length=z.length:=by simp[Str.length]
 rw[o]at g w r;have J:=sP;exact tail_any (typeIs_str s z t) slot_str_getitem.lookup (getItem_str (c:=c) (by lia) (by rw[g];simpa using A) ⟨.str ⟨#[c]⟩,H,I.tok _,⟨_,rfl⟩,q⟩) n
def Iv(K:ax):R2:=λx y H Q=>HG K x y H Q\/EX K x y H Q\/Fe x y H Q
def eC:nr X (Iv X.K):=VI.or (VN.or P0)
def Nq(c:List ai)(n j:Nat)(u:ai):kM (·.setIfInBounds j u) {cls:=.type "list",data:=.seq c.toArray n}={cls:=.type "list",data:=.seq (c.set j u).toArray n}:=by simp[kM]
def Inv.lst{d:List (af×Obj)}{c:St}{H:Hp}{s:ao}{p:af}{xs:List V}(I:Inv X d c H s)(h:H p=aa (.lst xs)):∃(its:List ai) (n:Nat),bG xs its/\s.heap.get? p=aa {cls:=.type "list",data:=.seq its.toArray n}/\xs.length<=bo:=by obtain⟨z,its,n,r,e⟩:=I.hok p _ h;exact⟨its,n,r,e,z⟩
def Inv.lstUpd{d c:List ai}(I:Inv X m j H s)(h:H p=aa (.lst xs))(v:s.heap.get? p=aa {cls:=.type "list",data:=.seq d.toArray n}) (l:f {cls:=.type "list",data:=.seq d.toArray n}={cls:=.type "list",data:=.seq c.toArray i}) (r:bG g c) (o:g.length<=bo) (t:Nat):Inv X m j (upd H p (.lst g)) {s with heap:=s.heap.update p f,toks:=t}:=by
 have e:(s.heap.update p f).get? p=aa {cls:=.type "list",data:=.seq c.toArray i}:=by rw[mM f v (by rw[l] <;> rfl),l]
 refine I.write (x:=p) (e:=p) (by rw[h];trivial) (.inl rfl) (λb u w q=>(pr _ _ (dj w)).trans q) ⟨_,e⟩ ?_;exact⟨o,c,i,r,e⟩
def Mh:V->V->V->Hp->(Hp->Prop)->Prop:=λo i v H Q=>∃p xs k j,o=.ref p/\i=.int k/\H p=aa (.lst xs)/\il xs.length k=aa j/\Q (upd H p (.lst (xs.set j v)))
def IW:HJ X Mh:=by
 intro M s A H o i v N O u Q I C G B h;obtain⟨p,xs,k,j,rfl,rfl,g,L,q⟩:=h;cases C;obtain⟨t,rfl⟩:=G;obtain⟨c,n,r,d,J⟩:=I.lst g;obtain⟨x,S,w,m⟩:=A8 L;have l:=r.length;have P:=sP;have z:Inv X M A (upd H p (.lst (xs.set j v))) {s with heap:=s.heap.update p (kM (·.setIfInBounds j u))} :=I.lstUpd g d (Nq c n j u) (r.set B j) (by rw[ge];exact J) s.toks;by_cases y:0<=k
 .have f:k.toNat=j:=by
   rw[seqIndex_of y m]at x;lia
  exact PySem.W.ki_setAt d y ∅ (by rw[fD,<-l];exact m) (by rw[f];exact⟨_,z,q⟩)
 .have f:(k+(c.toArray.size:Int)).toNat=j:=by
   rw[seqIndex_neg ∅ w]at x
   grind
  exact PySem.W.ki_setBack d ∅ (by rw[fD,<-l];exact w) ∅ (by rw[f];exact⟨_,z,q⟩)
def Q2(c d:Option Int)(n:Nat):(ub c d ae n).1=((HT.sIx n 0 c:Nat):Int)/\(ub c d ae n).2.1=((HT.sIx n n d:Nat):Int)/\(ub c d ae n).2.2=1:=by
 refine⟨?_,?_,rfl⟩
 .cases c with
  |none=>simp[ub,HT.sIx]
  |some i=>
   simp only[ub,HT.sIx,JT,show(1:Int) > 0 by decide,if_true];by_cases h:i<0
   .simp only[h,if_true] <;> lia
   .simp only[h,if_false] <;> lia
 .cases d with
  |none=>simp[ub,HT.sIx]
  |some i=>
   simp only[ub,HT.sIx,JT,show(1:Int) > 0 by decide,if_true];by_cases h:i<0
   .simp only[h,if_true] <;> lia
   .simp only[h,if_false] <;> lia
def Mj(c:List ai)(d f:Option Int):slicePick c.toArray d f ae=((c.drop (HT.sIx c.length 0 d)).take (HT.sIx c.length c.length f-HT.sIx c.length 0 d)).toArray:=by obtain⟨i,h,g⟩:=Q2 d f c.toArray.size;unfold slicePick;rw[i,h,g];simp only[sliceRange_one,pick_run,fD] <;> rfl
def GJ(K:ax):V->Option Int->Option Int->Hp->VK->Prop:=λx c d H Q=>∃a xs,x=.ref a/\cF K H a xs/\∀p,H p=ae->Q (.ref p) (upd H p (.lst (oP xs c d)))
def VC:nD X (GJ X.K):=by
 intro C s w H x v z y c d A Q I g p j i h;obtain⟨a,xs,rfl,n,q⟩:=h;cases g;obtain⟨l,r,f,m⟩:=I.list n;have u:=r.length;refine⟨"list",_,slot_list_getitem.lookup,f.isList.typeIs,?_⟩;refine wpAny_getItem_list_slice f.isList p j i .none (by simp) ?_ (by grind);rw[Mj,<-u];refine⟨.ref s.heap.objs.size,_,I.laid (t':=s.toks) (o:=.lst (oP xs c d)) (λb B q=>bL _ q) (bi _) ?_,rfl,q _ (I.hok.fresh (bi _))⟩;exact⟨c7 (Fx xs c d) m,_,0,(r.drop (HT.sIx xs.length 0 c)).take (HT.sIx xs.length xs.length d-HT.sIx xs.length 0 c),cV _ rfl⟩
def gx:V->Bool
 |.non=>ah
 |.bl _=>ah
 |.int _=>ah
 |.str _=>ah
 |_=>ak
def eT:V->V->Bool
 |.non,.non=>ah
 |.bl a,.bl b=>a == b
 |.bl a,.int b=>(if a then 1 else 0) == b
 |.int a,.bl b=>a == (if b then 1 else 0)
 |.int a,.int b=>a == b
 |.str a,.str b=>a == b
 |_,_=>ak
def GL(f:RelV y u)(c:RelV x v)(h:gx y=ah)(g:gx x=ah):wH A s u v (eT y x):=by
 cases y with
 |non=>
  cases f;cases x with
  |non=>cases c;exact SeqAt.EqAt.same _
  |bl b=>cases c;exact SeqAt.EqAt.none_bool b
  |int b=>obtain⟨t,rfl⟩:=c;exact SeqAt.EqAt.none_int b t
  |str b=>obtain⟨t,rfl⟩:=c;exact SeqAt.EqAt.none_str b t
  |_=>exact absurd (show ak=ah from g) gb
 |bl a=>
  cases f;cases x with
  |non=>cases c;exact SeqAt.EqAt.bool_none a
  |bl b=>cases c;exact SeqAt.EqAt.bool_bool a b
  |int b=>obtain⟨t,rfl⟩:=c;exact SeqAt.EqAt.bool_int a b t
  |str b=>obtain⟨t,rfl⟩:=c;exact SeqAt.EqAt.bool_str a b t
  |_=>exact absurd (show ak=ah from g) gb
 |int a=>
  obtain⟨d,rfl⟩:=f;cases x with
  |non=>cases c;exact SeqAt.EqAt.int_none a d
  |bl b=>cases c;exact SeqAt.EqAt.int_bool a d b
  |int b=>obtain⟨t,rfl⟩:=c;exact JU a d b t
  |str b=>obtain⟨t,rfl⟩:=c;exact SeqAt.EqAt.int_str a d b t
  |_=>exact absurd (show ak=ah from g) gb
 |str a=>
  obtain⟨d,rfl⟩:=f;cases x with
  |non=>cases c;exact SeqAt.EqAt.str_none a d
  |bl b=>cases c;exact SeqAt.EqAt.str_bool a d b
  |int b=>obtain⟨t,rfl⟩:=c;exact SeqAt.EqAt.str_int a d b t
  |str b=>obtain⟨t,rfl⟩:=c;exact JV a d b t
  |_=>exact absurd (show ak=ah from g) gb
 |_=>exact absurd (show ak=ah from h) gb
def j9(x:V)(u:ai):Bool:=match u with
 |.none=>eT .non x
 |.bool b=>eT (.bl b) x
 |.int i _=>eT (.int i) x
 |.str z _=>eT (.str z) x
 |_=>ak
def yx(r:RelV y u)(f:gx y=ah):j9 x u=eT y x:=by
 cases y with
 |non=>cases r;rfl
 |bl b=>cases r;rfl
 |int i=>obtain⟨t,rfl⟩:=r;rfl
 |str z=>obtain⟨t,rfl⟩:=r;rfl
 |_=>exact absurd (show ak=ah from f) gb
def BL:∀{xs:List V}{c:List ai},bG xs c->xs.all gx=ah->c.any (j9 x)=xs.any λy=>eT y x
 |_,_,.nil,_=>rfl
 |y::xs,u::c,.cons r t,f=>by rw[qZ,h_]at f;rw[pt,pt,yx r f.1,BL t f.2]
def sw(g:RelV x v)(h:gx x=ah):∀{xs:List V}{d:List ai},bG xs d->xs.all gx=ah->∀u∈d,wH A s u v (j9 x u)
 |_,_,.nil,_=>λu c=>by cases c
 |y::xs,u::d,.cons r t,f=>λi c=>by
  rw[qZ,h_]at f;rcases cC.mp c with rfl|c
  .rw[yx r f.1];exact GL r g f.1 h
  .exact sw g h t f.2 i c
def oX(x:V)(xs:List V):Bool:=xs.any λy=>eT y x
def BH(K:ax)(c:Bool):R2:=λx y H Q=>∃p xs,y=.ref p/\(cF K H p xs\/cu K H p xs)/\gx x=ah/\xs.all gx=ah/\Q (.bl (if c then !oX x xs else oX x xs)) H
def Tr:cg X (eF .In) (BH X.K ak):=by
 intro o s n H x y v u Q I i l h;obtain⟨p,xs,rfl,d,j,fs,q⟩:=h;cases l;rcases d with d|d
 .obtain⟨c,r,f,m⟩:=I.list d;refine SeqAt.in_listAt (j9 x) f.isList (λw g=>sw i j r fs w (~~~g)) ⟨.bl _,H,I,rfl,?_⟩;rw[show c.toArray.any (j9 x)=c.any (j9 x) by simp,BL r fs];exact q
 .obtain⟨c,r,f,m⟩:=I.tuple d;refine SeqAt.in_tupleAt (j9 x) f (λw g=>sw i j r fs w (~~~g)) ⟨.bl _,H,I,rfl,?_⟩;rw[show c.toArray.any (j9 x)=c.any (j9 x) by simp,BL r fs];exact q
def eG.or(h:eG X f r)(l:eG X f i):eG X f (λxs H Q=>r xs H Q\/i xs H Q):=by
 intro j s c H xs d Q I g q;rcases q with q|q
 .exact h j s c H xs d Q I g q
 .exact l j s c H xs d Q I g q
def Jr:eG X (.type "list") (λxs H Q=>∃p f,xs=[.ref p]/\(cF X.K H p f\/cu X.K H p f)/\∀l,H l=ae->Q (.ref l) (upd H l (.lst f))):=by
 intro L s C H xs M Q I r h;obtain⟨p,f,rfl,v,q⟩:=h;obtain⟨u,rfl,G⟩:=vals1 r;cases G;have w:∀(c:List ai),bG f c->f.length<=bo->∀(d:aB) (i:Nat),(∀b B,s.heap.get? b=aa B->d.get? b=aa B) ->
   d.get? s.heap.objs.size=aa {cls:=.type "list",dict:=ae,data:=.seq c.toArray i,slots:=#[]}->EP X L C Q (.ref s.heap.objs.size) {s with heap:=d}:=λc g m d i j e=>
  ⟨.ref s.heap.objs.size,_,I.laid (t':=s.toks) j (bi _) (show cn X.prog X.w _ d _ (.lst f)from⟨m,c,i,g,e⟩),rfl,q _ (I.hok.fresh (bi _))⟩
 rcases v with v|v
 .obtain⟨c,g,x,m⟩:=I.list v;have J:=g.length;obtain⟨o,y,A,n,z⟩:=x.isList;exact call_list_seq p (.inl rfl) y A z (λd i j e=>w c g m d i j e) (by simp only[fD] <;> lia)
 .obtain⟨c,g,x,m⟩:=I.tuple v;have J:=g.length;obtain⟨o,y,A,n,z⟩:=x;exact call_list_seq p (.inr rfl) y A z (λd i j e=>w c g m d i j e) (by simp only[fD] <;> lia)
def tL:eG X (.type "tuple") (λxs H Q=>∃p d,xs=[.ref p]/\((cF X.K H p d/\∀l,H l=ae->Q (.ref l) (upd H l (.tup d)))\/(cu X.K H p d/\Q (.ref p) H))):=by
 intro n s j H xs z Q I r h;obtain⟨p,d,rfl,h⟩:=h;obtain⟨u,rfl,w⟩:=vals1 r;cases w;rcases h with⟨hq,q⟩|⟨hq,q⟩
 .obtain⟨c,g,i,m⟩:=I.list hq;have A:=g.length;refine call_tuple_list i.isList (λf x=>?_) (by simp only[fD] <;> lia);have v:Inv X n j H {s with heap:=f}:=I.kept (t':=s.toks) x;have y:Inv X n j (upd H f.objs.size (.tup d)) {s with heap:=f.push {cls:=.type "tuple",data:=.seq c.toArray}} :=v.laid (t':=s.toks) (λb o e=>bL _ e) (bi _) (show cn X.prog X.w _ _ _ (.tup d)from⟨m,c,g,JC.new _ _⟩);exact⟨.ref f.objs.size,_,y,rfl,q _ (v.hok.fresh (bi _))⟩
 .obtain⟨c,g,i,m⟩:=I.tuple hq;exact call_tuple_same i ⟨.ref p,H,I,rfl,q⟩
def Ji(K:ax)(T:String)(x:V)(H:Hp):Prop:=match x with
 |.str _=>T = "str"
 |.int _=>T = "int"
 |.ref p=>(T = "list"/\∃xs,cF K H p xs)\/(T = "tuple"/\∃o,K.lookup p=aa o/\o.cls=.type "tuple"/\o.dict=ae) \/
   (T = "dict"/\((∃c,H p=aa (.dK c))\/∃c,H p=aa (.dT c)))\/(T = "set"/\∃S n,H p=aa (.set S n))
 |_=>False
def NS{q:List (af×Obj)}{l:St}{H:Hp}{s:ao}{T:String}{x:V}{v:ai}(I:Inv X q l H s)(r:RelV x v)(ty:Ji X.K T x H):s.TypeIs v T/\∀a,v=.ref a->∃j,s.heap.get? a=aa j/\j.dict=ae:=by
 cases x with
 |str z=>
  obtain⟨t,rfl⟩:=r;cases (show T = "str" from ty);exact⟨typeIs_str s z t,λ_ e=>nomatch e⟩
 |int i=>
  obtain⟨t,rfl⟩:=r;cases (show T = "int" from ty);exact⟨typeIs_int s i t,λ_ e=>nomatch e⟩
 |ref p=>
  cases r;rcases ty with⟨rfl,xs,hq⟩|⟨rfl,o,hk,hc,f⟩|⟨rfl,hk⟩|⟨rfl,S,n,hk⟩
  .obtain⟨m,_,h,_⟩:=I.list hq;refine⟨h.isList.typeIs,λa e=>?_⟩;cases e;obtain⟨o,n,e,c,f,_⟩:=h;exact⟨o,e,f⟩
  .refine⟨⟨o,I.kIn p o hk,hc⟩,λa e=>?_⟩;cases e;exact⟨o,I.kIn _ o hk,f⟩
  .have z:∃o,s.heap.get? p=aa o/\o.ExactDict:=by
    rcases hk with⟨kvs,hk⟩|⟨kvs,hk⟩
    .obtain⟨_,_,_,_,o,_,_,e,d,_⟩:=I.hok p _ hk;exact⟨o,e,d⟩
    .obtain⟨_,_,_,_,o,_,_,e,d,_⟩:=I.hok p _ hk;exact⟨o,e,d⟩
   obtain⟨o,e,d⟩:=z;refine⟨⟨o,e,d.1⟩,λa g=>?_⟩;cases g;exact⟨o,e,d.2.1⟩
  .obtain⟨o,_,_,_,e,d,_⟩:=I.hok p _ hk;refine⟨⟨o,e,d.1⟩,λa g=>?_⟩;cases g;exact⟨o,e,d.2.1⟩
 |_=>exact iy ty
def NB(K:ax)(T:String)(r:V->List V->Hp->VK->Prop)(B:TE)(t:TA):TE:=λc H Q=>B c H λx d=>Ji K T x d/\t c d λxs f=>r x xs f Q
variable{o e:aC}{es:List aC}{B:TE}{t:TA}{g:Str}{m d:Pos}{T C:String}{r:V->List V->Hp->VK->Prop}
def wc(O:PlainAttrs T)(c:Slot T g C)(A:typeOf (.builtin C)=pure (.type "method_descriptor"))(W:wx X C r)(S:PE X o B)(Y:PA X (e::es) t)(J:n4 o g X.env (a9 o X.env)=a9 o X.env:=by rfl)(w:((c8 d (aV (e::es) X.env)).all (λx=>!x.1)&&(q8 d (q_ [] X.env)).all (λx=>x.1.isSome)&&decide ((e::es).length+([]:List jL).length+(if([]:List jL).isEmpty then 0 else 1)<30))=ah:=by rfl)(G:(m.endLine == d.line)=ah:=by rfl) (P:aV (e::es) X.env=(ak,a9 e X.env)::aV es X.env:=by rfl) (p:(c8 d (aV es X.env)).any (·.1)=ak:=by rfl):PE X (.Call (.Attribute o g m) (e::es) [] d) (NB X.K T r B t):=by intro i s f H Q I h;refine wpAny_Call_method_late J w G rfl (aW (S i s f H _ I h) λv z ⟨x,H1,n,j,ty,N⟩=>?_);obtain⟨h1,Z⟩:=NS n j ty;refine⟨T,C,O,c,A,h1,Z,?_⟩;have l:=Y d i z f H1 _ n N;rw[P]at l ⊢;refine JW (by show(ak||(c8 d (aV es X.env)).any (·.1))=ak;rw[p] <;> rfl) (Do ?_);exact aW l λu y ⟨q,H2,I2,L,M⟩=>W i y f H2 x q v u Q I2 j L M
end
def ww(X:Cx)(d:String)(r:V->List V->Hp->VK->Prop):Prop :=
 ∀(c:List (af×Obj)) (s:ao) (a:St) (H:Hp) (x:V) (xs:List V) (v:ai) (b:List ai) (Q:VK),Inv X c a H s->RelV x v->bG xs b->r x xs H Q ->
  ar X.zz X.A (call (.builtin d) (v::b)) (EP X c a Q) X.xe s
def bG.one:∀{x:V}{a:List ai},bG [x] a->∃u,a=[u]/\RelV x u
 |_,_,.cons r .nil=>⟨_,rfl,r⟩
section
variable{X:Cx}{d:List (af×Obj)}{a:St}{H:Hp}{s:ao}{l b:af}{g c i:List V}
def Inv.lset{h its':List ai}(I:Inv X d a H s)(w:H l=aa (.lst g))(e:s.heap.get? l=aa {cls:=.type "list",data:=.seq h.toArray n}) (r:f h.toArray=its'.toArray) (o:bG c its') (m:c.length<=bo):Inv X d a (upd H l (.lst c)) {s with heap:=s.heap.update l (kM f),toks:=j}:=by have q:=PySem.IsL.update e f;rw[r]at q;refine I.write (x:=l) (e:=l) (by rw[w];exact trivial) (.inl rfl) (λy u v p=>(pr s.heap (kM f) (dj v)).trans p) ⟨_,q⟩ ?_;exact⟨m,its',_,o,q⟩
def Inv.lnew(I:Inv X d a H s)(h:bG c its)(f:c.length<=bo):Inv X d a (upd H s.heap.objs.size (.lst c)) {s with heap:=s.heap.push {cls:=.type "list",data:=.seq its.toArray},toks:=t'} :=I.laid (λ_ _ q=>bL _ q) (bi _) ⟨f,its,0,h,cV _ rfl⟩
def Inv.fresh(I:Inv X d a H s):H s.heap.objs.size=ae:=I.hok.fresh (bi _)
def Inv.lstM(I:Inv X d a H s)(h:H l=aa (.lst g)):g.length<=bo/\∃(f:List ai) (n:Nat),bG g f/\g.length=f.length/\s.heap.get? l=aa {cls:=.type "list",data:=.seq f.toArray n}:=by obtain⟨z,f,n,r,e⟩:=I.hok l _ h;exact⟨z,f,n,r,r.length,e⟩
def SM(h:n<=bo):JX n=ak:=by unfold JX;lia
end
section
variable{X:Cx}
def QH:V->List V->Hp->VK->Prop:=λx a H Q=>∃l xs y,x=.ref l/\a=[y]/\H l=aa (.lst xs)/\xs.length<bo/\Q .non (upd H l (.lst (xs++[y])))
def Hm:ww X "list.append" QH:=by
 intro o s f H x g v i Q I b c h;obtain⟨l,xs,y,rfl,rfl,a,j,q⟩:=h;cases b;obtain⟨u,rfl,d⟩:=c.one;obtain⟨z,its,n,r,m,e⟩:=I.lstM a;refine zU F.slot_list_append ⟨_,e,rfl⟩ F.entry_list_append (F.args_list_append_2 _ _) (PySem.list_append l its.toArray n u (by grind)) ⟨e,?_⟩;refine⟨.non,_,I.lset (its':=its++[u]) a e (by simp) (r.append (.cons d .nil)) ?_,rfl,q⟩
 grind
def Qa{a:Type}(xs:List a)(k:Nat):(dW k xs).flatten.length=k*xs.length:=by simp_all
end
section
variable{κ:Type}[DecidableEq κ]
def j5(a:List (κ×V))(k:κ):Option V:=(a.find? λb=>decide (b.1=k)).map (·.2)
def fZ(a:List (κ×V))(k:κ)(v:V):List (κ×V) :=if(a.any λb=>decide (b.1=k))=ah then a.map (λb=>if b.1=k then(b.1,v)else b)else a++[(k,v)]
def zf{p:κ×V}(e:p.1=k):j5 (p::r) k=aa p.2:=by simp[j5,n5,e]
def yK{p:κ×V}(e:¬p.1=k):j5 (p::r) k=j5 r k:=by simp[j5,n5,e]
def F9(k:κ):∀a:List (κ×V),(a.any λb=>decide (b.1=k))=(j5 a k).isSome
 |[]=>rfl
 |p::r=>by
  rw[pt];by_cases e:p.1=k
  .simp only[zf e,decide_eq_true e,Bool.true_or,Option.isSome_some]
  .rw[yK e,decide_eq_false e,Bool.false_or];exact F9 k r
def C6(a:List (κ×V))(k:κ)(v:V):(fZ a k v).length<=a.length+1:=by
 unfold fZ
 grind
def pc.isSome_eq(r:pc o u):o.isSome=u.isSome:=by
 cases o with
 |none=>cases u with
  |none=>rfl
  |some _=>exact(show False from r).elim
 |some _=>cases u with
  |none=>exact(show False from r).elim
  |some _=>rfl
def pc.getD(r:pc o u)(rd:RelV d a):RelV (o.getD d) (u.getD a):=by
 cases o with
 |none=>cases u with
  |none=>exact rd
  |some _=>exact(show False from r).elim
 |some _=>cases u with
  |none=>exact(show False from r).elim
  |some _=>exact r
def KV.val(r:KV a d)(k:κ):pc (j5 a k) (uc d k):=by
 unfold KV at r
 induction r with
 |nil=>exact True.intro
 |@cons p q ps qs h t ih=>
  obtain⟨f,g⟩:=h;by_cases e:p.1=k
  .have c:q.1=k:=f.symm.trans e;have b:uc (q::qs) k=aa q.2:=by simp[uc,n5,c]
   rw[zf e,b];exact g
  .have c:¬q.1=k:=λz=>e (f.trans z);have b:uc (q::qs) k=uc qs k:=by simp[uc,n5,c]
   rw[yK e,b];exact ih
def KV.any{a:List (κ×V)}{c:List (κ×ai)}(r:KV a c)(k:κ):(a.any λb=>decide (b.1=k))=c.any λb=>decide (b.1=k):=by
 unfold KV at r
 induction r with
 |nil=>rfl
 |cons h t d=>rw[pt,pt,d,h.1]
def KV.repl(r:KV b c)(k:κ)(d:RelV y u):KV (b.map λa=>if a.1=k then(a.1,y)else a) (c.map λa=>if a.1=k then(a.1,u)else a):=by
 unfold KV at r ⊢
 induction r with
 |nil=>exact .nil
 |@cons p q ps qs h t ih=>rw[cR,cR];refine .cons ?_ ih;lia
def KV.put(r:KV a b)(k:κ)(c:RelV y u):KV (fZ a k y) (stored b k u):=by
 unfold fZ stored;rw[r.any k];by_cases e:(b.any λd=>decide (d.1=k))=ah
 .rw[if_pos e,if_pos e];exact r.repl k c
 .rw[if_neg e,if_neg e];exact zV r ⟨rfl,c⟩
def KV.length{kvs:List (κ×V)}{a:List (κ×ai)}(r:KV kvs a):kvs.length=a.length:=qP r
end
def t5(r:RelV (kV k) u):(g9 P w).is k u=ah:=by
 cases k with
 |inl i=>obtain⟨t,e⟩:=(show ∃t,u=Value.int i t from r);subst e;exact LC P w i t
 |inr x=>obtain⟨t,e⟩:=(show ∃t,u=Value.str x t from r);subst e;exact NR P w x t
def FT:∀{ks:List aK}{a:List ai},bG (ks.map kV) a->ItemsAre (g9 P w) ks a
 |[],_,r=>by rw[zW]at r;cases r;exact .nil
 |k::ks,_,r=>by
  rw[cR]at r;cases r with
  |cons h t=>exact .cons (t5 h) (FT t)
abbrev KT(H:Hp):List (List aK×V)->List (List aK×af×ai)->Prop:=eV λp q=>p.1=q.1/\H q.2.1=aa (.tup (p.1.map kV))/\RelV p.2 q.2.2
def KT.val(r:KT H a xs)(k:List aK):pc (j5 a k) ((atKey xs k).map (·.2)):=by
 induction r with
 |nil=>exact True.intro
 |@cons p q ps qs h t ih=>
  obtain⟨d,_,f⟩:=h;by_cases e:p.1=k
  .have c:q.1=k:=d.symm.trans e;have b:atKey (q::qs) k=aa q.2:=by simp[atKey,n5,c]
   rw[zf e,b];exact f
  .have c:¬q.1=k:=λz=>e (d.trans z);have b:atKey (q::qs) k=atKey qs k:=by simp[atKey,n5,c]
   rw[yK e,b];exact ih
def KT.repl(r:KT H a xs)(k:List aK)(c:RelV y u):KT H (a.map λb=>if b.1=k then(b.1,y)else b) (xs.map (putAt k u)):=by
 induction r with
 |nil=>exact .nil
 |@cons p q ps qs h t ih=>rw[cR,cR];refine .cons ?_ ih;obtain⟨g,f,d⟩:=h;unfold putAt;lia
def KT.put(r:KT H a xs)(k:List aK)(f:H b=aa (.tup (k.map kV)))(c:RelV y u):KT H (fZ a k y) (storedH xs k b u):=by
 have e:(a.any λd=>decide (d.1=k))=(atKey xs k).isSome:=by rw[F9,(r.val k).isSome_eq,JY]
 unfold fZ storedH;rw[e];by_cases q:(atKey xs k).isSome=ah
 .rw[if_pos q,if_pos q];exact r.repl k c
 .rw[if_neg q,if_neg q];exact zV r ⟨rfl,f,c⟩
def KT.keeps(r:KT H a xs)(f:∀b c,H b=aa (.tup c)->d b=aa (.tup c)):KT d a xs :=Paired.mapP r λ_ _ z=>⟨z.1,f _ _ z.2.1,z.2.2⟩
section
variable{P:aQ}{w:aJ}{H:Hp}{h:aB}{a:af}
def Ib(ok:dy P w H h)(e:Rd H a u):cn P w H h a u:=e.ok ok
def qM(ok:dy P w H h)(e:Rd H a (.dK b)):b.length<=bo/\(a == jK)=ak/\∃c,KV b c/\h.DictOf (g9 P w) a c :=show cn P w H h a (.dK b)from Ib ok e
def Cd{kvs:List (aK×V)}(ok:dy P w H h)(e:H a=aa (.dK kvs)):kvs.length<=bo/\(a == jK)=ak/\∃b,KV kvs b/\h.DictOf (g9 P w) a b:=qM ok (.inl e)
def tD{ks:List aK}(ok:dy P w H h)(e:H a=aa (.tup (ks.map kV))):(t7 (g9 P w)).is h ks a:=by
 obtain⟨_,b,r,⟨o,f,d,n,c⟩,_⟩:=(show cn P w H h a (.tup (ks.map kV))from ok a _ e)
 exact⟨o,b.toArray,n,f,d,c,by simpa using FT r⟩
def tQ(ok:dy P w H h)(e:Rd H a (.dT b)):b.length<=bo/\(a == jK)=ak /\ ∃xs,KT H b xs/\h.DictOfH (t7 (g9 P w)) a xs:=by
 obtain⟨z,y,xs,r,o,n,s,j,i,g,f,d⟩:=(show cn P w H h a (.dT b)from Ib ok e)
 refine⟨z,y,xs,r,o,n,s,j,i,g,f,λx c=>?_,d⟩;have all:∀{l:List (List aK×V)}{m:List (List aK×af×ai)},KT H l m->∀x∈m,(t7 (g9 P w)).is h x.1 x.2.1:=by
  intro l m q
  induction q with
  |nil=>grind
  |@cons p q ps qs hq t ih=>
   intro x c;rcases cC.mp c with e|c
   .subst e;exact tD ok (by rw[<-hq.1];exact hq.2.1)
   .exact ih x c
 exact all r x c
def Fj(ok:dy P w H h)(e:H a=aa (.dT b)):b.length<=bo/\(a == jK)=ak /\ ∃xs,KT H b xs/\h.DictOfH (t7 (g9 P w)) a xs:=tQ ok (.inl e)
end
def ny(H:Hp)(a:af)(y:V)(r:Option V):Prop :=(∃c k,Rd H a (.dK c)/\y=kV k/\r=j5 c k)\/∃c k b,Rd H a (.dT c)/\y=.ref b/\H b=aa (.tup (k.map kV))/\r=j5 c k
def zN(H:Hp)(a:af)(y v:V)(d:Hp):Prop :=
 (∃c k,H a=aa (.dK c)/\y=kV k/\c.length<bo/\d=upd H a (.dK (fZ c k v))) \/
 ∃c k b,H a=aa (.dT c)/\y=.ref b/\H b=aa (.tup (k.map kV))/\c.length<bo/\d=upd H a (.dT (fZ c k v))
def ny.k{H:Hp}{a:af}{kvs:List (aK×V)}{k:aK}(e:H a=aa (.dK kvs)):ny H a (kV k) (j5 kvs k):=.inl ⟨kvs,k,.inl e,rfl,rfl⟩
def zN.k{H:Hp}{a:af}{kvs:List (aK×V)}{k:aK}{v:V}(e:H a=aa (.dK kvs))(b:kvs.length<bo):zN H a (kV k) v (upd H a (.dK (fZ kvs k v))):=.inl ⟨kvs,k,e,rfl,b,rfl⟩
def zN.t{H:Hp}{a b:af}{c:List (List aK×V)}{k:List aK}{v:V}(e:H a=aa (.dT c))(f:H b=aa (.tup (k.map kV)))(d:c.length<bo):zN H a (.ref b) v (upd H a (.dT (fZ c k v))):=.inr ⟨c,k,b,e,rfl,f,d,rfl⟩
section
variable{X:Cx}{f:List (af×Obj)}{d:St}{H:Hp}{s:ao}{a:af}{y v:V}{u r:ai}{o:Option V}{A:aX}{E:ai->ao->Prop}
def Inv.big(I:Inv X f d H s):jK<s.heap.objs.size:=by have h:cm<s.heap.objs.size:=(I.mod.glob.keeps I.bk).lt;exact wI (by decide) h
def PH{Q:ai->ao->Prop}(C:A.units+1<cLine)(I:Inv X f d H s)(g:ny H a y (aa v))(w:RelV y u)(h:∀j q,Inv X f d H q->RelV v j->Q j q):ar X.zz A (qY (.ref a) u) Q E s:=by
 rcases g with⟨kvs,k,e,ey,l⟩|⟨kvs,k,b,e,ey,eb,l⟩
 .subst ey;obtain⟨z,F,x,i,n⟩:=qM I.hok e;obtain⟨j,m,c⟩:=pc.some_of (v:=v) (o:=uc x k) (by rw[l];exact i.val k);exact wpAny_getItem_of (t5 w) n.mapOf m (h j _ (I.tok _) c)
 .subst ey;cases (show u=Value.ref b from w);obtain⟨z,F,xs,i,n⟩:=tQ I.hok e;obtain⟨j,m,c⟩:=pc.some_of (v:=v) (o:=(atKey xs k).map (·.2)) (by rw[l];exact i.val k);obtain⟨p,D,B⟩:=mO.mp m;refine wpAny_getItem_heap (Dp C) (tD I.hok eb) n D ?_;rw[B];exact h j _ (I.tok _) c
def UM{Q:ai->ao->Prop}(p:A.units+1<cLine)(I:Inv X f d H s)(g:ny H a y o)(n:RelV y u)(h:∀m,Inv X f d H m->Q (.bool o.isSome) m):ar X.zz A (eF .In u (.ref a)) Q E s:=by
 rcases g with⟨kvs,k,e,ey,l⟩|⟨kvs,k,b,e,ey,eb,l⟩
 .subst ey;obtain⟨z,i,w,c,j⟩:=qM I.hok e;refine wpAny_in_of (t5 n) i j.mapOf ?_;rw[<-(c.val k).isSome_eq,<-l];exact h _ (I.tok _)
 .subst ey;cases (show u=Value.ref b from n);obtain⟨z,i,xs,c,j⟩:=tQ I.hok e;refine wpAny_in_heap (Dp p) (tD I.hok eb) i j ?_;have q:=(c.val k).isSome_eq;rw[JY]at q;rw[<-q,<-l];exact h _ (I.tok _)
def ye{h':aB}{t':Nat}{c:HO}(I:Inv X f d H s)(g:vy (H a))(h:ka a s.heap h')(i:∃q,h'.get? a=aa q)(new:cn X.prog X.w (upd H a c) h' a c):Inv X f d (upd H a c) {s with heap:=h',toks:=t'} :=I.write (x:=a) (e:=a) g (.inl rfl) (λb q j z=>(h.2 b j).trans z) i new
def Fk{P:aQ}{w:aJ}{j:Hp}{h':aB}{b:List (aK×V)}{c:List (aK×ai)}(z:b.length<=bo)(h:(a == jK)=ak)(g:KV b c)(i:h'.DictOf (g9 P w) a c):cn P w j h' a (.dK b):=⟨z,h,c,g,i⟩
def N4{L:Hp}{Q:Unit->ao->Prop}(N:A.units+1<cLine)(I:Inv X f d H s)(g:zN H a y v L)(D:RelV y u)(F:RelV v r)(h:∀C,Inv X f d L C->Q () C):ar X.zz A (setItem (.ref a) u r) Q E s:=by
 rcases g with⟨kvs,k,e,ey,l,eH⟩|⟨kvs,k,b,e,ey,eb,l,eH⟩
 .subst ey eH;obtain⟨z,x,M,i,B⟩:=Cd I.hok e;have n:M.length<=bo:=by rw[<-i.length];exact z
  have w:(fZ kvs k v).length<=bo:=by have:=C6 kvs k v;lia
  refine wpAny_setItem_pairs (hsz:=n) (t5 D) B λG j p=>h _ ?_;have O:∃q,G.get? a=aa q:=let ⟨q,_,_,m,_⟩:=j;⟨q,m⟩
  exact ye I (by rw[e];exact True.intro) p O (Fk w x (i.put k F) j)
 .subst ey eH;cases (show u=Value.ref b from D);obtain⟨z,x,xs,i,B⟩:=Fj I.hok e;have n:xs.length<=bo:=by rw[<-qP i];exact z
  have w:(fZ kvs k v).length<=bo:=by have:=C6 kvs k v;lia
  refine wpAny_setItem_heap (hsz:=n) (Dp N) (tD I.hok eb) B λG j p=>h _ ?_;obtain⟨q,Y,Z,m,W,T,S,_,P⟩:=j;refine ye I (by rw[e];exact True.intro) p ⟨q,m⟩ ⟨w,x,_,(i.put k eb F).keeps λc ys J=>?_,q,Y,Z,m,W,T,S,P⟩;rw[a8 (ya J e (λz=>nomatch z))];exact J
end
section
variable{X:Cx}{d:List (af×Obj)}{c:St}{H:Hp}{s:ao}{a:af}{b:List (aK×V)}{k:aK}{u:ai}{A:aX}{E:ai->ao->Prop}
def Tw(I:Inv X d c H s)(e:Rd H a (.dK b))(h:∀t g,Inv X d c H g->Q (.int b.length t) g):ar X.zz A (call (.builtin "len") [.ref a]) Q E s:=by obtain⟨z,i,l,f,j⟩:=qM I.hok e;refine call_len_dict i j (by rw[<-f.length];rw[t_]at z;lia) ?_;rw[<-f.length];exact h _ _ (I.tok _)
end
def BU(i:aC):Prop:=∀a b,Dm i ak a b=operate [a,b] (qY a b)
def Ur{a:aQ}{w:aJ}{A:aX}{E:ai->ao->Prop}{s:ao}{m:Env}{c b:aC}{q:Pos}{T v:String}{Q:ai->ao->Prop}(z:typeLookup (.type T) "__getitem__"=pure (aa (.builtin v))) (y:BU b)(h:ar (aw a w) A (a9 c m) (λo j=>ar (aw a w) A (a9 b m) (λi d=>d.TypeIs o T/\ar (aw a w) A (qY o i) Q E d) E j) E s):ar (aw a w) A (a9 (.Subscript c b q) m) Q E s:=by
 refine Subscript_ (fh h (λo j p=>fh p (λi d f=>?_) λ_ _ x=>x) λ_ _ x=>x);obtain⟨u,f⟩:=f;unfold subscriptTail;refine aq ?_;rw[getitemInPython_of_ne u.not_modules];refine aq (wJ u z ?_);have l:ar (aw a w) A (Dm b ak o i) (λr g=>ar (aw a w) A (letTemporaryGo c o r >>= λ_=>pure r) Q E g) E d:=by rw[y o i];exact wpAny_operating (fh f (λr g n=>aq (wpAny_letTemporaryGo (aF n))) λ_ _ x=>x)
 first
  |exact aF (aq l)
  |exact aq (aF (aq l))
  |exact aq l
def Pp{X:Cx}{f:List (af×Obj)}{d:St}{H:Hp}{s:ao}{a:af}{y:V}{o:Option V}(I:Inv X f d H s)(g:ny H a y o):s.TypeIs (.ref a) "dict":=by
 rcases g with⟨kvs,k,e,_,_⟩|⟨kvs,k,b,e,_,_,_⟩
 .obtain⟨_,_,h,_,c⟩:=qM I.hok e;exact c.typeIs
 .obtain⟨_,_,xs,_,c⟩:=tQ I.hok e;exact c.typeIs
def NC(d ty:TE):TE:=λb H Q=>d b H λx f=>ty b f λy c=>∃a v,x=.ref a/\ny c a y (aa v)/\Q v c
def Uk(ty d:TE):TE:=λb H Q=>ty b H λy f=>d b f λx c=>∃a o,x=.ref a/\ny c a y o/\Q (.bl o.isSome) c
def Nt(f ty d:TE):TS:=λD b H=>d b H λv i=>f b i λx h=>ty b h λy g=>∃a c,x=.ref a/\zN g a y v c/\D.nx b c
section
variable{X:Cx}{o i e b:aC}{d c l:Pos}{f ty j:TE}
def Lf(C:X.A.units+1<cLine)(E:PE X o f)(F:PE X i ty)(D:BU i):PE X (.Subscript o i d) (NC f ty):=by intro p s n H Q I h;refine Ur PySem.F.slot_dict_getitem.lookup D (aW (E p s n H _ I h) λu r ⟨x,N,L,z,B⟩=>aW (F p r n N _ L B) λT S ⟨y,M,q,w,a,v,G,g,A⟩=>?_);subst G;obtain rfl:u=Value.ref a:=z;exact⟨Pp q g,PH C q g w λO P J m=>⟨v,M,J,m,A⟩⟩
def P4(A:X.A.units+1<cLine)(C:PE X i ty)(B:PE X o f):PC X .In i o (Uk ty f):=by intro n s m H Q I h;refine aW (C n s m H _ I h) λO p ⟨y,L,G,q,w⟩=>aW (B n p m L _ G w) λu N ⟨x,J,F,r,a,z,D,g,v⟩=>?_;subst D;obtain rfl:u=Value.ref a:=r;exact UM A F g q λM E=>⟨.bl z.isSome,J,E,rfl,v⟩
def FL(G:X.A.units+1<cLine)(L:PE X o f)(M:PE X i ty)(F:PE X b j)(J:jr b (aa (.Subscript o i c)) d.line X.env=pure ak):PS X (.Assign [.Subscript o i c] b d) (Nt f ty j):=by intro n s m H D I h;refine wpAny_Assign_Subscript (aW (F n s m H _ I h) λr q ⟨v,Y,S,A,E⟩=>aW (L n q m Y _ S E) λu p ⟨x,W,Q,z,C⟩=>aW (M n p m W _ Q C) λiv s3 ⟨y,H3,P,w,a,T,N,g,B⟩=>?_) J;subst N;obtain rfl:u=Value.ref a:=z;exact N4 G P g w A λZ O=>⟨m,T,O,B⟩
end
def Go{P:aQ}{w:aJ}{H:Hp}(h:aB)(a:jK<h.objs.size):cn P w H (h.push {cls:=.type "dict",data:=.dict #[]}) h.objs.size (.dK []) :=⟨jM _,beq_eq_false_iff_ne.mpr (dj (dE a)),[],.nil,Heap.DictOf.new h⟩
def He(h:aB)(a:jK<h.objs.size):cn P w H (h.push {cls:=.type "dict",data:=.dict #[]}) h.objs.size (.dT []) :=⟨jM _,beq_eq_false_iff_ne.mpr (dj (dE a)),[],.nil,_,#[],0,cV _ rfl,⟨rfl,rfl,rfl⟩,rfl,rfl,ud⟩
def Rs:TE:=λ_ H Q=>∀p,H p=ae->Q (.ref p) (upd H p (.dK []))
def O4:TE:=λ_ H Q=>∀p,H p=ae->Q (.ref p) (upd H p (.dT []))
section
variable{X:Cx}{b:Pos}
def NT:PE X (.Dict [] [] b) Rs:=λd s c H Q I h=>wpAny_Dict_empty ⟨.ref s.heap.objs.size,_,I.laid (a:=s.heap.objs.size) (o:=.dK []) (t':=s.toks) (λ_ _ q=>bL _ q) (bi _) (Go s.heap I.big),rfl,h _ (I.hok.fresh (bi _))⟩
def T6:PE X (.Dict [] [] b) O4:=λd s c H Q I h=>wpAny_Dict_empty ⟨.ref s.heap.objs.size,_,I.laid (a:=s.heap.objs.size) (o:=.dT []) (t':=s.toks) (λ_ _ q=>bL _ q) (bi _) (He s.heap I.big),rfl,h _ (I.hok.fresh (bi _))⟩
end
def yO:List (TE×TE)->St->Hp->(List (V×V)->Hp->Prop)->Prop
 |[],_,H,Q=>Q [] H
 | (c,b)::r,a,H,Q=>c a H λx h=>b a h λy g=>yO r a g λd f=>Q ((x,y)::d) f
abbrev VV:List (V×V)->List (ai×ai)->Prop:=eV λp q=>RelV p.1 q.1/\RelV p.2 q.2
def tE(X:Cx)(d:Pos)(keys:List (Option aC))(a:List aC)(c:List (TE×TE)):Prop :=
 ∀(g:List (af×Obj)) (s:ao) (b:St) (H:Hp) (Q:List (V×V)->Hp->Prop),Inv X g b H s->yO c b H Q ->
  ar X.zz X.A (evalPairs (pairTrees keys a X.env d)) (λi j=>∃f h,Inv X g b h j/\VV f i/\Q f h) X.xe s
def IK:tE X a [] [] []:=λc s b H Q I h=>pairTrees_nil_walk ⟨[],H,I,.nil,h⟩
def Hg{X:Cx}{b:Pos}{k v:aC}{ks:List (Option aC)}{g:List aC}{j i:TE}{a:List (TE×TE)}(B:PE X k j)(z:PE X v i)(A:tE X b ks g a):tE X b (aa k::ks) (v::g) ((j,i)::a):=λf s c H Q I h=>pairTrees_cons_walk (aW (B f s c H _ I h) λu m ⟨x,J,E,o,r⟩=>aW (z f m c J _ E r) λM l ⟨y,G,D,n,q⟩=>aW (A f l c G _ D q) λL N ⟨w,F,C,d,p⟩=>⟨(x,y)::w,F,C,.cons ⟨o,n⟩ d,p⟩)
def t4(a more:List (aK×V)):List (aK×V):=more.foldl (λc b=>fZ c b.1 b.2) a
def KV.merge:∀{more:List (aK×V)}{c:List (aK×ai)}{a:List (aK×V)}{b:List (aK×ai)},KV more c->KV a b->KV (t4 a more) (merged b c):=by
 intro more c a b r;unfold KV at r
 induction r generalizing a b with
 |nil=>intro q;exact q
 |@cons p q ps qs h t ih=>
  intro d;have e:KV (fZ a p.1 p.2) (stored b q.1 q.2):=by have:=d.put p.1 h.2;rw[<-h.1];exact this
  exact ih e
def Ia:∀(more a:List (aK×V)),(t4 a more).length<=a.length+more.length
 |[],a=>by show a.length<=a.length+0;lia
 |p::r,a=>by
  have c:=Ia r (fZ a p.1 p.2);have b:=C6 a p.1 p.2;show(t4 (fZ a p.1 p.2) r).length<=_
  grind
def Fv{P:aQ}{w:aJ}:∀{d:List (aK×V)}{g:List (ai×ai)},VV (d.map λi=>(kV i.1,i.2)) g->∃f,Carries (g9 P w) g f/\KV d f
 |[],_,r=>by rw[zW]at r;cases r;exact⟨[],True.intro,.nil⟩
 |p::d,_,r=>by
  rw[cR]at r;cases r with
  |@cons a b as bs h t=>obtain⟨f,c,q⟩:=Fv (P:=P) (w:=w) t;obtain⟨b1,b2⟩:=b;exact⟨(p.1,b2)::f,⟨t5 h.1,rfl,c⟩,.cons ⟨rfl,h.2⟩ q⟩
def UE(b:List (TE×TE)):TE:=λf H Q=>∀p,H p=ae->yO b f (upd H p (.dK [])) λg d=>d p=aa (.dK [])/\∃a:List (aK×V),g=a.map (λc=>(kV c.1,c.2))/\a.length<=15/\Q (.ref p) (upd d p (.dK (t4 [] a)))
def Ms{X:Cx}{f:Pos}{keys:List (Option aC)}{b:List aC}{d:List (TE×TE)}(h:tE X f keys b d)(L:keys.all (·.isSome)=ah)(C:keys.length=b.length)(G:keys≠[])(l:keys.length<=15):PE X (.Dict keys b f) (UE d):=by
 intro N s n H Q I q;have B:=I.hok.fresh (bi s.heap.objs.size);have O:=I.laid (a:=s.heap.objs.size) (o:=.dK []) (h':=s.heap.push {cls:=.type "dict",data:=.dict #[]}) (t':=s.toks) (λ_ _ q=>bL _ q) (bi _) (Go s.heap I.big);refine wpAny_Dict_walk (knd:=g9 X.prog X.w) L C G l (aW (h N _ n _ _ O (q _ B)) λS T ⟨W,Z,m,j,e,g,J,Y,x⟩=>?_);subst J;obtain⟨r,c,u⟩:=Fv (P:=X.prog) (w:=X.w) j;obtain⟨z,E,p,v,M⟩:=Cd m.hok e;cases v;refine⟨r,c,M,λh' i A=>⟨.ref s.heap.objs.size,_,?_,rfl,x⟩⟩;have y:(t4 [] g).length<=bo:=by have F:=Ia g [];rw[re]at F;rw[t_];lia
 have D:∃q,h'.get? s.heap.objs.size=aa q:=let ⟨q,_,_,hq,_⟩:=i;⟨q,hq⟩
 exact ye m (by rw[e];exact True.intro) A D (Fk y E (u.merge .nil) i)
structure M2(X:Cx)(o:aC)(m:Str)(apos:Pos)(e f:aC)(cpos:Pos):Prop where
 base:n4 o m X.env (a9 o X.env)=a9 o X.env
 few:((c8 cpos (aV [e,f] X.env)).all (λx=>!x.1)&&(q8 cpos (q_ [] X.env)).all (λx=>x.1.isSome)&&decide (([e,f]:List aC).length+([]:List jL).length+(if([]:List jL).isEmpty then 0 else 1)<30))=ah
 line:(apos.endLine == cpos.line)=ah
 trees:c8 cpos (aV [e,f] X.env)=[(ak,a9 e X.env),(ak,a9 f X.env)]
def FQ(H:Hp)(a:af):Prop:=(∃b,Rd H a (.dK b))\/∃b,Rd H a (.dT b)
def QW{X:Cx}{l:List (af×Obj)}{j:St}{H:Hp}{s:ao}{a:af}(I:Inv X l j H s)(d:FQ H a):s.TypeIs (.ref a) "dict"/\(∀b,Value.ref a=.ref b->∃c,s.heap.get? b=aa c/\c.dict=ae)/\(a == jK)=ak:=by
 rcases d with⟨kvs,e⟩|⟨kvs,e⟩
 .obtain⟨_,g,m,_,f⟩:=qM I.hok e;refine⟨f.typeIs,λb q=>?_,g⟩;cases q;obtain⟨c,_,_,i,h,_⟩:=f;exact⟨c,i,h.2.1⟩
 .obtain⟨_,g,xs,_,f⟩:=tQ I.hok e;refine⟨f.typeIs,λb q=>?_,g⟩;cases q;obtain⟨c,_,_,i,h,_⟩:=f;exact⟨c,i,h.2.1⟩
section
variable{X:Cx}{f:List (af×Obj)}{c:St}{H:Hp}{s:ao}{a:af}{y d:V}{u r:ai}{o:Option V}{A:aX}{E:ai->ao->Prop}
def Nl{Q:ai->ao->Prop}(v:A.units+1<cLine)(I:Inv X f c H s)(g:ny H a y o)(q:RelV y u)(rd:RelV d r)(h:∀n p,Inv X f c H p->RelV (o.getD d) n->Q n p):ar X.zz A (call (.builtin "dict.get") [.ref a,u,r]) Q E s:=by
 rcases g with⟨kvs,k,e,ey,l⟩|⟨kvs,k,b,e,ey,eb,l⟩
 .subst ey;obtain⟨z,m,w,i,j⟩:=qM I.hok e;refine call_meetsIn JZ j.typeIs PySem.F.entry_dict_get (PySem.F.args_dict_get_3 _ _ _) (meets_dict_get_default (g9 X.prog X.w) a (t5 q) m r) ⟨_,j.mapOf,h _ _ (I.tok _) ?_⟩;rw[l];exact(i.val k).getD rd
 .subst ey;cases (show u=Value.ref b from q);obtain⟨z,m,xs,i,j⟩:=tQ I.hok e;refine call_meetsIn JZ j.typeIs PySem.F.entry_dict_get (PySem.F.args_dict_get_3 _ _ _) (meetsH_dict_get_default (t7 (g9 X.prog X.w)) a b m r) ⟨Dp v,k,xs,tD I.hok eb,j,h _ _ (I.tok _) ?_⟩;rw[l];exact(i.val k).getD rd
end
def Sw(g ty f:TE):TE:=λb H Q=>g b H λx d=>∃a,x=.ref a/\FQ d a/\ty b d λy h=>f b h λz c=>∃o,ny c a y o/\Q (o.getD z) c
section
variable{X:Cx}{o e f:aC}{c b:Pos}{j ty i:TE}
def N1(J:X.A.units+1<cLine)(L:PE X o j)(N:PE X e ty)(M:PE X f i)(m:M2 X o "get" c e f b):PE X (.Call (.Attribute o "get" c) [e,f] [] b) (Sw j ty i):=by intro p s l H Q I h;refine wpAny_Call_method m.base m.few m.line PySem.F.plainAttrs_dict JZ PySem.F.type_dict_get (aW (L p s l H _ I h) λu A ⟨x,Z,q,D,a,O,d,G⟩=>?_);subst O;obtain rfl:u=Value.ref a:=D;obtain⟨v,r,_⟩:=QW q d;refine⟨v,r,?_⟩;rw[m.trees];refine JW rfl (Do (Dh (aW (N p A l Z _ q G) λiv w ⟨y,Y,T,C,F⟩=>Dh (aW (M p w l Y _ T F) λfv s3 ⟨z,W,S,B,ov,g,E⟩=>JK ?_))));exact Nl J S g C B λw' s4 P n=>⟨_,W,P,n,E⟩
end
end L2
namespace Att
open PySem PySem.W PySem.Calls PyProof.Rows
def Tz:∀(c:List Int) (d:List ai),WellAll P h d (c.map WData.int)->IntsAre d c:=by
 intro c
 induction c with
 |nil=>
  intro d w;rw[zW]at w;cases w;exact .nil
 |cons n c f=>
  intro d w;rw[cR]at w;cases w with
  |cons a b=>
   cases a;exact .cons _ _ (f _ b)
def UI{l:OpenLaw}(u:l.most=aa n)(j:l.row.toRowW.claim.pre args=ah) (g:WellAll P h b args):∃a m c,b=[Value.ref a]/\args=[WData.list (c.map WData.int)]/\h.get? a=aa {cls:=.type "list",data:=.seq m.toArray}/\IntsAre m c/\c.length<=n:=by
 have i:WShape.hasAll [] args [.list .int]=ah:=(pre_splitW j).1;have o:l.pre.holds [] {args:=args}=ah:=(pre_splitW j).2;obtain⟨d,r,rfl,x,w⟩:=hasAllW_cons i;obtain rfl:=hasAllW_nil w;obtain⟨xs,rfl,v⟩:=hasW_list x;obtain⟨c,rfl⟩:=items_int v;have z:c.length<=n:=by
  unfold OpenLaw.pre at o;have f:(WTm.not (.lt (.lit (.int (n:Int))) (.len (.arg 0)))).holds [] {args:=[.list (c.map .int)]}=ah:=by have f:=(holds_andW o).1;rw[u]at f;exact f
  have A:=condW_of f (w_not (w_lt w_lit (w_len_list (w_arg rfl))))
  grind
 cases g with
 |cons q p=>
  cases p;cases q with
  |list s y=>exact⟨_,_,c,rfl,rfl,s,Tz c _ y,z⟩
def QK(l:OpenLaw)(args:List WData):l.row.toRowW.claim.post args (.bool ah) args=ah :=
 postW_of (r:=l.row.toRowW) (X:=(ah == ah))
  (show WShape.has [] (.bool ah) .bool=ah by first|rfl|decide|simp[WShape.has,WShape.arms,WShape.armsAll])
  (show(WTm.eq .res (.lit (.bool ah))).value [] {args:=args,res:=aa (.bool ah),after:=args}=aa (.bool (ah == ah))from w_eq_bool (w_res rfl) w_lit) rfl
def attach_call{l:OpenLaw}{d:DefRec}(M:l.most=aa n) (H:d.params.defaults=[])(call:∀(w:aJ) (c b:ao) (s x:Str->Option ai) (j:af) (o:Obj) (v u h:ai) (a:af) (i:List ai) (p:List Int),Ground q g [] XP w c s x b.heap->D w b.heap -> b.heap.get? j=aa o->o.data=.func (docDef d.name d.params d.body d.scope v u h)->b.heap.CodeRec u d.name->s d.name=aa (.ref j) -> b.heap.get? a=aa {cls:=.type "list",data:=.seq i.toArray}->IntsAre i p->p.length<=n->b.gens=#[] -> mL (aw l.prog w) ue (.call (.ref j) ⟨[.ref a],[]⟩) (λr m=>r=.ok (.ret (.bool ah))/\OldK b.heap m.heap/\m.os=b.os/\nV m.gens) b):WalkO q g XP D l.row.toRowW d [] (λf i=>PySem.call f i):=by intro w c b s x G Y j o v u h dV kV L Q Z B E P C z as F A I y O;obtain rfl:dV=.none:=Dflts.none B H;obtain rfl:kV=.none:=Dflts.noKw B;obtain⟨a,i,p,rfl,rfl,Ey,Et,X⟩:=UI M F y;refine enter_call (qW (call w c b s x j o v u h a i p G Y L (fd_plain Q) Z E Ey Et X P) λr m J=>?_);obtain⟨rfl,W,T,S⟩:=J;exact⟨.inl ⟨.bool ah,.bool ah,[],rfl,λ_=>rfl,.bool ah,QK l _,λ_=>⟨List.Pairwise.nil,λ_ N=>(nomatch N)⟩⟩,W,T,S⟩
end Att
namespace L2
def E8:∀{a:List ai}{b:List Int},IntsAre a b->bG (b.map V.int) a
 |_,_,.nil=>.nil
 |_,_,.cons n t h=>.cons ⟨t,rfl⟩ (E8 h)
def CC(H:Hp):Prop:=∀b,H b=ae\/(∃o xs,H b=aa (.frz o (.lst xs)))\/∃q,H b=aa (.tbl q)
def ku(K:ax):Hp:=λb=>match qS K "least_ending" with
 |some (_,P)=>if b=P then aa (.tbl "least_ending.<locals>.<lambda>")else ae
 |none=>ae
def qr{K:ax}{b:af}{u:HO}(h:ku K b=aa u):u=.tbl "least_ending.<locals>.<lambda>"/\∃c,qS K "least_ending"=aa (c,b):=by
 unfold ku at h
 grind
def FU{K:ax}{c P:af}(h:qS K "least_ending"=aa (c,P)):ku K P=aa (.tbl "least_ending.<locals>.<lambda>"):=by unfold ku;rw[h];exact if_pos rfl
def Fq(K:ax)(h:aB):Prop:=∀c P,qS K "least_ending"=aa (c,P)->PySem.W.codeHdIn K c P=ah/\K.lookup P=ae/\h.get? P=aa {cls:=.none,data:=.fields #[]}
def QA{K:ax}{J mb:Str->Option ai}{CX:gE}{k:Nat}{fd:iw}{x:Str}{sp:Sp}{f:ao}{I:List ai}{L:List Int}(KX:K.In f.heap) (uC:f.heap.Ns cm J) (i:f.heap.Ns qR mb) (rO:∀x:Str,x≠"__name__"->mb x=fA x) (N:f.heap.NoLimit) (ng:∃D B,J "__builtins__"=aa (.ref D)/\D≠qR/\f.heap.get? D=aa B/\B.cls=.type "module"/\B.dict=aa qR/\B.data=.plain) (A:Fq K f.heap) (hg:f.gens=#[])(G:f.heap.get? a=aa {cls:=.type "list",data:=.seq I.toArray}) (hi:IntsAre I L) (hl:L.length<=bo) (hr:fR k ue)(F:∀p:aB,K.In p->p.Ns cm J->lD P w K J p CX k fa fd [x] sp) (Vm:∀(s:ao) (u:ai),BindsTo s fd ⟨[u],[]⟩ [(x,u)])(gT:∀H:Hp,CC H->cF K H a (L.map V.int)->sp [.ref a] H (λv _=>v=.bl ah) λ_ _ _=>False)(hCX:∀H e l,CX [] H f (λ_ _ _=>False) e l->False):mL (aw P w) ue (.call (.ref fa) ⟨[.ref a],[]⟩) (λr l=>r=.ok (.ret (.bool ah))/\OldK f.heap l.heap/\l.os=f.os/\nV l.gens) f:=by
 have rv:=E8 hi;have M:=hi.length;have C:∀H:Hp,CC H->cF K H a (L.map V.int)->dy P w H f.heap->(∀b,H b≠ae->b=a\/∃c,qS K "least_ending"=aa (c,b))->(H a≠ae->K.lookup a=ae)->xY K H ->
   mL (aw P w) ue (.call (.ref fa) ⟨[.ref a],[]⟩) (λr l=>r=.ok (.ret (.bool ah))/\OldK f.heap l.heap/\l.os=f.os/\nV l.gens) f:=by
  intro H hO hS E T hK hTH;have g:∀{b:af}{o:Obj},f.heap.get? b=aa o->H b=ae->(nE f.heap H).get? b=aa o:=λe n=>Ps e n;have noA:∀{b:af}{o:Obj}{W:Array uf}{X:Nat},f.heap.get? b=aa o->o.data=.dict W X->H b=ae:=λ{b o W X} e d=>by
   cases q:H b with
   |none=>rfl
   |some u=>
    rcases T b (by rw[q];simp)with j|⟨c,j⟩
    .lia
    .rw[(A c b j).2.2]at e;lia
  have y:∀{b:af}{m:Str->Option ai},f.heap.Ns b m->(nE f.heap H).Ns b m:=λ{b m} ⟨o,W,X,e,d,r⟩=>⟨o,W,X,g e (noA e d),d,r⟩
  have O:K.In (nE f.heap H):=λb o e=>g (KX b o e) (by
   cases q:H b with
   |none=>rfl
   |some u=>
    rcases T b (by rw[q];simp)with j|⟨c,j⟩
    .lia
    .rw[(A c b j).2.1]at e;cases e)
  have hM:Mod K J (nE f.heap H):=⟨O,y uC,⟨mb,y i,rO⟩,(let ⟨mc,h1,h2⟩:=N;⟨mc,y h1,h2⟩),by
   obtain⟨D,B,b1,b2,b3,b4,b5,b6⟩:=ng;refine⟨D,B,b1,b2,g b3 ?_,b4,b5,b6⟩;cases q:H D with
   |none=>rfl
   |some u=>
    rcases T D (by rw[q];simp)with j|⟨c,j⟩
    .lia
    .rw[(A c D j).2.2]at b3;lia⟩
  have e0:sJ P w K J (nE f.heap H) ue [] f H:=⟨rfl,hM,λb o e=>U5 e,ug (La _ _),trivial,λb i=>absurd (show b∈([]:List af)from i) (by simp),E,.of_eq hg,hTH⟩
  refine qW ((F _ O (y uC)).run ue [] f H ⟨[.ref a],[]⟩ [.ref a] [.ref a] _ _ hr e0 (Vm f (.ref a)) (.cons rfl .nil) (gT H hO hS)) λr l h=>?_;cases r with
  |error e=>exact(hCX H e l h).elim
  |ok fl=>
   cases fl with
   |next=>exact iy h
   |brk=>exact iy h
   |cont=>exact iy h
   |ret u=>
    obtain⟨v,H',os,S,un,KU,r',q⟩:=h;have q':v=.bl ah:=q;subst q';obtain rfl:u=Value.bool ah:=r';refine⟨rfl,⟨λb o e=>?_,λb o e=>un.there b o e (by simp)⟩,os,S⟩;cases q:H b with
    |none=>exact .inl (un.keep b o e q (by intro z;exact absurd (show b∈([]:List af)from z) (by simp)) (by simp))
    |some u=>
     rcases hO b with z|⟨B,xs,z⟩|⟨qn,z⟩
     .lia
     .have z2:=un.frzs b B _ z;obtain⟨Q,_⟩:=E b _ z;obtain⟨e2,_⟩:=KU b _ z2;rw[e]at Q;cases Q;exact .inl e2
     .rcases T b (by rw[q];simp)with j|⟨c,j⟩
      .subst j;obtain⟨ps,Q,_⟩:=E b _ z;lia
      .obtain⟨k1,k2,k3⟩:=A c b j;rw[k3]at e;cases e;obtain⟨oc,Y,_,_,_,_,_,_,_,f1,f2,f3,f4,_⟩:=PySem.W.codeHd_of_K KX k1;obtain⟨ps,Q,_⟩:=KU b _ (un.tbls b _ z).1;exact .inr (.inl ⟨⟨c,oc,Y,f1,f2,f3,f4⟩,rfl,#[],ps,rfl,by rw[Q];simp⟩)
 cases hk:K.lookup a with
 |some o=>
  have e:=KX a o hk;rw[G]at e;cases e;have tH:∀b u,ku K b=aa u->cn P w (ku K) f.heap b u:=λb u z=>by
   obtain⟨rfl,c,e⟩:=qr z;exact⟨#[],(A c b e).2.2,trivial,λZ cv h=>by cases h⟩
  refine C (ku K) (λb=>?_) (.inr ⟨_,I.toArray,_,hk,rfl,rfl,rfl,by rw[fD,M];exact hl,~~~rv⟩) tH (λb z=>?_) (λz=>?_) λx hx c P e=>?_
  .cases q:ku K b with
   |none=>exact .inl rfl
   |some u=>exact .inr (.inr ⟨_,congrArg aa (qr q).1⟩)
  .cases q:ku K b with
   |none=>exact absurd q z
   |some u=>exact .inr (qr q).2
  .cases q:ku K a with
   |none=>exact absurd q z
   |some u=>
    obtain⟨_,c,j⟩:=qr q;rw[(A c a j).2.2]at G;cases G
  .obtain rfl:x = "least_ending":=by simpa[C0]using hx
   exact FU e
 |none=>
  have ta:∀c P,qS K "least_ending"=aa (c,P)->P≠a:=λc P e z=>by subst z;rw[(A c P e).2.2]at G;cases G
  refine C (λb=>if b=a then aa (.frz {cls:=.type "list",data:=.seq I.toArray} (.lst (L.map V.int)))else ku K b) (λb=>?_) (.inl (.inr ⟨{cls:=.type "list",data:=.seq I.toArray},if_pos rfl⟩)) (λb u z=>?_) (λb z=>?_) (λ_=>hk) λx hx c P e=>?_
  .by_cases i:b=a
   .exact .inr (.inl ⟨_,_,if_pos i⟩)
   .cases q:ku K b with
    |none=>exact .inl ((if_neg i).trans q)
    |some u=>exact .inr (.inr ⟨_,(if_neg i).trans (q.trans (congrArg aa (qr q).1))⟩)
  .by_cases i:b=a
   .have z':=(if_pos i).symm.trans z;cases z';subst i;exact⟨G,by rw[cK];exact hl,I,_,rv,G⟩
   .obtain⟨rfl,c,e⟩:=qr ((if_neg i).symm.trans z);exact⟨#[],(A c b e).2.2,trivial,λZ cv h=>by cases h⟩
  .by_cases i:b=a
   .exact .inl i
   .cases q:ku K b with
    |none=>exact absurd ((if_neg i).trans q) z
    |some u=>exact .inr (qr q).2
  .obtain rfl:x = "least_ending":=by simpa[C0]using hx
   exact(if_neg (ta c P e)).trans (FU e)
def VY{l:Dq}{n k:Nat}{c:List Str}{XP:(Str->Option ai)->aB->Prop}{E:aJ->aB->Prop}{d:DefRec}{K:Params->ax}{CX:aJ->gE}{sp:aJ->Sp}{x:Str}(N:l.most=aa n) (r:n<=bo) (L:d.params.defaults=[]) (M:fR k ue)(C:∀(w:aJ) (h:aB),E w h->(K w.params).In h/\Fq (K w.params) h)(F:∀(w:aJ) (g:Str->Option ai) (m:af) (h:aB),(K w.params).In h->h.Ns cm g->g d.name=aa (.ref m) -> ∃z:iw,(∀(s:ao) (u:ai),BindsTo s z ⟨[u],[]⟩ [(x,u)]) /\ ∀b:aB,(K w.params).In b->b.Ns cm g->lD l.prog w (K w.params) g b (CX w) k m z [x] (sp w))(W:∀(w:aJ) (H:Hp) (a:af) (j:List Int),j.length<=n->CC H->cF (K w.params) H a (j.map V.int)->sp w [.ref a] H (λv _=>v=.bl ah) λ_ _ _=>False)(y:∀(w:aJ) (H:Hp) (s:ao) (e:ai) (p:ao),CX w [] H s (λ_ _ _=>False) e p->False):PySem.W.WalkO q c XP E l.row.toRowW d [] (λf A=>PySem.call f A):=by refine Att.attach_call N L λw B i g mb m o pm cd X a A j G Y ho hd bv J Z Et D O=>?_;have I:=(C w _ Y).1;obtain⟨z,P,T⟩:=F w g m _ I G.T.g J;exact QA I G.T.g G.T.b G.T.builtins G.T.nolimit G.T.bmain (C w _ Y).2 O Z Et (c7 D r) M T P (λH S Q=>W w H a j D S Q) λH e p=>y w H i e p
def j3(s:bf):Arguments:=match s with
 |.FunctionDef _ a _ _ _ _ _ _ _ _=>a
 |_=>{posonlyargs:=[],args:=[],vararg:=ae,kwonlyargs:=[],kw_defaults:=[],kwarg:=ae,defaults:=[]}
def f8(s:bf):List bf:=match s with
 |.FunctionDef _ _ b _ _ _ _ _ _ _=>b
 |_=>[]
def br(s:bf):dU:=match s with
 |.FunctionDef _ _ _ _ _ _ a _ _ _=>a
 |_=>{kind:=.function,names:=[],isGenerator:=ak,isCoroutine:=ak}
abbrev Bp:gE:=λ_ _ _ _ _ _=>False
abbrev E0:XK:=λ_ _ _=>False
structure qf(K:ax)(x qual:Str)(st:bf)(f:af)(fd:iw):Prop where
 ex:∃(oc:ai) (od:Option af) (kV doc pm:ai) (an:Option af) (aR ct:ai) (osl:Array (Option ai)),
  fd=iS x qual (j3 st) (f8 st) (br st) .none kV doc pm an aR ct/\K.lookup f=aa ⟨oc,od,.func fd,osl⟩/\wD K aR qual=ah
 kp:qX K (.ref f)=ah
section
variable{P:aQ}{w:aJ}{K:ax}{b:Str->Option ai}{a:aB}
def qf.binds{x c:Str}{g:bf}{p:iw}{j:List Str}(F:qf K x c g f p)(h:∀(kV d l:ai) (n:Option af) (o m:ai) (i:List ai),i.length=j.length->gy (iS x c (j3 g) (f8 g) (br g) .none kV d l n o m) ⟨i,[]⟩=pure (j.zip i)):Binds K p j []:=by obtain⟨oc,r,kV,d,l,n,o,m,q,rfl,s,u⟩:=F.ex;exact .all (h kV d l n o m)
def Ik{x d:Str}{g:bf}{oc:ai}{p o:Option af}{i:Array (Option ai)}{kV h m j n:ai}(l:K.lookup f=aa ⟨oc,p,.func (iS x d (j3 g) (f8 g) (br g) .none kV h m o j n),i⟩)(c:wD K j d=ah) (k:qX K (.ref f)=ah):qf K x d g f (iS x d (j3 g) (f8 g) (br g) .none kV h m o j n):=⟨⟨oc,p,kV,h,m,o,j,n,i,rfl,l,c⟩,k⟩
end
def HW(h:n<=1000):n<bo:=zX h (by decide)
section
variable{X:Cx}
def pv(i:Nat)(d:X.N[i]?=aa x:=by rfl)(b:ee X.env.scope x:=by eq_refl)(c:ad x:=by decide)(f:az x:=by decide):PE X (.Name x a) (II i):=e_ d b c f
def NO:eG X (.builtin "len") (λxs H Q=>∃a b,xs=[V.ref a]/\H a=aa (.dK b)/\Q (.int b.length) H):=by
 intro l s g H xs i Q I r h;obtain⟨a,b,rfl,d,q⟩:=h;obtain⟨u,rfl,c⟩:=vals1 r;cases c;exact Tw I (.inl d) λt j f=>⟨.int b.length,H,f,⟨t,rfl⟩,q⟩
end
def nz{A B:Prop}(h:B):if ak=ah then A else B:=by lia
def nL{A B:Prop}(h:A):if ah=ah then A else B:=by lia
def Same(H a:Hp):Prop:=∀b o,H b=aa o->a b=aa o
def Same.refl(H:Hp):Same H H:=λ_ _ h=>h
def Same.trans(a:Same H f)(b:Same f d):Same H d:=λc o h=>b c o (a c o h)
def Same.free{H a:Hp}(e:Same H a){l:af}(h:a l=Option.none):H l=Option.none:=by
 cases q:H l with
 |none=>rfl
 |some o=>
  rw[e l o q]at h;cases h
end L2
set_option maxHeartbeats 4000000
namespace L2
def iI(a:Env):List (Str×hZ)->List (Str×af)->List (Str×af)
 |[],b=>b
 | (n,k)::r,b=>if k == .free then iI a r ((n,(a.cells.lookup n).getD 0)::b)else iI a r b
def TU{d:Env}(b:List (Str×hZ))(f:List (Str×af))(g:∀x∈b,x.2=.free->∃c,d.cells.lookup x.1=aa c)(h:(iI d b f).lookup y=aa c):f.lookup y=aa c\/d.cells.lookup y=aa c:=by
 induction b generalizing f with
 |nil=>exact .inl h
 |cons a r i=>
  obtain⟨n,k⟩:=a;unfold iI at h;have l:∀x∈r,x.2=.free->∃c,d.cells.lookup x.1=aa c:=λx j=>g x (iu _ j);split at h
  .rename_i m;obtain⟨p,o⟩:=g (n,k) (j_ ..) (~~~m)
   grind
  .exact i _ l h
def HY{a:Type}{n:Str}{v:a}{l:List (Str×a)}:((n,v)::l).lookup n=aa v:=by rw[mP];simp
def Hi{a:Type}{n y:Str}{v:a}{l:List (Str×a)}(h:∃c,l.lookup y=aa c):∃c,((n,v)::l).lookup y=aa c:=by
 grind
def Cg{d:Env}{y:Str}:∀(a:List (Str×hZ)) (b:List (Str×af)),(∃c,b.lookup y=aa c)->∃c,(iI d a b).lookup y=aa c
 |[],b,h=>h
 | (n,k)::r,b,h=>by
  unfold iI;split
  .exact Cg r _ (Hi h)
  .exact Cg r _ h
def Ax{g:Env}{y:Str}:∀(a:List (Str×hZ)) (i:List (Str×af)),(∃x∈a,x.1=y/\x.2=.free)->∃c,(iI g a i).lookup y=aa c
 |[],i,⟨_,h,_⟩=>by simp at h
 | (n,k)::r,i,⟨x,b,f,d⟩=>by
  unfold iI;rcases cC.mp b with e|b
  .subst e;simp only at f d;subst f d;simp only[beq_self_eq_true,if_true];exact Cg r _ ⟨_,HY⟩
  .split
   .exact Ax r _ ⟨x,b,f,d⟩
   .exact Ax r _ ⟨x,b,f,d⟩
def CB{b:Env}:∀(a:List (Str×hZ)) (g:List (Str×af)),(∀x∈a,x.2=.free->∃c,b.cells.lookup x.1=aa c) -> (forIn (m:=Sem) a g λx r=>match x with | (d,f)=>if(f == NameKind.free)=ah then do let c <-cellOf b d;pure (ForInStep.yield ((d,c)::r))else pure (ForInStep.yield r))=pure (iI b a g)
 |[],g,_=>rfl
 | (n,k)::r,g,h=>by
  have j:∀x∈r,x.2=.free->∃c,b.cells.lookup x.1=aa c:=λx o=>h x (iu _ o);rw[List.forIn_cons];unfold iI;by_cases i:(k == NameKind.free)=ah
  .obtain⟨c,l⟩:=h (n,k) (j_ ..) (~~~i);simp only[i,if_true];have e:cellOf b n=pure c:=by unfold cellOf;rw[l]
   rw[e];simp only[pure_bind];rw[CB r _ j,l];rfl
  .simp only[i,if_false,pure_bind];exact CB r _ j
def Ui{a:dU}{b:Env}(h:∀x∈a.names,x.2=.free->∃c,b.cells.lookup x.1=aa c):closureFor a b=pure (iI b a.names []):=by unfold closureFor;have q:=CB a.names [] h;simp only[bind_pure_comp]at q ⊢;rw[q];rfl
def zA(b:n+1<=c)(a:c<n):False:=∅
def AL:∀(c:List (Str×hZ)) (n:Nat) (a b:List (Str×af)),gc n c (a++b)=gc n c a++b
 |[],_,_,_=>rfl
 | (x,k)::r,n,a,b=>by
  unfold gc;split
  .exact AL r (n+1) ((x,n)::a) b
  .exact AL r n a b
def yk:∀(b:List (Str×hZ)) (n:Nat) (a:List (Str×af)),(y,c)∈gc n b a->(y,c)∈a\/(y,.cell)∈b
 |[],_,_,h=>.inl h
 | (x,k)::r,n,a,h=>by
  unfold gc at h;split at h
  .rename_i d;rcases yk r _ _ h with z|z
   all_goals grind
  .rcases yk r _ _ h with z|z
   all_goals grind
def CW{y:Str}:∀(b:List (Str×hZ)) (n:Nat) (a:List (Str×af)),(∃c,a.lookup y=aa c)->∃c,(gc n b a).lookup y=aa c
 |[],_,_,h=>h
 | (x,k)::r,n,a,h=>by
  unfold gc;split
  .exact CW r _ _ (Hi h)
  .exact CW r _ _ h
def zM{y:Str}:∀(b:List (Str×hZ)) (n:Nat) (a:List (Str×af)),(y,.cell)∈b->∃c,(gc n b a).lookup y=aa c
 | (x,k)::r,n,a,h=>by
  unfold gc;rcases cC.mp h with e|h
  .cases e;exact CW r _ _ ⟨_,HY⟩
  .split
   .exact zM r _ _ h
   .exact zM r _ _ h
def mv(X:Cx)(a:dU)(C:af):List (Str×af):=gc (C+1) a.names (iI X.env a.names [])
def B7(X:Cx)(a:dU)(C:af):mv X a C=gc (C+1) a.names []++iI X.env a.names []:=AL a.names (C+1) [] _
def Qe{s:ao}(j:Q (newEnv a s.heap.objs.size b (gc (s.heap.objs.size+1) a.names i) c ae .none (aa d) qR) {s with heap:=pushCells (s.heap.push {cls:=.type "dict",data:=.dict #[]}) a.names}):ar M A (newFunctionEnv a b i [] c ae .none (aa d)) Q E s:=by simp only[newFunctionEnv,Option.isSome_some,if_true];refine aq (wpAny_alloc ?_);refine aq (wpAny_layCells _ (λg h f=>by lia) _ _ _ _ ?_);rw[show({s with heap:=s.heap.push {cls:=.type "dict",data:=.dict #[]}}:ao).heap.objs.size=s.heap.objs.size+1 from Dr ..];refine aq ?_;rw[List.forIn_nil];exact aF (aF j)
def Gj{s:ao}(h:(y,c)∈gc (s.heap.objs.size+1) a []):(pushCells (s.heap.push {cls:=.type "dict",data:=.dict #[]}) a).IsCell c ae/\s.heap.objs.size+1<=c/\∀z,(z,c)∈gc (s.heap.objs.size+1) a []->y=z:=by have ok:=cellsFrom_ok a (s.heap.push {cls:=.type "dict",data:=.dict #[]}) (s.heap.objs.size+1) [] ⟨λ_ _ d=>(nomatch d),List.Pairwise.nil⟩ (by simp_all);rw[Dr]at ok;exact⟨(ok.empty y c h).1,(ok.empty y c h).2,λz b=>name_of_addr ok.apart h b⟩
def bB(X:Cx)(a:dU)(b:List Str)(C:af)(s₀:ao)(H₀:Hp)(ex:List af)(pn:List (af×Obj)):Cx where
 prog:=X.prog
 w:=X.w
 K:=X.K
 mg:=X.mg
 base:=X.base
 A:=X.A
 N:=b
 s₀:=s₀
 H₀:=H₀
 env:=compEnvC a (mv X a C) C X.env
 outer:=X.stack
 stack:=X.stack
 ex:=ex
 fn:=λy=>a.names.lookup y == aa .cell
 calm:=X.calm
 pn:=X.pn++pn
 xe:=λ_ _=>False
def fc(b:St)(a:List Nat):St:=a.map λi=>(b[i]?).join
structure iG(X:Cx)(scope:dU)(x:Str)(N':List Str)(cap:List Nat):Prop where
 kind:scope.kind=.function
 cells:∀y∈scope.names,y.2=.cell->scope.names.lookup y.1=aa .cell
 names:∀y∈scope.names,y.2=.local->scope.names.lookup y.1=aa .local
 loc:scope.names.lookup x=aa .local\/scope.names.lookup x=aa .cell
 free:∀y∈scope.names,y.2=.free->X.env.kindOf y.1=aa .cell\/X.env.kindOf y.1=aa .free
 nd:N'.Nodup
 hd:N'.head?=aa x
 len:N'.length=cap.length+1
 caps:∀i j y,N'[i+1]?=aa y->cap[i]?=aa j->(X.N[j]?=aa y/\scope.names.lookup y=aa .free)\/(X.N.length<=j/\scope.names.lookup y=aa .local)
def QS{a:List (Str×hZ)}(h:a.lookup y=aa k):∃x∈a,x.1=y/\x.2=k:=⟨(y,k),lV h,rfl,rfl⟩
def BG{a:Env}:∀{b:List (Str×hZ)}{k:hZ}, (b.map λ(n,k)=>if(k == NameKind.free&&a.scope.kind == .function&&a.kindOf n == aa .cell)then(n,NameKind.cell)else(n,k)).lookup x=aa k -> ∃d,b.lookup x=aa d/\(k=d\/(d=.free/\k=.cell))
 |[],_,h=>by simp at h
 | (n,c)::r,k,h=>by
  change Ds x ((if(c == NameKind.free&&a.scope.kind == .function&&a.kindOf n == aa .cell)=ah then(n,NameKind.cell)else(n,c))::_)=_ at h;rw[mP];by_cases f:(c == NameKind.free&&a.scope.kind == .function&&a.kindOf n == aa .cell)=ah
  .rw[if_pos f,mP]at h;split at h
   .lia
   .exact BG h
  .rw[if_neg f,mP]at h;split at h
   .lia
   .exact BG h
def C1{a:Env}:∀{b:List (Str×hZ)},b.lookup x=aa .free -> let q:=(b.map λ(n,k)=>if(k == NameKind.free&&a.scope.kind == .function&&a.kindOf n == aa .cell)then(n,NameKind.cell)else(n,k)).lookup x
  q=aa .cell\/q=aa .free
 |[],h=>by simp at h
 | (n,c)::r,h=>by
  show Ds x ((if(c == NameKind.free&&a.scope.kind == .function&&a.kindOf n == aa .cell)=ah then(n,NameKind.cell)else(n,c))::_)=_\/Ds x ((if(c == NameKind.free&&a.scope.kind == .function&&a.kindOf n == aa .cell)=ah then(n,NameKind.cell)else(n,c))::_)=_;rw[mP]at h;by_cases f:(c == NameKind.free&&a.scope.kind == .function&&a.kindOf n == aa .cell)=ah
  .rw[if_pos f,mP];cases d:x == n with
   |true=>exact .inl rfl
   |false=>rw[d]at h;exact C1 h
  .rw[if_neg f,mP];cases d:x == n with
   |true=>lia
   |false=>rw[d]at h;exact C1 h
def yM{a:Env}:∀{b:List (Str×hZ)},b.lookup x=aa .cell -> (b.map λ(n,k)=>if(k == NameKind.free&&a.scope.kind == .function&&a.kindOf n == aa .cell)then(n,NameKind.cell)else(n,k)).lookup x=aa .cell
 |[],h=>by simp at h
 | (n,c)::r,h=>by
  show Ds x ((if(c == NameKind.free&&a.scope.kind == .function&&a.kindOf n == aa .cell)=ah then(n,NameKind.cell)else(n,c))::_)=_;rw[mP]at h;by_cases f:(c == NameKind.free&&a.scope.kind == .function&&a.kindOf n == aa .cell)=ah
  .rw[if_pos f,mP];cases d:x == n with
   |true=>rfl
   |false=>rw[d]at h;exact yM h
  .rw[if_neg f,mP];cases d:x == n with
   |true=>lia
   |false=>rw[d]at h;exact yM h
section
variable{s:ao}{f:dU}
def Inv.freeHas(I:Inv X A w H s)(B:iG X f x D g):∀y∈f.names,y.2=.free->∃c,X.env.cells.lookup y.1=aa c:=λy a e=>I.ok.has y.1 (B.free y a e)
def Inv.clIn(I:Inv X A w H s)(B:iG X f x D g)(h:(iI X.env f.names []).lookup y=aa c):X.env.cells.lookup y=aa c:=by
 rcases TU f.names [] (I.freeHas B) h with q|q
 .simp at q
 .exact q
def Inv.cbIn(I:Inv X A w H s)(B:iG X f x D g)(h:(mv X f C).lookup y=aa c):((y,c)∈gc (C+1) f.names []/\f.names.lookup y=aa .cell)\/((iI X.env f.names []).lookup y=aa c/\X.env.cells.lookup y=aa c):=by
 rw[B7,J0]at h;cases e:(gc (C+1) f.names []).lookup y with
 |none=>rw[e]at h;exact .inr ⟨h,I.clIn B h⟩
 |some a=>
  rw[e]at h;cases h;have m:=lV e;rcases yk _ _ _ m with z|z
  .cases z
  .exact .inl ⟨m,B.cells _ z rfl⟩
def Inv.cbOld(I:Inv X A w H s)(B:iG X f x D g)(h:(iI X.env f.names []).lookup y=aa c)(a:f.names.lookup y=aa .free):(mv X f C).lookup y=aa c:=by
 rw[B7,J0];cases e:(gc (C+1) f.names []).lookup y with
 |none=>exact h
 |some b=>
  rcases yk _ _ _ (lV e)with z|z
  .cases z
  .have:=B.cells _ z rfl;lia
def Inv.block(hh:E=pushCells (s.heap.push {cls:=.type "dict",data:=.dict #[]}) f.names)(I:Inv X A w H s)(B:iG X f x D g)(Y:∀b∈fp,lR X A H b)(hfo:∀b∈fp,∃o,s.heap.get? b=aa o)(uC:E.Ns s.heap.objs.size m)(F:∀b o,s.heap.get? b=aa o->E.get? b=aa o):Inv (bB X f D s.heap.objs.size s H fp A) [] (ae::fc w g) H {s with heap:=E,toks:=t'}:=by
 have O:∀x c,X.env.cells.lookup x=aa c->c<s.heap.objs.size:=λx c e=>(I.cell x c e).elim λv q=>q.lt;have C:∀{y:Str}{c:af},(y,c)∈gc (s.heap.objs.size+1) f.names []->E.IsCell c ae/\s.heap.objs.size+1<=c/\∀z,(z,c)∈gc (s.heap.objs.size+1) f.names []->y=z:=λh=>by rw[hh];exact Gj h
 have lk:∀y k,(compEnvC f (mv X f s.heap.objs.size) s.heap.objs.size X.env).kindOf y=aa k->∃Q,f.names.lookup y=aa Q/\(k=Q\/(Q=.free/\k=.cell)):=λy k h=>BG h;have J:∀y,f.names.lookup y=aa .free->∃c,(iI X.env f.names []).lookup y=aa c:=λy h=>Ax f.names [] (QS h);have nfs:∀b∈fJ X.stack,b≠s.heap.objs.size:=λb G e=>by
  rcases cC.mp (I.stkSub b G)with z|z
  .exact absurd I.lt (by lia)
  .exact I.nofs (ug e.symm) z
 refine⟨⟨I.ok.mod,B.kind,I.ok.glob,I.ok.blt,bi _,λy z c h1 h2=>?_,λy S=>?_,λy c h gn=>?_,I.ok.hd,I.ok.frames,.inl rfl,λb G=>?_,λb o e=>I.bs b o e,c7 I.ok.bsz I.sz,λb o e G=>?_,λb G hf=>?_,I.stack,(λb G=>I.stkFree b G),I.tab⟩,rfl,I.bare,Un.kept F,⟨m,uC,λi y v e1 T e3=>?_⟩,λy c h=>?_,I.hok.fresh (bi _),λy c h=>?_,λp hp=>?_,I.hok.kept F,?_⟩
 .-- inj
  rcases I.cbIn B h1 with⟨a1,a2⟩|⟨a1,a2⟩ <;> rcases I.cbIn B h2 with⟨b1,b2⟩|⟨b1,b2⟩
  .exact(C a1).2.2 z b1
  .exact(zA (C a1).2.1 (O _ _ b2)).elim
  .exact(zA (C b1).2.1 (O _ _ a2)).elim
  .exact I.ok.inj y z c a2 b2
 .-- has
  show ∃c,(mv X f s.heap.objs.size).lookup y=aa c;have nh:f.names.lookup y=aa .free->∃c,(mv X f s.heap.objs.size).lookup y=aa c:=λq=>(J y q).imp λc hc=>I.cbOld B hc q;rcases S with S|S
  .obtain⟨Q,q,z|⟨z,_⟩⟩:=lk y _ S
   .subst z;exact zM _ _ _ (lV q)
   .subst z;exact nh q
  .obtain⟨Q,q,z|⟨_,z⟩⟩:=lk y _ S
   .subst z;exact nh q
   .cases z
 .-- cab
  have hk:f.names.lookup y=aa .cell:=by simpa using(show(f.names.lookup y == aa .cell)=ah from h)
  show s.heap.objs.size<=c;rcases I.cbIn B gn with⟨a1,a2⟩|⟨a1,a2⟩
  .have:=(C a1).2.1;lia
  .obtain⟨c',P⟩:=zM (n:=s.heap.objs.size+1) (a:=[]) _ (lV hk);have e:(mv X f s.heap.objs.size).lookup y=aa c':=by rw[B7,J0,P];rfl
   have T:(mv X f s.heap.objs.size).lookup y=aa c:=gn;rw[e]at T;cases T;have:=(C (lV P)).2.1;lia
 .-- exf
  obtain⟨f0,f1,f2,f3,f4,f5⟩:=Y b G;obtain⟨o,M⟩:=hfo b G;refine⟨λe=>absurd (bH M) (by rw[e];exact jq _),λy c h=>?_⟩;rcases I.cbIn B h with⟨a1,a2⟩|⟨a1,a2⟩
  .rintro rfl;exact zA (C a1).2.1 (bH M)
  .exact f4 y c a2
 .-- noex
  obtain⟨f0,f1,f2,f3,f4,f5⟩:=Y b G;rcases f3 with z|z
  .exact I.ok.noex b o e z
  .exact absurd (gQ (bH e) (c7 I.ok.bsz z)) (jq _)
 .-- exfs
  obtain⟨f0,f1,f2,f3,f4,f5⟩:=Y b G;rcases cC.mp (I.stkSub b hf)with z|z
  all_goals lia
 .-- loc
  cases i with
  |zero=>simp at T
  |succ i=>
   have L:(fc w g)[i]?=aa (aa v):= ~~~T
   unfold fc at L;rw[d8]at L;cases hj:g[i]? with
   |none=>rw[hj]at L;cases L
   |some j=>
    rw[hj]at L;have W:(w[j]?).join=aa v:=f_ L;have e5:w[j]?=aa (aa v):=by
     cases hq:w[j]? with
     |none=>rw[hq]at W;cases W
     |some o=>rw[hq]at W;exact congrArg aa W
    obtain⟨b1,b2⟩:=(B.caps i j y e1 hj).elim id λz=>by have:=(cP.mp e5).1;rw[I.len]at this;exact absurd this (Nat.not_lt.mpr z.1)
    obtain⟨mm,hn,hl⟩:=I.loc;have KJ:=B.free _ (lV b2) rfl;have Z:ee X.env.scope y:=by
     rcases KJ with z|z
     .exact .inr (.inl z)
     .exact .inr (.inr z)
    obtain⟨u,r,l⟩:=hl j y v b1 e5 Z;refine⟨u,r,.inr ⟨C1 b2,?_⟩⟩;rcases l with⟨l,_⟩|⟨_,c,hc,Am⟩
    .lia
    .obtain⟨c',P⟩:=J y b2;have e6:=I.clIn B P;rw[hc]at e6;cases e6;obtain⟨N,M,hd⟩:=Am;exact⟨c,I.cbOld B P b2,N,F c N M,hd⟩
 .rcases I.cbIn B h with⟨a1,a2⟩|⟨a1,a2⟩
  .exact⟨ae,(C a1).1⟩
  .obtain⟨v,N,M,hd⟩:=I.cell y c a2;exact⟨v,N,F c N M,hd⟩
 .rcases I.cbIn B h with⟨a1,a2⟩|⟨a1,a2⟩
  .exact I.hok.fresh (c7 (wK _) (C a1).2.1)
  .exact I.freeC y c a2
 .have dw:p∈X.pn++A:=by simpa[bB]using hp
  obtain⟨e,n,ne,nf,d⟩:=I.pin p dw;refine⟨F _ _ e,n,dE (bH e),λhf=>?_,d⟩;rcases cC.mp (I.stkSub p.1 hf)with z|z
  .exact ne z
  .exact nf z
 .show(ae::fc w g).length=D.length;rw[B.len];simp[fc]
end
def tt(X:Cx)(b:List aC)(t:TT):Prop :=
 ∀(d:List (af×Obj)) (s:ao) (a:St) (H:Hp) (Q:Bool->Hp->Prop),Inv X d a H s->t a H Q ->
  ar X.zz X.A (forIn b ah λc r=>if r=ah then do let ok <-nX c X.env (a9 c X.env);pure (ForInStep.yield ok)else pure (ForInStep.yield r)) (TP X d a Q) X.xe s
def NZ(J:Nat->ao->Prop)(n:∀k o,J k o->ar (aw P w) A (mK u) (λr B=>match r with
   |none=>R (.ok .next) B
   |some v=>ar (aw P w) A (Dg q u v) (λ_ G=>ar (aw P w) A (mJ q d v) (λ_ F=>ar (aw P w) A (forIn l ah λc r=>if r=ah then do let ok <-nX c d (a9 c d);pure (ForInStep.yield ok)else pure (ForInStep.yield r)) (λb z=>if b=ah then ar (aw P w) A (a9 m d) (λy E=>ar (aw P w) A (call (.builtin "list.append") [C,y]) (λ_ D=>∃j,j<k/\J j D) (λ_ _=>False) E) (λ_ _=>False) z else ∃j,j<k/\J j z) (λ_ _=>False) F) (λ_ _=>False) G) (λ_ _=>False) B) (λ_ _=>False) o) (k:Nat) (h:J k s) :
  mL (aw P w) A (.compLoop (.ListComp m [⟨q,i,l,0⟩] g p) 0 u C d) R s:=by
 refine codeAny_loop rfl J (λj o L=>?_) k h;show ar _ A (Sem.onRaise (compTurn (.ListComp m [⟨q,i,l,0⟩] g p) 0 u C d) (λx=>do zY x d;theTreesLotGoes x)) _ _ o;refine wpAny_noted ?_;rw[compTurn_list];have no:∀(S:ai->ao->Prop) (a:ai) (b:ao),False->S a b:=λ_ _ _ f=>f.elim;refine aq (wpAny_standAt (aq (fh (n j o L) (λr B I=>?_) (no _))));cases r with
 |none=>exact aF I
 |some v=>
  refine aq (fh I (λ_ G Q=>aq (fh Q (λ_ F O=>aq (fh O (λb z H=>?_) (no _))) (no _))) (no _));cases b with
  |true=>exact aq (aq (fh H (λy E N=>aq (fh N (λ_ D M=>aF (aF ⟨rfl,M⟩)) (no _))) (no _)))
  |false=>exact aF ⟨rfl,H⟩
def Nu:TT:=λ_ H Q=>Q ah H
def GE:tt X [] Nu:=λ_ _ _ H _ I h=>wpAny_tests_nil ⟨H,I,h⟩
def UY(h:PT X c t):tt X [c] t:=λd s a H Q I b=>wpAny_tests_one (h d s a H Q I b)
def zK(q:TI)(h:V->Hp->St->Prop)(k:Nat)(r:TT)(s:TE)(d:List Nat):TE:=λg H Q=>q g H λJ p=>∀l,p l=ae->∃W:Nat->Nat->List V->Hp->Prop,(∃m,W 0 m [] (upd p l (.lst [])))/\∀i m a H,W i m a H ->
 (J.stop i H/\Q (.ref l) H)\/(J.go i H/\∀v j,J.yld i H v j->∃f,f.length=k+1/\h v j f/\r (f++(fc g d).drop k) j λb o=>if b=ah then s (f++(fc g d).drop k) o λy n=>n l=aa (.lst a)/\a.length<bo/\∃c,c<m/\W (i+1) c (a++[y]) (upd n l (.lst (a++[y]))) else ∃c,c<m/\W (i+1) c a o)
def Jy:V->Hp->St->Prop:=λv _ a=>a=[aa v]
abbrev zI(b:TI)(c:TT)(d:TE)(a:List Nat):TE:=zK b Jy 0 c d a
section
def Inv.unblock(I:Inv X w A H s)(E:∀b∈p,lR X w H b)(a:Inv (bB X j l s.heap.objs.size s H p w) [] r i s') (sb:ka s.heap.objs.size s'.heap h):Inv X w A i {s' with heap:=h}:=by
 have k:∀b o,b≠s.heap.objs.size->s'.heap.get? b=aa o->h.get? b=aa o:=λb o f e=>(sb.2 b f).trans e;have y:∀b o,s.heap.get? b=aa o->b≠s.heap.objs.size:=λb o e=>dE (bH e);have un:Un (fJ X.stack) p H i s.heap h:=by
  refine⟨λb o e n f d=>k b o (y b o e) (a.base.keep b o e n f d),λb o e n f d=>?_,λb o e n d=>a.base.free b o e n d,λb o e d=>?_,a.base.tups,a.base.frzs,λb q e=>⟨(a.base.tbls b q e).1,λc o D g=>⟨k c o (λz=>by grind) ((a.base.tbls b q e).2 c o D g).1,((a.base.tbls b q e).2 c o D g).2⟩⟩⟩
  .obtain⟨F,q⟩:=a.base.slot b o e n f d;exact⟨F,k b _ (y b o e) q⟩
  .obtain⟨C,q⟩:=a.base.there b o e d;exact⟨C,k b C (y b o e) q⟩
 have B:dy X.prog X.w i h:=λb u e=>by have G:i s.heap.objs.size=ae:=a.free;refine(a.hok b u e).stay (λc v M q=>k c v ?_ q) (λ_ q=>q) λ_ _ q=>q;lia
 refine I.call' (s':={s' with heap:=h}) (ch:=p) a.os un B a.bare λb f=>?_;obtain⟨N,L,f2,f3,f4,J⟩:=E b f;exact⟨f3,L,f4,J⟩
def Ip(B:iG X j x l m)(hk:k<=m.length)(hc:X.calm=ah)(hi:PI X tg G wi)(dG:∀C F L ex pn,PG (bB X j l C F L ex pn) tg λv P H Q=>∃Z,Z.length=k+1/\P.length=l.length/\tgf v H Z/\Q (Z++P.drop (k+1)) H)(ht:∀C F L ex pn,tt (bB X j l C F L ex pn) ifs ts) (he:∀C F L ex pn,PE (bB X j l C F L ex pn) elt te) (hs:∀x,lT G X.env x=pure x) (I:Inv X w A H s) (h:zK wi tgf k ts te m A H Qp)(fin:∀{g s6:ao}{S H5:Hp}{M σ5 a f},Inv X w A S g->(∀b∈M,lR X w S b)->Inv (bB X j l g.heap.objs.size g S M w) [] σ5 H5 s6->Qp (.ref a) H5->compPost X.zz X.A X.xe use Q (.ref a) g.heap.objs.size (.ok f) s6):ar X.zz X.A (comprehension (.ListComp elt [⟨tg,G,ifs,0⟩] j pos) j X.env pos' (newList []) ak (a9 G X.env) use) Q X.xe s:=by
 refine wpAny_comprehension_free (use:=use) rfl hs (Ui (I.freeHas B)) B.kind B.names (aW (hi w s A H _ I h) λv s1 h1=>aW h1 λitv E h2=>?_);obtain⟨it,M,tn,J,H2,e,I2,T,bt,f2,h2⟩:=h2;subst e;refine ke ?_;have I3:Inv X w A (upd H2 E.heap.objs.size (.lst [])) {E with heap:=E.heap.push {cls:=.type "list",data:=.seq ([]:List ai).toArray},toks:=E.toks}:=I2.lnew (its:=[]) (t':=E.toks) .nil (jM _);obtain⟨W,⟨m0,w0⟩,turn⟩:=h2 E.heap.objs.size I2.fresh;generalize pK:({E with heap:=E.heap.push {cls:=.type "list",data:=.seq ([]:List ai).toArray},toks:=E.toks}:ao)=g at I3;have hs3':({E with heap:=E.heap.push {cls:=.type "list",data:=.seq ([]:List ai).toArray}}:ao)=g:=pK;generalize hH3:upd H2 E.heap.objs.size (.lst [])=S at I3 w0;have nl:∀b∈M,b≠E.heap.objs.size:=λb D e=>by obtain⟨o,ho,_⟩:=T.obj _ _ bt b D;exact absurd (bH ho) (by rw[e];exact jq _)
 have k3:∀b o,E.heap.get? b=aa o->g.heap.get? b=aa o:=λb o e=>by rw[<-pK];exact bL _ e
 have f3:∀b∈M,lR X w S b:=λb D=>⟨by rw[<-hH3,a8 (nl b D)];exact(f2 b D).1,(f2 b D).2⟩
 have bM:tn 0 g.heap:=T.keep _ _ _ bt λb _ o e=>k3 b o e;have fo3:∀b∈M,∃o,g.heap.get? b=aa o:=λb D=>(T.obj _ _ bM b D).imp λo q=>q.1;refine Qe ?_;generalize hh:pushCells (g.heap.push {cls:=.type "dict",data:=.dict #[]}) j.names=h₁;have old:∀b o,g.heap.get? b=aa o->h₁.get? b=aa o:=λb o e=>hh ▸ pushCells_keeps _ _ b o (bL _ e);have uC:h₁.Ns g.heap.objs.size (λ_=>ae):=hh ▸ (Heap.Ns.new g.heap (.type "dict")).keeps (pushCells_keeps _ _);have I4:=Inv.block (t':=g.toks) hh.symm I3 B f3 fo3 uC old;have b9:tn 0 h₁:=T.keep _ _ _ bM λb _ o e=>old b o e;have N:∀{H':Hp},(∀b∈M,H' b=ae)->∀b∈M,lR (bB X j l g.heap.objs.size g S M w) [] H' b:=λhn b D=>by
  obtain⟨f0,f1,f2',f3',f4,f5⟩:=f3 b D;refine⟨hn b D,λe=>?_,λhf=>?_,.inl D,λy c h=>?_,λp hp=>f5 p (by simpa[bB]using hp)⟩
  .obtain⟨o,ho⟩:=fo3 b D;exact absurd (bH ho) (by rw[show b=g.heap.objs.size from e];lia)
  .rcases cC.mp (I3.stkSub b hf)with z|z
   all_goals grind
  .rcases I3.cbIn B h with⟨a1,a2⟩|⟨a1,a2⟩
   .rintro rfl;obtain⟨o,ho⟩:=fo3 _ D;exact zA (Gj a1).2.1 (bH ho)
   .exact f4 y c a2
 have loop:mL X.zz X.A (.compLoop (.ListComp elt [⟨tg,G,ifs,0⟩] j pos) 0 (.ref it) (.ref E.heap.objs.size) (compEnvC j (mv X j g.heap.objs.size) g.heap.objs.size X.env))
   (compPost X.zz X.A X.xe use Q (.ref E.heap.objs.size) g.heap.objs.size) {g with heap:=h₁,toks:=g.toks}:=by
  refine NZ (λn s'=>∃i Y P H',(∃pre:St,pre.length=k+1/\P=pre++(fc A m).drop k)/\Inv (bB X j l g.heap.objs.size g S M w) [] P H' s'/\tn i s'.heap/\(∀b∈M,H' b=ae)/\W i n Y H') ?_ m0
   ⟨0,[],_,S,⟨(ae::fc A m).take (k+1),by simp[fc];lia,by simp_all⟩,I4,b9,λb D=>(f3 b D).1,w0⟩
  rintro n s5 ⟨i,Y,σ5,H5,⟨pre,xj,rfl⟩,I5,cA,fr5,w5⟩;rcases turn i n Y H5 w5 with⟨stop,q⟩|⟨go,step⟩
  .refine fh (T.done (bB X j l g.heap.objs.size g S M w) rfl rfl rfl hc i [] s5 _ H5 (λ_ _=>False) I5 (N fr5) cA stop) (λr s6 ⟨hr,I6⟩=>?_) (λ_ _ f=>f.elim);subst hr;exact fin I3 f3 I6 q
  .refine fh (T.item (bB X j l g.heap.objs.size g S M w) rfl rfl rfl hc i [] s5 _ H5 (λ_ _=>False) I5 (N fr5) cA go) (λr s6 ⟨u,hr,h6⟩=>?_) (λ_ _ f=>f.elim);subst hr;refine fh h6 (λ_ s7 ⟨v,H7,I7,r7,y7,st7,fr7⟩=>?_) (λ_ _ f=>f.elim);have I7':=I7.pinned (N fr7) (T.obj _ _ st7);have back:∀{O:St}{H8:Hp}{s8:ao},Inv (bB X j l g.heap.objs.size g S M w) ([]++v9 M s7.heap) O H8 s8->tn (i+1) s8.heap/\(∀b∈M,H8 b=ae):=λ{O H8 s8} I8=>⟨T.keep _ _ _ st7 λb D o e=>(I8.pin (b,o) (kJ _ (kJ _ (zh D e)))).1,λb D=>by obtain⟨o,e,d⟩:=T.obj _ _ st7 b D;exact(I8.pin (b,o) (kJ _ (kJ _ (zh D e)))).2.1⟩
   obtain⟨Z,eO,htg,step⟩:=step v H7 y7;refine aW (dG _ _ _ _ _ _ s7 _ H7 v u (λO H8=>O=Z++(fc A m).drop k/\H8=H7) I7' r7 ⟨Z,eO,I7'.len,htg,by grind,rfl⟩) λ_ s8 ⟨O,H8,I8,e8,e8'⟩=>?_;subst e8 e8';refine aW (ht _ _ _ _ _ _ s8 _ _ _ I8 step) λb s9 ⟨H9,I9,q9⟩=>?_;cases b with
   |false=>
    obtain⟨m',hm,w9⟩:=(show ∃m',m'<n/\W (i+1) m' Y H9 from q9)
    exact⟨m',hm,i+1,Y,_,H9,⟨Z,eO,rfl⟩,I9.unpinned,(back I9).1,(back I9).2,w9⟩
   |true=>refine aW (he _ _ _ _ _ _ s9 _ H9 _ I9 q9) λu10 s10 ⟨y,H10,I10,r10,hl10,hz10,m',hm,w10⟩=>?_;refine aW (Hm _ s10 _ H10 (.ref E.heap.objs.size) [y] _ [u10] (λz H11=>H11=upd H10 E.heap.objs.size (.lst (Y++[y]))) I10 rfl (.cons r10 .nil) ⟨_,Y,y,rfl,rfl,hl10,hz10,rfl⟩) λ_ s11 ⟨_,H11,I11,_,e11⟩=>?_;subst e11;exact⟨m',hm,i+1,Y++[y],_,_,⟨Z,eO,rfl⟩,I11.unpinned,(back I11).1,(back I11).2,w10⟩
 exact codeAny_compStart_list loop (T.self _ 0 _ _ _ b9 loop)
def Fl(B:iG X j x l m):∀C b c g f,PG (bB X j l C b c g f) (.Name x o) λv d H Q=>∃i,i.length=0+1/\d.length=l.length/\Jy v H i/\Q (i++d.drop (0+1)) H:=by
 intro C b c g f w s d H v u Q I r h;obtain⟨i,_,y,p,q⟩:=h;cases (show i=[aa v] from p);have D:Loc (bB X j l C b c g f).env.scope x:=B.loc.elim (λh=>.inl (wL h)) (λh=>.inr (yM h));have z:(bB X j l C b c g f).fn x=ah\/(bB X j l C b c g f).env.scope.names.lookup x=aa .local:=B.loc.elim (λh=>.inr (wL h)) (λh=>.inl (by show(j.names.lookup x == aa .cell)=ah;rw[h];rfl));have n:(bB X j l C b c g f).N[0]?=aa x:=by show l[0]?=aa x;rw[<-List.head?_eq_getElem?];exact B.hd
 refine qN B.nd n D z w s d H v u Q I r ?_;show Q (d.set 0 (aa v)) H;cases d with
 |nil=>rw[re,B.len]at y;lia
 |cons a r=>exact q
def Pw(B:iG X j x l m)(D:X.calm=ah)(y:PI X (.Name x o) b wi)(u:∀C a c n g,tt (bB X j l C a c n g) d ts) (z:∀C a c n g,PE (bB X j l C a c n g) f te) (v:∀x,lT b X.env x=pure x:=by intro _;rfl):PE X (.ListComp f [⟨.Name x o,b,d,0⟩] j pos) (zI wi ts te m):=by intro w s A H Q I h;rw[eval_ListComp];exact Ip (use:=ae) B (jM _) D y (Fl B) u z v I h λE f3 p q=>by obtain⟨r,i,_⟩:=p.loc;exact⟨r,i,λF sb=>⟨.ref _,_,E.unblock f3 p sb,rfl,q⟩⟩
end
def Walk(J:It)(xs:List V)(R:Hp->Prop):Prop :=
 ∀H,R H->∀i,(∀x,xs[i]?=aa x->J.go i H/\∀y a,J.yld i H y a->a=H/\y=x)/\(i=xs.length->J.stop i H)
def QJ{K:ax}{a:af}{xs:List V}:Walk (AT K a) xs (λH=>cF K H a xs):=λH h i=>⟨λx b=>⟨⟨xs,x,h,b⟩,λy d z=>⟨z.1,by have:=z.2 xs h;lia⟩⟩,λc=>⟨xs,h,ug c.symm⟩⟩
def LU{K:ax}{a:af}{xs:List V}:Walk (Cj K a) xs (λH=>cu K H a xs):=λH h i=>⟨λx b=>⟨⟨xs,x,h,b⟩,λy d z=>⟨z.1,by have:=z.2 xs h;lia⟩⟩,λc=>⟨xs,h,ug c.symm⟩⟩
def sQ(a:Int)(n:Nat):List V:=(cJ n).map λi=>V.int (a+(i:Nat))
def A7(a:Int)(n:Nat):(sQ a n).length=n:=by simp[sQ]
def OJ{b:Int}{n:Nat}:Walk (yT b n) (sQ b n) (λ_=>True):=λH _ i=>by
 refine⟨λx a=>?_,λc=>by rw[A7]at c;exact ug c.symm⟩;have d:i<n:=by have:=(cP.mp a).1;rw[A7]at this;exact this
 refine⟨d,λy g z=>⟨z.1,?_⟩⟩;unfold sQ at a;rw[d8,Dt d]at a;have f:V.int (b+(i:Nat))=x:=f_ a;rw[z.2,<-f]
def sg(c:Nat):V:=.str ⟨#[c]⟩
def wo(z:Str):It:=⟨λi _=>i<z.cps.size,λi H x a=>a=H/\∃c,z.cps[i]?=aa c/\x=sg c,λi _=>i=z.cps.size⟩
def Rp:Walk (wo z) (z.cps.toList.map sg) (λ_=>True):=λH _ i=>by
 refine⟨λx a=>?_,λd=>by show i=z.cps.size;simpa using d⟩;rw[d8]at a;cases e:z.cps.toList[i]? with
 |none=>rw[e]at a;cases a
 |some c=>
  rw[e]at a;have f:i<z.cps.size:=by have:=(cP.mp e).1;simpa using this
  refine⟨f,λy h w=>⟨w.1,?_⟩⟩;obtain⟨g,b,rfl⟩:=w.2;have:z.cps[i]?=aa c:= ~~~e
  rw[this]at b;cases b;exact(f_ a)
section
variable{X:Cx}
def S5{P:aQ}{w:aJ}{K:ax}{z:Str}{d:af}{f:Nat->aB->Prop} (O:∀i h,f i h->∃o n L,h.get? d=aa o/\o.cls=.type n/\o.data=.fields L /\ ["enumerate","zip","dict_itemiterator","dict_reverseitemiterator","odict_iterator","itertools.zip_longest","itertools.pairwise"].contains n=ak)(Vn:∀(A:aX) (i:Nat) (s:ao) (Q:ai->ao->Prop) (E:ai->ao->Prop),f i s.heap->Q (.ref d) s->ar (aw P w) A (nY (.ref d)) Q E s)(y:∀A:aX,A.handled=ae->Walks P w A d [d] [d] z.cps.size (SignAt z) f):qh P w K a (wo z) [d] d f where
 mem:=by simp
 obj:=λi h g b j=>by
  grind
 keep:=λi h m g k=>by exact(y ({}:aX) rfl).frame i h m g k
 item:=by intro X B q C x i M s J H E I p g r;subst B q C;obtain⟨G,F,f2,f3,f4,D⟩:=p d (by simp);refine(y X.A (I.ok.hd x)).item i s _ _ r g λv m l T N k=>?_;have I1:Inv X M J H {s with heap:=m,toks:=l}:=I.turned (t':=l) (λb o j e=>k b o (~~~j) e) G F f3 f4 D;obtain⟨o,n,L,h1,Z,Y,W⟩:=O _ _ N;obtain⟨c,u,e1,rfl⟩:=T;exact⟨_,rfl,u7 (s:={s with heap:=m,toks:=l}) h1 Z Y W ⟨sg c,H,I1,⟨u,rfl⟩,⟨rfl,c,e1,rfl⟩,N,λb j=>(p b j).1⟩⟩
 done:=by intro X B q C x i M s J H E I p g r;subst B q C;obtain⟨G,F,f2,f3,f4,D⟩:=p d (by simp);have S:i=z.cps.size:=r;subst S;exact(y X.A (I.ok.hd x)).done s _ _ g λm l k=>⟨rfl,I.turned (t':=l) (λb o j e=>k b o (~~~j) e) G F f3 f4 D⟩
 self:=Vn
def HP{J:It}{xs:List V}{R:Hp->Prop}{g:TG}{l:TS}{D:j4}(B:Walk J xs R)(c:Nat->St->Hp->Prop)(C:c 0 b H)(w:∀i b H,i<=xs.length->c i b H->R H)(v:∀i x b H,xs[i]?=aa x->c i b H->g x b H λf j=>l {D with nx:=c (i+1),ct:=c (i+1),bk:=D.nx} f j) (A:∀b H,c xs.length b H->D.nx b H):∃W:Nat->Nat->St->Hp->Prop,(∃m,W 0 m b H)/\∀i m b H,W i m b H -> (J.stop i H/\D.nx b H)\/(J.go i H/\∃N:St->Hp->Prop,(∀h d,N h d->∃n,n<m/\W (i+1) n h d)/\∀x d,J.yld i H x d->g x b d λf j=>l {D with nx:=N,ct:=N,bk:=D.nx} f j):=by
 refine⟨λi m b H=>m=xs.length-i/\i<=xs.length/\c i b H,⟨xs.length,by simp,jM _,C⟩,?_⟩;rintro i m b H ⟨rfl,z,p⟩;have q:=B H (w i b H z p) i;by_cases r:i<xs.length
 .have o:xs[i]?=aa xs[i]:=by simp[r]
  obtain⟨E,s⟩:=q.1 xs[i] o;refine .inr ⟨E,c (i+1),λh d u=>⟨xs.length-(i+1),∅,rfl,r,u⟩,λx d y=>?_⟩;obtain⟨rfl,rfl⟩:=s x d y;exact v i _ b _ o p
 .have e:i=xs.length:=∅
  subst e;exact .inl ⟨q.2 rfl,A b H p⟩
def Uu{b:Type}(l:List b)(f:b->Bool)(d:Nat->Bool)(c:∀i x,l[i]?=aa x->d i=f x):(cJ l.length).all d=l.all f:=by
 induction l generalizing d with
 |nil=>rfl
 |cons x r g=>rw[gR,J1,qZ,uh,qZ,c 0 x rfl];congr 1;exact g _ λi y h=>c (i+1) y (~~~h)
def UN{bs:List Bool}(r:bG (bs.map V.bl) b){i:Nat}(h:b.toArray[i]?=aa v):v=.bool (bs.getD i ak):=by
 have d:=r.length;rw[cK]at d;have g:i<b.length:=by have:=(mQ.mp h).1;simpa using this
 have e:(bs.map V.bl)[i]?=aa (.bl (bs.getD i ak)):=by rw[d8,d9 ∅];simp[List.getD,d9 (show i<bs.length by lia)]
 obtain⟨u,c,f⟩:=r.get e;have:b[i]?=aa v:= ~~~h
 rw[this]at c;cases c;exact f
def uV{A:aX}(h:A.handled=ae):A.in1.handled=ae:=h
def zx(j:X.calm=ah):eG X (.builtin "all") (λxs H Q=>∃(p:af) (bs:List Bool),xs=[.ref p]/\cF X.K H p (bs.map V.bl)/\Q (.bl (bs.all id)) H):=by
 intro N s n H xs P Q I r h;obtain⟨p,bs,rfl,E,q⟩:=h;obtain⟨u,rfl,y⟩:=vals1 r;cases y;obtain⟨d,l,f,T⟩:=I.list E;have m:=l.length;rw[cK]at m;refine call_all_walk (J2 f.isList ?_);have M:p≠s.heap.objs.size:=by obtain⟨o,g,_⟩:=f.isList;exact dE (bH g)
 refine⟨s.heap.objs.size,_,_,_,_,_,λi=>bs.getD i ak,rfl,Walks.list (uV (I.ok.hd j)) s.heap.objs.size p M d.toArray,⟨⟨_,cV _ rfl,rfl,rfl⟩,?_⟩,λi v S Y Z D L=>?_,λW w k=>?_⟩
 .obtain⟨o,g,j,G⟩:=f.isList;exact⟨o,bL _ g,j,G⟩
 .rw[UN l D];exact ph L
 .have e:(cJ d.toArray.size).all (λi=>bs.getD i ak)=bs.all id:=by
   rw[fD,<-m];exact Uu bs id _ λi x C=>by simp[List.getD,C]
  rw[e];have O:Inv X N n H {s with heap:=s.heap.push {cls:=.type "list_iterator",data:=.fields #[.ref p,.int 0 0]},toks:=s.toks}:=I.kept (t':=s.toks) λb o e=>bL _ e;exact⟨.bl _,H,Inv.turned (t':=w) O (it:=s.heap.objs.size) (λb o J e=>k b o (~~~J) e) I.fresh (t9 I.lt) (.inr I.sz) (λx c e z=>by obtain⟨v,A⟩:=I.cell x c e;exact absurd A.lt (by rw[z];exact jq _)) (λB F z=>absurd (bH (I.pin B F).1) (by rw[z];exact jq _)),rfl,q⟩
end
section
def mx(z:Str)(a b:Option Int):Str:=⟨((z.cps.toList.drop (HT.sIx z.length 0 a)).take (HT.sIx z.length z.length b-HT.sIx z.length 0 a)).toArray⟩
def R8(a b:Nat):sliceRange (a:Int) (b:Int) 1=(cJ (b-a)).map λk=>a+k:=by
 unfold sliceRange;have e:(if(1:Int) > 0 then(if(a:Int)<(b:Int)then((b:Int)-a+1-1) / 1 else 0)else(if(a:Int) > b then((a:Int)-b-1-1) / (-1)else 0)).toNat=b-a:=by
  rw[if_pos (by decide)];split
  .rw[Int.ediv_one];lia
  .have:b-a=0:=∅
   rw[this];rfl
 show(cJ (if(1:Int) > 0 then(if(a:Int)<(b:Int)then((b:Int)-a+1-1) / 1 else 0)else(if(a:Int) > b then((a:Int)-b-1-1) / (-1)else 0)).toNat).map _=_;rw[e];refine lY λk _=>?_;lia
def MC(a b:Option Int)(n:Nat):Builtin.Str.strSliceIndices a b 1 n=(cJ (HT.sIx n n b-HT.sIx n 0 a)).map λk=>HT.sIx n 0 a+k:=by
 rw[<-R8];have p:(1:Int) > 0:=by decide
 cases a <;> cases b <;> (unfold Builtin.Str.strSliceIndices HT.sIx;simp only[p,if_true];congr 1 <;> (try split) <;> lia)
def Oe{b:Type}(l:List b)(a k:Nat):((cJ k).map λj=>a+j).filterMap (λi=>l[i]?)=(l.drop a).take k:=by
 induction k with
 |zero=>simp
 |succ k c=>
  rw[rf,ui,List.filterMap_append,c,List.take_succ];congr 1;simp[nW];cases l[a+k]? <;> rfl
def N8(z:Str)(t:Tok)(l u:Option (Int×Tok)):∃m,sliceMade z t l u ae=m/\(m=.val (.str z t)/\mx z (l.map (·.1)) (u.map (·.1))=z\/m=.str (mx z (l.map (·.1)) (u.map (·.1)))):=by
 refine⟨_,rfl,?_⟩;unfold sliceMade slicePicked;have e:=MC (l.map (·.1)) (u.map (·.1)) z.length;simp only[Option.map_none,JT];rw[e];have d:=Oe z.cps.toList (HT.sIx z.length 0 (l.map (·.1))) (HT.sIx z.length z.length (u.map (·.1))-HT.sIx z.length 0 (l.map (·.1)));have b:(((cJ (HT.sIx z.length z.length (u.map (·.1))-HT.sIx z.length 0 (l.map (·.1)))).map λk=>HT.sIx z.length 0 (l.map (·.1))+k).filterMap (z.cps[·]?)).toArray=(mx z (l.map (·.1)) (u.map (·.1))).cps:=by unfold mx;rw[<-d];simp
 split
 .rename_i h;left;refine⟨rfl,?_⟩;simp only[beq_self_eq_true,Du,cK,List.length_range,beq_iff_eq]at h;have g:HT.sIx z.length z.length (u.map (·.1))<=z.length:=HT.sIx_le _ _ (bi _) _;have f:z.cps.toList.length=z.length:=by simp[Str.length]
  have a:HT.sIx z.length 0 (l.map (·.1))=0\/z.length=0:=∅
  unfold mx;rw[h];rcases a with a|a
  .rw[a,List.drop_zero,pA ∅]
  .have:z.cps.toList=[]:=Dv ∅;rw[this];cases z;rename_i c;simp at this;subst this;simp
 .right;rw[show(⟨(((cJ (HT.sIx z.length z.length (u.map (·.1))-HT.sIx z.length 0 (l.map (·.1)))).map λk=>HT.sIx z.length 0 (l.map (·.1))+k).filterMap (z.cps[·]?)).toArray⟩:Str)=mx z (l.map (·.1)) (u.map (·.1))from by rw[b]]
def G8:V->Option Int->Option Int->Hp->VK->Prop:=λx a b H Q=>∃z,x=.str z/\z.length<=bo/\Q (.str (mx z a b)) H
def T8(z:Str)(a b:Option Int):(mx z a b).length<=z.length:=by unfold mx Str.length;simp;lia
def part_of(p:n0 v o):∃q:Option (Int×Tok),v=partValue q/\q.map (·.1)=o:=by
 cases p with
 |none=>exact⟨ae,rfl,rfl⟩
 |int i t=>exact⟨aa (i,t),rfl,rfl⟩
def Vz:nD X G8:=by
 intro y s n H x v p o r w a Q I b g d c h;obtain⟨z,rfl,f,q⟩:=h;obtain⟨t,rfl⟩:=b;obtain⟨l,rfl,rfl⟩:=part_of d;obtain⟨u,rfl,rfl⟩:=part_of c;refine⟨"str",_,F.slot_str_getitem.lookup,typeIs_str s z t,?_⟩;obtain⟨m,j,i⟩:=N8 z t l u;refine getItem_meets (typeIs_str s z t) (by decide) F.slot_str_getitem F.entry_str_getitem (F.args_str_getitem_2 _ _) (meets_str_getitem_slice z t a l u ae (by decide)) ⟨g,?_⟩;rw[j];rcases i with⟨rfl,e⟩|rfl
 .exact⟨.str z,H,I,⟨t,rfl⟩,by rw[e]at q;exact q⟩
 .exact⟨c7 (T8 z _ _) f,⟨.str _,H,I.tok _,⟨_,rfl⟩,q⟩⟩
end
section
variable{X:Cx}
def ja(K:ax)(H:Hp)(d:Nat)(x y:V)(k:Bool):Prop :=
 ∀(X:Cx),X.K=K->∀(b:List (af×Obj)) (a:St) (s:ao) (u v:ai) (A:aX),Inv X b a H s->RelV x u->RelV y v->A.units+d<cLine->wH A s u v k
def MG{K:ax}{H:Hp}{d:Nat}{x y:V}(f:gx x=ah)(c:gx y=ah):ja K H d x y (eT x y):=λ_ _ _ _ _ _ _ _ _ b a _=>GL b a f c
def gH(e:Nat->Bool)(n m:Nat):Bool:=(cJ (min n m)).all e&&n == m
def UW{A:aX}:A.in1.units=A.units+1:=rfl
def BM{A:aX}(I:Inv X E o H s)(N:cF X.K H a xs)(M:cF X.K H b c)(L:∀(j:Nat) x y,xs[j]?=aa x->c[j]?=aa y->ja X.K H d x y (e j)) (T:A.units+(d+1)<cLine):SeqAt.RcAt A s (.ref a) (.ref b) (gH e xs.length c.length)/\SeqAt.RcNeAt A s (.ref a) (.ref b) (!gH e xs.length c.length):=by
 obtain⟨g,q,m,_⟩:=I.list N;obtain⟨h,p,f,_⟩:=I.list M;have J:=q.length;have S:=p.length;have z:∀j (C:j<g.toArray.size) (B:j<h.toArray.size),wH A.in1 s g.toArray[j] h.toArray[j] (e j):=λj C B=>by
  have Q:j<g.length:= ~~~C
  have P:j<h.length:= ~~~B
  have i:xs[j]?=aa xs[j]:=d9 ∅;have D:c[j]?=aa c[j]:=d9 ∅;obtain⟨u,w,G⟩:=q.get i;obtain⟨v,r,F⟩:=p.get D;have O:g[j]=u:=by rw[d9 Q]at w;exact f_ w
  have f2:h[j]=v:=by rw[d9 P]at r;exact f_ r
  have:=L j xs[j] c[j] i D X rfl E o s u v A.in1 I G F (by lia);simpa[O,f2]using this
 by_cases n:xs.length=c.length
 .have l:g.toArray.size=h.toArray.size:=by simp;lia
  have i:gH e xs.length c.length=(cJ g.toArray.size).all e:=by
   unfold gH
   grind
  rw[i];exact⟨.lists m.isList f.isList l ∅ z,.lists m.isList f.isList l ∅ z⟩
 .have i:gH e xs.length c.length=ak:=by
   unfold gH;rw[beq_false_of_ne n,zZ]
  have l:(g.toArray.size != h.toArray.size)=ah:=by simp;lia
  rw[i];exact⟨.lists_lengths m.isList f.isList l ∅,.lists_lengths m.isList f.isList l ∅⟩
def C3{A:aX}(I:Inv X D m H s)(M:cu X.K H a xs)(L:cu X.K H b c)(J:∀(j:Nat) x y,xs[j]?=aa x->c[j]?=aa y->ja X.K H d x y (e j)) (Q:A.units+(d+1)<cLine):SeqAt.RcAt A s (.ref a) (.ref b) (gH e xs.length c.length)/\SeqAt.RcNeAt A s (.ref a) (.ref b) (!gH e xs.length c.length):=by
 obtain⟨g,o,r,_⟩:=I.tuple M;obtain⟨f,n,h,_⟩:=I.tuple L;have l:=o.length;have G:=n.length;have w:∀j (B:j<g.toArray.size) (z:j<f.toArray.size),wH A.in1 s g.toArray[j] f.toArray[j] (e j):=λj B z=>by
  have P:j<g.length:= ~~~B
  have O:j<f.length:= ~~~z
  have i:xs[j]?=aa xs[j]:=d9 ∅;have C:c[j]?=aa c[j]:=d9 ∅;obtain⟨u,q,F⟩:=o.get i;obtain⟨v,p,E⟩:=n.get C;have N:g[j]=u:=by rw[d9 P]at q;exact f_ q
  have f2:f[j]=v:=by rw[d9 O]at p;exact f_ p
  have:=J j xs[j] c[j] i C X rfl D m s u v A.in1 I F E (by rw[UW];lia);simpa[N,f2]using this
 have i:gH e xs.length c.length=((cJ (min g.toArray.size f.toArray.size)).all e&&g.toArray.size == f.toArray.size):=by unfold gH;rw[fD,fD,<-l,<-G]
 rw[i];exact⟨.tuples r h ∅ w,.tuples r h ∅ w⟩
def Ln{K:ax}{H:Hp}{d:Nat}{a b:af}{xs c:List V}{e:Nat->Bool}(m:cF K H a xs)(l:cF K H b c)(o:a≠b)(i:∀(j:Nat) x y,xs[j]?=aa x->c[j]?=aa y->ja K H d x y (e j)):ja K H (d+1) (.ref a) (.ref b) (gH e xs.length c.length):=λX n q p s u v A I g f h=>by
 subst n;cases g;cases f;exact .of_refs o (BM I m l i h).1
def ND{K:ax}{H:Hp}{d:Nat}{a b:af}{xs c:List V}{e:Nat->Bool}(m:cu K H a xs)(l:cu K H b c)(o:a≠b)(i:∀(j:Nat) x y,xs[j]?=aa x->c[j]?=aa y->ja K H d x y (e j)):ja K H (d+1) (.ref a) (.ref b) (gH e xs.length c.length):=λX n q p s u v A I g f h=>by
 subst n;cases g;cases f;exact .of_refs o (C3 I m l i h).1
def Fs{K:ax}{H:Hp}{d:Nat}{a:af}:ja K H d (.ref a) (.ref a) ah:=λX h i f s u v A I c b g=>by
 cases c;cases b;exact .same _
def vp(K:ax)(f:Bool):R2:=λx y H Q=>∃a b xs c d e,x=.ref a/\y=.ref b/\((cF K H a xs/\cF K H b c)\/(cu K H a xs/\cu K H b c))/\d<=8 /\
 (∀(j:Nat) x y,xs[j]?=aa x->c[j]?=aa y->ja K H d x y (e j))/\Q (.bl (if f then !gH e xs.length c.length else gH e xs.length c.length)) H
def LO(m:X.A.units+64<cLine):cg X (eF .Eq) (vp X.K ak):=by
 intro o s j H x y v u Q I g f h;obtain⟨a,b,xs,l,d,e,rfl,rfl,i,n,c,q⟩:=h;cases g;cases f;rcases i with⟨h1,h2⟩|⟨h1,h2⟩
 .exact(BM I h1 h2 c ∅).1 _ _ _ _ ⟨.bl _,H,I,rfl,q⟩
 .exact(C3 I h1 h2 c ∅).1 _ _ _ _ ⟨.bl _,H,I,rfl,q⟩
def RI(m:X.A.units+64<cLine):cg X (eF .NotEq) (vp X.K ah):=by
 intro o s j H x y v u Q I g f h;obtain⟨a,b,xs,l,d,e,rfl,rfl,i,n,c,q⟩:=h;cases g;cases f;rcases i with⟨h1,h2⟩|⟨h1,h2⟩
 .exact(BM I h1 h2 c ∅).2 _ _ _ _ ⟨.bl _,H,I,rfl,q⟩
 .exact(C3 I h1 h2 c ∅).2 _ _ _ _ ⟨.bl _,H,I,rfl,q⟩
def Ow(K:ax):V->List V->Hp->VK->Prop:=λx a H Q=>∃(p:af) (xs:List V) (y:V),x=.ref p/\a=[y]/\H p=aa (.lst xs)/\gx y=ah/\xs.all gx=ah/\Q (.int ((xs.countP λz=>eT z y:Nat):Int)) H
def CM:∀{xs:List V}{a:List ai},bG xs a->xs.all gx=ah->a.countP (j9 y)=xs.countP λz=>eT z y
 |_,_,.nil,_=>rfl
 |z::xs,u::a,.cons r t,f=>by rw[qZ,h_]at f;rw[List.countP_cons,List.countP_cons,yx r f.1,CM t f.2]
def NX:ww X "list.count" (Ow X.K):=by
 intro B s l H x m v o Q I c d h;obtain⟨p,xs,y,rfl,rfl,i,j,b,q⟩:=h;cases c;obtain⟨u,rfl,f⟩:=d.one;obtain⟨z,a,n,r,A,e⟩:=I.lstM i;refine zU F.slot_list_count ⟨_,e,rfl⟩ F.entry_list_count (F.args_list_count_2 _ _) (SeqAt.list_countAt p a.toArray n ae #[] u (j9 y)) ⟨e,λw g=>sw f j r b w (~~~g),?_⟩;exact⟨.int _,H,I.tok _,⟨_,by rw[Dw,CM r b]⟩,q⟩
def Oj(K:ax):V->List V->Hp->VK->Prop:=λx a H Q=>∃(p:af) (xs:List V) (y:V),x=.ref p/\a=[y]/\cu K H p xs/\gx y=ah/\xs.all gx=ah/\Q (.int ((xs.countP λz=>eT z y:Nat):Int)) H
def Lb:ww X "tuple.count" (Oj X.K):=by
 intro J s C H x D v E Q I i j h;obtain⟨p,xs,y,rfl,rfl,o,z,d,q⟩:=h;cases i;obtain⟨u,rfl,l⟩:=j.one;obtain⟨a,r,⟨⟨B,A,f,g⟩,e,c,n,b⟩,G⟩:=I.tuple o;simp only at c b;subst c b;refine zU F.slot_tuple_count ⟨_,e,rfl⟩ F.entry_tuple_count (F.args_tuple_count_2 _ _) (SeqAt.tuple_countAt p a.toArray n A g u (j9 y)) ⟨e,λw m=>sw l z r d w (~~~m),?_⟩;exact⟨.int _,H,I.tok _,⟨_,by rw[Dw,CM r d]⟩,q⟩
def Qx:V->List V->Hp->VK->Prop:=λx a H Q=>∃(p:af) (xs:List V) (y:V) (j:Nat),x=.ref p/\a=[y]/\H p=aa (.lst xs)/\gx y=ah/\xs.all gx=ah/\j<xs.length /\
 (∀z,xs[j]?=aa z->eT z y=ah)/\(∀(i:Nat) z,i<j->xs[i]?=aa z->eT z y=ak)/\Q (.int j) H
def Rg:ww X "list.index" Qx:=by
 intro ag s T H x W v Y Q I A B h;obtain⟨p,xs,y,j,rfl,rfl,L,O,l,hj,N,M,q⟩:=h;cases A;obtain⟨u,rfl,C⟩:=B.one;obtain⟨z,a,n,r,hl,e⟩:=I.lstM L;have Z:=sP;have c:∀(i:Nat) (g:i<a.toArray.size),∃w,xs[i]?=aa w/\j9 y a.toArray[i]=eT w y:=λi g=>by
  have E:i<a.length:= ~~~g
  have o:xs[i]?=aa xs[i]:=d9 ∅;obtain⟨w,b,D⟩:=r.get o;have S:a[i]=w:=by rw[d9 E]at b;exact f_ b
  refine⟨_,o,?_⟩;have P:gx xs[i]=ah:=lZ.mp l _ (wM _);rw[<-yx D P];simp[S]
 refine zU F.slot_list_index ⟨_,e,rfl⟩ F.entry_list_index (F.args_list_index_2 _ _) (SeqAt.list_indexAt p a.toArray n ae #[] u (j9 y) j (by simp;lia) ∅ ?_ ?_) ⟨e,λw G=>sw C O r l w (~~~G),?_⟩
 .obtain⟨w,b,d⟩:=c j (by simp;lia);rw[d];exact N w b
 .intro m J f;obtain⟨w,b,d⟩:=c m J;rw[d];exact M m w f b
 .exact⟨.int _,H,I.tok _,⟨_,rfl⟩,q⟩
end
abbrev Tx:=List Nat
def tS(l:Tx):Str:=⟨l.toArray⟩
def tV(l:Tx):V:=.str (tS l)
def cr(ls:List Tx):List V:=ls.map tV
def j8(l:Tx):(tS l).cps.toList=l:=by simp[tS]
def kY(l:Tx):(tS l).length=l.length:=by simp[tS,Str.length]
def qp(z:Str):tS z.cps.toList=z:=by cases z;simp[tS]
def sN(h:tS a=tS b):a=b:=by rw[<-j8 a,h,j8]
def OE(h:tV a=tV b):a=b:=sN (V.str.inj h)
def zo(a:List Tx):(cr a).length=a.length:=cK _
def dD(a b:Tx):Bool:=decide (a<=b)
def aT(ls:List Tx):List Tx:=ls.mergeSort dD
def Gz(a b c:Tx)(f:dD a b=ah)(d:dD b c=ah):dD a c=ah:=by
 simp only[dD,decide_eq_true_eq]at *
 grind
def N6(a b:Tx):(dD a b||dD b a)=ah:=by
 simp only[dD,Dx,decide_eq_true_eq]
 grind
def RQ(d:dD a b=ah)(c:dD b a=ah):a=b:=by
 simp only[dD,decide_eq_true_eq]at *
 grind
def fk(ls:List Tx):(aT ls).Perm ls:=Dy _ _
def tI(ls:List Tx):(aT ls).Pairwise (λa b=>dD a b=ah):=J3 Gz N6 _
def zg(ls:List Tx):(aT ls).length=ls.length:=(fk ls).length_eq
def v7{d:List Tx}(g:d.Perm c)(f:d.Pairwise (λa b=>dD a b=ah)):d=aT c :=J4 (le:=λa b=>dD a b=ah) (λ_ _ _ _ i h=>RQ i h) f (tI c) (g.trans (fk c).symm)
def qH{ls:List Tx}(c:ls.Pairwise (λa b=>dD a b=ah)):aT ls=ls:=(v7 (uj ls) c).symm
def sA{a:List Tx}(c:a.Perm b):aT a=aT b:=v7 ((fk a).trans c) (tI a)
def Gy:∀(p:Str) (l:List Str),risingS p l=ah->(p::l).Pairwise (λa b=>dD a.cps.toList b.cps.toList=ah)
 |p,[],_=>List.pairwise_singleton _ _
 |p,x::r,h=>by
  have f:(!ltCps x.cps.toList p.cps.toList&&risingS x r)=ah:=h;rw[h_,ltCps_eq]at f;have q:=Gy x r f.2;have d:dD p.cps.toList x.cps.toList=ah:=by
   simp only[dD,decide_eq_true_eq]
   grind
  refine List.pairwise_cons.mpr ⟨λy c=>?_,q⟩;rcases cC.mp c with rfl|c
  .exact d
  .exact Gz _ _ _ d (List.rel_of_pairwise_cons q c)
def Jb(h:sortedS c=ah):(c.map λz=>z.cps.toList).Pairwise (λa b=>dD a b=ah):=by
 rw[pB];cases c with
 |nil=>simp_all
 |cons x r=>exact Gy x r h
def uU:∀{ls:List Tx}{a:List ai},bG (cr ls) a->cS a (ls.map tS)
 |[],_,.nil=>.nil
 |l::ls,_::_,.cons ⟨t,e⟩ r=>by subst e;exact .cons _ t (uU (ls:=ls) r)
def B5:∀{b:List Str}{a:List ai},cS a b->bG (cr (b.map λz=>z.cps.toList)) a
 |_,_,.nil=>.nil
 |_,_,.cons y t h=>.cons ⟨t,by rw[qp]⟩ (B5 h)
section
variable{A:aX}
def OI(x:ar (aw P w) A.in1 (collect v) (λd s1=>∃ss:List Str,cS d ss/\d.length<64/\∀(i:aB) (out:Array ai) (f:List Str) (e:Nat),(∀b o,s1.heap.get? b=aa o->i.get? b=aa o) -> i.get? s1.heap.objs.size=aa (gf "list" out e)->cS out.toList f->f.Perm ss->sortedS f=ah->Q (.ref s1.heap.objs.size) {s1 with heap:=i}) E s):ar (aw P w) A (call (.builtin "sorted") [v]) Q E s:=by refine J5 kind_sorted plain_sorted entry_sorted (args_sorted1 _) ?_;unfold J7;refine aq (m:=checkCount "sorted" 1 1 _) (aF ?_);refine aq (aW x λd s1 ⟨ss,h,p,j⟩=>?_);refine aq (Dz ?_);have g:(s1.heap.push (gf "list" d.toArray 0)).get? s1.heap.objs.size=aa (gf "list" d.toArray 0):=cV _ rfl;refine aq (iQ (ll slot_list_sort ⟨_,g,rfl⟩ entry_list_sort (list_sort_treeK strKind_oneLt g h.keysOf (λa b c e=>keyKind_strs (by rw[<-e];exact h)) p λy r q=>⟨_,rfl,?_⟩) (args_list_sort _)));obtain⟨f,C,B,z⟩:=sorted_out_str h r q;obtain⟨e,u⟩:=sortedHeap_at (out:=(arrOf y).map (·.2)) g;refine aF ⟨_,rfl,j _ _ f e (λb o l=>?_) u C B z⟩;have n:b<s1.heap.objs.size:=bH l;rw[sortedHeap_old (dE n) (by rw[l0];exact wN n)];exact bL _ l
end
section
def Inv.sorted{a:List Tx}{d:aB}(I:Inv X g f H s1)(i:ss=a.map tS)(p:a.length<64)(k:∀b o,s1.heap.get? b=aa o->d.get? b=aa o) (q:d.get? s1.heap.objs.size=aa (gf "list" out e)) (n:cS out.toList c) (m:c.Perm ss) (l:sortedS c=ah):Inv X g f (upd H s1.heap.objs.size (.lst (cr (aT a)))) {s1 with heap:=d}:=by
 have j:c.map (λz=>z.cps.toList)=aT a:=by
  refine v7 ?_ (Jb l);have:=m.map λz=>z.cps.toList;rw[i,cT]at this;have r:(a.map ((λz:Str=>z.cps.toList) ∘ tS))=a:=by simp[l3,j8]
  lia
 have h:bG (cr (aT a)) out.toList:=by rw[<-j];exact B5 n
 refine I.laid (t':=s1.toks) k (bi _) ⟨?_,out.toList,e,h,?_⟩
 .rw[zo,zg];exact kI (HW ∅)
 simp_all
def Pb(z:Tx)(n:Nat):Txt.mul (tS z) (n:Int)=tS (dW n z).flatten:=by
 unfold Txt.mul;cases n with
 |zero=>simp[tS,kK]
 |succ n=>
  rw[if_neg ∅];split
  .rename_i h;simp only[Dx,beq_iff_eq]at h;rcases h with h|h
   .have:n=0:=∅
    subst this;simp
   .rw[kY]at h;simp_all
  .unfold tS;congr 1;have b:∀(k:Nat) (a:Array Nat),(dW k z.toArray).foldl (·++·) a=a++(dW k z).flatten.toArray:=by
    intro k
    induction k with
    |zero=>intro a;simp
    |succ k c=>grind
   simp_all
def Q8:cg X (js .Mult) (λx y H Q=>∃(z:Tx) (n:Nat),x=tV z/\y=.int n/\n<=100/\z.length<=100/\Q (tV (dW n z).flatten) H):=by
 intro r s j H x y v u Q I c b h;obtain⟨z,n,rfl,rfl,f,d,q⟩:=h;obtain⟨t,rfl⟩:=c;obtain⟨m,rfl⟩:=b;refine SB.mul ?_ λl k=>?_
 .have o:z.length*n<=10000:=c7 (DB d f) (by decide);refine⟨by lia,λi _=>?_,λi _=>?_⟩
  .rw[kY];intro g;have p:(2^63-1:Int) / n ≥ (2^63-1) / 100:=by
    have a:(0:Int)<n:=∅
    apply (Int.le_ediv_iff_mul_le a).mpr;lia
   lia
  .rw[kY,lW];unfold Builtin.Str.tooLong;apply decide_eq_false;have:10000<bo:=by rw[t_];decide
   lia
 .rw[Pb];exact⟨tV _,H,I.tok _,⟨_,rfl⟩,q⟩
end
def Ph(t:cx)(j:Nat):(t.put j).1.led=t.led/\(t.put j).1.plain=t.plain:=⟨rfl,rfl⟩
def Lw(t:cx)(n:Nat):(t.orStandIn n).led=t.led/\((t.orStandIn n).plain=t.plain\/(t.orStandIn n).plain=ak):=by
 unfold SetTable.orStandIn;split
 .lia
 .exact⟨rfl,.inr rfl⟩
def MA(t:cx)(c:Array (Int×ai))(h:Int)(x:ai):(layNew t c h x).2.1.led=t.led/\((layNew t c h x).2.1.plain=t.plain\/(layNew t c h x).2.1.plain=ak):=by
 unfold layNew;split
 .rename_i a b _;have f:=Ph t a;have d:=Lw (t.put a).1 (rg c (t.put a).2 (h,x)).size;lia
 .exact⟨rfl,.inr rfl⟩
def QR(t:cx)(c:Array (Int×ai))(a:Nat)(d:t.plain=ak):(uk t c a).2.1.led=t.led/\(uk t c a).2.1.plain=ak:=by
 unfold uk;split
 .rename_i t' b e;have q:t'.led=t.led/\t'.plain=t.plain:=by
   unfold SetTable.relaid DC at e;cases q:DD (J8 a-1) (c.map (·.1))with
   |none=>rw[q]at e;cases e
   |some f=>rw[q]at e;cases e;exact⟨rfl,rfl⟩
  dsimp only;split
  .exact⟨q.1,q.2.trans d⟩
  .exact⟨rfl,rfl⟩
 .exact⟨rfl,rfl⟩
def eB(w:aJ):Bool:=w.params.followText "set-order"
structure li(P:aQ)(w:aJ)(h:aB)(a:af)(ks:List Str):Prop where
 ex:∃(es:Array (Int×ai)) (ep:Nat) (t:cx) (ss:List Str),h.get? a=aa {cls:=.type "set",dict:=ae,data:=.set es ep t}/\cS (es.toList.map (·.2)) ss/\ss.Perm ks/\ElemsOf (gh P w) es.toList /\
  es.size<4090/\t.fits es.size=ah/\t.led=(!eB w)/\(ks≠[]->t.plain=ak)
def li.at{h':aB}(S:li P w h a ks)(k:∀o,h.get? a=aa o->h'.get? a=aa o):li P w h' a ks:=by obtain⟨es,ep,t,ss,e,r⟩:=S.ex;exact⟨es,ep,t,ss,k _ e,r⟩
def HL:∀{a:List ai}{b:List Str},cS a b->∀x,x∈b↔∃t,Value.str x t∈a
 |_,_,.nil,x=>by simp
 |_,_,.cons y t h,x=>by
  rw[cC,HL h x]
  grind
def Bg:∀{a b:List ai},a.Perm b->∀{c:List Str},cS b c->∃d,cS a d/\d.Perm c:=by intro a b p c h;refine⟨a.map strOf,strsAre_map a λv f=>h.all v (p.mem_iff.mp f),?_⟩;have:=p.map strOf;rwa[h.strs]at this
section
variable{s:ao}
def kE(ks:List Str)(x:Str):List Str:=if x∈ks then ks else ks++[x]
def li.put{h:aB}(e:h.get? a=aa {cls:=.type "set",dict:=ae,data:=.set c b t}):(h.update a (Obj.putSet es' t')).get? a=aa {cls:=.type "set",dict:=ae,data:=.set es' (b+1) t'}:=by have:=mM (Obj.putSet es' t') e (by rw[putSet_of es' t' rfl];rfl);rw[putSet_of es' t' rfl]at this;exact this
def MK(S:li P w s.heap a ks)(hn:ks.length<4000)(h:∀l b,ka a s.heap l->li P w l a (kE ks x)->Q b {s with heap:=l}):ar (aw P w) A (DH a (.str x g) ((gh P w).hash x)) Q E s:=by
 obtain⟨m,ep,t,ss,J,M,hp,v,hsz,hf,m_,dv⟩:=S.ex;have isD:∀y t',(gh P w).is x (.str y t')=decide (y=x):=λy t'=>by
  show qO x (.str y t')=_;rw[nZ];simp[qO]
  try exact eq_comm
 have lp:(gh P w).is x (.str x g)=ah:=by rw[isD];simp
 have hb:m.size<scanBound:=wI hsz (by decide);unfold DH setAddHashedIn;refine iQ (aq (l4 J rfl hf ?_));dsimp only;rw[byScan_of (knd:=gh P w) (x:=.str x g) rfl hb v];simp only[if_true];unfold setAddByScan;refine aq (aq (mR (aq (wpAny_setScan_of lp J rfl hf v ?_))));have D:x∈ks↔∃e∈m.toList,(gh P w).is x e.2=ah:=by
  rw[<-hp.mem_iff,HL M x];constructor
  .grind
  .rintro⟨e,he,q⟩;obtain⟨y,t',ey⟩:=M.all e.2 (b8.mpr ⟨e,he,rfl⟩)
   grind
 have klen:ks.length=m.size:=by
  have O:=hp.length_eq;have N:ss.length=m.size:=by rw[<-M.strs];simp
  lia
 cases hr:List.findIdx? (λe=>(gh P w).is x e.2) m.toList with
 |some j=>dsimp only;obtain⟨hj,hpj,_⟩:=U9.mp hr;have hx:x∈ks:=D.mpr ⟨_,wM hj,hpj⟩;refine aF (aF ?_);exact h s.heap _ (J9 a s.heap) (by unfold kE;rw[if_pos hx];exact S)
 |none=>
  dsimp only;have hx:¬x∈ks:=λhm=>by
   grind
  have F:∀(b:Bool) {i:ao}{Q':Unit->ao->Prop},Q' () i->ar (aw P w) A (match b with|ah=>rule "set.scan.the-table-gave-way" |ak=>pure ()) Q' E i :=
   λb i Q' hq=>by cases b <;> first|exact aF hq|exact mR hq
  have C:=layNew_perm t m ((gh P w).hash x) (.str x g);have T:=layNew_fits t m ((gh P w).hash x) (.str x g);have X:=MA t m ((gh P w).hash x) (.str x g);generalize hL:layNew t m ((gh P w).hash x) (.str x g)=L at C T X ⊢;obtain⟨c,Z,f,gave⟩:=L;dsimp only at C T X ⊢;rw[ul]at C;have p:ElemsOf (gh P w) c.toList:=(v.push lp rfl).perm C;have EA:c.size=m.size+1:=by have:=C.length_eq;simpa using this
  have hS1:∃B,cS (c.toList.map (·.2)) B/\B.Perm (kE ks x):=by
   have p1:=C.map (λe:Int×ai=>e.2);rw[ui]at p1;have q1:cS (m.toList.map (·.2)++[Value.str x g]) (ss++[x]):=by
    have gen:∀{Y:List ai}{W:List Str},cS Y W->cS (Y++[Value.str x g]) (W++[x]):=by
     intro Y W hh
     induction hh with
     |nil=>exact .cons x g .nil
     |cons y t _ ih=>exact .cons y t ih
    exact gen M
   obtain⟨B,I,H⟩:=Bg p1 q1;refine⟨B,I,H.trans ?_⟩;unfold kE;rw[if_neg hx];exact hp.append_right _
  obtain⟨B,I,H⟩:=hS1;have cE:kE ks x≠[]:=by unfold kE;simp_all
  have o:∀d:cx,d.fits c.size=ah->d.led=(!eB w)->d.plain=ak->ar (aw P w) A (do
    storeSet a c d
    if(!f&&d.tooFull)=ah then do
      (match (uk d c (n6 c.size)).2.2 with|ah=>rule "set.scan.the-table-gave-way" |ak=>pure ())
      storeSet a (uk d c (n6 c.size)).1 (uk d c (n6 c.size)).2.1
      pure (aa ah)
     else pure (aa ah)) (λr s'=>∃l,r=aa ah/\s'={s with heap:=l}/\ka a s.heap l/\li P w l a (kE ks x)) E s:=by
   intro d hf2 jP iA;refine aq (DJ J rfl ?_ (DK (wI (show c.size<4090 by lia) (by decide))));have o1:=li.put (es':=c) (t':=d) J;have iZ:=mS s.heap a (Obj.putSet c d);split
   .have G:=relayAll_perm d c (n6 c.size);have u:=relayAll_fits d c (n6 c.size);have n:=QR d c (n6 c.size) iA;generalize hRl:uk d c (n6 c.size)=Rl at G u n ⊢;obtain⟨z,t3,gave2⟩:=Rl;dsimp only at G u n ⊢;have hsz2:z.size=c.size:=by have:=G.length_eq;simpa using this
    refine aq (F _ ?_);refine aq (DJ o1 rfl ?_ (DK (wI (show z.size<4090 by lia) (by decide))));obtain⟨ss2,u1,u2⟩:=Bg (G.map (λe:Int×ai=>e.2)) I;refine aF ⟨_,rfl,rfl,iZ.trans (mS _ a _),⟨z,_,t3,ss2,li.put o1,u1,u2.trans H,p.perm G,∅,u,n.1.trans jP,λ_=>n.2⟩⟩
   .exact aF ⟨_,rfl,rfl,iZ,⟨c,_,d,B,o1,I,H,p,∅,hf2,jP,λ_=>iA⟩⟩
  have KL:Z.led=(!eB w):=X.1.trans m_;refine aq (F _ ?_);split
  .refine aq ?_;rw[hashByValue_scannable 8 (x:=.str x g) rfl];refine aF ?_;have hk:plainKind (.str x g)=ak:=rfl;rw[hk];simp only[fi,if_false];refine aW (o {Z with plain:=ak} (SetTable.fits_plain_off T) KL rfl) λr s' ⟨l,O,N,e3,e4⟩=>?_;subst O N;exact aF (h l _ e3 e4)
  .rename_i EB;refine aq (aF ?_);simp only[if_true];refine aW (o Z T KL (~~~EB)) λr s' ⟨l,O,N,e3,e4⟩=>?_;subst O N;exact aF (h l _ e3 e4)
end
def met(val:Nat->Str)(i:Nat):List Str:=((cJ i).map val).foldl kE []
def HK(val:Nat->Str)(i:Nat):met val (i+1)=kE (met val i) (val i):=by unfold met;rw[rf,ui,z5];rfl
def GQ(val:Nat->Str):∀{j:Nat},i<=j->(met val i).length<=(met val j).length
 |0,h=>by lia
 |j+1,h=>by
  by_cases e:i=j+1
  .subst e;exact bi _
  .refine c7 (GQ val (j:=j) ∅) ?_;rw[HK];unfold kE;split
   .exact bi _
   .simp
section
variable{P:aQ}{w:aJ}{A:aX}{R:Result->ao->Prop}{I:af}{c a:List af}{G:Array GenState->Array GenState->Prop}{n:Nat}{d:Nat->ai->Prop}{St:Nat->ao->Prop}
def Gq(W:WalksS P w A.in1 I c a G n d St)(S:af)(C:S∉c){J:Nat->aB->Prop}(L:∀i h j,J i h->(∀b o,b∉a->h.get? b=aa o->j.get? b=aa o)->J i j)(O:∀(i:Nat) (v:ai) (s:ao) (E:ai->ao->Prop) (Q:Bool->ao->Prop),i<n->d i v->J i s.heap->(∀j r b,s.toks<=r->ka S s.heap j->J (i+1) j->Q b {s with heap:=j,toks:=r})->ar (aw P w) A.in1 (setAdd S v) Q E s):∀(k i:Nat) (s:ao),n-i=k->i<=n->St i s->J i s.heap -> (∀f,Moved (S::a) G s f->J n f.heap->R (.ok (.ret .none)) f)->mL (aw P w) A (.builtin "set.update.loop" ⟨[.ref S,.ref I],[]⟩) R s:=by
 have Y:S∉a:=λh=>C (W.sub _ h);have F:∀b∈a,b∈S::a:=λb g=>iu _ g;intro k
 induction k with
 |zero=>
  intro i s T X z x y;obtain rfl:i=n:=∅
  refine wO U_ ?_;rw[z6 J_ _];show ar _ A.in1 (mK (.ref I) >>= _) _ _ s;refine aq (W.done s _ _ z λf p=>?_);show ar _ A.in1 (ret Value.none) _ _ f;exact aF (y f (p.mono F) (L _ _ _ x λb o g e=>p.heap b o g e))
 |succ k N=>
  intro i s T X z x y;have B:i<n:=∅
  refine wO U_ ?_;rw[z6 J_ _];show ar _ A.in1 (mK (.ref I) >>= _) _ _ s;refine aq (W.item i s _ _ B z λv f Z l p=>?_);show ar _ A.in1 (kb [v] (setAdd S v) >>= _) _ _ f;refine aq (iQ (O i v f _ _ B Z (L _ _ _ x λb o g e=>p.heap b o g e) λj r b D H M=>?_));refine aF ⟨DL J_ _,N (i+1) _ ∅ B (W.frame _ f _ _ l D λb g o e=>?_) M λu m q=>?_⟩
  .rw[H.2 b (λh:b=S=>C (by lia))];exact e
  .refine y u (Moved.trans W.gtrans ((p.mono F).then_heap D λb o g e=>?_) m) q;rw[H.2 b (λh:b=S=>g (by grind))];exact e
end
section
variable{s:ao}
def OQ(a:ai) (h:li P w (s.heap.push {cls:=.type "set",dict:=ae,data:=.set #[] 0 (.fresh 0 0 (!eB w))}) s.heap.objs.size [] -> Q (.ref s.heap.objs.size) {s with heap:=s.heap.push {cls:=.type "set",dict:=ae,data:=.set #[] 0 (.fresh 0 0 (!eB w))}}):mL (aw P w) A (.call (.builtin "set.__new__") ⟨[.type "set",a],[]⟩) (wants Q E) s:=by
 refine codeAny_of_tree ?_;show ar _ A.in1 (do Ka "set.__new__" ⟨[.type "set",a],[]⟩;again (.builtin "set.__new__" ⟨[.type "set",a],[]⟩)) _ _ s;refine aq (n8 (PySem.F.newCall_set_1 a) (aF ⟨DL F.plain_set_new _,wO F.entry_set_new ?_⟩));rw[z6 F.plain_set_new _];unfold Builtin.«set.__new__» Builtin.Frozenset.newClass;have f:=sub_set_self;obtain⟨j,g,d,c,i⟩:=s;dsimp only
 wp_walk
 refine um (aF ?_);dsimp only;simp only[newObj];refine aq (wpAny_alloc (aF ?_));refine aF (h ⟨#[],0,_,[],cV _ rfl,.nil,uj _,λe b=>by simp at b,by decide,rfl,rfl,λh=>absurd rfl h⟩)
end
end L2
set_option maxHeartbeats 8000000
namespace L2
def Lq:entryFor table "set.__iter__"=aa Builtin.«frozenset.__iter__»:=entryFor_alias (id':="frozenset.__iter__") (by kernel_rfl) rfl (by decide +kernel) (by kernel_rfl)
def Gh:Slot "set_iterator" "__next__" "set_iterator.__next__" :=
 .of (owner:="set_iterator") (n:="__next__") (by rw[typeLookup_type,builtinLookup_eq_fast];kernel_rfl) (by decide +kernel) (by decide +kernel) (by decide +kernel) (by first|exact .inl (by decide +kernel)|exact .inr (by decide +kernel)) (by rw[isSubtype_type];kernel_rfl)
def O7:entryFor table "set_iterator.__next__"=aa Builtin.«set_iterator.__next__»:=entryFor_of_fast (by kernel_rfl)
def Qr(a:ai):argsOk "set_iterator.__next__" ⟨[a],[]⟩:=by unfold argsOk;kernel_rfl
def EU:Slot "set_iterator" "__iter__" "set_iterator.__iter__" :=
 .of (owner:="set_iterator") (n:="__iter__") (by rw[typeLookup_type,builtinLookup_eq_fast];kernel_rfl) (by decide +kernel) (by decide +kernel) (by decide +kernel) (by first|exact .inl (by decide +kernel)|exact .inr (by decide +kernel)) (by rw[isSubtype_type];kernel_rfl)
def Qo:entryFor table "set_iterator.__iter__"=aa Builtin.«dict_keyiterator.__iter__»:=entryFor_alias (id':="dict_keyiterator.__iter__") (by kernel_rfl) rfl (by decide +kernel) (by kernel_rfl)
def K7(a:ai):argsOk "set_iterator.__iter__" ⟨[a],[]⟩:=by unfold argsOk;kernel_rfl
def jB(first:ai)(i:Nat)(a:af)(n b:Nat):Obj:={cls:=.type "set_iterator",data:=.fields #[first,.int i 0,.ref a,.int n 0,.int b 0]}
section
variable{A:aX}{s:ao}
def xU(h:s.heap.get? I=aa (jB first i a n d))(c:Q (.ref I) s):ar (aw P w) A (nY (.ref I)) Q E s:=by
 have b:s.TypeIs (.ref I) "set_iterator":=⟨_,h,rfl⟩
 refine Kb b EU (ll EU b Qo ?_ (K7 _));show ar _ _ (ret (.ref I)) _ _ s;exact aF ⟨_,rfl,"set_iterator",_,b,Gh.lookup,c⟩
def qi(n:s.heap.get? a=aa {cls:=.type "set",dict:=ae,data:=.set f g t})(m:t.fits f.size=ah)(l:s.heap.get? I=aa (jB first i a f.size g))(h:ar (aw P w) A.in1 (if let .int slot _:=first then do
    match <-n9 a slot.toNat (i:Int).toNat (g:Int).toNat with
    |some (x,next)=>do
     l5 (.ref I) 0 (dq next)
     l5 (.ref I) 1 (dq ((i:Int)+1))
     ret x
    |none=>do l5 (.ref I) 2 .none;wP (<-rh (.type "StopIteration") [])
   else do
    let aa places <-z7 first|l6 "internal:set_iterator"
    match places[(i:Int).toNat]? with
    |some (.int d _)=>do
     let x <-setNextDrawn a d.toNat (g:Int).toNat
     l5 (.ref I) 1 (dq ((i:Int)+1))
     ret x
    |some _=>l6 "internal:set_iterator"
    |none=>do l5 (.ref I) 0 (dq 0);l5 (.ref I) 2 .none;wP (<-rh (.type "StopIteration") []))
   (λc b=>∃r,c=.done (.ret r)/\Q (aa r) b) (λe b=>ar (aw P w) A (do if <-z8 e (.type "StopIteration")then pure ae else throw e) Q E b) s) :
  ar (aw P w) A (mK (.ref I)) Q E s:=by
 have j:s.TypeIs (.ref I) "set_iterator":=⟨_,l,rfl⟩
 unfold mK;refine aq (DM (wG (name:=ua "__next__") j Gh (ll Gh j O7 ?_ (Qr _))));unfold Builtin.«set_iterator.__next__» slotArgs;refine aq (aF ?_);refine aq (wpAny_fieldsOf l rfl ?_);show ar _ _ (setEntries a >>= _) _ _ s;refine aq (wpAny_setEntries_of n rfl m ?_);have u:(((f.size:Nat):Int) != ((f.size:Nat):Int))=ak:=by simp
 rw[u];simp only[fi,if_false];refine fh ?_ (λc b q=>?_) (λe b q=>q) (Q:=λc b=>∃r,c=.done (.ret r)/\Q (aa r) b) (E:=λe b=>ar (aw P w) A (do if <-z8 e (.type "StopIteration")then pure ae else throw e) Q E b)
 .exact h
 .obtain⟨r,p,o⟩:=q;exact⟨r,p,aF o⟩
end
def CS{a:Type}:∀{l:List a}{i:Nat} (h:i<l.length),(l[i]::l.eraseIdx i).Perm l
 |[],i,h=>by simp at h
 |x::r,0,h=>by simp
 |x::r,i+1,h=>by have q:=CS (l:=r) (i:=i) (~~~h);simp only[List.getElem_cons_succ,List.eraseIdx_cons_succ];exact(List.Perm.swap x _ _).trans (List.Perm.cons x q)
def GA(next:Nat->Nat):∀(c k:Nat) (a:List d) (b:Array d),c=a.length->(pickOrder.go next c k a b).toList.Perm (b.toList++a)
 |0,k,a,b,h=>by have:a=[]:=Dv h.symm;subst this;simp[pickOrder.go]
 |c+1,k,a,b,h=>by
  have f:next k % a.length<a.length:=n_ _ ∅
  unfold pickOrder.go;rw[d9 f];dsimp only;have g:=GA next c (k+1) (a.eraseIdx (next k % a.length)) (b.push a[next k % a.length]) (by grind)
  refine g.trans ?_;rw[ul,jN];exact z9 _ (CS f)
def Gp(next:Nat->Nat)(xs:Array a):(wQ next xs).toList.Perm xs.toList:=by
 have:=GA next xs.size 0 xs.toList #[] (by simp)
 simpa[wQ]using this
section
variable{A:aX}{s:ao}
def RB(b:n≠0)(h:∀k d,k<n->Q k {s with drawn:=d}):ar (aw P w) A (choose a n) Q E s:=λc p hΓ=>by unfold choose;rw[Sem.wp_choose];refine⟨b,?_⟩;exact h _ _ (n_ _ (Nat.pos_of_ne_zero b))
def Gv:∀(n:Nat) (xs:List b) (s:ao) (Q:List b->ao->Prop),n=xs.length->(∀a d,a.Perm xs->Q a {s with drawn:=d})->ar (aw P w) A (drawOrder n xs) Q E s
 |0,[],s,Q,_,h=>by unfold drawOrder;exact aF (h [] s.drawn (uj _))
 |0,x::xs,s,Q,hn,h=>by simp at hn
 |n+1,[],s,Q,hn,h=>by simp at hn
 |n+1,x::xs,s,Q,hn,h=>by unfold drawOrder;refine aq (RB (by simp) λk d c=>?_);rw[d9 c];dsimp only;refine aq (Gv n ((x::xs).eraseIdx k) _ _ (by grind) λa g f=>?_);refine aF (h _ g ?_);exact(List.Perm.cons _ f).trans (CS c)
def yb{Q:Option ai->ao->Prop}{R:Fin->ao->Prop}(f:A.handled=ae)(g:∀c,(∀b o,s.heap.get? b=aa o->c.get? b=aa o)->Q ae {s with heap:=c}):ar (aw P w) A.in1 (do wP (<-rh (.type "StopIteration") [])) R (λe d=>ar (aw P w) A (do if <-z8 e (.type "StopIteration")then pure ae else throw e) Q E d) s:=by
 refine aq ?_;simp only[rh,newTuple];refine aq (ke ?_ (by size_fits));refine aq (m:=wR _ _) (n8 (a:=Value.none) (by first|rfl | (simp only[wR];rfl)) ?_);refine ke ?_ (by size_fits);simp only[wP];refine aq (wpAny_handled ?_);rw[show A.in1.handled=ae from f];refine aq (aF (wpAny_throw ?_));refine aq (DP (T:="StopIteration") (b:=ah) ⟨_,cV _ rfl,rfl⟩ isSubtype_stop ?_);exact aF (g _ λb o e=>bL _ (bL _ e))
def Cm(c:s.heap.get? I=aa (jB first i a n f))(h:∀b,ka I s.heap b->b.get? I=aa (jB d i a n f)->Q () {s with heap:=b}):ar (aw P w) A (l5 (.ref I) 0 d) Q E s:=by refine mT c rfl (by simp[jB]) (h _ (mS ..) ?_);rw[mM _ c (by rfl)];rfl
def Bh(c:s.heap.get? I=aa (jB first i a n d))(h:∀b,ka I s.heap b->b.get? I=aa (jB first (i+1) a n d)->Q () {s with heap:=b}):ar (aw P w) A (l5 (.ref I) 1 (dq ((i:Int)+1))) Q E s:=by refine mT c rfl (by simp[jB]) (h _ (mS ..) ?_);rw[mM _ c (by rfl)];rfl
def yG(c:s.heap.get? I=aa (jB first i a n d))(h:∀b,ka I s.heap b->(∃o,b.get? I=aa o)->Q () {s with heap:=b}):ar (aw P w) A (l5 (.ref I) 2 .none) Q E s:=by refine mT c rfl (by simp[jB]) (h _ (mS ..) ⟨_,mM _ c (by rfl)⟩)
abbrev qz(a:Array (Int×ai))(b:Nat)(t:cx):Obj:={cls:=.type "set",dict:=ae,data:=.set a b t}
def Rc{d:Array (Int×ai)}{f:Nat}{t:cx}(x:a≠I)(n:t.fits d.size=ah)(g:eB w=ah)(C:A.handled=ae):Walks P w A I [I,a] [I] d.size (λi v=>((wQ (w.params.setOrder a f) d).toList.map (·.2))[i]?=aa v) (λi h=>h.get? I=aa (jB (dq 0) i a d.size f)/\h.get? a=aa (qz d f t)):=by
 have hsz:(wQ (w.params.setOrder a f) d).size=d.size:=by have:=(Gp (w.params.setOrder a f) d).length_eq;simpa using this
 have j:∀(s:ao) (i:Nat) (Q:Option (ai×Nat)->ao->Prop) (E:ai->ao->Prop),s.heap.get? a=aa (qz d f t) ->
   Q (((wQ (w.params.setOrder a f) d)[i]?).map λe=>(e.2,0)) s->ar (aw P w) A.in1 (n9 a (0:Int).toNat (i:Int).toNat (f:Int).toNat) Q E s:=λs i Q E u B=>by
  unfold n9;refine aq (l4 u rfl n ?_);unfold z_;refine aq (aq (um (aF ?_)));show ar _ _ (if eB w=ah then _ else _) _ _ s;rw[if_pos g];simp only[lW,bne_self_eq_false,fi,if_false];unfold setWalk;refine aq (aq (l4 u rfl n ?_));unfold z_;refine aq (aq (um (aF ?_)));show ar _ _ (if eB w=ah then _ else _) _ _ s;rw[if_pos g];refine aq (um (aF (aF ?_)));exact B
 refine⟨λb g=>by grind,λi h H c k=>⟨k I (by simp) _ c.1,k a (by simp) _ c.2⟩,λi s Q E G c l=>?_,λs Q E c l=>?_,λi s Q E c l=>xU c.1 l⟩
 .refine qi c.2 n c.1 ?_;refine aq (j s i _ _ c.2 ?_);have y:i<(wQ (w.params.setOrder a f) d).size:=∅
  rw[kf y];dsimp only[wS];refine aq (Cm c.1 λq m F=>?_);refine aq (Bh (s:={s with heap:=q}) F λp r D=>?_);refine aF ⟨_,rfl,l _ p s.toks ?_ ⟨D,?_⟩ λb o g e=>?_⟩
  .rw[d8];simp[kf y]
  .exact(r.2 a x).trans ((m.2 a x).trans c.2)
  .exact(r.2 b (~~~g)).trans ((m.2 b (~~~g)).trans e)
 .refine qi c.2 n c.1 ?_;refine aq (j s d.size _ _ c.2 ?_);rw[Array.getElem?_eq_none ∅];dsimp only[Option.map_none];refine aq (yG c.1 λq m _=>?_);exact yb (s:={s with heap:=q}) C λp z=>l p s.toks λb o g e=>z b o ((m.2 b (~~~g)).trans e)
def UX{f:Array (Int×ai)}{J:Nat}{t:cx}{c:List Nat}(cE:a≠I)(hT:T≠I)(C:t.fits f.size=ah)(G:c.Perm (cJ f.size))(Z:A.handled=ae):Walks P w A I [I,a,T] [I] f.size (λi v=>(c.filterMap λj=>(f[j]?).map (·.2))[i]?=aa v) (λi h=>h.get? I=aa (jB (.ref T) i a f.size J)/\h.get? a=aa (qz f J t)/\h.get? T=aa {cls:=.type "tuple",data:=.seq (c.map λ(k:Nat)=>dq k).toArray}):=by
 have M:c.length=f.size:= ~~~G.length_eq
 have p:∀j∈c,j<f.size:=λj B=>by simpa using G.mem_iff.mp B
 have fm:∀(l:List Nat),(∀j∈l,j<f.size)->∀(i j:Nat),l[i]?=aa j->∃e:Int×ai,f[j]?=aa e/\(l.filterMap λj=>(f[j]?).map (·.2))[i]?=aa e.2:=by
  intro l
  induction l with
  |nil=>intro _ i j h;simp at h
  |cons x r O=>
   intro H i j h;have W:x<f.size:=H x (j_ ..);have F:f[x]?=aa f[x]:=kf W;cases i with
   |zero=>simp at h;subst h;exact⟨_,F,by rw[nW,F];rfl⟩
   |succ i=>obtain⟨e,z,y⟩:=O (λj B=>H j (iu _ B)) i j (~~~h);exact⟨e,z,by rw[nW,F];simpa using y⟩
 have g:∀(s:ao) (Q:Option (Array ai)->ao->Prop) (E:ai->ao->Prop),s.heap.get? T=aa {cls:=.type "tuple",data:=.seq (c.map λ(k:Nat)=>dq k).toArray}->Q (aa (c.map λ(k:Nat)=>dq k).toArray) s->ar (aw P w) A.in1 (z7 (.ref T)) Q E s:=λs Q E X Y=>by exact wT X rfl Y
 refine⟨λb m=>by simp at m;simp[m],λi h h' d k=>⟨k I (by simp) _ d.1,k a (by simp) _ d.2.1,k T (by simp) _ d.2.2⟩,λi s Q E hi d q=>?_,λs Q E d q=>?_,λi s Q E d q=>xU d.1 q⟩
 .refine qi d.2.1 C d.1 ?_;refine aq (g s _ _ d.2.2 ?_);have L:i<c.length:=∅
  have u:((c.map λ(k:Nat)=>dq k).toArray)[(i:Int).toNat]?=aa (dq (c[i]:Nat)):=by simp[L]
  dsimp only;rw[u];obtain⟨e,z,y⟩:=fm c p i c[i] (d9 L);show ar _ _ (setNextDrawn a _ _ >>= _) _ _ s;refine aq ?_;unfold setNextDrawn;refine aq (l4 d.2.1 rfl C ?_);simp only[lW,bne_self_eq_false,fi,if_false];rw[z];refine aF ?_;refine aq (Bh d.1 λD n e2=>?_);refine aF ⟨_,rfl,q _ D s.toks y ⟨e2,(n.2 a cE).trans d.2.1,(n.2 T hT).trans d.2.2⟩ λb o m e=>(n.2 b (~~~m)).trans e⟩
 .refine qi d.2.1 C d.1 ?_;refine aq (g s _ _ d.2.2 ?_);have u:((c.map λ(k:Nat)=>dq k).toArray)[(f.size:Int).toNat]?=ae:=by simp[M]
  dsimp only;rw[u];refine aq (Cm d.1 λh1 S u=>?_);refine aq (yG (s:={s with heap:=h1}) u λD n _=>?_);exact yb (s:={s with heap:=D}) Z λh3 N=>q h3 s.toks λb o m e=>N b o ((n.2 b (~~~m)).trans ((S.2 b (~~~m)).trans e))
def Mg(j k:Nat):jO #[j] k=if j<k then 1 else 0:=by
 unfold jO;simp only[fD,gR,re];unfold uo;simp;split
 .rename_i h;unfold uo;simp
 .unfold uo;simp
def MB{g:Array (Int×ai)}{n:Nat}{t:cx}(L:a≠I)(u:t.fits g.size=ah)(f:eB w=ak)(N:t.led=ah)(m:g.size=1)(T:A.handled=ae):Walks P w A I [I,a] [I] 1 (λi v=>(g.toList.map (·.2))[i]?=aa v) (λi h=>h.get? I=aa (jB (dq (if i=0 then 0 else((t.place.getD 0 0:Nat):Int)+1)) i a g.size n)/\h.get? a=aa (qz g n t)):=by
 have y:t.place.size=1:=by simp only[SetTable.fits,h_,beq_iff_eq]at u;lia
 obtain⟨j,G⟩:=Array.size_eq_one_iff.mp y;have J:((t.place.getD 0 0:Nat):Int)=(j:Int):=by rw[G];rfl
 obtain⟨e,H⟩:=Array.size_eq_one_iff.mp m;have l:∀(s:ao) (d:Nat) (i:Nat) (Q:Option (ai×Nat)->ao->Prop) (E:ai->ao->Prop),s.heap.get? a=aa (qz g n t) ->
   Q (if j<d then ae else aa (e.2,j+1)) s->ar (aw P w) A.in1 (n9 a d i n) Q E s:=λs d i Q E W r=>by
  unfold n9;refine aq (l4 W rfl u ?_);unfold z_;refine aq (aq (um (aF ?_)));show ar _ _ (if eB w=ah then _ else _) _ _ s;rw[if_neg (by rw[f];decide)];refine Aa (λz=>absurd (show(!t.plain&&decide (g.size > 1))=ah from z) (by rw[m];simp)) (λ_=>?_);refine aq ?_;refine fh (Q:=λ_ D=>D=s) (E:=E) ?_ (λ_ D O=>?_) (λ_ _ x=>x)
  .refine Aa (λz=>absurd (show(!t.led&&!g.isEmpty)=ah from z) (by rw[N];simp)) (λ_=>aF rfl)
  .subst O;rw[G,Mg,H];by_cases M:j<d
   .rw[if_pos M]at r ⊢;exact aF r
   .rw[if_neg M]at r ⊢;exact aF r
 refine⟨λb f=>by simp at f;simp[f],λi h Z c k=>⟨k I (by simp) _ c.1,k a (by simp) _ c.2⟩,λi s Q E Y c p=>?_,λs Q E c p=>?_,λi s Q E c p=>xU c.1 p⟩
 .obtain rfl:i=0:=∅
  refine qi c.2 u c.1 ?_;show ar _ _ (n9 a (0:Int).toNat ((0:Nat):Int).toNat (n:Int).toNat >>= _) _ _ s;simp only[lW,Int.toNat_zero];refine aq (l s 0 0 _ _ c.2 ?_);rw[if_neg (og j)];dsimp only;refine aq (Cm c.1 λm q C=>?_);refine aq (Bh (s:={s with heap:=m}) C λB F X=>?_);refine aF ⟨_,rfl,p _ B s.toks ?_ ⟨?_,?_⟩ λb o f e=>?_⟩
  .rw[H];rfl
  .rw[X,if_neg (by decide),J];rfl
  .exact(F.2 a L).trans ((q.2 a L).trans c.2)
  .exact(F.2 b (~~~f)).trans ((q.2 b (~~~f)).trans e)
 .refine qi c.2 u c.1 ?_;rw[if_neg (by decide),J];show ar _ _ (n9 a ((j:Int)+1).toNat ((1:Nat):Int).toNat (n:Int).toNat >>= _) _ _ s;have C:((j:Int)+1).toNat=j+1:=∅
  rw[C,lW,lW];refine aq (l s (j+1) 1 _ _ c.2 ?_);rw[if_pos (Kc j)];dsimp only;refine aq (yG c.1 λm q _=>?_);exact yb (s:={s with heap:=m}) T λB S=>p B s.toks λb o f e=>S b o ((q.2 b (~~~f)).trans e)
def yZ:∀{a:List ai}{b:List Str} (i:Nat) (v:ai),cS a b->a[i]?=aa v->∃t,v=.str (b.getD i kK) t
 |_,_,i,v,.nil,h=>by simp at h
 |_,_,0,v,.cons y t _,h=>by grind
 |_,_,i+1,v,.cons y t hr,h=>by simp only[DQ]at h;obtain⟨c,e⟩:=yZ i v hr h;exact⟨c,by rw[e];rfl⟩
def R_{h:aB}(x:h.IsTuple l a):(h.push o).IsTuple l a:=let ⟨ob,e,r⟩:=x;⟨ob,bL _ e,r⟩
set_option maxRecDepth 100000 in
def Js{a:Array ai}{Q:ai->ao->Prop}(hh:A.handled=ae)(y:s.heap.IsList l a\/s.heap.IsTuple l a){J:Nat->aB->Prop}(hJ:∀i h d,J i h->(∀b o,b<=s.heap.objs.size->h.get? b=aa o->d.get? b=aa o)->J i d) (W:J 0 (s.heap.push {cls:=.type "set",dict:=ae,data:=.set #[] 0 (.fresh 0 0 (!eB w))}))(iW:∀(i:Nat) (v:ai) (f:ao) (E:ai->ao->Prop) (Q:Bool->ao->Prop),i<a.size->a[i]?=aa v->J i f.heap->(∀d j b,f.toks<=j->ka s.heap.objs.size f.heap d->J (i+1) d->Q b {f with heap:=d,toks:=j})->ar (aw P w) A.in1.in1.in1 (setAdd s.heap.objs.size v) Q E f)(h:∀(d:aB) (j:Nat),J a.size d->(∀b o,b<s.heap.objs.size->s.heap.get? b=aa o->d.get? b=aa o)->Q (.ref s.heap.objs.size) {s with heap:=d,toks:=j}):ar (aw P w) A (call (.type "set") [.ref l]) Q E s:=by
 obtain⟨c,tl,hmro⟩:=F.called_set.mro;have N:=F.called_set.made;have rJ:=F.called_set.sub;refine zR (codeAny_of_tree ?_);show ar _ _ (callAny (.type "set") _) _ _ _;refine aF ⟨Code.quiet_builtin _ (by decide +kernel),wO F.entry_type_call ?_⟩;rw[Around.under_plain (weight_type_call_type "set" [.ref l] []) rfl];have h1:=F.called_set.notType;have h2:=F.called_set.canCreate;have hct:=PySem.F.typeCall_set_1 (.ref l)
 repeat any_goals (first|assumption|wp_step)
 refine qW (OQ (P:=P) (w:=w) (.ref l) (E:=E) (Q:=λm f=>m=.ref s.heap.objs.size/\f={s with heap:=s.heap.push {cls:=.type "set",dict:=ae,data:=.set #[] 0 (.fresh 0 0 (!eB w))}}/\True) λS0=>⟨rfl,rfl,trivial⟩) λr f M=>?_;cases r with
 |error e=>exact M
 |ok fl=>
  cases fl with
  |ret m=>
   obtain⟨rfl,rfl,S0⟩:=M;have hS:=cV (h:=s.heap) (o:=({cls:=.type "set",dict:=ae,data:=.set #[] 0 (.fresh 0 0 (!eB w))}:Obj));have S:(s.heap.push {cls:=.type "set",dict:=ae,data:=.set #[] 0 (.fresh 0 0 (!eB w))}).get? s.heap.objs.size=aa {cls:=.type "set",dict:=ae,data:=.set #[] 0 (.fresh 0 0 (!eB w))}:=cV _ rfl;have hT:Shared.TypeIs {s with heap:=s.heap.push {cls:=.type "set",dict:=ae,data:=.set #[] 0 (.fresh 0 0 (!eB w))}} (.ref s.heap.objs.size) "set":=⟨_,S,rfl⟩
   have hli:=F.called_set.init.lookup;have hbi:=F.called_set.init.bind (.ref s.heap.objs.size)
   repeat any_goals (first|assumption|wp_step)
   refine qW (codeAny_call_builtin (R:=wants (λr s2=>r=.none/\∃d j,s2={s with heap:=d,toks:=j}/\J a.size d /\ (∀b o,b<s.heap.objs.size->s.heap.get? b=aa o->d.get? b=aa o)) E) F.called_set.init.plain F.entry_set_init (check_set_init_1 hT ?_)) λr2 s2 C=>?_
   .rcases y with y|y
    all_goals
     obtain⟨⟨ocls,H,I,q⟩,pL,gn,u,Z⟩:=y;simp only at gn Z;subst gn;subst Z;have B:=bL ({cls:=.type "set",dict:=ae,data:=.set #[] 0 (.fresh 0 0 (!eB w))}:Obj) pL;have hsls:=PySem.F.sub_list_set;have hslf:=PySem.F.sub_list_frozenset;have cE:(Value.type "list" == Value.type "dict")=ak:=by decide
     have hsl2:=PySem.F.sub_tuple_set;have hsl3:=PySem.F.sub_tuple_frozenset;have hn2:(Value.type "tuple" == Value.type "dict")=ak:=by decide
     unfold Builtin.«set.__init__» noKeywords Builtin.Frozenset.updateFrom;generalize T:nY=PI
     wp_walk
     subst T
     first|refine J2 ⟨_,B,rfl,u,rfl⟩ (aq (wpAny_runValue ?_))|refine Ab ⟨_,B,rfl,u,rfl⟩ (aq (wpAny_runValue ?_))
     have n:l<s.heap.objs.size:=bH pL;have p:A.in1.in1.in1.handled=ae:=by simp[hh]
     have g:(s.heap.push {cls:=.type "set",dict:=ae,data:=.set #[] 0 (.fresh 0 0 (!eB w))}).objs.size=s.heap.objs.size+1:=Dr ..;have KW:l≠(s.heap.push {cls:=.type "set",dict:=ae,data:=.set #[] 0 (.fresh 0 0 (!eB w))}).objs.size:=by rw[g];exact dE (wN n)
     have Y:s.heap.objs.size∉[(s.heap.push {cls:=.type "set",dict:=ae,data:=.set #[] 0 (.fresh 0 0 (!eB w))}).objs.size,l]:=by rw[g];simp only[cC,kg,ju,or_false,not_or];exact⟨dE (Kc _),t9 n⟩
     first|refine Gq (J:=J) (Walks.list p _ l KW a).toS s.heap.objs.size Y ?_ ?_ (a.size-0) 0 _ ∅ (jM _) ⟨⟨_,cV _ rfl,rfl,rfl⟩,Heap.IsList.push ⟨_,B,rfl,u,rfl⟩ _⟩ ?_ ?_|refine Gq (J:=J) (Walks.tuple p _ l KW a).toS s.heap.objs.size Y ?_ ?_ (a.size-0) 0 _ ∅ (jM _) ⟨⟨_,cV _ rfl,rfl,rfl⟩,R_ ⟨_,B,rfl,u,rfl⟩⟩ ?_ ?_
     .exact λi h d O k=>hJ i h d O λb o z e=>k b o (by rw[g];simp only[kg];exact dE (Nat.lt_succ_of_le z)) e
     .exact λi v f E Q hi hv O hq=>iW i v f E Q hi hv O hq
     .exact hJ 0 _ _ W λb o _ e=>bL _ e
     intro s' x L;obtain⟨d,g',d',D,G⟩:=s';obtain rfl:g'=s.gens:=x.gens;obtain rfl:d'=s.drawn:=x.drawn;obtain rfl:G=s.os:=x.os;show ar _ _ _ _ _ _;refine aF ?_;show ar _ _ (ret Value.none) _ _ _;refine aF ⟨rfl,d,D,rfl,L,λb o z e=>x.heap b o ?_ (bL _ (bL _ e))⟩;rw[g];simp only[cC,kg,ju,or_false,not_or];exact⟨dE z,dE (wN z)⟩
   .cases r2 with
    |error e=>exact C
    |ok X=>
     cases X with
     |ret r=>
      obtain⟨rfl,d,j,rfl,L,mf⟩:=C
      repeat any_goals (first|assumption|wp_step)
      exact h _ _ L mf
     |_=>exact C.elim
  |_=>exact M.elim
def PX{a:Array ai}{c:List Str}{Q:ai->ao->Prop}(x:A.handled=ae)(r:s.heap.IsList l a\/s.heap.IsTuple l a)(u:cS a.toList c)(z:(met (λi=>c.getD i kK) a.size).length<4000)(h:∀(d:aB) (j:Nat),li P w d s.heap.objs.size (met (λi=>c.getD i kK) a.size)->(∀b o,b<s.heap.objs.size->s.heap.get? b=aa o->d.get? b=aa o)->Q (.ref s.heap.objs.size) {s with heap:=d,toks:=j}):ar (aw P w) A (call (.type "set") [.ref l]) Q E s:=by
 refine Js x r (J:=λi h=>li P w h s.heap.objs.size (met (λi=>c.getD i kK) i)) (λi h d S k=>S.at λo e=>k _ o (bi _) e)
  ⟨#[],0,_,[],cV _ rfl,.nil,uj _,λe y=>by simp at y,by decide,rfl,rfl,λh=>absurd rfl h⟩ (λi v f E Q p B S q=>?_) h
 obtain⟨t,rfl⟩:=yZ i v u (by grind);unfold setAdd;refine iQ ?_;have m:(gh P w).is (c.getD i kK) (.str (c.getD i kK) t)=ah:=by show qO _ (.str _ t)=ah;simp[qO]
 refine aq ((gh P w).pyHash (k:=c.getD i kK) m ?_);refine MK (s:={f with toks:=f.toks+1}) S (zX (GQ _ (kI p)) z) λd b n g=>?_;rw[<-HK (λi=>c.getD i kK)]at g;exact q d _ b (wK _) n g
end
def IH(h:n<=4096):n<bo:=zX h (by decide)
def Sm:typeLookup (.type "set") "__len__"=pure (aa (.builtin "set.__len__")):=F.slot_set_len.lookup
section
variable{P:aQ}{w:aJ}{A:aX}{s:ao}
def sM(w:aJ)(h:aB)(a:af)(b:Array (Int×ai)):Prop:=∃(c:Nat) (t:cx),h.get? a=aa {cls:=.type "set",dict:=ae,data:=.set b c t}/\b.size<4090/\t.fits b.size=ah/\t.led=(!eB w)/\(b.size≠0->t.plain=ak)
def sM.at{h':aB}(S:sM w h a es)(k:∀o,h.get? a=aa o->h'.get? a=aa o):sM w h' a es:=by obtain⟨ep,t,e,r⟩:=S;exact⟨ep,t,k _ e,r⟩
def li.e(S:li P w h a ks):∃es ss,sM w h a es/\cS (es.toList.map (·.2)) ss/\ss.Perm ks:=by
 obtain⟨es,ep,t,ss,f,c,b,i,hsz,g,d,l⟩:=S.ex;refine⟨es,ss,⟨ep,t,f,hsz,g,d,λj=>l λz=>j ?_⟩,c,b⟩;have n:=b.length_eq;have m:ss.length=es.size:=by rw[<-c.strs];simp
 grind
structure Hz(P:aQ)(w:aJ)(s s':ao)(a I:af)(es:Array (Int×ai))(fp:List af)(n:Nat)(Pv:Nat->ai->Prop)(St:Nat->aB->Prop):Prop where
 wk:∀A:aX,A.handled=ae->Walks P w A I fp [I] n Pv St
 st:St 0 s'.heap
 old:∀b o,s.heap.get? b=aa o->s'.heap.get? b=aa o
 new:s.heap.objs.size<=I
 lt:∀b∈fp,b<s'.heap.objs.size
 rest:s'={s with heap:=s'.heap,drawn:=s'.drawn}
 ord:∀aA:Array ai,ItemsOf Pv aA n->aA.toList.Perm (es.toList.map (·.2))
 len:n<4090
 fps:∀b∈fp,b=a\/s.heap.objs.size<=b
def yX{l:List ai}(c:l.length=n)(h:ItemsOf (λi v=>l[i]?=aa v) a n):a.toList=l:=by
 refine pC λi=>?_;by_cases b:i<n
 .have:i<a.size:=by rw[h.1];exact b
  have q:=h.2 i a[i] (kf this);rw[q];simp[this]
 .rw[oh (by rw[iP,h.1];lia),oh ∅]
def M_{d:Array (Int×ai)}{t:cx}(M:a≠I)(r:t.fits d.size=ah)(l:eB w=ak)(n:d.size=0)(F:A.handled=ae):Walks P w A I [I,a] [I] 0 (λi v=>(d.toList.map (·.2))[i]?=aa v) (λi h=>h.get? I=aa (jB (dq 0) 0 a d.size g)/\h.get? a=aa (qz d g t)):=by
 have u:d=#[]:=Array.eq_empty_of_size_eq_zero n;have j:∀(s:ao) (f:Nat) (i:Nat) (Q:Option (ai×Nat)->ao->Prop) (E:ai->ao->Prop),s.heap.get? a=aa (qz d g t) ->
   Q ae s->ar (aw P w) A.in1 (n9 a f i g) Q E s:=λs f i Q E G C=>by
  unfold n9;refine aq (l4 G rfl r ?_);unfold z_;refine aq (aq (um (aF ?_)));show ar _ _ (if eB w=ah then _ else _) _ _ s;rw[if_neg (by rw[l];decide)];refine Aa (λp=>absurd (show(!t.plain&&decide (d.size > 1))=ah from p) (by rw[n];simp)) (λ_=>?_);refine aq ?_;refine fh (Q:=λ_ q=>q=s) (E:=E) ?_ (λ_ q y=>?_) (λ_ _ x=>x)
  .refine Aa (λp=>absurd (show(!t.led&&!d.isEmpty)=ah from p) (by rw[u];simp)) (λ_=>aF rfl)
  .subst y;rw[u];have J:∀k:Nat,(#[]:Array (Int×ai))[k]?=ae:=λk=>by simp
   dsimp only;rw[J];exact aF C
 refine⟨λb l=>by grind,λi h L c k=>⟨k I (by simp) _ c.1,k a (by simp) _ c.2⟩,λi s Q E D c m=>absurd D (og i),λs Q E c m=>?_,λi s Q E c m=>xU c.1 m⟩;refine qi c.2 r c.1 ?_;show ar _ _ (n9 a (0:Int).toNat ((0:Nat):Int).toNat (g:Int).toNat >>= _) _ _ s;simp only[lW,Int.toNat_zero];refine aq (j s 0 0 _ _ c.2 ?_);dsimp only;refine aq (yG c.1 λn B _=>?_);exact yb (s:={s with heap:=n}) F λH z=>m H s.toks λb o l e=>z b o ((B.2 b (~~~l)).trans e)
def Pi(S:sM w s.heap a c)(h:∀x I B n C St,Hz P w s x a I c B n C St->Q (.ref I) x):ar (aw P w) A (nY (.ref a)) Q E s:=by
 obtain⟨L,t,l,hsz,p,m_,dv⟩:=S;have O:s.TypeIs (.ref a) "set":=⟨_,l,rfl⟩
 have qj:=bH l;refine Kb O F.slot_set_iter (ll F.slot_set_iter O Lq ?_ (F.args_set_iter_1 _));unfold Builtin.«frozenset.__iter__» Builtin.Frozenset.slot0 slotArgs Builtin.Frozenset.addrOf Builtin.Frozenset.sizeOf;refine aq (aF ?_);refine aq (aq (wpAny_setEntries_of l rfl p (aF ?_)));unfold setDrawn;refine aq (aq (l4 l rfl p ?_));unfold z_;refine aq (aq (um (aF ?_)));refine aF ?_;have i:∀(first:ai) (u:ao) (B:List af) (n:Nat) (C:Nat->ai->Prop) (St:Nat->aB->Prop),u.heap.get? a=aa {cls:=.type "set",dict:=ae,data:=.set c L t} ->
   Hz P w s {u with heap:=u.heap.push (jB first 0 a c.size L)} a u.heap.objs.size c B n C St ->
   ar (aw P w) A.in1 (do
    let e <-setEpoch a
    let f <-newFields "set_iterator" [first,dq 0,Value.ref a,dq (c.size:Nat),dq (e:Nat)]
    ret f) (λi x=>∃v,i=Fin.done (Flow.ret v)/\∃X r,x.TypeIs v X/\typeLookup (Value.type X) (ua "__next__")=pure (aa r)/\Q v x) E u:=λfirst u B n C St Z W=>by
  refine aq (wpAny_setEpoch_of Z rfl p ?_);refine aq (ke ?_);exact aF ⟨_,rfl,"set_iterator",_,⟨_,cV _ rfl,rfl⟩,Gh.lookup,h _ _ B n C St W⟩
 refine Aa (λH=>?_) (λH=>?_)
 .have Y:(!eB w&&(!t.plain&&decide (c.size > 1)))=ah:=H;refine aq (Gv c.size (cJ c.size) s _ (by simp) λD d G=>?_);refine aq (wpAny_newTuple ?_ (hsz:=by rw[cK,G.length_eq,List.length_range];exact kI (IH ∅)));refine i _ _ _ _ _ _ (bL _ l) ⟨λN q=>UX (T:=s.heap.objs.size) (dE (by rw[l0];exact wN qj)) (dE (by simp_all)) p G q,⟨cV _ rfl,?_,?_⟩,?_,?_,?_,rfl,?_,hsz,?_⟩
  .exact bL _ (bL _ l)
  .exact bL _ (cV _ rfl)
  .exact λb o e=>bL _ (bL _ e)
  .simp_all
  .intro b g;simp only[cC,ju,or_false]at g;rw[l0,l0];rcases g with rfl|rfl|rfl
   .simp_all
   all_goals lia
  .intro M m;have e0:(D.filterMap λj=>(c[j]?).map (·.2))=(D.filterMap λj=>c[j]?).map (·.2):=by rw[Kd]
   have y:(D.filterMap λj=>c[j]?).Perm c.toList:=by have:=G.filterMap λj=>c[j]?;rwa[filterMap_getElem?_range]at this
   rw[e0]at m;rw[yX (by rw[cK,y.length_eq];simp) m];exact y.map _
  simp_all
 .have Y:¬(!eB w&&(!t.plain&&decide (c.size > 1)))=ah:=H;refine aq (aF ?_);cases g:eB w with
  |true=>
   refine i _ _ _ _ _ _ l ⟨λN q=>Rc (dE qj) p g q,⟨cV _ rfl,bL _ l⟩,λb o e=>bL _ e,bi _,?_,rfl,?_,hsz,λb g=>?_⟩
   .intro b g;simp only[cC,ju,or_false]at g;rw[l0];lia
   .intro M m;have y:=Gp (w.params.setOrder a L) c;rw[yX (by rw[cK,y.length_eq];simp) m];exact y.map _
   grind
  |false=>
   have J:c.size=1\/c.size=0:=by lia
   rcases J with z|z
   .refine i _ _ _ _ _ _ l ⟨λN q=>MB (dE qj) p g (by lia) z q,⟨cV _ rfl,bL _ l⟩,λb o e=>bL _ e,bi _,?_,rfl,?_,by decide,λb g=>?_⟩
    .intro b g;simp only[cC,ju,or_false]at g;rw[l0];lia
    .intro M m;rw[yX (by simp[z]) m]
    grind
   .refine i _ _ _ _ _ _ l ⟨λN q=>M_ (dE qj) p g z q,⟨cV _ rfl,bL _ l⟩,λb o e=>bL _ e,bi _,?_,rfl,?_,by decide,λb g=>?_⟩
    .intro b g;simp only[cC,ju,or_false]at g;rw[l0];lia
    .intro M m;rw[yX (by simp[z]) m]
    grind
def Ff(H:A.handled=ae)(S:sM w s.heap a m)(h:∀(d:ao) (B:List ai),B.Perm (m.toList.map (·.2))->(∀b o,s.heap.get? b=aa o->d.heap.get? b=aa o)->d.gens=s.gens->d.os=s.os->Q B d):ar (aw P w) A (collect (.ref a)) Q E s:=by
 obtain⟨J,t,G,O,_⟩:=id S;have qj:=bH G;unfold collect;refine aq (wpAny_runValue (wO F.entry_proto_collect ?_));rw[z6 F.plain_proto_collect _];show ar _ A.in1 (newList [] >>= λl=>again (.builtin "list.__iadd__" ⟨[l,.ref a],[]⟩)) _ _ s;refine aq (ke ?_);refine aF ⟨DL F.plain_list_iadd _,wO F.entry_list_iadd ?_⟩;rw[z6 F.plain_list_iadd _];show ar _ A.in1 (Builtin.List.listExtendWith (.ref s.heap.objs.size) (.ref a) (.ref s.heap.objs.size)) _ _ _;unfold Builtin.List.listExtendWith;have j:∀r:ao,r.heap.get? a=aa {cls:=.type "set",dict:=ae,data:=.set m J t}->r.TypeIs (.ref a) "set":=λr e=>⟨_,e,rfl⟩
 have C:(s.heap.push {cls:=.type "list",data:=.seq ([]:List ai).toArray}).get? a=aa {cls:=.type "set",dict:=ae,data:=.set m J t}:=bL _ G;refine aq (Dk (j _ C) ?_);have Y:Builtin.List.listSameRef (.ref s.heap.objs.size) (.ref a)=ak:=by have:¬(s.heap.objs.size=a):=t9 qj;simp[Builtin.List.listSameRef,this]
 rw[if_neg (by rw[Y];decide)];refine aq (Pi (S.at λo e=>bL _ e) λp I Z n Pv St W=>?_);have u:=W.old a _ C;refine aq (iQ ?_);unfold Builtin.List.listLengthHint;refine aq (wJ (j _ u) Sm ?_)
 wp_delta
 refine aq (DP (T:="set") (b:=ah) (j _ u) (by rw[isSubtype_type];kernel_rfl) ?_);show ar _ A.in1 (typeOf (Value.ref a) >>= _) _ _ _;refine aq (Dk (T:="set") (j _ u) ?_);refine aF ?_;rw[if_pos (by decide)];refine aq (mR ?_);have X:(s.heap.push {cls:=.type "list",data:=.seq ([]:List ai).toArray}).get? s.heap.objs.size=aa {cls:=.type "list",data:=.seq ([]:List ai).toArray}:=cV _ rfl;have i:=W.old _ _ X;unfold Builtin.List.listTouch;refine aq (aq (DV i rfl ?_ (by decide) (by show 1<=bo+1;decide)));have g:=get?_update_seq i (λa:Array ai=>a.push Value.none);refine DV g rfl ?_ (by show 1<=bo;decide) (by show 0<=bo+1;decide);have y:=get?_update_seq g (λa:Array ai=>a.pop);have M:s.heap.objs.size∉Z:=λz=>by
  rcases W.fps _ z with q|q
  .lia
  .rw[l0]at q;lia
 have D:∀b o,b≠s.heap.objs.size->p.heap.get? b=aa o->(((p.heap.update s.heap.objs.size (kM λa=>a.push Value.none)).update s.heap.objs.size (kM λa=>a.pop))).get? b=aa o:=λb o f e=>by rw[Ke _ _ _ _ f,Ke _ _ _ _ f];exact e
 have b9:St 0 (((p.heap.update s.heap.objs.size (kM λa=>a.push Value.none)).update s.heap.objs.size (kM λa=>a.pop))):=(W.wk A.in1 H).frame 0 _ _ W.st λb f o e=>D b o (λz=>M (z ▸ f)) e;refine aF ⟨DL F.plain_extend_loop _,codeAny_extend_loopS (W.wk A.in1 H).toS (kI (IH (by have:=W.len;lia))) _ M _ n 0 _ _ _ rfl (jM _) b9 y (ItemsOf.nil _) λd c c' v x N=>?_⟩;show ar _ A (load s.heap.objs.size >>= _) _ _ d;refine aq (wpAny_load x ?_);refine aF (h d c.toList (W.ord c N) (λb o e=>?_) ?_ ?_)
 .have L:=bH e;refine v.heap b o (λf=>?_) (D b o (dE L) (W.old b o (bL _ e)));rcases cC.mp f with z|z
  .lia
  .rw[kg.mp z]at L;have:=W.new;rw[l0]at this;lia
 .rw[v.gens,W.rest]
 .rw[v.os,W.rest]
def PU(p:A.handled=ae)(S:li P w s.heap a ks)(h:∀(c:ao) (d:List ai) (ss:List Str),cS d ss->ss.Perm ks->d.length<4090->(∀b o,s.heap.get? b=aa o->c.heap.get? b=aa o)->c.gens=s.gens->c.os=s.os->Q d c):ar (aw P w) A (collect (.ref a)) Q E s:=by
 obtain⟨r,ss,S,q,n⟩:=S.e;have m:r.size<4090:=by obtain⟨_,_,_,z,_⟩:=S;exact z
 refine Ff p S λc d pv l j i=>?_;obtain⟨u,g,f⟩:=Bg pv q;exact h c d u g (f.trans n) (by have:=pv.length_eq;grind) l j i
end
def dZ(a:List Tx):List Tx:=a.foldl (λks x=>if x∈ks then ks else ks++[x]) []
def FC(b:List Tx):met (λi=>(b.map tS).getD i kK) b.length=(dZ b).map tS:=by
 have d:∀(l:List Tx) (a:List Tx),(l.map tS).foldl kE (a.map tS)=(l.foldl (λks x=>if x∈ks then ks else ks++[x]) a).map tS:=by
  intro l
  induction l with
  |nil=>intro a;rfl
  |cons x r f=>
   intro a;rw[cR,iU,iU];have:kE (a.map tS) (tS x)=(if x∈a then a else a++[x]).map tS:=by
    unfold kE;have j:tS x∈a.map tS↔x∈a:=by rw[b8];exact⟨λ⟨y,g,e⟩=>by rw[<-sN e];exact g,λh=>⟨x,h,rfl⟩⟩
    grind
   rw[this,f]
 have e:(cJ b.length).map (λi=>(b.map tS).getD i kK)=b.map tS:=by
  refine pC λi=>?_;rw[d8];by_cases c:i<b.length
  .rw[Dt c];simp[c]
  .rw[oh (~~~c),oh (~~~c)];rfl
 unfold met;rw[e];exact d b []
def Hk(l a:List Tx):(a.Nodup->(l.foldl (λks x=>if x∈ks then ks else ks++[x]) a).Nodup)/\∀x,x∈l.foldl (λks x=>if x∈ks then ks else ks++[x]) a↔x∈a\/x∈l:=by
 induction l generalizing a with
 |nil=>exact⟨λh=>h,λx=>by simp⟩
 |cons y r b=>
  rw[iU]
  grind
def Uz(l:List Tx):(dZ l).Nodup:=(Hk l []).1 ud
def BF(l:List Tx)(x:Tx):x∈dZ l↔x∈l:=by rw[dZ,(Hk l []).2 x];simp
section
variable{X:Cx}
def pX(X:Cx)(a:af)(b:List Tx):HO:=.ext λh=>li X.prog X.w h a (b.map tS)
end
structure cG(K:ax)(mg:Str->Option ai)(x:Str)(st:bf):Prop where
 ex:∃f fd,mg x=aa (.ref f)/\qf K x x st f fd
def HI(h:H p=ae):Same H (upd H p o):=λb u q=>by rw[a8 (kX q h)];exact q
def tw{a:Type}{xs:List a}(b:0<=k)(h:k.toNat<xs.length):fI xs k=aa xs[k.toNat]:=by
 have e:((k.toNat:Nat):Int)=k:=∅
 have q:=Sv (xs:=xs) (j:=k.toNat) (v:=xs[k.toNat]) (by simp[h]);rwa[e]at q
def Ba(N:List Str)(d a:dU)(x:Str)(c:List Str)(b:List Nat):Bool :=
 decide (a.kind=.function)&&a.names.all (λy=>(decide (y.2≠.cell)||decide (a.names.lookup y.1=aa .cell))&&(decide (y.2≠.local)||decide (a.names.lookup y.1=aa .local))&&(decide (y.2≠.free)||decide (d.names.lookup y.1=aa .cell)||decide (d.names.lookup y.1=aa .free)))
 && (decide (a.names.lookup x=aa .local)||decide (a.names.lookup x=aa .cell))&&decide c.Nodup&&decide (c.head?=aa x)&&decide (c.length=b.length+1)&&(b.zip c.tail).all λp=>(decide (N[p.1]?=aa p.2)&&decide (a.names.lookup p.2=aa .free))||(decide (N.length<=p.1)&&decide (a.names.lookup p.2=aa .local))
def iG.of{X:Cx}(N:List Str)(d:dU)(l:X.N=N)(c:X.env.scope=d)(h:Ba N d a x N' cap=ah):iG X a x N' cap:=by
 subst l c;simp only[Ba,h_,decide_eq_true_eq,lZ,Dx]at h;obtain⟨⟨⟨⟨⟨⟨r,f⟩,q⟩,p⟩,o⟩,n⟩,m⟩:=h;refine⟨r,λy b e=>(f y b).1.1.elim (λz=>absurd e z) λz=>z,λy b e=>?_,q,λy b e=>?_,p,o,n,λi j y u s=>?_⟩
 .grind
 .rcases(f y b).2 with(z|z)|z
  .exact absurd e z
  .exact .inl z
  .exact .inr z
 .have g:(j,y)∈cap.zip N'.tail:=by
   refine List.mem_iff_getElem?.mpr ⟨i,?_⟩;rw[Ac];refine⟨s,?_⟩;rw[<-List.drop_one,DY,Nat.add_comm];exact u
  exact m _ g
def C5(a b:Tx):eT (tV a) (tV b)=decide (a=b):=by show(tS a == tS b)=_;rw[nZ];simp only[beq_iff_eq,decide_eq_true_eq];exact⟨sN,λh=>by rw[h]⟩
def Na(a:List Tx)(x:Tx):((cr a).countP λz=>eT z (tV x))=a.count x:=by unfold cr List.count;rw[List.countP_map];refine List.countP_congr λy _=>?_;simp only[Function.comp_apply,C5,decide_eq_true_eq,beq_iff_eq]
end L2
namespace Pu
open L2
abbrev St:=L2.St
inductive PV where
 |non|bl (b:Bool)|int (i:Int)|str (x:Tx)|tup (xs:List PV)|lst (xs:List PV)|raw (v:V)|exc (c:ai)
def jD(a:af)(c:ai):HO:=.ext λh=>∃o b,h.get? a=aa o/\o.cls=c/\o.data=.fields b/\o.dict=ae
def bD:Nat:=1000000
def kZ:bD<=bo:=by rw[t_];decide
def eA:HO->Prop
 |.lst _=>True
 |.dK _=>True
 |.dT _=>True
 |.dN _=>True
 |.ins _ _ _=>True
 |.own _=>True
 |_=>False
mutual
def aN(K:ax)(H:Hp)(F:af->Prop):PV->V->Prop
 |.non,v=>v=.non
 |.bl b,v=>v=.bl b
 |.int i,v=>v=.int i
 |.str x,v=>v=tV x/\x.length<=bD
 |.tup xs,v=>∃a d,v=.ref a/\H a=aa (.tup d)/\a6 K H F xs d
 |.lst xs,v=>∃a d,v=.ref a/\Rd H a (.lst d)/\F a/\a6 K H F xs d
 |.raw u,v=>v=u
 |.exc c,v=>∃a,v=.ref a/\H a=aa (jD a c)
def a6(K:ax)(H:Hp)(F:af->Prop):List PV->List V->Prop
 |[],a=>a=[]
 |x::xs,a=>∃v r,a=v::r/\aN K H F x v/\a6 K H F xs r
end
section
variable{K:ax}{H H':Hp}{F b:af->Prop}
mutual
def aN.mono(g:∀a,F a->b a)(f:∀a xs,F a->Rd H a (.lst xs)->Rd H' a (.lst xs))(d:∀a o,H a=aa o->¬eA o->H' a=aa o):∀(x:PV) (v:V),aN K H F x v->aN K H' b x v
 |.non,_,h=>h
 |.bl _,_,h=>h
 |.int _,_,h=>h
 |.str _,_,h=>h
 |.raw _,_,h=>h
 |.exc _,_,⟨a,e,h⟩=>⟨a,e,d a _ h id⟩
 |.tup xs,_,⟨a,c,e,j,i⟩=>⟨a,c,e,d a _ j id,a6.mono g f d xs c i⟩
 |.lst xs,_,⟨a,c,e,j,l,i⟩=>⟨a,c,e,f a c l j,g a l,a6.mono g f d xs c i⟩
def a6.mono(g:∀a,F a->b a)(f:∀a xs,F a->Rd H a (.lst xs)->Rd H' a (.lst xs))(d:∀a o,H a=aa o->¬eA o->H' a=aa o):∀(xs:List PV) (c:List V),a6 K H F xs c->a6 K H' b xs c
 |[],_,h=>h
 |x::xs,_,⟨v,r,e,j,i⟩=>⟨v,r,e,aN.mono g f d x v j,a6.mono g f d xs r i⟩
end
def a6.len:∀{xs:List PV}{a:List V},a6 K H F xs a->a.length=xs.length
 |[],_,h=>by rw[show _=[] from h];rfl
 |_::_,_,⟨_,_,e,_,b⟩=>by rw[e,gR,gR,a6.len b]
def a6.get:∀{xs:List PV}{c:List V}{i:Nat}{x:PV},a6 K H F xs c->xs[i]?=aa x->∃v,c[i]?=aa v/\aN K H F x v
 |[],_,_,_,_,e=>by simp at e
 |x::xs,_,0,y,⟨v,r,e,h1,_⟩,q=>by simp at q;subst q;subst e;exact⟨v,rfl,h1⟩
 |x::xs,_,i+1,y,⟨v,r,e,_,h2⟩,q=>by obtain⟨w,a,b⟩:=a6.get (i:=i) (x:=y) h2 (~~~q);subst e;exact⟨w,~~~a,b⟩
def a6.back:∀{xs:List PV}{c:List V}{i:Nat}{v:V},a6 K H F xs c->c[i]?=aa v->∃x,xs[i]?=aa x/\aN K H F x v
 |[],_,_,_,h,e=>by rw[show _=[] from h]at e;simp at e
 |x::xs,_,0,y,⟨v,r,e,h1,_⟩,q=>by subst e;simp at q;subst q;exact⟨x,rfl,h1⟩
 |x::xs,_,i+1,y,⟨v,r,e,_,h2⟩,q=>by subst e;obtain⟨w,a,b⟩:=a6.back (i:=i) (v:=y) h2 (~~~q);exact⟨w,~~~a,b⟩
def a6.app:∀{xs a:List PV}{c b:List V},a6 K H F xs c->a6 K H F a b->a6 K H F (xs++a) (c++b)
 |[],_,_,_,h,g=>by rw[show _=[] from h];exact g
 |x::xs,_,_,_,⟨v,r,e,f,d⟩,g=>by subst e;exact⟨v,_,rfl,f,a6.app d g⟩
def a6.one(h:aN K H F x v):a6 K H F [x] [v]:=⟨v,[],rfl,h,rfl⟩
def a6.drop:∀(n:Nat) {xs:List PV}{a:List V},a6 K H F xs a->a6 K H F (xs.drop n) (a.drop n)
 |0,_,_,h=>h
 |_+1,[],_,h=>by rw[show _=[] from h];rfl
 |n+1,_::_,_,⟨_,_,e,_,h2⟩=>by subst e;exact a6.drop n h2
def a6.take:∀(n:Nat) {xs:List PV}{a:List V},a6 K H F xs a->a6 K H F (xs.take n) (a.take n)
 |0,_,_,_=>by rw[DZ,DZ];rfl
 |_+1,[],_,h=>by rw[show _=[] from h];rfl
 |n+1,_::_,_,⟨v,_,e,h1,h2⟩=>by subst e;exact⟨v,_,rfl,h1,a6.take n h2⟩
def a6.set(b:aN K H F x v):∀(n:Nat) {xs:List PV}{a:List V},a6 K H F xs a->a6 K H F (xs.set n x) (a.set n v)
 |_,[],_,h=>by rw[show _=[] from h];rfl
 |0,_::_,_,⟨_,r,e,_,h2⟩=>by subst e;exact⟨v,r,rfl,b,h2⟩
 |n+1,_::_,_,⟨w,_,e,h1,h2⟩=>by subst e;exact⟨w,_,rfl,h1,a6.set b n h2⟩
end
structure Grow(O O' F F':af->Prop)(H H':Hp):Prop where
 fro:∀a,F a->F' a
 keep:∀b o,H b=aa o->¬O b->H' b=aa o
 there:∀b o,H b=aa o->∃o',H' b=aa o'
 fnew:∀a,F' a->F a\/H a=ae\/O a
 onew:∀a,O' a->O a\/H a=ae
def Grow.refl(O F:af->Prop)(H:Hp):Grow O O F F H H:=⟨λ_ h=>h,λ_ _ h _=>h,λ_ o h=>⟨o,h⟩,λ_ h=>.inl h,λ_ h=>.inl h⟩
def Grow.trans(g:Grow O i F m H d)(k:Grow i f m l d j):Grow O f F l H j where
 fro:=λa h=>k.fro a (g.fro a h)
 keep:=λb o h n=>k.keep b o (g.keep b o h n) λz=>(g.onew b z).elim n λq=>by lia
 there:=λb o h=>let ⟨o',c⟩:=g.there b o h;k.there b o' c
 fnew:=λa h=>by
  have back:d a=ae->H a=ae\/O a:=λz=>by
   cases q:H a with
   |none=>exact .inl rfl
   |some o=>obtain⟨o',c⟩:=g.there a o q;lia
  rcases k.fnew a h with z|z|z
  .exact g.fnew a z
  .exact .inr (back z)
  .exact .inr ((g.onew a z).symm)
 onew:=λa h=>by
  rcases k.onew a h with z|z
  .exact g.onew a z
  .cases q:H a with
   |none=>exact .inr rfl
   |some o=>obtain⟨o',c⟩:=g.there a o q;lia
def Fit(O F:af->Prop)(H:Hp):Prop:=∀b,O b->¬F b/\∃o,H b=aa o/\eA o
section
variable{K:ax}{O c F b:af->Prop}{H H':Hp}
def Grow.imm(g:Grow O c F b H H')(f:Fit O F H)(h:H a=aa o)(n:¬eA o):H' a=aa o :=g.keep _ _ h λz=>by obtain⟨_,d,j,i⟩:=f a z;lia
def Grow.lst(g:Grow O c F b H H')(f:Fit O F H)(d:F a)(h:Rd H a (.lst xs)):Rd H' a (.lst xs):=by
 have no:¬O a:=λz=>(f a z).1 d;rcases h with h|⟨o,h⟩
 .exact .inl (g.keep _ _ h no)
 .exact .inr ⟨o,g.keep _ _ h no⟩
def aN.grow(g:Grow O c F b H H')(f:Fit O F H)(h:aN K H F x v):aN K H' b x v:=aN.mono g.fro (λ_ _ a q=>g.lst f a q) (λ_ _ q n=>g.imm f q n) x v h
def a6.grow(g:Grow O c F b H H')(f:Fit O F H)(h:a6 K H F x v):a6 K H' b x v:=a6.mono g.fro (λ_ _ a q=>g.lst f a q) (λ_ _ q n=>g.imm f q n) x v h
end
def _root_.L2.Same.rd(e:Same H b)(h:Rd H a u):Rd b a u:=h.elim (λz=>.inl (e _ _ z)) λ⟨o,z⟩=>.inr ⟨o,e _ _ z⟩
structure Al(F F':af->Prop)(H H':Hp):Prop where
 fro:∀a,F a->F' a
 same:Same H H'
 fnew:∀a,F' a->F a\/(H a=ae/\∃o,H' a=aa o)
def Al.refl(F:af->Prop)(H:Hp):Al F F H H:=⟨λ_ h=>h,Same.refl H,λ_ h=>.inl h⟩
def Al.grow(a:Al F d H c):Grow O O F d H c :=⟨a.fro,λb o h _=>a.same b o h,λb o h=>⟨o,a.same b o h⟩,λb h=>(a.fnew b h).imp id λz=>.inl z.1,λ_ h=>.inl h⟩
def Al.rep{K:ax}{F c:af->Prop}{H b:Hp}(a:Al F c H b){x:PV}{v:V}(h:aN K H F x v):aN K b c x v:=aN.mono a.fro (λ_ _ _ q=>a.same.rd q) (λ_ _ q _=>a.same _ _ q) x v h
def Al.reps{K:ax}{F c:af->Prop}{H b:Hp}(a:Al F c H b){x:List PV}{v:List V}(h:a6 K H F x v):a6 K b c x v:=a6.mono a.fro (λ_ _ _ q=>a.same.rd q) (λ_ _ q _=>a.same _ _ q) x v h
def Al.trans(a:Al F i H f)(b:Al i g f d):Al F g H d :=
 ⟨λc h=>b.fro c (a.fro c h),a.same.trans b.same,λc h=>by
  rcases b.fnew c h with z|⟨z,w⟩
  .rcases a.fnew c z with y|⟨y,o,q⟩
   .exact .inl y
   .exact .inr ⟨y,o,b.same _ _ q⟩
  .exact .inr ⟨a.same.free z,w⟩⟩
def Al.new(h:H l=ae):Al F (λa=>F a\/a=l) H (upd H l o) :=⟨λ_ h=>.inl h,HI h,λa z=>z.imp id λe=>by subst e;exact⟨h,o,upd_same⟩⟩
def Al.new0(h:H l=ae):Al F F H (upd H l o):=⟨λ_ h=>h,HI h,λa z=>.inl z⟩
inductive PO where
 |lst (xs:List PV)|dK (kvs:List (aK×PV))|lls (b_:List (List PV))|ins (C:af) (fs:List (Str×PV))|dT (kvs:List (List aK×PV))|dN (kvs:List ((Tx×List Tx)×PV))|inl (C:af) (fs:List (Str×PV)) (y:Str) (xs:List PV)|dL (kvs:List (aK×List PV))
def gu:PO->Bool
 |.lls _=>ak
 |.dL _=>ak
 |.inl ..=>ak
 |_=>ah
inductive Slot where
 |none|val (v:PV)|own (o:PO)
abbrev aj:=List Slot
def jn(K:ax)(H:Hp)(F:af->Prop)(a:List (aK×PV))(b:List (aK×V)):Prop:=eV (λ(p:aK×PV) (q:aK×V)=>p.1=q.1/\aN K H F p.2 q.2) a b
def vB(K:ax)(H:Hp)(F:af->Prop)(fs:List (Str×PV))(a:List (Str×V)):Prop:=eV (λ(p:Str×PV) (q:Str×V)=>p.1=q.1/\aN K H F p.2 q.2) fs a
def jI(K:ax)(H:Hp)(F:af->Prop)(a:List (List aK×PV))(b:List (List aK×V)):Prop:=eV (λ(p:List aK×PV) (q:List aK×V)=>p.1=q.1/\aN K H F p.2 q.2) a b
def nS(k:Tx×List Tx):Str×List Str:=(tS k.1,k.2.map tS)
def za(K:ax)(H:Hp)(F:af->Prop)(a:List ((Tx×List Tx)×PV))(b:List ((Str×List Str)×V)):Prop:=eV (λ(p:(Tx×List Tx)×PV) (q:(Str×List Str)×V)=>nS p.1=q.1/\aN K H F p.2 q.2) a b
def gP(K:ax)(H:Hp)(F:af->Prop)(c:List (List PV))(d:List af):Prop:=eV (λ(xs:List PV) (b:af)=>∃a,H b=aa (.lst a)/\a6 K H F xs a) c d
def fq(K:ax)(H:Hp)(F:af->Prop)(j:PO)(a:af)(S:af->Prop):Prop :=
 match j with
 |.lst xs=>(∃h,H a=aa (.lst h)/\a6 K H F xs h)/\∀b,S b↔b=a
 |.dK d=>(∃f,H a=aa (.dK f)/\jn K H F d f)/\∀b,S b↔b=a
 |.lls l=>∃g,H a=aa (.lst (g.map .ref))/\gP K H F l g/\g.Nodup/\a∉g/\∀b,S b↔b=a\/b∈g
 |.dL d=>∃g:List af,H a=aa (.dK ((d.map (·.1)).zip (g.map V.ref)))/\gP K H F (d.map (·.2)) g/\g.Nodup/\a∉g/\∀b,S b↔b=a\/b∈g
 |.ins C fs=>(∃i f,H a=aa (.ins C i f)/\vB K H F fs f)/\∀b,S b↔b=a
 |.dT d=>(∃f,H a=aa (.dT f)/\jI K H F d f)/\∀b,S b↔b=a
 |.dN d=>(∃f,H a=aa (.dN f)/\za K H F d f)/\∀b,S b↔b=a
 |.inl C fs y xs=>∃i f b h,H a=aa (.ins C i (f++[(y,.ref b)]))/\vB K H F fs f/\fs.lookup y=ae/\H b=aa (.lst h)/\a6 K H F xs h/\a≠b/\∀c,S c↔c=a\/c=b
structure aL(K:ax)(F:af->Prop)(S:Nat->af->Prop)(ε:aj)(σ:St)(H:Hp):Prop where
 len:ε.length=σ.length
 ex:∀a,F a->∃o,H a=aa o
 val:∀(i:Nat) (pv:PV),ε[i]?=aa (.val pv)->∃v,σ[i]?=aa (aa v)/\aN K H F pv v
 own:∀(i:Nat) (po:PO),ε[i]?=aa (.own po)->∃a,σ[i]?=aa (aa (.ref a))/\fq K H F po a (S i)
 foot:∀(i:Nat) (b:af),S i b->(∃po,ε[i]?=aa (.own po))/\¬F b/\∃o,H b=aa o/\eA o
 dist:∀(i j:Nat) (b:af),S i b->S j b->i=j
def U(S:Nat->af->Prop)(b:af):Prop:=∃i,S i b
section
variable{K:ax}{F d:af->Prop}{S:Nat->af->Prop}{g:aj}{f:St}{H H':Hp}
def aL.fit(r:aL K F S g f H):Fit (U S) F H:=λb ⟨i,h⟩=>(r.foot i b h).2
def jn.mono(i:∀x v,aN K H F x v->aN K H' d x v)(h:jn K H F a b):jn K H' d a b:=by
 unfold jn at h ⊢
 induction h with
 |nil=>exact .nil
 |cons r _ c=>exact .cons ⟨r.1,i _ _ r.2⟩ c
def vB.mono(c:∀x v,aN K H F x v->aN K H' d x v)(h:vB K H F fs a):vB K H' d fs a:=by
 unfold vB at h ⊢
 induction h with
 |nil=>exact .nil
 |cons r _ b=>exact .cons ⟨r.1,c _ _ r.2⟩ b
def jI.mono(i:∀x v,aN K H F x v->aN K H' d x v)(h:jI K H F a b):jI K H' d a b:=by
 unfold jI at h ⊢
 induction h with
 |nil=>exact .nil
 |cons r _ c=>exact .cons ⟨r.1,i _ _ r.2⟩ c
def za.mono(i:∀x v,aN K H F x v->aN K H' d x v)(h:za K H F a b):za K H' d a b:=by
 unfold za at h ⊢
 induction h with
 |nil=>exact .nil
 |cons r _ c=>exact .cons ⟨r.1,i _ _ r.2⟩ c
def gP.mono(l:∀x v,a6 K H F x v->a6 K H' d x v)(c:∀b o,b∈a->H b=aa o->H' b=aa o)(h:gP K H F i a):gP K H' d i a:=by
 unfold gP at h ⊢
 induction h with
 |nil=>exact .nil
 |cons r _ m=>obtain⟨j,q,p⟩:=r;exact .cons ⟨j,c _ _ (by simp) q,l _ _ p⟩ (m λb o n=>c b o (by simp[n]))
def fq.mono(l:∀x v,aN K H F x v->aN K H' d x v)(m:∀x v,a6 K H F x v->a6 K H' d x v)(c:∀b o,Sa b->H b=aa o->H' b=aa o)(h:fq K H F po a Sa):fq K H' d po a Sa:=by
 cases po with
 |lst xs=>obtain⟨⟨p,e,q⟩,w⟩:=h;exact⟨⟨p,c a _ ((w a).mpr rfl) e,m _ _ q⟩,w⟩
 |dK j=>obtain⟨⟨i,e,q⟩,w⟩:=h;exact⟨⟨i,c a _ ((w a).mpr rfl) e,q.mono l⟩,w⟩
 |lls G=>obtain⟨A,e,q,s,r,w⟩:=h;exact⟨A,c a _ ((w a).mpr (.inl rfl)) e,q.mono m λb o u=>c b o ((w b).mpr (.inr u)),s,r,w⟩
 |dL j=>obtain⟨A,e,q,s,r,w⟩:=h;exact⟨A,c a _ ((w a).mpr (.inl rfl)) e,q.mono m λb o u=>c b o ((w b).mpr (.inr u)),s,r,w⟩
 |ins C fs=>obtain⟨⟨z,i,e,q⟩,w⟩:=h;exact⟨⟨z,i,c a _ ((w a).mpr rfl) e,q.mono l⟩,w⟩
 |dT j=>obtain⟨⟨i,e,q⟩,w⟩:=h;exact⟨⟨i,c a _ ((w a).mpr rfl) e,q.mono l⟩,w⟩
 |dN j=>obtain⟨⟨i,e,q⟩,w⟩:=h;exact⟨⟨i,c a _ ((w a).mpr rfl) e,q.mono l⟩,w⟩
 |inl C fs y xs=>obtain⟨z,i,b,p,e,q,n,E,B,D,w⟩:=h;exact⟨z,i,b,p,c a _ ((w a).mpr (.inl rfl)) e,q.mono l,n,c b _ ((w b).mpr (.inr rfl)) E,m _ _ B,D,w⟩
def aL.al(r:aL K F S g f H)(a:Al F d H H'):aL K d S g f H' where
 len:=r.len
 ex:=λb h=>(a.fnew b h).elim (λz=>let ⟨o,q⟩:=r.ex b z;⟨o,a.same _ _ q⟩) λz=>z.2
 val:=λi pv e=>let ⟨v,j,l⟩:=r.val i pv e;⟨v,j,a.rep l⟩
 own:=λi m e=>let ⟨b,j,l⟩:=r.own i m e;⟨b,j,l.mono (λ_ _ q=>a.rep q) (λ_ _ q=>a.reps q) λc o _ q=>a.same _ _ q⟩
 foot:=λi b h=>by
  obtain⟨j,l,o,p,n⟩:=r.foot i b h;refine⟨j,λz=>?_,o,a.same _ _ p,n⟩;rcases a.fnew b z with y|⟨y,_⟩
  all_goals lia
 dist:=r.dist
end
inductive R(α:Type) where
 |ok (a:α) (ε:aj)|er (c:ai) (ε:aj)|no
abbrev ac(α:Type):=aj->R α
def R.bind{d b:Type}(r:R d)(k:d->aj->R b):R b:=match r with
 |.ok a ε=>k a ε
 |.er c ε=>.er c ε
 |.no=>.no
def aS{b:Type}(o:Option b)(ε:aj):R b:=match o with
 |some a=>.ok a ε
 |none=>.no
@[simp] def R.bind_ok(a:b)(ε:aj)(k:b->aj->R c):(R.ok a ε).bind k=k a ε:=rfl
@[simp] def R.bind_er(c:ai)(a:aj)(k:b->aj->R d):(R.er c a:R b).bind k=.er c a:=rfl
@[simp] def R.bind_no(k:a->aj->R b):(R.no:R a).bind k=.no:=rfl
@[simp] def bS(a:c)(b:aj):aS (aa a) b=.ok a b:=rfl
@[simp] def VM(a:aj):aS (ae:Option b) a=.no:=rfl
def Ok(K:ax)(E:XK)(h:St)(F:af->Prop)(S:Nat->af->Prop)(H:Hp){i:Type}(r:R i)(C:i->aj->(af->Prop)->(Nat->af->Prop)->Hp->Prop):Prop:=match r with
 |.ok a b=>∀g f d,aL K g f b h d->Grow (U S) (U f) F g H d->C a b g f d
 |.er c b=>∀x g f d,aL K g f b h d->Grow (U S) (U f) F g H d->E c x d
 |.no=>False
section
variable{K:ax}{E:XK}{b:St}{F:af->Prop}{S:Nat->af->Prop}{H:Hp}{d i:Type}{C C':d->aj->(af->Prop)->(Nat->af->Prop)->Hp->Prop}{D:i->aj->(af->Prop)->(Nat->af->Prop)->Hp->Prop}
def Ok.imp(h:Ok K E b F S H r C)(f:∀a j n l m,aL K n l j b m->Grow (U S) (U l) F n H m->C a j n l m->C' a j n l m):Ok K E b F S H r C':=by
 cases r with
 |ok a j=>exact λn l m r g=>f a j n l m r g (h n l m r g)
 |er c j=>exact h
 |no=>exact h
def Ok.from(h:Ok K E b F S H r D)(g:Grow (U S) (U o) F q H p):Ok K E b q o p r D:=by
 cases r with
 |ok a f=>exact λn l m j g'=>h n l m j (g.trans g')
 |er c f=>exact λx n l m j g'=>h x n l m j (g.trans g')
 |no=>exact h
def Ok.bind{r:R d}(h:Ok K E b F S H (r.bind k) D):Ok K E b F S H r (λa ε1 m j l=>Ok K E b m j l (k a ε1) D):=by
 cases r with
 |ok a f=>exact λp n o r g=>Ok.from h g
 |er c f=>exact h
 |no=>exact h
end
structure Bx(p:Prop):Prop where
 run:p
def gG(X:Cx)(e:aC):TE:=λa H Q=>Bx (∀b s,Inv X b a H s->ar X.zz X.A (a9 e X.env) (EP X b a Q) X.xe s)
def AH(X:Cx)(e:aC):TT:=λa H Q=>Bx (∀b s,Inv X b a H s->ar X.zz X.A (nX e X.env (a9 e X.env)) (TP X b a Q) X.xe s)
def wpS(X:Cx)(c:bf):TS:=λD b H=>Bx (∀a s,Inv X a b H s->ar X.zz X.A (exec c X.env) (SP X a D) X.xe s)
def oY(X:Cx)(c:List bf):TS:=λD b H=>Bx (∀a s,Inv X a b H s->ar X.zz X.A (execs c X.env) (SP X a D) X.xe s)
section
variable{X:Cx}{b:bf}
def bK:PE X e (gG X e):=λc s _ _ _ I h=>h.run c s I
def nH:PT X e (AH X e):=λc s _ _ _ I h=>h.run c s I
def Gk:PS X b (wpS X b):=λc s _ _ _ I h=>h.run c s I
def qF:lg X a (oY X a):=λc s _ _ _ I h=>h.run c s I
def cb(h:PE X e t)(q:t c H Q):gG X e c H Q:=⟨λd s I=>h d s c H Q I q⟩
def wl(h:PT X e t)(q:t c H Q):AH X e c H Q:=⟨λd s I=>h d s c H Q I q⟩
def fS(h:PS X b t)(q:t D c H):wpS X b D c H:=⟨λd s I=>h d s c H D I q⟩
def Cy(h:lg X a t)(q:t D c H):oY X a D c H:=⟨λd s I=>h d s c H D I q⟩
end
def DE(X:Cx)(E:XK)(e:aC)(d:ac PV):Prop :=
 ∀F S b a H Q,aL X.K F S b a H->Ok X.K E a F S H (d b) (λpv _ f _ c=>∀v,aN X.K c f pv v->Q v c)->gG X e a H Q
def DN(X:Cx)(E:XK)(e:aC)(d:ac PO):Prop :=
 ∀F S g c H Q,aL X.K F S g c H->Ok X.K E c F S H (d g) (λj _ i l f=>∀a h,fq X.K f i j a h->(∀b,h b->H b=ae/\¬i b/\¬U l b/\∃o,f b=aa o/\eA o)->Q (.ref a) f)->gG X e c H Q
def DT(X:Cx)(E:XK)(e:aC)(d:ac Bool):Prop :=
 ∀F S c a H Q,aL X.K F S c a H->Ok X.K E a F S H (d c) (λb _ _ _ f=>Q b f)->AH X e a H Q
open L2
section
variable{X:Cx}{E:XK}{a b c:aC}{m db A:ac PV}{pos:Pos}
def dC(pv:PV):ac PV:=λε=>.ok pv ε
def ba{i j pos}:DE X E (.Constant (.int i) j pos) (dC (.int i)):=λF S f d H Q r h=>cb Us (h F S H r (Grow.refl ..) _ rfl)
def mC{i j pos}:DE X E (.Constant (.bool i) j pos) (dC (.bl i)):=λF S f d H Q r h=>cb QZ (h F S H r (Grow.refl ..) _ rfl)
def xX{j pos}:DE X E (.Constant .none j pos) (dC .non):=λF S f d H Q r h=>cb Rf (h F S H r (Grow.refl ..) _ rfl)
def gK(l:Tx){j pos}(d:x=tS l:=by decide +kernel)(f:l.length<=bD:=by decide):DE X E (.Constant (.str x) j pos) (dC (.str l)):=λF S i g H Q r h=>cb PR (h F S H r (Grow.refl ..) _ (by rw[d];exact⟨rfl,f⟩))
def dV(i:Nat):ac PV:=λε=>match ε[i]? with
 |some (.val pv)=>.ok pv ε
 |_=>.no
def au(i:Nat)(g:X.N[i]?=aa x:=by rfl)(d:ee X.env.scope x:=by eq_refl)(f:ad x:=by decide)(n:az x:=by decide):DE X E (.Name x pos) (dV i):=λF S q o H Q r h=>by
 unfold dV at h;split at h
 .rename_i p e;obtain⟨v,l,j⟩:=r.val i p e;exact cb (e_ g d f n) ⟨v,l,h F S H r (Grow.refl ..) v j⟩
 .exact h.elim
def CN(h:∃t,X.mg x=aa (.int i t))(d:Gl X x:=by rfl)(f:ad x:=by decide):DE X E (.Name x pos) (dC (.int i)):=λF S j g H Q r q=>by obtain⟨t,e⟩:=h;exact cb (B_ (v:=.int i) d e ⟨t,rfl⟩ f) (q F S H r (Grow.refl ..) _ rfl)
def tT(h:∃t,X.mg x=aa (.str (tS l) t))(f:Gl X x:=by rfl)(d:l.length<=bD:=by decide)(g:ad x:=by decide):DE X E (.Name x pos) (dC (.str l)):=λF S j i H Q r q=>by obtain⟨t,e⟩:=h;exact cb (B_ (v:=tV l) f e ⟨t,rfl⟩ g) (q F S H r (Grow.refl ..) _ ⟨rfl,d⟩)
def aL.frz{K:ax}{F:af->Prop}{S:Nat->af->Prop}{p:aj}{s:St}{H:Hp}{i:Nat}{xs:List PV}(r:aL K F S p s H)(e:p[i]?=aa (.own (.lst xs))):∃a w I,aL K w I (p.set i (.val (.lst xs))) s H/\Grow (U S) (U I) F w H H/\s[i]?=aa (aa (.ref a))/\aN K H w (.lst xs) (.ref a):=by
 obtain⟨a,G,⟨J,C,L⟩,D⟩:=r.own i _ e;have B:i<p.length:=(cP.mp e).1;have g:∀b,F b->F b\/b=a:=λb h=>.inl h;have mono:∀x v,aN K H F x v->aN K H (λb=>F b\/b=a) x v:=aN.mono g (λ_ _ _ q=>q) (λ_ _ q _=>q);have d:∀x v,a6 K H F x v->a6 K H (λb=>F b\/b=a) x v:=a6.mono g (λ_ _ _ q=>q) (λ_ _ q _=>q);have y:aN K H (λb=>F b\/b=a) (.lst xs) (.ref a):=⟨a,J,rfl,.inl C,.inr rfl,d _ _ L⟩
 refine⟨a,λb=>F b\/b=a,λj b=>S j b/\j≠i,⟨by rw[ge];exact r.len,λb h=>?_,λj pv q=>?_,λj po q=>?_,λj b h=>?_,λj k b N M=>r.dist j k b N.1 M.1⟩,?_,G,y⟩
 .rcases h with h|rfl
  .exact r.ex b h
  .exact⟨_,C⟩
 .by_cases f:i=j
  .subst f;rw[eE B]at q;cases q;exact⟨_,G,y⟩
  .rw[cQ f]at q;obtain⟨v,n,l⟩:=r.val j pv q;exact⟨v,n,mono _ _ l⟩
 .by_cases f:i=j
  .subst f;rw[eE B]at q;cases q
  .rw[cQ f]at q;obtain⟨v,n,l⟩:=r.own j po q;refine⟨v,n,?_⟩;have u:=l.mono (H':=H) mono d λ_ _ _ z=>z;have O:(λb=>S j b/\j≠i)=S j:=by funext b;simp[dj f]
   rw[O];exact u
 .obtain⟨⟨po,n⟩,l,u⟩:=r.foot j b h.1;refine⟨⟨po,by rw[cQ (dj h.2)];exact n⟩,λz=>?_,u⟩;rcases z with z|rfl
  .exact l z
  .exact h.2 (r.dist j i b h.1 ((D b).mpr rfl))
 .refine⟨λ_ h=>.inl h,λb o h _=>h,λb o h=>⟨o,h⟩,λb h=>?_,λb ⟨j,h⟩=>.inl ⟨j,h.1⟩⟩;rcases h with h|rfl
  .exact .inl h
  .exact .inr (.inr ⟨i,(D b).mpr rfl⟩)
def dM(i:Nat):ac PV:=λε=>match ε[i]? with
 |some (.own (.lst xs))=>.ok (.lst xs) (ε.set i (.val (.lst xs)))
 |_=>.no
def Jm(i:Nat)(l:X.N[i]?=aa x:=by rfl)(f:ee X.env.scope x:=by eq_refl)(j:ad x:=by decide)(q:az x:=by decide):DE X E (.Name x pos) (dM i):=λF S w v H Q r h=>by
 unfold dM at h;split at h
 .rename_i p e;obtain⟨a,u,s,d,g,o,n⟩:=r.frz e;exact cb (e_ l f j q) ⟨_,o,h u s H d g _ n⟩
 .exact h.elim
def P2(K:ax)(r:R2)(f:PV->PV->Option PV):Prop:=∀(F:af->Prop) (H:Hp) (x y:PV) (v u:V) (Q:VK) (pv:PV),aN K H F x v->aN K H F y u->f x y=aa pv->(∀w g d,Al F g H d->aN K d g pv w->Q w d)->r v u H Q
def d2(f:PV->PV->Option PV)(m db:ac PV):ac PV:=λε=>(m ε).bind λx ε1=>(db ε1).bind λy d=>aS (f x y) d
def zw(I:P2 X.K r f)(L:DE X E a m)(J:DE X E b db)(D:aL X.K F S l d H)(h:Ok X.K E d F S H (d2 f m db l) (λpv _ q _ i=>∀v,aN X.K i q pv v->Q v i)):gG X a d H λx p=>gG X b d p λy o=>r x y o Q:=by
 refine L F S l d H _ D ((Ok.bind h).imp λx j W P p s Y M v B=>?_);refine J W P j d p _ s ((Ok.bind M).imp λy z T O o G N g u C=>?_);cases e:f x y with
 |none=>rw[e]at g;exact g.elim
 |some pv=>rw[e]at g;exact I T o x y v u Q pv (B.grow N s.fit) C e λw q i al n=>g q O i (G.al al) al.grow w n
def cY(j:cg X (js d) r)(i:P2 X.K r f)(n:DE X E a m)(l:DE X E b db):DE X E (.BinOp a d b pos) (d2 f m db):=λF S p o H Q g h=>cb (K_ j bK bK) (zw i n l g h)
def nR(j:cg X (eF d) r)(i:P2 X.K r f)(o:DE X E a m)(n:DE X E b db)(l:qT d b=ak):DE X E (.Compare a [d] [b] pos) (d2 f m db):=λF S q p H Q g h=>cb (Sz j bK bK l) (zw i o n g h)
def oJ:PV->Option Bool
 |.bl b=>aa b
 |_=>ae
def dB(d:ac PV):ac Bool:=λε=>(d ε).bind λx ε1=>aS (oJ x) ε1
def IP{K:ax}{H:Hp}{F:af->Prop}{x:PV}{v:V}{k:Bool}(h:aN K H F x v)(e:oJ x=aa k):v=.bl k:=by
 cases x <;> simp[oJ]at e;subst e;exact h
def u8{Q:Bool->Hp->Prop}{d:ac PV}(h:Ok X.K E i F S H (dB d j) (λk _ _ _ g=>Q k g)):Ok X.K E i F S H (d j) (λpv _ s _ g=>∀v,aN X.K g s pv v->∃k,v=.bl k/\Q k g):=by
 refine(Ok.bind h).imp λx l r p q o u f v n=>?_;cases e:oJ x with
 |none=>rw[e]at f;exact f.elim
 |some k=>rw[e]at f;exact⟨k,IP n e,f r p q o (Grow.refl ..)⟩
def gF(j:cg X (eF d) r)(i:P2 X.K r f)(o:DE X E a m)(n:DE X E b db)(l:qT d b=ak):DT X E (.Compare a [d] [b] pos) (dB (d2 f m db)):=λF S s q H Q g h=>wl (Oz j bK bK l) (zw (Q:=λx p=>∃k,x=.bl k/\Q k p) i o n g (u8 h))
def pe(n:DE X E e d)(l:∀f,nX e X.env f=(do let v <-f;standAt e.pos;kb [v] (truthy v)):=by intro _;rfl):DT X E e (dB d):=λF S i g H Q j h=>wl (SN bK l) (n F S i g H _ j (u8 h))
def qm(f g:PV->PV->Option PV)(m db A:ac PV):ac PV:=λj=>(m j).bind λx i=>(db i).bind λy d=>(aS ((f x y).bind oJ) d).bind λk d=>
 match k with
 |true=>(A d).bind λz h=>aS (g y z) h
 |false=>.ok (.bl ak) d
def IC(hp:P2 X.K r f)(dw:P2 X.K P g)(ha:DE X E a m)(hb:DE X E b db)(hc:DE X E c A)(rl:aL X.K F S B j H)(h:Ok X.K E j F S H (qm f g m db A B) (λpv _ l _ i=>∀v,aN X.K i l pv v->Q v i)):A0 r P (gG X a) (gG X b) (gG X c) j H Q:=by
 refine ha F S B j H _ rl ((Ok.bind h).imp λx s F1 S1 H1 O g1 h1 v rv=>?_);refine hb F1 S1 s j H1 _ O ((Ok.bind h1).imp λy n W M T r2 g2 d u N=>?_);cases e:f x y with
 |none=>rw[e]at d;exact d.elim
 |some pv=>
  rw[e]at d;refine hp W T x y v u _ pv (rv.grow g2 O.fit) N e λw l i al D=>?_;cases L:oJ pv with
  |none=>rw[gz,L]at d;exact d.elim
  |some k=>
   rw[gz,L]at d;refine⟨k,IP D L,?_⟩;have I:=r2.al al;cases k with
   |false=>exact nz (Ok.from d al.grow l M i I (Grow.refl ..) _ rfl)
   |true=>
    have h3:Ok X.K E j W M T ((A n).bind λz q=>aS (g y z) q) (λpv _ l _ i=>∀v,aN X.K i l pv v->Q v i):=d;refine nL (hc l M n j i _ I ((Ok.bind (Ok.from h3 al.grow)).imp λz Y F4 S4 H4 r4 g4 p u4 G=>?_));cases J:g y z with
    |none=>rw[J]at p;exact p.elim
    |some pz=>rw[J]at p;exact dw F4 H4 y z u u4 Q pz ((al.rep N).grow g4 I.fit) G J λZ F5 H5 o C=>p F5 S4 H5 (r4.al o) o.grow Z C
def Uw(o:cg X (eF i) r)(v:cg X (eF d) j)(n:P2 X.K r f)(w:P2 X.K j g)(u:DE X E a m)(s:DE X E b db)(q:DE X E c A)(p:lastMarks [i,d] [b,c]=ak:=by with_unfolding_all rfl):DE X E (.Compare a [i,d] [b,c] pos) (qm f g m db A):=λF S y x H Q l h=>cb (Q_ o v bK bK bK p) (IC n w u s q l h)
def MT(o:cg X (eF i) r)(v:cg X (eF d) j)(n:P2 X.K r f)(w:P2 X.K j g)(u:DE X E a m)(s:DE X E b db)(q:DE X E c A)(p:lastMarks [i,d] [b,c]=ak:=by with_unfolding_all rfl):DT X E (.Compare a [i,d] [b,c] pos) (dB (qm f g m db A)):=λF S B z H Q l h=>wl (RJ o v bK bK bK p) (IC (Q:=λx y=>∃k,x=.bl k/\Q k y) n w u s q l (u8 h))
variable{n B:ac Bool}{rest:List aC}
def DW(X:Cx)(E:XK)(e:aC)(d:ac Bool):Prop:=∀F S g f H Q,aL X.K F S g f H->Ok X.K E f F S H (d g) (λb _ _ _ i=>Q b i)->∀(h:Sem ai) ag s,Inv X ag f H s->ar X.zz X.A (nX e X.env h) (TP X ag f Q) X.xe s
def NI(X:Cx)(e:aC):TT:=λd H Q=>∀(f:Sem ai) ag s,Inv X ag d H s->ar X.zz X.A (nX e X.env f) (TP X ag d Q) X.xe s
def IE:PW X e (NI X e):=λd f s _ _ _ I h=>h d f s I
def DW.dt(h:DW X E e d):DT X E e d:=λF S ε f H Q g q=>⟨λi s I=>h F S ε f H Q g q _ i s I⟩
def pW(n B:ac Bool):ac Bool:=λε=>(n ε).bind λk d=>match k with
 |true=>B d
 |false=>.ok ak d
def mn(n B:ac Bool):ac Bool:=λε=>(n ε).bind λk d=>match k with
 |true=>.ok ah d
 |false=>B d
def mq(n:ac Bool):ac Bool:=λf=>(n f).bind λk d=>.ok (!k) d
def LJ(h:DT X E a n):DW X E (.BoolOp .And [a] pos) n:=λF S f d H Q g q i j s I=>QY nH i j s d H Q I (h F S f d H Q g q)
def yj(h:DT X E a n):DW X E (.BoolOp .Or [a] pos) n:=λF S f d H Q g q i j s I=>Pj nH i j s d H Q I (h F S f d H Q g q)
def OT(u:DT X E a n)(r:DW X E (.BoolOp .And (b::rest) pos) B):DW X E (.BoolOp .And (a::b::rest) pos) (pW n B):=λF S o d H Q p q v w s I=>by
 refine O_ nH IE v w s d H Q I (u F S o d H _ p ((Ok.bind q).imp λk f l i j g x h=>?_));cases k with
 |true=>exact nL (r l i f d j Q g h)
 |false=>exact nz (h l i j g (Grow.refl ..))
def yo(u:DT X E a n)(r:DW X E (.BoolOp .Or (b::rest) pos) B):DW X E (.BoolOp .Or (a::b::rest) pos) (mn n B):=λF S o d H Q p q v w s I=>by
 refine Q9 nH IE v w s d H Q I (u F S o d H _ p ((Ok.bind q).imp λk f l i j g x h=>?_));cases k with
 |true=>exact nL (h l i j g (Grow.refl ..))
 |false=>exact nz (r l i f d j Q g h)
def p8(j:DT X E a n):DT X E (.UnaryOp .Not a pos) (mq n):=λF S g d H Q h q=>wl (Nm nH) (j F S g d H _ h ((Ok.bind q).imp λk f r o p i s l=>l r o p i (Grow.refl ..)))
def lz(m db:ac PV):ac PV:=λd=>(dB m d).bind λk ε1=>match k with
 |true=>db ε1
 |false=>.ok (.bl ak) ε1
def HB(m db:ac PV):ac PV:=λf=>(dB m f).bind λk d=>match k with
 |true=>.ok (.bl ah) d
 |false=>db d
def zv(m:ac PV):ac PV:=λf=>(dB m f).bind λk d=>.ok (.bl (!k)) d
def ID{d:ac PV}{q:Type}{D:q->aj->(af->Prop)->(Nat->af->Prop)->Hp->Prop}{k:Bool->aj->R q}{P:Bool->Hp->Prop}(h:Ok X.K E o F S H ((dB d p).bind k) D) (f:∀c g l j i,aL X.K l j g o i->Grow (U S) (U j) F l H i->Ok X.K E o l j i (k c g) D->P c i):Ok X.K E o F S H (d p) (λpv _ y _ r=>∀v,aN X.K r y pv v->∃c,v=.bl c/\P c r):=by have u:=(Ok.bind h).imp (C':=λc g l j i=>P c i) λc g l j i s x w=>f c g l j i s x w;exact u8 u
def sh{op}(h:DE X E a d):DE X E (.BoolOp op [a] pos) d:=λF S g f H Q i q=>cb (Ol bK) (h F S g f H Q i q)
def qB(s:DE X E a m)(r:DE X E (.BoolOp .And (b::rest) pos) db):DE X E (.BoolOp .And (a::b::rest) pos) (lz m db):=λF S o f H Q p q=>by
 refine cb (Lp bK bK) (s F S o f H _ p (ID q λk d l i j g u h=>?_));cases k with
 |true=>exact nL (r l i d f j Q g h)
 |false=>exact nz (h l i j g (Grow.refl ..) _ rfl)
def SI(j:DE X E a m):DE X E (.UnaryOp .Not a pos) (zv m):=λF S g d H Q h q=>cb (Tf bK) (j F S g d H _ h (ID q λk f r o p i s l=>l r o p i (Grow.refl ..) _ rfl))
def cO{d:Type}(t:ac Bool)(m db:ac d):ac d:=λε=>(t ε).bind λk ε1=>match k with
 |true=>m ε1
 |false=>db ε1
def B3(r:DT X E c n)(u:DE X E a m)(s:DE X E b db):DE X E (.IfExp c a b pos) (cO n m db):=λF S o f H Q p q=>by
 refine cb (Pd nH bK bK) (r F S o f H _ p ((Ok.bind q).imp λk d l i j g v h=>?_));cases k with
 |true=>exact nL (u l i d f j Q g h)
 |false=>exact nz (s l i d f j Q g h)
def P1(K:ax)(r:V->Hp->VK->Prop)(f:PV->Option PV):Prop:=∀(F:af->Prop) (H:Hp) (x:PV) (v:V) (Q:VK) (pv:PV),aN K H F x v->f x=aa pv->(∀w g d,Al F g H d->aN K d g pv w->Q w d)->r v H Q
def d1(f:PV->Option PV)(m:ac PV):ac PV:=λε=>(m ε).bind λx ε1=>aS (f x) ε1
def Ro(z:P1 X.K r f)(C:DE X E a m)(u:aL X.K F S j d H)(h:Ok X.K E d F S H (d1 f m j) (λpv _ p _ i=>∀v,aN X.K i p pv v->Q v i)):gG X a d H λx o=>r x o Q:=by
 refine C F S j d H _ u ((Ok.bind h).imp λx q G D o y I g v s=>?_);cases e:f x with
 |none=>rw[e]at g;exact g.elim
 |some pv=>rw[e]at g;exact z G o x v Q pv s e λw p i al l=>g p D i (y.al al) al.grow w l
def qt(j:zL X (unaryOp d) r)(i:P1 X.K r f)(l:DE X E a m):DE X E (.UnaryOp d a pos) (d1 f m):=λF S p o H Q g h=>cb (S7 j bK) (Ro i l g h)
end
def sq(X:Cx)(d:List aC):TA:=λb H Q=>Bx (∀a c s,Inv X c b H s->ar X.zz X.A (spliced (c8 a (aV d X.env))) (AP X c b Q) X.xe s)
def DA(X:Cx)(E:XK)(h:List aC)(d:ac (List PV)):Prop :=
 ∀F S c a H Q,aL X.K F S c a H->Ok X.K E a F S H (d c) (λb _ i _ g=>∀f,a6 X.K g i b f->Q f g)->sq X h a H Q
section
variable{X:Cx}{E:XK}{a b c e:aC}{es:List aC}{D d:ac PV}{j:ac (List PV)}{pos:Pos}
def jh:PA X es (sq X es):=λpos f s _ _ _ I h=>h.run pos f s I
def vq(h:PA X es t)(q:t f H Q):sq X es f H Q:=⟨λpos g s I=>h pos g s f H Q I q⟩
def aE:ac (List PV):=λε=>.ok [] ε
def ay(d:ac PV)(j:ac (List PV)):ac (List PV):=λε=>(d ε).bind λx ε1=>(j ε1).bind λxs f=>.ok (x::xs) f
def aY:DA X E [] aE:=λF S i g H Q f h=>vq jE (h F S H f (Grow.refl ..) _ rfl)
def PP(w:DE X E e d)(u:DA X E es j)(s:aV (e::es) X.env=(ak,a9 e X.env)::aV es X.env:=by rfl):DA X E (e::es) (ay d j):=λF S m g H Q p h=>by refine vq (je bK jh s) (w F S m g H _ p ((Ok.bind h).imp λx f M G J i N z v o=>?_));refine u M G f g J _ i ((Ok.bind z).imp λxs l L C I q A y n r=>?_);exact y L C I q (Grow.refl ..) _ ⟨v,n,rfl,o.grow A i.fit,r⟩
def aL.more{K:ax}{F N:af->Prop}{S:Nat->af->Prop}{n:aj}{m:St}{H:Hp}(r:aL K F S n m H)(p:∀b,N b->¬U S b/\∃o,H b=aa o):aL K (λb=>F b\/N b) S n m H:=by
 have mono:∀x v,aN K H F x v->aN K H (λb=>F b\/N b) x v:=aN.mono (λ_ h=>.inl h) (λ_ _ _ q=>q) (λ_ _ q _=>q);have f:∀x v,a6 K H F x v->a6 K H (λb=>F b\/N b) x v:=a6.mono (λ_ h=>.inl h) (λ_ _ _ q=>q) (λ_ _ q _=>q);refine⟨r.len,λb h=>h.elim (r.ex b) λz=>(p b z).2,λi pv e=>?_,λi s e=>?_,λi b h=>?_,r.dist⟩
 .obtain⟨v,l,g⟩:=r.val i pv e;exact⟨v,l,mono _ _ g⟩
 .obtain⟨v,l,g⟩:=r.own i s e;exact⟨v,l,g.mono mono f λ_ _ _ z=>z⟩
 .obtain⟨l,g,u⟩:=r.foot i b h;exact⟨l,λz=>z.elim g λw=>(p b w).1 ⟨i,h⟩,u⟩
def AZ:PO->Option PV
 |.lst xs=>aa (.lst xs)
 |_=>ae
def dF(d:ac PO):ac PV:=λε=>(d ε).bind λf ε1=>aS (AZ f) ε1
def DN.de{d:ac PO}(h:DN X E e d):DE X E e (dF d):=λF S ε r H Q v q=>by
 unfold dF at q;refine h F S ε r H Q v ?_;cases i:d ε with
 |no=>rw[i]at q;exact q.elim
 |er c s=>rw[i]at q;exact q
 |ok A ε1=>
  rw[i]at q;intro P l m x g a p G n;cases A with
  |dK f=>exact q.elim
  |lls O=>exact q.elim
  |dL O=>exact q.elim
  |ins C fs=>exact q.elim
  |dT f=>exact q.elim
  |dN f=>exact q.elim
  |inl C fs y xs=>exact q.elim
  |lst xs=>
   have M:∀b,p b->¬U l b/\∃o,m b=aa o:=λb z=>let ⟨_,_,x3,o,x4,_⟩:=n b z;⟨x3,o,x4⟩
   obtain⟨⟨u,J,I⟩,L⟩:=G;have N:Grow (U S) (U l) F (λb=>P b\/p b) H m:=⟨λb z=>.inl (g.fro b z),g.keep,g.there,λb z=>z.elim (g.fnew b) λw=>.inr (.inl (n b w).1),g.onew⟩
   exact q _ l m (x.more M) N _ ⟨a,u,rfl,.inl J,.inr ((L a).mpr rfl),a6.mono (λ_ z=>.inl z) (λ_ _ _ z=>z) (λ_ _ z _=>z) _ _ I⟩
def eh(xs:List PV):Option PV:=if xs.length<=1000 then aa (.tup xs)else ae
def cM(xs:List PV):Option PO:=if xs.length<=1000 then aa (.lst xs)else ae
def dL{g:Type}(f:List PV->Option g)(j:ac (List PV)):ac g:=λε=>(j ε).bind λxs ε1=>aS (f xs) ε1
def PL(K:ax)(r:List V->Hp->VK->Prop)(f:List PV->Option PV):Prop:=∀(F:af->Prop) (H:Hp) (xs:List PV) (h:List V) (Q:VK) (pv:PV),a6 K H F xs h->f xs=aa pv->(∀w i g,Al F i H g->aN K g i pv w->Q w g)->r h H Q
def lA(K:ax)(r:List V->Hp->VK->Prop)(f:List PV->Option PO):Prop:=∀(F:af->Prop) (H:Hp) (xs:List PV) (i:List V) (Q:VK) (l:PO),(∀a,F a->∃o,H a=aa o)->a6 K H F xs i->f xs=aa l ->
 (∀a h g m,Al F h H g->fq K g h l a m->(∀b,m b->H b=ae/\¬h b/\∃o,g b=aa o/\eA o)->Q (.ref a) g)->r i H Q
def Ci(z:PL X.K r f)(A:DA X E es j)(u:aL X.K F S m g H)(h:Ok X.K E g F S H (dL f j m) (λpv _ p _ l=>∀v,aN X.K l p pv v->Q v l)):sq X es g H λxs o=>r xs o Q:=by
 refine A F S m g H _ u ((Ok.bind h).imp λxs q G C o x I i s y=>?_);cases e:f xs with
 |none=>rw[e]at i;exact i.elim
 |some pv=>rw[e]at i;exact z G o xs s Q pv y e λw p l al n=>i p C l (x.al al) al.grow w n
def oQ{O i F l:af->Prop}{H f:Hp}(g:Grow O i F l H f){b:af}(h:f b=ae):H b=ae:=by
 cases q:H b with
 |none=>rfl
 |some o=>obtain⟨o',e⟩:=g.there b o q;lia
def vK(N:lA X.K r f)(O:DA X E es j)(J:aL X.K F S q l H)(h:Ok X.K E l F S H (dL f j q) (λu _ p Y g=>∀a n,fq X.K g p u a n->(∀b,n b->H b=ae/\¬p b/\¬U Y b/\∃o,g b=aa o/\eA o)->Q (.ref a) g)):sq X es l H λxs v=>r xs v Q:=by
 refine O F S q l H _ J ((Ok.bind h).imp λxs x Z W v s P m I M=>?_);cases e:f xs with
 |none=>rw[e]at m;exact m.elim
 |some u=>rw[e]at m;refine N Z v xs I Q u s.ex M e λa p g n al L T=>m p W g (s.al al) al.grow a n L λb z=>?_;obtain⟨G,C,o,A,y⟩:=T b z;refine⟨oQ P G,C,λ⟨i,w⟩=>?_,o,A,y⟩;obtain⟨_,_,o',w1,_⟩:=s.foot i b w;lia
def Bu(h:n<=1000):n<=bo:=kI (HW h)
def OH{K:ax}:PL K (λxs H Q=>xs.length<=bo/\∀p,H p=ae->Q (.ref p) (upd H p (.tup xs))) eh:=λF H xs h Q pv f e q=>by
 unfold eh at e;split at e
 .cases e;refine⟨by rw[f.len];exact Bu (by assumption),λp g=>q _ F _ (Al.new0 g) ⟨p,h,rfl,upd_same,(Al.new0 g).reps f⟩⟩
 .cases e
def vx{K:ax}{F:af->Prop}{H:Hp}{l:af}{xs:List PV}{f:List V}(h:H l=ae)(g:a6 K H F xs f):fq K (upd H l (.lst f)) F (.lst xs) l (λb=>b=l):=⟨⟨f,upd_same,(Al.new0 h).reps g⟩,λb=>kN⟩
def vJ{F:af->Prop}{H:Hp}{l:af}{o:HO}(h:H l=ae)(i:∀a,F a->∃o,H a=aa o)(g:eA o):∀b,b=l->H b=ae/\¬F b/\∃f,(upd H l o) b=aa f/\eA f:=λb z=>by subst z;exact⟨h,(λw=>by grind),o,upd_same,g⟩
def TK{K:ax}:lA K (λxs H Q=>xs.length<=bo/\∀p,H p=ae->Q (.ref p) (upd H p (.lst xs))) cM:=λF H xs i Q l h g e q=>by
 unfold cM at e;split at e
 .cases e;exact⟨by rw[g.len];exact Bu (by assumption),λp f=>q p F _ _ (Al.new0 f) (vx f g) (vJ f h trivial)⟩
 .cases e
def kU{x1}(h:DA X E es j):DE X E (.Tuple es x1 pos) (dL eh j):=λF S i g H Q f q=>cb (Nc jh) (Ci OH h f q)
def qb(h:DA X E es j):DN X E (.List es pos) (dL cM j):=λF S i g H Q f q=>cb (Ua jh) (vK TK h f q)
def j7(h:DA X E es j):DE X E (.List es pos) (dF (dL cM j)):=(qb h).de
variable{x:Str}{p:Pos}{m:String}{r:List V->Hp->VK->Prop}{f:List PV->Option PV}{A:List PV->Option PO}
def c_(v:eG X (.builtin m) r)(l:PL X.K r f)(o:X.mg x=ae)(i:fA x=aa (.builtin m))(w:DA X E (e::es) j)(s:Gl X x:=by rfl)(n:x≠"__name__":=by decide)(h:ad x:=by decide)(u:aV (e::es) X.env=(ak,a9 e X.env)::aV es X.env:=by rfl) (y:(c8 pos (aV es X.env)).any (·.1)=ak:=by rfl):DE X E (.Call (.Name x p) (e::es) [] pos) (dL f j):=λF S C z H Q g q=>cb (mH v s o i jh n h u y) (Ci l w g q)
def vi(v:eG X (.builtin m) r)(l:lA X.K r A)(o:X.mg x=ae)(i:fA x=aa (.builtin m))(w:DA X E (e::es) j)(s:Gl X x:=by rfl)(n:x≠"__name__":=by decide)(h:ad x:=by decide)(u:aV (e::es) X.env=(ak,a9 e X.env)::aV es X.env:=by rfl) (y:(c8 pos (aV es X.env)).any (·.1)=ak:=by rfl):DN X E (.Call (.Name x p) (e::es) [] pos) (dL A j):=λF S C z H Q g q=>cb (mH v s o i jh n h u y) (vK l w g q)
def tZ(v:eG X (.type T) r)(l:PL X.K r f)(o:X.mg x=ae)(i:fA x=aa (.type T))(w:DA X E (e::es) j)(s:Gl X x:=by rfl)(n:x≠"__name__":=by decide)(h:ad x:=by decide)(u:aV (e::es) X.env=(ak,a9 e X.env)::aV es X.env:=by rfl) (y:(c8 pos (aV es X.env)).any (·.1)=ak:=by rfl):DE X E (.Call (.Name x p) (e::es) [] pos) (dL f j):=λF S C z H Q g q=>cb (zk v s o i jh n h u y) (Ci l w g q)
def BC(v:eG X (.type T) r)(l:lA X.K r A)(o:X.mg x=ae)(i:fA x=aa (.type T))(w:DA X E (e::es) j)(s:Gl X x:=by rfl)(n:x≠"__name__":=by decide)(h:ad x:=by decide)(u:aV (e::es) X.env=(ak,a9 e X.env)::aV es X.env:=by rfl) (y:(c8 pos (aV es X.env)).any (·.1)=ak:=by rfl):DN X E (.Call (.Name x p) (e::es) [] pos) (dL A j):=λF S C z H Q g q=>cb (zk v s o i jh n h u y) (vK l w g q)
def eJ{r:R2}{f:PV->PV->Option PV}(l:nr X r)(n:P2 X.K r f)(q:DE X E a B)(o:DE X E b db)(i:BZ b:=by exact λ_ _=>rfl):DE X E (.Subscript a b pos) (d2 f B db):=λF S u s H Q g h=>cb (GN l bK bK i) (zw n q o g h)
def Ce(X:Cx)(e:Option aC):TO:=λg H Q=>Bx (∀h s,Inv X h g H s->ar X.zz X.A (evalPart e X.env) (λu l=>∃o i,Inv X h g i l/\n0 u o/\Q o i) X.xe s)
def Fc:L2.PO X o (Ce X o):=λg s _ _ _ I h=>h.run g s I
def Jd(h:L2.PO X o t)(q:t g H Q):Ce X o g H Q:=⟨λi s I=>h i s g H Q I q⟩
def DO(X:Cx)(E:XK)(e:Option aC)(d:ac (Option Int)):Prop:=∀F S h g H Q,aL X.K F S h g H->Ok X.K E g F S H (d h) (λo _ _ _ i=>Q o i)->Ce X e g H Q
def fo:ac (Option Int):=λε=>.ok ae ε
def ji:PV->Option Int
 |.int i=>aa i
 |_=>ae
def ef(d:ac PV):ac (Option Int):=λε=>(d ε).bind λx ε1=>aS ((ji x).map aa) ε1
def mB:DO X E ae fo:=λF S l i H Q g h=>Jd OR (h F S H g (Grow.refl ..))
def kT(w:DE X E e d):DO X E (aa e) (ef d):=λF S o l H Q s h=>by
 refine Jd (QT bK) (w F S o l H _ s ((Ok.bind h).imp λx n C y z u G g v q=>?_));cases x <;> first|exact(show False from g).elim|skip
 rename_i i;exact⟨i,q,g C y z u (Grow.refl ..)⟩
def eI{i:Type}(f:PV->Option Int->Option Int->Option i)(d:ac PV)(o n:ac (Option Int)):ac i:=λε=>(d ε).bind λx ε1=>(o ε1).bind λl h=>(n h).bind λu g=>aS (f x l u) g
def Hc(K:ax)(r:V->Option Int->Option Int->Hp->VK->Prop)(f:PV->Option Int->Option Int->Option PV):Prop:=∀(F:af->Prop) (H:Hp) (x:PV) (h i:Option Int) (v:V) (Q:VK) (pv:PV),aN K H F x v->f x h i=aa pv->(∀w l g,Al F l H g->aN K g l pv w->Q w g)->r v h i H Q
def lK{r:V->Option Int->Option Int->Hp->VK->Prop}{f:PV->Option Int->Option Int->Option PV}{C G:Option aC}{J I:ac (Option Int)}{W:Pos}(Z:nD X r)(hp:Hc X.K r f)(he:DE X E e d)(hl:DO X E C J)(Y:DO X E G I):DE X E (.Subscript e (.Slice C G ae W) pos) (eI f d J I):=λF S M i H Q O h=>by
 refine cb (P8 Z bK Fc Fc) (he F S M i H _ O ((Ok.bind h).imp λx o F1 S1 H1 z g1 h1 v N=>?_));refine hl F1 S1 o i H1 _ z ((Ok.bind h1).imp λl n F2 S2 H2 y g2 h2=>?_);refine Y F2 S2 n i H2 _ y ((Ok.bind h2).imp λu L F3 S3 H3 P g3 g=>?_);cases s:f x l u with
 |none=>rw[s]at g;exact g.elim
 |some pv=>rw[s]at g;exact hp F3 H3 x l u v Q pv ((N.grow g2 z.fit).grow g3 y.fit) s λw F' H' al q=>g F' S3 H' (P.al al) al.grow w q
end
inductive aM where
 |next|ret (s:Slot)|brk|cont
def o7(K:ax)(H:Hp)(F:af->Prop)(s:Slot)(v:V)(c:af->Prop):Prop:=match s with
 |.val pv=>aN K H F pv v/\∀b,¬c b
 |.own d=>∃a,v=.ref a/\fq K H F d a c
 |.none=>False
def iE(b:List Nat)(c a:St):Prop:=∀i∈b,a[i]?=c[i]?
def iE.refl(a:List Nat)(b:St):iE a b b:=λ_ _=>rfl
def iE.trans(a:iE c g f)(b:iE c f d):iE c g d:=λi h=>(b i h).trans (a i h)
def iE.set(h:i∉a):iE a b (b.set i x):=λj c=>by rw[cQ (by rintro rfl;exact h c)]
def wg(f:af->Prop)(c:Nat->af->Prop)(d:Hp)(a:af->Prop):Prop:=∀b,a b->¬f b/\¬U c b/\∃o,d b=aa o/\eA o
def gL(K:ax)(E:XK)(i:List Nat)(j:St)(F:af->Prop)(S:Nat->af->Prop)(H:Hp)(r:R aM)(D:j4):Prop:=match r with
 |.ok .next f=>∀g h a d,aL K g h f a d->Grow (U S) (U h) F g H d->iE i j a->D.nx a d
 |.ok .brk f=>∀g h a d,aL K g h f a d->Grow (U S) (U h) F g H d->iE i j a->D.bk a d
 |.ok .cont f=>∀g h a d,aL K g h f a d->Grow (U S) (U h) F g H d->iE i j a->D.ct a d
 |.ok (.ret s) f=>∀v g h a d l,aL K g h f a d->Grow (U S) (λb=>U h b\/l b) F g H d->iE i j a->o7 K d g s v l->wg g h d l->D.rt v d
 |.er c f=>∀x g h a d,aL K g h f a d->Grow (U S) (U h) F g H d->iE i j a->E c x d
 |.no=>False
def DS(X:Cx)(E:XK)(b:List Nat)(f:bf)(d:ac aM):Prop:=∀F S c a H D,aL X.K F S c a H->gL X.K E b a F S H (d c) D->wpS X f D a H
def gD(X:Cx)(E:XK)(b:List Nat)(f:List bf)(d:ac aM):Prop:=∀F S c a H D,aL X.K F S c a H->gL X.K E b a F S H (d c) D->oY X f D a H
section
variable{K:ax}{E:XK}{b:List Nat}{d i:St}{F m:af->Prop}{S j:Nat->af->Prop}{H l:Hp}{D:j4}
def gL.from(h:gL K E b d F S H r D)(g:Grow (U S) (U j) F m H l)(p:iE b d i):gL K E b i m j l r D:=by
 cases r with
 |no=>exact h
 |er c y=>exact λx w q a u n g' o=>h x w q a u n (g.trans g') (p.trans o)
 |ok f y=>
  cases f with
  |next=>exact λw q a u n g' o=>h w q a u n (g.trans g') (p.trans o)
  |brk=>exact λw q a u n g' o=>h w q a u n (g.trans g') (p.trans o)
  |cont=>exact λw q a u n g' o=>h w q a u n (g.trans g') (p.trans o)
  |ret s=>exact λv w q a u z n g' o=>h v w q a u z n (g.trans g') (p.trans o)
def gL.bindE{o:Type}{r:R o}{k:o->aj->R aM}(h:gL K E b d F S H (r.bind k) D):Ok K E d F S H r (λa f m j l=>gL K E b d m j l (k a f) D):=by
 cases r with
 |no=>exact h
 |er c g=>exact λx u q s p n=>h x u q d s p n (iE.refl _ _)
 |ok a g=>exact λu q s p n=>h.from n (iE.refl _ _)
end
section
variable{X:Cx}{E:XK}{pin:List Nat}{l:bf}{rest:List bf}{d d1 d2:ac aM}{e:aC}{pos:Pos}
def f9:ac aM:=λa=>.ok .next a
def j0:gD X E pin [] f9:=λF S c a H D b h=>Cy MP (h F S a H b (Grow.refl ..) (iE.refl _ _))
def aH(d1 d2:ac aM):ac aM:=λε=>match d1 ε with
 |.ok .next ε1=>d2 ε1
 |r=>r
def bp(q:DS X E pin l d1)(p:gD X E pin rest d2):gD X E pin (l::rest) (aH d1 d2):=λF S i j H D m h=>by
 refine Cy (LF Gk qF) (q F S i j H {D with nx:=oY X rest D} m ?_);unfold aH at h;split at h
 .rename_i b v;rw[v];exact λz x a y n u o=>p z x b a y D n (h.from u o)
 .rename_i r w;generalize d1 i=r1 at h w;cases r1 with
  |no=>exact h
  |er c g=>exact h
  |ok f g=>
   cases f with
   |next=>lia
   |brk=>exact h
   |cont=>exact h
   |ret s=>exact h
def bu(f:DS X E pin l d1):gD X E pin [l] d1:=λF S b a H D c h=>Cy (MJ Gk) (f F S b a H D c h)
def I_(f:aM):ac aM:=λa=>.ok f a
def IL(d:ac PV):ac aM:=λb=>(d b).bind λ_ a=>.ok .next a
def cB(d:ac PV):ac aM:=λε=>(d ε).bind λx ε1=>.ok (.ret (.val x)) ε1
def Grow.cup(g:Grow O c F i H f):Grow O (λb=>c b\/False) F i H f:=⟨g.fro,g.keep,g.there,g.fnew,λa h=>h.elim (g.onew a) iy⟩
def d7(j:DE X E e de):DS X E pin (.Return (aa e) pos) (cB de):=λF S c a H D g h=>fS (yu bK) (j F S c a H _ g (h.bindE.imp λx b p n o i q m v f=>m v p n a o (λ_=>False) i (Grow.refl ..).cup (iE.refl _ _) ⟨f,λ_ z=>z⟩ λ_ z=>z.elim))
def jV(d:ac PO):ac aM:=λε=>(d ε).bind λx ε1=>.ok (.ret (.own x)) ε1
def vC(u:DN X E e dn):DS X E pin (.Return (aa e) pos) (jV dn):=λF S j g H D p h=>by
 refine fS (yu bK) (u F S j g H _ p ?_);unfold jV at h;cases i:dn j with
 |no=>rw[i]at h;exact h.elim
 |er c o=>rw[i]at h;exact λx J B G r v=>h x J B g G r v (iE.refl _ _)
 |ok L n=>rw[i]at h;intro I A C q f a y s m;exact h _ I A g C y q ⟨f.fro,f.keep,f.there,f.fnew,λb z=>z.elim (f.onew b) λw=>.inr (m b w).1⟩ (iE.refl _ _) ⟨a,rfl,s⟩ λb z=>let ⟨_,x2,x3,x4⟩:=m b z;⟨x2,x3,x4⟩
def k8(i:Nat):ac aM:=λa=>match a[i]? with
 |some (.own b)=>.ok (.ret (.own b)) (a.set i .none)
 |_=>.no
def aL.drop{K:ax}{F:af->Prop}{S:Nat->af->Prop}{c:aj}{f:St}{H:Hp}(r:aL K F S c f H)(i:Nat):aL K F (λj b=>S j b/\j≠i) (c.set i .none) f H:=by
 have no:∀{j s},(c.set i .none)[j]?=aa s->s≠.none->j≠i/\c[j]?=aa s:=λ{j s} e p=>by
  grind
 refine⟨by rw[ge];exact r.len,r.ex,λj pv e=>r.val j pv (no e (by intro z;cases z)).2,λj po e=>?_,λj b h=>?_,λj k b m g=>r.dist j k b m.1 g.1⟩
 .obtain⟨q,e⟩:=no e (by intro z;cases z);obtain⟨a,m,g⟩:=r.own j po e;simp_all
 .obtain⟨⟨po,o⟩,n⟩:=r.foot j b h.1;exact⟨⟨po,by rw[cQ (dj h.2)];exact o⟩,n⟩
def y3(i:Nat)(s:X.N[i]?=aa x:=by rfl)(n:ee X.env.scope x:=by eq_refl)(r:ad x:=by decide)(v:az x:=by decide):DS X E pin (.Return (aa (.Name x p)) pos) (k8 i):=λF S y f H D c h=>by
 unfold k8 at h;split at h
 .rename_i g e;obtain⟨a,u,m⟩:=c.own i g e;refine fS (yu (e_ s n r v)) ⟨_,u,h _ F (λj b=>S j b/\j≠i) f H (S i) (c.drop i) ⟨λ_ z=>z,λ_ _ z _=>z,λ_ o z=>⟨o,z⟩,λ_ z=>.inl z,λb z=>?_⟩ (iE.refl _ _) ⟨a,rfl,m⟩ λb z=>?_⟩
  .rcases z with⟨j,z,_⟩|z
   .exact .inl ⟨j,z⟩
   .exact .inl ⟨i,z⟩
  .exact⟨(c.foot i b z).2.1,λ⟨j,w,q⟩=>q (c.dist j i b w z),(c.foot i b z).2.2⟩
 .exact h.elim
def aL.set{K:ax}{F:af->Prop}{S:Nat->af->Prop}{ε:aj}{f:St}{H:Hp}{i:Nat}{pv:PV}{v:V}(r:aL K F S ε f H)(h:aN K H F pv v):aL K F (λj b=>S j b/\j≠i) (ε.set i (.val pv)) (f.set i (aa v)) H:=by
 have n:=r.drop i;have len:(ε.set i (.val pv)).length=(f.set i (aa v)).length:=by rw[ge,ge];exact r.len
 refine⟨len,r.ex,λj p e=>?_,λj po e=>?_,λj b h=>?_,n.dist⟩
 .by_cases c:i=j
  .subst c;have q:i<ε.length:=by have:=(cP.mp e).1;rw[ge]at this;exact this
   rw[eE q]at e;cases e;exact⟨v,eE (by rw[<-r.len];exact q),h⟩
  .rw[cQ c]at e;obtain⟨w,m,g⟩:=r.val j p e;exact⟨w,by rw[cQ c];exact m,g⟩
 .have c:i≠j:=by
   grind
  rw[cQ c]at e;obtain⟨a,m,g⟩:=r.own j po e;have u:(λb=>S j b/\j≠i)=S j:=by funext b;simp[dj c]
  exact⟨a,by rw[cQ c];exact m,by rw[u];exact g⟩
 .obtain⟨⟨po,o⟩,s⟩:=n.foot j b h;refine⟨⟨po,?_⟩,s⟩;rw[cQ (dj h.2)]at o ⊢;exact o
def Grow.less(i:Nat):Grow (U S) (U λj b=>S j b/\j≠i) F F H H:=⟨λ_ z=>z,λ_ _ z _=>z,λ_ o z=>⟨o,z⟩,λ_ z=>.inl z,λb ⟨j,z⟩=>.inl ⟨j,z.1⟩⟩
def aL.setOwn{K:ax}{F:af->Prop}{S:Nat->af->Prop}{n:aj}{u:St}{H:Hp}{i:Nat}{x:PO}{a:af}{Sa:af->Prop}(r:aL K F S n u H)(o:i<n.length)(h:fq K H F x a Sa)(q:wg F S H Sa):aL K F (λj b=>(S j b/\j≠i)\/(j=i/\Sa b)) (n.set i (.own x)) (u.set i (aa (.ref a))) H:=by
 have y:=r.drop i;refine⟨by rw[ge,ge];exact r.len,r.ex,λj p e=>?_,λj g e=>?_,λj b h=>?_,λj k b f c=>?_⟩
 .have m:i≠j:=by rintro rfl;rw[eE o]at e;cases e
  rw[cQ m]at e;obtain⟨w,f,c⟩:=r.val j p e;exact⟨w,by rw[cQ m];exact f,c⟩
 .by_cases m:i=j
  .subst m;rw[eE o]at e;cases e;have s:(λb=>(S i b/\i≠i)\/(i=i/\Sa b))=Sa:=by funext b;simp
   exact⟨a,eE (by rw[<-r.len];exact o),by rw[s];exact h⟩
  .rw[cQ m]at e;obtain⟨A,f,c⟩:=r.own j g e;have s:(λb=>(S j b/\j≠i)\/(j=i/\Sa b))=S j:=by funext b;simp[dj m]
   exact⟨A,by rw[cQ m];exact f,by rw[s];exact c⟩
 .rcases h with h|⟨rfl,h⟩
  .obtain⟨⟨g,v⟩,z⟩:=y.foot j b h;refine⟨⟨g,?_⟩,z⟩;rw[cQ (dj h.2)]at v ⊢;exact v
  .obtain⟨D,C,B⟩:=q b h;simp_all
 .rcases f with f|⟨rfl,f⟩ <;> rcases c with c|⟨rfl,c⟩
  .exact r.dist j k b f.1 c.1
  .exact absurd ⟨j,f.1⟩ (q b c).2.1
  .exact absurd ⟨k,c.1⟩ (q b f).2.1
  .rfl
def bw(i:Nat)(d:ac PV):ac aM:=λε=>(d ε).bind λx ε1=>.ok .next (ε1.set i (.val x))
def et(i:Nat){x:Str}{p:Pos}(u:X.N.Nodup)(s:DE X E e de)(o:i∉pin:=by decide)(q:X.N[i]?=aa x:=by rfl)(m:Loc X.env.scope x:=by first|exact Or.inl rfl|exact Or.inr rfl)(n:jr e (aa (.Name x p)) pos.line X.env=pure ak:=by rfl)(r:av X x:=by mleft):DS X E pin (.Assign [.Name x p] e pos) (bw i de):=λF S c a H D g h=>fS (CY u q m bK n r) (s F S c a H _ g (h.bindE.imp λx b z B y j A w v f=>w z _ _ y (j.set f) (Grow.less i) (iE.set o)))
def cX(i:Nat)(d:ac PO):ac aM:=λε=>(d ε).bind λx ε1=>if i<ε1.length then .ok .next (ε1.set i (.own x))else .no
def kF(i:Nat){x:Str}{p:Pos}{dn:ac PO}(L:X.N.Nodup)(J:DN X E e dn)(C:i∉pin:=by decide)(G:X.N[i]?=aa x:=by rfl)(A:Loc X.env.scope x:=by first|exact Or.inl rfl|exact Or.inr rfl)(B:jr e (aa (.Name x p)) pos.line X.env=pure ak:=by rfl)(I:av X x:=by mleft):DS X E pin (.Assign [.Name x p] e pos) (cX i dn):=λF S q o H D u h=>by
 refine fS (CY L G A bK B I) (J F S q o H _ u ?_);unfold cX at h;cases n:dn q with
 |no=>rw[n]at h;exact h.elim
 |er c s=>rw[n]at h;exact λx T N P w M=>h x T N o P w M (iE.refl _ _)
 |ok W g=>
  rw[n]at h;simp only[R.bind_ok]at h;intro Q Z O v f a Y y r;by_cases m:i<g.length
  .rw[if_pos m]at h;refine h Q _ _ O (v.setOwn m y λb z=>(r b z).2) ⟨f.fro,f.keep,f.there,f.fnew,λb ⟨j,z⟩=>?_⟩ (iE.set C);rcases z with z|⟨_,z⟩
   .exact f.onew b ⟨j,z.1⟩
   .exact .inr (r b z).1
  .rw[if_neg m]at h;exact h.elim
def j6{c:aC}{a b:List bf}{t:ac Bool}(r:DT X E c t)(u:gD X E pin a d1)(s:gD X E pin b d2):DS X E pin (.If c a b pos) (cO t d1 d2):=λF S p g H D q h=>by
 refine fS (Ul nH qF qF) (r F S p g H _ q (h.bindE.imp λk f o m n i v j=>?_));cases k with
 |true=>exact nL (u o m f g n D i j)
 |false=>exact nz (s o m f g n D i j)
def dH(r:R aM):R aM:=match r with
 |.er _ _=>.no
 |r=>r
def kW(h:DS X.nox E0 pin l d):DS X E pin l (λa=>dH (d a)):=λF S a b H D i q=>Bx.mk λm s I=>by
 have q:gL X.K E pin b F S H (dH (d a)) D:=q;have j:gL X.K E0 pin b F S H (d a) D:=by
  cases e:d a with
  |no=>rw[e]at q;exact q
  |er c g=>rw[e]at q;exact q.elim
  |ok f g=>rw[e]at q;cases f <;> exact q
 exact fh ((h F S a b H D i j).run m s (I.wish _)) (λ_ _ z=>z.unwish) λ_ _ z=>z.elim
def lO(X:Cx)(f a:aC):TI:=λb H h=>Bx (∀c s,Inv X c b H s->ar X.zz X.A (a9 a X.env) (λv g=>ar X.zz X.A (nY v) (yi X c b f h) X.xe g) X.xe s)
def wu:PI X b a (lO X b a):=λc s _ _ _ I h=>h.run c s I
def N7(h:PI X f a t)(q:t b H c):lO X f a b H c:=⟨λg s I=>h g s b H c I q⟩
def DI(X:Cx)(E:XK)(q a:aC)(d:ac (List PV)):Prop:=∀F S m c H n,aL X.K F S m c H ->
 Ok X.K E c F S H (d m) (λg _ p r i=>∀J f o,a6 X.K i p g f->f.length<=bo->Walk J f o->(∀h j b,Grow (U r) (U h) p j i b->o b)->n J i)->lO X q a c H n
def ff(i:Nat)(db:ac aM):List PV->aj->R aM
 |[],ε=>.ok .next ε
 |x::xs,ε=>match db (ε.set i (.val x))with
  |.ok .next a=>ff i db xs a
  |.ok .cont a=>ff i db xs a
  |.ok .brk a=>.ok .next a
  |r=>r
def bZ(i:Nat)(a:ac (List PV))(db:ac aM):ac aM:=λε=>(a ε).bind λxs ε1=>ff i db xs ε1
def jb(i:Nat){x:Str}{p:Pos}{o:aC}{r:List bf}{di:ac (List PV)}{C:ac aM}(xx:wz X.zz X.A X.env X.xe)(hc:X.calm=ah)(hN:X.N.Nodup)(hi:DI X E (.Name x p) o di)(hb:gD X E pin r C)(hp:i∉pin:=by decide) (A:X.N[i]?=aa x:=by rfl) (P:Loc X.env.scope x:=by first|exact Or.inl rfl|exact Or.inr rfl) (hs:∀x,lT o X.env x=pure x:=by intro _;rfl)(hf:av X x:=by mleft):DS X E pin (.For (.Name x p) o r [] pos) (bZ i di C):=λF S ε σ H D rl h=>by
 refine fS (G9 xx hc wu (qN hN A P hf) qF hs) (hi F S ε σ H _ rl (h.bindE.imp λxs I F1 S1 H1 Z g1 h1 J vs RR Y hz hw keep=>?_));refine HP hw (λk a n=>∃u w m,aL X.K u w m a n/\Grow (U S1) (U w) F1 u H1 n/\gL X.K E pin a u w n (ff i C (xs.drop k) m) D) ⟨F1,S1,I,Z,Grow.refl ..,h1⟩ (λk a n _ ⟨u,w,m,_,g,_⟩=>keep w u n g) ?_ ?_
 .rintro k v a n hv ⟨u,w,m,N,B,q⟩;obtain⟨x,A,rx⟩:=Y.back hv;have hk:k<xs.length:=(cP.mp A).1;have ed:xs.drop k=x::xs.drop (k+1):=by rw[wU hk];congr 1;exact(cP.mp A).2
  rw[ed]at q;have L:=rx.grow B Z.fit;have r2:=N.set (i:=i) L;have Q:Grow (U w) (U λj b=>w j b/\j≠i) u u n n:=Grow.less i;show oY X r _ (a.set i (aa v)) n;refine hb u _ _ _ n _ r2 ?_;unfold ff at q;have q:=q.from Q (iE.set (x:=aa v) hp);cases e:C (m.set i (.val x))with
  |no=>rw[e]at q;exact q
  |er c y=>rw[e]at q;exact q
  |ok f y=>
   rw[e]at q;cases f with
   |next=>exact λW T G H3 M z O=>⟨W,T,y,M,(B.trans Q).trans z,q.from z O⟩
   |cont=>exact λW T G H3 M z O=>⟨W,T,y,M,(B.trans Q).trans z,q.from z O⟩
   |brk=>exact q
   |ret s=>exact q
 .rintro a n ⟨u,w,m,N,B,q⟩;have P:vs.length=xs.length:=Y.len;rw[P,Ae]at q;exact q u w a n N (Grow.refl ..) (iE.refl _ _)
def jk(t:ac Bool)(b:ac aM):Nat->aj->R aM
 |0,_=>.no
 |n+1,ε=>(t ε).bind λk ε1=>match k with
  |false=>.ok .next ε1
  |true=>match b ε1 with
   |.ok .next a=>jk t b n a
   |.ok .cont a=>jk t b n a
   |.ok .brk a=>.ok .next a
   |r=>r
def PF{c:aC}{n:List bf}{t:ac Bool}{j:ac aM}(P:aj->Nat)(Q:wz X.zz X.A X.env X.xe)(Y:DT X E c t)(Z:gD X E pin n j):DS X E pin (.While c n [] pos) (λv=>jk t j (P v) v):=λF S v σ H D T h=>by
 refine fS (TN Q nH qF) ⟨λm b u=>∃y x a,aL X.K y x a b u/\gL X.K E pin b y x u (jk t j m a) D,⟨P v,F,S,v,T,h⟩,?_⟩;rintro m i H1 ⟨F1,S1,A,W,q⟩;cases m with
 |zero=>exact q.elim
 |succ m=>
  refine Y F1 S1 A i H1 _ W (q.bindE.imp λk p N J L O g2 g=>?_);cases k with
  |false=>exact nz (g N J i L O (Grow.refl ..) (iE.refl _ _))
  |true=>
   refine nL ⟨λb u=>∃y x a,aL X.K y x a b u/\gL X.K E pin b y x u (jk t j m a) D,λb u w=>⟨m,Kc m,w⟩,Z N J p i L _ O ?_⟩;have g:gL X.K E pin i N J L (match j p with
    |.ok .next a=>jk t j m a
    |.ok .cont a=>jk t j m a
    |.ok .brk a=>.ok .next a
    |r=>r) D:=g
   cases e:j p with
   |no=>rw[e]at g;exact g
   |er c o=>rw[e]at g;exact g
   |ok f o=>
    rw[e]at g;cases f with
    |next=>exact λM I z H3 B G C=>⟨M,I,o,B,g.from G C⟩
    |cont=>exact λM I z H3 B G C=>⟨M,I,o,B,g.from G C⟩
    |brk=>exact g
    |ret s=>exact g
end
def zq(K:ax)(E:XK)(i:List V)(F:af->Prop)(S:Nat->af->Prop)(H:Hp)(r:R Slot)(Q:VK):Prop:=match r with
 |.ok s h=>∀v d f a g,aL K d f h (i.map aa) a->Grow (U S) (λb=>U f b\/g b) F d H a->o7 K a d s v g->wg d f a g->(∀b,g b->H b=ae)->Q v a
 |.er c h=>∀x d f a,aL K d f h (i.map aa) a->Grow (U S) (U f) F d H a->E c x a
 |.no=>False
def fY(K:ax)(g:ac Slot):Sp:=λa H Q E=>∃F S b,aL K F S b (a.map aa) H/\zq K E a F S H (g b) Q
structure qE(CX:gE)(P:aQ)(w:aJ)(K:ax)(mg:Str->Option ai)(base:aB)(x:Str)(k:Nat)(ps:List Str)(sp:Sp):Prop where
 ex:∃f fd,mg x=aa (.ref f)/\lD P w K mg base CX k f fd ps sp/\Binds K fd ps []/\qX K (.ref f)=ah
def back:aj->aj->Option aj
 |[],_=>aa []
 |.own _::a,.own c::b=>(back a b).map (.own c::·)
 |.own _::_,_=>ae
 |s::a,_::b=>(back a b).map (s::·)
 |_::_,[]=>ae
def yP:∀{a c b:aj},back a c=aa b->b.length=a.length/\∀(i:Nat) (s:Slot),b[i]?=aa s->(∃g f,a[i]?=aa (.own g)/\c[i]?=aa (.own f)/\s=.own f)\/(a[i]?=aa s/\∀g,s≠.own g)
 |[],_,b,h=>by cases h;exact⟨rfl,λi s e=>by simp at e⟩
 |.own g::a,.own f::c,b,h=>by
  unfold back at h;cases e:back a c with
  |none=>rw[e]at h;cases h
  |some r=>
   rw[e]at h;cases h;obtain⟨l,q⟩:=yP e;refine⟨by simp[l],λi s d=>?_⟩;cases i with
   |zero=>simp at d;subst d;exact .inl ⟨g,f,rfl,rfl,rfl⟩
   |succ i=>simpa using q i s (~~~d)
 |.own g::a,.none::c,b,h=>by cases h
 |.own g::a,.val _::c,b,h=>by cases h
 |.own g::a,[],b,h=>by cases h
 |.none::a,[],b,h=>by cases h
 |.val _::a,[],b,h=>by cases h
 |.none::a,x::c,b,h=>by
  have h:(back a c).map (Slot.none::·)=aa b:=by unfold back at h;lia
  cases e:back a c with
  |none=>rw[e]at h;cases h
  |some r=>
   rw[e]at h;cases h;obtain⟨l,q⟩:=yP e;refine⟨by simp[l],λi s d=>?_⟩;cases i with
   |zero=>simp at d;subst d;exact .inr ⟨rfl,λ_ z=>by cases z⟩
   |succ i=>simpa using q i s (~~~d)
 |.val pv::a,x::c,b,h=>by
  have h:(back a c).map (Slot.val pv::·)=aa b:=by unfold back at h;lia
  cases e:back a c with
  |none=>rw[e]at h;cases h
  |some r=>
   rw[e]at h;cases h;obtain⟨l,q⟩:=yP e;refine⟨by simp[l],λi s d=>?_⟩;cases i with
   |zero=>simp at d;subst d;exact .inr ⟨rfl,λ_ z=>by cases z⟩
   |succ i=>simpa using q i s (~~~d)
def bI(n:Nat)(d:ac aM):ac Slot:=λf=>match d (f++dW n .none)with
 |.ok (.ret r) a=>(aS (back f a) []).bind λb _=>.ok r b
 |.ok .next a=>(aS (back f a) []).bind λb _=>.ok (.val .non) b
 |.er c a=>(aS (back f a) []).bind λb _=>.er c b
 |_=>.no
section
variable{K:ax}{F x:af->Prop}{S o:Nat->af->Prop}{c l m:aj}{f:St}{H u:Hp}{d:List V}
def aL.start(r:aL K F S c (d.map aa) H)(n:Nat):aL K F S (c++dW n .none) (d.map aa++dW n ae) H:=by
 have w:c.length=(d.map aa).length:=r.len;have no:∀{j:Nat}{s:Slot},(c++dW n Slot.none)[j]?=aa s->s≠.none->c[j]?=aa s:=λ{j s} e y=>by
  grind
 have up:∀{j:Nat}{v:Option V},(d.map aa)[j]?=aa v->(d.map aa++dW n ae)[j]?=aa v:=λ{j v} e=>by rw[wC (cP.mp e).1];exact e
 refine⟨by simp[w],r.ex,λj pv e=>?_,λj a e=>?_,λj b h=>?_,r.dist⟩
 .obtain⟨v,i,g⟩:=r.val j pv (no e (by intro z;cases z));exact⟨v,up i,g⟩
 .obtain⟨v,i,g⟩:=r.own j a (no e (by intro z;cases z));exact⟨v,up i,g⟩
 .obtain⟨⟨a,q⟩,p⟩:=r.foot j b h;exact⟨⟨a,by rw[wC (cP.mp q).1];exact q⟩,p⟩
def Gm(h:fq K H F i a n)(j:gu i=ah):∀b,n b↔b=a:=by
 cases i with
 |lst xs=>exact h.2
 |dK g=>exact h.2
 |lls p=>cases j
 |dL p=>cases j
 |ins C fs=>exact h.2
 |dT g=>exact h.2
 |dN g=>exact h.2
 |inl C fs y xs=>cases j
def OU(h:fq K H F g a i):i a:=by
 cases g with
 |lst xs=>exact(h.2 a).mpr rfl
 |dK b=>exact(h.2 a).mpr rfl
 |lls j=>obtain⟨n,_,_,_,_,w⟩:=h;grind
 |dL j=>obtain⟨n,_,_,_,_,w⟩:=h;grind
 |ins C fs=>exact(h.2 a).mpr rfl
 |dT b=>exact(h.2 a).mpr rfl
 |dN b=>exact(h.2 a).mpr rfl
 |inl C fs y xs=>obtain⟨_,_,_,_,_,_,_,_,_,_,w⟩:=h;grind
def aL.back(C:aL K F S c (d.map aa) H)(r:aL K x o l f u)(g:Grow (U S) X F x H u)(p:iE D (d.map aa++dW n ae) f)(Q:∀(i:Nat) (s:PO),c[i]?=aa (.own s)->i∈D)(T:back c l=aa m):∃B,aL K x B m (d.map aa) u/\(∀b,U B b->U o b)/\((∀(i:Nat) (s:PO),c[i]?=aa (.own s)->gu s=ah)->∀b,U S b->U B b):=by
 obtain⟨L,E⟩:=yP T;have inj:∀(i:Nat) (s:PO),c[i]?=aa (.own s)->∃a,(d.map aa)[i]?=aa (aa (.ref a))/\f[i]?=aa (aa (.ref a))/\fq K H F s a (S i):=λi s e=>by obtain⟨a,y,A⟩:=C.own i s e;refine⟨a,y,?_,A⟩;rw[p i (Q i s e),wC (cP.mp y).1];exact y
 have bk:∀(i:Nat) (s:PO),c[i]?=aa (.own s)->∃w,m[i]?=aa (.own w)/\l[i]?=aa (.own w):=λi s e=>by
  have M:i<m.length:=by rw[L];exact(cP.mp e).1
  rcases E i m[i] (by simp[M])with⟨p1,p2,q1,q2,q3⟩|⟨q1,q2⟩
  .exact⟨p2,by rw[d9 M,q3],q2⟩
  .rw[e]at q1;exact absurd (f_ q1).symm (q2 s)
 refine⟨λi b=>o i b/\∃s,c[i]?=aa (.own s),⟨by rw[L];exact C.len,r.ex,λi pv e=>?_,λi s e=>?_,λi b h=>?_,λi j b y A=>r.dist i j b y.1 A.1⟩,λb ⟨i,h⟩=>⟨i,h.1⟩,λP b ⟨i,h⟩=>?_⟩
 .rcases E i _ e with⟨_,_,_,_,z⟩|⟨q1,_⟩
  .cases z
  .obtain⟨v,y,A⟩:=C.val i pv q1;exact⟨v,y,A.grow g C.fit⟩
 .rcases E i _ e with⟨p1,p2,q1,q2,q3⟩|⟨_,q2⟩
  .cases q3;obtain⟨a,y,A,O⟩:=inj i p1 q1;obtain⟨W,G,N⟩:=r.own i s q2;simp_all
  .exact absurd rfl (q2 s)
 .obtain⟨s,q⟩:=h.2;obtain⟨w,J,I⟩:=bk i s q;exact⟨⟨w,J⟩,(r.foot i b h.1).2⟩
 .obtain⟨⟨s,q⟩,_⟩:=C.foot i b h;obtain⟨a,y,A,O⟩:=inj i s q;obtain⟨w,J,I⟩:=bk i s q;obtain⟨W,G,N⟩:=r.own i w I;rw[A]at G;cases G;have e:b=a:=(Gm O (P i s q) b).mp h;exact⟨i,e ▸ OU N,s,q⟩
end
def zn{K:ax}{E:XK}{a:List V}{F:af->Prop}{S:Nat->af->Prop}{H:Hp}{r:R Slot}{Q:VK}(h:zq K E a F S H r Q):r≠.no:=λz=>by rw[z]at h;exact h
def Fu{K:ax}{g:ac Slot}{m:Nat}(d:∀a,g a≠.no->a.length=m):∀b H Q E,fY K g b H Q E->b.length=m:=λb H Q E ⟨F,S,a,c,ok⟩=>by
 have:=d a (zn ok);have f:=c.len
 grind
def Jg{s:List bf}{N T:List Str}{u:List V}{Q:VK}{n:Nat}{g:ac Slot}{d:ac aM}{A:List Nat}(hn:N.length=T.length+n)(bz:∀a,g a≠.no->a.length=T.length) (kQ:∀a,g a≠.no->∀(i:Nat) po,a[i]?=aa (.own po)->i∈A) (Z:∀a p m,g a=.ok p m->(∃pv,p=.val pv)\/∀(i:Nat) po,a[i]?=aa (.own po)->gu po=ah) (hg:∀a,g a≠.no->bI n d a=g a)(hb:gD X E A s d) (gT:fY X.K g u H Q E):oY X s {nx:=λ_ l=>Q .non l,rt:=Q} (L2.start N u) H:=by
 obtain⟨F,S,a,L,ok⟩:=gT;have hl:=bz a (zn ok);have h2:=L.len;rw[cK]at h2;have es:L2.start N u=u.map aa++dW n ae:=by
  unfold L2.start
  grind
 rw[es];refine hb F S _ _ H _ (L.start n) ?_;have Y:=kQ a (zn ok);have ma:=hg a (zn ok);have O:=Z a;rw[<-ma]at ok O;unfold bI at ok O;generalize d (a++dW n .none)=r at ok O ⊢;cases r with
 |no=>exact ok
 |er c h=>
  intro x q C j l D f G;have ok:zq X.K E u F S H ((aS (back a h) []).bind λm _=>.er c m) Q:=ok;cases e:back a h with
  |none=>rw[e]at ok;exact ok.elim
  |some m=>rw[e]at ok;obtain⟨B,y,o,_⟩:=L.back D f G Y e;exact ok x q B l y ⟨f.fro,f.keep,f.there,f.fnew,λb z=>f.onew b (o b z)⟩
 |ok fl h=>
  have I:∀(p:Slot),(∀m,back a h=aa m->(∃pv,p=.val pv)\/∀(i:Nat) po,a[i]?=aa (.own po)->gu po=ah)->zq X.K E u F S H ((aS (back a h) []).bind λm _=>.ok p m) Q->∀(v:V) q C j l J,aL X.K q C h j l->Grow (U S) (λb=>U C b\/J b) F q H l->iE A (u.map aa++dW n ae) j->o7 X.K l q p v J->wg q C l J->Q v l:=by
   intro p P ok v q C j l J D f G W M;cases e:back a h with
   |none=>rw[e]at ok;exact ok.elim
   |some m=>
    rw[e]at ok;obtain⟨B,y,o,up⟩:=L.back D f G Y e;refine ok v q B l J y ⟨f.fro,f.keep,f.there,f.fnew,λb z=>f.onew b (z.imp (o b) id)⟩ W (λb z=>⟨(M b z).1,λw=>(M b z).2.1 (o b w),(M b z).2.2⟩) λb z=>?_;rcases P m e with⟨pv,rfl⟩|hf
    .exact absurd z (W.2 b)
    rcases f.onew b (.inr z)with w|w
    .exact absurd (o b (up hf b w)) (M b z).2.1
    .exact w
  cases fl with
  |brk=>exact ok.elim
  |cont=>exact ok.elim
  |ret p=>exact I p (λm e=>O p m (by simp_all)) ok
  |next=>exact λq C j l D f G=>I (.val .non) (λ_ _=>.inl ⟨_,rfl⟩) ok .non q C j l (λ_=>False) D ⟨f.fro,f.keep,f.there,f.fnew,λb z=>z.elim (f.onew b) iy⟩ G ⟨rfl,λ_ z=>z⟩ λ_ z=>z.elim
def L6{f:af}{p:iw}{D:gE}{P:aQ}{w:aJ}{K:ax}{v:Str->Option ai}{j:aB}{x b:Str}{h:bf}{N l:List Str}{k n:Nat}{g:ac Slot}{d:ac aM}{m:List Nat}(Z:qf K x b h f p)(Y:cq N l (br h))(O:N.length=l.length+n)(hb:∀(kV o u:ai) (B:Option af) (C y:ai) (q:List ai),q.length=l.length->gy (iS x b (j3 h) (f8 h) (br h) .none kV o u B C y) ⟨q,[]⟩=pure (l.zip q))(z:∀c,g c≠.no->c.length=l.length) (J:∀c,g c≠.no->∀(i:Nat) po,c[i]?=aa (.own po)->i∈m) (F:∀c r X,g c=.ok r X->(∃pv,r=.val pv)\/∀(i:Nat) po,c[i]?=aa (.own po)->gu po=ah) (S:∀c,g c≠.no->bI n d c=g c)(L:∀(A:aX) (a:List Env) (s:ao) (H:Hp) (E:XK),fR k (A.deeper (jt b (br h) s.heap.objs.size f p.code))->gD (jc D P w K v j N b (br h) f p.code A a s H E) E m (f8 h) d):lD P w K v j D (k+1) f p l (fY K g):=by obtain⟨oc,od,kV,o,u,B,C,y,G,rfl,I,W⟩:=Z.ex;exact Lr I W Y (Fu z) λA a s H vs Q E M T=>⟨_,qF,Jg O z J F S (L A a s H E M) T⟩
def Hb{f:af}{u:iw}{B:gE}{P:aQ}{w:aJ}{K:ax}{y:Str->Option ai}{l:aB}{x b:Str}{j:bf}{N m:List Str}{k n:Nat}{g:ac Slot}{d:ac aM}{p:List Nat}(Q:qf K x b j f u)(O:cq N m (br j))(F:N.length=m.length+n)(I:∀(kV v C:ai) (M:Option af) (q J:ai) (r:List ai),r.length=m.length->gy (iS x b (j3 j) (f8 j) (br j) .none kV v C M q J) ⟨r,[]⟩=pure (m.zip r))(L:∀c,g c≠.no->c.length=m.length) (z:∀c,g c≠.no->∀(i:Nat) o,c[i]?=aa (.own o)->i∈p/\gu o=ah) (G:∀c,g c≠.no->bI n d c=g c)(D:∀(f:af) (q:ai) (A:aX) (a:List Env) (s:ao) (H:Hp) (E:XK),fR k (A.deeper (jt b (br j) s.heap.objs.size f q))->gD (jc B P w K y l N b (br j) f q A a s H E) E p (f8 j) d):lD P w K y l B (k+1) f u m (fY K g):=L6 Q O F I L (λc h i o e=>(z c h i o e).1) (λc S T h=>.inr λi o e=>(z c (by lia) i o e).2) G λA a s H E=>D f u.code A a s H E
def UV{v:gE}{P:aQ}{w:aJ}{K:ax}{p:Str->Option ai}{c:aB}{x:Str}{b:bf}{N j:List Str}{k n:Nat}{g:ac Slot}{d:ac aM}{l:List Nat}(D:cG K p x b)(O:cq N j (br b))(C:N.length=j.length+n)(u:∀(kV q y:ai) (M:Option af) (m J:ai) (o:List ai),o.length=j.length->gy (iS x x (j3 b) (f8 b) (br b) .none kV q y M m J) ⟨o,[]⟩=pure (j.zip o))(L:∀a,g a≠.no->a.length=j.length) (z:∀a,g a≠.no->∀(i:Nat) po,a[i]?=aa (.own po)->i∈l/\gu po=ah) (G:∀a,g a≠.no->bI n d a=g a)(B:∀(f:af) (m:ai) (A:aX) (h:List Env) (s:ao) (H:Hp) (E:XK),fR k (A.deeper (jt x (br b) s.heap.objs.size f m))->gD (jc v P w K p c N x (br b) f m A h s H E) E l (f8 b) d):qE v P w K p c x (k+1) j (fY K g):=by obtain⟨f,I,F,r⟩:=D.ex;exact⟨f,I,F,Hb r O C u L z G B,r.binds u,r.kp⟩
abbrev c9:=Sum PV Nat
def jW(K:ax)(b:St)(F:af->Prop)(H:Hp):List c9->List V->Prop
 |[],a=>a=[]
 |.inl pv::c,a=>∃v r,a=v::r/\aN K H F pv v/\jW K b F H c r
 |.inr i::c,a=>∃v r,a=v::r/\b[i]?=aa (aa v)/\jW K b F H c r
def DG(X:Cx)(E:XK)(g:List aC)(d:ac (List c9)):Prop :=
 ∀F S b a H Q,aL X.K F S b a H->Ok X.K E a F S H (d b) (λh _ i _ f=>∀c,jW X.K a i f h c->Q c f)->sq X g a H Q
section
variable{c:ac (List c9)}{f:Pos}
def bY:ac (List c9):=λε=>.ok [] ε
def gV(d:ac PV)(c:ac (List c9)):ac (List c9):=λε=>(d ε).bind λx ε1=>(c ε1).bind λxs a=>.ok (.inl x::xs) a
def gO(i:Nat)(c:ac (List c9)):ac (List c9):=λd=>match d[i]? with
 |some (.own _)=>(c d).bind λxs a=>.ok (.inr i::xs) a
 |_=>.no
def cc:DG X E [] bY:=λF S g d H Q a h=>vq jE (h F S H a (Grow.refl ..) _ rfl)
def MU(s:DE X E e de)(r:DG X E b c)(q:aV (e::b) X.env=(ak,a9 e X.env)::aV b X.env:=by rfl):DG X E (e::b) (gV de c):=λF S j d H Q n h=>by refine vq (je bK jh q) (s F S j d H _ n ((Ok.bind h).imp λx a G A C g I w v m=>?_));refine r G A a d C _ g ((Ok.bind w).imp λxs i D z B o y u l p=>?_);exact u D z B o (Grow.refl ..) _ ⟨v,l,rfl,m.grow y g.fit,p⟩
def i_(i:Nat)(v:DG X E b c)(y:X.N[i]?=aa x:=by rfl)(s:ee X.env.scope x:=by eq_refl)(w:ad x:=by decide)(A:az x:=by decide) (u:aV (.Name x p::b) X.env=(ak,a9 (.Name x p) X.env)::aV b X.env:=by rfl):DG X E (.Name x p::b) (gO i c):=λF S m j H Q d h=>by
 unfold gO at h;split at h
 .rename_i q e;obtain⟨a,g,_⟩:=d.own i q e;refine vq (je (e_ y s w A) jh u) ⟨_,g,v F S m j H _ d ((Ok.bind h).imp λxs l D B C o G z n r=>?_)⟩;exact z D B C o (Grow.refl ..) _ ⟨_,n,rfl,g,r⟩
 .exact h.elim
end
def eU(a:aj):List c9->Option aj
 |[]=>aa []
 |.inl pv::b=>(eU a b).map (.val pv::·)
 |.inr i::b=>match a[i]? with
  |some (.own c)=>(eU a b).map (.own c::·)
  |_=>ae
def i9:aj->List c9->aj->aj
 |a,.inl _::c,_::b=>i9 a c b
 |a,.inr i::c,s::b=>i9 (a.set i s) c b
 |a,_,_=>a
def cI:List c9->List Nat
 |[]=>[]
 |.inl _::as=>cI as
 |.inr i::as=>i::cI as
def GS:∀{as:List c9}{i:Nat},i∈cI as↔∃k:Nat,as[k]?=aa (.inr i)
 |[],i=>by simp[cI]
 |.inl _::as,i=>by
  unfold cI;rw[GS];constructor
  .rintro⟨k,h⟩;exact⟨k+1,~~~h⟩
  .rintro⟨k,h⟩;cases k with
   |zero=>simp at h
   |succ k=>exact⟨k,~~~h⟩
 |.inr j::as,i=>by
  unfold cI;rw[cC,GS];constructor
  .rintro(rfl|⟨k,h⟩)
   .exact⟨0,rfl⟩
   .exact⟨k+1,~~~h⟩
  .rintro⟨k,h⟩;cases k with
   |zero=>simp at h;exact .inl h.symm
   |succ k=>exact .inr ⟨k,~~~h⟩
def zc:∀{a:List c9}{c:aj},eU d a=aa c->c.length=a.length/\∀(k:Nat) (s:Slot),c[k]?=aa s->(∃pv,a[k]?=aa (.inl pv)/\s=.val pv)\/∃i f,a[k]?=aa (.inr i)/\d[i]?=aa (.own f)/\s=.own f
 |[],c,h=>by cases h;exact⟨rfl,λk s e=>by simp at e⟩
 |.inl pv::a,c,h=>by
  unfold eU at h;cases e:eU d a with
  |none=>rw[e]at h;cases h
  |some r=>
   rw[e]at h;cases h;obtain⟨l,q⟩:=zc e;refine⟨by simp[l],λk s b=>?_⟩;cases k with
   |zero=>simp at b;exact .inl ⟨pv,rfl,b.symm⟩
   |succ k=>simpa using q k s (~~~b)
 |.inr i::a,c,h=>by
  unfold eU at h;split at h
  .rename_i f g;cases e:eU d a with
   |none=>rw[e]at h;cases h
   |some r=>
    rw[e]at h;cases h;obtain⟨l,q⟩:=zc e;refine⟨by simp[l],λk s b=>?_⟩;cases k with
    |zero=>simp at b;exact .inr ⟨i,f,rfl,g,b.symm⟩
    |succ k=>simpa using q k s (~~~b)
  .cases h
def AY:∀(c:List c9) (a b:aj),(i9 a c b).length=a.length
 |[],a,b=>by cases b <;> rfl
 |.inl _::c,a,[]=>rfl
 |.inr _::c,a,[]=>rfl
 |.inl _::c,a,s::b=>AY c a b
 |.inr i::c,a,s::b=>by show(i9 (a.set i s) c b).length=_;rw[AY,ge]
def tP:∀(a:List c9) (b c:aj) (j:Nat),j∉cI a->(i9 b a c)[j]?=b[j]?
 |[],b,c,j,_=>by cases c <;> rfl
 |.inl _::a,b,[],j,_=>rfl
 |.inr _::a,b,[],j,_=>rfl
 |.inl _::a,b,s::c,j,h=>tP a b c j h
 |.inr i::a,b,s::c,j,h=>by
  have d:¬(j=i\/j∈cI a):=by simpa[cI]using h
  show(i9 (b.set i s) a c)[j]?=_;rw[tP a _ c j λz=>d (.inr z),cQ λz=>d (.inl z.symm)]
def uR:∀(a:List c9) (b c:aj) (j k:Nat) (s:Slot),(cI a).Nodup->j<b.length->a[k]?=aa (.inr j)->c[k]?=aa s->(i9 b a c)[j]?=aa s
 |[],b,c,j,k,s,_,_,h,_=>by simp at h
 |_::a,b,[],j,k,s,_,_,_,h=>by simp at h
 |.inl _::a,b,t::c,j,0,s,_,_,h,_=>by simp at h
 |.inl _::a,b,t::c,j,k+1,s,nd,hj,h,g=>uR a b c j k s nd hj (~~~h) (~~~g)
 |.inr i::a,b,t::c,j,0,s,nd,hj,h,g=>by simp at h g;subst h g;have d:i∉cI a:=(kL.mp nd).1;show(i9 (b.set i t) a c)[i]?=_;rw[tP a _ c i d,eE hj]
 |.inr i::a,b,t::c,j,k+1,s,nd,hj,h,g=>uR a (b.set i t) c j k s (kL.mp nd).2 (by rw[ge];exact hj) (~~~h) (~~~g)
def jW.len{K:ax}{c:St}{F:af->Prop}{H:Hp}:∀{a:List c9}{b:List V},jW K c F H a b->b.length=a.length
 |[],_,h=>by rw[show _=[] from h];rfl
 |.inl _::a,_,⟨v,r,e,_,h⟩=>by rw[e,gR,gR,jW.len h]
 |.inr _::a,_,⟨v,r,e,_,h⟩=>by rw[e,gR,gR,jW.len h]
def jW.val{K:ax}{d:St}{F:af->Prop}{H:Hp}:∀{as:List c9}{c:List V}{k:Nat}{pv:PV},jW K d F H as c->as[k]?=aa (.inl pv)->∃v,c[k]?=aa v/\aN K H F pv v
 |[],_,k,_,_,e=>by simp at e
 |.inl x::as,_,0,pv,⟨v,r,e,h,_⟩,q=>by simp at q;subst q e;exact⟨v,rfl,h⟩
 |.inr _::as,_,0,pv,_,q=>by simp at q
 |.inl x::as,_,k+1,pv,⟨v,r,e,_,h⟩,q=>by obtain⟨w,a,b⟩:=jW.val (k:=k) h (~~~q);subst e;exact⟨w,~~~a,b⟩
 |.inr x::as,_,k+1,pv,⟨v,r,e,_,h⟩,q=>by obtain⟨w,a,b⟩:=jW.val (k:=k) h (~~~q);subst e;exact⟨w,~~~a,b⟩
def jW.own{K:ax}{c:St}{F:af->Prop}{H:Hp}:∀{as:List c9}{d:List V}{k i:Nat},jW K c F H as d->as[k]?=aa (.inr i)->∃v,d[k]?=aa v/\c[i]?=aa (aa v)
 |[],_,k,_,_,e=>by simp at e
 |.inr x::as,_,0,pv,⟨v,r,e,h,_⟩,q=>by simp at q;subst q e;exact⟨v,rfl,h⟩
 |.inl _::as,_,0,pv,_,q=>by simp at q
 |.inl x::as,_,k+1,pv,⟨v,r,e,_,h⟩,q=>by obtain⟨w,a,b⟩:=jW.own (k:=k) h (~~~q);subst e;exact⟨w,~~~a,b⟩
 |.inr x::as,_,k+1,pv,⟨v,r,e,_,h⟩,q=>by obtain⟨w,a,b⟩:=jW.own (k:=k) h (~~~q);subst e;exact⟨w,~~~a,b⟩
section
variable{K:ax}{F A:af->Prop}{S m:Nat->af->Prop}{c s f:aj}{u:St}{H y:Hp}{as:List c9}{d:List V}
def lF(as:List c9)(S:Nat->af->Prop)(k:Nat)(b:af):Prop:=∃i,as[k]?=aa (.inr i)/\S i b
def yS(b:af)(h:U (lF as S) b):U S b:=let ⟨_,i,_,h⟩:=h;⟨i,h⟩
def zJ:∀{as:List c9}{i k l:Nat},(cI as).Nodup->as[k]?=aa (.inr i)->as[l]?=aa (.inr i)->k=l
 |[],_,_,_,_,h,_=>by simp at h
 |.inl _::as,i,0,_,_,h,_=>by simp at h
 |.inl _::as,i,_,0,_,_,h=>by simp at h
 |.inl _::as,i,k+1,l+1,nd,h1,h2=>by rw[zJ (as:=as) (i:=i) (k:=k) (l:=l) nd (~~~h1) (~~~h2)]
 |.inr j::as,i,0,0,_,_,_=>rfl
 |.inr j::as,i,0,l+1,nd,h1,h2=>by simp at h1;subst h1;exact absurd (GS.mpr ⟨l,~~~h2⟩) (kL.mp nd).1
 |.inr j::as,i,k+1,0,nd,h1,h2=>by simp at h2;subst h2;exact absurd (GS.mpr ⟨k,~~~h1⟩) (kL.mp nd).1
 |.inr j::as,i,k+1,l+1,nd,h1,h2=>by rw[zJ (as:=as) (i:=i) (k:=k) (l:=l) (kL.mp nd).2 (~~~h1) (~~~h2)]
def aL.cal(r:aL K F S c u H)(C:jW K u F H as d)(J:eU c as=aa s)(I:(cI as).Nodup):aL K F (lF as S) s (d.map aa) H:=by
 obtain⟨E,B⟩:=zc J;have up:∀{k:Nat}{v:V},d[k]?=aa v->(d.map aa)[k]?=aa (aa v):=λ{k v} e=>by rw[d8,e];rfl
 refine⟨by rw[E,cK,C.len],r.ex,λk pv e=>?_,λk D e=>?_,λk b h=>?_,λk l b n x=>?_⟩
 .rcases B k _ e with⟨p,q1,g⟩|⟨_,_,_,_,z⟩
  .cases g;obtain⟨v,w,o⟩:=C.val q1;exact⟨v,up w,o⟩
  .cases z
 .rcases B k _ e with⟨_,_,z⟩|⟨i,p,q1,g,q3⟩
  .cases z
  .cases q3;obtain⟨v,w,o⟩:=C.own q1;obtain⟨a,b1,b2⟩:=r.own i D g;rw[o]at b1;cases b1;have L:lF as S k=S i:=by funext b;exact propext ⟨λ⟨j,n,x⟩=>by lia,λh=>⟨i,q1,h⟩⟩
   exact⟨a,up w,by rw[L];exact b2⟩
 .obtain⟨i,n,x⟩:=h;obtain⟨⟨D,q⟩,g⟩:=r.foot i b x;have G:k<s.length:=by rw[E];exact(cP.mp n).1
  refine⟨?_,g⟩;rcases B k s[k] (by simp[G])with⟨_,z,_⟩|⟨j,p,z1,z2,z3⟩
  .rw[n]at z;cases z
  .exact⟨p,by rw[d9 G,z3]⟩
 .obtain⟨i,w,o⟩:=n;obtain⟨j,b1,b2⟩:=x;have:=r.dist i j b o b2;subst this;exact zJ I w b1
def aL.called{O':af->Prop}(r:aL K F S c u H)(ha:jW K u F H as d)(hs:eU c as=aa s)(P:(cI as).Nodup)(O:aL K A m f (d.map aa) y)(g:Grow (U (lF as S)) O' F A H y)(hO:∀b,U m b->O' b)(M:∀(k:Nat) i,as[k]?=aa (.inr i)->∃D,f[k]?=aa (.own D)):∃X,aL K A X (i9 c as f) u y/\Grow (U S) (U X) F A H y/\∀b,U X b->U m b\/U S b:=by
 have up:∀{k:Nat}{v:V},(d.map aa)[k]?=aa (aa v)->d[k]?=aa v:=λ{k v} e=>by
  rw[d8]at e;cases q:d[k]? with
  |none=>rw[q]at e;cases e
  |some x=>rw[q]at e;cases e;rfl
 have fit:Fit (U (lF as S)) F H:=λb h=>r.fit b (yS b h);have L:∀i D,c[i]?=aa (.own D)->i<c.length:=λi D e=>(cP.mp e).1;have lt:∀(k:Nat) i,as[k]?=aa (.inr i)->i<c.length:=λk i e=>by
  obtain⟨hl,hg⟩:=zc hs;have E:k<s.length:=by rw[hl];exact(cP.mp e).1
  rcases hg k s[k] (by simp[E])with⟨_,z,_⟩|⟨j,p,z1,z2,z3⟩
  .rw[e]at z;cases z
  .rw[e]at z1;cases z1;exact L _ _ z2
 refine⟨λj b=>(∃k:Nat,as[k]?=aa (.inr j)/\m k b)\/(j∉cI as/\S j b),⟨by rw[AY];exact r.len,O.ex,λj pv e=>?_,λj D e=>?_,λj b h=>?_,λi j b B C=>?_⟩,⟨g.fro,λb o e n=>g.keep b o e λz=>n (yS b z),g.there,λa z=>(g.fnew a z).imp id λw=>w.imp id (yS a),λb ⟨j,z⟩=>?_⟩,λb ⟨j,z⟩=>?_⟩
 .by_cases I:j∈cI as
  .obtain⟨k,E⟩:=GS.mp I;obtain⟨D,q⟩:=M k j E;rw[uR as c f j k _ P (lt k j E) E q]at e;cases e
  .rw[tP as c f j I]at e;obtain⟨v,B,C⟩:=r.val j pv e;exact⟨v,B,C.grow g fit⟩
 .by_cases I:j∈cI as
  .obtain⟨k,E⟩:=GS.mp I;obtain⟨po',q⟩:=M k j E;rw[uR as c f j k _ P (lt k j E) E q]at e;cases e;obtain⟨a,B,C⟩:=O.own k D q;obtain⟨v,W,T⟩:=ha.own E;rw[up B]at W;cases W;have Q:(λb=>(∃k:Nat,as[k]?=aa (.inr j)/\m k b)\/(j∉cI as/\S j b))=m k:=by
    funext b;refine propext ⟨λz=>?_,λz=>.inl ⟨k,E,z⟩⟩;rcases z with⟨l,z1,z2⟩|⟨z,_⟩
    .rw[zJ P E z1];exact z2
    lia
   exact⟨a,T,by rw[Q];exact C⟩
  .rw[tP as c f j I]at e;obtain⟨a,B,C⟩:=r.own j D e;have Q:(λb=>(∃k:Nat,as[k]?=aa (.inr j)/\m k b)\/(j∉cI as/\S j b))=S j:=by
    funext b;refine propext ⟨λz=>?_,λz=>.inr ⟨I,z⟩⟩;rcases z with⟨l,z1,z2⟩|⟨_,z⟩
    .exact absurd (GS.mpr ⟨l,z1⟩) I
    .exact z
   have h3:fq K y A D a (S j):=by refine C.mono (λ_ _ q=>q.grow g fit) (λ_ _ q=>q.grow g fit) λb o z q=>g.keep b o q λ⟨l,i,N,J⟩=>?_;have:=r.dist i j b J z;subst this;exact I (GS.mpr ⟨l,N⟩)
   exact⟨a,B,by rw[Q];exact h3⟩
 .rcases h with⟨k,B,C⟩|⟨B,C⟩
  .obtain⟨⟨D,q⟩,q2⟩:=O.foot k b C;exact⟨⟨D,uR as c f j k _ P (lt k j B) B q⟩,q2⟩
  .obtain⟨⟨D,q⟩,q2,o,Z,q4⟩:=r.foot j b C;have no:¬U (lF as S) b:=λ⟨l,i,N,J⟩=>by have:=r.dist i j b J C;subst this;exact B (GS.mpr ⟨l,N⟩)
   refine⟨⟨D,by rw[tP as c f j B];exact q⟩,λz=>?_,o,g.keep b o Z no,q4⟩;rcases g.fnew b z with w|w|w
   all_goals lia
 .have G:∀{i j:Nat}{b:af},(∃k:Nat,as[k]?=aa (.inr i)/\m k b)->(j∉cI as/\S j b)->False:=λ{i j b} ⟨k,N,J⟩ ⟨w3,Y⟩=>by
   obtain⟨_,_,o,Z,_⟩:=r.foot j b Y;rcases g.onew b (hO b ⟨k,J⟩)with⟨l,i',z1,z2⟩|z
   .have:=r.dist i' j b z2 Y;subst this;exact w3 (GS.mpr ⟨l,z1⟩)
   lia
  rcases B with B|B <;> rcases C with C|C
  .obtain⟨k,W,T⟩:=B;obtain⟨l,b1,b2⟩:=C;have:=O.dist k l b T b2;lia
  .exact(G B C).elim
  .exact(G C B).elim
  .exact r.dist i j b B.2 C.2
 .rcases z with⟨k,_,z⟩|⟨_,z⟩
  .rcases g.onew b (hO b ⟨k,z⟩)with w|w
   .exact .inl (yS b w)
   .exact .inr w
  .exact .inl ⟨j,z⟩
 .rcases z with⟨k,_,z⟩|⟨_,z⟩
  .exact .inl ⟨k,z⟩
  .exact .inr ⟨j,z⟩
end
def DR(X:Cx)(E:XK)(e:aC)(d:ac Slot):Prop :=
 ∀F S f a H Q,aL X.K F S f a H->Ok X.K E a F S H (d f) (λs _ h i c=>∀v g,o7 X.K c h s v g->(∀b,g b->H b=ae/\¬h b/\¬U i b/\∃o,c b=aa o/\eA o)->Q v c)->gG X e a H Q
def fX:List c9->aj->Bool
 |[],_=>ah
 |.inl _::as,_::ss=>fX as ss
 |.inr _::as,.own _::ss=>fX as ss
 |_,_=>ak
def nG:∀{as:List c9}{ss:aj},fX as ss=ah->∀(k:Nat) i,as[k]?=aa (.inr i)->∃a,ss[k]?=aa (.own a)
 |[],_,_,k,i,h=>by simp at h
 |.inl _::as,s::ss,q,0,i,h=>by simp at h
 |.inl _::as,s::ss,q,k+1,i,h=>by simpa using nG (as:=as) (ss:=ss) (by unfold fX at q;exact q) k i (~~~h)
 |.inr _::as,.own a::ss,q,0,i,h=>⟨a,rfl⟩
 |.inr _::as,.own a::ss,q,k+1,i,h=>by simpa using nG (as:=as) (ss:=ss) (by unfold fX at q;exact q) k i (~~~h)
 |.inr _::as,.val _::ss,q,k,i,h=>by cases q
 |.inr _::as,.none::ss,q,k,i,h=>by cases q
 |.inl _::as,[],q,k,i,h=>by cases q
 |.inr _::as,[],q,k,i,h=>by cases q
def fP{f:Type}(d:aj)(b:List c9)(r:R f):R f:=match r with
 |.ok s a=>if fX b a then .ok s (i9 d b a)else .no
 |.er c a=>if fX b a then .er c (i9 d b a)else .no
 |.no=>.no
def bg(g:ac Slot)(c:ac (List c9)):ac Slot:=λε=>(c ε).bind λa ε1=>(aS (if(cI a).Nodup then eU ε1 a else ae) ε1).bind λb ε1=>fP ε1 a (g b)
section
variable{X:Cx}{E:XK}{es:List aC}{pos:Pos}{g:ac Slot}{d:ac Slot}
def Ie{K:ax}{F0 r:af->Prop}{S0 C:Nat->af->Prop}{a:aj}{G:St}{H n:Hp}{c:List c9}{Y:List V}{Q:VK}(A:aL K r C a G n)(g1:Grow (U S0) (U C) F0 r H n)(P:jW K G r n c Y)(q:Ok K E G r C n ((aS (if(cI c).Nodup then eU a c else ae) a).bind λD a=>fP a c (g D)) λs _ u W h=>∀v F,o7 K h u s v F->(∀b,F b->H b=ae/\¬u b/\¬U W b/\∃o,h b=aa o/\eA o)->Q v h):fY K g Y n Q E:=by
 have q:=Ok.bind q;by_cases B:(cI c).Nodup
 .rw[if_pos B]at q;cases es:eU a c with
  |none=>rw[es]at q;exact q.elim
  |some D=>
   rw[es]at q;have q:=q r C n A (Grow.refl ..);dsimp only at q;refine⟨r,lF c C,D,A.cal P es B,?_⟩;cases O:g D with
   |no=>rw[O]at q;exact q.elim
   |er cv S=>
    rw[O]at q;intro y u W h J N;unfold fP at q;dsimp only at q;by_cases f:fX c S=ah
    .rw[if_pos f]at q;obtain⟨T,I,M,_⟩:=A.called P es B J N (λ_ z=>z) (nG f);exact q y u T h I M
    .rw[if_neg f]at q;exact q.elim
   |ok s S=>
    rw[O]at q;intro v u W h F J N rv L fr;unfold fP at q;dsimp only at q;by_cases f:fX c S=ah
    .rw[if_pos f]at q;obtain⟨T,I,M,Z⟩:=A.called P es B J N (λ_ z=>.inl z) (nG f);refine q u T h I M v F rv λb z=>⟨oQ g1 (fr b z),(L b z).1,λw=>?_,(L b z).2.2⟩
     rcases Z b w with w|⟨i,w⟩
     .exact(L b z).2.1 w
     .obtain⟨_,_,o,y1,_⟩:=A.foot i b w
      grind
    .rw[if_neg f]at q;exact q.elim
 .rw[if_neg B]at q;exact q.elim
def TH(c:qE l X.prog X.w X.K X.mg X.base x k m (fY X.K g))(s:fR k X.A)(r:s_ l X E)(A:DG X E (e::es) j)(w:Gl X x:=by rfl)(y:ad x:=by decide) (C:aV (e::es) X.env=(ak,a9 e X.env)::aV es X.env:=by rfl) (B:(c8 pos (aV es X.env)).any (·.1)=ak:=by rfl):DR X E (.Call (.Name x p) (e::es) [] pos) (bg g j):=λF S i a H Q n h=>by obtain⟨f,L,u,I,z,v⟩:=c.ex;refine cb (NK I s w u v z .nil r jh y C B) (A F S i a H _ n ((Ok.bind h).imp λM b P N O o D q J G=>?_));rw[ix];exact Ie o D G q
def zy:Slot->Option PV
 |.val pv=>aa pv
 |.own (.lst xs)=>aa (.lst xs)
 |_=>ae
def bA(d:ac Slot):ac PV:=λε=>(d ε).bind λs ε1=>aS (zy s) ε1
def zb:Slot->Option PO
 |.own a=>aa a
 |_=>ae
def kB(d:ac Slot):ac PO:=λε=>(d ε).bind λs a=>aS (zb s) a
def DR.dn(h:DR X E e d):DN X E e (kB d):=λF S f i H Q u q=>by
 unfold kB at q;refine h F S f i H Q u ?_;cases b:d f with
 |no=>rw[b]at q;exact q.elim
 |er c o=>rw[b]at q;exact q
 |ok s n=>
  rw[b]at q;cases s with
  |none=>exact q.elim
  |val pv=>exact q.elim
  |own I=>intro G C D w z v B r A;obtain⟨a,rfl,y⟩:=r;exact q G C D w z a B y A
def DR.de(h:DR X E e d):DE X E e (bA d):=λF S ε f H Q i q=>by
 unfold bA at q;cases b:d ε with
 |no=>rw[b]at q;exact q.elim
 |er c n=>refine h F S ε f H Q i ?_;rw[b]at q ⊢;exact q
 |ok s ε1=>
  cases s with
  |none=>rw[b]at q;exact q.elim
  |val pv=>refine h F S ε f H Q i ?_;rw[b]at q ⊢;exact λD A B r w v I o G=>q D A B r w v o.1
  |own u=>
   refine h.dn.de F S ε f H Q i ?_;unfold dF kB;rw[b]at q ⊢;cases u with
   |lst xs=>exact q
   |dK a=>exact q
   |lls z=>exact q
   |dL z=>exact q
   |ins C fs=>exact q
   |dT a=>exact q
   |dN a=>exact q
   |inl C fs y xs=>exact q
def pV(d:ac Slot):ac aM:=λb=>(d b).bind λs a=>.ok (.ret s) a
def AE(C:DR X E e d):DS X E pin (.Return (aa e) pos) (pV d):=λF S n f H D y h=>by
 refine fS (yu bK) (C F S n f H _ y ?_);unfold pV at h;cases i:d n with
 |no=>rw[i]at h;exact h.elim
 |er c r=>rw[i]at h;exact λx P L N B G=>h x P L f N B G (iE.refl _ _)
 |ok s q=>rw[i]at h;intro O J M A a v I u o;exact h v O J f M I A ⟨a.fro,a.keep,a.there,a.fnew,λb z=>z.elim (a.onew b) λw=>.inr (o b w).1⟩ (iE.refl _ _) u λb z=>(o b z).2
def wq(d:ac Slot):ac aM:=λb=>(d b).bind λ_ a=>.ok .next a
def E5(o:DR X E e d)(n:jr e ae pos.line X.env=pure ak:=by rfl):DS X E pin (.Expr e pos) (wq d):=λF S c a H D f h=>fS (B0 bK n) (o F S c a H _ f (h.bindE.imp λx b u r s i y q v A w z=>q u r a s i (Grow.refl ..) (iE.refl _ _)))
end
end Pu
namespace L2
section
variable{m:List (af×Obj)}{s:ao}
def G2{G:Pos}(B:iG X d x l i)(hk:k<=i.length)(hc:X.calm=ah)(hi:PI X P r wi)(dG:∀C w A Y S,PG (bB X d l C w A Y S) P λv O H Q=>∃vs,vs.length=k+1/\O.length=l.length/\tgf v H vs/\Q (vs++O.drop (k+1)) H)(ht:∀C w A Y S,tt (bB X d l C w A Y S) E ts) (he:∀C w A Y S,PE (bB X d l C w A Y S) F te) (hN:X.N.Nodup) (oB:X.N[J]?=aa y) (hxy:Loc X.env.scope y) (oC:jr (.ListComp F [⟨P,r,E,0⟩] d L) (aa (.Name y py)) G.line X.env=pure ah) (hf:X.fn y=ah\/X.env.scope.names.lookup y=aa .local) (hs:∀x,lT r X.env x=pure x):PS X (.Assign [.Name y py] (.ListComp F [⟨P,r,E,0⟩] d L) G) (λD j H=>zK wi tgf k ts te i j H λv H'=>D.nx (j.set J (aa v)) H'):=by
 intro m s j H D I h;rw[exec_Assign_Name_used _ _ _ _ oC];refine aq (wpAny_standAt (aq ?_));show ar _ X.A (do let _ <-comprehension (.ListComp F [⟨P,r,E,0⟩] d L) d X.env _ (newList []) ak (a9 r X.env) (aa (mJ (.Name y py) X.env))) _ _ s;refine aq (fh (?_:ar _ X.A _ (λ_ s'=>SP X m D .next s') X.xe s) (λ_ s' hq=>aF (aF hq)) λ_ _ e=>e);refine Ip (use:=aa (mJ (.Name y py) X.env)) B hk hc hi dG ht he hs I h λ{M s6 H3 H5 fp σ5 a f} I3 f3 I6 q=>?_;obtain⟨mm,hn6,_⟩:=I6.loc;have J6:Inv X m j _ _:=I3.unblock f3 I6 (J9 _ _);have T:M.heap.objs.size≠X.env.locals:=λe=>absurd I3.lt (by rw[<-e];exact jq _);have W:∀z c,X.env.cells.lookup z=aa c->c≠M.heap.objs.size:=λz c e Z=>by obtain⟨vv,oo,ho,_⟩:=I3.cell z c e;exact absurd (bH ho) (by rw[Z];exact jq _)
 refine wpAny_assign_Name (Ig (v:=.ref a) J6 hN oB hxy rfl (λs7 I7 ⟨a7,sb7,ha7⟩=>?_) hf);have na7:M.heap.objs.size≠a7:=by
  rcases ha7 with z|z
  .rw[z];exact T
  .exact(W _ _ z).symm
 refine⟨mm,hn6.sameBut sb7 na7,λni sb=>⟨_,_,?_,q⟩⟩;have hC5:H5 M.heap.objs.size=ae:=I6.free;refine I7.call' (s':={s7 with heap:=ni}) (ch:=[M.heap.objs.size]) rfl ⟨λb o e n hb N=>?_,λb o e n hb N=>?_,λb o e n N=>n,λb o e N=>?_,λb xs e=>e,λb o u e=>e,λb ps e=>⟨e,λc o Z g=>⟨(sb.2 c (λz=>by lia)).trans g,Z⟩⟩⟩ ?_ I7.bare λb hb=>?_
 .exact(sb.2 b (~~~N)).trans e
 .exact⟨o.slots,(sb.2 b (~~~N)).trans (~~~e)⟩
 .exact⟨o,(sb.2 b (~~~N)).trans e⟩
 .intro b u e;refine(I7.hok b u e).stay (λc v hc q=>(sb.2 c ?_).trans q) (λ_ q=>q) λ_ _ q=>q;lia
 .have e:b=M.heap.objs.size:= ~~~hb
  subst e;refine⟨.inr I3.sz,T,W,λp hp Z=>?_⟩;obtain⟨e3,_⟩:=I3.pin p hp;exact absurd (bH e3) (by rw[Z];exact jq _)
def IU{f:Pos}(B:iG X d x l i)(L:X.calm=ah)(G:PI X (.Name x p) a wi)(E:∀C b c u q,tt (bB X d l C b c u q) h ts) (J:∀C b c u q,PE (bB X d l C b c u q) n te) (M:X.N.Nodup) (A:X.N[g]?=aa y) (r:Loc X.env.scope y) (z:jr (.ListComp n [⟨.Name x p,a,h,0⟩] d o) (aa (.Name y w)) f.line X.env=pure ah) (I:X.fn y=ah\/X.env.scope.names.lookup y=aa .local) (F:∀x,lT a X.env x=pure x):PS X (.Assign [.Name y w] (.ListComp n [⟨.Name x p,a,h,0⟩] d o) f) (λD j H=>zI wi ts te i j H λv N=>D.nx (j.set g (aa v)) N):=G2 B (jM _) L G (Fl B) E J M A r z I F
end
end L2
namespace Pu
open L2
def bW(ε:aj):List Nat->Option (List c9)
 |[]=>aa []
 |j::cap=>match ε[j]? with
  |some (.val pv)=>(bW ε cap).map (.inl pv::·)
  |some (.own _)=>(bW ε cap).map (.inr j::·)
  |_=>ae
def bQ{b:Type}(cap:List Nat)(d:ac b)(x:PV):ac b:=λε=>(aS (bW ε cap) ε).bind λa _=>(aS (if(cI a).Nodup then eU ε (.inl x::a)else ae) ε).bind λc _=>fP ε (.inl x::a) (d c)
def bq{a:Type}(r:R a):R a:=match r with
 |.er _ _=>.no
 |r=>r
def iL(cap:List Nat)(dt:ac Bool)(de:ac PV):List PV->List PV->aj->R (List PV)
 |[],b,ε=>.ok b ε
 |x::xs,b,ε=>(bq (bQ cap dt x ε)).bind λk a=>match k with
  |true=>(bq (bQ cap de x a)).bind λy c=>iL cap dt de xs (b++[y]) c
  |false=>iL cap dt de xs b a
def bE(cap:List Nat)(c:ac (List PV))(dt:ac Bool)(de:ac PV):ac PO:=λε=>(c ε).bind λxs ε1=>(iL cap dt de xs [] ε1).bind λb a=>.ok (.lst b) a
def uY{K:ax}{F:af->Prop}{S:Nat->af->Prop}{f:aj}{d:St}{H:Hp}(r:aL K F S f d H):∀{b:List Nat}{i:List c9},bW f b=aa i->∃c,jW K d F H i c/\fc d b=c.map aa
 |[],i,h=>by cases h;exact⟨[],rfl,rfl⟩
 |j::b,i,h=>by
  unfold bW at h;split at h
  .rename_i pv e;cases q:bW f b with
   |none=>rw[q]at h;cases h
   |some bs=>
    rw[q]at h;cases h;obtain⟨c,m,l⟩:=uY r q;obtain⟨v,g,n⟩:=r.val j pv e;refine⟨v::c,⟨v,c,rfl,n,m⟩,?_⟩;show(d[j]?).join::fc d b=_;rw[g,l];rfl
  .rename_i o e;cases q:bW f b with
   |none=>rw[q]at h;cases h
   |some bs=>
    rw[q]at h;cases h;obtain⟨c,m,l⟩:=uY r q;obtain⟨a,g,n⟩:=r.own j o e;refine⟨.ref a::c,⟨_,c,rfl,g,m⟩,?_⟩;show(d[j]?).join::fc d b=_;rw[g,l];rfl
  .cases h
def Fw{K:ax}{E:XK}{F:af->Prop}{S:Nat->af->Prop}{s:aj}{f:St}{H:Hp}{I:Type}{b:List Nat}{d:ac I}{x:PV}{v:V}{C:I->aj->(af->Prop)->(Nat->af->Prop)->Hp->Prop}(r:aL K F S s f H) (O:aN K H F x v) (h:Ok K E f F S H (bq (bQ b d x s)) C):∃M l,aL K F M l (aa v::fc f b) H/\Ok K E0 (aa v::fc f b) F M H (d l) (λa _ q _ p=>∃j w,aL K q w j f p/\Grow (U S) (U w) F q H p/\C a j q w p):=by
 unfold bQ at h;cases D:bW s b with
 |none=>rw[D]at h;exact h.elim
 |some g=>
  rw[D]at h;simp only[bS,R.bind_ok]at h;by_cases A:(cI g).Nodup
  .rw[if_pos A]at h;cases u:eU s (.inl x::g)with
   |none=>rw[u]at h;exact h.elim
   |some l=>
    rw[u]at h;simp only[bS,R.bind_ok]at h;obtain⟨y,W,T⟩:=uY r D;have o:jW K f F H (.inl x::g) (v::y):=⟨v,y,rfl,O,W⟩
    have n:aa v::fc f b=(v::y).map aa:=by rw[T];rfl
    have m:(cI (.inl x::g)).Nodup:=A;refine⟨lF (.inl x::g) S,l,by rw[n];exact r.cal o u m,?_⟩;rw[n];cases B:d l with
    |no=>rw[B]at h;exact h.elim
    |er c G=>
     rw[B]at h;unfold fP at h;dsimp only at h;by_cases i:fX (.inl x::g) G=ah
     .rw[if_pos i]at h;exact h.elim
     .rw[if_neg i]at h;exact h.elim
    |ok a G=>
     rw[B]at h;intro q w p P Q;unfold fP at h;dsimp only at h;by_cases i:fX (.inl x::g) G=ah
     .rw[if_pos i]at h;obtain⟨N,J,L,_⟩:=r.called o u m P Q (λ_ z=>z) (nG i);exact⟨_,N,J,L,h q N p J L⟩
     .rw[if_neg i]at h;exact h.elim
  .rw[if_neg A]at h;exact h.elim
def nJ(X:Cx)(a:List aC):TT:=λb H Q=>Bx (∀d s,Inv X d b H s->ar X.zz X.A (forIn a ah λc r=>if r=ah then do let ok <-nX c X.env (a9 c X.env);pure (ForInStep.yield ok)else pure (ForInStep.yield r)) (TP X d b Q) X.xe s)
def DF(X:Cx)(E:XK)(c:List aC)(d:ac Bool):Prop:=∀F S f a H Q,aL X.K F S f a H->Ok X.K E a F S H (d f) (λb _ _ _ g=>Q b g)->nJ X c a H Q
def b7:ac Bool:=λε=>.ok ah ε
def FM:DF X E [] b7:=λF S d a H Q b h=>⟨λc s I=>GE c s a H Q I (h F S H b (Grow.refl ..))⟩
def nI(h:DT X E c d):DF X E [c] d:=λF S b a H Q f q=>⟨λg s I=>UY nH g s a H Q I (h F S b a H Q f q)⟩
def Ok.bindB{K:ax}{E:XK}{b:St}{F s:af->Prop}{S n:Nat->af->Prop}{H p:Hp}{j i:Type}{D:i->aj->(af->Prop)->(Nat->af->Prop)->Hp->Prop}{r:R j}{k:j->aj->R i}(h:Ok K E b F S H (r.bind k) D)(g:Grow (U S) (U n) F s H p):Ok K E b s n p r (λa d _ _ _=>Ok K E b F S H (k a d) D):=by
 cases r with
 |no=>exact h
 |er c f=>exact λx u o q l m=>h x u o q l (g.trans m)
 |ok a f=>exact λu o q l m=>h
section
def Grow.stay(g:Grow O a F h H b)(e:H l=aa o)(n:¬O l)(i:¬F l):b l=aa o/\¬h l/\¬a l :=⟨g.keep l o e n,λz=>(g.fnew l z).elim i λw=>w.elim (λq=>by lia) n,λz=>(g.onew l z).elim n λq=>by lia⟩
def aL.lay{K:ax}{F:af->Prop}{S:Nat->af->Prop}{p:aj}{m:St}{H:Hp}{l:af}{o o':HO}(r:aL K F S p m H)(B:H l=aa o)(no:eA o)(A:¬F l)(nS:¬U S l):Grow (λb=>U S b\/b=l) (U S) F F H (L2.upd H l o')/\Fit (λb=>U S b\/b=l) F H/\aL K F S p m (L2.upd H l o'):=by
 have h:Grow (λb=>U S b\/b=l) (U S) F F H (L2.upd H l o'):=⟨λ_ z=>z,λb o e n=>by rw[a8 λz=>n (.inr z)];exact e,λb o e=>by
  by_cases s:b=l
  .subst s;exact⟨_,upd_same⟩
  .exact⟨o,by rw[a8 s];exact e⟩,λ_ z=>.inl z,λ_ z=>.inl (.inl z)⟩
 have i:Fit (λb=>U S b\/b=l) F H:=λb z=>by
  rcases z with z|rfl
  .exact r.fit b z
  .exact⟨A,_,B,no⟩
 refine⟨h,i,r.len,λb z=>let ⟨o,q⟩:=r.ex b z;h.there b o q,λj pv e=>?_,λj y e=>?_,λj b z=>?_,r.dist⟩
 .obtain⟨w,g,a⟩:=r.val j pv e;exact⟨w,g,a.grow h i⟩
 .obtain⟨w,g,a⟩:=r.own j y e;refine⟨w,g,a.mono (λ_ _ q=>q.grow h i) (λ_ _ q=>q.grow h i) λb o z q=>?_⟩;rw[a8 (by rintro rfl;exact nS ⟨j,z⟩)];exact q
 .obtain⟨g,a,o,v,u⟩:=r.foot j b z;exact⟨g,a,o,by rw[a8 (by rintro rfl;exact nS ⟨j,z⟩)];exact v,u⟩
def Grow.lay(g:Grow O a F i H h)(m:H l=ae):Grow O a F i H (L2.upd h l o'):=by
 refine⟨g.fro,λb o e n=>?_,λb o e=>?_,g.fnew,g.onew⟩
 .rw[a8 (by lia)];exact g.keep b o e n
 .obtain⟨j,q⟩:=g.there b o e;exact⟨j,by rw[a8 (by lia)];exact q⟩
def G3{elt D:aC}{px:Pos}{ifs:List aC}{di:ac (List PV)}{dt:ac Bool}{de:ac PV}(hi:DI X E (.Name x px) D di)(ht:∀C g j w s,DF (bB X c f C g j w s) E0 ifs dt) (he:∀C g j w s,DE (bB X c f C g j w s) E0 elt de){F:af->Prop}{S:Nat->af->Prop}{ε:aj}{p:St}{H:Hp}{Q:VK} (rl:aL X.K F S ε p H) (h:Ok X.K E p F S H (bE d di dt de ε) (λpo _ A O n=>∀a Sa,fq X.K n A po a Sa->(∀b,Sa b->H b=ae/\¬A b/\¬U O b/\∃o,n b=aa o/\eA o)->Q (.ref a) n)):zI (lO X (.Name x px) D) (λp H Q=>∀C g j w s,nJ (bB X c f C g j w s) ifs p H Q) (λp H Q=>∀C g j w s,gG (bB X c f C g j w s) elt p H Q) d p H Q:=by
 refine hi F S ε p H _ rl ((Ok.bind h).imp λxs ε1 T S1 H1 r1 g1 h1 J vs RR rs hz hw keep l hl=>?_);have h1:=h1.bind;have hvl:vs.length=xs.length:=rs.len;have a0:Al T T H1 (upd H1 l (.lst [])):=Al.new0 hl;have nF1:¬T l:=λz=>by obtain⟨o,q⟩:=r1.ex l z;lia
 have nS1:¬U S1 l:=λ⟨i,z⟩=>by obtain⟨_,_,o,q,_⟩:=r1.foot i l z;lia
 have hH:H l=ae:=oQ g1 hl;refine⟨λi m I n=>m=xs.length-i/\i<=xs.length/\∃A O ε' Y,aL X.K A O ε' p n/\Grow (U S1) (U O) T A H1 n/\n l=aa (.lst I)/\¬A l/\¬U O l/\a6 X.K n A Y I/\I.length<=i /\ Ok X.K E p T S1 H1 (iL d dt de (xs.drop i) Y ε') (λys' B Z S2 P=>Ok X.K E p Z S2 P (R.ok (PO.lst ys') B) (λpo _ A O n=>∀a Sa,fq X.K n A po a Sa->(∀b,Sa b->H b=ae/\¬A b/\¬U O b/\∃o,n b=aa o/\eA o)->Q (.ref a) n)),⟨_,rfl,jM _,T,S1,ε1,[],r1.al a0,a0.grow,upd_same,nF1,nS1,rfl,bi _,h1⟩,?_⟩;rintro i m I P ⟨rfl,hi,Z,S2,B,Y,W,N,el,nF2,nS2,r,hyl,q2⟩;have RH:=keep S2 Z P N;by_cases bn:i<xs.length
 .obtain⟨v,hv⟩:∃v,vs[i]?=aa v:=⟨_,d9 ∅⟩
  obtain⟨go,yl⟩:=(hw P RH i).1 v hv;refine .inr ⟨go,λv' n y=>⟨[aa v'],rfl,rfl,?_⟩⟩;obtain⟨e1,e2⟩:=yl v' n y;subst e1 e2;obtain⟨px',hx,rx⟩:=rs.back hv;have ed:xs.drop i=px'::xs.drop (i+1):=by rw[wU bn];congr 1;exact(cP.mp hx).2
  rw[ed]at q2;have rx2:=rx.grow N r1.fit;have q3:=Ok.bindB q2 N;obtain⟨Sb,ss,rb,okb⟩:=Fw W rx2 q3;intro C g j w s;refine ht C g j w s Z Sb ss _ n _ rb (okb.imp λb _ F3 _ H3 _ _ ⟨ε3,S3,r3,M,q4⟩=>?_);obtain⟨el3,nF3,nS3⟩:=M.stay el nS2 nF2;cases b with
  |false=>exact nz ⟨_,∅,rfl,bn,F3,S3,ε3,Y,r3,N.trans M,el3,nF3,nS3,r.grow M W.fit,∅,q4⟩
  |true=>refine nL ?_;have q5:Ok X.K E p T S1 H1 ((bq (bQ d de px' ε3)).bind λy B=>iL d dt de (xs.drop (i+1)) (Y++[y]) B) _:=q4;obtain⟨Sc,sc,rc,okc⟩:=Fw r3 (rx2.grow M W.fit) (Ok.bindB q5 (N.trans M));intro C g j w s;refine he C g j w s F3 Sc sc _ H3 _ rc (okc.imp λy _ F4 _ H4 _ _ ⟨ε4,S4,r4,g4,q6⟩ u ru=>?_);obtain⟨el4,nF4,nS4⟩:=g4.stay el3 nS3 nF3;have L:=(r.grow M W.fit).grow g4 r3.fit;obtain⟨gl,G,r5⟩:=r4.lay (o':=.lst (I++[u])) el4 trivial nF4 nS4;have g5:=((N.trans M).trans g4).lay (o':=.lst (I++[u])) hl;refine⟨el4,?_,_,∅,rfl,bn,F4,S4,ε4,Y++[y],r5,g5,upd_same,nF4,nS4,(L.grow gl G).app (.one (ru.grow gl G)),by simp;lia,q6⟩;lia
 .have e:i=xs.length:=∅
  subst e;refine .inl ⟨(hw P RH _).2 hvl.symm,?_⟩;rw[Ae]at q2;exact q2 Z S2 P W N Z S2 P W (Grow.refl ..) l (λb=>b=l) ⟨⟨I,el,r⟩,λb=>kN⟩ λb z=>by subst z;exact⟨hH,nF2,nS2,_,el,trivial⟩
def iC(B:iG X c x f d)(z:X.calm=ah)(w:DI X E (.Name x o) g q)(u:∀C a b j i,DF (bB X c f C a b j i) E0 l dt) (y:∀C a b j i,DE (bB X c f C a b j i) E0 m de) (v:∀x,lT g X.env x=pure x:=by intro _;rfl):DN X E (.ListComp m [⟨.Name x o,g,l,0⟩] c pos) (bE d q dt de):=λF S A n H Q r h=>cb (Pw (wi:=lO X (.Name x o) g) (ts:=λn H Q=>∀C a b j i,nJ (bB X c f C a b j i) l n H Q) (te:=λn H Q=>∀C a b j i,gG (bB X c f C a b j i) m n H Q) (pos:=pos) B z wu (λC a b j i p s n H Q I h=>(h C a b j i).run p s I) (λC a b j i p s n H Q I h=>(h C a b j i).run p s I) v) (G3 w u y r h)
end
def No(x y:Tx):tS x++tS y=tS (x++y):=by
 show(⟨x.toArray++y.toArray⟩:Str)=⟨(x++y).toArray⟩
 simp
def bj:PV->PV->Option PV
 |.int i,.int j=>aa (.int (i+j))
 |.str x,.str y=>if(x++y).length<=bD then aa (.str (x++y))else ae
 |.tup xs,.tup a=>if xs≠[]/\a≠[]/\xs.length+a.length<=1000 then aa (.tup (xs++a))else ae
 |.lst xs,.lst a=>if xs.length+a.length<=bD then aa (.lst (xs++a))else ae
 |_,_=>ae
def lI:PV->PV->Option PV
 |.int i,.int j=>aa (.int (i-j))
 |_,_=>ae
def wf(i:Int):Bool:=decide (-(2^64)<i/\i<2^64)
def lJ:PV->PV->Option PV
 |.int i,.int j=>if wf i||wf j then aa (.int (i*j))else ae
 |.str x,.int j=>if 0<=j/\j<=100/\x.length<=100 then aa (.str (dW j.toNat x).flatten)else ae
 |_,_=>ae
def g8:PV->PV->Option PV
 |.int i,.int j=>if 0<j then aa (.int (i % j))else ae
 |_,_=>ae
def vA:PV->PV->Option PV
 |.int i,.int j=>if 0<=j/\j<=1000000/\i.natAbs<2^64 then aa (.int (i^j.toNat))else ae
 |_,_=>ae
def im:PV->Option PV
 |.int i=>aa (.int (-i))
 |_=>ae
def Ho:R2:=λx y H Q=>∃l b xs a,x=.ref l/\y=.ref b/\Rd H l (.lst xs)/\Rd H b (.lst a)/\xs.length+a.length<=bo/\∀p,H p=ae->Q (.ref p) (upd H p (.lst (xs++a)))
def yF(K:ax):R2:=λx y H Q=>((mr λi j=>V.int (i+j)) x y H Q\/∃i j,x=.str i/\y=.str j/\i.length+j.length<=bo/\Q (.str (i++j)) H)\/(Gf K x y H Q\/Ho x y H Q)
def HC:R2:=λx y H Q=>rI Cf (λi j=>.int (i*j)) x y H Q\/∃(z:Tx) (n:Nat),x=tV z/\y=.int n/\n<=100/\z.length<=100/\Q (tV (dW n z).flatten) H
section
variable{X:Cx}{K:ax}
def yc:P2 K (mr λi j=>.int (i-j)) lI:=λF H x y v u Q pv b a e q=>by
 unfold lI at e;split at e
 .cases e;exact⟨_,_,b,a,q _ F H (Al.refl ..) rfl⟩
 .cases e
def t6:P2 K (rI (λ_ j=>0<j) λi j=>.int (i % j)) g8:=λF H x y v u Q pv b a e q=>by
 unfold g8 at e;split at e
 .split at e
  .cases e;exact⟨_,_,b,a,by assumption,q _ F H (Al.refl ..) rfl⟩
  .cases e
 .cases e
def U0:P2 K (rI Gx λi j=>.int (i^j.toNat)) vA:=λF H x y v u Q pv b a e q=>by
 unfold vA at e;split at e
 .split at e
  .cases e;exact⟨_,_,b,a,by assumption,q _ F H (Al.refl ..) rfl⟩
  .cases e
 .cases e
def qK:P1 K (rU λi=>.int (-i)) im:=λF H x v Q pv a e q=>by
 unfold im at e;split at e
 .cases e;exact⟨_,a,q _ F H (Al.refl ..) rfl⟩
 .cases e
def CA(I:Inv X c b H s)(h:Rd H l (.lst xs)):∃(a:List ai) (n:Nat),bG xs a/\s.heap.get? l=aa {cls:=.type "list",data:=.seq a.toArray n}/\xs.length<=bo:=by obtain⟨z,a,n,r,e⟩:=h.ok I.hok;exact⟨a,n,r,e,z⟩
def Oa:cg X (js .Add) Ho:=by
 intro C s p H x y v u Q I i g h;obtain⟨l,b,xs,w,rfl,rfl,f,j,B,q⟩:=h;cases i;cases g;obtain⟨c,n,r,e,_⟩:=CA I f;obtain⟨a,z,d,o,_⟩:=CA I j;have f:=r.length;have A:=d.length;refine PySem.P.add_list e o ?_ (by grind);have m:c.toArray++a.toArray=(c++a).toArray:=by simp
 rw[m];exact⟨.ref _,_,I.lnew (t':=s.toks) (r.append d) (by rw[iT];lia),rfl,q _ I.fresh⟩
def fU:cg X (js .Add) (yF X.K):=(VL.or NY).or (VG.or Oa)
def fQ:P2 K (yF K) bj:=λF H x y v u Q pv i h e q=>by
 unfold bj at e;split at e
 .cases e;exact .inl (.inl ⟨_,_,i,h,q _ F H (Al.refl ..) rfl⟩)
 .rename_i x y;split at e
  .rename_i c;cases e;refine .inl (.inr ⟨_,_,i.1,h.1,?_,?_⟩)
   .rw[kY,kY];rw[iT]at c;exact c7 c kZ
   .exact q _ F H (Al.refl ..) ⟨by rw[No];rfl,c⟩
  .cases e
 .rename_i xs s;split at e
  .rename_i c;cases e;obtain⟨a,l,rfl,r,f⟩:=i;obtain⟨b,j,rfl,o,d⟩:=h;have n:=f.len;have m:=d.len;refine .inr (.inl ⟨a,b,l,j,rfl,rfl,cu.of r,cu.of o,λz=>c.1 (by grind),by rw[n,m];exact Bu c.2.2,λz=>absurd (by grind) c.2.1,λ_ p g=>?_⟩);exact q _ F _ (Al.new0 g) ⟨p,_,rfl,upd_same,(Al.new0 g).reps (f.app d)⟩
  .cases e
 .rename_i xs s;split at e
  .rename_i c;cases e;obtain⟨a,l,rfl,r,A,f⟩:=i;obtain⟨b,j,rfl,o,w,d⟩:=h;have n:=f.len;have m:=d.len;refine .inr (.inr ⟨a,b,l,j,rfl,rfl,r,o,by rw[n,m];exact c7 c kZ,λp g=>?_⟩);exact q _ _ _ (Al.new g) ⟨p,_,rfl,.inl upd_same,.inr rfl,(Al.new g).reps (f.app d)⟩
  .cases e
 .cases e
def BJ:cg X (js .Mult) HC:=VA.or Q8
def Bj:P2 K HC lJ:=λF H x y v u Q pv b a e q=>by
 unfold lJ at e;split at e
 .rename_i i j;split at e
  .rename_i h;cases e;refine .inl ⟨_,_,b,a,?_,q _ F H (Al.refl ..) rfl⟩;rw[Dx]at h;exact h.imp of_decide_eq_true of_decide_eq_true
  .cases e
 .rename_i x j;split at e
  .rename_i h;cases e;refine .inr ⟨x,j.toNat,b.1,?_,∅,h.2.2,q _ F H (Al.refl ..) ⟨rfl,?_⟩⟩
   .rw[show u=V.int j from a];congr 1;lia
   .rw[Qa];have c:j.toNat<=100:=∅
    exact c7 (DB c h.2.2) (by decide)
  .cases e
 .cases e
def dX(f:Int->Int->Bool):PV->PV->Option PV
 |.int i,.int j=>aa (.bl (f i j))
 |_,_=>ae
def kG:P2 K (mr λi j=>.bl (f i j)) (dX f):=λF H x y v u Q pv b a e q=>by
 unfold dX at e;split at e
 .cases e;exact⟨_,_,b,a,q _ F H (Al.refl ..) rfl⟩
 .cases e
def dI:PV->Option V
 |.non=>aa .non
 |.bl b=>aa (.bl b)
 |.int i=>aa (.int i)
 |.str x=>aa (tV x)
 |_=>ae
def jX(r:aN K H F x v)(e:dI x=aa w):v=w:=by
 cases x <;> simp[dI]at e <;> subst e
 .exact r
 .exact r
 .exact r
 .exact r.1
def r_(e:dI x=aa w):gx w=ah:=by
 cases x <;> simp[dI]at e <;> subst e <;> rfl
mutual
def dQ:PV->PV->Option Bool
 |.tup xs,y=>match y with
  |.tup a=>gw xs a
  |_=>ae
 |.lst xs,y=>match y with
  |.lst a=>gw xs a
  |_=>ae
 |.non,y=>(dI y).map (eT .non)
 |.bl b,y=>(dI y).map (eT (.bl b))
 |.int i,y=>(dI y).map (eT (.int i))
 |.str x,y=>(dI y).map (eT (tV x))
 |.raw _,_=>ae
 |.exc _,_=>ae
def gw:List PV->List PV->Option Bool
 |[],c=>aa c.isEmpty
 |x::xs,c=>match c with
  |[]=>aa ak
  |y::c=>(dQ x y).bind λa=>(gw xs c).map λb=>a&&b
end
mutual
def fW:PV->Nat
 |.tup xs=>fg xs+1
 |.lst xs=>fg xs+1
 |_=>0
def fg:List PV->Nat
 |[]=>0
 |x::xs=>max (fW x) (fg xs)
end
def Jx(h:ja K H d x y k)(l:d<=a):ja K H a x y k:=λX g i b s u v A I f c j=>h X g i b s u v A I f c ∅
def yV(b:gx w=ah)(e:(dI y).map (eT w)=aa k)(a:aN K H F y u):ja K H d w u k:=by
 cases q:dI y with
 |none=>grind
 |some z=>
  rw[q]at e;cases e;rw[jX a q];exact MG b (r_ q)
def Mc(h:Rd H a (.lst xs))(g:Rd H a (.lst b)):xs=b:=by
 rcases h with h|⟨o,h⟩ <;> rcases g with g|⟨c,g⟩ <;> rw[h]at g <;> cases g <;> rfl
def UO:gH (λj=>if j=0 then a else e (j-1)) (n+1) (m+1)=(a&&gH e n m):=by
 unfold gH;rw[show min (n+1) (m+1)=min n m+1 by lia,J1,qZ,uh,if_pos rfl,Bool.and_assoc];congr 1;congr 1
 .simp
mutual
def Br:∀(x y:PV) {v:V}{k:Bool},dQ x y=aa k->aN K H F x v->aN K H F y v->k=ah
 |.tup xs,y,v,k,e,d,c=>by
  unfold dQ at e;split at e
  .obtain⟨a,m,rfl,i,f⟩:=d;obtain⟨b,l,j,g,h⟩:=c;cases j;rw[i]at g;cases g;exact Cp xs _ e f h
  .cases e
 |.lst xs,y,v,k,e,d,c=>by
  unfold dQ at e;split at e
  .obtain⟨a,m,rfl,i,_,f⟩:=d;obtain⟨b,l,j,g,_,h⟩:=c;cases j;rw[Mc i g]at f;exact Cp xs _ e f h
  .cases e
 |.non,y,v,k,e,d,c=>by
  unfold dQ at e;cases q:dI y with
  |none=>rw[q]at e;cases e
  |some z=>rw[q]at e;cases e;rw[<-jX c q,show v=V.non from d];rfl
 |.bl b,y,v,k,e,d,c=>by
  unfold dQ at e;cases q:dI y with
  |none=>rw[q]at e;cases e
  |some z=>rw[q]at e;cases e;rw[<-jX c q,show v=V.bl b from d];exact beq_self_eq_true b
 |.int b,y,v,k,e,d,c=>by
  unfold dQ at e;cases q:dI y with
  |none=>rw[q]at e;cases e
  |some z=>rw[q]at e;cases e;rw[<-jX c q,show v=V.int b from d];exact beq_self_eq_true b
 |.str b,y,v,k,e,d,c=>by
  unfold dQ at e;cases q:dI y with
  |none=>rw[q]at e;cases e
  |some z=>rw[q]at e;cases e;rw[<-jX c q,show v=tV b from d.1];exact beq_self_eq_true (tS b)
 |.raw _,_,_,_,e,_,_=>by unfold dQ at e;cases e
 |.exc _,_,_,_,e,_,_=>by unfold dQ at e;cases e
def Cp:∀(xs c:List PV) {d:List V}{k:Bool},gw xs c=aa k->a6 K H F xs d->a6 K H F c d->k=ah
 |[],c,d,k,e,h,f=>by
  unfold gw at e;rw[show d=[] from h]at f;have:=f.len;cases c with
  |nil=>cases e;rfl
  |cons=>simp at this
 |x::xs,c,d,k,e,h,f=>by
  unfold gw at e;obtain⟨v,r,rfl,l,j⟩:=h;cases c with
  |nil=>have:=f.len;simp at this
  |cons y c=>
   obtain⟨p,q,o,n,m⟩:=f;cases o;simp only at e;cases g:dQ x y with
   |none=>rw[g]at e;cases e
   |some a=>
    cases i:gw xs c with
    |none=>rw[g,i]at e;cases e
    |some b=>
     rw[g,i]at e;cases e;rw[Br x y g l n,Cp xs c i j m];rfl
end
mutual
def U3:∀(x y:PV) {v u:V}{k:Bool},dQ x y=aa k->aN K H F x v->aN K H F y u->ja K H (fW x) v u k
 |.tup xs,y,v,u,k,e,d,c=>by
  have o:=e;unfold dQ at e;split at e
  .rename_i h;obtain⟨a,q,rfl,n,j⟩:=id d;obtain⟨b,p,rfl,m,i⟩:=id c;by_cases g:a=b
   .subst g;rw[Br _ _ o d c];exact Fs
   .obtain⟨f,l,rfl⟩:=vR xs h e j i;unfold fW;exact ND (cu.of n) (cu.of m) g l
  .cases e
 |.lst xs,y,v,u,k,e,d,c=>by
  have o:=e;unfold dQ at e;split at e
  .rename_i h;obtain⟨a,q,rfl,n,_,j⟩:=id d;obtain⟨b,p,rfl,m,_,i⟩:=id c;by_cases g:a=b
   .subst g;rw[Br _ _ o d c];exact Fs
   .obtain⟨f,l,rfl⟩:=vR xs h e j i;unfold fW;exact Ln (.inl n) (.inl m) g l
  .cases e
 |.non,y,v,u,k,e,d,c=>by unfold dQ at e;rw[show v=V.non from d];exact yV rfl e c
 |.bl b,y,v,u,k,e,d,c=>by unfold dQ at e;rw[show v=V.bl b from d];exact yV rfl e c
 |.int b,y,v,u,k,e,d,c=>by unfold dQ at e;rw[show v=V.int b from d];exact yV rfl e c
 |.str b,y,v,u,k,e,d,c=>by unfold dQ at e;rw[show v=tV b from d.1];exact yV rfl e c
 |.raw _,_,_,_,_,e,_,_=>by unfold dQ at e;cases e
 |.exc _,_,_,_,_,e,_,_=>by unfold dQ at e;cases e
def vR:∀(xs c:List PV) {d g:List V}{k:Bool},gw xs c=aa k->a6 K H F xs d->a6 K H F c g -> ∃f:Nat->Bool,(∀(j:Nat) x y,d[j]?=aa x->g[j]?=aa y->ja K H (fg xs) x y (f j))/\k=gH f d.length g.length
 |[],c,d,g,k,e,m,i=>by
  unfold gw at e;rw[show d=[] from m];refine⟨λ_=>ah,λj x y h=>by simp at h,?_⟩;have:=i.len;cases e;unfold gH;cases c with
  |nil=>simp at this;simp[this]
  |cons=>rw[this];simp
 |x::xs,c,d,g,k,e,m,i=>by
  unfold gw at e;obtain⟨v,r,rfl,A,z⟩:=m;cases c with
  |nil=>
   cases e;rw[show g=[] from i];exact⟨λ_=>ah,λj x y _ h=>by simp at h,by simp[gH]⟩
  |cons y c=>
   obtain⟨u,D,rfl,C,B⟩:=i;simp only at e;cases l:dQ x y with
   |none=>rw[l]at e;cases e
   |some a=>
    cases n:gw xs c with
    |none=>rw[l,n]at e;cases e
    |some b=>
     rw[l,n]at e;cases e;obtain⟨f,w,rfl⟩:=vR xs c n z B;refine⟨λj=>if j=0 then a else f (j-1),λj p q s o=>?_,by rw[gR,gR,UO]⟩;cases j with
     |zero=>simp at s o;subst s o;show ja K H _ _ _ (if(0:Nat)=0 then a else f (0-1));rw[if_pos rfl];exact Jx (U3 x y l A C) (by unfold fg;exact Nat.le_max_left _ _)
     |succ j=>show ja K H _ _ _ (if j+1=0 then a else f (j+1-1));rw[if_neg ∅];exact Jx (w j p q (~~~s) (~~~o)) (show fg xs<=max (fW x) (fg xs)from Nat.le_max_right _ _)
end
def eqT(neg:Bool)(x y:PV):Option PV:=match dI x,dI y with
 |some v,aa u=>if qx v u then aa (.bl (neg^^decide (v=u)))else ae
 |none,ae=>if fW x<=8 then(dQ x y).map λk=>.bl (neg^^k)else ae
 |_,_=>ae
def IA(K:ax):R2:=λx y H Q=>Hu x y H Q\/vp K ak x y H Q
def Fo(K:ax):R2:=λx y H Q=>GF x y H Q\/vp K ah x y H Q
def lL(a:X.A.units+64<cLine):cg X (eF .Eq) (IA X.K):=VH.or (LO a)
def yn(a:X.A.units+64<cLine):cg X (eF .NotEq) (Fo X.K):=VX.or (RI a)
def IB(g:dI x=ae)(e:dQ x y=aa k)(A:fW x<=8)(w:aN K H F x v)(s:aN K H F y u)(q:Q (.bl (neg^^k)) H):vp K neg v u H Q:=by
 have c:∀{d:Bool},k=d->Q (.bl (if neg=ah then !d else d)) H:=λ{d} z=>by subst z;cases neg <;> simpa using q
 cases x with
 |tup xs=>
  unfold dQ at e;split at e
  .rename_i h;obtain⟨a,j,rfl,p,m⟩:=w;obtain⟨b,i,rfl,o,l⟩:=s;obtain⟨f,n,r⟩:=vR xs h e m l;unfold fW at A;exact⟨a,b,j,i,fg xs,f,rfl,rfl,.inr ⟨cu.of p,cu.of o⟩,∅,n,c r⟩
  .cases e
 |lst xs=>
  unfold dQ at e;split at e
  .rename_i h;obtain⟨a,j,rfl,p,_,m⟩:=w;obtain⟨b,i,rfl,o,_,l⟩:=s;obtain⟨f,n,r⟩:=vR xs h e m l;unfold fW at A;exact⟨a,b,j,i,fg xs,f,rfl,rfl,.inl ⟨.inl p,.inl o⟩,∅,n,c r⟩
  .cases e
 |raw _=>unfold dQ at e;cases e
 |exc _=>unfold dQ at e;cases e
 |non=>cases g
 |bl _=>cases g
 |int _=>cases g
 |str _=>cases g
def lC:P2 K (IA K) (eqT ak):=λF H x y v u Q pv g f e q=>by
 unfold eqT at e;split at e
 .rename_i a b d h;split at e
  .rename_i i;cases e;rw[jX g d,jX f h];refine .inl ⟨i,?_⟩;have:=q (.bl (decide (a=b))) F H (Al.refl ..) (by simp[aN]);exact this
  .cases e
 .rename_i d h;split at e
  .rename_i j;cases c:dQ x y with
   |none=>rw[c]at e;cases e
   |some k=>
    rw[c]at e;cases e;exact .inr (IB (neg:=ak) d c j g f (q _ F H (Al.refl ..) rfl))
  .cases e
 .cases e
def y9:P2 K (Fo K) (eqT ah):=λF H x y v u Q pv g f e q=>by
 unfold eqT at e;split at e
 .rename_i a b d h;split at e
  .rename_i i;cases e;rw[jX g d,jX f h];refine .inl ⟨i,?_⟩;have:=q (.bl (!decide (a=b))) F H (Al.refl ..) (by simp[aN]);exact this
  .cases e
 .rename_i d h;split at e
  .rename_i j;cases c:dQ x y with
   |none=>rw[c]at e;cases e
   |some k=>
    rw[c]at e;cases e;exact .inr (IB (neg:=ah) d c j g f (q _ F H (Al.refl ..) rfl))
  .cases e
 .cases e
end
open L2
section
variable{X:Cx}{K:ax}
def xW(i j:Tx):Bool:=!(JI (tS j) (tS i) 0 (tS j).length 1).isEmpty
def iM:List PV->Option (List V)
 |[]=>aa []
 |x::xs=>(dI x).bind λv=>(iM xs).map λr=>v::r
def vc:∀{xs:List PV}{c a:List V},a6 K H F xs c->iM xs=aa a->c=a/\a.all gx=ah
 |[],_,_,r,e=>by cases e;exact⟨r,rfl⟩
 |x::xs,_,a,⟨v,r,rfl,f,d⟩,e=>by
  unfold iM at e;cases q:dI x with
  |none=>grind
  |some w=>
   cases b:iM xs with
   |none=>rw[q,b]at e;cases e
   |some i=>
    rw[q,b]at e;cases e;obtain⟨h,g⟩:=vc d b;exact⟨by rw[jX f q,h],by rw[qZ,r_ q,g];rfl⟩
def iF(neg:Bool):PV->PV->Option PV
 |.str x,.str y=>aa (.bl (neg^^xW x y))
 |x,.lst a=>(dI x).bind λv=>(iM a).map λb=>.bl (neg^^oX v b)
 |x,.tup a=>(dI x).bind λv=>(iM a).map λb=>.bl (neg^^oX v b)
 |_,_=>ae
def IY(K:ax):R2:=λx y H Q=>(∃i j,x=.str i/\y=.str j/\Q (.bl (!(JI j i 0 j.length 1).isEmpty)) H)\/BH K ak x y H Q
def CK:cg X (eF .In) (IY X.K):=VE.or Tr
def Gg{H:Hp}{F:af->Prop}{x:PV}{c:List PV}{v:V}{p:af}{b:List V}{Q:VK}{neg:Bool}{pv:PV}(g:aN K H F x v)(i:cF K H p b\/cu K H p b)(h:a6 K H F c b)(e:((dI x).bind λv=>(iM c).map λf=>PV.bl (neg^^oX v f))=aa pv) (q:∀w,aN K H F pv w->Q w H):BH K neg v (.ref p) H Q:=by
 cases a:dI x with
 |none=>rw[a]at e;cases e
 |some w=>
  cases d:iM c with
  |none=>rw[a,d]at e;cases e
  |some f=>
   rw[a,d]at e;cases e;obtain⟨rfl,j⟩:=vc h d;rw[jX g a];refine⟨p,b,rfl,i,r_ a,j,?_⟩;have:=q _ rfl;cases neg <;> simpa using this
def AA:P2 K (IY K) (iF ak):=λF H x y v u Q pv d c e q=>by
 unfold iF at e;split at e
 .cases e;exact .inl ⟨_,_,d.1,c.1,by have:=q _ F H (Al.refl ..) rfl;simpa[xW]using this⟩
 .obtain⟨a,h,rfl,g,_,f⟩:=c;exact .inr (Gg (neg:=ak) d (.inl (.inl g)) f e λw b=>q w F H (Al.refl ..) b)
 .obtain⟨a,h,rfl,g,f⟩:=c;exact .inr (Gg (neg:=ak) d (.inr (cu.of g)) f e λw b=>q w F H (Al.refl ..) b)
 .cases e
def nA(a:Bool):PV->PV->Option PV
 |x,.non=>match x with
  |.non=>aa (.bl (a^^ah))
  |.raw _=>ae
  |_=>aa (.bl (a^^ak))
 |_,_=>ae
def LK(r:aN K H F x v)(h:x≠.non)(c:∀w,x≠.raw w):decide (v=V.non)=ak:=by
 refine decide_eq_false λz=>?_;subst z;cases x with
 |non=>exact h rfl
 |raw w=>exact c w rfl
 |bl _=>cases r
 |int _=>cases r
 |str _=>cases r.1
 |tup _=>obtain⟨a,b,e,_⟩:=r;cases e
 |lst _=>obtain⟨a,b,e,_⟩:=r;cases e
 |exc _=>obtain⟨a,e,_⟩:=r;cases e
def Ly{H:Hp}{F:af->Prop}{x y:PV}{v u:V}{Q:VK}{pv:PV}{a:Bool}(c:aN K H F x v)(f:aN K H F y u)(e:nA a x y=aa pv)(q:∀w d b,Al F d H b->aN K b d pv w->Q w b):u=.non/\Q (.bl (a^^decide (v=V.non))) H:=by
 unfold nA at e;split at e
 .refine⟨f,?_⟩;split at e
  .cases e;rw[show v=V.non from c];exact q _ F H (Al.refl ..) rfl
  .cases e
  .rename_i h g;cases e;rw[LK c (λz=>h z) (λw z=>g w z)];exact q _ F H (Al.refl ..) rfl
 .cases e
def Iz:P2 K (λx y H Q=>y=.non/\Q (.bl (decide (x=.non))) H) (nA ak):=λF H x y v u Q pv b a e q=>by have:=Ly b a e q;simpa using this
def bV:List PV->Option PV
 |[.str x]=>aa (.int x.length)
 |[.lst xs]=>aa (.int xs.length)
 |[.tup xs]=>aa (.int xs.length)
 |_=>ae
def gI(r:a6 K H F [x] a):∃v,a=[v]/\aN K H F x v:=by obtain⟨v,b,rfl,d,c⟩:=r;rw[show b=[] from c];exact⟨v,rfl,d⟩
def jm:PL K (λxs H Q=>∃x n,xs=[x]/\F6 K x H n/\Q (.int n) H) bV:=λF H xs h Q pv c e q=>by
 unfold bV at e;split at e
 .cases e;obtain⟨v,rfl,g⟩:=gI c;rw[g.1];exact⟨_,_,rfl,⟨by rw[kY];exact c7 g.2 kZ,rfl⟩,by rw[kY];exact q _ F H (Al.refl ..) rfl⟩
 .cases e;obtain⟨v,rfl,a,b,rfl,f,_,d⟩:=gI c;exact⟨_,_,rfl,.inl ⟨b,.inl f,rfl⟩,by rw[d.len];exact q _ F H (Al.refl ..) rfl⟩
 .cases e;obtain⟨v,rfl,a,b,rfl,f,d⟩:=gI c;exact⟨_,_,rfl,.inr ⟨b,cu.of f,rfl⟩,by rw[d.len];exact q _ F H (Al.refl ..) rfl⟩
 .cases e
def tf:List PV->Option PO
 |[.lst xs]=>aa (.lst xs)
 |[.tup xs]=>aa (.lst xs)
 |_=>ae
def Ht:lA K (λxs H Q=>∃p c,xs=[.ref p]/\(cF K H p c\/cu K H p c)/\∀l,H l=ae->Q (.ref l) (upd H l (.lst c))) tf:=λF H xs j Q m i h e q=>by
 unfold tf at e;split at e
 .cases e;obtain⟨v,rfl,a,d,rfl,g,_,f⟩:=gI h;exact⟨a,d,rfl,.inl (.inl g),λl b=>q l F _ _ (Al.new0 b) (vx b f) (vJ b i trivial)⟩
 .cases e;obtain⟨v,rfl,a,d,rfl,g,f⟩:=gI h;exact⟨a,d,rfl,.inr (cu.of g),λl b=>q l F _ _ (Al.new0 b) (vx b f) (vJ b i trivial)⟩
 .cases e
def iJ:List PV->Option PV
 |[.lst xs]=>aa (.tup xs)
 |[.tup xs]=>aa (.tup xs)
 |_=>ae
def tO:PL K (λxs H Q=>∃p d,xs=[.ref p]/\((cF K H p d/\∀l,H l=ae->Q (.ref l) (upd H l (.tup d)))\/(cu K H p d/\Q (.ref p) H))) iJ:=λF H xs i Q pv g e q=>by
 unfold iJ at e;split at e
 .cases e;obtain⟨v,rfl,a,b,rfl,c,_,f⟩:=gI g;exact⟨a,b,rfl,.inl ⟨.inl c,λl h=>q _ F _ (Al.new0 h) ⟨l,b,rfl,upd_same,(Al.new0 h).reps f⟩⟩⟩
 .cases e;obtain⟨v,rfl,a,b,rfl,c,f⟩:=gI g;exact⟨a,b,rfl,.inr ⟨cu.of c,q _ F H (Al.refl ..) ⟨a,b,rfl,c,f⟩⟩⟩
 .cases e
def fV:List PV->Option (List Tx)
 |[]=>aa []
 |.str x::xs=>(fV xs).map (x::·)
 |_=>ae
def am(ls:List Tx):List PV:=ls.map .str
def oN(a:List Tx):fV (am a)=aa a:=by
 induction a with
 |nil=>rfl
 |cons x a b=>show(fV (am a)).map (x::·)=_;rw[b];rfl
def uX:∀{xs:List PV}{a:List Tx},fV xs=aa a->xs=am a
 |[],a,e=>by cases e;rfl
 |.str x::xs,a,e=>by
  unfold fV at e;cases q:fV xs with
  |none=>grind
  |some r=>rw[q]at e;cases e;rw[uX q];rfl
 |.non::_,_,e=>by cases e
 |.bl _::_,_,e=>by cases e
 |.int _::_,_,e=>by cases e
 |.tup _::_,_,e=>by cases e
 |.lst _::_,_,e=>by cases e
 |.raw _::_,_,e=>by cases e
 |.exc _::_,_,e=>by cases e
def VB:∀{a:List Tx}{b:List V},a6 K H F (am a) b↔b=cr a/\∀x∈a,x.length<=bD
 |[],b=>by simp[am,a6,cr]
 |x::a,b=>by
  show(∃v r,b=v::r/\(v=tV x/\x.length<=bD)/\a6 K H F (am a) r)↔_;constructor
  .rintro⟨v,r,rfl,⟨rfl,f⟩,h2⟩;obtain⟨rfl,d⟩:=VB.mp h2;exact⟨rfl,λy c=>by
    grind⟩
  .rintro⟨rfl,h⟩;exact⟨tV x,cr a,rfl,⟨rfl,h x (by simp)⟩,VB.mpr ⟨rfl,λy c=>h y (by simp[c])⟩⟩
def nt:List PV->Option (List Bool)
 |[]=>aa []
 |.bl b::xs=>(nt xs).map (b::·)
 |_=>ae
def G4:∀{xs:List PV}{a:List V}{bs:List Bool},a6 K H F xs a->nt xs=aa bs->a=bs.map V.bl
 |[],_,_,r,e=>by cases e;exact r
 |.bl b::xs,_,bs,⟨v,r,rfl,d,c⟩,e=>by
  unfold nt at e;cases q:nt xs with
  |none=>grind
  |some f=>rw[q]at e;cases e;rw[G4 c q,show v=V.bl b from d];rfl
 |.non::_,_,_,_,e=>by cases e
 |.str _::_,_,_,_,e=>by cases e
 |.int _::_,_,_,_,e=>by cases e
 |.tup _::_,_,_,_,e=>by cases e
 |.lst _::_,_,_,_,e=>by cases e
 |.raw _::_,_,_,_,e=>by cases e
 |.exc _::_,_,_,_,e=>by cases e
def qw:List PV->Option PV
 |[.lst xs]=>(nt xs).map λbs=>.bl (bs.all id)
 |_=>ae
def zO:PL K (λxs H Q=>∃(p:af) (bs:List Bool),xs=[.ref p]/\cF K H p (bs.map V.bl)/\Q (.bl (bs.all id)) H) qw:=λF H xs h Q pv f e q=>by
 unfold qw at e;split at e
 .rename_i d;cases b:nt d with
  |none=>rw[b]at e;cases e
  |some bs=>
   rw[b]at e;cases e;obtain⟨v,rfl,a,i,rfl,c,_,g⟩:=gI f;rw[G4 g b]at c;exact⟨a,bs,rfl,.inl c,q _ F H (Al.refl ..) rfl⟩
 .cases e
def wp:PV->Option String
 |.non=>aa "NoneType"
 |.bl _=>aa "bool"
 |.int _=>aa "int"
 |.str _=>aa "str"
 |.tup _=>aa "tuple"
 |.lst _=>aa "list"
 |_=>ae
def jJ:List PV->Option PV
 |[x,.raw (.ty T)]=>(wp x).bind λt=>(iR [] (.type t) (.type T)).map λb=>.bl b
 |_=>ae
def sv:eG X (.builtin "isinstance") (λxs H Q=>∃x t T b,xs=[x,.ty T]/\jo X.K H x (.type t)/\iR X.K (.type t) (.type T)=aa b/\Q (.bl b) H):=by
 intro l s g H xs i Q I r h;obtain⟨x,t,T,b,rfl,ty,e,q⟩:=h;cases r with
 |cons f d=>
  cases d with
  |cons c a=>
   cases a;cases c;exact OD I f ty e λj=>⟨.bl b,H,I.tok _,rfl,q⟩
def Pg(r:aN K H F x v)(e:wp x=aa t):jo K H v (.type t):=by
 cases x with
 |non=>cases e;rw[show v=V.non from r];exact .non
 |bl b=>cases e;rw[show v=V.bl b from r];exact .bl b
 |int b=>cases e;rw[show v=V.int b from r];exact .int b
 |str b=>cases e;rw[show v=tV b from r.1];exact .str _
 |tup xs=>cases e;obtain⟨a,d,rfl,c,_⟩:=r;exact .tup c
 |lst xs=>
  cases e;obtain⟨a,d,rfl,c,_⟩:=r;rcases c with c|⟨o,c⟩
  .exact .lst c
  .exact .frz c
 |raw _=>cases e
 |exc _=>cases e
def sV:PL K (λxs H Q=>∃x t T b,xs=[x,.ty T]/\jo K H x (.type t)/\iR K (.type t) (.type T)=aa b/\Q (.bl b) H) jJ:=λF H xs i Q pv d e q=>by
 unfold jJ at e;split at e
 .rename_i x T;cases a:wp x with
  |none=>rw[a]at e;cases e
  |some t=>
   cases c:iR [] (.type t) (.type T)with
   |none=>rw[a,gz,c]at e;cases e
   |some b=>
    rw[a,gz,c]at e;cases e;obtain⟨v,j,rfl,h,g⟩:=d;obtain⟨u,rfl,f⟩:=gI g;rw[show u=V.ty T from f];exact⟨v,t,T,b,rfl,Pg h a,c,q _ F H (Al.refl ..) rfl⟩
 .cases e
def sB(c:X.mg x=ae)(a:fA x=aa (.type T))(d:Gl X x:=by rfl)(b:x≠"__name__":=by decide)(g:ad x:=by decide):DE X E (.Name x f) (dC (.raw (.ty T))):=λF S i h H Q r q=>cb (O9 (v:=.ty T) d c a rfl b g) (q F S H r (Grow.refl ..) _ rfl)
def bd:PV->PV->Option PV
 |.lst xs,.int i=>fI xs i
 |.tup xs,.int i=>fI xs i
 |.str x,.int i=>(fI x i).map λc=>.str [c]
 |_,_=>ae
def Fz(r:a6 K H F xs a)(e:fI xs i=aa x):∃v,fI a i=aa v/\aN K H F x v:=by
 unfold fI at e ⊢;rw[r.len];cases q:il xs.length i with
 |none=>rw[q]at e;cases e
 |some j=>rw[q]at e;exact r.get e
def eK:P2 K (Iv K) bd:=λF H x y v u Q pv b f e q=>by
 unfold bd at e;split at e
 .rename_i xs i;obtain⟨a,d,rfl,h,_,g⟩:=b;obtain⟨w,l,j⟩:=Fz g e;exact .inl ⟨a,d,i,w,rfl,f,.inl h,l,q _ F H (Al.refl ..) j⟩
 .rename_i xs i;obtain⟨a,d,rfl,h,g⟩:=b;obtain⟨w,l,j⟩:=Fz g e;exact .inr (.inl ⟨a,d,i,w,rfl,f,cu.of h,l,q _ F H (Al.refl ..) j⟩)
 .rename_i x i;cases m:fI x i with
  |none=>grind
  |some c=>
   rw[m]at e;cases e;rw[b.1];exact .inr (.inr ⟨_,i,c,rfl,f,by rw[kY];exact c7 b.2 kZ,by rw[j8];exact m,q _ F H (Al.refl ..) ⟨rfl,by show 1<=bD;decide⟩⟩)
 .cases e
def io{a:Type}(xs:List a)(b c:Option Int):List a:=(xs.drop (HT.sIx xs.length 0 b)).take (HT.sIx xs.length xs.length c-HT.sIx xs.length 0 b)
def QL(xs:List a)(b c:Option Int):(io xs b c).length<=xs.length:=by unfold io;rw[wE,wF];lia
def fu:PV->Option Int->Option Int->Option PV
 |.str x,a,b=>aa (.str (io x a b))
 |.lst xs,a,b=>aa (.lst (io xs a b))
 |.tup xs,a,b=>if HT.sIx xs.length 0 a=0/\HT.sIx xs.length xs.length b=xs.length then ae else aa (.tup (io xs a b))
 |_,_,_=>ae
def GR(K:ax):V->Option Int->Option Int->Hp->VK->Prop:=λx a b H Q=>G8 x a b H Q\/(GJ K x a b H Q\/HR K x a b H Q)
def lQ:nD X (GR X.K):=Vz.or (VC.or Oy)
def FV(r:a6 K H F xs a)(b c:Option Int):a6 K H F (io xs b c) (oP a b c):=by unfold io oP;rw[r.len];exact(r.drop _).take _
def lM:Hc K (GR K) fu:=λF H x h i v Q pv b e q=>by
 unfold fu at e;split at e
 .cases e;rw[b.1];refine .inl ⟨_,rfl,by rw[kY];exact c7 b.2 kZ,?_⟩;refine q _ F H (Al.refl ..) ⟨?_,c7 (QL ..) b.2⟩;unfold mx io;rw[kY,j8];rfl
 .cases e;obtain⟨a,f,rfl,g,_,d⟩:=b;exact .inr (.inl ⟨a,f,rfl,.inl g,λp c=>q _ _ _ (Al.new c) ⟨p,_,rfl,.inl upd_same,.inr rfl,(Al.new c).reps (FV d h i)⟩⟩)
 .split at e
  .cases e
  .rename_i j;cases e;obtain⟨a,f,rfl,g,d⟩:=b;exact .inr (.inr ⟨a,f,rfl,cu.of g,by rw[d.len];exact j,λp c=>q _ _ _ (Al.new0 c) ⟨p,_,rfl,upd_same,(Al.new0 c).reps (FV d h i)⟩⟩)
 .cases e
variable{d:ac PV}
def dA:PV->Option (List PV)
 |.lst xs=>aa xs
 |.tup xs=>aa xs
 |.str x=>aa (x.map λc=>.str [c])
 |_=>ae
def aU(d:ac PV):ac (List PV):=λε=>(d ε).bind λx ε1=>aS (dA x) ε1
def Bk:∀(x:Tx),a6 K H F (x.map λc=>PV.str [c]) (x.map sg)
 |[]=>rfl
 |c::x=>⟨sg c,x.map sg,rfl,⟨rfl,by show 1<=bD;decide⟩,Bk x⟩
def dS(he:DE X E l d):DI X E g l (aU d):=λF S ε Z H Rr rl h=>Bx.mk λag s I=>by
 have w:=he F S ε Z H (λv r=>∃B D u x,aL X.K B D u Z r/\aN X.K r B x v/\Ok X.K E Z B D r (aS (dA x) u) (λpvs _ F' S' H'=>∀J L RR,a6 X.K H' F' pvs L->L.length<=bo->Walk J L RR->(∀S'' F'' Y,Grow (U S') (U S'') F' F'' H' Y->RR Y)->Rr J H')) rl
  ((Ok.bind h).imp λx u B D r G g1 q v N=>⟨B,D,u,x,G,N,q⟩)
 refine aW (w.run ag s I) λv c ⟨x,r,y,rx,B,D,u,pv,G,N,q⟩=>?_;cases pv with
 |lst xs=>
  obtain⟨a,M,rfl,C,hF,ra⟩:=N;cases rx;obtain⟨O,rr,pp,P⟩:=y.list (.inl C);refine J2 pp.isList ?_;refine⟨c.heap.objs.size,[c.heap.objs.size],_,_,r,rfl,y.kept (t':=c.toks) λb o e=>bL _ e,Qu a _,⟨_,cV _ rfl,rfl,rfl⟩,λb T=>?_,q B D r G (Grow.refl ..) (AT X.K a) M (λH=>cF X.K H a M) ra P QJ λS2 F2 H2 g2=>.inl (g2.lst G.fit hF C)⟩;have e:b=c.heap.objs.size:= ~~~T
  subst e;exact y.fpOk (bi _) (y.hok.fresh (bi _))
 |tup xs=>
  obtain⟨a,M,rfl,C,ra⟩:=N;cases rx;obtain⟨O,rr,pp,P⟩:=y.tuple (cu.of C);refine Ab (show c.heap.IsTuple a O.toArray from pp) ?_;refine⟨c.heap.objs.size,[c.heap.objs.size],_,_,r,rfl,y.kept (t':=c.toks) λb o e=>bL _ e,Ti a _,⟨_,cV _ rfl,rfl,rfl⟩,λb T=>?_,q B D r G (Grow.refl ..) (Cj X.K a) M (λH=>cu X.K H a M) ra P LU λS2 F2 H2 g2=>cu.of (g2.imm G.fit C id)⟩;have e:b=c.heap.objs.size:= ~~~T
  subst e;exact y.fpOk (bi _) (y.hok.fresh (bi _))
 |str z=>
  obtain⟨rfl,P⟩:=N;obtain⟨t,rfl⟩:=rx;have qq:Rr (wo (tS z)) r:=q B D r G (Grow.refl ..) (wo (tS z)) (z.map sg) (λ_=>True) (Bk z) (by rw[cK];exact c7 P kZ) (by have:=Rp (z:=tS z);rw[j8]at this;exact this) λ_ _ _ _=>trivial;have W:∀(n:String) (j:Nat->aB->Prop),(∀i h,j i h->∃o n L,h.get? c.heap.objs.size=aa o/\o.cls=.type n/\o.data=.fields L /\ ["enumerate","zip","dict_itemiterator","dict_reverseitemiterator","odict_iterator","itertools.zip_longest","itertools.pairwise"].contains n=ak) ->
    (∀(A:aX) (i:Nat) (s:ao) (Q:ai->ao->Prop) (E:ai->ao->Prop),j i s.heap->Q (.ref c.heap.objs.size) s->ar X.zz A (nY (.ref c.heap.objs.size)) Q E s) ->
    (∀A:aX,A.handled=ae->Walks X.prog X.w A c.heap.objs.size [c.heap.objs.size] [c.heap.objs.size] (tS z).cps.size (SignAt (tS z)) j) ->
    j 0 (c.heap.push {cls:=.type n,data:=.fields #[.str (tS z) t,.int 0 0]}) ->
    yi X ag Z g Rr (.ref c.heap.objs.size) {c with heap:=c.heap.push {cls:=.type n,data:=.fields #[.str (tS z) t,.int 0 0]}}:=λn j q h2 h3 h4=>by
   refine⟨c.heap.objs.size,[c.heap.objs.size],j,wo (tS z),r,rfl,y.kept (t':=c.toks) λb o e=>bL _ e,S5 q h2 h3,h4,λb T=>?_,qq⟩;have e:b=c.heap.objs.size:= ~~~T
   subst e;exact y.fpOk (bi _) (y.hok.fresh (bi _))
  cases C:(tS z).cps.all (· < 128)
  .refine wpAny_pyIter_wide C (W "str_iterator" (λi h=>h.IsStrIter c.heap.objs.size "str_iterator" (tS z) t i) (λi h ⟨o,e1,e2,e3⟩=>⟨o,_,_,e1,e2,e3,by decide⟩) (λA i s Q E st h=>wpAny_pyIter_striter_wide st h) (λA' hA=>Walks.strWide hA _ (tS z) t) ⟨_,cV _ rfl,rfl,rfl⟩)
  .refine wpAny_pyIter_ascii C (W "str_ascii_iterator" (λi h=>h.IsStrIter c.heap.objs.size "str_ascii_iterator" (tS z) t i) (λi h ⟨o,e1,e2,e3⟩=>⟨o,_,_,e1,e2,e3,by decide⟩) (λA i s Q E st h=>wpAny_pyIter_striter_ascii st h) (λA' hA=>Walks.strAscii hA _ (tS z) t) ⟨_,cV _ rfl,rfl,rfl⟩)
 |non=>exact(show False from q).elim
 |bl _=>exact(show False from q).elim
 |int _=>exact(show False from q).elim
 |raw _=>exact(show False from q).elim
 |exc _=>exact(show False from q).elim
def eR(c:Int)(n:Nat):List PV:=(cJ n).map λi=>PV.int (c+(i:Nat))
def MD(c:Int)(n:Nat):a6 K H F (eR c n) (sQ c n):=by
 unfold eR sQ
 induction (cJ n)with
 |nil=>rfl
 |cons x xs h=>exact⟨_,_,rfl,rfl,h⟩
def kD:List PV->Option (List PV)
 |[.int j]=>if j<=1000000/\-1000000<=j then aa (eR 0 j.toNat)else ae
 |_=>ae
def vh(x:X.mg "range"=ae)(z:DA X E [a] m)(y:Gl X "range":=by rfl)(w:aV [a] X.env=[(ak,a9 a X.env)]:=by rfl):DI X E g (.Call (.Name "range" p) [a] [] f) (dL kD m):=λF S o i H J r h=>by
 refine N7 (UJ y x jh w) (z F S o i H _ r ((Ok.bind h).imp λxs n C A B s I c D u=>?_));unfold kD at c;split at c
 .rename_i j;split at c
  .rename_i G;obtain⟨v,rfl,q⟩:=gI u;refine⟨j,by rw[show v=V.int j from q],∅,∅,c C A B s (Grow.refl ..) _ _ _ (MD 0 j.toNat) (by rw[A7,t_];lia) OJ λ_ _ _ _=>trivial⟩
  .exact c.elim
 .exact c.elim
end
section
variable{K:ax}{F:af->Prop}{S:Nat->af->Prop}{f:aj}{l:St}{H:Hp}{i:Nat}{p m:List PV}{d:List V}{a:af}
def aL.lstAt(r:aL K F S f l H)(e:f[i]?=aa (.own (.lst p))):∃a c,l[i]?=aa (aa (.ref a))/\H a=aa (.lst c)/\a6 K H F p c/\S i a/\∀b,S i b->b=a:=by obtain⟨a,o,⟨c,n,j⟩,g⟩:=r.own i _ e;exact⟨a,c,o,n,j,(g a).mpr rfl,λb h=>(g b).mp h⟩
def aL.upd(r:aL K F S f l H)(e:f[i]?=aa (.own (.lst p)))(D:l[i]?=aa (aa (.ref a)))(h:a6 K H F m d):aL K F S (f.set i (.own (.lst m))) l (upd H a (.lst d))/\Grow (U S) (U S) F F H (upd H a (.lst d)):=by
 obtain⟨N,J,E,M,L,y,B⟩:=r.lstAt e;rw[D]at E;cases E;have A:i<f.length:=(cP.mp e).1;have g:Grow (U S) (U S) F F H (L2.upd H a (.lst d)):=⟨λ_ z=>z,λb o q n=>by rw[a8 (by rintro rfl;exact n ⟨i,y⟩)];exact q,λb o q=>by
  by_cases C:b=a
  .subst C;exact⟨_,upd_same⟩
  .exact⟨o,by rw[a8 C];exact q⟩,λ_ z=>.inl z,λ_ z=>.inl z⟩
 refine⟨⟨by rw[ge];exact r.len,λb z=>let ⟨o,q⟩:=r.ex b z;g.there b o q,λj pv q=>?_,λj po q=>?_,λj b z=>?_,r.dist⟩,g⟩
 .have s:i≠j:=by rintro rfl;rw[eE A]at q;cases q
  rw[cQ s]at q;obtain⟨v,x,u⟩:=r.val j pv q;exact⟨v,x,u.grow g r.fit⟩
 .by_cases s:i=j
  .subst s;rw[eE A]at q;cases q;exact⟨a,D,⟨d,upd_same,h.grow g r.fit⟩,λb=>⟨B b,λz=>by rw[z];exact y⟩⟩
  .rw[cQ s]at q;obtain⟨c,x,u⟩:=r.own j po q;refine⟨c,x,u.mono (λ_ _ z=>z.grow g r.fit) (λ_ _ z=>z.grow g r.fit) λb o z w=>?_⟩;rw[a8 (by rintro rfl;exact s (r.dist i j b y z))];exact w
 .obtain⟨⟨po,x⟩,u,o,I,G⟩:=r.foot j b z;by_cases s:i=j
  .subst s;rw[B b z];exact⟨⟨_,eE A⟩,by rw[<-B b z];exact u,_,upd_same,trivial⟩
  .exact⟨⟨po,by rw[cQ s];exact x⟩,u,o,by rw[a8 (by rintro rfl;exact s (r.dist i j b y z))];exact I,G⟩
end
section
variable{X:Cx}{E:XK}{pin:List Nat}{e b:aC}{de db:ac PV}{d:Pos}
def eY(a:aj)(i:Nat):Option (List PV):=match a[i]? with
 |some (.own (.lst xs))=>aa xs
 |_=>ae
def jH(h:eY a i=aa xs):a[i]?=aa (.own (.lst xs)):=by
 unfold eY at h;split at h
 .cases h;assumption
 .cases h
def vH(i:Nat)(de:ac PV):ac aM:=λc=>(aS (eY c i) c).bind λ_ c=>(de c).bind λy a=>(aS (eY a i) a).bind λxs a=>if xs.length<bD then .ok .next (a.set i (.own (.lst (xs++[y]))))else .no
def QC(i:Nat){f:Pos}(O:DE X E e de)(T:X.N[i]?=aa x:=by rfl)(L:ee X.env.scope x:=by eq_refl)(P:ad x:=by decide)(bv:az x:=by decide) (h1:n4 (.Name x p) "append" X.env (a9 (.Name x p) X.env)=a9 (.Name x p) X.env:=by rfl)(Z:((c8 c (aV [e] X.env)).all (λx=>!x.1)&&(q8 c (q_ [] X.env)).all (λx=>x.1.isSome)&&decide ([e].length+([]:List jL).length+(if([]:List jL).isEmpty then 0 else 1)<30))=ah:=by rfl)(Y:(f.endLine == c.line)=ah:=by rfl) (z:aV [e] X.env=(ak,a9 e X.env)::aV [] X.env:=by rfl) (W:(c8 c (aV [] X.env)).any (·.1)=ak:=by rfl)(M:jr (.Call (.Attribute (.Name x p) "append" f) [e] [] c) ae d.line X.env=pure ak:=by rfl):DS X E pin (.Expr (.Call (.Attribute (.Name x p) "append" f) [e] [] c) d) (vH i de):=λF S r o H D s h=>by
 unfold vH at h;cases n:eY r i with
 |none=>rw[n]at h;exact h.elim
 |some A=>
  rw[n]at h;simp only[bS,R.bind_ok]at h;obtain⟨a,B,m,Q,_,_,_⟩:=s.lstAt (jH n);refine fS (B0 (wc D3 PySem.F.slot_list_append PySem.F.type_list_append Hm (e_ T L P bv) (je bK jE z) h1 Z Y z W) M) ⟨.ref a,m,.inl ⟨rfl,_,cF.of Q⟩,?_⟩;refine O F S r o H _ s (h.bindE.imp λy l F1 S1 H1 w g1 q v G=>?_);cases j:eY l i with
  |none=>rw[j]at q;exact q.elim
  |some xs=>
   rw[j]at q;simp only[bS,R.bind_ok]at q;obtain⟨a',C,g,J,u,_,_⟩:=w.lstAt (jH j);rw[m]at g;cases g;split at q
   .rename_i N;obtain⟨I,g2⟩:=w.upd (jH j) m (u.app (.one G));exact⟨a,C,v,rfl,rfl,J,by rw[u.len];exact gQ N kZ,q F1 S1 o _ I g2 (iE.refl _ _)⟩
   .exact q.elim
def Qn:V->List V->Hp->VK->Prop:=λx c H Q=>∃l b xs a,x=.ref l/\c=[.ref b]/\H l=aa (.lst xs)/\Rd H b (.lst a)/\xs.length+a.length<=bo/\Q .non (L2.upd H l (.lst (xs++a)))
def QV:ww X "list.extend" Qn:=by
 intro N s B H x D v G Q I j m h;obtain⟨l,b,xs,C,rfl,rfl,i,w,L,q⟩:=h;cases j;obtain⟨u,rfl,o⟩:=m.one;cases o;obtain⟨z,c,n,r,M,e⟩:=I.lstM i;obtain⟨a,p,g,y,_⟩:=CA I w;have J:=g.length;have f:c.toArray.size+a.toArray.size<=bo:=by grind
 have A:¬(!c.toArray.isEmpty&&JX (c.toArray.size+a.toArray.size))=ah:=by rw[SM f,zZ];lia
 refine zU F.slot_list_extend ⟨_,e,rfl⟩ F.entry_list_extend (F.args_list_extend_2 _ _)
  (AutoSeq1.list_extend_list_list_0 l c.toArray n b a.toArray p A (by lia) ∅) ⟨e,y,?_⟩
 refine⟨.non,_,I.lset (its':=c++a) i e (by simp) (r.append g) ?_,rfl,q⟩;rw[iT];lia
def gJ(i:Nat)(de:ac PV):ac aM:=λε=>(aS (eY ε i) ε).bind λ_ ε=>(de ε).bind λy ε1=>(aS (eY ε1 i) ε1).bind λxs ε1=>match y with
 |.lst a=>if xs.length+a.length<=bD then .ok .next (ε1.set i (.own (.lst (xs++a))))else .no
 |_=>.no
def sR(i:Nat){g:Pos}(T:DE X E e de)(hN:X.N[i]?=aa x:=by rfl)(O:ee X.env.scope x:=by eq_refl)(W:ad x:=by decide)(bv:az x:=by decide) (h1:n4 (.Name x p) "extend" X.env (a9 (.Name x p) X.env)=a9 (.Name x p) X.env:=by rfl)(h2:((c8 f (aV [e] X.env)).all (λx=>!x.1)&&(q8 f (q_ [] X.env)).all (λx=>x.1.isSome)&&decide ([e].length+([]:List jL).length+(if([]:List jL).isEmpty then 0 else 1)<30))=ah:=by rfl)(h3:(g.endLine == f.line)=ah:=by rfl) (B:aV [e] X.env=(ak,a9 e X.env)::aV [] X.env:=by rfl) (h5:(c8 f (aV [] X.env)).any (·.1)=ak:=by rfl)(P:jr (.Call (.Attribute (.Name x p) "extend" g) [e] [] f) ae d.line X.env=pure ak:=by rfl):DS X E pin (.Expr (.Call (.Attribute (.Name x p) "extend" g) [e] [] f) d) (gJ i de):=λF S s r H D u h=>by
 unfold gJ at h;cases o:eY s i with
 |none=>rw[o]at h;exact h.elim
 |some C=>
  rw[o]at h;simp only[bS,R.bind_ok]at h;obtain⟨a,G,n,Z,_,_,_⟩:=u.lstAt (jH o);refine fS (B0 (wc D3 PySem.F.slot_list_extend PySem.F.type_list_extend QV (e_ hN O W bv) (je bK jE B) h1 h2 h3 B h5) P) ⟨.ref a,n,.inl ⟨rfl,_,cF.of Z⟩,?_⟩;refine T F S s r H _ u (h.bindE.imp λy m F1 S1 H1 A g1 q v L=>?_);cases l:eY m i with
  |none=>rw[l]at q;exact q.elim
  |some xs=>
   rw[l]at q;simp only[bS,R.bind_ok]at q;obtain⟨a',I,j,N,z,_,_⟩:=A.lstAt (jH l);rw[n]at j;cases j;split at q
   .rename_i ys;split at q
    .rename_i Q;obtain⟨c,J,rfl,Y,_,w⟩:=L;obtain⟨M,g2⟩:=A.upd (jH l) n (z.app w);exact⟨a,c,I,J,rfl,rfl,N,Y,by rw[z.len,w.len];exact c7 Q kZ,q F1 S1 r _ M g2 (iE.refl _ _)⟩
    .exact q.elim
   .exact q.elim
def zC(i:Nat)(db de:ac PV):ac aM:=λf=>(de f).bind λy c=>(aS (eY c i) c).bind λ_ c=>(db c).bind λk a=>(aS (eY a i) a).bind λxs a=>match k with
 |.int k=>match il xs.length k with
  |some j=>.ok .next (a.set i (.own (.lst (xs.set j y))))
  |none=>.no
 |_=>.no
def Ri(i:Nat)(hb:DE X E b db)(Y:DE X E e de)(hN:X.N[i]?=aa x:=by rfl)(Q:ee X.env.scope x:=by eq_refl)(Z:ad x:=by decide)(bv:az x:=by decide) (ha:∀v,mJ (.Subscript (.Name x p) b c) X.env v=(do
   let ov <-kb [v] (a9 (.Name x p) X.env)
   let iv <-kb [v,ov] (a9 b X.env)
   standAt c
   kb [v,ov,iv] (setItem ov iv v)
   release [v,ov,iv] []):=by intro _;rfl) (T:De [.Subscript (.Name x p) b c] e d.line X.env=pure ak:=by rfl) (P:Df [.Subscript (.Name x p) b c] e X.env=pure ae:=by rfl)
  (h1:(qU [.Subscript (.Name x p) b c] X.env).map (·.2)=[mJ (.Subscript (.Name x p) b c) X.env]:=by rfl):DS X E pin (.Assign [.Subscript (.Name x p) b c] e d) (zC i db de):=λF S B n H D M h=>by
 refine fS (By bK (EK (e_ hN Q Z bv) bK IW ha) T P h1) (Y F S B n H _ M (h.bindE.imp λy g F1 S1 H1 r g1 q v J=>?_));cases w:eY g i with
 |none=>rw[w]at q;exact q.elim
 |some C=>
  rw[w]at q;simp only[bS,R.bind_ok]at q;obtain⟨a,G,s,ha0,_,_,_⟩:=r.lstAt (jH w);refine⟨.ref a,s,hb F1 S1 g n H1 _ r (q.bindE.imp λk o F2 S2 H2 A g2 f u L=>?_)⟩;cases m:eY o i with
  |none=>rw[m]at f;exact f.elim
  |some xs=>
   rw[m]at f;simp only[bS,R.bind_ok]at f;obtain⟨a',I,l,O,z,_,_⟩:=A.lstAt (jH m);rw[s]at l;cases l;split at f
   .rename_i k;split at f
    .rename_i j W;obtain⟨N,g3⟩:=A.upd (jH m) s (z.set (J.grow g2 r.fit) j);exact⟨a,I,k,j,rfl,L,O,by rw[z.len];exact W,f F2 S2 n _ N g3 (iE.refl _ _)⟩
    .exact f.elim
   .exact f.elim
end
mutual
def imm:PV->Bool
 |.lst _=>ak
 |.tup xs=>nB xs
 |_=>ah
def nB:List PV->Bool
 |[]=>ah
 |x::xs=>imm x&&nB xs
end
mutual
def aN.imm{K:ax}{H:Hp}{F g:af->Prop}:∀(x:PV) {v:V},imm x=ah->aN K H F x v->aN K H g x v
 |.non,_,_,h=>h
 |.bl _,_,_,h=>h
 |.int _,_,_,h=>h
 |.str _,_,_,h=>h
 |.raw _,_,_,h=>h
 |.exc _,_,_,h=>h
 |.lst _,_,e,_=>by simp[Pu.imm]at e
 |.tup xs,_,e,⟨a,b,f,d,c⟩=>⟨a,b,f,d,a6.imm xs (by simpa[Pu.imm]using e) c⟩
def a6.imm{K:ax}{H:Hp}{F g:af->Prop}:∀(xs:List PV) {a:List V},nB xs=ah->a6 K H F xs a->a6 K H g xs a
 |[],_,_,h=>h
 |x::xs,_,e,⟨v,r,f,d,c⟩=>by
  have b:imm x=ah/\nB xs=ah:=by simpa[nB]using e
  exact⟨v,r,f,aN.imm x b.1 d,a6.imm xs b.2 c⟩
end
section
variable{K:ax}{F:af->Prop}{S:Nat->af->Prop}{d:aj}{c:St}{H:Hp}{i:Nat}{f:List PV}
def aL.look(r:aL K F S d c H)(e:d[i]?=aa (.own (.lst f))):∃a,c[i]?=aa (aa (.ref a))/\¬F a/\aN K H (λb=>F b\/b=a) (.lst f) (.ref a)/\(∀b,F b\/b=a->∃o,H b=aa o) /\ (∀{h g},Al (λb=>F b\/b=a) h H g->Al F (λb=>h b/\b≠a) H g):=by
 obtain⟨a,l,q,j,p,n,s⟩:=r.lstAt e;have m:¬F a:=(r.foot i a n).2.1;refine⟨a,q,m,⟨a,l,rfl,.inl j,.inr rfl,a6.mono (λ_ z=>.inl z) (λ_ _ _ z=>z) (λ_ _ z _=>z) _ _ p⟩,λb z=>z.elim (r.ex b) λz=>by rw[z];exact⟨_,j⟩,λ{h g} al=>⟨λb z=>⟨al.fro b (.inl z),by lia⟩,al.same,λb z=>?_⟩⟩;rcases al.fnew b z.1 with(w|w)|w
 .exact .inl w
 .exact absurd w z.2
 .exact .inr w
end
section
variable{X:Cx}{E:XK}{e b:aC}{de db:ac PV}{d p:Pos}{x y:Str}{l:String}{r:List V->Hp->VK->Prop}{f:List PV->Option PV}{g:List PV->Option PO}
def qd(o:Option PV):Option PV:=o.bind λv=>if imm v then aa v else ae
def Lx(h:qd o=aa v):o=aa v/\imm v=ah:=by
 cases o with
 |none=>cases h
 |some w=>have h:(if imm w then aa w else ae)=aa v:=h;lia
def Il:PO->Bool
 |.lst xs=>nB xs
 |_=>ak
def k9{c:Type}(f:List PV->Option c)(i:Nat):ac c:=λa=>(aS (eY a i) a).bind λxs a=>aS (f [.lst xs]) a
def UH(B:PL X.K r f)(s:aL X.K F S m j H)(h:Ok X.K E j F S H (k9 (λxs=>qd (f xs)) i m) (λpv _ z _ c=>∀v,aN X.K c z pv v->Q v c)):∃a,j[i]?=aa (aa (.ref a))/\r [.ref a] H Q:=by
 unfold k9 at h;cases q:eY m i with
 |none=>rw[q]at h;exact h.elim
 |some xs=>
  rw[q]at h;simp only[bS,R.bind_ok]at h;obtain⟨a,D,J,A,C,u⟩:=s.look (jH q);refine⟨a,D,?_⟩;cases o:qd (f [.lst xs])with
  |none=>rw[o]at h;exact h.elim
  |some pv=>rw[o]at h;obtain⟨I,G⟩:=Lx o;exact B _ H [.lst xs] [.ref a] Q pv (.one A) I λw z c al n=>h _ S c (s.al (u al)) (u al).grow w (aN.imm pv G n)
def HM(i:Nat)(A:eG X (.builtin l) r)(s:PL X.K r f)(v:X.mg x=ae)(n:fA x=aa (.builtin l))(B:X.N[i]?=aa y:=by rfl)(D:ee X.env.scope y:=by eq_refl)(z:ad y:=by decide) (I:az y:=by decide) (w:Gl X x:=by rfl) (u:x≠"__name__":=by decide) (m:ad x:=by decide)(h:aV [.Name y c] X.env=(ak,a9 (.Name y c) X.env)::aV [] X.env:=by rfl) (G:(c8 d (aV [] X.env)).any (·.1)=ak:=by rfl):DE X E (.Call (.Name x p) [.Name y c] [] d) (k9 (λxs=>qd (f xs)) i):=λF S L J H Q j q=>by obtain⟨a,C,o⟩:=UH s j q;exact cb (mH A w v n (je (e_ B D z I) jE h) u m h G) ⟨_,C,o⟩
def v4(o:Option PO):Option PO:=o.bind λv=>if Il v then aa v else ae
def S_(hp:lA X.K r g)(A:aL X.K F S s q H)(h:Ok X.K E q F S H (k9 (λxs=>v4 (g xs)) i s) (λB _ J S' n=>∀a u,fq X.K n J B a u->(∀b,u b->H b=ae/\¬J b/\¬U S' b/\∃o,n b=aa o/\eA o)->Q (.ref a) n)):∃a,q[i]?=aa (aa (.ref a))/\r [.ref a] H Q:=by
 unfold k9 at h;cases I:eY s i with
 |none=>rw[I]at h;exact h.elim
 |some xs=>
  rw[I]at h;simp only[bS,R.bind_ok]at h;obtain⟨a,ea,nF,Y,D,L⟩:=A.look (jH I);refine⟨a,ea,?_⟩;cases G:g [.lst xs]with
  |none=>rw[G]at h;exact h.elim
  |some B=>
   rw[G]at h;cases B with
   |dK m=>exact h.elim
   |lls b_=>exact h.elim
   |dL b_=>exact h.elim
   |ins C fs=>exact h.elim
   |dT m=>exact h.elim
   |dN m=>exact h.elim
   |inl C fs y xs=>exact h.elim
   |lst v=>
    have h:Ok X.K E q F S H (aS (if nB v then aa (PO.lst v)else ae) s) _:=h;split at h
    .rename_i hi;refine hp _ H [.lst xs] [.ref a] Q _ D (.one Y) G λc J n u al Z fr=>h _ S n (A.al (L al)) (L al).grow c u ?_ λb z=>?_
     .obtain⟨⟨W,o1,o2⟩,o3⟩:=Z;exact⟨⟨W,o1,a6.imm v hi o2⟩,o3⟩
     .obtain⟨P,O,o,N,M⟩:=fr b z;refine⟨P,λw=>O w.1,λ⟨j,w⟩=>?_,o,N,M⟩;obtain⟨_,_,o',w1,_⟩:=A.foot j b w;lia
    .exact h.elim
def Rt(i:Nat)(A:eG X (.builtin l) r)(s:lA X.K r g)(v:X.mg x=ae)(n:fA x=aa (.builtin l))(B:X.N[i]?=aa y:=by rfl)(D:ee X.env.scope y:=by eq_refl)(z:ad y:=by decide) (I:az y:=by decide) (w:Gl X x:=by rfl) (u:x≠"__name__":=by decide) (m:ad x:=by decide)(h:aV [.Name y c] X.env=(ak,a9 (.Name y c) X.env)::aV [] X.env:=by rfl) (G:(c8 d (aV [] X.env)).any (·.1)=ak:=by rfl):DN X E (.Call (.Name x p) [.Name y c] [] d) (k9 (λxs=>v4 (g xs)) i):=λF S L J H Q j q=>by obtain⟨a,C,o⟩:=S_ s j q;exact cb (mH A w v n (je (e_ B D z I) jE h) u m h G) ⟨_,C,o⟩
end
open L2
def lE(h:aB)(e T:af)(c g:ai):Prop:=∃a b f d,h.get? e=aa a/\a.cls=c/\(a.data=.fields b/\a.dict=ae)/\b[1]?=aa (.ref T)/\T≠e/\h.get? T=aa f/\f.data=.fields d/\d[3]?=aa g
def Made(h:aB)(e:af)(c:ai):Prop:=∃a b,h.get? e=aa a/\a.cls=c/\(a.data=.fields b/\a.dict=ae)/\b[1]?=aa .none
structure Kp(fs:List af)(X:af->Prop)(h h':aB):Prop where
 keep:∀b o,h.get? b=aa o->b∉fs->¬X b->h'.get? b=aa o
 slot:∀b o,h.get? b=aa o->b∈fs->¬X b->∃sl,h'.get? b=aa {o with slots:=sl}
 there:∀b o,h.get? b=aa o->∃o',h'.get? b=aa o'
def Kp.trans(a:Kp fs X h g)(b:Kp fs Y g f):Kp fs (λc=>X c\/Y c) h f where
 keep:=λc o e n x=>b.keep c o (a.keep c o e n λz=>x (.inl z)) n λz=>x (.inr z)
 slot:=λc o e n x=>by obtain⟨l,j⟩:=a.slot c o e n λz=>x (.inl z);obtain⟨d,i⟩:=b.slot c _ j n λz=>x (.inr z);exact⟨d,i⟩
 there:=λc o e=>let ⟨o',e'⟩:=a.there c o e;b.there c o' e'
def Kp.imp(a:Kp fs X h j)(f:∀b,b∈fs->b∈d)(g:∀b o,h.get? b=aa o->X b->Y b):Kp d Y h j where
 keep:=λc o e n x=>a.keep c o e (λz=>n (f c z)) λz=>x (g c o e z)
 slot:=λc o e n x=>by
  by_cases i:c∈fs
  .exact a.slot c o e i λz=>x (g c o e z)
  .exact⟨o.slots,a.keep c o e i λz=>x (g c o e z)⟩
 there:=a.there
def OC(f:Array ai->Array ai)(o:Obj):(mU f o).dict=o.dict:=by
 obtain⟨c,d,dt,a⟩:=o;cases dt <;> rfl
section
variable{A:aX}{s:ao}
def Gn(nh:A.frames=aa (l::g)) (S:s.heap.FunFrames z (l::g)) (hf:l.frame=aa L) (W:s.heap.get? e=aa w) (I:w.data=.fields G) (rQ:w.dict=ae) (v:1<G.size)(h:∀N T,Kp (fJ (l::g)) (λb=>b=e) s.heap N->lE N e T w.cls .none->s.heap.objs.size<=T->Q () {s with heap:=N}):ar M A (do let a <-frameOf l;let r <-entryPlaceOf L Vh;let b <-EntryCells.newEntry F a .none (dq L) .none r;l5 (.ref e) 1 b) (λ_ Z=>ar M A (wV (.ref e) ae) Q E Z) E s:=by
 have y:e∉(l::g).filterMap (·.frame):=λhm=>by obtain⟨_,o,D,Y⟩:=S.mem hm;rw[W]at D;injection D with D;subst D;exact Y G I
 refine aq (wpAny_frameOf_fun nh S hf λc d=>?_);refine aq (wpAny_entryPlaceOf λr X=>?_);unfold EntryCells.newEntry newFields;refine aq (ke ?_ (X.sizeOk5 _ _ _ _ _));have n:c.get? e=aa w:=(d.2.1 e y).trans W;have m:=bL (h:=c) {cls:=.type "traceback",dict:=ae,data:=.fields ([F,.ref L,.none,dq L,.none]++(if r.isEmpty then dW 6 Value.none else r)).toArray} n;refine mT m I v ?_;have C:c.objs.size≠e:=t9 (bH n);have j:=oj I (·.setIfInBounds 1 (Value.ref c.objs.size));have i:=mM (mU (·.setIfInBounds 1 (Value.ref c.objs.size))) m (wW j);have p:=(pr (c.push {cls:=.type "traceback",dict:=ae,data:=.fields ([F,.ref L,.none,dq L,.none]++(if r.isEmpty then dW 6 Value.none else r)).toArray}) (mU (·.setIfInBounds 1 (Value.ref c.objs.size))) (dj C)).trans (cV c rfl);unfold wV;refine aq (lX i j (x:=.ref c.objs.size) (by simp[v]) ?_);rw[if_pos (show(Value.ref c.objs.size != Value.none)=ah from by simp)];refine mT p rfl (by simp only[fD,iT,gR,re] <;> lia) (h _ c.objs.size ?_ ?_ ?_)
 .have keep:∀b o,b≠e->c.get? b=aa o ->
    (((c.push {cls:=.type "traceback",dict:=ae,data:=.fields ([F,.ref L,.none,dq L,.none]++(if r.isEmpty then dW 6 Value.none else r)).toArray}).update e (mU (·.setIfInBounds 1 (Value.ref c.objs.size)))).update c.objs.size (mU (·.setIfInBounds 3 ((ae:Option af).elim Value.none λf=>dq f)))).get? b=aa o:=λb o B u=>by
   have J:c.objs.size≠b:=t9 (bH u);rw[pr _ _ J,pr _ _ (dj B)];exact bL _ u
  refine⟨λb o u P H=>keep b o H ((d.2.1 b P).trans u),λb o u P H=>?_,λb o u=>?_⟩
  .obtain⟨O,q⟩:=d.2.2 b o u;exact⟨O,keep b _ H q⟩
  .by_cases B:b=e
   .subst B;exact⟨_,(pr _ _ C).trans i⟩
   .obtain⟨O,q⟩:=d.2.2 b o u;exact⟨_,keep b _ B q⟩
 .refine⟨_,_,_,_,(pr _ _ C).trans i,Kf _ _,⟨j,by rw[OC];exact rQ⟩,by simp[v],C,mM _ p (wW (oj rfl _)),oj rfl _,by first | (simp;done) | (rcases X with rfl|⟨_,_,_,_,_,_,_,rfl⟩ <;> simp)⟩
 .exact ug d.1.symm
def Rx(o:A.frames=aa (d::a))(q:s.heap.FunFrames f (d::a))(i:d.frame=aa L)(p:Made s.heap e c)(h:∀g T,Kp (fJ (d::a)) (λb=>b=e) s.heap g->lE g e T c .none->s.heap.objs.size<=T->Q () {s with heap:=g}):ar M A (leaving d (.ref e)) Q E s:=by obtain⟨v,u,j,r,⟨l,n⟩,m⟩:=p;subst r;unfold leaving zY;simp only[i];refine aq (aq (lX j l m ?_));rw[if_neg (by decide)];exact Gn o q i j l n (mQ.mp m).1 h
def HA(H:A.frames=aa (g::outer))(N:s.heap.FunFrames l (g::outer))(u:g.frame=aa L)(J:lE s.heap e T c .none)(h:∀j T',Kp (fJ (g::outer)) (λb=>b=e\/b=T) s.heap j->lE j e T' c .none->s.heap.objs.size<=T'->Q () {s with heap:=j}):ar M A (zY (.ref e) g) (λ_ C=>ar M A (wV (.ref e) ae) Q E C) E s:=by
 obtain⟨P,r,S,B,v,F,⟨w,D⟩,y,G,n,m,x⟩:=J;subst F;unfold zY;simp only[u];refine aq (lX v w y ?_);rw[if_pos (show(Value.ref T != Value.none)=ah from by simp)];refine aq (lX n m x ?_);rw[if_neg (show ¬((Value.none == dq L)=ah)from by simp[dq])];refine aq (mT n m (mQ.mp x).1 ?_);have a:∀b,b≠T->(s.heap.update T (mU (·.setIfInBounds 3 Value.none))).get? b=s.heap.get? b:=λb d=>pr _ _ (dj d);have f:∀b o,s.heap.get? b=aa o->(∀r,o.data≠.fields r)->b≠T:=λb o d p q=>by rw[q,n]at d;injection d with d;subst d;exact p B m
 refine Gn H (N.of_keeps λb o d p=>⟨o,(a b (f b o d p)).trans d,rfl⟩) u ((a e (dj G)).trans v) w D (mQ.mp y).1 λj T' k O W=>?_;have I:Kp (fJ (g::outer)) (λb=>b=T) s.heap (s.heap.update T (mU (·.setIfInBounds 3 Value.none))):=by
  refine⟨λb o d _ i=>(a b i).trans d,λb o d _ i=>⟨o.slots,(a b i).trans d⟩,λb o d=>?_⟩;by_cases i:b=T
  .subst i;exact⟨_,mM _ n (wW (oj m _))⟩
  .exact⟨o,(a b i).trans d⟩
 refine h j T' ((I.trans k).imp (λ_ z=>z) λb o _ z=>z.symm) O ?_;simp_all
def TJ(j:A.frames=aa (d::a))(m:s.heap.FunFrames f (d::a))(n:d.frame=aa L)(l:lE s.heap e T c .none)(h:∀g i,Kp (fJ (d::a)) (λb=>b=e\/b=T) s.heap g->lE g e i c .none->s.heap.objs.size<=i->Q () {s with heap:=g}):ar M A (leaving d (.ref e)) Q E s:=by unfold leaving;exact aq (HA j m n l h)
def Tg(B:lE s.heap e T c D)(h:∀l,Kp [] (λb=>b=T) s.heap l->lE l e T c .none->Q () {s with heap:=l}):ar M A (wV (.ref e) ae) Q E s:=by
 obtain⟨z,v,F,w,n,y,⟨p,x⟩,r,m,q,j,C⟩:=B;have u:3<w.size:=(mQ.mp C).1;have a:∀b,b≠T->(s.heap.update T (mU (·.setIfInBounds 3 ((ae:Option af).elim Value.none λf=>dq f)))).get? b=s.heap.get? b:=λb g=>pr _ _ (dj g);have d:=mM (mU (·.setIfInBounds 3 ((ae:Option af).elim Value.none λf=>dq f))) q (wW (oj j _));unfold wV;refine aq (lX n p r ?_);rw[if_pos (show(Value.ref T != Value.none)=ah from by simp)];refine mT q j u (h _ ⟨λb o g _ i=>(a b i).trans g,λb o g _ i=>⟨o.slots,(a b i).trans g⟩,λb o g=>?_⟩ ⟨z,v,_,_,(a e (dj m)).trans n,y,⟨p,x⟩,r,m,d,oj j _,by simp[u]⟩);by_cases i:b=T
 .subst i;exact⟨_,d⟩
 .exact⟨o,(a b i).trans g⟩
end
def lB(P:aQ)(w:aJ):gE:=λb H s E e s'=>∃(a T:af) (c:ai) (d:Hp),e=.ref a/\s'.os=s.os/\nV s'.gens/\Un (fJ b) [] H d s.heap s'.heap/\dy P w d s'.heap/\lE s'.heap a T c .none /\
 (s.heap.get? a=ae/\s.heap.get? T=ae/\d a=ae/\d T=ae)/\E c ae d
def Lm(x:cn P w H h a o):∃u,h.get? a=aa u:=by
 cases o with
 |lst xs=>obtain⟨_,_,_,_,e⟩:=x;exact⟨_,e⟩
 |tup xs=>obtain⟨_,_,_,⟨o,e,_⟩,_⟩:=x;exact⟨_,e⟩
 |dK b=>obtain⟨_,_,_,_,o,_,_,e,_⟩:=x;exact⟨_,e⟩
 |dT b=>obtain⟨_,_,_,_,o,_,_,e,_⟩:=x;exact⟨_,e⟩
 |dN b=>obtain⟨_,_,_,_,o,_,_,e,_⟩:=x;exact⟨_,e⟩
 |set S n=>obtain⟨o,_,_,_,e,_⟩:=x;exact⟨_,e⟩
 |ins C l fs=>obtain⟨_,_,_,e,_⟩:=x;exact⟨_,e⟩
 |own y=>exact x
 |xd fs=>obtain⟨_,⟨_,_,_,e,_⟩,_⟩:=x;exact⟨_,e⟩
 |rng i j=>obtain⟨_,_,_,e⟩:=x;exact⟨_,e⟩
 |frz g u=>obtain⟨e,_⟩:=x;exact⟨_,e⟩
 |tbl d=>obtain⟨_,e,_⟩:=x;exact⟨_,e⟩
 |met f y=>exact⟨_,x⟩
 |ext c=>obtain⟨_,e,_⟩:=x;exact e
def NN(x:dy P w H h)(e:h.get? a=ae):H a=ae:=by
 cases q:H a with
 |none=>rfl
 |some u=>obtain⟨o,z⟩:=Lm (x a u q);lia
def tR(u:Un fs [] H c h b)(e:b.get? a=ae):h.get? a=ae:=by
 cases q:h.get? a with
 |none=>rfl
 |some o=>obtain⟨d,z⟩:=u.there a o q (by simp);lia
def CJ(u:Un fs [] H p h v)(k:Kp a X v s)(x:∀b o,h.get? b=aa o->b∈a->b∈fs)(j:∀b o,h.get? b=aa o->¬X b)(y:∀b∈a,p b=ae):Un fs [] H p h s where
 keep:=λb o e n i d=>k.keep b o (u.keep b o e n i d) (λz=>i (x b o e z)) (j b o e)
 slot:=λb o e n i d=>by
  obtain⟨w,m⟩:=u.slot b o e n i d;by_cases r:b∈a
  .obtain⟨l,f⟩:=k.slot b _ m r (j b o e);exact⟨l,f⟩
  .exact⟨w,k.keep b _ m r (j b o e)⟩
 free:=u.free
 there:=λb o e d=>let ⟨o',e'⟩:=u.there b o e d;k.there b o' e'
 tups:=u.tups
 frzs:=u.frzs
 tbls:=λb q e=>⟨(u.tbls b q e).1,λc o f g=>⟨k.keep c o ((u.tbls b q e).2 c o f g).1 (λz=>by have m:=((u.tbls b q e).2 c o f g).2;grind) (j c o g),((u.tbls b q e).2 c o f g).2⟩⟩
def BK(x:dy P w H h)(k:Kp fs X h a)(d:∀b∈fs,H b=ae)(g:∀b,X b->H b=ae):dy P w H a:=λb u e=>
 (x b u e).stay (λc v f q=>k.keep c v q (λz=>by
   grind) λz=>by
   grind) (λ_ q=>q) λ_ _ q=>q
section
variable{P:aQ}{w:aJ}{K:ax}{n:Str->Option ai}{l:aB}{N:List Str}{j:Str}{g:dU}{f:af}{p:ai}{A:aX}{i:List Env}{d:ao}{m:Hp}{E:XK}
def d_:s_ (lB P w) (jc (lB P w) P w K n l N j g f p A i d m E) E:=λag Y H s e s' I h=>by
 obtain⟨a,T,c,X,rfl,G,J,un,y,O,⟨Q,W,F,nT⟩,M⟩:=h;have r:=I.call' (s':=s') (ch:=[]) G un y J (λb z=>absurd z (by simp));refine TJ (L:=d.heap.objs.size) I.ok.frames r.stack rfl O λZ D k B x=>?_;have Pr:(jc (lB P w) P w K n l N j g f p A i d m E).ex=[]:=rfl;have C:d.heap.get? a=ae:=tR I.base Q;have S:d.heap.get? T=ae:=tR I.base W;have v:d.heap.get? D=ae:=tR r.base (Dd x);have u:∀b o,d.heap.get? b=aa o->b≠a/\b≠T:=λb o e=>⟨(by lia),(by lia)⟩
 refine⟨a,D,c,X,rfl,r.os,r.bare,CJ r.base k (λb o e z=>?_) (λb o e z=>z.elim (u b o e).1 (u b o e).2) r.stkFree,BK r.hok k r.stkFree (λb z=>by lia),B,⟨C,v,F,r.hok.fresh x⟩,M⟩;rcases cC.mp (I.stkSub b z)with q|q
 .exact absurd (bH e) (by rw[q];exact jq _)
 .exact q
end
section
variable{X:Cx}{E:XK}{de:ac PV}
def EN(X:Cx)(E:XK):Prop:=∀(p:List (af×Obj)) (m:St) (H:Hp) (s:ao) (a:af) (c:ai) (h:aB),Inv X p m H s->(∀b o,s.heap.get? b=aa o->h.get? b=aa o)->Made h a c->s.heap.get? a=ae->(E c ae H)->X.xe (.ref a) {s with heap:=h}
def vk(c:ai)(de:ac PV):ac aM:=λb=>(de b).bind λ_ a=>.er c a
def QO{h c:aB}{e:af}{a:ai}{b:List ai}(m:Heap.MadeExcOf h c e a b):Made c e a:=by obtain⟨t,o,_,_⟩:=m.there;exact⟨_,_,o,rfl,⟨rfl,rfl⟩,rfl⟩
def B1(hx:EN X E)(hc:X.calm=ah)(O:OwnCls x C j d X.mg X.base)(Y:ExcBaseFacts B d g j)(he:DE X.nox E0 e de)(hg:Gl X x:=by rfl)(hd:ad x:=by decide)(Q:aV [e] X.env=[(ak,a9 e X.env)]:=by rfl):DS X E f (.Raise (aa (.Call (.Name x n) [e] [] i)) ae l) (vk (.ref C) (λy=>bq (de y))):=λF S y o H D rl q=>Bx.mk λW s I=>by
 obtain⟨Z,N,nm,qn,bs,hdct,sn,sub,ab,col,dd,k0,k1,k2,k3,k5,mN,hC,hN,L,T⟩:=O.obj;refine wpAny_Raise_call_subT (C:=C) (nm:=nm) (q:=qn) (N:=N) (bs:=bs) (bm:=Z) (hdct:=hdct) (sn:=sn) (sub:=sub) (ab:=ab) (col:=col) (dd:=dd) (k0:=k0) (k1:=k1) (k2:=k2) (k3:=k3) (k5:=k5)
  Y (mN:=mN) (T.hasType Y.hasBase) (I.ok.hd hc) (by rw[Q];rfl) L (tY I hg O.bound ⟨rfl,?_⟩ hd)
 have q2:Ok X.K E0 o F S H (de y) (λ_ b w p r=>gL X.K E f o w p r (.er (.ref C) b) D):=by
  have q:gL X.K E f o F S H ((bq (de y)).bind λ_ b=>.er (.ref C) b) D:=q;cases M:de y with
  |no=>rw[M]at q;exact q.elim
  |er c G=>rw[M]at q;exact q.elim
  |ok v G=>rw[M]at q;exact λF' S' H' r' g'=>q.from g' (iE.refl _ _)
 rw[Q];refine Do (fh (Dh (fh ((he F S y o H (λv r=>∃w p b,aL X.K w p b o r/\gL X.K E f o w p r (.er (.ref C) b) D) rl (q2.imp λv b w p r P g1 h v' rv=>⟨w,p,b,P,h⟩)).run W s (I.wish _)) (λu s1 ⟨v,r,A,P,w,p,b,J,ok⟩=>?_) λ_ _ z=>z.elim)) (λ_ _ z=>z) λ_ _ z=>z);have A:=A.unwish;refine JK ⟨rfl,(by show 1<=bo;decide),A.bk _ _ hC,hN.keeps A.bk,T.keeps A.bk,λh' a m=>?_⟩;exact hx W o r s1 a (.ref C) h' A m.keeps (QO m) m.new (ok ae w p o r J (Grow.refl ..) (iE.refl _ _))
end
section
variable{P:aQ}{w:aJ}{K:ax}{m:Str->Option ai}{j:aB}{N:List Str}{i:Str}{g:dU}{f:af}{n:ai}{A:aX}{h:List Env}{d:ao}{l:Hp}{E:XK}
def AR:EN (jc (lB P w) P w K m j N i g f n A h d l E) E:=λM C H s a c y I G F new J=>by
 have p:Inv _ M C H {s with heap:=y}:=I.kept (t':=s.toks) G;refine Rx (s:={s with heap:=y}) (L:=d.heap.objs.size) I.ok.frames p.stack rfl F λO B k v u=>?_;have x:d.heap.get? a=ae:=tR I.base new;have r:d.heap.get? B=ae:=tR p.base (Dd u);have D:H a=ae:=NN I.hok new;refine⟨a,B,c,H,rfl,p.os,p.bare,CJ p.base k (λb o e z=>?_) (λb o e z=>by lia) p.stkFree,BK p.hok k p.stkFree (λb z=>by lia),v,⟨x,r,D,p.hok.fresh u⟩,J⟩;rcases cC.mp (I.stkSub b z)with q|q
 .exact absurd (bH e) (by rw[q];exact jq _)
 .exact q
end
section
def N3(I:Inv X f a H s)(hN:X.N.Nodup)(Y:X.N[i]?=aa x)(W:X.env.scope.names.lookup x=aa .local)(P:a[i]?=aa (aa v))(h:∀s',Inv X f (a.set i ae) H s'->Q () s'):ar M A (unbindName X.env x) Q E s:=by
 obtain⟨m,S,T⟩:=id I.loc;have oy:(X.env.scope.kind == .class||(X.env.scope.kind == .module&&X.env.locals != X.env.globals))=ak:=by rw[I.ok.kind];rfl
 have C:i<a.length:=(cP.mp P).1;obtain⟨u,_,lk⟩:=T i x v Y P (.inl W);have hm:m x=aa u:=by
  rcases lk with⟨_,z⟩|⟨z,_⟩
  .exact z
  .have z:X.env.scope.names.lookup x=aa .cell\/X.env.scope.names.lookup x=aa .free:=z;lia
 refine wpAny_unbindName_local W S hm oy λh' u' G r=>?_;obtain⟨oL,_,_,ki,_⟩:=id S;have up:∀b o,X.s₀.heap.get? b=aa o->h'.get? b=s.heap.get? b:=λb o e=>r.2 b (dE (gQ (bH e) I.ok.above));refine h _ ⟨I.ok,I.os,I.bare,⟨λb o e n L B=>(up b o e).trans (I.base.keep b o e n L B),λb o e n L B=>?_,I.base.free,λb o e B=>?_,I.base.tups,I.base.frzs,λb q e=>⟨(I.base.tbls b q e).1,λc o l g=>⟨(r.2 c (λz=>by have D:=((I.base.tbls b q e).2 c o l g).2;rw[z,I.free]at D;cases D)).trans ((I.base.tbls b q e).2 c o l g).1,((I.base.tbls b q e).2 c o l g).2⟩⟩⟩,⟨_,G,λj y Z D l e3=>?_⟩,λy c e=>?_,I.free,I.freeC,λp hp=>?_,λb ob e=>?_,by rw[ge];exact I.len⟩
 .obtain⟨sl,q⟩:=I.base.slot b o e n L B;exact⟨sl,(up b o e).trans q⟩
 .obtain⟨o',q⟩:=I.base.there b o e B;exact⟨o',(up b o e).trans q⟩
 .by_cases J:j=i
  .subst J;rw[eE C]at l;cases l
  .rw[cQ (dj J)]at l;obtain⟨w,r',q⟩:=T j y Z D l e3;refine⟨w,r',?_⟩;rcases q with⟨k,e⟩|⟨k,c,e,z⟩
   .have:y≠x:=λe=>J (AQ hN D (e ▸ Y));exact .inl ⟨k,by simp[this,e]⟩
   .exact .inr ⟨k,c,e,z.sameBut r (I.cne y c e)⟩
 .obtain⟨N,z⟩:=I.cell y c e;exact⟨N,z.sameBut r (I.cne y c e)⟩
 .obtain⟨e,n,O,nf,d⟩:=I.pin p hp;exact⟨(r.2 p.1 O).trans e,n,O,nf,d⟩
 .refine(I.hok b ob e).stay (λc N F q=>(r.2 c ?_).trans q) (λ_ q=>q) λ_ _ q=>q;rintro rfl;rcases F with rfl|F
  .rw[I.free]at e;cases e
  .rw[I.free]at F;cases F
end
def XP(X:Cx)(f:List (af×Obj))(d:St)(g:ai->Hp->Prop)(e:ai)(s':ao):Prop:=∃a b,Inv X f d b a/\lB X.prog X.w X.stack b a (λc _ h=>g c h) e s'
def DX(X:Cx)(e:aC)(d:ac Slot):Prop :=
 ∀F S h a H Q (i:ai->Hp->Prop),aL X.K F S h a H->Ok X.K (λc _ f=>i c f) a F S H (d h) (λs _ l m f=>∀v j,o7 X.K f l s v j->(∀b,j b->H b=ae/\¬l b/\¬U m b/\∃o,f b=aa o/\eA o)->Q v f) ->
  ∀g s,Inv X g a H s->ar X.zz X.A (a9 e X.env) (EP X g a Q) (XP X g a i) s
section
variable{X:Cx}{l:ac (List c9)}{g:ac Slot}{d:ac Slot}
def tj(g:ac Slot)(l:ac (List c9)):ac Slot:=λc=>(bq (l c)).bind λb ε1=>(aS (if(cI b).Nodup then eU ε1 b else ae) ε1).bind λf ε1=>fP ε1 b (g f)
def MZ(c:qE (lB X.prog X.w) X.prog X.w X.K X.mg X.base x k m (fY X.K g))(hr:fR k X.A)(ha:DG X.nox E0 (e::a) l)(hg:Gl X x:=by rfl)(hd:ad x:=by decide) (h1:aV (e::a) X.env=(ak,a9 e X.env)::aV a X.env:=by rfl) (h2:(c8 j (aV a X.env)).any (·.1)=ak:=by rfl):DX X (.Call (.Name x p) (e::a) [] j) (tj g l):=λF S ε O H Q XE rl h ag s I=>by
 obtain⟨f,fd,hm,Fn,hb,hk⟩:=c.ex;have q0:Ok X.K E0 O F S H (l ε) (λA n D E C=>Ok X.K (λc _ B=>XE c B) O D E C ((aS (if(cI A).Nodup then eU n A else ae) n).bind λP n=>fP n A (g P)) (λs _ G S' B=>∀v M,o7 X.K B G s v M->(∀b,M b->H b=ae/\¬G b/\¬U S' b/\∃o,B b=aa o/\eA o)->Q v B)):=by
  unfold tj at h;cases e0:l ε with
  |no=>rw[e0]at h;exact h.elim
  |er c ε'=>rw[e0]at h;exact h.elim
  |ok A n=>rw[e0]at h;exact λD E C J g1=>Ok.from h g1
 refine zS (tY I hg hm ?_ hd);have wa:=(ha F S ε O H (λT C=>∃D E n A,aL X.K D E n O C/\jW X.K O D C A T/\(∀b,C b=ae->H b=ae)/\Ok X.K (λc _ B=>XE c B) O D E C ((aS (if(cI A).Nodup then eU n A else ae) n).bind λP n=>fP n A (g P)) (λs _ G S' B=>∀v M,o7 X.K B G s v M->(∀b,M b->H b=ae/\¬G b/\¬U S' b/\∃o,B b=aa o/\eA o)->Q v B)) rl (q0.imp λA n D E C J g1 q T Z=>⟨D,E,n,A,J,Z,λb z=>oQ g1 z,q⟩)).run j ag s (I.wish _);refine JL (h₀:=X.base) I.ok.mod.kin hk (fh wa (λus s1 ⟨T,C,N,r,D,E,n,A,J,Z,fb,q⟩=>⟨N.unwish.kIn,?_⟩) λ_ _ z=>z.elim) h1 h2;have N:=N.unwish;have q:=Ok.bind q;by_cases W:(cI A).Nodup
 .rw[if_pos W]at q;cases a:eU n A with
  |none=>rw[a]at q;exact q.elim
  |some P=>
   rw[a]at q;have q:=q D E C J (Grow.refl ..);dsimp only at q;have gT:fY X.K g T C Q (λc _ B=>XE c B):=by
    refine⟨D,lF A E,P,J.cal Z a W,?_⟩;cases eg:g P with
    |no=>rw[eg]at q;exact q.elim
    |er cv aP=>
     rw[eg]at q;intro y G S' B r' g';unfold fP at q;dsimp only at q;by_cases L:fX A aP=ah
     .rw[if_pos L]at q;obtain⟨S2,r2,g2,_⟩:=J.called Z a W r' g' (λ_ z=>z) (nG L);exact q ae G S2 B r2 g2
     .rw[if_neg L]at q;exact q.elim
    |ok sl aP=>
     rw[eg]at q;intro v G S' B M r' g' rv lo fr;unfold fP at q;dsimp only at q;by_cases L:fX A aP=ah
     .rw[if_pos L]at q;obtain⟨S2,r2,g2,u2⟩:=J.called Z a W r' g' (λ_ z=>.inl z) (nG L);refine q G S2 B r2 g2 v M rv λb z=>⟨fb b (fr b z),(lo b z).1,λw=>?_,(lo b z).2.2⟩
      rcases u2 b w with w|⟨i,w⟩
      .exact(lo b z).2.1 w
      .obtain⟨_,_,o,y1,_⟩:=J.foot i b w
       grind
     .rw[if_neg L]at q;exact q.elim
   have hl:us.length=m.length:=by rw[<-r.length];exact Fn.len _ _ _ _ gT
   refine zR (qW (Fn.run X.A X.stack s1 C ⟨us,[]⟩ us T Q _ hr N.env0 (by have:=hb s1 us N.kIn (by grind);rwa[ix]at this) r gT) λrr s' Y=>?_);cases rr with
   |error er=>exact⟨s1,C,N,Y⟩
   |ok fl=>
    cases fl with
    |ret u=>exact N.after Y
    |next=>exact iy Y
    |brk=>exact iy Y
    |cont=>exact iy Y
 .rw[if_neg W]at q;exact q.elim
end
abbrev hand(X:Cx)(a:af):Cx:={X with A:=X.A.mark (aa (.ref a)),calm:=ak,xe:=λ_ _=>False}
section
def Inv.hand(I:Inv X c b H s)(d:(X.A.mark (aa (.ref a))).frames=X.A.frames:=by rfl):Inv (Pu.hand X a) c b H s :=
 ⟨⟨I.ok.mod,I.ok.kind,I.ok.glob,I.ok.blt,I.ok.above,I.ok.inj,I.ok.has,I.ok.cab,(λz=>by cases z),d.trans I.ok.frames,I.ok.stk,I.ok.exf,I.ok.bs,I.ok.bsz,I.ok.noex,I.ok.exfs,I.ok.funs,I.ok.frf,I.ok.tab⟩,I.os,I.bare,I.base,I.loc,I.cell,I.free,I.freeC,I.pin,I.hok,I.len⟩
def Inv.unhand(I:Inv (Pu.hand X a) c b H s)(ok:X.Ok):Inv X c b H s:=⟨ok,I.os,I.bare,I.base,I.loc,I.cell,I.free,I.freeC,I.pin,I.hok,I.len⟩
end
def Under(h:aB)(D:af)(c:ai):Prop:=∃C g N j q bs b i d s f r p o n m l a,c=.ref C/\h.get? C=aa (excClassObj j q C N bs g b i d s f r p o n m l a)/\(Value.ref C::g).contains (.ref D)=ah
def qJ(h:aB)(D:af):Prop:=∃f N i q bs b g c r d p o n m l j a,h.get? D=aa (excClassObj i q D N bs f b g c r d p o n m l j a)/\f.contains (.type "BaseException")=ah
def Under.keeps{d:aB}(x:Under h D c)(k:∀b o,h.get? b=aa o->d.get? b=aa o):Under d D c:=by obtain⟨C,bm,N,nm,q,bs,hdct,sn,sub,ab,col,dd,k0,k1,k2,k3,k5,a,e,g,f⟩:=x;exact⟨C,bm,N,nm,q,bs,hdct,sn,sub,ab,col,dd,k0,k1,k2,k3,k5,a,e,k _ _ g,f⟩
def qJ.keeps{c:aB}(x:qJ h D)(k:∀b o,h.get? b=aa o->c.get? b=aa o):qJ c D:=by obtain⟨bm,N,nm,q,bs,hdct,sn,sub,ab,col,dd,k0,k1,k2,k3,k5,a,f,d⟩:=x;exact⟨bm,N,nm,q,bs,hdct,sn,sub,ab,col,dd,k0,k1,k2,k3,k5,a,k _ _ f,d⟩
def Ml{s:ao}(J:Under s.heap D c)(b:qJ s.heap D)(O:s.heap.get? e=aa o)(x:o.cls=c)(L:Q ah s):ar M A (excMatches (.ref e) (.ref D)) Q E s:=by
 obtain⟨C,bm,N,nm,q,bs,p,X,v,ab,S,dd,k0,k1,k2,k3,k5,i,rfl,r,I⟩:=J;obtain⟨m,N',y,Y,T,j,w,n,W,u,P,H,G,F,B,z,a,b,hb⟩:=b;obtain⟨h,g,d,t,Z⟩:=s;have l:(Value.ref D::m).contains (.type "BaseException")=ah:=by grind
 have f:=tc_notTuple;unfold excMatches
 repeat (first | (with_reducible refine Kg O ?_;rw[x])|with_reducible refine Kg r ?_|with_reducible refine Kg b ?_ | (with_reducible refine wpAny_isSubtype_exc r ?_;rw[I]) | (with_reducible refine wpAny_isSubtype_exc b ?_;rw[l])|wp_step)
 exact L
section
variable{X:Cx}{l:List bf}{g:ai->Bool}
def aL.unset{K:ax}{F:af->Prop}{S:Nat->af->Prop}{c:aj}{h:St}{H:Hp}{i:Nat}(r:aL K F S c h H):aL K F (λj b=>S j b/\j≠i) (c.set i .none) (h.set i ae) H:=by
 have a:=r.drop i;have o:∀{j:Nat}{s:Slot},(c.set i .none)[j]?=aa s->s≠.none->j≠i:=λ{j s} e u z=>by
  grind
 refine⟨by rw[ge,ge];exact r.len,r.ex,λj pv e=>?_,λj q e=>?_,a.foot,a.dist⟩
 .obtain⟨v,f,d⟩:=a.val j pv e;exact⟨v,by rw[cQ (dj (o e (by intro z;cases z)))];exact f,d⟩
 .obtain⟨v,f,d⟩:=a.own j q e;exact⟨v,by rw[cQ (dj (o e (by intro z;cases z)))];exact f,d⟩
def TL(ok:dy P w H h)(j:H a=ae)(f:lE h a T c M):dy P w (upd H a (jD a c)) h:=λb u q=>by
 by_cases s:b=a
 .subst s;rw[upd_same]at q;cases q;obtain⟨i,F,_,_,r,L,J,_⟩:=f;exact⟨⟨i,F,r,L,J⟩,⟨i,r⟩,λW S ⟨o,v,Q,O,N⟩ k=>⟨o,v,k o Q,O,N⟩⟩
 .rw[a8 s]at q;exact(ok b u q).stay (λ_ _ _ z=>z) (λd z=>by rw[a8 (kX z j)];exact z) λd xs z=>by rw[a8 (kX z j)];exact z
end
structure k7(k:Nat)(A:aX):Prop where
 dp:A.depth+3*k+5<recursionLimit
 un:A.units+16*k+200<cLine
def fR.hand(r:fR k A):k7 k (A.mark v):=⟨r.dp,r.un⟩
def k7.mono(r:k7 k A)(h:j<=k):k7 j A:=⟨by have:=r.dp;lia,by have:=r.un;lia⟩
def k7.deeper(r:k7 (k+1) A)(a:Env):k7 k (A.deeper a) :=⟨by have:=r.dp;show A.depth+1+3*k+5<_;lia,by have:=r.un;show A.units+3+16*k+200<_;lia⟩
def k7.units(r:k7 k A):A.units+64<cLine:=by have:=r.un;lia
def wm(P:aQ)(w:aJ)(K:ax)(g:Str->Option ai)(d:aB)(N:List Str)(c:Str)(a:dU)(f:af)(h:ai)(A:aX)(b:List Env)(s:ao)(H:Hp):Cx :=
 {(jc Bp P w K g d N c a f h A b s H E0)with calm:=ak,xe:=λ_ _=>False}
structure A1(P:aQ)(w:aJ)(K:ax)(mg:Str->Option ai)(base:aB)(k:Nat)(f:af)(fd:iw)(ps:List Str)(sp:Sp):Prop where
 len:∀vs H Q E,sp vs H Q E->vs.length=ps.length
 run:∀(A:aX) (outer:List Env) (s:ao) (H:Hp) (args:Args) (us:List ai) (vs:List V) (Q:VK),k7 k A->sJ P w K mg base A outer s H->BindsTo s fd args (ps.zip us)->bG vs us->sp vs H Q E0 ->
  mL (aw P w) A (.call (.ref f) args) (CR Bp outer P w H s Q E0) s
structure yA(P:aQ)(w:aJ)(K:ax)(mg:Str->Option ai)(base:aB)(x:Str)(k:Nat)(ps:List Str)(sp:Sp):Prop where
 ex:∃f fd,mg x=aa (.ref f)/\A1 P w K mg base k f fd ps sp/\Binds K fd ps []/\qX K (.ref f)=ah
def N9{K:ax}{F:Str->Option ai}{k:Nat}{B g:Str}{i:Arguments}{l:List bf}{a:dU}{dV kV M pm C ct oc:ai}{an od:Option af}{Z:Array (Option ai)}{N O:List Str}{T:Sp} (lk:K.lookup f=aa ⟨oc,od,.func (iS B g i l a dV kV M pm an C ct),Z⟩) (bv:wD K C g=ah) (S:cq N O a)(len:∀p H Q E,T p H Q E->p.length=O.length)(ii:∀(A:aX) (c:List Env) (s:ao) (H:Hp) (p:List V) (Q:VK),k7 k (A.deeper (jt g a s.heap.objs.size f C))->T p H Q E0 -> oY (wm P w K F h N g a f C A c s H) l {nx:=λ_ D=>Q .non D,rt:=Q} (L2.start N p) H):A1 P w K F h (k+1) f (iS B g i l a dV kV M pm an C ct) O T:=by
 refine⟨len,λA c s H args us p Q hr j hb r gT=>?_⟩;have hl:=len _ _ _ _ gT;have KX:K.In s.heap:=j.mod.kin.keeps λb o e=>(j.bs b o e).1;have lim:s.heap.NoLimit:=j.mod.nolimit.keeps λb o e=>(j.bs b o e).1;have Es:∀y∈O.zip us,a.names.lookup y.1=aa .local\/(a.names.lookup y.1=aa .cell/\((gc (s.heap.objs.size+1) a.names []).lookup y.1).isSome=ah):=λ⟨n,v⟩ hy=>(S.par n (wB hy).1).imp id λq=>⟨q,JM _ _ _ (.inl q)⟩
 refine codeAny_call_function (by have:=hr.dp;lia) (KX _ _ lk) rfl S.co S.gen rfl (PySem.W.codeRec_of KX bv) (hb _ _ _ _ ?_);refine wpAny_newFunctionEnv_cells S.kind Es λenv he W x=>?_;subst he;refine⟨lim.keeps x.toInCall.keep,codeAny_func ?_⟩;have e1:sJ P w K F h {A with handled:=ae} c s H:=⟨j.frames,j.mod,j.bs,j.bsz,j.funs,j.frf,j.hok,j.bare,j.tab⟩
 have d:Inv (jc Bp P w K F h N g a f C {A with handled:=ae} c s H E0) [] (L2.start N p) H W:=G0 S rfl e1 hl r x;have I:Inv (wm P w K F h N g a f C A c s H) [] (L2.start N p) H W :=
  ⟨⟨d.ok.mod,d.ok.kind,d.ok.glob,d.ok.blt,d.ok.above,d.ok.inj,d.ok.has,d.ok.cab,(λz=>by cases z),Around.frames_deeper j.frames,d.ok.stk,d.ok.exf,d.ok.bs,d.ok.bsz,d.ok.noex,d.ok.exfs,d.ok.funs,d.ok.frf,d.ok.tab⟩,d.os,d.bare,d.base,d.loc,d.cell,d.free,d.freeC,d.pin,d.hok,d.len⟩
 refine fh ((ii A c s H p Q (hr.deeper _) gT).run [] W I) (λfl X G=>?_) λe X G=>G.elim;have L:∀{m:St}{D:Hp}{v:V}{u:ai},Inv (wm P w K F h N g a f C A c s H) [] m D X->RelV v u->Q v D->CE c P w H s Q u X:=λ{m D v u} J Y q=>⟨v,D,J.os,J.bare,J.base,J.hok,Y,q⟩
 cases fl with
 |ret u=>obtain⟨v,m,D,J,Y,q⟩:=G;exact L J Y q
 |next=>obtain⟨m,D,J,q⟩:=G;exact L (v:=V.non) (u:=Value.none) J rfl q
 |brk=>obtain⟨_,_,_,q⟩:=G;exact iy q
 |cont=>obtain⟨_,_,_,q⟩:=G;exact iy q
def K6{P:aQ}{w:aJ}{K:ax}{u:Str->Option ai}{j:aB}{x:Str}{c:bf}{N l:List Str}{k n:Nat}{g:ac Slot}{d:ac aM}{p:List Nat}(D:cG K u x c)(Y:cq N l (br c))(L:N.length=l.length+n)(S:∀(kV q y:ai) (E:Option af) (o B:ai) (r:List ai),r.length=l.length->gy (iS x x (j3 c) (f8 c) (br c) .none kV q y E o B) ⟨r,[]⟩=pure (l.zip r))(C:∀b,g b≠.no->b.length=l.length) (z:∀b,g b≠.no->∀(i:Nat) m,b[i]?=aa (.own m)->i∈p/\gu m=ah) (O:∀b,g b≠.no->bI n d b=g b)(I:∀(f:af) (o:ai) (A:aX) (a:List Env) (s:ao) (H:Hp),k7 k (A.deeper (jt x (br c) s.heap.objs.size f o))->gD (wm P w K u j N x (br c) f o A a s H) E0 p (f8 c) d):yA P w K u j x (k+1) l (fY K g):=by obtain⟨f,W,M,v⟩:=D.ex;refine⟨f,W,M,?_,v.binds S,v.kp⟩;obtain⟨oc,od,kV,q,y,E,o,B,F,rfl,G,X⟩:=v.ex;exact N9 G X Y (Fu C) λA a s H Z Q J T=>Jg L C (λb h i m e=>(z b h i m e).1) (λb rs aP h=>.inr λi m e=>(z b (by lia) i m e).2) O (I f o A a s H J) T
section
variable{X:Cx}
def RG(z:A1 X.prog X.w X.K X.mg X.base k f y i v)(B:k7 k X.A)(F:Gl X x)(C:X.mg x=aa (.ref f))(D:qX X.K (.ref f)=ah)(L:Binds X.K y i [])(M:PA X (e::d) t) (J:ad x) (G:aV (e::d) X.env=(ak,a9 e X.env)::aV d X.env) (O:(c8 b (aV d X.env)).any (·.1)=ak):PE X (.Call (.Name x p) (e::d) [] b) (λm H Q=>t m H λn o=>v n o Q E0):=λP s m H Q I h=>by
 refine zS (tY I F C ?_ J);refine JL (h₀:=X.base) I.ok.mod.kin D (aW (M b P s m H _ I h) λc w ⟨n,o,l,r,q⟩=>⟨l.kIn,?_⟩) G O;have T:c.length=i.length:=by rw[<-r.length];exact z.len _ _ _ _ q
 refine zR (qW (z.run X.A X.stack w o ⟨c,[]⟩ c n Q B l.env0 (by have:=L w c l.kIn (by grind);rwa[ix]at this) r q) λA S a=>?_);cases A with
 |error er=>exact(show False from a).elim
 |ok N=>
  cases N with
  |ret u=>exact l.after a
  |next=>exact iy a
  |brk=>exact iy a
  |cont=>exact iy a
def K5{n m:Type}{K:ax}{E o:XK}{c:St}{F:af->Prop}{S:Nat->af->Prop}{H:Hp}{C:m->aj->(af->Prop)->(Nat->af->Prop)->Hp->Prop}{r:R n}{f:n->aj->R m}(h:Ok K E c F S H (bq (r.bind f)) C):Ok K E c F S H r λa l F S H=>Ok K o c F S H (f a l) C:=by
 cases r with
 |ok a l=>
  intro w u v s q;have h:Ok K E c F S H (bq (f a l)) C:=h;cases e:f a l with
  |ok=>rw[e]at h;exact Ok.from (E:=o) h q
  |_=>rw[e]at h;exact h.elim
 |_=>exact h.elim
def Qw(c:yA X.prog X.w X.K X.mg X.base x k i (fY X.K g))(r:k7 k X.A)(z:DG X E (e::d) j)(v:Gl X x:=by rfl)(w:ad x:=by decide) (B:aV (e::d) X.env=(ak,a9 e X.env)::aV d X.env:=by rfl) (A:(c8 b (aV d X.env)).any (·.1)=ak:=by rfl):DR X E (.Call (.Name x p) (e::d) [] b) (λa=>bq (bg g j a)):=λF S a l H Q n h=>by obtain⟨f,J,s,G,y,u⟩:=c.ex;exact cb (RG G r v s u y jh w B A) (z F S a l H _ n ((K5 h).imp λL m O M N o C q I D=>Ie o C D q))
end
structure o0(K:ax)(C:af):Prop where
 ga:qV K (.ref C) "__getattribute__"=aa (aa (.builtin "BaseException.__getattribute__"))
 gt:qV K (.ref C) "__getattr__"=aa ae
 cl:qV K (.ref C) "__class__"=aa (aa (.builtin "object.__class__"))
 gs:JJ K (.builtin "object.__class__") "__get__"=aa (aa (.builtin "getset_descriptor.__get__"))
 tk:PySem.W.takesIn K (.builtin "object.__class__")=aa ah
 ob:zQ K C (.type "object")=aa ah
 be:zQ K C (.type "BaseException")=aa ah
 cs:(D4 K C).isSome=ah
section
variable{b:aQ}{w:aJ}{A:aX}{E:ai->ao->Prop}{K:ax}{h:aB}{g:Array GenState}{d:Drawn}{t:Nat}{c:OsState}{a C:af}{o:Obj}
def Td(X:K.In h)(k:o0 K C)(I:wA h a o C ae)(j:Q () ⟨h,g,d,t,c⟩):ar M A (Ka "BaseException.__getattribute__" ⟨[.ref a,f],[]⟩) Q E ⟨h,g,d,t,c⟩:=by
 have l:builtinKind "BaseException.__getattribute__"=aa .slot:=by decide +kernel
 have m:splitId "BaseException.__getattribute__"=aa ("BaseException","__getattribute__"):=by decide +kernel
 have p:=F.args_bexc_ga (.ref a) f;have n:=I.type (M:=M);have i:=PySem.W.looks_mroIn (M:=M) X k.be;simp only[Ka,l,m];refine aq ?_
 .unfold z8
  repeat (first|with_reducible refine aq (n.at ?_)|with_reducible refine i.at ?_|with_reducible refine aq (i.at ?_)|wp_step)
  exact j
def Ru(X:K.In h)(k:o0 K C)(I:wA h a o C ae)(j:Q (.done (.ret (.ref C))) ⟨h,g,d,t,c⟩):ar (aw b w) A (Builtin.«object.__getattribute__» ⟨[.ref a,.str "__class__" i],[]⟩) Q E ⟨h,g,d,t,c⟩:=by
 have q:=I.type (M:=aw b w);have l:PySem.W.findObj K C ae "__class__"=aa (.bind (.builtin "getset_descriptor.__get__") (.builtin "object.__class__")):=by obtain⟨u,m⟩:=Di.mp k.cs;unfold PySem.W.findObj;rw[m,gz,k.cl,gz];simp[k.gs,k.tk]
 have p:=PySem.W.looks_find (M:=aw b w) X I l;have n:mL (aw b w) A (.call (.builtin "getset_descriptor.__get__") ⟨[.builtin "object.__class__",.ref a,.ref C],[]⟩) (λr f=>r=.ok (.ret (.ref C))/\f=⟨h,g,d,t,c⟩) ⟨h,g,d,t,c⟩:=PySem.W.class_get (s:=⟨h,g,d,t,c⟩) X I k.ob ⟨rfl,rfl⟩;refine aq (aF (aq (aF (aq (q.at (aq (p.at ?_)))))));show ar _ _ (do ret (<-kb [Value.builtin "object.__class__"] (call (.builtin "getset_descriptor.__get__") [.builtin "object.__class__",.ref a,.ref C]))) _ _ _;refine aq (iQ (zR (qW n λr f z=>?_)));obtain⟨rfl,rfl⟩:=z;exact aF j
def LW(X:K.In h)(k:o0 K C)(I:wA h a o C ae)(q:Q (.ref C) ⟨h,g,d,t,c⟩):ar (aw b w) A (getAttrBy (.ref a) (.str "__class__" j) ak) Q E ⟨h,g,d,t,c⟩:=by
 have p:=I.type (M:=aw b w);have n:=PySem.W.looks_findIn (M:=aw b w) X k.ga;have f:=PySem.W.looks_findIn (M:=aw b w) X k.gt;have l:(Value.builtin "BaseException.__getattribute__" == Value.builtin "object.__getattribute__")=ak:=by decide +kernel
 have i:(onTheHeap (Value.ref C)&&Value.builtin "BaseException.__getattribute__" == Value.builtin "object.__getattribute__")=ak:=by rw[l];rfl
 unfold getAttrBy;refine iQ (aq (p.at (aq (n.at ?_))));dsimp only;rw[i];rw[if_neg (by decide)];have f3:=F.attr_ValueError.ga.bind (.ref a);have m:(ak&&onTheHeap (Value.builtin "BaseException.__getattribute__"))=ak:=rfl
 repeat (any_goals (first|assumption|with_reducible refine f.at ?_|with_reducible refine aq (f.at ?_)|wp_step))
 refine codeAny_call_builtin F.attr_ValueError.ga.plain F.entry_bexc_ga (Td X k I (Ru X k I ?_))
 repeat (any_goals (first|assumption|wp_step))
def K8(X:K.In h)(k:o0 K C)(I:wA h a o C ae)(f:Q (aa (.ref C)) ⟨h,g,d,t+1,c⟩):ar (aw b w) A (getAttr? (.ref a) "__class__") Q E ⟨h,g,d,t,c⟩:=by
 unfold getAttr? getAttrBy?
 repeat (any_goals (first|assumption|with_reducible apply LW X k I|wp_step))
def N2(k:o0 K C):PySem.W.KitX K (.ref a) (.ref C) (λh=>∃o,wA h a o C ae) where
 ty:=λ_ _ _ ⟨o,I⟩=>I.type
 it:=λ_ _ X _=>by
  obtain⟨x,f⟩:=Di.mp k.cs;unfold D4 at f;split at f
  .rename_i y v m i l;intro J G H D r q;unfold isType loadHead;exact aq (wpAny_loadPart (r _ _ (X _ _ l)) (aF q))
  .cases f
 ne:=λh p F u n B X j=>by
  obtain⟨x,f⟩:=Di.mp k.cs;refine D5.mpr λq=>?_;have e:C=p:=Value.ref.inj (beq_iff_eq.mp q);subst e;unfold D4 at f;split at f
  .rename_i y v m i l;have z:=(X _ _ l).symm.trans j;cases z
  .cases f
 ca:=λ{_ _ _ _ _ s} X I q=>by obtain⟨o,I⟩:=I;obtain⟨h,g,d,t,c⟩:=s;exact K8 X k I q
end
def y6:V->Option ai
 |.ref D=>aa (.ref D)
 |.ty T=>aa (.type T)
 |_=>ae
def Mi(e:y6 v=aa u)(r:RelV v a):a=u:=by
 cases v <;> simp[y6]at e <;> subst e <;> exact r
section
variable{X:Cx}{K:ax}
def JB(K:ax):List V->Hp->VK->Prop:=λxs H Q=>∃a C D u b,xs=[.ref a,D]/\H a=aa (jD a (.ref C))/\o0 K C/\y6 D=aa u/\iR K (.ref C) u=aa b/\Q (.bl b) H
def Vy:eG X (.builtin "isinstance") (JB X.K):=by
 intro B s w H xs y Q I r h;obtain⟨a,C,D,u,b,rfl,j,k,i,e,q⟩:=h;cases r with
 |cons g f=>
  cases f with
  |cons d c=>
   cases c;cases g;have v:=Mi i d;subst v;obtain⟨⟨o,x,p,n,m,l⟩,_,_⟩:=I.hok a _ j;refine lU (N2 (a:=a) k) I.kIn ⟨o,p,n,?_,?_⟩ e (by intro z;cases z) λA=>⟨.bl b,H,I.tok _,rfl,q⟩
   .unfold PySem.W.notCls;rw[m]
   .rw[l];trivial
def jY(tab:ai->V->Option Bool):List PV->Option PV
 |[.exc c,.raw D]=>(tab c D).map .bl
 |xs=>jJ xs
def GZ(K:ax):List V->Hp->VK->Prop:=λxs H Q=>JB K xs H Q\/∃x t T b,xs=[x,.ty T]/\jo K H x (.type t)/\iR K (.type t) (.type T)=aa b/\Q (.bl b) H
def k_:eG X (.builtin "isinstance") (GZ X.K):=Vy.or sv
def Bm(K:ax)(tab:ai->V->Option Bool):Prop:=∀c D b,tab c D=aa b->∃C u,c=.ref C/\o0 K C/\y6 D=aa u/\iR K (.ref C) u=aa b
def k6(j:Bm K tab):PL K (GZ K) (jY tab):=λF H xs g Q pv d e q=>by
 unfold jY at e;split at e
 .rename_i c D;cases f:tab c D with
  |none=>grind
  |some b=>
   rw[f]at e;cases e;obtain⟨C,u,rfl,k,i,l⟩:=j c D b f;obtain⟨v,p,rfl,⟨a,rfl,m⟩,o⟩:=d;obtain⟨h,rfl,n⟩:=gI o;rw[show h=D from n];exact .inl ⟨a,C,D,u,b,rfl,m,k,i,l,q _ F H (Al.refl ..) rfl⟩
 .exact .inr (sV F H _ g Q pv d e q)
def lG(a:X.mg x=aa (.ref D))(b:Gl X x:=by rfl)(c:ad x:=by decide):DE X E (.Name x d) (dC (.raw (.ref D))):=λF S g f H Q r q=>cb (B_ (v:=.ref D) b a rfl c) (q F S H r (Grow.refl ..) _ rfl)
variable{de:ac PV}{d:Pos}{y:Str}
def mz(xs:List PV)(y:PV):Option PV:=(dI y).bind λv=>(iM xs).map λa=>.int (a.countP λz=>eT z v)
def Cs(xs:List PV)(y:PV):Option PV:=(dI y).bind λv=>(iM xs).bind λa=>(a.findIdx? λz=>eT z v).map λj=>.int j
def sW(f:List PV->PV->Option PV)(i:Nat)(de:ac PV):ac PV:=λb=>(aS (eY b i) b).bind λ_ b=>(de b).bind λk a=>(aS (eY a i) a).bind λxs a=>aS (f xs k) a
def NJ(i:Nat){c:Pos}(N:DE X E e de)(T:X.N[i]?=aa y:=by rfl)(L:ee X.env.scope y:=by eq_refl)(O:ad y:=by decide)(bv:az y:=by decide) (h1:n4 (.Name y p) "count" X.env (a9 (.Name y p) X.env)=a9 (.Name y p) X.env:=by rfl)(Z:((c8 b (aV [e] X.env)).all (λx=>!x.1)&&(q8 b (q_ [] X.env)).all (λx=>x.1.isSome)&&decide ([e].length+([]:List jL).length+(if([]:List jL).isEmpty then 0 else 1)<30))=ah:=by rfl)(Y:(c.endLine == b.line)=ah:=by rfl) (u:aV [e] X.env=(ak,a9 e X.env)::aV [] X.env:=by rfl) (W:(c8 b (aV [] X.env)).any (·.1)=ak:=by rfl):DE X E (.Call (.Attribute (.Name y p) "count" c) [e] [] b) (sW mz i de):=λF S o A H Q r h=>by
 unfold sW at h;cases n:eY o i with
 |none=>rw[n]at h;exact h.elim
 |some B=>
  rw[n]at h;simp only[bS,R.bind_ok]at h;obtain⟨a,C,z,P,_,_,_⟩:=r.lstAt (jH n);refine cb (wc D3 PySem.F.slot_list_count PySem.F.type_list_count NX (e_ T L O bv) (je bK jE u) h1 Z Y u W) ⟨.ref a,z,.inl ⟨rfl,_,cF.of P⟩,?_⟩;refine N F S o A H _ r ((Ok.bind h).imp λk j F1 S1 H1 s g1 q v G=>?_);cases m:eY j i with
  |none=>rw[m]at q;exact q.elim
  |some xs=>
   rw[m]at q;simp only[bS,R.bind_ok]at q;obtain⟨a',D,g,J,I,_,_⟩:=s.lstAt (jH m);rw[z]at g;cases g;unfold mz at q;cases f:dI k with
   |none=>rw[f]at q;exact q.elim
   |some w=>
    cases l:iM xs with
    |none=>rw[f,l]at q;exact q.elim
    |some ws=>rw[f,l]at q;obtain⟨rfl,M⟩:=vc I l;rw[jX G f];exact⟨a,D,w,rfl,rfl,J,r_ f,M,q F1 S1 H1 s (Grow.refl ..) _ rfl⟩
def Ma(i:Nat){c:Pos}(he:DE X E e de)(hN:X.N[i]?=aa y:=by rfl)(Y:ee X.env.scope y:=by eq_refl)(hd:ad y:=by decide)(bv:az y:=by decide) (h1:n4 (.Name y p) "index" X.env (a9 (.Name y p) X.env)=a9 (.Name y p) X.env:=by rfl)(h2:((c8 b (aV [e] X.env)).all (λx=>!x.1)&&(q8 b (q_ [] X.env)).all (λx=>x.1.isSome)&&decide ([e].length+([]:List jL).length+(if([]:List jL).isEmpty then 0 else 1)<30))=ah:=by rfl)(h3:(c.endLine == b.line)=ah:=by rfl) (G:aV [e] X.env=(ak,a9 e X.env)::aV [] X.env:=by rfl) (h5:(c8 b (aV [] X.env)).any (·.1)=ak:=by rfl):DE X E (.Call (.Attribute (.Name y p) "index" c) [e] [] b) (sW Cs i de):=λF S A J H Q B h=>by
 unfold sW at h;cases u:eY A i with
 |none=>rw[u]at h;exact h.elim
 |some L=>
  rw[u]at h;simp only[bS,R.bind_ok]at h;obtain⟨a,N,I,ha,_,_,_⟩:=B.lstAt (jH u);refine cb (wc D3 PySem.F.slot_list_index PySem.F.type_list_index Rg (e_ hN Y hd bv) (je bK jE G) h1 h2 h3 G h5) ⟨.ref a,I,.inl ⟨rfl,_,cF.of ha⟩,?_⟩;refine he F S A J H _ B ((Ok.bind h).imp λk r F1 S1 H1 C g1 q v P=>?_);cases s:eY r i with
  |none=>rw[s]at q;exact q.elim
  |some xs=>
   rw[s]at q;simp only[bS,R.bind_ok]at q;obtain⟨a',O,l,W,T,_,_⟩:=C.lstAt (jH s);rw[I]at l;cases l;unfold Cs at q;cases f:dI k with
   |none=>rw[f]at q;exact q.elim
   |some w=>
    cases o:iM xs with
    |none=>rw[f,o]at q;exact q.elim
    |some M=>
     cases n:M.findIdx? λz=>eT z w with
     |none=>rw[f,o]at q;simp only[gz]at q;rw[n]at q;exact q.elim
     |some j=>
      rw[f,o]at q;simp only[gz]at q;rw[n]at q;obtain⟨rfl,hf⟩:=vc T o;rw[jX P f];rw[U9]at n;obtain⟨D,h6,h7⟩:=n;refine⟨a,O,w,j,rfl,rfl,W,r_ f,hf,D,λz g=>?_,λm z Z g=>?_,q F1 S1 H1 C (Grow.refl ..) _ rfl⟩
      .rw[d9 D]at g;cases g;exact h6
      .have:=h7 m Z;rw[d9 ∅]at g;cases g;simpa using this
end
def gZ(g:Tx):List Tx->Tx
 |[]=>[]
 |[x]=>x
 |x::y::r=>x++g++gZ g (y::r)
def E3(a b:Tx):tS (a++b)=tS a++tS b:=by apply Str.ext';simp[tS,Str.cps_append]
def Hx(g:Tx):∀a:List Tx,Str.join (tS g) (a.map tS)=tS (gZ g a)
 |[]=>rfl
 |[x]=>rfl
 |x::y::r=>by show tS x++tS g++Str.join (tS g) ((y::r).map tS)=tS (x++g++gZ g (y::r));rw[Hx g (y::r),E3,E3]
def HV(g:Tx)(a:List Tx):Txt.join (tS g) (a.map tS)=tS (gZ g a):=by unfold Txt.join;rw[StrLaws.glued_eq_join,Hx]
def E4(c:Nat):∀l:List Nat,PyProof.Rows.cnt c l=(l.count c:Nat)
 |[]=>rfl
 |a::l=>by rw[PyProof.Rows.cnt_cons,E4 c l,List.count_cons];lia
def NF(c:Nat)(x:Tx):Txt.count (tS x) (tS [c])=(x.count c:Nat):=by have:=PyProof.Rows.count_cnt (tS x) c;rw[j8,E4]at this;exact this
def Mp(c:Nat)(x:Tx):xW [c] x=x.contains c:=by unfold xW;have:=StrLaws.found_one (tS x) c;rw[j8]at this;rw[show(tS [c])=⟨#[c]⟩from rfl,this];simp[List.contains_eq_mem]
def CV:∀{b:List Tx}{a:List ai},bG (cr b) a->cS a (b.map tS)
 |[],_,r=>by cases r;exact .nil
 |x::b,_,r=>by
  cases r with
  |cons d c=>obtain⟨t,rfl⟩:=d;exact .cons _ t (CV c)
section
variable{X:Cx}{K:ax}
def ir(g:Tx)(ls:List Tx):Nat:=(ls.map pi).sum+ls.length*g.length
def Hf(g:Tx):∀a,(gZ g a).length<=ir g a
 |[]=>jM _
 |[x]=>by simp[gZ,ir]
 |x::y::r=>by have h:=Hf g (y::r);show(x++g++gZ g (y::r)).length<=_;generalize gZ g (y::r)=z at h;unfold ir at *;simp only[iT,cR,mV,gR,Nat.add_mul]at *;lia
def Bi(K:ax):V->List V->Hp->VK->Prop:=λx xs H Q=>∃g p a,x=tV g/\xs=[.ref p]/\(cF K H p (cr a)\/cu K H p (cr a))/\ir g a<=bD/\Q (tV (gZ g a)) H
def FZ:wx X "str.join" (Bi X.K):=by
 intro A s y H x xs v z Q I m o h;obtain⟨g,p,b,rfl,rfl,d,w,q⟩:=h;obtain⟨t,rfl⟩:=m;obtain⟨u,rfl,n⟩:=vals1 o;cases n;have c:((b.map tS).map (·.length)).sum+(b.map tS).length*(tS g).length<=16777216:=by
  have e:((b.map tS).map (·.length))=b.map pi:=by rw[cT];exact lY λa _=>kY a
  rw[e,cK,kY];unfold ir bD at w;lia
 rcases d with d|d
 .obtain⟨l,i,j,r⟩:=I.list d;exact join_list j.isList (by simpa using CV i) c λf k=>⟨tV (gZ g b),H,I.tok _,(by rw[HV];exact⟨f,rfl⟩),q⟩
 .obtain⟨l,i,j,r⟩:=I.tuple d;exact join_tuple j (by simpa using CV i) c λf k=>⟨tV (gZ g b),H,I.tok _,(by rw[HV];exact⟨f,rfl⟩),q⟩
def Gd:V->List V->Hp->VK->Prop:=λx xs H Q=>∃y c,x=tV y/\xs=[tV [c]]/\Q (.int (y.count c:Nat)) H
def Q7:wx X "str.count" Gd:=by intro i s d H x xs v f Q I a b h;obtain⟨y,c,rfl,rfl,q⟩:=h;obtain⟨t,rfl⟩:=a;obtain⟨u,rfl,g,rfl⟩:=vals1 b;exact SC.count ⟨.int _,H,I.tok _,⟨_,by rw[NF]⟩,q⟩
def PM(K:ax)(r:V->List V->Hp->VK->Prop)(f:Tx->List PV->Option PV):Prop:=∀(F:af->Prop) (H:Hp) (x:Tx) (xs:List PV) (b:List V) (Q:VK) (pv:PV),x.length<=bD->a6 K H F xs b->f x xs=aa pv->(∀w c a,Al F c H a->aN K a c pv w->Q w a)->r (tV x) b H Q
def y_:PV->Option Tx
 |.str x=>aa x
 |_=>ae
def my(f:Tx->List PV->Option PV)(d:ac PV)(B:ac (List PV)):ac PV:=λc=>(d c).bind λx a=>(aS (y_ x) a).bind λy a=>(B a).bind λg b=>aS (f y g) b
variable{E:XK}{o e:aC}{A:List aC}{d:ac PV}{B:ac (List PV)}{i:Str}{m b:Pos}{C:String}{r:V->List V->Hp->VK->Prop}{f:Tx->List PV->Option PV}
def Bw(g:PySem.Slot "str" i C)(N:typeOf (.builtin C)=pure (.type "method_descriptor"))(hm:wx X C r)(hp:PM X.K r f)(ho:DE X E o d)(ha:DA X E (e::A) B)(P:n4 o i X.env (a9 o X.env)=a9 o X.env:=by rfl)(J:((c8 b (aV (e::A) X.env)).all (λx=>!x.1)&&(q8 b (q_ [] X.env)).all (λx=>x.1.isSome)&&decide ((e::A).length+([]:List jL).length+(if([]:List jL).isEmpty then 0 else 1)<30))=ah:=by rfl)(O:(m.endLine == b.line)=ah:=by rfl) (hs:aV (e::A) X.env=(ak,a9 e X.env)::aV A X.env:=by rfl) (G:(c8 b (aV A X.env)).any (·.1)=ak:=by rfl):DE X E (.Call (.Attribute o i m) (e::A) [] b) (my f d B):=λF S z n H Q M h=>by
 refine cb (wc PySem.F.plainAttrs_str g N hm bK jh P J O hs G) (ho F S z n H _ M ((Ok.bind h).imp λx c u q s W g1 l v L=>?_));cases x <;> first|exact(show False from l).elim|skip
 rename_i y;obtain⟨rfl,Z⟩:=L;refine⟨rfl,?_⟩;have l:Ok X.K E n u q s ((B c).bind λD a=>aS (f y D) a) _:=l;refine ha u q c n s _ W ((Ok.bind l).imp λxs a F2 S2 H2 T g2 j I Y=>?_);cases e:f y xs with
 |none=>rw[e]at j;exact j.elim
 |some pv=>rw[e]at j;exact hp F2 H2 y xs I Q pv Z Y e λw F' H' al p=>j F' S2 H' (T.al al) al.grow w p
def nv(g:Tx):List PV->Option PV
 |[.lst xs]=>(fV xs).bind λa=>if ir g a<=bD then aa (.str (gZ g a))else ae
 |[.tup xs]=>(fV xs).bind λa=>if ir g a<=bD then aa (.str (gZ g a))else ae
 |_=>ae
def Hh:PM K (Bi K) nv:=λF H g xs D Q pv G w e q=>by
 have l:∀(n:List PV) (p:af) (c:List V),a6 K H F n c->(cF K H p c\/cu K H p c)->((fV n).bind λj=>if ir g j<=bD then aa (PV.str (gZ g j))else ae)=aa pv->Bi K (tV g) [.ref p] H Q:=λn p c h z e=>by
  cases s:fV n with
  |none=>rw[s]at e;cases e
  |some j=>
   rw[s,gz]at e;split at e
   .rename_i x;cases e;have y:=(VB.mp (uX s ▸ h)).1;subst y;exact⟨g,p,j,rfl,rfl,z,x,q _ F H (Al.refl ..) ⟨rfl,c7 (Hf g j) x⟩⟩
   .cases e
 unfold nv at e;split at e
 .obtain⟨v,rfl,a,c,rfl,u,_,h⟩:=gI w;exact l _ a c h (.inl (.inl u)) e
 .obtain⟨v,rfl,a,c,rfl,u,h⟩:=gI w;exact l _ a c h (.inr (cu.of u)) e
 .cases e
def yt(y:Tx):List PV->Option PV
 |[.str [c]]=>aa (.int (y.count c:Nat))
 |_=>ae
def Sd:PM K Gd yt:=λF H y xs g Q pv h a e q=>by
 unfold yt at e;split at e
 .rename_i c;cases e;obtain⟨v,rfl,rfl,_⟩:=gI a;exact⟨y,c,rfl,rfl,q _ F H (Al.refl ..) rfl⟩
 .cases e
def SG(D:X.calm=ah):eG X (.type "list") (λxs H Q=>∃y:Tx,xs=[tV y]/\y.length<=bD/\∀l,H l=ae->Q (.ref l) (upd H l (.lst (y.map sg)))):=by
 intro ag s σ H xs us Q I r h;obtain⟨y,rfl,G,q⟩:=h;obtain⟨u,rfl,t,rfl⟩:=vals1 r;have J:(tS y).cps.size=y.length:=by simp[tS]
 refine PySem.call_list_str (I.ok.hd D) (tS y) t (hn:=by rw[J];exact c7 G kZ) λh' T a O Z hS W=>?_;refine⟨.ref s.heap.objs.size,_,I.laid (t':=T) Z (bi _) (show cn X.prog X.w _ h' _ (.lst (y.map sg))from⟨by rw[cK];exact c7 G kZ,a.toList,O,?_,~~~hS⟩),rfl,q _ (I.hok.fresh (bi _))⟩;obtain⟨g,w⟩:=W;rw[J]at g;have N:∀j v,a.toList[j]?=aa v->SignAt (tS y) j v:=λj v e=>w j v (~~~e);have M:a.toList.length=y.length:= ~~~g
 generalize a.toList=L at N M;have x:∀(p:Tx) (L:List ai) (n:Nat),L.length=p.length->(∀(j:Nat) (v:ai),L[j]?=aa v->∃t,∀c,p[j]?=aa c->v=Value.str (tS [c]) t)->bG (p.map sg) L:=by
  intro p
  induction p with
  |nil=>intro L n g _;have:L=[]:=Dv g;subst this;exact .nil
  |cons c p Y=>
   intro L n g w;cases L with
   |nil=>cases g
   |cons v L=>obtain⟨t,e⟩:=w 0 v rfl;have e:=e c rfl;subst e;exact .cons ⟨t,rfl⟩ (Y L (n+1) (~~~g) λj v e=>by obtain⟨t,z⟩:=w (j+1) v (~~~e);exact⟨t,λc D=>z c (~~~D)⟩)
 refine x y L 0 M λj v e=>?_;obtain⟨c,u,S,P⟩:=N j v e;refine⟨u,λO F=>?_⟩;have e5:y[j]?=aa c:=by simpa[tS]using S
 rw[e5]at F;cases F;exact P
end
section
variable{K:ax}{F u:af->Prop}{S B:Nat->af->Prop}{ε A:aj}{y:St}{H H':Hp}{i:Nat}{po:PO}
def aL.hide(r:aL K F S ε y H)(i:Nat):aL K F (λj b=>S j b/\j≠i) (ε.set i .none) y H:=by
 have d:∀(j:Nat) (s:Slot),s≠.none->(ε.set i .none)[j]?=aa s->ε[j]?=aa s/\j≠i:=λj s m e=>by
  by_cases c:i=j
  .subst c;rw[List.getElem?_set]at e;simp only[if_true]at e;split at e
   .exact absurd (f_ e).symm m
   .cases e
  .rw[cQ c]at e;exact⟨e,dj c⟩
 refine⟨by rw[ge];exact r.len,r.ex,λj pv e=>r.val j pv (d j _ (by intro z;cases z) e).1,λj po e=>?_,λj b h=>?_,λj k b g f=>r.dist j k b g.1 f.1⟩
 .obtain⟨n,c⟩:=d j _ (by intro z;cases z) e;obtain⟨a,g,f⟩:=r.own j po n;simp_all
 .obtain⟨⟨po,q⟩,l⟩:=r.foot j b h.1;exact⟨⟨po,by rw[cQ (dj h.2)];exact q⟩,l⟩
def _root_.Pu.Grow.wide(g:Grow O a F u H H')(h:∀b,O b->P b):Grow P a F u H H' :=⟨g.fro,λb o q n=>g.keep b o q λz=>n (h b z),g.there,λb z=>(g.fnew b z).imp id λw=>w.imp id (h b),λb z=>(g.onew b z).imp (h b) id⟩
def aL.unhide(r:aL K F S ε y H)(e:ε[i]?=aa (.own po))(m:aL K u B A y H')(g:Grow (U λj b=>S j b/\j≠i) (U B) F u H H')(M:A[i]?=aa .none):∃v,v i=S i/\aL K u v (A.set i (.own po)) y H'/\Grow (U S) (U v) F u H H'/\(∀b o,S i b->H b=aa o->H' b=aa o):=by
 have G:i<A.length:=(cP.mp M).1;have D:∀b,S i b->¬U (λj b=>S j b/\j≠i) b:=λb h ⟨j,z,c⟩=>c (r.dist j i b z h);have E:∀b o,S i b->H b=aa o->H' b=aa o:=λb o h q=>g.keep b o q (D b h);have J:∀b,B i b->False:=λb h=>by obtain⟨⟨po,q⟩,_⟩:=m.foot i b h;lia
 have l:Fit (U λj b=>S j b/\j≠i) F H:=λb ⟨j,z,_⟩=>(r.foot j b z).2;have s:∀b,S i b->¬u b/\¬U B b:=λb h=>by
  obtain⟨_,d,o,C,_⟩:=r.foot i b h;refine⟨λz=>?_,λz=>?_⟩
  .rcases g.fnew b z with w|w|w
   .exact d w
   .rw[C]at w;cases w
   .exact D b h w
  .rcases g.onew b z with w|w
   .exact D b h w
   .rw[C]at w;cases w
 refine⟨λj b=>if j=i then S i b else B j b,by simp,⟨by rw[ge];exact m.len,m.ex,λj pv q=>?_,λj p q=>?_,λj b h=>?_,λj k b f d=>?_⟩,⟨g.fro,λb o q n=>g.keep b o q λ⟨j,z⟩=>n ⟨j,z.1⟩,g.there,λb z=>(g.fnew b z).imp id λw=>w.imp id λ⟨j,w⟩=>⟨j,w.1⟩,λb ⟨j,z⟩=>?_⟩,E⟩
 .have c:i≠j:=by rintro rfl;rw[eE G]at q;cases q
  rw[cQ c]at q;exact m.val j pv q
 .by_cases c:i=j
  .subst c;rw[eE G]at q;cases q;obtain⟨a,f,d⟩:=r.own i _ e;refine⟨a,f,?_⟩;simp only[if_true];exact d.mono (λ_ _ z=>z.grow g l) (λ_ _ z=>z.grow g l) λb o z w=>E b o z w
  .rw[cQ c]at q;obtain⟨a,f,d⟩:=m.own j p q;exact⟨a,f,by simp only[if_neg (dj c)];exact d⟩
 .by_cases c:j=i
  .subst c;simp only[if_true]at h;obtain⟨_,d,o,C,L⟩:=r.foot j b h;exact⟨⟨po,eE G⟩,(s b h).1,o,E b o h C,L⟩
  .simp only[if_neg c]at h;obtain⟨⟨p,q⟩,I⟩:=m.foot j b h;exact⟨⟨p,by rw[cQ (dj c)];exact q⟩,I⟩
 .by_cases c:j=i
  .by_cases x:k=i
   .rw[c,x]
   .simp only[if_pos c]at f;simp only[if_neg x]at d;exact absurd ⟨k,d⟩ (s b f).2
  .by_cases x:k=i
   .simp only[if_neg c]at f;simp only[if_pos x]at d;exact absurd ⟨j,f⟩ (s b d).2
   .simp only[if_neg c]at f;simp only[if_neg x]at d;exact m.dist j k b f d
 .by_cases c:j=i
  .simp only[if_pos c]at z;exact .inl ⟨i,z⟩
  .simp only[if_neg c]at z;exact(g.onew b ⟨j,z⟩).imp (λ⟨k,w⟩=>⟨k,w.1⟩) id
variable{a b:af}{m:List (List PV)}{f:List af}{j:Nat}{C:List PV}{l:List V}
def gP.len(h:gP K H F m f):f.length=m.length:=by
 unfold gP at h
 induction h with
 |nil=>rfl
 |cons _ _ c=>simp[c]
def gP.get(h:gP K H F m f)(e:m[j]?=aa C):∃b l,f[j]?=aa b/\H b=aa (.lst l)/\a6 K H F C l:=by
 unfold gP at h
 induction h generalizing j with
 |nil=>simp at e
 |cons r _ c=>
  cases j with
  |zero=>simp at e;subst e;obtain⟨l,g,d⟩:=r;exact⟨_,l,rfl,g,d⟩
  |succ j=>obtain⟨b,l,q⟩:=c (j:=j) (~~~e);exact⟨b,l,~~~q⟩
def gP.set(h:gP K H F m f)(z:f.Nodup)(e:f[j]?=aa b)(s:∀x v,a6 K H F x v->a6 K H' F x v)(p:∀c o,c∈f->c≠b->H c=aa o->H' c=aa o)(G:∃g,H' b=aa (.lst g)/\a6 K H' F C g):gP K H' F (m.set j C) f:=by
 unfold gP at h ⊢
 induction h generalizing j with
 |nil=>exact .nil
 |cons r E D=>
  rename_i x c m f;have n:=kL.mp z;cases j with
  |zero=>simp at e;subst e;refine .cons G ?_;exact gP.mono (K:=K) s (λd o q=>p d o (by simp[q]) (by lia)) E
  |succ j=>
   have w:f[j]?=aa b:= ~~~e
   have L:b∈f:=kc w;obtain⟨l,J,I⟩:=r;exact .cons ⟨l,p c _ (by simp) (by lia) J,s _ _ I⟩ (D n.2 w λd o q=>p d o (by simp[q]))
def aL.updL(r:aL K F S ε y H)(e:ε[i]?=aa (.own (.lls m)))(Z:y[i]?=aa (aa (.ref a)))(Y:H a=aa (.lst (f.map .ref)))(X:gP K H F m f)(L:f.Nodup)(T:a∉f)(N:∀b,S i b↔b=a\/b∈f)(M:f[j]?=aa b)(h:a6 K H F C l):aL K F S (ε.set i (.own (.lls (m.set j C)))) y (L2.upd H b (.lst l))/\Grow (U S) (U S) F F H (L2.upd H b (.lst l)):=by
 have Q:b∈f:=kc M;have E:S i b:=(N b).mpr (.inr Q);have W:a≠b:=by lia
 have G:i<ε.length:=(cP.mp e).1;have g:Grow (U S) (U S) F F H (L2.upd H b (.lst l)):=⟨λ_ z=>z,λc o q n=>by rw[a8 (by rintro rfl;exact n ⟨i,E⟩)];exact q,λc o q=>by
  by_cases s:c=b
  .subst s;exact⟨_,upd_same⟩
  .exact⟨o,by rw[a8 s];exact q⟩,λ_ z=>.inl z,λ_ z=>.inl z⟩
 refine⟨⟨by rw[ge];exact r.len,λb z=>let ⟨o,q⟩:=r.ex b z;g.there b o q,λk pv q=>?_,λk po q=>?_,λk c z=>?_,r.dist⟩,g⟩
 .have p:i≠k:=by rintro rfl;rw[eE G]at q;cases q
  rw[cQ p]at q;obtain⟨v,D,x⟩:=r.val k pv q;exact⟨v,D,x.grow g r.fit⟩
 .by_cases p:i=k
  .subst p;rw[eE G]at q;cases q;exact⟨a,Z,f,by rw[a8 W];exact Y,X.set L M (λ_ _ z=>z.grow g r.fit) (λc o _ s w=>by rw[a8 s];exact w) ⟨l,upd_same,h.grow g r.fit⟩,L,T,N⟩
  .rw[cQ p]at q;obtain⟨c,D,x⟩:=r.own k po q;refine⟨c,D,x.mono (λ_ _ z=>z.grow g r.fit) (λ_ _ z=>z.grow g r.fit) λd o z w=>?_⟩;rw[a8 (by rintro rfl;exact p (r.dist i k d E z))];exact w
 .obtain⟨⟨po,D⟩,x,o,P,O⟩:=r.foot k c z;have I:∃J,(L2.upd H b (.lst l)) c=aa J/\eA J:=by
   by_cases s:c=b
   .subst s;exact⟨_,upd_same,trivial⟩
   .exact⟨o,by rw[a8 s];exact P,O⟩
  by_cases p:i=k
  .subst p;exact⟨⟨_,eE G⟩,x,I⟩
  .exact⟨⟨po,by rw[cQ p];exact D⟩,x,I⟩
def gP.frz(h:gP K H F m f)(c:∀b∈f,F b):a6 K H F (m.map .lst) (f.map .ref):=by
 unfold gP at h
 induction h with
 |nil=>rfl
 |cons r _ d=>obtain⟨l,o,n⟩:=r;exact⟨_,_,rfl,⟨_,l,rfl,.inl o,c _ (by simp),n⟩,d λb g=>c b (by simp[g])⟩
def aL.frzL(r:aL K F S ε y H)(e:ε[i]?=aa (.own (.lls m))):∃a u B,aL K u B (ε.set i (.val (.lst (m.map .lst)))) y H/\Grow (U S) (U B) F u H H/\y[i]?=aa (aa (.ref a))/\aN K H u (.lst (m.map .lst)) (.ref a):=by
 obtain⟨a,G,f,L,I,P,Q,E⟩:=r.own i _ e;have D:i<ε.length:=(cP.mp e).1;have g:∀b,F b->F b\/S i b:=λb h=>.inl h;have mono:∀x v,aN K H F x v->aN K H (λb=>F b\/S i b) x v:=aN.mono g (λ_ _ _ q=>q) (λ_ _ q _=>q);have c:∀x v,a6 K H F x v->a6 K H (λb=>F b\/S i b) x v:=a6.mono g (λ_ _ _ q=>q) (λ_ _ q _=>q);have w:aN K H (λb=>F b\/S i b) (.lst (m.map .lst)) (.ref a):=⟨a,_,rfl,.inl L,.inr ((E a).mpr (.inl rfl)),(I.mono c λ_ _ _ z=>z).frz λb J=>.inr ((E b).mpr (.inr J))⟩
 refine⟨a,λb=>F b\/S i b,λj b=>S j b/\j≠i,⟨by rw[ge];exact r.len,λb h=>?_,λj pv q=>?_,λj po q=>?_,λj b h=>?_,λj k b N M=>r.dist j k b N.1 M.1⟩,?_,G,w⟩
 .rcases h with h|h
  .exact r.ex b h
  .obtain⟨_,_,o,q,_⟩:=r.foot i b h;exact⟨o,q⟩
 .by_cases d:i=j
  .subst d;rw[eE D]at q;cases q;exact⟨_,G,w⟩
  .rw[cQ d]at q;obtain⟨v,p,n⟩:=r.val j pv q;exact⟨v,p,mono _ _ n⟩
 .by_cases d:i=j
  .subst d;rw[eE D]at q;cases q
  .rw[cQ d]at q;obtain⟨v,p,n⟩:=r.own j po q;refine⟨v,p,?_⟩;have s:=n.mono (H':=H) mono c λ_ _ _ z=>z;have O:(λb=>S j b/\j≠i)=S j:=by funext b;simp[dj d]
   rw[O];exact s
 .obtain⟨⟨po,p⟩,n,s⟩:=r.foot j b h.1;refine⟨⟨po,by rw[cQ (dj h.2)];exact p⟩,λz=>?_,s⟩;rcases z with z|z
  .exact n z
  .exact h.2 (r.dist j i b h.1 z)
 .refine⟨λ_ h=>.inl h,λb o h _=>h,λb o h=>⟨o,h⟩,λb h=>?_,λb ⟨j,h⟩=>.inl ⟨j,h.1⟩⟩;rcases h with h|h
  .exact .inl h
  .exact .inr (.inr ⟨i,h⟩)
end
section
variable{X:Cx}{E:XK}{f:List Nat}{e b b1:aC}{de db d1:ac PV}{d:Pos}
def lf(a:aj)(i:Nat):Option (List (List PV)):=match a[i]? with
 |some (.own (.lls c))=>aa c
 |_=>ae
def vS(h:lf a i=aa c):a[i]?=aa (.own (.lls c)):=by
 unfold lf at h;split at h
 .cases h;assumption
 .cases h
def zt(i:Nat):ac PV:=λa=>(aS (lf a i) a).bind λc a=>.ok (.lst (c.map .lst)) (a.set i (.val (.lst (c.map .lst))))
def Ld(i:Nat)(o:X.N[i]?=aa x:=by rfl)(m:ee X.env.scope x:=by eq_refl)(n:ad x:=by decide)(s:az x:=by decide):DE X E (.Name x d) (zt i):=λF S j w H Q r h=>by
 unfold zt at h;cases c:lf j i with
 |none=>rw[c]at h;exact h.elim
 |some y=>rw[c]at h;obtain⟨a,v,u,l,g,q,p⟩:=r.frzL (vS c);exact cb (e_ o m n s) ⟨_,q,h v u H l g _ p⟩
def u9(i:Nat):ac PV:=λa=>(aS (lf a i) a).bind λc a=>.ok (.int (c.length:Nat)) a
def R7(i:Nat)(n:X.mg "len"=ae)(u:X.N[i]?=aa y:=by rfl)(v:ee X.env.scope y:=by eq_refl)(q:ad y:=by decide) (z:az y:=by decide) (o:Gl X "len":=by rfl)(j:aV [.Name y c] X.env=(ak,a9 (.Name y c) X.env)::aV [] X.env:=by rfl) (x:(c8 d (aV [] X.env)).any (·.1)=ak:=by rfl):DE X E (.Call (.Name "len" p) [.Name y c] [] d) (u9 i):=λF S l B H Q r h=>by
 unfold u9 at h;cases g:lf l i with
 |none=>rw[g]at h;exact h.elim
 |some A=>rw[g]at h;obtain⟨a,w,I,s,m,C,D,G⟩:=r.own i _ (vS g);refine cb (mH iN o n rfl (je (e_ u v q z) jE j) (by decide) (by decide) j x) ⟨_,w,.ref a,A.length,rfl,.inl ⟨_,cF.of s,?_⟩,h F S H r (Grow.refl ..) _ rfl⟩;rw[cK,m.len]
def zi(i:Nat)(d1 db de:ac PV):ac aM:=λl=>(de l).bind λy g=>(aS (lf g i) g).bind λ_ g=>(d1 g).bind λn a=>(aS (lf a i) a).bind λh a=>(aS ((ji n).bind (il h.length)) a).bind λj a=>
 (db (a.set i .none)).bind λm c=>match c[i]?,h[j]? with
  |some .none,aa xs=>(aS ((ji m).bind (il xs.length)) c).bind λo c=>.ok .next (c.set i (.own (.lls (h.set j (xs.set o y)))))
  |_,_=>.no
def Jz{K:ax}{H:Hp}{F:af->Prop}{x:PV}{v:V}{k:Int}(h:aN K H F x v)(e:ji x=aa k):v=.int k:=by
 cases x <;> simp[ji]at e;subst e;exact h
def UU(i:Nat)(h1:DE X E b1 d1)(hb:DE X E b db)(he:DE X E e de)(hN:X.N[i]?=aa x:=by rfl)(hv:ee X.env.scope x:=by eq_refl)(hd:ad x:=by decide)(bv:az x:=by decide) (hpx:BZ b1:=by exact λ_ _=>rfl) (ha:∀v,mJ (.Subscript (.Subscript (.Name x p) b1 m) b l) X.env v=(do
   let ov <-kb [v] (a9 (.Subscript (.Name x p) b1 m) X.env)
   let iv <-kb [v,ov] (a9 b X.env)
   standAt l
   kb [v,ov,iv] (setItem ov iv v)
   release [v,ov,iv] []):=by intro _;rfl) (hs:De [.Subscript (.Subscript (.Name x p) b1 m) b l] e d.line X.env=pure ak:=by rfl) (hw:Df [.Subscript (.Subscript (.Name x p) b1 m) b l] e X.env=pure ae:=by rfl)
  (ho:(qU [.Subscript (.Subscript (.Name x p) b1 m) b l] X.env).map (·.2)=[mJ (.Subscript (.Subscript (.Name x p) b1 m) b l) X.env]:=by rfl):DS X E f (.Assign [.Subscript (.Subscript (.Name x p) b1 m) b l] e d) (zi i d1 db de):=λF S ε s H D rl h=>by
 refine fS (By bK (EK (GN eC (e_ hN hv hd bv) bK hpx) bK IW ha) hs hw ho) (he F S ε s H _ rl (h.bindE.imp λy B F1 S1 H1 T g1 q v rv=>?_));cases e0:lf B i with
 |none=>rw[e0]at q;exact q.elim
 |some xss0=>
  rw[e0]at q;simp only[bS,R.bind_ok]at q;obtain⟨a,ea,_⟩:=T.own i _ (vS e0);refine⟨.ref a,ea,h1 F1 S1 B s H1 _ T (q.bindE.imp λk1 A F2 S2 H2 r g2 g u1 P=>?_)⟩;cases M:lf A i with
  |none=>rw[M]at g;exact g.elim
  |some b_=>
   rw[M]at g;simp only[bS,R.bind_ok]at g;obtain⟨a',G,as,lv,Y,nd,na,I⟩:=r.own i _ (vS M);rw[ea]at G;cases G;cases n:(ji k1).bind (il b_.length)with
   |none=>rw[n]at g;exact g.elim
   |some j1=>
    rw[n]at g;simp only[bS,R.bind_ok]at g;cases e3:ji k1 with
    |none=>rw[e3]at n;cases n
    |some i1=>
     rw[e3,gz]at n;have hj1:=(A8 n).2.1;obtain⟨xs,C⟩:∃xs,b_[j1]?=aa xs:=⟨_,d9 hj1⟩
     obtain⟨c,vs,hc,gn,hr⟩:=Y.get C;refine .inl ⟨a,_,i1,.ref c,rfl,Jz P e3,cF.of lv,?_,?_⟩
     .unfold fI;rw[cK,Y.len,n,gz,d8,hc];rfl
     .have Q:=r.hide i;refine hb F2 _ _ s H2 _ Q ?_;cases e4:db (A.set i .none)with
      |no=>rw[e4]at g;exact g.elim
      |er c ε'=>rw[e4]at g;exact λx F' S' H' r' g'=>g x F' S' s H' r' (g'.wide λb ⟨j,z⟩=>⟨j,z.1⟩) (iE.refl _ _)
      |ok k2 u=>
       rw[e4]at g;intro F3 S3 H3 r3 g3 u2 O;simp only[R.bind_ok]at g;rw[C]at g;cases L:u[i]? with
       |none=>rw[L]at g;exact g.elim
       |some sl=>
        rw[L]at g;cases sl with
        |val _=>exact g.elim
        |own _=>exact g.elim
        |none=>
         dsimp only at g;cases e6:ji k2 with
         |none=>rw[e6]at g;exact g.elim
         |some i2=>
          rw[e6,gz]at g;cases e7:il xs.length i2 with
          |none=>rw[e7]at g;exact g.elim
          |some j2=>
           rw[e7]at g;simp only[bS,R.bind_ok]at g;obtain⟨S4,eS,r4,J,Z⟩:=r.unhide (vS M) r3 g3 L;have hi:i<u.length:=(cP.mp L).1;have hS4:∀b,S4 i b↔b=a\/b∈as:=by rw[eS];exact I
           have hcS:S2 i c:=(I c).mpr (.inr (kc hc));have W:gP X.K H3 F3 b_ as:=Y.mono (λ_ _ z=>z.grow J r.fit) λb o hb w=>Z b o ((I b).mpr (.inr hb)) w;have ha4:=Z a _ ((I a).mpr (.inl rfl)) lv;have hr4:=hr.grow J r.fit;have N:=(rv.grow g2 T.fit).grow J r.fit;obtain⟨r5,g5⟩:=r4.updL (i:=i) (eE hi) ea ha4 W nd na hS4 hc (hr4.set N j2);rw[List.set_set]at r5;exact⟨c,vs,i2,j2,rfl,Jz O e6,Z c _ hcS gn,by rw[hr.len];exact e7,g F3 S4 s _ r5 (J.trans g5) (iE.refl _ _)⟩
end
def pY(a:List Nat)(de:ac PO):List PV->List (List PV)->aj->R (List (List PV))
 |[],d,c=>.ok d c
 |x::xs,d,c=>(bq (bQ a de x c)).bind λy b=>match y with
  |.lst f=>pY a de xs (d++[f]) b
  |_=>.no
def zj(c:List Nat)(g:ac (List PV))(de:ac PO):ac PO:=λd=>(g d).bind λxs b=>(pY c de xs [] b).bind λf a=>.ok (.lls f) a
def Pm{K:ax}{E:XK}{F:af->Prop}{S:Nat->af->Prop}{w:aj}{g:St}{H:Hp}{J:Type}{f:List Nat}{d:ac J}{x:PV}{v:V}{C:J->aj->(af->Prop)->(Nat->af->Prop)->Hp->Prop}(r:aL K F S w g H) (Q:aN K H F x v) (h:Ok K E g F S H (bq (bQ f d x w)) C):∃N m,aL K F N m (aa v::fc g f) H/\Ok K E0 (aa v::fc g f) F N H (d m) (λa _ u Z s=>∃l q,aL K u q l g s/\Grow (U S) (U q) F u H s/\(∀b,U q b->U Z b\/U S b)/\C a l u q s):=by
 unfold bQ at h;cases G:bW w f with
 |none=>rw[G]at h;exact h.elim
 |some i=>
  rw[G]at h;simp only[bS,R.bind_ok]at h;by_cases B:(cI i).Nodup
  .rw[if_pos B]at h;cases y:eU w (.inl x::i)with
   |none=>rw[y]at h;exact h.elim
   |some m=>
    rw[y]at h;simp only[bS,R.bind_ok]at h;obtain⟨A,Y,X⟩:=uY r G;have p:jW K g F H (.inl x::i) (v::A):=⟨v,A,rfl,Q,Y⟩
    have o:aa v::fc g f=(v::A).map aa:=by rw[X];rfl
    have n:(cI (.inl x::i)).Nodup:=B;refine⟨lF (.inl x::i) S,m,by rw[o];exact r.cal p y n,?_⟩;rw[o];cases D:d m with
    |no=>rw[D]at h;exact h.elim
    |er c I=>
     rw[D]at h;unfold fP at h;dsimp only at h;by_cases j:fX (.inl x::i) I=ah
     .rw[if_pos j]at h;exact h.elim
     .rw[if_neg j]at h;exact h.elim
    |ok a I=>
     rw[D]at h;intro u q s T W;unfold fP at h;dsimp only at h;by_cases j:fX (.inl x::i) I=ah
     .rw[if_pos j]at h;obtain⟨O,L,M,P⟩:=r.called p y n T W (λ_ z=>z) (nG j);exact⟨_,O,L,M,P,h u O s L M⟩
     .rw[if_neg j]at h;exact h.elim
  .rw[if_neg B]at h;exact h.elim
def gP.snoc{K:ax}{H:Hp}{F:af->Prop}{c:List (List PV)}{d:List af}{xs:List PV}{b:af}{a:List V}(h:gP K H F c d)(g:H b=aa (.lst a))(f:a6 K H F xs a):gP K H F (c++[xs]) (d++[b]):=zV h ⟨a,g,f⟩
section
variable{X:Cx}{E:XK}{n:dU}{x:Str}{N':List Str}{cap:List Nat}
def UG(hi:DI X E (.Name x px) P di)(he:∀C d f N M,DN (bB X n N' C d f N M) E0 elt de) (rl:aL X.K F S ε B H) (h:Ok X.K E B F S H (zj cap di de ε) (λpo _ G Y r=>∀a Sa,fq X.K r G po a Sa->(∀b,Sa b->H b=ae/\¬G b/\¬U Y b/\∃o,r b=aa o/\eA o)->Q (.ref a) r)):zI (lO X (.Name x px) P) (λB H Q=>∀C d f N M,nJ (bB X n N' C d f N M) [] B H Q) (λB H Q=>∀C d f N M,gG (bB X n N' C d f N M) elt B H Q) cap B H Q:=by
 refine hi F S ε B H _ rl ((Ok.bind h).imp λxs ε1 F1 S1 H1 r1 g1 h1 J vs RR rs hz hw keep l hl=>?_);have h1:=h1.bind;have hvl:vs.length=xs.length:=rs.len;have a0:Al F1 F1 H1 (upd H1 l (.lst [])):=Al.new0 hl;have nF1:¬F1 l:=λz=>by obtain⟨o,q⟩:=r1.ex l z;lia
 have nS1:¬U S1 l:=λ⟨i,z⟩=>by obtain⟨_,_,o,q,_⟩:=r1.foot i l z;lia
 have hH:H l=ae:=oQ g1 hl;refine⟨λi m Z r=>m=xs.length-i/\i<=xs.length/\∃G Y ε' W u,aL X.K G Y ε' B r/\Grow (U S1) (U Y) F1 G H1 r/\Z=u.map .ref/\r l=aa (.lst Z)/\¬G l/\¬U Y l/\gP X.K r G W u/\u.Nodup/\l∉u/\(∀b∈u,H b=ae/\¬G b/\¬U Y b)/\u.length<=i /\ Ok X.K E B F1 S1 H1 (pY cap de (xs.drop i) W ε') (λys' D F2 S2 H2=>Ok X.K E B F2 S2 H2 (R.ok (PO.lls ys') D) (λpo _ G Y r=>∀a Sa,fq X.K r G po a Sa->(∀b,Sa b->H b=ae/\¬G b/\¬U Y b/\∃o,r b=aa o/\eA o)->Q (.ref a) r)),⟨_,rfl,jM _,F1,S1,ε1,[],[],r1.al a0,a0.grow,rfl,upd_same,nF1,nS1,Paired.nil,ud,(by simp),(by simp),bi _,h1⟩,?_⟩;rintro i m Z H2 ⟨rfl,hi,F2,S2,D,W,u,r2,g2,rfl,el,nF2,nS2,p,nd,nl,A,hyl,q2⟩;have RH:=keep S2 F2 H2 g2;by_cases bn:i<xs.length
 .obtain⟨v,hv⟩:∃v,vs[i]?=aa v:=⟨_,d9 ∅⟩
  obtain⟨go,yl⟩:=(hw H2 RH i).1 v hv;refine .inr ⟨go,λv' r y=>⟨[aa v'],rfl,rfl,?_⟩⟩;obtain⟨e1,e2⟩:=yl v' r y;subst e1 e2;obtain⟨px',hx,rx⟩:=rs.back hv;have ed:xs.drop i=px'::xs.drop (i+1):=by rw[wU bn];congr 1;exact(cP.mp hx).2
  rw[ed]at q2;have rx2:=rx.grow g2 r1.fit;intro C d f N M;have e0:=FM (X:=bB X n N' C d f N M) (E:=E0);refine Bx.mk λag s I=>?_;refine GE ag s _ r _ I ?_;simp only[if_true];have q5:Ok X.K E B F1 S1 H1 ((bq (bQ cap de px' D)).bind λy D=>match y with
   |.lst Z=>pY cap de (xs.drop (i+1)) (W++[Z]) D
   |_=>.no) _:=q2
  obtain⟨Sc,sc,rc,okc⟩:=Pm r2 rx2 (Ok.bindB q5 g2);intro C d f N M;refine he C d f N M F2 Sc sc _ r _ rc (okc.imp λy _ F4 S4b H4 _ _ ⟨ε4,S4,r4,g4,u4,O⟩ a Sa ow fr=>?_);obtain⟨el4,nF4,nS4⟩:=g4.stay el nS2 nF2;cases y with
  |dK _=>exact O.elim
  |lls _=>exact O.elim
  |dL _=>exact O.elim
  |ins _ _=>exact O.elim
  |dT _=>exact O.elim
  |dN _=>exact O.elim
  |inl _ _ _ _=>exact O.elim
  |lst Z=>
   obtain⟨⟨us,hA,hR⟩,nk⟩:=ow;obtain⟨f1,f2,f3,o,f4,f5⟩:=fr a ((nk a).mpr rfl);have nS4a:¬U S4 a:=λz=>(u4 a z).elim f3 λ⟨j,w⟩=>by obtain⟨_,_,o',w1,_⟩:=r2.foot j a w;rw[f1]at w1;cases w1
   have gU:a≠l:=by rintro rfl;rw[el]at f1;cases f1
   have kpA:∀b o,b∈u->r b=aa o->H4 b=aa o/\¬F4 b/\¬U S4 b:=λb o g w=>g4.stay w (A b g).2.2 (A b g).2.1;have inA:∀b∈u,∃vs,r b=aa (.lst vs):=λb g=>by
    obtain⟨j,hj⟩:=Kh g;obtain⟨xs',EC⟩:∃z,W[j]?=aa z:=by have:=(cP.mp hj).1;rw[p.len]at this;exact⟨_,d9 this⟩
    obtain⟨b',L,k1,k2,_⟩:=p.get EC;rw[hj]at k1;cases k1;exact⟨L,k2⟩
   have lacc4:gP X.K H4 F4 W u:=p.mono (λ_ _ z=>z.grow g4 r2.fit) λb o g w=>(kpA b o g w).1;have haas:a∉u:=λz=>by obtain⟨L,w⟩:=inA a z;rw[f1]at w;cases w
   obtain⟨gl,T,r5⟩:=r4.lay (o':=.lst (u.map .ref++[.ref a])) el4 trivial nF4 nS4;have g5:=(g2.trans g4).lay (o':=.lst (u.map .ref++[.ref a])) hl;have hHa:H a=ae:=oQ g1 (oQ g2 f1);refine⟨el4,?_,_,∅,rfl,bn,F4,S4,ε4,W++[Z],u++[a],r5,g5,by simp,upd_same,nF4,nS4,?_,?_,?_,?_,by simp;lia,O⟩
   .rw[cK];lia
   .exact gP.snoc (lacc4.mono (λ_ _ z=>z.grow gl T) λb o g w=>by rw[a8 (by rintro rfl;exact nl g)];exact w) (by rw[a8 gU];exact hA) (hR.grow gl T)
   .rw[List.nodup_append];refine⟨nd,by simp,λb g c hc=>?_⟩;simp at hc;subst hc;rintro rfl;exact haas g
   .simp only[lj,kg,not_or];exact⟨nl,dj gU⟩
   .intro b g;simp only[lj,kg]at g;rcases g with g|rfl
    .obtain⟨L,w⟩:=inA b g;exact⟨(A b g).1,(kpA b _ g w).2⟩
    .exact⟨hHa,f2,nS4a⟩
 .have e:i=xs.length:=∅
  subst e;refine .inl ⟨(hw H2 RH _).2 hvl.symm,?_⟩;rw[Ae]at q2;refine q2 F2 S2 H2 r2 g2 F2 S2 H2 r2 (Grow.refl ..) l (λb=>b=l\/b∈u) ⟨u,el,p,nd,nl,λb=>kN⟩ λb z=>?_;rcases z with rfl|g
  .exact⟨hH,nF2,nS2,_,el,trivial⟩
  .obtain⟨j,hj⟩:=Kh g;obtain⟨xs',EC⟩:∃z,W[j]?=aa z:=by have:=(cP.mp hj).1;rw[p.len]at this;simp_all
   obtain⟨b',L,k1,k2,_⟩:=p.get EC;rw[hj]at k1;cases k1;exact⟨(A b g).1,(A b g).2.1,(A b g).2.2,_,k2,trivial⟩
variable{pin:List Nat}
def Rm(G:i∉pin)(M:aL X.K F S l d H)(h:gL X.K E pin d F S H (cX i dn l) D):Ok X.K E d F S H (dn l) (λv _ m u g=>∀a s,fq X.K g m v a s->(∀b,s b->H b=ae/\¬m b/\¬U u b/\∃o,g b=aa o/\eA o)->D.nx (d.set i (aa (.ref a))) g):=by
 unfold cX at h;cases r:dn l with
 |no=>rw[r]at h;exact h.elim
 |er c y=>rw[r]at h;exact λx m u g B I=>h x m u d g B I (iE.refl _ _)
 |ok v p=>
  rw[r]at h;simp only[R.bind_ok]at h;intro L N J A f a s C w;by_cases q:i<p.length
  .rw[if_pos q]at h;refine h L _ _ J (A.setOwn q C λb z=>(w b z).2) ⟨f.fro,f.keep,f.there,f.fnew,λb ⟨j,z⟩=>?_⟩ (iE.set G);rcases z with z|⟨_,z⟩
   .exact f.onew b ⟨j,z.1⟩
   .exact .inr (w b z).1
  .rw[if_neg q]at h;exact h.elim
def FH(Q:i∉pin)(rl:aL X.K F S m f H)(h:gL X.K E pin f F S H (bw i (dF dn) m) D):Ok X.K E f F S H (dn m) (λr _ q u l=>∀a d,fq X.K l q r a d->(∀b,d b->H b=ae/\¬q b/\¬U u b/\∃o,l b=aa o/\eA o)->D.nx (f.set i (aa (.ref a))) l):=by
 unfold bw dF at h;cases s:dn m with
 |no=>rw[s]at h;exact h.elim
 |er c I=>rw[s]at h;exact λx q u l N g'=>h x q u f l N g' (iE.refl _ _)
 |ok r G=>
  rw[s]at h;intro B A p M j a d O v;cases r with
  |dK g=>exact h.elim
  |lls b_=>exact h.elim
  |dL b_=>exact h.elim
  |ins C fs=>exact h.elim
  |dT g=>exact h.elim
  |dN g=>exact h.elim
  |inl C fs y xs=>exact h.elim
  |lst xs=>
   have Y:∀b,d b->¬U A b/\∃o,p b=aa o:=λb z=>let ⟨_,_,x3,o,x4,_⟩:=v b z;⟨x3,o,x4⟩
   obtain⟨⟨J,T,P⟩,W⟩:=O;have Z:Grow (U S) (U A) F (λb=>B b\/d b) H p:=⟨λb z=>.inl (j.fro b z),j.keep,j.there,λb z=>z.elim (j.fnew b) λw=>.inr (.inl (v b w).1),j.onew⟩
   have L:aN X.K p (λb=>B b\/d b) (.lst xs) (.ref a):=⟨a,J,rfl,.inl T,.inr ((W a).mpr rfl),a6.mono (λ_ z=>.inl z) (λ_ _ _ z=>z) (λ_ _ z _=>z) _ _ P⟩
   exact h _ _ _ p ((M.more Y).set L) (Z.trans (Grow.less i)) (iE.set Q)
section
variable{b a:aC}{y:Str}{g j d c:Pos}{l:ac (List PV)}{m:ac PO}
def E7(i:Nat)(W:X.N.Nodup)(B:iG X n x N' cap)(T:X.calm=ah)(N:DI X E (.Name x g) a l)(J:∀C o p r q,DF (bB X n N' C o p r q) E0 f dt) (P:∀C o p r q,DE (bB X n N' C o p r q) E0 b de)(M:i∉pin:=by decide) (A:X.N[i]?=aa y:=by rfl) (G:Loc X.env.scope y:=by first|exact Or.inl rfl|exact Or.inr rfl) (z:jr (.ListComp b [⟨.Name x g,a,f,0⟩] n d) (aa (.Name y j)) c.line X.env=pure ah:=by rfl)(O:av X y:=by mleft) (L:∀x,lT a X.env x=pure x:=by intro _;rfl):DS X E pin (.Assign [.Name y j] (.ListComp b [⟨.Name x g,a,f,0⟩] n d) c) (bw i (dF (bE cap l dt de))):=λF S Y u H D w h=>fS (IU (wi:=lO X (.Name x g) a) (ts:=λu H Q=>∀C o p r q,nJ (bB X n N' C o p r q) f u H Q) (te:=λu H Q=>∀C o p r q,gG (bB X n N' C o p r q) b u H Q) B T wu (λC o p r q v s u H Q I h=>(h C o p r q).run v s I) (λC o p r q v s u H Q I h=>(h C o p r q).run v s I) W A G z O L) (G3 N J P w (FH M w h))
def QD(i:Nat)(T:X.N.Nodup)(B:iG X n x N' cap)(P:X.calm=ah)(M:DI X E (.Name x g) a l)(O:∀C o p r q,DN (bB X n N' C o p r q) E0 b m)(L:i∉pin:=by decide) (A:X.N[i]?=aa y:=by rfl) (G:Loc X.env.scope y:=by first|exact Or.inl rfl|exact Or.inr rfl) (z:jr (.ListComp b [⟨.Name x g,a,[],0⟩] n d) (aa (.Name y j)) c.line X.env=pure ah:=by rfl)(N:av X y:=by mleft) (J:∀x,lT a X.env x=pure x:=by intro _;rfl):DS X E pin (.Assign [.Name y j] (.ListComp b [⟨.Name x g,a,[],0⟩] n d) c) (cX i (zj cap l m)):=λF S W u H D w h=>fS (IU (wi:=lO X (.Name x g) a) (ts:=λu H Q=>∀C o p r q,nJ (bB X n N' C o p r q) [] u H Q) (te:=λu H Q=>∀C o p r q,gG (bB X n N' C o p r q) b u H Q) B P wu (λC o p r q v s u H Q I h=>(h C o p r q).run v s I) (λC o p r q v s u H Q I h=>(h C o p r q).run v s I) T A G z N J) (UG M O w (Rm L w h))
end
def sr:List PV->Option PO
 |[.str y]=>aa (.lst (y.map λc=>.str [c]))
 |_=>ae
def Q3{K:ax}:lA K (λxs H Q=>∃y:Tx,xs=[tV y]/\y.length<=bD/\∀l,H l=ae->Q (.ref l) (upd H l (.lst (y.map sg)))) sr:=λF H xs f Q g d b e q=>by
 unfold sr at e;split at e
 .cases e;obtain⟨v,rfl,rfl,c⟩:=gI b;exact⟨_,rfl,c,λl a=>q l F _ _ (Al.new0 a) (vx a (Bk _)) (vJ a d trivial)⟩
 .cases e
end
def gq(a:List Nat):Nat->aj->Bool
 |_,[]=>ah
 |i,.own c::b=>a.contains i&&gu c&&gq a (i+1) b
 |i,_::b=>gq a (i+1) b
def sE:∀{b:aj}{k:Nat},gq c k b=ah->∀(i:Nat) a,b[i]?=aa (.own a)->k+i∈c/\gu a=ah
 |[],_,_,i,a,e=>by simp at e
 |.own q::b,k,h,0,a,e=>by simp only[D6,Option.some.injEq,Slot.own.injEq]at e;subst e;simp only[gq,h_]at h;exact⟨~~~h.1.1,h.1.2⟩
 |.own q::b,k,h,i+1,a,e=>by simp only[gq,h_]at h;have:=sE (k:=k+1) h.2 i a (~~~e);lia
 |.val q::b,k,h,0,a,e=>by simp at e
 |.none::b,k,h,0,a,e=>by simp at e
 |.val q::b,k,h,i+1,a,e=>by have:=sE (k:=k+1) (by simpa[gq]using h) i a (~~~e);lia
 |.none::b,k,h,i+1,a,e=>by have:=sE (k:=k+1) (by simpa[gq]using h) i a (~~~e);lia
def bJ(len:Nat)(b:List Nat)(g:ac Slot):ac Slot:=λa=>if a.length=len/\gq b 0 a=ah then g a else .no
def M0{r:gE}{P:aQ}{w:aJ}{K:ax}{p:Str->Option ai}{g:aB}{x:Str}{b:bf}{N c:List Str}{k n:Nat}{d:ac aM}{a:List Nat}(D:cG K p x b)(G:cq N c (br b))(z:N.length=c.length+n)(B:∀(kV q v:ai) (F:Option af) (m C:ai) (o:List ai),o.length=c.length->gy (iS x x (j3 b) (f8 b) (br b) .none kV q v F m C) ⟨o,[]⟩=pure (c.zip o))(y:∀(f:af) (m:ai) (A:aX) (l:List Env) (s:ao) (H:Hp) (E:XK),fR k (A.deeper (jt x (br b) s.heap.objs.size f m))->gD (jc r P w K p g N x (br b) f m A l s H E) E a (f8 b) d):qE r P w K p g x (k+1) c (fY K (bJ c.length a (bI n d))):=by
 have no:∀{j},bJ c.length a (bI n d) j≠.no->j.length=c.length/\gq a 0 j=ah:=λ{j} h=>by unfold bJ at h;lia
 exact UV D G z B (λj h=>(no h).1) (λj h i u e=>by have:=sE (no h).2 i u e;rwa[pD]at this) (λj h=>by unfold bJ;rw[if_pos (no h)]) y
def OS{f:af}{r:iw}{u:gE}{P:aQ}{w:aJ}{K:ax}{q:Str->Option ai}{g:aB}{x a:Str}{b:bf}{N c:List Str}{k n:Nat}{d:ac aM}{pin:List Nat}(I:qf K x a b f r)(G:cq N c (br b))(B:N.length=c.length+n)(C:∀(kV p y:ai) (F:Option af) (m D:ai) (o:List ai),o.length=c.length->gy (iS x a (j3 b) (f8 b) (br b) .none kV p y F m D) ⟨o,[]⟩=pure (c.zip o))(z:∀(f:af) (m:ai) (A:aX) (l:List Env) (s:ao) (H:Hp) (E:XK),fR k (A.deeper (jt a (br b) s.heap.objs.size f m))->gD (jc u P w K q g N a (br b) f m A l s H E) E pin (f8 b) d):lD P w K q g u (k+1) f r c (fY K (bJ c.length pin (bI n d))):=by
 have no:∀{j},bJ c.length pin (bI n d) j≠.no->j.length=c.length/\gq pin 0 j=ah:=λ{j} h=>by unfold bJ at h;lia
 exact Hb I G B C (λj h=>(no h).1) (λj h i v e=>by have:=sE (no h).2 i v e;rwa[pD]at this) (λj h=>by unfold bJ;rw[if_pos (no h)]) z
def Ni{P:aQ}{w:aJ}{K:ax}{o:Str->Option ai}{c:aB}{x:Str}{a:bf}{N b:List Str}{k n:Nat}{d:ac aM}{pin:List Nat}(D:cG K o x a)(C:cq N b (br a))(v:N.length=b.length+n)(y:∀(kV p r:ai) (B:Option af) (l z:ai) (m:List ai),m.length=b.length->gy (iS x x (j3 a) (f8 a) (br a) .none kV p r B l z) ⟨m,[]⟩=pure (b.zip m))(u:∀(f:af) (l:ai) (A:aX) (j:List Env) (s:ao) (H:Hp),k7 k (A.deeper (jt x (br a) s.heap.objs.size f l))->gD (wm P w K o c N x (br a) f l A j s H) E0 pin (f8 a) d):yA P w K o c x (k+1) b (fY K (bJ b.length pin (bI n d))):=by
 have no:∀{g},bJ b.length pin (bI n d) g≠.no->g.length=b.length/\gq pin 0 g=ah:=λ{g} h=>by unfold bJ at h;lia
 exact K6 D C v y (λg h=>(no h).1) (λg h i q e=>by have:=sE (no h).2 i q e;rwa[pD]at this) (λg h=>by unfold bJ;rw[if_pos (no h)]) u
def IM{P:List ai->Prop}(h:∀a,P [a])(b:List ai)(c:b.length=1):P b:=by
 cases b with
 |nil=>cases c
 |cons a r=>grind
def Jj{P:List ai->Prop}(h:∀a b,P [a,b])(c:List ai)(d:c.length=2):P c:=by
 cases c with
 |nil=>cases d
 |cons a r=>exact IM (P:=λr=>P (a::r)) (h a) r (Af d)
def Ge{P:List ai->Prop}(h:∀a b c,P [a,b,c])(d:List ai)(f:d.length=3):P d:=by
 cases d with
 |nil=>cases f
 |cons a r=>exact Jj (P:=λr=>P (a::r)) (h a) r (Af f)
def T5{P:List ai->Prop}(h:∀a b c d,P [a,b,c,d])(f:List ai)(g:f.length=4):P f:=by
 cases f with
 |nil=>cases g
 |cons a r=>exact Ge (P:=λr=>P (a::r)) (h a) r (Af g)
def PD{d:iw}{c:List Str}(h:∀a,gy d ⟨[a],[]⟩=pure (c.zip [a]))(b:List ai)(f:b.length=1):gy d ⟨b,[]⟩=pure (c.zip b):=IM (P:=λb=>gy d ⟨b,[]⟩=pure (c.zip b)) h b f
def Lo{f:iw}{d:List Str}(h:∀a b,gy f ⟨[a,b],[]⟩=pure (d.zip [a,b]))(c:List ai)(g:c.length=2):gy f ⟨c,[]⟩=pure (d.zip c):=Jj (P:=λc=>gy f ⟨c,[]⟩=pure (d.zip c)) h c g
def Ox{g:iw}{f:List Str}(h:∀a b c,gy g ⟨[a,b,c],[]⟩=pure (f.zip [a,b,c]))(d:List ai)(i:d.length=3):gy g ⟨d,[]⟩=pure (f.zip d):=Ge (P:=λd=>gy g ⟨d,[]⟩=pure (f.zip d)) h d i
def TV{i:iw}{g:List Str}(h:∀a b c d,gy i ⟨[a,b,c,d],[]⟩=pure (g.zip [a,b,c,d]))(f:List ai)(j:f.length=4):gy i ⟨f,[]⟩=pure (g.zip f):=T5 (P:=λf=>gy i ⟨f,[]⟩=pure (g.zip f)) h f j
def jl:s_ (lB P w) X E0:=λ_ _ _ _ _ _ _ h=>by obtain⟨a,T,c,b,_,_,_,_,_,_,_,z⟩:=h;exact z.elim
def jd:fA "len"=aa (.builtin "len"):=by decide +kernel
def zH:fA "all"=aa (.builtin "all"):=by decide +kernel
def mD:fA "sorted"=aa (.builtin "sorted"):=by decide +kernel
def iK:fA "isinstance"=aa (.builtin "isinstance"):=by decide +kernel
def Rh:fA "int"=aa (.type "int"):=by decide +kernel
def Q6:fA "bool"=aa (.type "bool"):=by decide +kernel
def Pn:fA "str"=aa (.type "str"):=by decide +kernel
def A5:fA "list"=aa (.type "list"):=by decide +kernel
def oU:fA "tuple"=aa (.type "tuple"):=by decide +kernel
def GT:fA "set"=aa (.type "set"):=by decide +kernel
def SQ:fA "ValueError"=aa (.type "ValueError"):=by decide +kernel
def o5:aC->Bool
 |.Starred _ _=>ah
 |_=>ak
def jx(h:o5 e=ak):aV (e::es) env=(ak,a9 e env)::aV es env:=by
 cases e <;> first|rfl|cases h
section
def aG(g:DE X E e d)(f:DA X E a b)(h:o5 e=ak:=by rfl):DA X E (e::a) (ay d b):=PP g f (jx h)
def a_(g:DE X E e d)(f:DG X E a c)(h:o5 e=ak:=by rfl):DG X E (e::a) (gV d c):=MU g f (jx h)
end
def vM:List ai:=[.type "ValueError",.type "Exception",.type "BaseException",.type "object"]
def CP{K:ax}(X:K.In h)(q:pF K C B nw=ah):∃i N w p bs E j a G c F D A z y x g,h.get? C=aa (excClassObj w p C N bs i E j a G c F D A z y x nw)/\h.Ns N g/\g "__init__"=ae/\OwnTail h B i:=by
 unfold pF at q;split at q
 case h_2=>cases q
 case h_1 d0 cdata slots look=>
  split at q
  case h_2=>cases q
  case h_1 C2 tl s0 s1 s2 s3 nn s5 em es=>
   rw[h_,h_,h_,h_,h_]at q;obtain⟨⟨⟨⟨⟨v,u⟩,f⟩,s⟩,b⟩,r⟩:=q;have o:=beq_iff_eq.mp v;have n:=beq_iff_eq.mp u;have d:=beq_iff_eq.mp r;subst o n;cases cdata;dsimp only at em f b d;subst em;have m:=Ki _ |>.mp f
   subst m;have l:slots=#[s0,s1,s2,s3,aa (.builtin nn),s5]:=by cases slots;exact congrArg Array.mk es
   subst l;exact⟨tl,_,_,_,_,_,_,_,_,_,d0,s0,s1,s2,s3,s5,_,X _ _ look,Heap.Ns.of_isNs (PySem.W.isNs_of_in X b),PySem.W.nsMap_none_of_in X b d,PySem.W.tail_of_in X s⟩
def M4{K:ax}(X:K.In h)(e:a x=aa (.ref C))(q:pF K C B nw=ah):OwnCls x C B nw a h:=⟨e,CP X q⟩
def Tq{K:ax}(X:K.In h)(q:pF K C vM nw=ah):qJ h C:=by obtain⟨p,N,f,d,bs,n,c,a,r,b,o,m,l,j,i,g,s,e,_,_,t⟩:=CP X q;exact⟨p,N,f,d,bs,n,c,a,r,b,o,m,l,j,i,g,nw,e,t.hasType rfl⟩
def subB(K:ax)(D C:af):Bool:=match K.lookup C with
 |some ⟨_,_,.cls a,_⟩=>a.mro.contains (.ref D)
 |_=>ak
def NG{K:ax}(X:K.In h)(q:pF K C B nw=ah)(s:subB K D C=ah):Under h D (.ref C):=by
 obtain⟨p,N,f,d,bs,n,c,a,r,b,o,m,l,j,i,g,x,e,_⟩:=CP X q;refine⟨C,p,N,f,d,bs,n,c,a,r,b,o,m,l,j,i,g,nw,rfl,e,?_⟩;unfold subB at s;split at s
 .rename_i w v z u look;have y:=X _ _ look;lia
 .cases s
def yQ(K:ax)(C:af):Bool :=
 qV K (.ref C) "__getattribute__" == aa (aa (.builtin "BaseException.__getattribute__"))&&qV K (.ref C) "__getattr__" == aa ae&&qV K (.ref C) "__class__" == aa (aa (.builtin "object.__class__")) &&
 JJ K (.builtin "object.__class__") "__get__" == aa (aa (.builtin "getset_descriptor.__get__"))&&PySem.W.takesIn K (.builtin "object.__class__") == aa ah&&zQ K C (.type "object") == aa ah&&zQ K C (.type "BaseException") == aa ah&&(D4 K C).isSome
def Gi{K:ax}{C:af}(h:yQ K C=ah):o0 K C:=by simp only[yQ,h_,beq_iff_eq]at h;obtain⟨⟨⟨⟨⟨⟨⟨j,i⟩,g⟩,f⟩,d⟩,c⟩,b⟩,a⟩:=h;exact⟨j,i,g,f,d,c,b,a⟩
def Aw(K:ax):Bool:=K.all λp=>match p.2.cls with
 |.type t=>t != "list"
 |_=>ah
def Ir:∀{K:ax},K.lookup a=aa o->(a,o)∈K
 |[],e=>by cases e
 | (b,u)::K,e=>by
  rw[mP]at e;cases q:a == b with
  |true=>grind
  |false=>rw[q]at e;exact iu _ (Ir e)
def G5{K:ax}{H:Hp}{F:af->Prop}:∀a:List Int,a6 K H F (a.map .int) (a.map V.int)
 |[]=>rfl
 |x::a=>⟨.int x,a.map V.int,rfl,rfl,G5 a⟩
def S6{K:ax}{H:Hp}{a:af}{xs:List V}(h:Aw K=ah)(s:cF K H a xs):Rd H a (.lst xs):=by
 rcases s with s|⟨o,c,n,b,d,_⟩
 .exact s
 .have:=lZ.mp h _ (Ir b);rw[d]at this;simp at this
def T0{K:ax}{g:ac Slot}{H:Hp}{a:af}{c:List Int}{E:XK}(d:Rd H a (.lst (c.map V.int)))(h:g [.val (.lst (c.map .int))]=.ok (.val (.bl ah)) [.val (.lst (c.map .int))]):fY K g [.ref a] H (λv _=>v=.bl ah) E:=by
 refine⟨λb=>b=a,λ_ _=>False,[.val (.lst (c.map .int))],⟨rfl,λb e=>?_,λi pv e=>?_,λi l e=>?_,λi b z=>z.elim,λi j b z=>z.elim⟩,?_⟩
 .subst e;rcases d with d|⟨o,d⟩ <;> exact⟨_,d⟩
 .cases i with
  |zero=>cases e;exact⟨_,rfl,a,_,rfl,d,rfl,G5 c⟩
  |succ i=>simp at e
 .cases i with
  |zero=>cases e
  |succ i=>simp at e
 .rw[h];exact λv q n p m _ _ f _ _=>f.1
def VP{K:ax}{x:Str}{i:Int}{t:Tok}(e:dr K cm x=aa (aa (.int i t))):∃t,dr K cm x=aa (aa (.int i t)):=⟨t,e⟩
def VJ{K:ax}{x:Str}{l:Tx}{t:Tok}(e:dr K cm x=aa (aa (.str (tS l) t))):∃t,dr K cm x=aa (aa (.str (tS l) t)):=⟨t,e⟩
def c0(K:ax)(x:Str)(a:bf):Prop:=∃f oc g kV h d j b i c,dr K cm x=aa (aa (.ref f))/\K.lookup f=aa ⟨oc,g,.func (iS x x (j3 a) (f8 a) (br a) .none kV h d j b i),c⟩/\wD K b x=ah/\qX K (.ref f)=ah
def Vx{K:ax}{x:Str}{b:bf}{f:af}{oc kV j h d m:ai}{i n:Option af}{g:Array (Option ai)}(a:dr K cm x=aa (aa (.ref f)))(l:K.lookup f=aa ⟨oc,i,.func (iS x x (j3 b) (f8 b) (br b) .none kV j h n d m),g⟩)(c:wD K d x=ah) (k:qX K (.ref f)=ah):c0 K x b:=⟨f,oc,i,kV,j,h,n,d,m,g,a,l,c,k⟩
def c0.at{K:ax}{h:aB}{b:Str->Option ai}{x:Str}{st:bf}(d:c0 K x st)(X:K.In h)(G:h.Ns cm b):cG K b x st:=by obtain⟨f,oc,j,kV,m,i,o,n,ct,g,a,l,c,k⟩:=d;exact⟨f,_,Ag X G a,Ik l c k⟩
def jz(a:List (aK×PV))(k:aK):Option PV:=(a.find? λb=>decide (b.1=k)).map (·.2)
def oO(a:List (aK×PV))(k:aK)(v:PV):List (aK×PV):=if(a.any λb=>decide (b.1=k))=ah then a.map (λb=>if b.1=k then(b.1,v)else b)else a++[(k,v)]
def jC:PV->Option aK
 |.int i=>aa (.inl i)
 |.str x=>aa (.inr (tS x))
 |_=>ae
section
variable{K:ax}{F:af->Prop}{S:Nat->af->Prop}{ε:aj}{l:St}{H:Hp}{i:Nat}{d:List (aK×PV)}{f:List (aK×V)}{a:af}
def tN(r:aN K H F x v)(e:jC x=aa k):v=kV k:=by
 cases x <;> simp[jC]at e
 .subst e;exact r
 .subst e;exact r.1
def jn.len(h:jn K H F d f):f.length=d.length:=by
 unfold jn at h
 induction h with
 |nil=>rfl
 |cons _ _ b=>simp[b]
def jn.val(h:jn K H F d f)(k:aK):(∃x v,jz d k=aa x/\j5 f k=aa v/\aN K H F x v)\/(jz d k=ae/\j5 f k=ae):=by
 unfold jn at h
 induction h with
 |nil=>exact .inr ⟨rfl,rfl⟩
 |@cons p q ps qs r _ ih=>
  by_cases e:p.1=k
  .refine .inl ⟨p.2,q.2,by simp[jz,n5,e],?_,r.2⟩;rw[zf (by rw[<-r.1];exact e)]
  .have b:¬q.1=k:=by rw[<-r.1];exact e
   rw[yK b];have:jz (p::ps) k=jz ps k:=by simp[jz,n5,e]
   rw[this];exact ih
def jn.any(h:jn K H F d f)(k:aK):(d.any λb=>decide (b.1=k))=f.any λb=>decide (b.1=k):=by
 unfold jn at h
 induction h with
 |nil=>rfl
 |cons r _ c=>rw[pt,pt,c,r.1]
def jn.put(h:jn K H F d f)(k:aK)(r:aN K H F x v):jn K H F (oO d k x) (fZ f k v):=by
 unfold oO fZ;rw[h.any k];split
 .rename_i b;clear b;unfold jn at h ⊢
  induction h with
  |nil=>exact .nil
  |@cons p q ps qs r1 _ ih=>refine .cons ?_ ih;lia
 .exact zV h ⟨rfl,r⟩
def aL.dkAt(r:aL K F S ε l H)(e:ε[i]?=aa (.own (.dK d))):∃a f,l[i]?=aa (aa (.ref a))/\H a=aa (.dK f)/\jn K H F d f/\S i a/\∀b,S i b->b=a:=by obtain⟨a,n,⟨g,m,j⟩,c⟩:=r.own i _ e;exact⟨a,g,n,m,j,(c a).mpr rfl,λb h=>(c b).mp h⟩
def aL.updO(r:aL K F S ε l H)(e:ε[i]?=aa (.own p))(P:gu p=ah)(G:l[i]?=aa (aa (.ref a)))(O:eA o')(h:∀A,(∀x v,aN K H F x v->aN K A F x v)->(∀x v,a6 K H F x v->a6 K A F x v)->A a=aa o'->∀J:af->Prop,(∀b,J b↔b=a)->fq K A F po' a J):aL K F S (ε.set i (.own po')) l (L2.upd H a o')/\Grow (U S) (U S) F F H (L2.upd H a o'):=by
 obtain⟨Q,I,N⟩:=r.own i p e;rw[G]at I;cases I;have s:=Gm N P;have C:S i a:=(s a).mpr rfl;have E:∀b,S i b->b=a:=λb z=>(s b).mp z;have B:i<ε.length:=(cP.mp e).1;have g:Grow (U S) (U S) F F H (L2.upd H a o'):=⟨λ_ z=>z,λb o q n=>by rw[a8 (by rintro rfl;exact n ⟨i,C⟩)];exact q,λb o q=>by
  by_cases D:b=a
  .subst D;exact⟨_,upd_same⟩
  .exact⟨o,by rw[a8 D];exact q⟩,λ_ z=>.inl z,λ_ z=>.inl z⟩
 refine⟨⟨by rw[ge];exact r.len,λb z=>let ⟨o,q⟩:=r.ex b z;g.there b o q,λj pv q=>?_,λj p q=>?_,λj b z=>?_,r.dist⟩,g⟩
 .have m:i≠j:=by rintro rfl;rw[eE B]at q;cases q
  rw[cQ m]at q;obtain⟨v,y,u⟩:=r.val j pv q;exact⟨v,y,u.grow g r.fit⟩
 .by_cases m:i=j
  .subst m;rw[eE B]at q;cases q;exact⟨a,G,h _ (λ_ _ z=>z.grow g r.fit) (λ_ _ z=>z.grow g r.fit) upd_same _ s⟩
  .rw[cQ m]at q;obtain⟨c,y,u⟩:=r.own j p q;refine⟨c,y,u.mono (λ_ _ z=>z.grow g r.fit) (λ_ _ z=>z.grow g r.fit) λb o z w=>?_⟩;rw[a8 (by rintro rfl;exact m (r.dist i j b C z))];exact w
 .obtain⟨⟨p,y⟩,u,o,M,L⟩:=r.foot j b z;by_cases m:i=j
  .subst m;rw[E b z];exact⟨⟨_,eE B⟩,by rw[<-E b z];exact u,_,upd_same,O⟩
  .exact⟨⟨p,by rw[cQ m];exact y⟩,u,o,by rw[a8 (by rintro rfl;exact m (r.dist i j b C z))];exact M,L⟩
end
def eD(b:aj)(i:Nat):Option (List (aK×PV)):=match b[i]? with
 |some (.own (.dK a))=>aa a
 |_=>ae
def mF(h:eD b i=aa a):b[i]?=aa (.own (.dK a)):=by
 unfold eD at h;split at h
 .cases h;assumption
 .cases h
section
variable{X:Cx}{E:XK}{g:List Nat}{e b c:aC}{de db f:ac PV}{d:Pos}
def yH:ac PO:=λa=>.ok (.dK []) a
def M5:DN X E (.Dict [] [] d) yH:=λF S m l H Q a h=>cb NT λp i=>by
 have al:Al F F H (upd H p (.dK [])):=Al.new0 i;refine h F S _ (a.al al) al.grow p (λb=>b=p) ⟨⟨[],upd_same,.nil⟩,λb=>kN⟩ λb z=>?_;subst z;refine⟨i,λz=>?_,λ⟨j,z⟩=>?_,_,upd_same,trivial⟩
 .obtain⟨o,q⟩:=a.ex b z;lia
 .obtain⟨_,_,o,q,_⟩:=a.foot j b z;lia
def lc(i:Nat)(db:ac PV):ac PV:=λε=>(aS (eD ε i) ε).bind λ_ ε=>(db ε).bind λk ε1=>(aS (eD ε1 i) ε1).bind λa ε1=>aS ((jC k).bind λk=>jz a k) ε1
def GK(i:Nat)(hu:X.A.units+64<cLine)(N:DE X E b db)(P:X.N[i]?=aa y:=by rfl)(T:ee X.env.scope y:=by eq_refl)(M:ad y:=by decide) (W:az y:=by decide) (J:BU b:=by exact λ_ _=>rfl):DE X E (.Subscript (.Name y B) b d) (lc i db):=λF S p A H Q r h=>by
 unfold lc at h;cases o:eD p i with
 |none=>rw[o]at h;exact h.elim
 |some w=>
  rw[o]at h;simp only[bS,R.bind_ok]at h;obtain⟨a,C,z,_⟩:=r.dkAt (mF o);refine cb (Lf ∅ (e_ P T M W) bK J) ⟨.ref a,z,N F S p A H _ r ((Ok.bind h).imp λk l F1 Y Z s g1 q u D=>?_)⟩;cases n:eD l i with
  |none=>rw[n]at q;exact q.elim
  |some I=>
   rw[n]at q;simp only[bS,R.bind_ok]at q;obtain⟨a',ws,j,O,L,_⟩:=s.dkAt (mF n);rw[z]at j;cases j;cases m:jC k with
   |none=>rw[m]at q;exact q.elim
   |some G=>
    rw[m,gz]at q;rw[tN D m];rcases L.val G with⟨x,v,h1,h2,h3⟩|⟨h1,h2⟩
    .rw[h1]at q;exact⟨a,v,rfl,by rw[<-h2];exact ny.k O,q F1 Y Z s (Grow.refl ..) v h3⟩
    .rw[h1]at q;exact q.elim
def mE(i:Nat)(db f:ac PV):ac PV:=λh=>(aS (eD h i) h).bind λ_ h=>(db h).bind λk j=>(f j).bind λz a=>(aS (eD a i) a).bind λl a=>aS ((jC k).map λk=>(jz l k).getD z) a
def H_(i:Nat){j:Pos}(hu:X.A.units+64<cLine)(hb:DE X E b db)(hc:DE X E c f)(hN:X.N[i]?=aa y:=by rfl)(eO:ee X.env.scope y:=by eq_refl)(hd:ad y:=by decide) (bv:az y:=by decide)(n:n4 (.Name y l) "get" X.env (a9 (.Name y l) X.env)=a9 (.Name y l) X.env:=by rfl) (C:(j.endLine == d.line)=ah:=by rfl) (s1:o5 b=ak:=by rfl) (s2:o5 c=ak:=by rfl):DE X E (.Call (.Attribute (.Name y l) "get" j) [b,c] [] d) (mE i db f):=λF S L J H Q N h=>by
 have M:aV [b,c] X.env=[(ak,a9 b X.env),(ak,a9 c X.env)]:=by rw[jx s1,jx s2];rfl
 have m:M2 X (.Name y l) "get" j b c d:=⟨n,by rw[M];rfl,C,by rw[M];rfl⟩
 unfold mE at h;cases I:eD L i with
 |none=>rw[I]at h;exact h.elim
 |some O=>
  rw[I]at h;simp only[bS,R.bind_ok]at h;obtain⟨a,ws0,T,B,_⟩:=N.dkAt (mF I);refine cb (N1 ∅ (e_ hN eO hd bv) bK bK m) ⟨.ref a,T,a,rfl,.inl ⟨_,.inl B⟩,hb F S L J H _ N ((Ok.bind h).imp λk r F1 S1 H1 r1 g1 q u ru=>?_)⟩;refine hc F1 S1 r J H1 _ r1 ((Ok.bind q).imp λz p Z W Y A g2 q w s=>?_);cases G:eD p i with
  |none=>rw[G]at q;exact q.elim
  |some kvs=>
   rw[G]at q;simp only[bS,R.bind_ok]at q;obtain⟨a',ws,o,P,hk,_⟩:=A.dkAt (mF G);rw[T]at o;cases o;cases D:jC k with
   |none=>rw[D]at q;exact q.elim
   |some ky=>
    rw[D,wS]at q;rw[tN ru D];rcases hk.val ky with⟨x,v,n,h2,C⟩|⟨n,h2⟩
    .rw[n]at q;exact⟨aa v,by rw[<-h2];exact ny.k P,q Z W Y A (Grow.refl ..) v C⟩
    .rw[n]at q;exact⟨ae,by rw[<-h2];exact ny.k P,q Z W Y A (Grow.refl ..) w s⟩
def jU(i:Nat)(db de:ac PV):ac aM:=λl=>(de l).bind λy h=>(aS (eD h i) h).bind λ_ h=>(db h).bind λk a=>(aS (eD a i) a).bind λj a=>(aS (jC k) a).bind λk a=>if j.length<bD then .ok .next (a.set i (.own (.dK (oO j k y))))else .no
def zE(i:Nat)(hu:X.A.units+64<cLine)(hb:DE X E b db)(he:DE X E e de)(hN:X.N[i]?=aa y:=by rfl)(eO:ee X.env.scope y:=by eq_refl)(hd:ad y:=by decide) (bv:az y:=by decide) (hs:jr e (aa (.Subscript (.Name y G) b l)) d.line X.env=pure ak:=by rfl):DS X E g (.Assign [.Subscript (.Name y G) b l] e d) (jU i db de):=λF S M p H D T h=>by
 refine fS (FL ∅ (e_ hN eO hd bv) bK bK hs) (he F S M p H _ T (h.bindE.imp λy m F1 S1 H1 s g1 q v P=>?_));cases C:eD m i with
 |none=>rw[C]at q;exact q.elim
 |some J=>
  rw[C]at q;simp only[bS,R.bind_ok]at q;obtain⟨a,N,A,ha0,_⟩:=s.dkAt (mF C);refine⟨.ref a,A,hb F1 S1 m p H1 _ s (q.bindE.imp λk r F2 S2 H2 I g2 j u Q=>?_)⟩;cases o:eD r i with
  |none=>rw[o]at j;exact j.elim
  |some x=>
   rw[o]at j;simp only[bS,R.bind_ok]at j;obtain⟨a',O,n,ha,L,_⟩:=I.dkAt (mF o);rw[A]at n;cases n;cases B:jC k with
   |none=>rw[B]at j;exact j.elim
   |some w=>
    rw[B]at j;simp only[bS,R.bind_ok]at j;split at j
    .rename_i hl;rw[tN Q B];have fF:=L.put w (P.grow g2 s.fit);obtain⟨W,g3⟩:=I.updO (po':=.dK (oO x w y)) (o':=.dK (fZ O w v)) (mF o) rfl A trivial λH' Z m2 z Sa Y=>⟨⟨_,z,fF.mono Z⟩,Y⟩
     exact⟨a,_,rfl,zN.k ha (by rw[L.len];exact gQ hl kZ),j F2 S2 p _ W g3 (iE.refl _ _)⟩
    .exact j.elim
end
section
variable{X:Cx}
def KV.at{kvs:List (aK×V)}{a:List (aK×ai)}(r:KV kvs a){i:Nat}{k:aK}{u:ai}(h:a[i]?=aa (k,u)):∃v,kvs[i]?=aa (k,v)/\RelV v u:=by
 unfold KV at r
 induction r generalizing i with
 |nil=>simp at h
 |@cons p q ps qs r1 _ ih=>
  cases i with
  |zero=>simp at h;subst h;exact⟨p.2,by simp[show k=p.1 from r1.1.symm],r1.2⟩
  |succ i=>exact ih (~~~h)
end
section
variable{X:Cx}{e b c:aC}{de u d:ac PV}{l p:Pos}
def B4(i j:Nat)(d:ac PV):ac aM:=λε=>(d ε).bind λx ε1=>match x with
 |.tup [a,b]=>.ok .next ((ε1.set i (.val a)).set j (.val b))
 |_=>.no
def Ux(i j:Nat)(hc:X.calm=ah)(B:X.N.Nodup)(he:DE X E e de)(hp:i∉g:=by decide)(W:j∉g:=by decide)(hi:X.N[i]?=aa x:=by rfl)(hj:X.N[j]?=aa y:=by rfl)(Z:Loc X.env.scope x:=by first|exact Or.inl rfl|exact Or.inr rfl) (Y:Loc X.env.scope y:=by first|exact Or.inl rfl|exact Or.inr rfl)(hf:av X x:=by mleft) (w:av X y:=by mleft)(hs:De [.Tuple [.Name x s,.Name y r] k f] e l.line X.env=pure ak:=by rfl) (hw:Df [.Tuple [.Name x s,.Name y r] k f] e X.env=pure ae:=by rfl):DS X E g (.Assign [.Tuple [.Name x s,.Name y r] k f] e l) (B4 i j de):=λF S I C H D O h=>by
 refine fS (By bK (HZ hc (zG (qN B hi Z hf) (zG (qN B hj Y w) HS))) hs hw rfl) (he F S I C H _ O (h.bindE.imp λz G F1 S1 H1 T g1 A v M=>?_));split at A
 .rename_i a b;obtain⟨p,us,rfl,dw,N⟩:=M;obtain⟨L,ra,rfl,Q,J,rb,rfl,P,rfl⟩:=N;refine⟨p,_,rfl,cu.of dw,rfl,L,_,rfl,J,_,rfl,rfl,?_⟩;exact A F1 _ _ H1 ((T.set Q).set P) ((Grow.less i).trans (Grow.less j)) ((iE.set hp).trans (iE.set W))
 .exact A.elim
def Ov(K:ax)(r:V->List V->Hp->VK->Prop)(h:TE)(t:TA):TE:=λa H Q=>h a H λx f=>(∃p xs,x=.ref p/\f p=aa (.tup xs))/\t a f λxs i=>r x xs i Q
def LP{i:Str}{y:String}{r:V->List V->Hp->VK->Prop}{C:TE}{t:TA}{j f:Pos}{es:List aC}(w:PySem.Slot "tuple" i y)(S:typeOf (.builtin y)=pure (.type "method_descriptor"))(hm:wx X y r)(ho:PE X o C)(ha:PA X (e::es) t)(W:n4 o i X.env (a9 o X.env)=a9 o X.env:=by rfl)(O:((c8 f (aV (e::es) X.env)).all (λx=>!x.1)&&(q8 f (q_ [] X.env)).all (λx=>x.1.isSome)&&decide ((e::es).length+([]:List jL).length+(if([]:List jL).isEmpty then 0 else 1)<30))=ah:=by rfl)(T:(j.endLine == f.line)=ah:=by rfl) (hs:aV (e::es) X.env=(ak,a9 e X.env)::aV es X.env:=by rfl) (L:(c8 f (aV es X.env)).any (·.1)=ak:=by rfl):PE X (.Call (.Attribute o i j) (e::es) [] f) (Ov X.K r C t):=by
 intro B s A H Q I h;refine wpAny_Call_method_late W O T rfl (aW (ho B s A H _ I h) λv D h'=>?_);obtain⟨x,J,G,Z,⟨p,xs,rfl,hp⟩,q1⟩:=h';cases Z;obtain⟨_,its,_,⟨ob,e1,e2,_⟩,o2,e3,e4⟩:=(show cn X.prog X.w J D.heap p (.tup xs)from G.hok p _ hp)
 refine⟨"tuple",y,PySem.F.plainAttrs_tuple,w,S,⟨ob,e1,e2⟩,λa z=>?_,?_⟩
 .grind
 have F:=ha f B D A J _ G q1;rw[hs]at F ⊢;refine JW (by show(ak||(c8 f (aV es X.env)).any (·.1))=ak;rw[L] <;> rfl) (Do ?_);exact aW F λN P h2=>by obtain⟨M,H2,I2,Y,q2⟩:=h2;exact hm B P A H2 (.ref p) M (.ref p) N Q I2 rfl Y q2
def sG(f:List PV->PV->Option PV)(d de:ac PV):ac PV:=λε=>(d ε).bind λx h=>match x with
 |.tup xs=>(de h).bind λk a=>aS (f xs k) a
 |_=>.no
def Hl{f a:Pos}(Y:DE X E o d)(he:DE X E e de)(T:n4 o "count" X.env (a9 o X.env)=a9 o X.env:=by rfl)(P:(f.endLine == a.line)=ah:=by rfl) (dG:o5 e=ak:=by rfl):DE X E (.Call (.Attribute o "count" f) [e] [] a) (sG mz d de):=λF S L C H Q O h=>by
 have A:=jx (es:=[]) (env:=X.env) dG;refine cb (LP PySem.F.slot_tuple_count PySem.F.type_tuple_count Lb bK (je bK jE A) T (by rw[A];rfl) P A rfl) (Y F S L C H _ O ((Ok.bind h).imp λx j F1 S1 H1 s g1 B v M=>?_));split at B
 .rename_i xs;obtain⟨p,D,rfl,G,N⟩:=M;refine⟨⟨p,D,rfl,G⟩,he F1 S1 j C H1 _ s ((Ok.bind B).imp λk J F2 S2 H2 W I q w r=>?_)⟩;unfold mz at q;cases i:dI k with
  |none=>rw[i]at q;exact q.elim
  |some z=>
   cases y:iM xs with
   |none=>rw[i,y]at q;exact q.elim
   |some ws=>rw[i,y]at q;obtain⟨rfl,Z⟩:=vc (N.grow I s.fit) y;rw[jX r i];exact⟨p,D,z,rfl,rfl,cu.of (I.imm s.fit G id),r_ i,Z,q F2 S2 H2 W (Grow.refl ..) _ rfl⟩
 .exact B.elim
end
section
variable{X:Cx}
def Gw:∀(a:List ai) (ss:List Str),a.length=ss.length->(∀(i:Nat) v x,a[i]?=aa v->ss[i]?=aa x->∃t,v=.str x t)->cS a ss
 |[],[],_,_=>.nil
 |v::a,x::ss,b,h=>by obtain⟨t,rfl⟩:=h 0 v x rfl rfl;exact .cons x t (Gw a ss (Af b) λi v x d c=>h (i+1) v x (~~~d) (~~~c))
 |[],_::_,b,_=>by cases b
 |_::_,[],b,_=>by cases b
def UK(S:X.calm=ah):eG X (.builtin "sorted") (λxs H Q=>∃(d:af) (kvs:List (aK×V)) (a:List Tx),xs=[.ref d]/\H d=aa (.dK kvs)/\kvs.map (·.1)=a.map (λx=>Sum.inr (tS x))/\a.length<64/\∀l,H l=ae->Q (.ref l) (upd H l (.lst (cr (aT a))))):=by
 intro ag s E H xs us Q I r h;obtain⟨d,kvs,a,rfl,P,w,p,q⟩:=h;obtain⟨u,rfl,G⟩:=vals1 r;cases G;obtain⟨z,N,o,b,Z⟩:=Cd I.hok P;obtain⟨ep,F⟩:=Z.dictAt;have C:o.length=a.length:=by have g:=congrArg pi w;simp only[cK]at g;rw[<-b.length];exact g
 refine OI (PySem.W.kdu_collect (PySem.W.kdl_dict (knd:=g9 X.prog X.w) (kvs:=o) (ep:=ep) N) (uV (I.ok.hd S)) F (by rw[<-b.length];exact z) λA j aA k m=>?_);have f:cS aA.toList (a.map tS):=by
  refine Gw _ _ (by rw[cK,iP,m.1,C]) λi v x g c=>?_;obtain⟨L,y,Y,W⟩:=m.2 i v (by rw[<-rj];exact g);obtain⟨wv,T,_⟩:=KV.at b Y;have n:(kvs.map (·.1))[i]?=aa L:=by rw[d8,T];rfl
  rw[w,d8]at n;rw[d8]at c;cases B:a[i]? with
  |none=>rw[B]at c;cases c
  |some l=>
   rw[B]at n c;cases n;cases c;exact Value.isStrOf_shape W
 have D:Inv X ag E H {s with heap:=A,toks:=j}:=I.kept (t':=j) k;refine⟨a.map tS,f,by rw[iP,m.1,C];exact p,λc J aP e M O b1 b2 b3=>?_⟩;exact⟨.ref _,_,Inv.sorted (s1:={s with heap:=A,toks:=j}) (ss:=a.map tS) D rfl p M O b1 b2 b3,rfl,q _ D.fresh⟩
def qA:List (aK×PV)->Option (List Tx)
 |[]=>aa []
 | (.inr k,_)::r=>(qA r).map (k.cps.toList::·)
 |_=>ae
def HN:∀{a:List (aK×PV)}{b:List Tx},qA a=aa b->a.map (·.1)=b.map (λx=>Sum.inr (tS x))
 |[],b,h=>by cases h;rfl
 | (.inr k,_)::r,b,h=>by simp only[qA,mO]at h;obtain⟨l,c,rfl⟩:=h;rw[cR,cR,HN c,qp]
 | (.inl _,_)::_,_,h=>by cases h
def yE(b:List (aK×PV)):Option PO:=(qA b).bind λa=>if a.length<64/\(∀x∈a,x.length<=bD)then aa (.lst (am (aT a)))else ae
def o_(i:Nat):ac PO:=λε=>(aS (eD ε i) ε).bind λa ε=>aS (yE a) ε
def jn.keys{K:ax}{H:Hp}{F:af->Prop}{a:List (aK×PV)}{b:List (aK×V)}(h:jn K H F a b):b.map (·.1)=a.map (·.1):=by
 unfold jn at h
 induction h with
 |nil=>rfl
 |cons r _ c=>grind
def PN{E:XK}(i:Nat){y:Str}{v p f:Pos}(J:X.calm=ah)(C:X.mg "sorted"=ae)(M:X.N[i]?=aa y:=by rfl)(O:ee X.env.scope y:=by eq_refl)(I:ad y:=by decide) (P:az y:=by decide) (G:Gl X "sorted":=by rfl):DN X E (.Call (.Name "sorted" p) [.Name y v] [] f) (o_ i):=λF S u T H Q d h=>by
 unfold o_ at h;cases n:eD u i with
 |none=>rw[n]at h;exact h.elim
 |some g=>
  rw[n]at h;simp only[bS,R.bind_ok]at h;obtain⟨a,A,N,L,D,W,_⟩:=d.dkAt (mF n);unfold yE at h;cases m:qA g with
  |none=>rw[m]at h;exact h.elim
  |some q=>
   rw[m,gz]at h;split at h
   .rename_i s;refine cb (mH (UK J) G C mD (je (e_ M O I P) jE (jx rfl)) (by decide) (by decide) (jx rfl) rfl) ⟨.ref a,N,a,A,q,rfl,L,by rw[D.keys];exact HN m,s.1,λl r=>?_⟩;have al:Al F F H (L2.upd H l (.lst (cr (aT q)))):=Al.new0 r;refine h F S _ (d.al al) al.grow l (λc=>c=l) ⟨⟨_,upd_same,VB.mpr ⟨rfl,λx B=>s.2 x ((fk _).mem_iff.mp B)⟩⟩,λc=>kN⟩ λb z=>?_;subst z;exact⟨r,λz=>wX (d.ex _ z) (λo w=>by lia),λ⟨j,z⟩=>wX (d.foot j b z).2.2 (λo w=>by lia),_,upd_same,trivial⟩
   .exact h.elim
end
end Pu
namespace L2
def yR:Bool->Keyed->Array Keyed->Nat->Nat->Nat->StateT bN Sem (Option Nat):=sortPriv% PySem.Builtin.gallop
def HU:Array Keyed->Array Keyed->StateT bN Sem (Array Keyed):=sortPriv% PySem.Builtin.mergeLo
def HX:Array Keyed->Array Keyed->StateT bN Sem (Array Keyed):=sortPriv% PySem.Builtin.mergeHi
def kO(κ:KeyKind)(p:Keyed):κ.α:=(κ.keyOf p.1).getD κ.dflt
def ik(b:KeyKind)(p:Keyed):Prop:=∃a,b.keyOf p.1=aa a
def ik.k(h:ik κ p):κ.keyOf p.1=aa (kO κ p):=by obtain⟨a,e⟩:=h;unfold kO;rw[e];rfl
def iq(κ:KeyKind)(kz:gS)(c:aQ)(w:aJ)(A:aX)(s:ao):Prop :=
 ∀(E:ai->ao->Prop) (x y:ai) (a b:κ.α) {Q:Bool->ao->Prop},κ.keyOf x=aa a->κ.keyOf y=aa b->Q (κ.blt a b) s->ar (aw c w) A (keyLt' kz x y) Q E s
def OneLt.ok{κ:KeyKind}(f:κ.OneLt):iq κ oneType' prog w A s:=λE x y a b _ d c h=>by rw[keyLt'_oneType];exact f prog w A E s x y a b d c h
structure SB(kz:gS)(st:bN):Prop where
 kind:kindOf st=kz
 failed:failedOf st=ae
section
variable{d:KeyKind}
def wt(j:iq d f a w A s){b:bN}{x y:Keyed}{Q:Option Bool->bN->Prop}(i:SB f b)(g:ik d x)(c:ik d y)(h:Q (aa (d.blt (kO d x) (kO d y))) b):wpS (aw a w) A E s (lt' x y) Q b:=by rw[lt'_eq];refine aO (l7 ?_);rw[i.kind];exact aO (ur (DM (j _ x.1 y.1 _ _ g.k c.k ⟨rfl,aZ h⟩)))
def fK{c:bN}{b:Array Keyed}{i:Nat}(g:i<b.size){Q:Keyed->bN->Prop}(h:Q b[i] c):wpS (aw a w) A E s (elem' b i) Q c:=by rw[elem'_eq,getElem?_pos b i g];exact aZ h
def EY(c:Bool)(g:Keyed)(j:Array Keyed)(h i:Nat):StateT bN Sem (Option Bool) :=elem' j (h+i) >>= λx=>if c=ah then lt' x g else lt' g x >>= λb=>pure (b.map (!·))
def mw(d:KeyKind)(b:Bool)(c x:Keyed):Bool:=if b=ah then d.blt (kO d x) (kO d c)else !d.blt (kO d c) (kO d x)
def ON(p:iq d f a w A s){l:bN}{c:Bool}{j:Keyed}{g:Array Keyed}{b i:Nat}{Q:Option Bool->bN->Prop}(o:SB f l)(n:ik d j)(q:b+i<g.size)(m:ik d g[b+i])(h:Q (aa (mw d c j g[b+i])) l):wpS (aw a w) A E s (EY c j g b i) Q l:=by
 refine aO (fK q ?_);cases c
 .rw[if_neg (by simp)];exact aO (wt p o n m (aZ h))
 .rw[if_pos rfl];exact wt p o m n h
def Ih(hO:iq d f a w A s){L:bN}(hk:SB f L){G:Bool}{M:Keyed}{z:Array Keyed}{u n b:Nat}{Q:Option Nat->bN->Prop}(lp:ik d M)(hn:u+n<=z.size)(hA:∀i (g:i<z.size),ik d z[i]) (B:Nat->Bool) (hB:∀i (g:i<n),B i=mw d G M (z[u+i]'∅))(mono:∀i j,i<=j->j<n->B j=ah->B i=ah) (hh:b<n)(h:∀r,r<=n->(∀i,i<r->B i=ah)->(∀i,r<=i->i<n->B i=ak)->Q (aa r) L):wpS (aw a w) A E s (yR G M z u n b) Q L:=by
 have P:∀{i:Nat}{Q:Option Bool->bN->Prop},i<n->Q (aa (B i)) L->wpS (aw a w) A E s (EY G M z u i) Q L:=λ{i Q} g q=>ON hO hk lp ∅ (hA _ _) (by rw[<-hB i g];exact q);have dn:∀{i j:Nat},i<=j->j<n->B i=ak->B j=ak:=λ{i j} bP hj hf=>by
  cases e:B j with
  |false=>rfl
  |true=>rw[mono i j bP hj e]at hf;cases hf
 unfold yR;refine aO (P hh ?_);cases hr:B b with
 |true=>
  dsimp only;rw[if_pos rfl];refine aO (ie (ig (I:=λx c m=>m=L/\∃l o,c=(ae,l,o)/\l<o/\x<o/\l<n-b/\B (b+l)=ah) (Q:=λc m=>m=L/\∃l o,c=(ae,l,o)/\l<o/\l<n-b/\B (b+l)=ah/\(n-b<=o\/(o<n-b/\B (b+o)=ak))) ?_ ?_ ?_) ?_)
  .rintro x c m _ S ⟨rfl,l,o,rfl,J,T,H,p⟩;dsimp only;by_cases v:o ≥ n-b
   .rw[if_pos v];exact aZ ⟨rfl,l,o,rfl,J,H,p,.inl v⟩
   .rw[if_neg v];refine aO (P ∅ ?_);cases e:B (b+o)with
    |true=>exact aZ ⟨rfl,o,2*o+1,rfl,∅,∅,∅,e⟩
    |false=>exact aZ ⟨rfl,l,o,rfl,J,H,p,.inr ⟨∅,e⟩⟩
  .rintro c m ⟨rfl,l,o,rfl,J,T,H,p⟩;exact⟨rfl,l,o,rfl,J,H,p,.inl ∅⟩
  .exact⟨rfl,0,1,rfl,∅,∅,∅,hr⟩
  rintro c m ⟨rfl,l,o,rfl,J,H,p,N⟩;dsimp only;have Z:b+l+1<=b+min o (n-b):=∅
  have Y:b+min o (n-b)<=n:=∅
  have X:∀i,i<b+l+1->B i=ah:=λi g=>mono i (b+l) ∅ ∅ p;have W:∀i,b+min o (n-b)<=i->i<n->B i=ak:=by
   intro i g O;rcases N with N|⟨N,h6⟩
   .lia
   grind
  clear N;generalize b+l+1=lo at *;generalize b+min o (n-b)=g at *;refine aO (ie (ig (I:=λx c y=>y=m/\∃l r,c=(ae,l,r)/\l<=r/\r<=n/\r-l<=n-x/\(∀i,i<l->B i=ah)/\(∀i,r<=i->i<n->B i=ak)) (Q:=λc y=>y=m/\∃l r,c=(ae,l,r)/\r<=n/\(∀i,i<r->B i=ah)/\(∀i,r<=i->i<n->B i=ak)) ?_ ?_ ?_) ?_)
  .rintro x c y _ S ⟨rfl,l,r,rfl,a1,F,a3,D,C⟩;dsimp only;by_cases v:l ≥ r
   .rw[if_pos v];have:l=r:=∅
    subst this;exact aZ ⟨rfl,l,l,rfl,F,D,C⟩
   .rw[if_neg v];refine aO (P ∅ ?_);cases e:B (l+(r-l) / 2)with
    |true=>exact aZ ⟨rfl,_,r,rfl,∅,F,∅,λi g=>mono _ _ ∅ ∅ e,C⟩
    |false=>exact aZ ⟨rfl,l,_,rfl,∅,∅,∅,D,λi g O=>dn (i:=l+(r-l) / 2) g O e⟩
  .rintro c y ⟨rfl,l,r,rfl,a1,F,a3,D,C⟩;have:l=r:=∅
   subst this;exact⟨rfl,l,l,rfl,F,D,C⟩
  .exact⟨rfl,lo,g,rfl,Z,Y,∅,X,W⟩
  .rintro c y ⟨rfl,l,r,rfl,F,D,C⟩;exact aZ (h r F D C)
 |false=>
  dsimp only;rw[if_neg (by simp)];refine aO (ie (ig (I:=λx c m=>m=L/\∃l o,c=(ae,l,o)/\l<o/\x<o/\l<=b/\B (b-l)=ak) (Q:=λc m=>m=L/\∃l o,c=(ae,l,o)/\l<o/\l<=b/\B (b-l)=ak/\(b+1<=o\/(o<=b/\B (b-o)=ah))) ?_ ?_ ?_) ?_)
  .rintro x c m _ S ⟨rfl,l,o,rfl,J,T,H,p⟩;dsimp only;by_cases v:o ≥ b+1
   .rw[if_pos v];exact aZ ⟨rfl,l,o,rfl,J,H,p,.inl v⟩
   .rw[if_neg v];refine aO (P ∅ ?_);cases e:B (b-o)with
    |false=>exact aZ ⟨rfl,o,2*o+1,rfl,∅,∅,∅,e⟩
    |true=>exact aZ ⟨rfl,l,o,rfl,J,H,p,.inr ⟨∅,e⟩⟩
  .rintro c m ⟨rfl,l,o,rfl,J,T,H,p⟩;exact⟨rfl,l,o,rfl,J,H,p,.inl ∅⟩
  .exact⟨rfl,0,1,rfl,∅,∅,∅,hr⟩
  rintro c m ⟨rfl,l,o,rfl,J,H,p,N⟩;dsimp only;have Z:b+1-min o (b+1)<=b-l:=∅
  have Y:b-l<=n:=∅
  have X:∀i,i<b+1-min o (b+1)->B i=ah:=by
   intro i g;rcases N with N|⟨N,h6⟩
   .lia
   grind
  have W:∀i,b-l<=i->i<n->B i=ak:=λi g O=>dn (i:=b-l) ∅ O p;clear N p;generalize b+1-min o (b+1)=lo at *;generalize b-l=g at *;refine aO (ie (ig (I:=λx c y=>y=m/\∃l r,c=(ae,l,r)/\l<=r/\r<=n/\r-l<=n-x/\(∀i,i<l->B i=ah)/\(∀i,r<=i->i<n->B i=ak)) (Q:=λc y=>y=m/\∃l r,c=(ae,l,r)/\r<=n/\(∀i,i<r->B i=ah)/\(∀i,r<=i->i<n->B i=ak)) ?_ ?_ ?_) ?_)
  .rintro x c y _ S ⟨rfl,l,r,rfl,a1,F,a3,D,C⟩;dsimp only;by_cases v:l ≥ r
   .rw[if_pos v];have:l=r:=∅
    subst this;exact aZ ⟨rfl,l,l,rfl,F,D,C⟩
   .rw[if_neg v];refine aO (P ∅ ?_);cases e:B (l+(r-l) / 2)with
    |true=>exact aZ ⟨rfl,_,r,rfl,∅,F,∅,λi g=>mono _ _ ∅ ∅ e,C⟩
    |false=>exact aZ ⟨rfl,l,_,rfl,∅,∅,∅,D,λi g O=>dn (i:=l+(r-l) / 2) g O e⟩
  .rintro c y ⟨rfl,l,r,rfl,a1,F,a3,D,C⟩;have:l=r:=∅
   subst this;exact⟨rfl,l,l,rfl,F,D,C⟩
  .exact⟨rfl,lo,g,rfl,Z,Y,∅,X,W⟩
  .rintro c y ⟨rfl,l,r,rfl,F,D,C⟩;exact aZ (h r F D C)
end
section
variable{κ:KeyKind}{kz:gS}
def bT(κ:KeyKind)(x y:Keyed):Prop:=κ.kle (kO κ x) (kO κ y)
def bT.trans(b:bT κ x y)(a:bT κ y z):bT κ x z:=rm b a
structure MS(κ:KeyKind)(T o ra rb:List Keyed):Prop where
 perm:(o++(ra++rb)).Perm T
 so:o.Pairwise (bT κ)
 sa:ra.Pairwise (bT κ)
 sb:rb.Pairwise (bT κ)
 oa:∀x∈o,∀y∈ra,bT κ x y
 ob:∀x∈o,∀y∈rb,bT κ x y
def MS.stepA(h:MS κ T o (x++b) a)(g:∀u∈x,∀v∈a,bT κ u v):MS κ T (o++x) b a:=by
 obtain⟨f,l,c,d,j,i⟩:=h;rw[List.pairwise_append]at c;refine⟨by simpa[jN]using f,?_,c.2.1,d,?_,?_⟩
 all_goals grind
def MS.swap(h:MS κ T o b a):MS κ T o a b :=⟨(z9 _ List.perm_append_comm).trans h.perm,h.so,h.sb,h.sa,h.ob,h.oa⟩
def MS.stepB(h:MS κ T o a (x++b))(c:∀u∈x,∀v∈a,bT κ u v):MS κ T (o++x) a b :=(h.swap.stepA c).swap
def hG(κ:KeyKind)(T:List Keyed)(r:Array Keyed):Prop:=r.toList.Perm T/\r.toList.Pairwise (bT κ)
def MS.endA{r:Array Keyed}(h:MS κ T o a [])(e:r.toList=o++a):hG κ T r:=by
 obtain⟨b,i,g,f,d,c⟩:=h;refine⟨by rw[e];simpa using b,?_⟩
 grind
def MS.last{r:Array Keyed}(h:MS κ T o b a)(c:∀u∈a,∀v∈b,bT κ u v)(e:r.toList=o++(a++b)):hG κ T r:=by
 have d:MS κ T o b (a++[]):= ~~~h
 exact(d.stepB c).endA (by rw[e];simp)
def mG(a:Array Keyed)(i j:Nat):(a.extract i j).toList=(a.toList.drop i).take (j-i):=by simp_all
def sX(a:Array Keyed)(i:Nat):(a.extract i a.size).toList=a.toList.drop i:=by rw[mG,pA];simp
def GX{a:Array Keyed}(h:i<a.size):a.toList.drop i=a[i]::a.toList.drop (i+1):=by rw[wU (~~~h)];simp
def Jp(a:Array Keyed)(i k:Nat):a.toList.drop i=(a.extract i (i+k)).toList++a.toList.drop (i+k):=by rw[mG,show i+k-i=k by lia,<-List.drop_drop,l8]
def si{a:Array Keyed}(h:x∈a.toList.drop i):∃j,∃c:j<a.size,i<=j/\a[j]=x:=by
 obtain⟨k,b,e⟩:=om h
 grind
def GV{a:Array Keyed}(h:x∈(a.extract i (i+k)).toList):∃j,∃c:j<a.size,i<=j/\j<i+k/\a[j]=x:=by
 rw[mG]at h;obtain⟨m,b,e⟩:=om h;rw[List.getElem_take,List.getElem_drop]at e;refine⟨i+m,?_,∅,?_,~~~e⟩
 all_goals simp at b;lia
def vL(κ:KeyKind)(a:Array Keyed):Prop:=∀i j (b:j<a.size) (c:i<=j),bT κ (a[i]'∅) a[j]
def vL.pw(h:vL κ a):a.toList.Pairwise (bT κ):=by rw[ut];intro i j c b d;have:=h i j (~~~b) ∅;simpa using this
structure gp(κ:KeyKind)(a b c:Array Keyed)(d f:Nat):Prop where
 ms:MS κ (a.toList++b.toList) c.toList (a.toList.drop d) (b.toList.drop f)
 la:d<=a.size
 lb:f<=b.size
def gp.pushA(h:gp κ a b c d f)(i:d<a.size)(l:∀j (g:j<b.size),f<=j->bT κ a[d] b[j]):gp κ a b (c.push a[d]) (d+1) f:=by refine⟨?_,i,h.lb⟩;rw[ul];refine MS.stepA (by rw[D7,<-GX i];exact h.ms) λu n v m=>?_;obtain⟨j,g,o,rfl⟩:=si m;rw[kg.mp n];exact l j g o
def gp.pushB(h:gp κ a b c d f)(i:f<b.size)(l:∀j (g:j<a.size),d<=j->bT κ b[f] a[j]):gp κ a b (c.push b[f]) d (f+1):=by refine⟨?_,h.la,i⟩;rw[ul];refine MS.stepB (by rw[D7,<-GX i];exact h.ms) λu n v m=>?_;obtain⟨j,g,o,rfl⟩:=si m;rw[kg.mp n];exact l j g o
def gp.extA(h:gp κ a b c d f)(p:d+k<=a.size)(m:∀i (l:i<a.size),d<=i->i<d+k->∀j (g:j<b.size),f<=j->bT κ a[i] b[j]):gp κ a b (c++a.extract d (d+k)) (d+k) f:=by refine⟨?_,p,h.lb⟩;rw[mW];refine MS.stepA (by rw[<-Jp];exact h.ms) λu o v n=>?_;obtain⟨j,g,s,rfl⟩:=si n;obtain⟨i,l,r,q,rfl⟩:=GV o;exact m i l r q j g s
def gp.extB(h:gp κ a b c d f)(p:f+k<=b.size)(m:∀i (l:i<b.size),f<=i->i<f+k->∀j (g:j<a.size),d<=j->bT κ b[i] a[j]):gp κ a b (c++b.extract f (f+k)) d (f+k):=by refine⟨?_,h.la,p⟩;rw[mW];refine MS.stepB (by rw[<-Jp];exact h.ms) λu o v n=>?_;obtain⟨j,g,s,rfl⟩:=si n;obtain⟨i,l,r,q,rfl⟩:=GV o;exact m i l r q j g s
def gp.doneA(h:gp κ a b c d f)(e:f=b.size):hG κ (a.toList++b.toList) (c++a.extract d a.size++b.extract f b.size):=by have:=h.ms;rw[show b.toList.drop f=[] by simp_all]at this;refine this.endA ?_;rw[mW,mW,sX,sX,show b.toList.drop f=[] by simp_all,ix]
def gp.doneB(h:gp κ a b c d f)(e:d=a.size):hG κ (a.toList++b.toList) (c++a.extract d a.size++b.extract f b.size):=by have:=h.ms;rw[show a.toList.drop d=[] by simp_all]at this;refine this.swap.endA ?_;rw[mW,mW,sX,sX,show a.toList.drop d=[] by simp_all,ix]
def gp.last(h:gp κ a b c d f)(e:d+1=a.size)(n:∀j (m:j<b.size),bT κ b[j] (a[d]'∅)):hG κ (a.toList++b.toList) (c++b.extract f b.size++a.extract d a.size):=by
 refine h.ms.last (λu l v g=>?_) (by rw[mW,mW,sX,sX,jN]);obtain⟨j,m,q,rfl⟩:=si l;obtain⟨i,o,p,rfl⟩:=si g
 grind
end
section
def Cv(z:iq a c b w A s){l:bN}(v:SB c l){f:Keyed}{d:Array Keyed}{base n hint:Nat}{Q:Option Nat->bN->Prop}(o:ik a f)(u:base+n<=d.size)(B:∀i (g:i<d.size),ik a d[i]) (p:∀i j (G:i<=j) (m:j<base+n),base<=i->bT a (d[i]'∅) (d[j]'∅)) (x:hint<n)(h:∀r,r<=n->(∀i (g:i<d.size),base<=i->i<base+r->bT a d[i] f)->(∀i (g:i<d.size),base+r<=i->i<base+n->a.klt (kO a f) (kO a d[i]))->Q (aa r) l):wpS (aw b w) A E s (yR ak f d base n hint) Q l:=by
 refine Ih z v o u B (λi=>if g:i<n then mw a ak f (d[base+i]'∅)else ak) (λi g=>by rw[dif_pos g]) ?_ x ?_
 .intro i j G m e;rw[dif_pos m]at e;rw[dif_pos ∅];simp only[mw,fi,if_false,Ki]at e ⊢;exact rm (p (base+i) (base+j) ∅ ∅ ∅) e
 .intro r q D C;refine h r q (λi g y F=>?_) (λi g y F=>?_)
  .have:=D (i-base) ∅;rw[dif_pos ∅]at this;simp only[mw,fi,if_false,Ki,show base+(i-base)=i by lia]at this;exact this
  .have:=C (i-base) ∅ ∅;rw[dif_pos ∅]at this;simp only[mw,fi,if_false,Bool.not_eq_false',show base+(i-base)=i by lia]at this;exact this
def BV(z:iq a c b w A s){l:bN}(v:SB c l){f:Keyed}{d:Array Keyed}{base n hint:Nat}{Q:Option Nat->bN->Prop}(o:ik a f)(u:base+n<=d.size)(B:∀i (g:i<d.size),ik a d[i]) (p:∀i j (G:i<=j) (m:j<base+n),base<=i->bT a (d[i]'∅) (d[j]'∅)) (x:hint<n)(h:∀r,r<=n->(∀i (g:i<d.size),base<=i->i<base+r->a.klt (kO a d[i]) (kO a f))->(∀i (g:i<d.size),base+r<=i->i<base+n->bT a f d[i])->Q (aa r) l):wpS (aw b w) A E s (yR ah f d base n hint) Q l:=by
 refine Ih z v o u B (λi=>if g:i<n then mw a ah f (d[base+i]'∅)else ak) (λi g=>by rw[dif_pos g]) ?_ x ?_
 .intro i j G m e;rw[dif_pos m]at e;rw[dif_pos ∅];simp only[mw,if_true]at e ⊢;exact KeyOrd.klt_of_kle_of_klt (p (base+i) (base+j) ∅ ∅ ∅) e
 .intro r q D C;refine h r q (λi g y F=>?_) (λi g y F=>?_)
  .have:=D (i-base) ∅;rw[dif_pos ∅]at this;simp only[mw,if_true,show base+(i-base)=i by lia]at this;exact this
  .have:=C (i-base) ∅ ∅;rw[dif_pos ∅]at this;simp only[mw,if_true,show base+(i-base)=i by lia]at this;exact this
end
structure g_(st aD:bN):Prop where
 kind:kindOf aD=kindOf st
 arr:arrOf aD=arrOf st
 pend:bF aD=bF st
 failed:failedOf aD=failedOf st
def g_.rfl{st:bN}:g_ st st:=⟨_root_.rfl,_root_.rfl,_root_.rfl,_root_.rfl⟩
def g_.sb{b:gS}{a c:bN}(h:g_ a c)(k:SB b a):SB b c:=⟨h.kind.trans k.kind,h.failed.trans k.failed⟩
section
def cW{a f:Type}{M:Model}{c:Prop}[Decidable c]{t e:StateT a Sem f}{Q:f->a->Prop}{b:a}(h:c->wpS M A E s t Q b)(g:¬c->wpS M A E s e Q b):wpS M A E s (if c then t else e) Q b:=by
 split
 .exact h ‹_›
 .exact g ‹_›
def QN:Nat->StateT bN Sem Unit:=sortPriv% PySem.Builtin.setMinGallop
def g_.trans(g:g_ a b)(f:g_ b c):g_ a c:=⟨f.kind.trans g.kind,f.arr.trans g.arr,f.pend.trans g.pend,f.failed.trans g.failed⟩
def Bn{a b:bN}{g:Nat}{Q:Unit->bN->Prop}(f:g_ b a)(h:∀c,g_ b c->Q () c):wpS (aw d w) A E s (QN g) Q a :=oq (h _ (f.trans ⟨rfl,rfl,rfl,rfl⟩))
def Sg(hO:iq κ kz d w A s){N:bN}(hk:SB kz N){a b:Array Keyed}{Q:Array Keyed->bN->Prop}(ha:0<a.size)(hb:0<b.size)(hA:∀i (P:i<a.size),ik κ a[i]) (hB:∀i (P:i<b.size),ik κ b[i]) (sa:vL κ a) (sb:vL κ b)(h0:bT κ b[0] a[0]) (hl:∀j (q:j<b.size),bT κ b[j] a[a.size-1])(h:∀r J,g_ N J->hG κ (a.toList++b.toList) r->Q r J):wpS (aw d w) A E s (HU a b) Q N:=by
 have gW:∀{i:Nat} (P:i<a.size),i+1=a.size->∀j (q:j<b.size),bT κ b[j] a[i]:=λ{i} P e j q=>by
  have:i=a.size-1:=∅
  subst this;exact hl j q
 have I0:gp κ a b #[b[0]] 0 1:=by
  have F:gp κ a b #[] 0 0:=⟨⟨by simp,by simp,~~~sa.pw,~~~sb.pw,by simp,by simp⟩,∅,∅⟩
  exact F.pushB hb λj q _=>h0.trans (sa 0 j q ∅)
 unfold HU;refine aO (ur (mR ⟨rfl,?_⟩));refine aO (fK hb ?_);by_cases e1:1=b.size
 .rw[if_pos (by simp[<-e1])];exact aZ (h _ _ .rfl (I0.doneA e1))
 rw[if_neg (~~~e1)];by_cases e2:0+1=a.size
 .rw[if_pos (by simp[<-e2])];exact aZ (h _ _ .rfl (I0.last e2 (gW ∅ ∅)))
 rw[if_neg (~~~e2)];refine aO (l7 ?_);refine aO (ie (ig (I:=λx c J=>g_ N J/\∃f l p L,c=(ae,f,l,p,L)/\gp κ a b f l p/\l+1<a.size/\p<b.size/\x+1<=l+p) (Q:=λc J=>g_ N J/\∃r,c.1=aa r/\hG κ (a.toList++b.toList) r) ?_ ?_ ?_) ?_);rotate_left
 .lia
 .exact⟨.rfl,_,0,1,_,rfl,I0,∅,∅,∅⟩
 .rintro⟨c1,c⟩ J ⟨v,r,rfl,Z⟩;exact aZ (h r J v Z)
 rintro x c J _ hx ⟨v,f,l,p,L,rfl,z,F,u,T⟩;refine aO (ie (ig (I:=λy c B=>B=J/\∃f l p D C,c=(ae,f,l,p,D,C)/\gp κ a b f l p/\l+1<a.size/\p<b.size/\x+1+y<=l+p) (Q:=λc B=>B=J/\((∃r c',c=(aa r,c')/\hG κ (a.toList++b.toList) r)\/∃f l p D C,c=(ae,f,l,p,D,C)/\gp κ a b f l p/\l+1<a.size/\p<b.size/\x+1+1<=l+p)) ?_ ?_ ?_) ?_)
 .rintro y c B _ hy ⟨rfl,f,l,p,D,C,rfl,z,F,u,T⟩;dsimp only;refine aO (fK u (aO (fK ∅ (aO (wt hO (v.sb hk) (hB p u) (hA l ∅) ?_)))));cases e:κ.blt (kO κ b[p]) (kO κ (a[l]'∅))with
  |true=>
   dsimp only;rw[if_pos rfl];refine aO (fK u ?_);have O:=z.pushB u λj q fN=>bT.trans (l9 e) (sa l j q fN);by_cases H:p+1=b.size
   .rw[if_pos (by simp[H])];exact aZ ⟨rfl,.inl ⟨_,_,rfl,O.doneA H⟩⟩
   rw[if_neg (~~~H)];split
   .exact aZ ⟨rfl,.inr ⟨_,_,_,_,_,rfl,O,∅,∅,∅⟩⟩
   .exact aZ ⟨rfl,_,_,_,_,_,rfl,O,∅,∅,∅⟩
  |false=>
   dsimp only;rw[if_neg (by simp)];refine aO (fK ∅ ?_);have O:=z.pushA ∅ λj q fN=>bT.trans (show bT κ (a[l]'∅) b[p] from e) (sb p j q fN);by_cases H:l+1+1=a.size
   .rw[if_pos (by simp[H])];exact aZ ⟨rfl,.inl ⟨_,_,rfl,O.last H (gW ∅ ∅)⟩⟩
   rw[if_neg (~~~H)];split
   .exact aZ ⟨rfl,.inr ⟨_,_,_,_,_,rfl,O,∅,∅,∅⟩⟩
   .exact aZ ⟨rfl,_,_,_,_,_,rfl,O,∅,∅,∅⟩
 .rintro c B ⟨rfl,f,l,p,D,C,rfl,z,F,u,T⟩;lia
 .exact⟨rfl,_,_,_,_,_,rfl,z,F,u,∅⟩
 rintro c B ⟨rfl,⟨r,c',rfl,Z⟩|⟨f,l,p,D,C,rfl,z,F,u,T⟩⟩
 .exact aZ ⟨v,r,rfl,Z⟩
 refine aO (ur (mR ⟨rfl,?_⟩));refine aO (ie (ig (I:=λy c B=>g_ N B/\∃f l p L D C,c=(ae,f,l,p,L,D,C)/\gp κ a b f l p/\l+1<a.size/\p<b.size/\x+2+y<=l+p) (Q:=λc B=>g_ N B/\((∃r c',c=(aa r,c')/\hG κ (a.toList++b.toList) r)\/∃f l p L D C,c=(ae,f,l,p,L,D,C)/\gp κ a b f l p/\l+1<a.size/\p<b.size/\x+1+1<=l+p)) ?_ ?_ ?_) ?_);rotate_left
 .rintro c B ⟨_,f,l,p,L,D,C,rfl,z,F,u,T⟩;lia
 .exact⟨v,_,_,_,_,_,_,rfl,z,F,u,∅⟩
 .rintro c B ⟨v,⟨r,c',rfl,Z⟩|⟨f,l,p,L,D,C,rfl,z,F,u,T⟩⟩
  .exact aZ ⟨v,r,rfl,Z⟩
  .dsimp only;refine aO (oq (aZ ⟨⟨v.kind,v.arr,v.pend,v.failed⟩,_,_,_,_,rfl,z,F,u,∅⟩))
 clear F u T z v I0 e1 e2;rintro y c B _ hy ⟨v,f,l,p,L,D,C,rfl,z,F,u,T⟩;clear hx hy;have km:∀{i j:Nat} (M:i<=j) (q:j<b.size),bT κ (b[i]'∅) b[j]:=λ{i j} M q=>sb i j q M;have rT:∀{i j:Nat} (M:i<=j) (q:j<a.size),bT κ (a[i]'∅) a[j]:=λ{i j} M q=>sa i j q M;refine(?_:wpS (aw d w) A E s _ ?Q _);extract_lets -merge x1 x2 x3 x4 x5 x6 x7 x8 x9 xa xb xc jp;have q:∀g X,g_ N X->wpS (aw d w) A E s (jp () g) ?Q X:=by
  intro g X G;dsimp -zeta only[jp,x1,x2,x3,x4,x5,x6,x7,x8,x9,xa,xb,xc];refine aO (Bn G λX G=>?_);refine aO (fK u ?_);refine aO (Cv hO (G.sb hk) (base:=l) (n:=a.size-l) (hint:=0) (hB p u) ∅ hA (λi j M q _=>rT M ∅) ∅ λk lw fF fO=>?_);dsimp -zeta only;extract_lets -merge y1 jp2;have xA:∀o n,gp κ a b o n p->l+k<=n->n+1<a.size->wpS (aw d w) A E s (jp2 () o n) ?Q X:=by
   intro o n Y pN e4;dsimp -zeta only[jp2,y1];refine aO (fK u ?_);have S:=Y.pushB u λj q g=>l9 (fO j q ∅ ∅);refine cW (λe5=>?_) λe5=>?_
   .exact aZ ⟨G,.inl ⟨_,_,rfl,S.doneA (~~~e5)⟩⟩
   have e5':p+1≠b.size:= ~~~e5
   refine aO (fK ∅ ?_);refine aO (BV hO (G.sb hk) (base:=p+1) (n:=b.size-(p+1)) (hint:=0) (hA _ _) ∅ hB (λi j M q _=>km M ∅) ∅ λk' m1 m2 m3=>?_);dsimp -zeta only;extract_lets -merge z1 z2 jp3;have xD:∀o m,gp κ a b o n m->p+1+k'<=m->m<b.size->wpS (aw d w) A E s (jp3 () o m) ?Q X:=by
    intro o m xE e6 e7;dsimp -zeta only[jp3,z1,z2];refine aO (fK ∅ ?_);have xF:=xE.pushA ∅ (λj q g=>m3 j q ∅ ∅);refine cW (λe7=>?_) λe7=>?_
    .have W:n+1+1=a.size:= ~~~e7
     exact aZ ⟨G,.inl ⟨_,_,rfl,xF.last W (gW ∅ W)⟩⟩
    have W:n+1+1≠a.size:= ~~~e7
    refine cW (λe8=>?_) λe8=>?_
    .exact aZ ⟨G,.inr ⟨_,_,_,_,_,_,rfl,xF,∅,∅,∅⟩⟩
    .exact aZ ⟨G,_,_,_,_,_,_,rfl,xF,∅,∅,∅⟩
   clear_value jp3;refine cW (λED=>?_) (λED=>?_)
   .have xE:=S.extB (k:=k') ∅ (λi P g1 g2 j q g3=>bT.trans (l9 (m2 i P g1 g2)) (rT g3 q));refine cW (λe6=>?_) λe6=>?_
    .exact aZ ⟨G,.inl ⟨_,_,rfl,xE.doneA (~~~e6)⟩⟩
    have e6':p+1+k'≠b.size:= ~~~e6
    exact xD _ _ xE ∅ ∅
   .exact xD _ _ S ∅ ∅
  clear_value jp2;refine cW (λhk0=>?_) (λhk0=>?_)
  .have Y:gp κ a b (f++a.extract l (l+k)) (l+k) p:=z.extA ∅ λi P g1 g2 j q g3=>(fF i P g1 g2).trans (km g3 q);refine cW (λH=>?_) λH=>?_
   .have pN:l+k+1=a.size:= ~~~H
    exact aZ ⟨G,.inl ⟨_,_,rfl,Y.last pN (gW ∅ pN)⟩⟩
   have pN:l+k+1≠a.size:= ~~~H
   refine cW (λe4=>?_) λe4=>?_
   .exact aZ ⟨G,.inl ⟨_,_,rfl,Y.doneB (~~~e4)⟩⟩
   have e4':l+k≠a.size:= ~~~e4
   exact xA _ _ Y ∅ ∅
  .exact xA _ _ z ∅ ∅
 exact cW (λ_=>q _ _ v) λ_=>q _ _ v
end
def Ct(d:KeyKind):KeyKind where
 α:=d.α
 blt:=λa b=>d.blt b a
 irrefl:=d.irrefl
 trans:=λa b c g f=>d.trans c b a f g
 negTrans:=λa b c h=>(d.negTrans c b a h).symm
 total:=λa b g f=>d.total a b f g
 keyOf:=d.keyOf
 dflt:=d.dflt
section
variable{κ:KeyKind}{g:gS}
def uW(h:bT κ y x):bT (Ct κ) x y:=h
def EZ{a:Array Keyed}(h:0<n)(b:n<=a.size):(a.toList.take n).reverse=(a[n-1]'∅)::(a.toList.take (n-1)).reverse:=by
 obtain⟨m,rfl⟩:∃m,n=m+1:=⟨n-1,∅⟩
 rw[Va (by simp;lia),Kj];simp
def Iw(a:Array Keyed)(p n:Nat)(b:p<=n):a.toList.take n=a.toList.take p++(a.extract p n).toList:=by
 rw[mG]
 conv=>lhs;rw[show n=p+(n-p) by lia]
 rw[List.take_add]
def sI{a:Array Keyed}(b:n<=a.size)(h:x∈a.toList.take n):∃j,∃d:j<a.size,j<n/\a[j]=x:=by
 obtain⟨m,c,e⟩:=om h
 grind
def BY{a:Array Keyed}(b:n<=a.size)(h:x∈(a.extract p n).toList):∃j,∃d:j<a.size,p<=j/\j<n/\a[j]=x:=by
 rw[mG]at h;obtain⟨m,c,e⟩:=om h
 grind
def Pr(a:Array Keyed)(n:Nat):(a.extract 0 n).toList=a.toList.take n:=by simp_all
structure gv(κ:KeyKind)(a b c:Array Keyed)(f d:Nat):Prop where
 ms:MS (Ct κ) (a.toList++b.toList) c.toList (a.toList.take f).reverse (b.toList.take d).reverse
 la:f<=a.size
 lb:d<=b.size
def gv.pushA(h:gv κ a b c f d)(o:0<f)(p:f-1<a.size)(l:∀j (i:j<b.size),j<d->bT κ b[j] a[f-1]):gv κ a b (c.push a[f-1]) (f-1) d:=by refine⟨?_,∅,h.lb⟩;rw[ul];refine MS.stepA (by rw[D7,<-EZ o h.la];exact h.ms) λu n v m=>?_;obtain⟨j,i,q,rfl⟩:=sI h.lb (rn.mp m);rw[kg.mp n];exact uW (l j i q)
def gv.pushB(h:gv κ a b c f d)(o:0<d)(p:d-1<b.size)(l:∀j (i:j<a.size),j<f->bT κ a[j] b[d-1]):gv κ a b (c.push b[d-1]) f (d-1):=by refine⟨?_,h.la,∅⟩;rw[ul];refine MS.stepB (by rw[D7,<-EZ o h.lb];exact h.ms) λu n v m=>?_;obtain⟨j,i,q,rfl⟩:=sI h.la (rn.mp m);rw[kg.mp n];exact uW (l j i q)
def gv.extA(h:gv κ a b c f d)(l:p<=f)(o:∀i (n:i<a.size),p<=i->i<f->∀j (m:j<b.size),j<d->bT κ b[j] a[i]):gv κ a b (c++(a.extract p f).reverse) p d:=by refine⟨?_,c7 l h.la,h.lb⟩;rw[mW,Array.toList_reverse];refine MS.stepA (by rw[<-Kj,<-Iw _ _ _ l];exact h.ms) λu r v q=>?_;obtain⟨j,m,x,rfl⟩:=sI h.lb (rn.mp q);obtain⟨i,n,w,s,rfl⟩:=BY h.la (rn.mp r);exact uW (o i n w s j m x)
def gv.extB(h:gv κ a b c f d)(l:p<=d)(o:∀i (n:i<b.size),p<=i->i<d->∀j (m:j<a.size),j<f->bT κ a[j] b[i]):gv κ a b (c++(b.extract p d).reverse) f p:=by refine⟨?_,h.la,c7 l h.lb⟩;rw[mW,Array.toList_reverse];refine MS.stepB (by rw[<-Kj,<-Iw _ _ _ l];exact h.ms) λu r v q=>?_;obtain⟨j,m,x,rfl⟩:=sI h.la (rn.mp q);obtain⟨i,n,w,s,rfl⟩:=BY h.lb (rn.mp r);exact uW (o i n w s j m x)
def AM{r:Array Keyed}(h:hG (Ct κ) T q)(e:r.toList=q.toList.reverse):hG κ T r:=by refine⟨by rw[e];exact(Kk _).trans h.1,?_⟩;rw[e,Kl];exact h.2
def gv.doneA(h:gv κ a b c f d)(e:f=0):hG κ (a.toList++b.toList) (a.extract 0 f++b.extract 0 d++c.reverse):=by have:=h.ms;rw[e,DZ,List.reverse_nil]at this;refine AM (q:=(c.toList++(b.toList.take d).reverse).toArray) (this.swap.endA (by simp)) ?_;simp_all
def gv.doneB(h:gv κ a b c f d)(e:d=0):hG κ (a.toList++b.toList) (a.extract 0 f++b.extract 0 d++c.reverse):=by have:=h.ms;rw[e,DZ,List.reverse_nil]at this;refine AM (q:=(c.toList++(a.toList.take f).reverse).toArray) (this.endA (by simp)) ?_;simp_all
def gv.first(h:gv κ a b c f d)(e:d=1)(p:∀j (n:j<a.size),bT κ (b[0]'(by have:=h.lb;lia)) a[j]):hG κ (a.toList++b.toList) (b.extract 0 d++a.extract 0 f++c.reverse):=by
 refine AM (q:=(c.toList++((a.toList.take f).reverse++(b.toList.take d).reverse)).toArray) (h.ms.swap.last (λu m v l=>?_) (by simp)) ?_
 .obtain⟨i,o,s,rfl⟩:=sI h.la (rn.mp m);obtain⟨j,n,r,rfl⟩:=sI h.lb (rn.mp l);have:j=0:=∅
  subst this;exact uW (p i o)
 simp_all
end
section
def Og(hO:iq d l f w A s){W:bN}(hk:SB l W){a b:Array Keyed}{Q:Array Keyed->bN->Prop}(ha:0<a.size)(hb:0<b.size)(hA:∀i (hi:i<a.size),ik d a[i]) (hB:∀i (hi:i<b.size),ik d b[i]) (sa:vL d a) (sb:vL d b)(h0:bT d b[0] a[0]) (hl:∀j (z:j<b.size),bT d b[j] a[a.size-1])(h:∀r M,g_ W M->hG d (a.toList++b.toList) r->Q r M):wpS (aw f w) A E s (HX a b) Q W:=by
 have km:∀{i j:Nat} (T:i<=j) (z:j<b.size),bT d (b[i]'∅) b[j]:=λ{i j} T z=>sb i j z T;have rT:∀{i j:Nat} (T:i<=j) (z:j<a.size),bT d (a[i]'∅) a[j]:=λ{i j} T z=>sa i j z T;have hf:∀j (z:j<a.size),bT d b[0] a[j]:=λj z=>h0.trans (rT ∅ z);have I0:gv d a b #[a[a.size-1]] (a.size-1) b.size:=by
  have C:gv d a b #[] a.size b.size:=by
   refine⟨⟨?_,by simp,?_,?_,by simp,by simp⟩,∅,∅⟩
   .simp only[<-iP,D8,eW];exact List.Perm.append (Kk _) (Kk _)
   .simp only[<-iP,D8,Kl];exact sa.pw
   .simp only[<-iP,D8,Kl];exact sb.pw
  exact C.pushA ha ∅ λj z _=>hl j z
 unfold HX;refine aO (ur (mR ⟨rfl,?_⟩));refine aO (fK ∅ ?_);refine cW (λe1=>aZ (h _ _ .rfl (I0.doneA (~~~e1)))) λe1=>?_;have uH:a.size-1≠0:= ~~~e1
 refine cW (λe2=>?_) λe2=>?_
 .have l_:b.size=1:= ~~~e2
  exact aZ (h _ _ .rfl (I0.first l_ hf))
 have l_:b.size≠1:= ~~~e2
 refine aO (l7 ?_);refine aO (ie (ig (I:=λx c M=>g_ W M/\∃u v q S,c=(ae,v,q,u,S)/\gv d a b u v q/\0<v/\v<=a.size/\1<q/\q<=b.size/\x+1+v+q<=a.size+b.size) (Q:=λc M=>g_ W M/\∃r,c.1=aa r/\hG d (a.toList++b.toList) r) ?_ ?_ ?_) ?_);rotate_left
 .lia
 .exact⟨.rfl,_,_,_,_,rfl,I0,∅,∅,∅,∅,∅⟩
 .rintro⟨c1,c⟩ M ⟨J,r,rfl,hD⟩;exact aZ (h r M J hD)
 rintro x c M _ hx ⟨J,u,v,q,S,rfl,B,C,P,N,O,Z⟩;refine aO (ie (ig (I:=λy c F=>F=M/\∃u v q H G,c=(ae,v,q,u,H,G)/\gv d a b u v q/\0<v/\v<=a.size/\1<q/\q<=b.size/\x+1+y+v+q<=a.size+b.size) (Q:=λc F=>F=M/\((∃r c',c=(aa r,c')/\hG d (a.toList++b.toList) r)\/∃u v q H G,c=(ae,v,q,u,H,G)/\gv d a b u v q/\0<v/\v<=a.size/\1<q/\q<=b.size/\x+1+1+v+q<=a.size+b.size)) ?_ ?_ ?_) ?_)
 .rintro y c F _ hy ⟨rfl,u,v,q,H,G,rfl,B,C,P,N,O,Z⟩;dsimp only;refine aO (fK ∅ (aO (fK ∅ (aO (wt hO (J.sb hk) (hB (q-1) ∅) (hA (v-1) ∅) ?_)))));cases e:d.blt (kO d (b[q-1]'∅)) (kO d (a[v-1]'∅))with
  |true=>
   dsimp only;rw[if_pos rfl];refine aO (fK ∅ ?_);have X:=B.pushA C ∅ λj z fN=>bT.trans (km (show j<=q-1 by lia) ∅) (l9 e);refine cW (λL=>?_) λL=>?_
   .exact aZ ⟨rfl,.inl ⟨_,_,rfl,X.doneA (~~~L)⟩⟩
   have pN:v-1≠0:= ~~~L
   refine cW (λe4=>?_) λe4=>?_
   .exact aZ ⟨rfl,.inr ⟨_,_,_,_,_,rfl,X,∅,∅,∅,∅,∅⟩⟩
   .exact aZ ⟨rfl,_,_,_,_,_,rfl,X,∅,∅,∅,∅,∅⟩
  |false=>
   dsimp only;rw[if_neg (by simp)];refine aO (fK ∅ ?_);have X:=B.pushB ∅ ∅ λj z fN=>bT.trans (rT (show j<=v-1 by lia) ∅) (show bT d (a[v-1]'∅) (b[q-1]'∅)from e);refine cW (λL=>?_) λL=>?_
   .exact aZ ⟨rfl,.inl ⟨_,_,rfl,X.first (~~~L) hf⟩⟩
   have pN:q-1≠1:= ~~~L
   refine cW (λe4=>?_) λe4=>?_
   .exact aZ ⟨rfl,.inr ⟨_,_,_,_,_,rfl,X,∅,∅,∅,∅,∅⟩⟩
   .exact aZ ⟨rfl,_,_,_,_,_,rfl,X,∅,∅,∅,∅,∅⟩
 .rintro c F ⟨rfl,u,v,q,H,G,rfl,B,C,P,N,O,Z⟩;lia
 .exact⟨rfl,_,_,_,_,_,rfl,B,C,P,N,O,∅⟩
 rintro c F ⟨rfl,⟨r,c',rfl,hD⟩|⟨u,v,q,H,G,rfl,B,C,P,N,O,Z⟩⟩
 .exact aZ ⟨J,r,rfl,hD⟩
 refine aO (ur (mR ⟨rfl,?_⟩));refine aO (ie (ig (I:=λy c F=>g_ W F/\∃u v q S H G,c=(ae,v,q,u,S,H,G)/\gv d a b u v q/\0<v/\v<=a.size/\1<q/\q<=b.size/\x+2+y+v+q<=a.size+b.size) (Q:=λc F=>g_ W F/\((∃r c',c=(aa r,c')/\hG d (a.toList++b.toList) r)\/∃u v q S H G,c=(ae,v,q,u,S,H,G)/\gv d a b u v q/\0<v/\v<=a.size/\1<q/\q<=b.size/\x+1+1+v+q<=a.size+b.size)) ?_ ?_ ?_) ?_);rotate_left
 .rintro c F ⟨_,u,v,q,S,H,G,rfl,B,C,P,N,O,Z⟩;lia
 .exact⟨J,_,_,_,_,_,_,rfl,B,C,P,N,O,∅⟩
 .rintro c F ⟨J,⟨r,c',rfl,hD⟩|⟨u,v,q,S,H,G,rfl,B,C,P,N,O,Z⟩⟩
  .exact aZ ⟨J,r,rfl,hD⟩
  .dsimp only;exact aO (Bn J λbM D=>aZ ⟨D,_,_,_,_,rfl,B,C,P,N,O,∅⟩)
 clear C P N O Z B J I0 e1 e2;rintro y c F _ hy ⟨J,u,v,q,S,H,G,rfl,B,C,P,N,O,Z⟩;clear hx hy;refine(?_:wpS (aw f w) A E s _ ?Q _);extract_lets -merge x1 x2 x3 x4 x5 x6 x7 x8 x9 xa xb xc jp;have z:∀g bM,g_ W bM->wpS (aw f w) A E s (jp () g) ?Q bM:=by
  intro g bM D;dsimp -zeta only[jp,x1,x2,x3,x4,x5,x6,x7,x8,x9,xa,xb,xc];refine aO (Bn D λbM D=>?_);refine aO (fK ∅ ?_);refine aO (Cv hO (D.sb hk) (base:=0) (n:=v) (hint:=v-1) (hB (q-1) ∅) ∅ hA (λi j T z _=>rT T ∅) ∅ λp lw fF fO=>?_);dsimp -zeta only;extract_lets -merge y1 y2 jp2;have xA:∀n o,gv d a b o n q->0<n->n<=p->wpS (aw f w) A E s (jp2 () n o) ?Q bM:=by
   intro n o xC pN e4;dsimp -zeta only[jp2,y1,y2];refine aO (fK ∅ ?_);have Y:=xC.pushB ∅ ∅ λj z g=>fF j z ∅ ∅;refine cW (λe5=>?_) λe5=>?_
   .exact aZ ⟨D,.inl ⟨_,_,rfl,Y.first (~~~e5) hf⟩⟩
   have e5':q-1≠1:= ~~~e5
   refine aO (fK ∅ ?_);refine aO (BV hO (D.sb hk) (base:=0) (n:=q-1) (hint:=q-1-1) (hA _ _) ∅ hB (λi j T z _=>km T ∅) ∅ λp' m1 m2 m3=>?_);dsimp -zeta only;extract_lets -merge z1 z2 z3 jp3;have xD:∀m o,gv d a b o n m->1<m->m<=p'->wpS (aw f w) A E s (jp3 () m o) ?Q bM:=by
    intro m o xE e6 e7;dsimp -zeta only[jp3,z1,z2,z3];refine aO (fK ∅ ?_);have xF:=xE.pushA ∅ ∅ (λj z g=>l9 (m2 j z ∅ ∅));refine cW (λe7=>?_) λe7=>?_
    .exact aZ ⟨D,.inl ⟨_,_,rfl,xF.doneA (~~~e7)⟩⟩
    have e7':n-1≠0:= ~~~e7
    refine cW (λe8=>?_) λe8=>?_
    .exact aZ ⟨D,.inr ⟨_,_,_,_,_,_,rfl,xF,∅,∅,∅,∅,∅⟩⟩
    .exact aZ ⟨D,_,_,_,_,_,_,rfl,xF,∅,∅,∅,∅,∅⟩
   clear_value jp3;refine cW (λED=>?_) (λED=>?_)
   .have xE:=Y.extB (p:=p') ∅ (λi hi g1 g2 j z g3=>bT.trans (rT (show j<=n-1 by lia) ∅) (m3 i hi ∅ ∅));refine cW (λe6=>?_) λe6=>?_
    .exact aZ ⟨D,.inl ⟨_,_,rfl,xE.first (~~~e6) hf⟩⟩
    refine cW (λe9=>?_) λe9=>?_
    .exact aZ ⟨D,.inl ⟨_,_,rfl,xE.doneB (~~~e9)⟩⟩
    have e6':p'≠1:= ~~~e6
    have e9':p'≠0:= ~~~e9
    exact xD _ _ xE ∅ ∅
   .exact xD _ _ Y ∅ ∅
  clear_value jp2;refine cW (λhk0=>?_) (λhk0=>?_)
  .have xC:gv d a b (u++(a.extract p v).reverse) p q:=B.extA ∅ λi hi g1 g2 j z g3=>bT.trans (km (show j<=q-1 by lia) ∅) (l9 (fO i hi ∅ ∅));refine cW (λL=>?_) λL=>?_
   .exact aZ ⟨D,.inl ⟨_,_,rfl,xC.doneA (~~~L)⟩⟩
   have pN:p≠0:= ~~~L
   exact xA _ _ xC ∅ ∅
  .exact xA _ _ B ∅ ∅
 exact cW (λ_=>z _ _ J) λ_=>z _ _ J
end
def putL(a:Array Keyed)(c:Nat)(l:List Keyed):Array Keyed:=l.zipIdx.foldl (λa (b:Keyed×Nat)=>a.setIfInBounds (c+b.2) b.1) a
def AX:∀(l:List Keyed) (n b:Nat) (a:Array Keyed),b+n+l.length<=a.size -> ((l.zipIdx n).foldl (λa (c:Keyed×Nat)=>a.setIfInBounds (b+c.2) c.1) a).size=a.size /\ ∀k,((l.zipIdx n).foldl (λa (c:Keyed×Nat)=>a.setIfInBounds (b+c.2) c.1) a)[k]?=if b+n<=k/\k<b+n+l.length then l[k-(b+n)]? else a[k]?
 |[],n,b,a,_=>⟨rfl,λk=>by rw[if_neg (by simp)];rfl⟩
 |x::l,n,b,a,h=>by
  have g:b+(n+1)+l.length<=(a.setIfInBounds (b+n) x).size:=by grind
  obtain⟨j,i⟩:=AX l (n+1) b (a.setIfInBounds (b+n) x) g;rw[List.zipIdx_cons,iU];refine⟨by rw[j];simp,λk=>?_⟩;rw[i];by_cases f:b+n=k
  .subst f;rw[if_neg ∅,if_pos (by simp)];rw[Array.getElem?_setIfInBounds_self_of_lt (by simp at h;lia)];simp
  .by_cases d:b+(n+1)<=k/\k<b+(n+1)+l.length
   .rw[if_pos d,if_pos (by simp;lia)];rw[show k-(b+n)=k-(b+(n+1))+1 by lia,DQ]
   .rw[if_neg d,if_neg (by simp;lia),Array.getElem?_setIfInBounds_ne f]
def Ng{a:Array Keyed}{b:Nat}{l:List Keyed}(h:b+l.length<=a.size):(putL a b l).size=a.size:=(AX l 0 b a ∅).1
def B9{a:Array Keyed}{b:Nat}{l:List Keyed}(h:b+l.length<=a.size)(k:Nat):(putL a b l)[k]?=if b<=k/\k<b+l.length then l[k-b]? else a[k]? :=(AX l 0 b a ∅).2 k
def Si{a:Array Keyed}{b n:Nat}{l:List Keyed}(h:b+n<=a.size)(c:l.Perm ((a.toList.drop b).take n)):(putL a b l).toList.Perm a.toList:=by
 have d:l.length=n:=by rw[c.length_eq,wE,wF];simp;lia
 have e:(putL a b l).toList=a.toList.take b++(l++a.toList.drop (b+n)):=by
  apply pC;intro k;rw[rj,B9 ∅,List.getElem?_append,List.getElem?_append,wE,Km,DY,d]
  grind
 rw[e];have f:a.toList=a.toList.take b++((a.toList.drop b).take n++a.toList.drop (b+n)):=by rw[<-List.drop_drop,l8,l8]
 conv=>rhs;rw[f]
 exact z9 _ (List.Perm.append_right _ c)
section
variable{κ:KeyKind}{kz:gS}
def Run(κ:KeyKind)(a:Array Keyed)(b n:Nat):Prop:=∀i j x y,b<=i->i<=j->j<b+n->a[i]?=aa x->a[j]?=aa y->bT κ x y
def bT.refl(x:Keyed):bT κ x x:=mX _
structure Wr(a a':Array Keyed)(lo n:Nat):Prop where
 perm:a'.toList.Perm a.toList
 size:a'.size=a.size
 out:∀k,k<lo\/lo+n<=k->a'[k]?=a[k]?
def Run.keep{c n b f:Nat}(h:Run κ a c n)(w:Wr a m b f)(d:c+n<=b\/b+f<=c):Run κ m c n:=by intro i j x y q p o l g;rw[w.out i ∅]at l;rw[w.out j ∅]at g;exact h i j x y q p o l g
end
section
def Th{a:Type}{M:Model}{Q:PUnit->a->Prop}{d c:a}(h:Q ⟨⟩ c):wpS M A E s (set c:StateT a Sem PUnit) Q d:=by unfold wpS;rw[StateT.run_set];exact aF ⟨rfl,h⟩
def U6(a:Array Keyed)(d:p<=q)(c:q<=t):(a.extract p q).toList++(a.extract q t).toList=(a.extract p t).toList:=by rw[mG,mG,mG,show t-p=(q-p)+(t-q) by lia,List.take_add,List.drop_drop,show p+(q-p)=q by lia]
def Up{a:Array Keyed}(hsz:c+d+o<=a.size)(hk:k<d)(h0:0<f)(hnb:f<=o)(Z:Run κ a c d)(Y:Run κ a (c+d) o)(a1:∀i (l:i<a.size),c<=i->i<c+k->bT κ a[i] (a[c+d]'∅)) (b2:∀i (l:i<a.size),c+d+f<=i->i<c+d+o->bT κ (a[c+d-1]'∅) a[i]) (u:hG κ ((a.extract (c+k) (c+d)).toList++(a.extract (c+d) (c+d+f)).toList) r):Wr a (putL a (c+k) r.toList) c (d+o)/\Run κ (putL a (c+k) r.toList) c (d+o):=by
 rw[U6 _ ∅ ∅]at u;have bz:r.toList.length=d-k+f:=by rw[u.1.length_eq,mG,wE,wF,iP];lia
 have D:c+k+r.toList.length<=a.size:=∅
 have B:∀m∈r.toList,∃t,∃C:t<a.size,c+k<=t/\t<c+d+f/\a[t]=m:=λm B=>BY ∅ (u.1.mem_iff.mp B);have G:∀{i j:Nat} (z:i<=j) (h:j<c+d),c<=i->bT κ (a[i]'∅) (a[j]'∅):=λ{i j} z h l=>Z i j _ _ l z h (getElem?_pos _ _ _) (getElem?_pos _ _ _);have F:∀{i j:Nat} (z:i<=j) (h:j<c+d+o),c+d<=i->bT κ (a[i]'∅) (a[j]'∅):=λ{i j} z h l=>Y i j _ _ l z h (getElem?_pos _ _ _) (getElem?_pos _ _ _);have J:∀i (l:i<a.size) j (h:j<a.size),c<=i->i<c+k->c+d<=j->j<c+d+o->bT κ a[i] a[j]:=λi l j h c1 I O c4=>(a1 i l c1 I).trans (F O c4 (bi _));refine⟨⟨?_,Ng D,λq hq=>?_⟩,?_⟩
 .refine Si (n:=d-k+f) ∅ ?_;have:=u.1;rwa[mG,show c+d+f-(c+k)=d-k+f by lia]at this
 .rw[B9 D,if_neg ∅]
 .intro i j x y h1 L h3 p g;rw[B9 D]at p g;by_cases N:c+k<=i/\i<c+k+r.toList.length
  .rw[if_pos N]at p;obtain⟨t,C,X,W,rfl⟩:=B x (kc p);by_cases v:c+k<=j/\j<c+k+r.toList.length
   .rw[if_pos v]at g;by_cases H:i=j
    .subst H;rw[p]at g;cases g;exact bT.refl _
    .obtain⟨T,S⟩:=cP.mp p;obtain⟨Q,P⟩:=cP.mp g;have:=ut.mp u.2 (i-(c+k)) (j-(c+k)) T Q ∅;rw[S,P]at this;exact this
   .rw[if_neg v]at g;obtain⟨h,rfl⟩:=mQ.mp g;by_cases M:t<c+d
    .exact(G (show t<=c+d-1 by lia) ∅ ∅).trans (b2 j h ∅ ∅)
    .exact F ∅ ∅ ∅
  .rw[if_neg N]at p;obtain⟨l,rfl⟩:=mQ.mp p;by_cases v:c+k<=j/\j<c+k+r.toList.length
   .rw[if_pos v]at g;obtain⟨t,C,X,W,rfl⟩:=B y (kc g);by_cases M:t<c+d
    .exact G ∅ M ∅
    .exact J i l t C ∅ ∅ ∅ ∅
   .rw[if_neg v]at g;obtain⟨h,rfl⟩:=mQ.mp g;by_cases I:i<c+k
    .by_cases O:j<c+k
     .exact G L ∅ h1
     .exact J i l j h ∅ I ∅ ∅
    .exact F L ∅ ∅
def Fi{a:Array Keyed}(p:d+c+f<=a.size)(v:0<c)(q:0<f)(m:Run κ a d c)(l:Run κ a (d+c) f)(r:bT κ (a[d+c-1]'∅) (a[d+c]'∅)):Run κ a d (c+f):=by
 intro i j x y o n z h g;by_cases u:j<d+c
 .exact m i j x y o n u h g
 .by_cases B:i<d+c
  .exact((m i (d+c-1) x _ o ∅ ∅ h (getElem?_pos _ _ _)).trans r).trans (l (d+c) j _ y ∅ ∅ ∅ (getElem?_pos _ _ _) g)
  .exact l i j x y ∅ n ∅ h g
def Wr.same{lo n:Nat}:Wr a a lo n:=⟨uj _,rfl,λ_ _=>rfl⟩
def Se(I:iq κ kz b w A s){m:bN}(hk:SB kz m)(v:∀i (l:i<(arrOf m).size),ik κ (arrOf m)[i]){i c a pw f C:Nat}(N:(bF m)[i]?=aa (c,a,pw)) (M:(bF m)[i+1]?=aa (c+a,f,C)) (J:0<a) (D:0<f) (o:c+a+f<=(arrOf m).size)(y:Run κ (arrOf m) c a) (x:Run κ (arrOf m) (c+a) f) {Q:Bool->bN->Prop}(h:∀q,SB kz q->bF q=((bF m).setIfInBounds i (c,a+f,pw)).eraseIdxIfInBounds (i+1)->Wr (arrOf m) (arrOf q) c (a+f)->Run κ (arrOf q) c (a+f)->Q ah q):wpS (aw b w) A E s (mergeAt' i) Q m:=by
 obtain⟨kd,d,H,mg,fl⟩:=m;have S:kz=kd:=hk.kind.symm;have rP:fl=ae:=hk.failed;subst rP;subst S;replace v:∀i (l:i<d.size),ik κ d[i]:=v;replace o:c+a+f<=d.size:=o;replace y:Run κ d c a:=y;replace x:Run κ d (c+a) f:=x;replace N:H[i]?=aa (c,a,pw):=N;replace M:H[i+1]?=aa (c+a,f,C):=M;replace h:∀q,SB kz q->bF q=(H.setIfInBounds i (c,a+f,pw)).eraseIdxIfInBounds (i+1)->Wr d (arrOf q) c (a+f)->Run κ (arrOf q) c (a+f)->Q ah q:=h;have g1:∀{i j:Nat} (p:i<=j) (g:j<c+a),c<=i->bT κ (d[i]'∅) (d[j]'∅):=λ{i j} p g l=>y i j _ _ l p g (getElem?_pos _ _ _) (getElem?_pos _ _ _);have g2:∀{i j:Nat} (p:i<=j) (g:j<c+a+f),c+a<=i->bT κ (d[i]'∅) (d[j]'∅):=λ{i j} p g l=>x i j _ _ l p g (getElem?_pos _ _ _) (getElem?_pos _ _ _);unfold mergeAt';refine aO (l7 ?_);dsimp only;rw[N,M];dsimp only;refine aO (Th ?_);generalize (H.setIfInBounds i (c,a+f,pw)).eraseIdxIfInBounds (i+1)=pend at *;refine aO (fK ∅ ?_);refine aO (Cv I ⟨rfl,rfl⟩ (base:=c) (n:=a) (hint:=0) (v _ _) ∅ v (λi j p g l=>g1 p g l) J λk m1 Z m3=>?_);dsimp only;refine cW (λe1=>?_) λe1=>?_
 .have X:a<=k:=by have:a-k=0:=(~~~e1);lia
  refine aZ (h _ ⟨rfl,rfl⟩ rfl Wr.same (Fi o J D y x (Z _ _ ∅ ∅)))
 have X:k<a:=by lia
 refine aO (fK ∅ ?_);refine aO (BV I ⟨rfl,rfl⟩ (base:=c+a) (n:=f) (hint:=f-1) (v _ _) ∅ v (λi j p g l=>g2 p g l) ∅ λu n1 Y O=>?_);dsimp only;have F:c+k+(a-k)-1=c+a-1:=∅
 simp only[F]at Y O;refine cW (λW=>?_) λW=>?_
 .have l_:u=0:= ~~~W
  refine aZ (h _ ⟨rfl,rfl⟩ rfl Wr.same (Fi o J D y x (O _ _ ∅ ∅)))
 have l_:u≠0:= ~~~W
 have xs:(d.extract (c+k) (c+a)).size=a-k:=by simp;lia
 have ys:(d.extract (c+a) (c+a+u)).size=u:=by simp;lia
 refine cW (λ_=>?_) λ_=>?_
 all_goals
  first
   |refine aO (Sg I ⟨rfl,rfl⟩ ∅ ∅ ?_ ?_ ?_ ?_ ?_ ?_ ?_)
   |refine aO (Og I ⟨rfl,rfl⟩ ∅ ∅ ?_ ?_ ?_ ?_ ?_ ?_ ?_)
  .intro j g;rw[ot];exact v _ _
  .intro j g;rw[ot];exact v _ _
  .intro i j g p;rw[ot,ot];exact g1 ∅ ∅ ∅
  .intro i j g p;rw[ot,ot];exact g2 ∅ ∅ ∅
  .rw[ot,ot];exact l9 (m3 _ _ ∅ ∅)
  .intro j g;rw[ot,ot];have:=Y (c+a+j) ∅ ∅ ∅;have e:c+k+((d.extract (c+k) (c+a)).size-1)=c+a-1:=∅
   simp only[e];exact l9 this
  .rintro r ⟨P,G,L,mg',T⟩ ⟨B,z,c3,c4⟩ hD;change P=kz at B;change G=d at z;change L=pend at c3;change T=ae at c4;subst B z c3 c4;refine aO (oq ?_);refine aO (l7 ?_);obtain⟨w1,w2⟩:=Up o X ∅ n1 y x (λi l B z=>Z i l B z) (λi l B z=>O i l B z) hD;exact aZ (h _ ⟨rfl,rfl⟩ rfl w1 w2)
end
section
variable{κ:KeyKind}{kz:gS}
def Bd(h:a[i]?=aa x):KK κ a i=kO κ x:=by unfold KK kO;rw[h]
def tz{a:Array Keyed}(h:i<a.size):KK κ a i=kO κ a[i]:=Bd (getElem?_pos _ _ _)
def iD(κ:KeyKind)(a:Array Keyed)(lo n:Nat):Prop:=∀i j,lo<=i->i<=j->j<lo+n->κ.kle (KK κ a i) (KK κ a j)
def oK(κ:KeyKind)(a:Array Keyed)(lo n:Nat):Prop:=∀i j,lo<=i->i<=j->j<lo+n->κ.kle (KK κ a j) (KK κ a i)
def iD.run{b n:Nat}(h:iD κ a b n):Run κ a b n:=by intro i j x y l g f d c;have:=h i j l g f;rw[Bd d,Bd c]at this;exact this
def Wr.trans{d n:Nat}(g:Wr a b d n)(f:Wr b c d n):Wr a c d n :=⟨f.perm.trans g.perm,f.size.trans g.size,λk h=>(f.out k h).trans (g.out k h)⟩
def Wr.mono{d n c f:Nat}(h:Wr a b d n)(j:c<=d)(i:d+n<=c+f):Wr a b c f :=⟨h.perm,h.size,λk g=>h.out k ∅⟩
def Lk{a:Array Keyed}(b:j<=a.size)(d:i<=j):Wr a (mirror a i j ((j-i) / 2)) i (j-i) :=⟨D9.mp (mirror_perm _ _ _ _),mirror_size _ _ _ _,λk c=>by rw[getElem?_mirror_all b,if_neg ∅]⟩
def P3{a:Array Keyed}(c:b<a.size)(f:d<=b):Wr a (bubble a b d) (b-d) (d+1) :=⟨D9.mp (bubble_perm _ _ _),bubble_size _ _ _,λk g=>by rw[getElem?_bubble c d f,if_neg ∅,if_neg ∅]⟩
def AllK(κ:KeyKind)(a:Array Keyed):Prop:=∀i (b:i<a.size),ik κ a[i]
def AllK.of{b:Array Keyed}(h:AllK κ a)(p:b.toList.Perm a.toList):AllK κ b:=by intro i f;have c:b[i]∈a.toList:=p.mem_iff.mp (by simp);obtain⟨j,d,e⟩:=om c;rw[<-e];simpa using h j (~~~d)
end
section
def p9(m:iq κ f d w A s){a:bN}(l:SB f a)(g:AllK κ (arrOf a)){i j:Nat}{Q:Option Bool->bN->Prop}(c:i<(arrOf a).size)(b:j<(arrOf a).size)(h:Q (aa (κ.blt (KK κ (arrOf a) i) (KK κ (arrOf a) j))) a):wpS (aw d w) A E s (ltAt' i j) Q a:=by rw[tz c,tz b]at h;rw[ltAt'_eq];refine aO (l7 ?_);exact aO (fK c (aO (fK b (wt m l (g i c) (g j b) h))))
def vO{b a:bN}{lo n i j:Nat}{Q:Unit->bN->Prop}(m:SB f a)(o:bF a=bF b)(l:Wr (arrOf b) (arrOf a) lo n)(r:i<=j)(p:j<=(arrOf b).size)(q:lo<=i)(u:j<=lo+n)(h:∀c,SB f c->bF c=bF b->Wr (arrOf b) (arrOf c) lo n->(∀k,KK κ (arrOf c) k=if i<=k/\k<j then KK κ (arrOf a) (i+j-1-k)else KK κ (arrOf a) k)->Q () c):wpS (aw d w) A E s (reverseSlice' i j) Q a:=by
 have g:j<=(arrOf a).size:=by rw[l.size];exact p
 exact wpS_reverse (h _ ⟨m.kind,m.failed⟩ o (l.trans ((Lk g r).mono q ∅)) λk=>KK_mirror g k)
def UZ{i:Type}{c:Prop}[Decidable c]{j h:StateT bN Sem i}{Q:i->bN->Prop}{g:bN}{J:bN->Prop}(l:¬c->J g)(a:∀b,J b->wpS (aw d w) A E s h Q b)(m:c->(∀b,J b->wpS (aw d w) A E s h Q b)->wpS (aw d w) A E s j Q g):wpS (aw d w) A E s (if c then j else h) Q g :=cW (λe=>m e a) λe=>a g (l e)
def BW{lo x:Nat}(b:iD κ a lo x)(h:1<=x)(e:κ.kle (KK κ a (lo+x-1)) (KK κ a (lo+x))):iD κ a lo (x+1):=λi j c n o=>by
 by_cases l:j<lo+x
 .exact b i j c n l
 .have g:j=lo+x:=∅
  subst g;by_cases m:i=lo+x
  .subst m;exact mX _
  .exact rm (b i (lo+x-1) c ∅ ∅) e
def E_{lo x:Nat}(b:oK κ a lo x)(h:1<=x)(e:κ.kle (KK κ a (lo+x)) (KK κ a (lo+x-1))):oK κ a lo (x+1):=λi j c n o=>by
 by_cases l:j<lo+x
 .exact b i j c n l
 .have g:j=lo+x:=∅
  subst g;by_cases m:i=lo+x
  .subst m;exact mX _
  .exact rm e (b i (lo+x-1) c ∅ ∅)
def OW{lo x b:Nat}(c:∀i,lo+x-(b+1)<=i->i<lo+x->KK κ a i=KK κ a (lo+x-1))(g:KK κ a (lo+x)=KK κ a (lo+x-1)):∀i,lo+(x+1)-(b+1+1)<=i->i<lo+(x+1)->KK κ a i=KK κ a (lo+(x+1)-1):=λi j h=>by
 grind
def FR(c:∀k,KK κ b k=if i<=k/\k<j then KK κ a (i+j-1-k)else KK κ a k)(g:∀k,i<=k->k<j->KK κ a k=KK κ a n):∀k,KK κ b k=KK κ a k:=λk=>by
 grind
def Mq(S:iq κ f d w A s){u:bN}(P:SB f u)(T:AllK κ (arrOf u)){lo b:Nat}(h1:1<=b)(hsz:lo+b<=(arrOf u).size){Q:Option Nat->bN->Prop}(h:∀n o,SB f o->bF o=bF u->Wr (arrOf u) (arrOf o) lo b->1<=n->n<=b->iD κ (arrOf o) lo n->Q (aa n) o):wpS (aw d w) A E s (countRun' lo b) Q u:=by
 have one:iD κ (arrOf u) lo 1:=λi j r y D=>by
  have:i=j:=∅
  subst this;exact mX _
 have go:∀{p:bN},Wr (arrOf u) (arrOf p) lo b->(arrOf p).size=(arrOf u).size:=λw=>w.size;unfold countRun';refine aO (ie (ig (I:=λx c g=>g=u/\c=(ae,x)/\iD κ (arrOf u) lo x) (Q:=λc g=>g=u/\∃n,c=(ae,n)/\1<=n/\n<=b/\iD κ (arrOf u) lo n/\(n=b\/κ.klt (KK κ (arrOf u) (lo+n)) (KK κ (arrOf u) (lo+n-1)))) ?_ ?_ ?_) ?_)
 .rintro x c g xz rR ⟨rfl,rfl,v⟩;dsimp only;refine aO (p9 S P T ∅ ∅ ?_);cases e:κ.blt (KK κ (arrOf g) (lo+x)) (KK κ (arrOf g) (lo+x-1))with
  |true=>exact aZ ⟨rfl,x,rfl,∅,∅,v,.inr e⟩
  |false=>exact aZ ⟨rfl,rfl,BW v ∅ e⟩
 .grind
 .exact⟨rfl,rfl,one⟩
 rintro c o ⟨rfl,n,rfl,n1,n2,v,hn⟩;dsimp only;refine cW (λe1=>aZ (h n o P rfl Wr.same n1 n2 v)) λe1=>?_;have uH:n≠b:= ~~~e1
 replace hn:κ.klt (KK κ (arrOf o) (lo+n)) (KK κ (arrOf o) (lo+n-1)):=hn.resolve_left uH;refine UZ (J:=λC=>SB f C/\bF C=bF o/\Wr (arrOf o) (arrOf C) lo b/\oK κ (arrOf C) lo (n+1)) (λen=>⟨P,rfl,Wr.same,λi j r y D=>?_⟩) (λC ⟨fF,iA,xG,hD⟩=>?_) λen key=>?_
 .have en':n=1:=∅
  by_cases hi:i=j
  .subst hi;exact mX _
  .have e1:i=lo+n-1:=∅
   have e2:j=lo+n:=∅
   rw[e1,e2];exact l9 hn
 .refine aO (ur (mR ⟨rfl,?_⟩));refine aO (ie (ig (I:=λx c l=>∃a,c=(ae,x,a)/\SB f l/\bF l=bF o/\Wr (arrOf o) (arrOf l) lo b/\oK κ (arrOf l) lo x/\a+1<=x/\(∀i,lo+x-(a+1)<=i->i<lo+x->KK κ (arrOf l) i=KK κ (arrOf l) (lo+x-1))) (Q:=λc l=>∃m a,c=(ae,m,a)/\SB f l/\bF l=bF o/\Wr (arrOf o) (arrOf l) lo b/\1<=m/\m<=b/\oK κ (arrOf l) lo m/\a+1<=m/\(∀i,lo+m-(a+1)<=i->i<lo+m->KK κ (arrOf l) i=KK κ (arrOf l) (lo+m-1))) ?_ ?_ ?_) ?_)
  .rintro x c l xz rR ⟨a,rfl,B,G,z,F,hq,H⟩;have sz3:=z.size;dsimp only;refine aO (p9 S B (T.of z.perm) ∅ ∅ ?_);cases e3:κ.blt (KK κ (arrOf l) (lo+x)) (KK κ (arrOf l) (lo+x-1))with
   |true=>
    have rK:oK κ (arrOf l) lo (x+1):=E_ F ∅ (l9 e3);dsimp only;rw[if_pos rfl];refine cW (λEE=>?_) λEE=>?_
    .refine aO (vO (κ:=κ) (lo:=lo) (n:=b) B G z ∅ ∅ ∅ ∅ λb9 jS i7 Y EF=>?_);have X:=FR EF H;exact aZ ⟨0,rfl,jS,i7,Y,λi j r y D=>by rw[X,X];exact rK i j r y D,∅,λi r y=>by congr 1;lia⟩
    .exact aZ ⟨0,rfl,B,G,z,rK,∅,λi r y=>by congr 1;lia⟩
   |false=>
    dsimp only;rw[if_neg (by simp)];refine aO (p9 S B (T.of z.perm) ∅ ∅ ?_);cases e4:κ.blt (KK κ (arrOf l) (lo+x-1)) (KK κ (arrOf l) (lo+x))with
    |true=>exact aZ ⟨x,a,rfl,B,G,z,∅,∅,F,hq,H⟩
    |false=>have ex:KK κ (arrOf l) (lo+x)=KK κ (arrOf l) (lo+x-1):=KeyOrd.kle_antisymm e4 e3;exact aZ ⟨a+1,rfl,B,G,z,E_ F ∅ (by rw[ex];exact mX _),∅,OW H ex⟩
  .rintro c l ⟨a,rfl,B,G,z,F,hq,H⟩;rw[show max (n+1) b=b by lia]at F hq H ⊢;exact⟨b,a,rfl,B,G,z,∅,∅,F,hq,H⟩
  .grind
  rintro c l ⟨m,a,rfl,B,G,z,m1,m2,F,hq,H⟩;dsimp only;refine cW (λEE=>?_) λEE=>?_
  .refine aO (vO (κ:=κ) (lo:=lo) (n:=b) B G z ∅ ∅ ∅ ∅ λb9 jS i7 Y EF=>?_);have X:=FR EF H;have O:oK κ (arrOf b9) lo m:=λi j r y D=>by rw[X,X];exact F i j r y D
   refine aO (vO (κ:=κ) (lo:=lo) (n:=b) jS i7 Y ∅ ∅ ∅ ∅ λp Z N L W=>?_);have hr5:iD κ (arrOf p) lo m:=λi j r y D=>by rw[W,W,if_pos ⟨r,∅⟩,if_pos ⟨∅,D⟩];exact O _ _ ∅ ∅ ∅
   have sz5:=L.size;refine aO (ie (ig (I:=λx c g=>g=p/\c=(ae,x)/\iD κ (arrOf p) lo x) (Q:=λc g=>g=p/\∃n,c=(ae,n)/\1<=n/\n<=b/\iD κ (arrOf p) lo n/\(n=b\/κ.klt (KK κ (arrOf p) (lo+n)) (KK κ (arrOf p) (lo+n-1)))) ?_ ?_ ?_) ?_)
   .rintro x c g xz rR ⟨rfl,rfl,v⟩;dsimp only;refine aO (p9 S Z (T.of L.perm) ∅ ∅ ?_);cases e:κ.blt (KK κ (arrOf g) (lo+x)) (KK κ (arrOf g) (lo+x-1))with
    |true=>exact aZ ⟨rfl,x,rfl,∅,∅,v,.inr e⟩
    |false=>exact aZ ⟨rfl,rfl,BW v ∅ e⟩
   .grind
   .exact⟨rfl,rfl,hr5⟩
   rintro c g ⟨rfl,q,rfl,q1,q2,M,_⟩;exact aZ (h q g Z N L q1 q2 M)
  .have jS:=B;have i7:=G;have Y:=z;have O:=F;refine aO (vO (κ:=κ) (lo:=lo) (n:=b) jS i7 Y ∅ ∅ ∅ ∅ λp Z N L W=>?_);have hr5:iD κ (arrOf p) lo m:=λi j r y D=>by rw[W,W,if_pos ⟨r,∅⟩,if_pos ⟨∅,D⟩];exact O _ _ ∅ ∅ ∅
   have sz5:=L.size;refine aO (ie (ig (I:=λx c g=>g=p/\c=(ae,x)/\iD κ (arrOf p) lo x) (Q:=λc g=>g=p/\∃n,c=(ae,n)/\1<=n/\n<=b/\iD κ (arrOf p) lo n/\(n=b\/κ.klt (KK κ (arrOf p) (lo+n)) (KK κ (arrOf p) (lo+n-1)))) ?_ ?_ ?_) ?_)
   .rintro x c g xz rR ⟨rfl,rfl,v⟩;dsimp only;refine aO (p9 S Z (T.of L.perm) ∅ ∅ ?_);cases e:κ.blt (KK κ (arrOf g) (lo+x)) (KK κ (arrOf g) (lo+x-1))with
    |true=>exact aZ ⟨rfl,x,rfl,∅,∅,v,.inr e⟩
    |false=>exact aZ ⟨rfl,rfl,BW v ∅ e⟩
   .grind
   .lia
   rintro c g ⟨rfl,q,rfl,q1,q2,M,_⟩;exact aZ (h q g Z N L q1 q2 M)
 .refine aO (p9 S P T ∅ ∅ ?_);cases e2:κ.blt (KK κ (arrOf o) lo) (KK κ (arrOf o) (lo+n-1))with
  |true=>exact aZ (h n o P rfl Wr.same n1 n2 v)
  |false=>
   dsimp only;rw[if_neg (by simp)];have eN:∀i,lo<=i->i<lo+n->KK κ (arrOf o) i=KK κ (arrOf o) lo:=λi r y=>KeyOrd.kle_antisymm (rm (v i (lo+n-1) r ∅ ∅) e2) (v lo i (bi _) r y);refine aO (vO (κ:=κ) (lo:=lo) (n:=b) P rfl Wr.same ∅ ∅ ∅ ∅ λC fF iA xG pO=>?_);have hD:oK κ (arrOf C) lo (n+1):=by
    have hv:∀i,lo<=i->i<lo+n->KK κ (arrOf C) i=KK κ (arrOf o) lo:=λi r y=>by
     grind
    have hl:κ.klt (KK κ (arrOf C) (lo+n)) (KK κ (arrOf o) lo):=by
     grind
    intro i j r y D;by_cases hj:j<lo+n
    .rw[hv i r ∅,hv j ∅ hj];exact mX _
    .have iB:j=lo+n:=∅
     subst iB;by_cases hi:i=lo+n
     .subst hi;exact mX _
     .rw[hv i r ∅];exact l9 hl
   exact key C ⟨fF,iA,xG,hD⟩
def Rj{g c:bN}{lo n a b:Nat}{Q:Unit->bN->Prop}(m:SB f c)(o:bF c=bF g)(l:Wr (arrOf g) (arrOf c) lo n)(u:b<=a)(p:a<(arrOf g).size)(r:lo<=b)(q:a<lo+n)(h:∀i,SB f i->bF i=bF g->Wr (arrOf g) (arrOf i) lo n->(∀k,KK κ (arrOf i) k=if k=b then KK κ (arrOf c) a else if b<k/\k<=a then KK κ (arrOf c) (k-1)else KK κ (arrOf c) k)->Q () i):wpS (aw d w) A E s (moveDown' a b) Q c:=by
 have j:a<(arrOf c).size:=by rw[l.size];exact p
 rw[moveDown'_eq];refine oq (h _ ⟨m.kind,m.failed⟩ o (l.trans ((P3 j (show a-b<=a by lia)).mono ∅ ∅)) λk=>?_);have:=KK_bubble (κ:=κ) j (show a-b<=a by lia) k;rw[show a-(a-b)=b by lia]at this;exact this
def LD(P:iq κ f d w A s){b:bN}(O:SB f b)(S:AllK κ (arrOf b)){lo n ok:Nat}(N:ok<=n)(L:lo+n<=(arrOf b).size)(M:iD κ (arrOf b) lo ok){Q:Bool->bN->Prop}(h:∀q,SB f q->bF q=bF b->Wr (arrOf b) (arrOf q) lo n->iD κ (arrOf q) lo n->Q ah q):wpS (aw d w) A E s (binarySort' lo n ok) Q b:=by
 unfold binarySort';refine aO (ie (ig (I:=λk c a=>c=(ae,())/\SB f a/\bF a=bF b/\Wr (arrOf b) (arrOf a) lo n/\iD κ (arrOf a) lo (min k n)) (Q:=λc a=>c=(ae,())/\SB f a/\bF a=bF b/\Wr (arrOf b) (arrOf a) lo n/\iD κ (arrOf a) lo n) ?_ ?_ ?_) ?_)
 .rintro k c a Z fF ⟨rfl,m,y,g,p⟩;have sz:=g.size;rw[show min k n=k by lia]at p;refine aO (ie (ig (I:=λx c o=>o=a/\∃l r,c=(ae,l,r)/\l<=r/\r<=k/\r-l<=k-x /\ (∀i,i<l->κ.kle (KK κ (arrOf a) (lo+i)) (KK κ (arrOf a) (lo+k)))/\(∀i,r<=i->i<k->κ.klt (KK κ (arrOf a) (lo+k)) (KK κ (arrOf a) (lo+i)))) (Q:=λc o=>o=a/\∃l r,c=(ae,l,r)/\l<=k /\ (∀i,i<l->κ.kle (KK κ (arrOf a) (lo+i)) (KK κ (arrOf a) (lo+k)))/\(∀i,l<=i->i<k->κ.klt (KK κ (arrOf a) (lo+k)) (KK κ (arrOf a) (lo+i)))) ?_ ?_ ?_) ?_)
  .rintro x c o _ hx ⟨rfl,l,r,rfl,Y,B,X,v,u⟩;dsimp only;refine cW (λJ=>?_) λJ=>?_
   .have:l=r:=∅
    subst this;exact aZ ⟨rfl,l,l,rfl,B,v,u⟩
   .refine aO (p9 P m (S.of g.perm) ∅ ∅ ?_);cases e:κ.blt (KK κ (arrOf o) (lo+k)) (KK κ (arrOf o) (lo+(l+r) / 2))with
    |true=>exact aZ ⟨rfl,l,(l+r) / 2,rfl,∅,∅,∅,v,λi D h2=>KeyOrd.klt_of_klt_of_kle e (p _ _ ∅ ∅ ∅)⟩
    |false=>exact aZ ⟨rfl,(l+r) / 2+1,r,rfl,∅,∅,∅,λi D=>rm (p (lo+i) (lo+(l+r) / 2) ∅ ∅ ∅) e,u⟩
  .rintro c o ⟨rfl,l,r,rfl,Y,B,X,v,u⟩
   grind
  .lia
  .rintro c o ⟨rfl,l,r,rfl,B,v,u⟩;dsimp only;refine aO (Rj (κ:=κ) (lo:=lo) (n:=n) m y g ∅ ∅ ∅ ∅ λbM z T H C=>aZ ⟨rfl,z,T,H,?_⟩);rw[show min (k+1) n=k+1 by lia];intro i j G F W;rw[C,C]
   repeat' split
   all_goals first
    | (exfalso;lia)
    |exact mX _
    | (have:=v (i-lo) ∅;rw[show lo+(i-lo)=i by lia]at this;exact this)
    | (have:=u (j-1-lo) ∅ ∅;rw[show lo+(j-1-lo)=j-1 by lia]at this;exact l9 this)
    |exact p _ _ ∅ ∅ ∅
 .lia
 .refine⟨rfl,O,rfl,Wr.same,λi j G F W=>?_⟩;by_cases D:ok=0
  .have:i=j:=∅
   subst this;exact mX _
  .exact M i j G F ∅
 .rintro c a ⟨rfl,m,y,g,p⟩;exact aZ (h a m y g p)
end
def VO[Decidable c](f:a+1<n)(d:b+1<n):(if c then a else b)+1<n:=by split <;> assumption
def lh:Nat->List (Nat×Nat)->Nat->Prop
 |f,[],t=>f=t
 |f,(a,n)::l,t=>a=f/\0<n/\lh (f+n) l t
def lh.app:∀{l1:List (Nat×Nat)}{f t:Nat}{b:List (Nat×Nat)},lh f (l1++b) t↔∃m,lh f l1 m/\lh m b t
 |[],f,t,b=>by simp[lh]
 | (a,n)::l1,f,t,b=>by simp only[rq,lh,lh.app (l1:=l1)];lia
def lh.le:∀{l:List (Nat×Nat)}{f t:Nat},lh f l t->f+l.length<=t/\∀e∈l,f<=e.1/\e.1+e.2<=t
 |[],f,t,h=>⟨by cases h;simp,by simp⟩
 | (a,n)::l,f,t,⟨i,g,b⟩=>by
  obtain⟨d,c⟩:=lh.le b
  grind
def PL(a:Array (Nat×Nat×Nat)):List (Nat×Nat):=a.toList.map λe=>(e.1,e.2.1)
structure jj(κ:KeyKind)(arr:Array Keyed)(pd:Array (Nat×Nat×Nat))(lo:Nat):Prop where
 ch:lh 0 (PL pd) lo
 run:∀e∈PL pd,Run κ arr e.1 e.2
def y4(a:Array (Nat×Nat×Nat)):(PL a).length=a.size:=by simp[PL]
def oM(a:Array (Nat×Nat×Nat))(e:Nat×Nat×Nat):PL (a.push e)=PL a++[(e.1,e.2.1)]:=by simp[PL]
def yJ(a:Array (Nat×Nat×Nat))(k pw:Nat):PL (a.modify k λx=>(x.1,x.2.1,pw))=PL a:=by
 apply pC;intro i;simp only[PL,d8,rj,Array.getElem?_modify];split
 .cases a[i]? <;> rfl
 .rfl
def P_{j:Array (Nat×Nat×Nat)}(h:i+1<j.size):∃a f b d g sb c m,j[i]?=aa (b,d,g)/\j[i+1]?=aa (sb,c,m)/\PL j=a++(b,d)::(sb,c)::f /\ PL ((j.setIfInBounds i (b,d+c,g)).eraseIdxIfInBounds (i+1))=a++(b,d+c)::f:=by
 obtain⟨l⟩:=j;simp only[fD]at h;have e:l=l.take i++l[i]::l[i+1]::l.drop (i+2):=by simp_all
 obtain⟨a,x,y,f,n,p⟩:∃a x y f,a.length=i/\l=a++x::y::f:=⟨l.take i,l[i],l[i+1],l.drop (i+2),by simp;lia,e⟩
 subst n p;obtain⟨b,d,g⟩:=x;obtain⟨sb,c,m⟩:=y;refine⟨a.map λe=>(e.1,e.2.1),f.map λe=>(e.1,e.2.1),b,d,g,sb,c,m,by simp,by simp[JN],by simp[PL],?_⟩;have o:((a++(b,d,g)::(sb,c,m)::f).toArray.setIfInBounds a.length (b,d+c,g)).eraseIdxIfInBounds (a.length+1)=(a++(b,d+c,g)::f).toArray:=by rw[List.setIfInBounds_toArray,List.set_append_right _ _ (bi _),List.eraseIdxIfInBounds_toArray];congr 1;rw[List.eraseIdx_append_of_length_le ∅];simp
 rw[o];simp[PL]
section
def jj.keep{b n:Nat}(h:jj κ a c b)(w:Wr a f b n):jj κ f c b :=⟨h.ch,λe d=>(h.run e d).keep w (.inl (h.ch.le.2 e d).2)⟩
def Cc(H:iq κ kz prog w A s){a:bN}(F:SB kz a)(I:AllK κ (arrOf a)){i l:Nat}(g:jj κ (arrOf a) (bF a) l)(D:l<=(arrOf a).size)(G:i+1<(bF a).size){Q:Bool->bN->Prop}(h:∀c,SB kz c->Wr (arrOf a) (arrOf c) 0 l->jj κ (arrOf c) (bF c) l->(bF c).size+1=(bF a).size->Q ah c):wpS (aw prog w) A E s (mergeAt' i) Q a:=by
 obtain⟨Y,X,f,j,W,sb,u,T,L,J,d,p⟩:=P_ G;have v:=g.ch;rw[d]at v;obtain⟨m,x,S,P,O,N,M⟩:=lh.app.mp v;subst S O;have b1:=x.le;have b2:=M.le;have z:Run κ (arrOf a) f j:=g.run (f,j) (by rw[d];simp);have y:Run κ (arrOf a) (f+j) u:=g.run (f+j,u) (by rw[d];simp);refine Se H F I L J P N ∅ z y λc B n o C=>h c B (o.mono ∅ ∅) ⟨?_,?_⟩ ?_
 .rw[n,p];exact lh.app.mpr ⟨f,x,rfl,∅,by lia⟩
 .rw[n,p];intro e b;rcases lj.mp b with b|b
  .exact(g.run e (by rw[d];exact zP _ b)).keep o (.inl (b1.2 e b).2)
  .rcases cC.mp b with rfl|b
   .exact C
   .exact(g.run e (by rw[d];simp[b])).keep o (.inr (by have:=(b2.2 e b).1;lia))
 .have r:=y4 (bF c);have q:=y4 (bF a);rw[n,p]at r;rw[d]at q;rw[n,<-r,<-q];simp;lia
def MF(hO:iq κ kz prog w A s){st:bN}(hk:SB kz st)(hA:AllK κ (arrOf st))(hp:bF st=#[]){Q:Unit->bN->Prop}(h:∀aD,SB kz aD->(arrOf aD).toList.Perm (arrOf st).toList->Run κ (arrOf aD) 0 (arrOf st).size->Q () aD):wpS (aw prog w) A E s sortRuns' Q st:=by
 unfold sortRuns';refine aO (l7 ?_);dsimp only;obtain⟨b,Vp⟩:∃b,b=(arrOf st).size:=⟨_,rfl⟩
 have Vj:((sortPriv% PySem.Builtin.SortState.a) st).size=b:=Vp.symm;simp only[Vj];refine aO (ie (ig (I:=λx c o=>∃f,c=(ae,f)/\x<=f/\f<=b/\SB kz o/\(arrOf o).toList.Perm (arrOf st).toList/\(arrOf o).size=b/\jj κ (arrOf o) (bF o) f) (Q:=λc o=>c=(ae,b)/\SB kz o/\(arrOf o).toList.Perm (arrOf st).toList/\(arrOf o).size=b/\jj κ (arrOf o) (bF o) b) ?_ ?_ ?_) ?_);rotate_left
 .grind
 .exact⟨0,rfl,∅,∅,hk,uj _,Vp.symm,by rw[hp];exact⟨rfl,by simp[PL]⟩⟩
 .rintro c o ⟨rfl,lw,nq,M,hP⟩;dsimp only;refine aO (ie (ig (I:=λx c l=>c=(ae,())/\SB kz l/\(arrOf l).toList.Perm (arrOf st).toList/\(arrOf l).size=b/\jj κ (arrOf l) (bF l) b/\(bF l).size+x<=b+1) (Q:=λc l=>c=(ae,())/\SB kz l/\(arrOf l).toList.Perm (arrOf st).toList/\(arrOf l).size=b/\jj κ (arrOf l) (bF l) b/\(bF l).size<=1) ?_ ?_ ?_) ?_)
  .rintro x c l _ hx ⟨rfl,P,iA,X,D,hb⟩;refine aO (l7 ?_);refine cW (λe1=>aZ ⟨rfl,P,iA,X,D,e1⟩) λe1=>?_;have uH:1<(bF l).size:=Nat.lt_of_not_le e1;refine aO (Cc hO P (hA.of iA) D ∅ ?_ λO N ko G hq=>?_)
   .lia
   .exact aZ ⟨rfl,N,ko.perm.trans iA,ko.size.trans X,G,∅⟩
  .lia
  .have:=hP.ch.le.1;rw[y4]at this;lia
  .rintro c l ⟨rfl,P,iA,X,D,hb⟩;refine aZ (h l P iA ?_);rw[<-Vp];have hc:=D.ch;have hr:=D.run;have hl:=y4 (bF l)
   match hq:PL (bF l),hc,hr,hl with
   |[],hc,hr,hl=>
    cases hc;intro i j x y a1 a2 a3;lia
   |[(a,n)],hc,hr,hl=>
    obtain⟨d1,d2,d3⟩:=hc;cases d1;have d3':0+n=b:=d3;have:=hr (0,n) (by simp);lia
   |_::_::_,hc,hr,hl=>simp at hl;lia
 rintro x c o _ hx ⟨f,rfl,b1,b2,lw,nq,M,hP⟩;dsimp only;refine cW (λe1=>?_) λe1=>?_
 .have:f=b:=∅
  subst this;exact aZ ⟨rfl,lw,nq,M,hP⟩
 refine aO (Mq hO lw (hA.of nq) ∅ ∅ λr l P Z xG f1 f2 uD=>?_);dsimp only;refine cW (λe2=>?_) λe2=>?_
 .refine aO (ur (mR ⟨rfl,?_⟩));refine aO (LD hO P ((hA.of nq).of xG.perm) ∅ (by rw[xG.size];lia) uD λO N hq3 ko Y=>?_);rw[if_neg (by simp)];have L:Wr (arrOf o) (arrOf O) f (b-f):=xG.trans (ko.mono ∅ ∅);have xI:bF O=bF o:=hq3.trans Z;generalize hn:min (b-f) _=n at *;have n1:0<n:=∅
  have n2:f+n<=b:=∅
  clear P xG uD Z ko hq3;have G:jj κ (arrOf O) (bF O) f:=by rw[xI];exact hP.keep L
  have gB:(arrOf O).toList.Perm (arrOf st).toList:=L.perm.trans nq;have pK:(arrOf O).size=b:=L.size.trans M;have hR:Run κ (arrOf O) f n:=Y.run;clear L xI;refine aO (l7 ?_);obtain⟨kd,arr,T,mg,fl⟩:=O;dsimp only;cases hbk:T.back? with
  |none=>
   dsimp only;refine aO (oq (aZ ⟨f+n,rfl,∅,n2,⟨N.kind,N.failed⟩,gB,pK,?_⟩));refine⟨?_,?_⟩
   .show lh 0 (PL (T.push (f,n,0))) _;rw[oM];exact lh.app.mpr ⟨f,G.ch,rfl,n1,rfl⟩
   .show ∀e∈PL (T.push (f,n,0)),_;rw[oM];intro e m;rcases lj.mp m with m|m
    .exact G.run e m
    .rw[kg.mp m];exact hR
  |some bk=>
   obtain⟨s1,m1,q1⟩:=bk;dsimp only;refine aO (ie (ig (I:=λx c g=>c=(ae,())/\SB kz g/\(arrOf g).toList.Perm (arrOf st).toList/\(arrOf g).size=b/\jj κ (arrOf g) (bF g) f/\Run κ (arrOf g) f n) (Q:=λc g=>c=(ae,())/\SB kz g/\(arrOf g).toList.Perm (arrOf st).toList/\(arrOf g).size=b/\jj κ (arrOf g) (bF g) f/\Run κ (arrOf g) f n) ?_ (λ_ _ hh=>hh) ?_) ?_)
   .rintro y c g _ hy ⟨rfl,B,C,J,u,H⟩;refine aO (l7 ?_);have xh:∀{p:bN},p=g->((ae,()):Option Unit×Unit)=(ae,())/\SB kz p/\(arrOf p).toList.Perm (arrOf st).toList/\(arrOf p).size=b/\jj κ (arrOf p) (bF p) f/\Run κ (arrOf p) f n:=λe=>by subst e;exact⟨rfl,B,C,J,u,H⟩
    by_cases hg:1<(bF g).size
    .obtain⟨z,q,d,v,F⟩:=g;have W:d.size > 1:=hg;dsimp only;rw[if_pos W,getElem?_pos d (d.size-2) ∅];obtain⟨u1,u2,u3⟩:=d[d.size-2];dsimp only;refine cW (λ_=>aZ (xh rfl)) λ_=>?_;refine aO (Cc hO B (hA.of C) u ∅ (show d.size-2+1<d.size by lia) λp mi S hP5 _=>?_);exact aZ ⟨rfl,mi,S.perm.trans C,S.size.trans J,hP5,H.keep S (.inr ∅)⟩
    .obtain⟨z,q,d,v,F⟩:=g;have W:¬d.size > 1:=hg;dsimp only;rw[if_neg W];exact aZ (xh rfl)
   .exact⟨rfl,N,gB,pK,G,hR⟩
   rintro c g ⟨rfl,B,C,J,u,H⟩;obtain⟨z,q,d,v,F⟩:=g;dsimp only;refine aO (oq (aO (oq (aZ ⟨f+n,rfl,∅,n2,⟨B.kind,B.failed⟩,C,J,?_⟩))));refine⟨?_,?_⟩
   .show lh 0 (PL ((d.modify (d.size-1) λx=>(x.1,x.2.1,_)).push (f,n,0))) _;rw[oM,yJ];exact lh.app.mpr ⟨f,u.ch,rfl,n1,rfl⟩
   .show ∀e∈PL ((d.modify (d.size-1) λx=>(x.1,x.2.1,_)).push (f,n,0)),_;rw[oM,yJ];intro e m;rcases lj.mp m with m|m
    .exact u.run e m
    .rw[kg.mp m];exact H
 .have N:=P;have Y:=uD;have L:Wr (arrOf o) (arrOf l) f (b-f):=xG;have xI:bF l=bF o:=Z;have n1:0<r:=∅
  have n2:f+r<=b:=∅
  have G:jj κ (arrOf l) (bF l) f:=by rw[xI];exact hP.keep L
  have gB:(arrOf l).toList.Perm (arrOf st).toList:=L.perm.trans nq;have pK:(arrOf l).size=b:=L.size.trans M;have hR:Run κ (arrOf l) f r:=Y.run;clear L xI;refine aO (l7 ?_);obtain⟨kd,arr,T,mg,fl⟩:=l;dsimp only;cases hbk:T.back? with
  |none=>
   dsimp only;refine aO (oq (aZ ⟨f+r,rfl,∅,n2,⟨N.kind,N.failed⟩,gB,pK,?_⟩));refine⟨?_,?_⟩
   .show lh 0 (PL (T.push (f,r,0))) _;rw[oM];exact lh.app.mpr ⟨f,G.ch,rfl,n1,rfl⟩
   .show ∀e∈PL (T.push (f,r,0)),_;rw[oM];intro e m;rcases lj.mp m with m|m
    .exact G.run e m
    .rw[kg.mp m];exact hR
  |some bk=>
   obtain⟨s1,m1,q1⟩:=bk;dsimp only;refine aO (ie (ig (I:=λx c g=>c=(ae,())/\SB kz g/\(arrOf g).toList.Perm (arrOf st).toList/\(arrOf g).size=b/\jj κ (arrOf g) (bF g) f/\Run κ (arrOf g) f r) (Q:=λc g=>c=(ae,())/\SB kz g/\(arrOf g).toList.Perm (arrOf st).toList/\(arrOf g).size=b/\jj κ (arrOf g) (bF g) f/\Run κ (arrOf g) f r) ?_ (λ_ _ hh=>hh) ?_) ?_)
   .rintro y c g _ hy ⟨rfl,B,C,J,u,H⟩;refine aO (l7 ?_);have xh:∀{p:bN},p=g->((ae,()):Option Unit×Unit)=(ae,())/\SB kz p/\(arrOf p).toList.Perm (arrOf st).toList/\(arrOf p).size=b/\jj κ (arrOf p) (bF p) f/\Run κ (arrOf p) f r:=λe=>by subst e;exact⟨rfl,B,C,J,u,H⟩
    by_cases hg:1<(bF g).size
    .obtain⟨z,q,d,v,F⟩:=g;have W:d.size > 1:=hg;dsimp only;rw[if_pos W,getElem?_pos d (d.size-2) ∅];obtain⟨u1,u2,u3⟩:=d[d.size-2];dsimp only;refine cW (λ_=>aZ (xh rfl)) λ_=>?_;refine aO (Cc hO B (hA.of C) u ∅ (show d.size-2+1<d.size by lia) λp mi S hP5 _=>?_);exact aZ ⟨rfl,mi,S.perm.trans C,S.size.trans J,hP5,H.keep S (.inr ∅)⟩
    .obtain⟨z,q,d,v,F⟩:=g;have W:¬d.size > 1:=hg;dsimp only;rw[if_neg W];exact aZ (xh rfl)
   .exact⟨rfl,N,gB,pK,G,hR⟩
   rintro c g ⟨rfl,B,C,J,u,H⟩;obtain⟨z,q,d,v,F⟩:=g;dsimp only;refine aO (oq (aO (oq (aZ ⟨f+r,rfl,∅,n2,⟨B.kind,B.failed⟩,C,J,?_⟩))));refine⟨?_,?_⟩
   .show lh 0 (PL ((d.modify (d.size-1) λx=>(x.1,x.2.1,_)).push (f,r,0))) _;rw[oM,yJ];exact lh.app.mpr ⟨f,u.ch,rfl,n1,rfl⟩
   .show ∀e∈PL ((d.modify (d.size-1) λx=>(x.1,x.2.1,_)).push (f,r,0)),_;rw[oM,yJ];intro e m;rcases lj.mp m with m|m
    .exact u.run e m
    .rw[kg.mp m];exact H
end
def sT(h:n<=1000000):n<bo:=zX h (by decide)
def Run.sortedTo(h:Run κ a 0 n)(c:n<=a.size):SortedToK κ a n:=by intro i j b d;have:=h i j _ _ (jM _) b ∅ (getElem?_pos a i ∅) (getElem?_pos a j ∅);rw[tz (show i<a.size by lia),tz (show j<a.size by lia)];exact this
def KeysOf.all(h:KeysOf κ a):AllK κ a:=λi b=>h _ (by simp)
section
variable{s:ao}
def FN{c:List ai}(p:s.heap.get? a=aa (gf "list" c.toArray n))(J:KeysOf κ (lm c))(z:c.length<=1000000)(C:∀r:aB,(∀b o,b≠a->s.heap.get? b=aa o->r.get? b=aa o)->2<=c.length->iq κ kz P w A {s with heap:=r}/\∀{E:ai->ao->Prop}{Q:gS->ao->Prop},Q kz {s with heap:=r}->ar (aw P w) A (keyKind' c.toArray) Q E {s with heap:=r})(h:∀d:bN,(arrOf d).Perm (lm c)->SortedToK κ (arrOf d) (lm c).size->F (.done (.ret .none)) {s with heap:=sortedHeap s.heap a c ((arrOf d).map (·.2))}):ar (aw P w) A (Builtin.«list.sort» ⟨[.ref a],[]⟩) F E s:=by
 rw[list_sort_plain];have G:a<s.heap.objs.size:=bH p;have B:c.length<=bo:=kI (sT z);refine aq (listItems_at p rfl ?_);refine aq (DV p rfl ?_);obtain⟨u,x⟩:∃u,(s.heap.update a (kM λ_=>#[])).get? a=aa (gf "list" #[] u):=⟨_,get?_update_seq p (λ_=>#[])⟩
 refine aq (seqEpoch_at x rfl ?_);refine aq (wpAny_newTuple ?_ (hsz:=by lia));refine aq (Dz ?_);refine iQ ?_;have g:(((s.heap.update a (kM λ_=>#[])).push (gf "tuple" c.toArray 0)).push (gf "list" #[] 0)).get? a=aa (gf "list" #[] u):=by rw[Heap.get?_push_ne _ _ _ (by rw[l0,Heap.size_update];lia),Heap.get?_push_ne _ _ _ (by rw[Heap.size_update];exact dE G)];exact x
 have keep:∀b o,b≠a->s.heap.get? b=aa o->(((s.heap.update a (kM λ_=>#[])).push (gf "tuple" c.toArray 0)).push (gf "list" #[] 0)).get? b=aa o:=λb o l e=>bL _ (bL _ (by rw[Ke _ _ _ _ l];exact e));show ar (aw P w) A _ F E {s with heap:=((s.heap.update a (kM λ_=>#[])).push (gf "tuple" c.toArray 0)).push (gf "list" #[] 0)};dsimp only;have f:∀d:bN,failedOf d=ae->(arrOf d).Perm (lm c)->SortedToK κ (arrOf d) (lm c).size ->
   ar (aw P w) A (do
    let touched:=(<-seqEpoch a) != u
    Builtin.List.listUpdate (.ref a) λ_=>(arrOf d).map (·.2)
    if let aa e:=failedOf d then rule "list.sort.comparison-raised";throw e
    if touched then rule "list.sort.modified";raiseError "ValueError" "list modified during sort"
    ret .none) F E {s with heap:=((s.heap.update a (kM λ_=>#[])).push (gf "tuple" c.toArray 0)).push (gf "list" #[] 0)}:=λd l m v=>by
  refine aq (seqEpoch_at g rfl ?_);refine aq (DV g rfl ?_ (hsz2:=by refine c7 (ug ((Array.size_map ..).trans (m.size_eq.trans (pairsOf_size _)))) (Nat.le_succ_of_le B)));rw[l];simp only[bne_self_eq_false,fi,if_false];exact aF (h d m v)
 by_cases q:c.toArray.size<2
 .rw[if_pos q,if_pos q];refine aq (aF ?_);refine aq (aF ?_);refine f (SortSt.mk' general' (c.toArray.zip c.toArray) #[] 7 ae) rfl (Array.Perm.refl _) λi j O D=>?_;have:i=j:=by rw[pairsOf_size]at D;grind
  subst this;exact mX _
 .rw[if_neg q,if_neg q];obtain⟨H,I⟩:=C _ keep (by grind);refine aq (I ?_);refine aq (fh (MF (κ:=κ) (kz:=kz) H (st:=SortSt.mk' kz (c.toArray.zip c.toArray) #[] 7 ae) (Q:=λ_ d=>SB kz d/\(arrOf d).toList.Perm (lm c).toList/\Run κ (arrOf d) 0 (lm c).size) ⟨rfl,rfl⟩ (KeysOf.all J) rfl λd N M L=>⟨N,M,L⟩) ?_ λ_ _ e=>e);rintro⟨⟨⟩,d⟩ s' ⟨rfl,l,m,v⟩;have y:(arrOf d).Perm (lm c):=D9.mpr m;exact f d l.failed y (v.sortedTo (by rw[y.size_eq];lia))
def TR{g:KeyKind}(o:g.OneLt){d:List ai}(m:s.heap.get? a=aa (gf "list" d.toArray n))(p:KeysOf g (lm d)) (j:∀c b rest,d=c::b::rest->keyKind' (c::b::rest).toArray=pure oneType') (l:d.length<=1000000)(h:∀i:bN,(arrOf i).Perm (lm d)->SortedToK g (arrOf i) (lm d).size->F (.done (.ret .none)) {s with heap:=sortedHeap s.heap a d ((arrOf i).map (·.2))}):ar (aw P w) A (Builtin.«list.sort» ⟨[.ref a],[]⟩) F E s :=
 FN m p l (λr _ f=>⟨OneLt.ok o,λq=>by
  obtain⟨c,b,rest,rfl⟩:∃c b rest,d=c::b::rest:=by
   match d,f with
   |[],f=>simp at f
   |[_],f=>simp at f
   |c::b::rest,_=>lia
  rw[j _ _ _ rfl];exact aF q⟩) h
end
section
variable{A:aX}
def G1(x:ar (aw P w) A.in1 (collect v) (λd s1=>∃ss:List Str,cS d ss/\d.length<=1000000/\∀(i:aB) (out:Array ai) (f:List Str) (e:Nat),(∀b o,s1.heap.get? b=aa o->i.get? b=aa o) -> i.get? s1.heap.objs.size=aa (gf "list" out e)->cS out.toList f->f.Perm ss->sortedS f=ah->Q (.ref s1.heap.objs.size) {s1 with heap:=i}) E s):ar (aw P w) A (call (.builtin "sorted") [v]) Q E s:=by refine J5 kind_sorted plain_sorted entry_sorted (args_sorted1 _) ?_;unfold J7;refine aq (m:=checkCount "sorted" 1 1 _) (aF ?_);refine aq (aW x λd s1 ⟨ss,h,p,j⟩=>?_);refine aq (Dz ?_);have g:(s1.heap.push (gf "list" d.toArray 0)).get? s1.heap.objs.size=aa (gf "list" d.toArray 0):=cV _ rfl;refine aq (iQ (ll slot_list_sort ⟨_,g,rfl⟩ entry_list_sort (TR strKind_oneLt g h.keysOf (λa b c e=>keyKind_strs (by rw[<-e];exact h)) p λy r q=>⟨_,rfl,?_⟩) (args_list_sort _)));obtain⟨f,C,B,z⟩:=sorted_out_str h r q;obtain⟨e,u⟩:=sortedHeap_at (out:=(arrOf y).map (·.2)) g;refine aF ⟨_,rfl,j _ _ f e (λb o l=>?_) u C B z⟩;have n:b<s1.heap.objs.size:=bH l;rw[sortedHeap_old (dE n) (by rw[l0];exact wN n)];exact bL _ l
end
section
def Inv.sorted2{c:List Tx}{f:aB}(I:Inv X h g H s1)(j:ss=c.map tS)(q:c.length<=1000000)(k:∀b o,s1.heap.get? b=aa o->f.get? b=aa o) (r:f.get? s1.heap.objs.size=aa (gf "list" a e)) (p:cS a.toList d) (n:d.Perm ss) (m:sortedS d=ah):Inv X h g (upd H s1.heap.objs.size (.lst (cr (aT c)))) {s1 with heap:=f}:=by
 have l:d.map (λz=>z.cps.toList)=aT c:=by
  refine v7 ?_ (Jb m);have:=n.map λz=>z.cps.toList;rw[j,cT]at this;have s:(c.map ((λz:Str=>z.cps.toList) ∘ tS))=c:=by simp[l3,j8]
  lia
 have i:bG (cr (aT c)) a.toList:=by rw[<-l];exact B5 p
 refine I.laid (t':=s1.toks) k (bi _) ⟨?_,a.toList,e,i,?_⟩
 .rw[zo,zg];exact kI (sT ∅)
 simp_all
def sC:eG X (.builtin "sorted") (λxs H Q=>∃(p:af) (d:List Tx),xs=[.ref p]/\(cF X.K H p (cr d)\/cu X.K H p (cr d))/\d.length<=1000000/\∀l,H l=ae->Q (.ref l) (upd H l (.lst (cr (aT d))))):=by
 intro F s w H xs M Q I r h;obtain⟨p,d,rfl,f,B,q⟩:=h;obtain⟨u,rfl,x⟩:=vals1 r;cases x;have b:∀(T:String) (o:Obj) (a:List ai) (n:Nat),(T = "list"\/T = "tuple")->s.heap.get? p=aa o->o.cls=.type T->o.data=.seq a.toArray n->bG (cr d) a ->
   ar X.zz X.A (call (.builtin "sorted") [Value.ref p]) (EP X F w Q) X.xe s:=λT o a n E j i g c=>by
  have D:=c.length;rw[zo]at D;have m:=sT (n:=a.length) ∅;refine G1 (wpAny_collect_seq p E j i g (λN A=>?_) (by grind));have v:=I.kept (t':=s.toks) A;refine⟨_,uU c,by rw[Dw];lia,λO z P e k j L J G=>?_⟩;exact⟨.ref _,_,Inv.sorted2 v rfl B k j L J G,rfl,q _ v.fresh⟩
 rcases f with f|f
 .obtain⟨a,c,y,C⟩:=I.list f;obtain⟨o,e,i,n,g⟩:=y.isList;exact b "list" o a n (.inl rfl) e i g c
 .obtain⟨a,c,⟨o,e,i,n,g⟩,C⟩:=I.tuple f;exact b "tuple" o a n (.inr rfl) e i g c
end
end L2
namespace Pu
open L2
section
variable{X:Cx}{K:ax}
def jf:List PV->Option PO
 |[.lst xs]=>(fV xs).bind λls=>if ls.length<=1000000 then aa (.lst (am (aT ls)))else ae
 |[.tup xs]=>(fV xs).bind λls=>if ls.length<=1000000 then aa (.lst (am (aT ls)))else ae
 |_=>ae
def tU:lA K (λxs H Q=>∃(p:af) (b:List Tx),xs=[.ref p]/\(cF K H p (cr b)\/cu K H p (cr b))/\b.length<=1000000/\∀l,H l=ae->Q (.ref l) (upd H l (.lst (cr (aT b))))) jf:=λF H xs y Q n w m e q=>by
 have f:∀{g:List PV}{c:List V}{a:af},((fV g).bind λb=>if b.length<=1000000 then aa (PO.lst (am (aT b)))else ae)=aa n->a6 K H F g c->(cF K H a c\/cu K H a c) ->
   ∃(p:af) (b:List Tx),[V.ref a]=[.ref p]/\(cF K H p (cr b)\/cu K H p (cr b))/\b.length<=1000000/\∀l,H l=ae->Q (.ref l) (upd H l (.lst (cr (aT b)))):=λ{g c a} e d s=>by
  cases h:fV g with
  |none=>rw[h]at e;cases e
  |some b=>
   rw[h]at e;simp only[gz]at e;split at e
   .rename_i o;cases e;rw[uX h]at d;obtain⟨rfl,u⟩:=VB.mp d;refine⟨a,b,rfl,s,o,λl i=>q l F _ _ (Al.new0 i) (vx i (VB.mpr ⟨rfl,λx r=>u x ((fk b).mem_iff.mp r)⟩)) (vJ i w trivial)⟩
   .cases e
 unfold jf at e;split at e
 .obtain⟨v,rfl,a,c,rfl,j,_,d⟩:=gI m;exact f e d (.inl (.inl j))
 .obtain⟨v,rfl,a,c,rfl,j,d⟩:=gI m;exact f e d (.inr (cu.of j))
 .cases e
end
def sL(j i:Nat)(b:ai->Bool)(h:ac Slot)(l:ac aM):ac aM:=λg=>match h g with
 |.ok (.val pv) a=>.ok .next (a.set j (.val pv))
 |.ok _ _=>.no
 |.er c a=>if b c=ah/\i<a.length then(match l (a.set i (.val (.exc c)))with
  |.ok f d=>(match d[i]? with
   |some (.val _)=>.ok f (d.set i .none)
   |_=>.no)
  |_=>.no)else .no
 |.no=>.no
section
variable{X:Cx}{E:XK}{pin:List Nat}{e:aC}{r:ac aM}{G C A:Pos}{m n:Str}{D:af}{h:List bf}{l:bf}{d:ai->Bool}
def Ll(i:Nat)(hN:X.N.Nodup)(hD:X.mg m=aa (.ref D))(hE:qJ X.base D)(hcg:∀c,d c=ah->Under X.base D c)(hh:∀a,gD (hand X a) E0 pin (l::h) r)(dw:i∉pin:=by decide) (hi:X.N[i]?=aa n:=by rfl) (hl:X.env.scope.names.lookup n=aa .local:=by rfl) (hg:Gl X m:=by rfl) (hd:ad m:=by decide) (dG:X.stack=X.env::X.outer:=by rfl) (rY:X.env.frame=aa X.env.locals:=by rfl) (hf:av X n:=by mleft)(xp:XP X ag Z (λc I=>∃M P ε',aL X.K M P ε' Z I/\Grow (U S) (U P) F M H I/\d c=ah/\i<ε'.length/\gL X.K E pin Z F S H (match r (ε'.set i (.val (.exc c)))with
  |.ok f ε2=>(match ε2[i]? with
   |some (.val _)=>.ok f (ε2.set i .none)
   |_=>.no)
  |_=>.no) Dn) ev N) :
  ar X.zz X.A (zY ev X.env) (λ_ s₂=>ar X.zz X.A (wV ev ae) (λ_ s₃=>ar X.zz X.A (handleBy ev X.env [.ExceptHandler (aa (.Name m C)) (aa n) (l::h) A]) (SP X ag Dn) X.xe s₃) X.xe s₂) X.xe N:=by
 obtain⟨s0,H0,I0,a,T,c,W,rfl,ho,hg1,un,hok,fl,⟨fa,fT,na,nT⟩,F1,S1,ε1,rl1,g1,hcc,bn,y⟩:=xp;have I1:=I0.call' (s':=N) (ch:=[]) ho un hok hg1 (λb z=>absurd z (by simp));have kpI:∀{h2:aB}{Y:af->Prop}{T':af},Kp (fJ X.stack) Y N.heap h2->(∀b o,s0.heap.get? b=aa o->¬Y b)->(∀b,Y b->W b=ae)->lE h2 a T' c .none->∀tk,Inv X ag Z (upd W a (jD a c)) {N with heap:=h2,toks:=tk}:=λ{h2 Y T'} k hY1 hY2 f2 tk=>by
  refine I0.call' (s':={N with heap:=h2,toks:=tk}) (ch:=[]) ho ?_ (TL (BK hok k (λb hb=>I1.stkFree b hb) hY2) na f2) hg1 (λb z=>absurd z (by simp));have u2:=CJ un k (λb o _ z=>z) hY1 (λb hb=>I1.stkFree b hb);have na':∀b o,W b=aa o->b≠a:=λb o e=>kX e na;refine⟨u2.keep,u2.slot,λb o e n hx=>?_,u2.there,λb xs e=>?_,λb o u e=>?_,λb ps e=>?_⟩
  .rw[a8 (by rintro rfl;rw[fa]at e;cases e)];exact u2.free b o e n hx
  .have:=u2.tups b xs e;rw[a8 (na' b _ this)];exact this
  .have:=u2.frzs b o u e;rw[a8 (na' b _ this)];exact this
  .refine⟨by have:=(u2.tbls b ps e).1;rw[a8 (na' b _ this)];exact this,λc' o e2 g=>?_⟩;obtain⟨g1,e1⟩:=(u2.tbls b ps e).2 c' o e2 g;exact⟨g1,by rw[a8 (na' c' _ e1)];exact e1⟩
 have H1T:∀b,b=a\/b=T->W b=ae:=λb z=>by rcases z with rfl|rfl <;> assumption
 have old1:∀b o,s0.heap.get? b=aa o->¬(b=a\/b=T):=λb o e z=>by
  rcases z with hz|hz
  .rw[hz,fa]at e;cases e
  .rw[hz,fT]at e;cases e
 refine HA (outer:=X.outer) (by rw[I0.ok.frames,dG]) (by rw[<-dG];exact I1.stack) rY fl λh2 T' k fl2 fT'=>?_;rw[<-dG]at k;have I2:=kpI k old1 H1T fl2 N.toks;refine wpAny_handleBy_cons (codeAny_handlers_test ?_) (by intro z;cases z);have I2h:Inv (hand X a) ag Z (upd W a (jD a c)) {N with heap:=h2}:=Inv.hand I2;refine tY (X:=hand X a) I2h hg hD ?_ hd;obtain⟨oe,vs,oT,ts,uJ,Vq,_⟩:=id fl2;refine Ml (s:={N with heap:=h2}) ((hcg c hcc).keeps I2.bk) (hE.keeps I2.bk) uJ Vq ?_;show mL _ _ _ _ _;refine codeAny_handlers_suite_as (Tg (s:={N with heap:=h2}) fl2 λh3 k3 fl3=>?_);have k':Kp (fJ X.stack) (λb=>(b=a\/b=T)\/b=T') N.heap h3:=k.trans (k3.imp (λb z=>by simp at z) λb o _ z=>z);have I3:=kpI (T':=T') k' (λb o e z=>by
  rcases z with z|rfl
  .exact old1 b o e z
  .rw[tR un (Dd fT')]at e;cases e) (λb z=>by
  rcases z with z|rfl
  .exact H1T b z
  .exact I1.hok.fresh fT') fl3 N.toks
 have I3h:Inv (hand X a) ag Z (upd W a (jD a c)) {N with heap:=h3}:=Inv.hand I3;refine vV (X:=hand X a) (v:=.ref a) I3h hN hi (.inl hl) rfl (λs4 I4=>?_) hf;have al:Al F1 F1 W (upd W a (jD a c)):=Al.new0 na;have r2:=rl1.al al;have r3:=r2.set (i:=i) (pv:=.exc c) (v:=.ref a) ⟨a,rfl,upd_same⟩;have g3:Grow (U S) (U λj b=>S1 j b/\j≠i) F F1 H (upd W a (jD a c)):=(g1.trans al.grow).trans (Grow.less i);have less:∀{P:Nat->af->Prop}{M:af->Prop}{I:Hp},Grow (U P) (U λj b=>P j b/\j≠i) M M I I:=λ{P M I}=>Grow.less i;have pn:∀{q:St},iE pin (Z.set i (aa (.ref a))) q->iE pin Z (q.set i ae):=λ{q} p=>((iE.set dw).trans p).trans (iE.set dw);have okd:gL (hand X a).K E0 pin (Z.set i (aa (.ref a))) F1 (λj b=>S1 j b/\j≠i) (upd W a (jD a c)) (r (ε1.set i (.val (.exc c)))) {nx:=λq I=>Dn.nx (q.set i ae) I,rt:=Dn.rt,bk:=λq I=>Dn.bk (q.set i ae) I,ct:=λq I=>Dn.ct (q.set i ae) I}:=by
  cases ed:r (ε1.set i (.val (.exc c)))with
  |no=>rw[ed]at y;exact y.elim
  |er c' ε2=>rw[ed]at y;exact y.elim
  |ok f ε2=>
   rw[ed]at y;dsimp only at y;split at y
   .cases f with
    |next=>exact λM P q I r' g' p'=>y M _ _ I r'.unset ((g3.trans g').trans less) (pn p')
    |brk=>exact λM P q I r' g' p'=>y M _ _ I r'.unset ((g3.trans g').trans less) (pn p')
    |cont=>exact λM P q I r' g' p'=>y M _ _ I r'.unset ((g3.trans g').trans less) (pn p')
    |ret sl=>
     intro v M P q I Sr r' g' p' rv lo;refine y v M _ _ I Sr r'.unset ?_ (pn p') rv λb z=>⟨(lo b z).1,λ⟨j,w⟩=>(lo b z).2.1 ⟨j,w.1⟩,(lo b z).2.2⟩
     have gg:=g3.trans g';exact⟨gg.fro,gg.keep,gg.there,gg.fnew,λb z=>gg.onew b (z.imp (λ⟨j,w⟩=>⟨j,w.1⟩) id)⟩
   .exact y.elim
 refine fh ((hh a F1 _ _ _ _ _ r3 okd).run ag s4 I4) (λf s5 sp=>?_) λ_ _ z=>z.elim;have L:∀{J:St}{O:Hp}{Q:Unit->ao->Prop},Inv (hand X a) ag J O s5->(∀s6,Inv X ag (J.set i ae) O s6->Q () s6)->ar X.zz X.A (do bindName X.env n .none;unbindBehindTheSuite X.env n A) Q X.xe s5:=λ{J O Q} I5 hQ=>by
  have I5':=Inv.unhand I5 I0.ok;refine aq (wpAny_bindName (vV (v:=.non) I5' hN hi (.inl hl) rfl (λs6 I6=>?_) hf));unfold unbindBehindTheSuite;refine wpAny_onRaise ?_;have hiσ:i<J.length:=by rw[I5'.len];exact(cP.mp hi).1
  refine N3 I6 hN hi hl (eE hiσ) λs7 I7=>hQ s7 ?_;rw[List.set_set]at I7;exact I7
 cases f with
 |next=>obtain⟨J,O,I5,q5⟩:=sp;exact L I5 λs6 I6=>⟨_,O,I6,q5⟩
 |brk=>obtain⟨J,O,I5,q5⟩:=sp;exact L I5 λs6 I6=>⟨_,O,I6,q5⟩
 |cont=>obtain⟨J,O,I5,q5⟩:=sp;exact L I5 λs6 I6=>⟨_,O,I6,q5⟩
 |ret u=>obtain⟨v,J,O,I5,rv,q5⟩:=sp;exact L I5 λs6 I6=>⟨v,_,O,I6,rv,q5⟩
def Uo(j i:Nat){ap:Pos}(hN:X.N.Nodup)(hx:DX X e B)(hD:X.mg m=aa (.ref D))(hE:qJ X.base D)(T:∀c,d c=ah->Under X.base D c)(hh:∀a,gD (hand X a) E0 pin (l::h) r)(dw:i∉pin:=by decide) (hi:X.N[i]?=aa n:=by rfl) (hl:X.env.scope.names.lookup n=aa .local:=by rfl) (hg:Gl X m:=by rfl) (hd:ad m:=by decide) (dG:X.stack=X.env::X.outer:=by rfl) (rY:X.env.frame=aa X.env.locals:=by rfl) (hf:av X n:=by mleft) (O:j∉pin:=by decide) (hj:X.N[j]?=aa y:=by rfl) (P:Loc X.env.scope y:=by first|exact Or.inl rfl|exact Or.inr rfl)(N:jr e (aa (.Name y yp)) ap.line X.env=pure ak:=by rfl) (Q:av X y:=by mleft):DS X E pin (.Try [.Assign [.Name y yp] e ap] [.ExceptHandler (aa (.Name m C)) (aa n) (l::h) A] [] [] x) (sL j i d B r):=λF S Z J H Dn rl q=>Bx.mk λag s I=>by
 refine wpAny_Try_except ?_;have w:=hx F S Z J H (λv g=>Dn.nx (J.set j (aa v)) g) (λc g=>∃o z b,aL X.K o z b J g/\Grow (U S) (U z) F o H g/\d c=ah/\i<b.length/\gL X.K E pin J F S H (match r (b.set i (.val (.exc c)))with
  |.ok f p=>(match p[i]? with
   |some (.val _)=>.ok f (p.set i .none)
   |_=>.no)
  |_=>.no) Dn) rl (by
  unfold sL at q;cases Y:B Z with
  |no=>rw[Y]at q;exact q.elim
  |ok sl b=>
   rw[Y]at q;intro o z g M W v Sr rv fr;cases sl with
   |none=>exact q.elim
   |val pv=>exact q o _ _ g (M.set rv.1) (W.trans (Grow.less j)) (iE.set O)
   |own po=>exact q.elim
  |er c b=>
   rw[Y]at q;intro y o z g M W;dsimp only at q;by_cases L:d c=ah/\i<b.length
   .rw[if_pos L]at q;exact⟨o,z,b,M,W,L.1,L.2,q⟩
   .rw[if_neg L]at q;exact q.elim) ag s I
 refine JF (wpAny_Assign_Name (fh w (λu s1 ⟨v,H1,I1,r1,q1⟩=>?_) λev s1 xp=>?_) N)
 .refine vV I1 hN hj P r1 (λs2 I2=>?_) Q;exact wy (wy ⟨_,H1,I2,q1⟩)
 .exact Ll i hN hD hE T hh dw hi hl hg hd dG rY hf xp
end
end Pu
namespace L2
section
variable{X:Cx}
def PQ(w:X.calm=ah):eG X (.builtin "sorted") (λxs H Q=>∃(p:af) (a:List Tx),xs=[.ref p]/\H p=aa (pX X p a)/\a.length<4000/\∀l,H l=ae->Q (.ref l) (upd H l (.lst (cr (aT a))))):=by
 intro B s f H xs F Q I r h;obtain⟨p,a,rfl,o,G,q⟩:=h;obtain⟨u,rfl,i⟩:=vals1 r;cases i;obtain⟨S,_,_⟩:=(show cn X.prog X.w H s.heap p (pX X p a)from I.hok p _ o)
 refine G1 (PU (uV (I.ok.hd w)) S λg E ss D C M k z y=>?_);obtain⟨c,g',d',t',m⟩:=g;obtain rfl:g'=s.gens:=z;obtain rfl:m=s.os:=y;have d:Inv X B f H {s with heap:=c,drawn:=d',toks:=t'}:=by have:=Inv.call (ch:=[]) I (g':=s.gens) (d':=d') (t':=t') (Un.kept (fs:=fJ X.stack) (ex:=[]) k) (I.hok.kept k) I.bare (λb x=>absurd x (by simp));exact this
 refine⟨ss,D,∅,λJ j L e n v b1 b2 A=>?_⟩;exact⟨.ref _,_,Inv.sorted2 (s1:={s with heap:=c,drawn:=d',toks:=t'}) (ss:=a.map tS) d rfl ∅ n v b1 (b2.trans C) A,rfl,q _ d.fresh⟩
end
end L2
namespace Pu
open L2
section
variable{X:Cx}{d:List Nat}{e:aC}{m f:ac (List PV)}{p:Pos}
def RL(l:List Tx):(dZ l).Nodup:=by
 unfold dZ;have:∀(l n:List Tx),n.Nodup->(l.foldl (λks x=>if x∈ks then ks else ks++[x]) n).Nodup:=by
  intro l
  induction l with
  |nil=>exact λn h=>h
  |cons x l o=>grind
 exact this l [] ud
def M3(X:Cx):List V->Hp->VK->Prop:=λxs H Q=>∃(p:af) (h:List Tx),xs=[.ref p]/\H p=aa (pX X p h)/\h.length<4000/\∀l,H l=ae->Q (.ref l) (upd H l (.lst (cr (aT h))))
end
end Pu
namespace Mx
def Mn(p:Nat):∃o,5^(2^p)=1+2^(p+2)*(2*o+1):=by
 induction p with
 |zero=>exact⟨0,by decide⟩
 |succ p a=>
  obtain⟨o,h⟩:=a;refine⟨o+2^p*(2*o+1)*(2*o+1),?_⟩;rw[show 2^(p+1)=2^p*2 from Ah ..,Nat.pow_mul,h];rw[show(2:Nat)^(p+1+2)=8*2^p from by rw[Ai,Ah];lia,show(2:Nat)^(p+2)=4*2^p from by rw[Ai];lia];generalize 2^p=q
  grind
def F5:Nat->Nat->Nat
 |0,x=>x
 |n+1,x=>F5 n (5*x+1)
def L4(m n x:Nat):F5 (m+n) x=F5 n (F5 m x):=by
 induction m generalizing x with
 |zero=>simp[F5]
 |succ m a=>rw[Kn];exact a _
def Mo(n x:Nat):4*F5 n x+1=5^n*(4*x+1):=by
 induction n generalizing x with
 |zero=>simp[F5]
 |succ n a=>show 4*F5 n (5*x+1)+1=_;rw[a,Ah];grind
def TY(p x:Nat):∃o,F5 (2^p) x=x+2^p*(2*o+1):=by obtain⟨o,h⟩:=Mn p;have c:=Mo (2^p) x;rw[h,show(2:Nat)^(p+2)=4*2^p from by lia]at c;refine⟨o*(4*x+1)+2*x,?_⟩;lia
def IQ(p:Nat):∀x y,y<2^p->∃n,n<2^p/\F5 n x % 2^p=y:=by
 induction p with
 |zero=>lia
 |succ p f=>
  intro x y d;obtain⟨n,s,e⟩:=f x (y % 2^p) (n_ _ (Nat.two_pow_pos p));have h:(2:Nat)^(p+1)=2*2^p:=by lia
  obtain⟨o,j⟩:=TY p (F5 n x);have c:=Nat.two_pow_pos p;by_cases q:F5 n x % 2^(p+1)=y
  .grind
  .refine⟨n+2^p,∅,?_⟩;rw[L4,j];rw[h]at q d ⊢;generalize 2^p=N at *;generalize F5 n x=z at *;have m:z % (2*N) % N=z % N:=Nat.mod_mod_of_dvd _ ⟨2,∅⟩;have l:(z+N*(2*o+1)) % (2*N)=(z+N) % (2*N):=by rw[show z+N*(2*o+1)=(z+N)+(2*N)*o by grind,Nat.add_mul_mod_self_left]
   rw[l];have g:=n_ z (show 2*N > 0 by lia);have i:(z+N) % (2*N)=(z % (2*N)+N) % (2*N):=by simp_all
   rw[i];generalize z % (2*N)=u at *;rw[<-m]at e;have a:=Nat.div_add_mod u N;have b:=Nat.div_add_mod y N;have b1:u / N<2:=Nat.div_lt_of_lt_mul (by rw[D_];exact g);have b2:y / N<2:=Nat.div_lt_of_lt_mul (by rw[D_];exact d);rw[e]at a;generalize u / N=uq at a b1;generalize y / N=yq at b b2;have r:=n_ y c;rcases(show uq=0\/uq=1 by lia)with c1|c1 <;> rcases(show yq=0\/yq=1 by lia)with c2|c2 <;> subst c1 <;> subst c2 <;> simp only[Nat.mul_zero,Nat.mul_one,pD]at a b
   .exact absurd (a.symm.trans b) q
   .rw[Ea ∅];lia
   .rw[show u+N=y+2*N by lia,Nat.add_mod_right,Ea ∅]
   .exact absurd (a.symm.trans b) q
end Mx
namespace L2
open Mx
def fe(mask:Nat):Nat->Nat->Nat->Nat×Nat
 |0,i,p=>(i,p)
 |n+1,i,p=>fe mask n (mY mask i p).1 (mY mask i p).2
def A4(mask:Nat):∀(m n i p:Nat),fe mask (m+n) i p=fe mask n (fe mask m i p).1 (fe mask m i p).2
 |0,n,i,p=>by rw[pD];rfl
 |m+1,n,i,p=>by rw[Kn];exact A4 mask m n _ _
def Cb(mask:Nat):∀(m i p:Nat),(fe mask m i p).2=p / 32^m
 |0,i,p=>by simp[fe]
 |m+1,i,p=>by show(fe mask m _ _).2=_;rw[Cb mask m];show p / 32 / 32^m=_;rw[Nat.div_div_eq_div_mul,Ah,D_]
def B6(mask:Nat):∀(n i:Nat),(fe mask n i 0).1 % (mask+1)=F5 n i % (mask+1)
 |0,i=>rfl
 |n+1,i=>by show(fe mask n ((i*5+1+0 / 32) % (mask+1)) (0 / 32)).1 % _=F5 n (5*i+1) % _;rw[show 0 / 32=0 from rfl,B6 mask n,Nat.add_zero,D_ i 5];exact F5_mod n (mask+1) (5*i+1)
where
 F5_mod:∀(n N x:Nat),F5 n (x % N) % N=F5 n x % N
  |0,N,x=>by simp[F5]
  |n+1,N,x=>by show F5 n (5*(x % N)+1) % N=F5 n (5*x+1) % N;rw[<-F5_mod n N (5*(x % N)+1),<-F5_mod n N (5*x+1)];congr 2;rw[Nat.add_mod,Nat.mul_mod,Nat.mod_mod,<-Nat.mul_mod,<-Nat.add_mod]
def CT(mask:Nat):∀(n i p:Nat),(fe mask (n+1) i p).1<mask+1
 |0,i,p=>n_ _ (uu _)
 |n+1,i,p=>CT mask n _ _
def FJ{owner:Array (Option Nat)}:∀(a i p:Nat),(∃t,t<a/\(owner.getD (fe mask t i p).1 (aa 0)).isNone=ah)->∃j,rA mask owner a i p=aa j/\(owner.getD j (aa 0)).isNone=ah
 |0,i,p,⟨t,h,_⟩=>absurd h (og _)
 |a+1,i,p,⟨t,h,e⟩=>by
  unfold rA;cases q:(cJ (fM mask i+1-i)).find? (λk=>(owner.getD (i+k) (aa 0)).isNone)with
  |some k=>exact⟨i+k,rfl,by have:=List.find?_some q;exact this⟩
  |none=>
   cases t with
   |zero=>have:=List.find?_eq_none.mp q 0 (by rw[pf];unfold fM;split <;> lia);exact absurd (show(owner.getD (i+0) (aa 0)).isNone=ah from e) this
   |succ t=>exact FJ a _ _ ⟨t,∅,e⟩
def L8{owner:Array (Option Nat)}(a:mask+1=2^q)(c:owner.size=mask+1)(b:y<owner.size)(s:owner[y]?=aa ae)(i p:Nat)(d:p<2^64):∃j,rA mask owner (uv mask) i p=aa j/\owner[j]?=aa ae:=by
 obtain⟨n,r,e⟩:=IQ q (fe mask 13 i p).1 y (by rw[<-a,<-c];exact b);have g:(fe mask 13 i p).2=0:=by rw[Cb];exact Nat.div_eq_of_lt (gQ d (by decide))
 have m:(fe mask (13+n) i p).1<mask+1:=by rw[show 13+n=(12+n)+1 by lia];exact CT mask _ _ _
 have u:(fe mask (13+n) i p).1=y:=by
  have l:(fe mask (13+n) i p).1 % (mask+1)=y:=by rw[A4,g,B6,a];exact e
  rwa[Ea m]at l
 obtain⟨j,h,f2⟩:=FJ (mask:=mask) (owner:=owner) (uv mask) i p ⟨13+n,by unfold uv;lia,by simp_all⟩;refine⟨j,h,?_⟩;rw[Eb]at f2;cases f:owner[j]? with
 |none=>rw[f]at f2;cases f2
 |some o=>simp_all
def IR:∀(l:List (Option Nat)) (j k:Nat),l[j]?=aa ae->((l.set j (aa k)).filterMap id).Perm (k::l.filterMap id)
 |[],j,k,h=>by simp at h
 |x::l,0,k,h=>by simp at h;subst h;simp
 |x::l,j+1,k,h=>by
  have a:=IR l j k (~~~h);cases x with
  |none=>simpa using a
  |some v=>simp only[List.set_cons_succ,nW,id];exact(a.cons v).trans (List.Perm.swap ..)
def HH:∀(l:List (Option Nat)),(∀y,y<l.length->l[y]?≠aa ae)->(l.filterMap id).length=l.length
 |[],_=>rfl
 |x::l,h=>by
  have a:=HH l λy b e=>h (y+1) (by simp;lia) (~~~e);cases x with
  |none=>exact absurd rfl (h 0 (by simp))
  |some v=>simp[a]
def Laid(b:Nat)(a:Array (Option Nat))(k:Nat):Prop:=a.size=b+1/\(a.toList.filterMap id).Perm (cJ k)
def Ut(g:b+1=2^q)(L:Laid b a k)(n:k<b+1)(h:Int):∃j,rA b a (uv b) (fE h % (b+1)) (fE h)=aa j/\Laid b (a.setIfInBounds j (aa k)) (k+1):=by
 obtain⟨d,f⟩:=L;have:∃y,y<a.toList.length/\a.toList[y]?=aa ae:=by
  by_cases z:∃y,y<a.toList.length/\a.toList[y]?=aa ae
  .exact z
  .have:=HH a.toList λy c e=>z ⟨y,c,e⟩;have:=f.length_eq
   grind
 obtain⟨y,c,i⟩:=this;have l:fE h<2^64:=by unfold fE;lia
 obtain⟨j,m,f2⟩:=L8 g d (~~~c) (~~~i) (fE h % (b+1)) _ l;refine⟨j,m,~~~d,?_⟩;rw[Array.toList_setIfInBounds,rf];exact(IR a.toList j k (~~~f2)).trans ((f.cons k).trans (List.perm_append_singleton ..).symm)
section
def Inv.recast(I:Inv X f d H s)(e:H a=aa p)(N:∀xs,p≠.tup xs)(M:∀o u,X.H₀ a≠aa (.frz o u))(L:∀l,p≠.tbl l)(J:∀x,p≠.own x)(new:cn X.prog X.w (upd H a q) s.heap a q):Inv X f d (upd H a q) s:=by
 have i:∀b,H b=ae->(upd H a q) b=ae:=λb j=>by rw[a8 (by lia)];exact j
 refine⟨I.ok,I.os,I.bare,⟨I.base.keep,I.base.slot,λb o h n y=>i b (I.base.free b o h n y),I.base.there,λb xs h=>?_,λb o u h=>?_,λb l h=>?_⟩,I.loc,I.cell,i _ I.free,λx c h=>i _ (I.freeC x c h),λp A=>?_,λb u j=>?_,I.len⟩
 .have z:=I.base.tups b xs h;rw[a8 (by grind)];exact z
 .have z:=I.base.frzs b o u h;rw[a8 (by grind)];exact z
 .have z:=(I.base.tbls b l h).1;refine⟨by rw[a8 (by grind)];exact z,λc w C g=>?_⟩;obtain⟨B,D⟩:=(I.base.tbls b l h).2 c w C g;exact⟨B,by rw[a8 (by grind)];exact D⟩
 .obtain⟨G,F,E⟩:=I.pin p A;exact⟨G,i _ F,E⟩
 .by_cases m:b=a
  .subst m;rw[upd_same]at j;lia
  .rw[a8 m]at j;refine(I.hok b u j).stay (λc v _ r=>r) (λc r=>?_) λc xs r=>?_
   .rw[a8 (by grind)];exact r
   .rw[a8 (by grind)];exact r
def sj(o:Obj):Nat:=match o.data with
 |.dict _ ep=>ep
 |_=>0
end
end L2
namespace Pu
open L2
section
variable{X:Cx}{f:List Nat}{c:aC}{de db g:ac PV}
def nN(i:Nat):ac PV:=λa=>(aS (eD a i) a).bind λh a=>.ok (.int (h.length:Nat)) a
def Ix(i:Nat)(s:X.mg "len"=ae)(z:X.N[i]?=aa y:=by rfl)(B:ee X.env.scope y:=by eq_refl)(w:ad y:=by decide) (D:az y:=by decide) (v:Gl X "len":=by rfl)(m:aV [.Name y j] X.env=(ak,a9 (.Name y j) X.env)::aV [] X.env:=by rfl) (C:(c8 d (aV [] X.env)).any (·.1)=ak:=by rfl):DE X E (.Call (.Name "len" p) [.Name y j] [] d) (nN i):=λF S n G H Q r h=>by
 unfold nN at h;cases l:eD n i with
 |none=>rw[l]at h;exact h.elim
 |some q=>rw[l]at h;obtain⟨a,o,A,x,u,_⟩:=r.dkAt (mF l);refine cb (mH NO v s rfl (je (e_ z B w D) jE m) (by decide) (by decide) m C) ⟨_,A,a,o,rfl,x,?_⟩;rw[u.len];exact h F S H r (Grow.refl ..) _ rfl
def jA(neg:Bool)(i:Nat)(db:ac PV):ac PV:=λε=>(db ε).bind λk ε1=>(aS (eD ε1 i) ε1).bind λa ε1=>aS ((jC k).map λk=>.bl (neg^^(jz a k).isSome)) ε1
def Lj{i:Nat}(l:Bool){Q:VK}(M:DE X E b db)(I:aL X.K F S p j H)(h:Ok X.K E j F S H (jA l i db p) (λpv _ P _ B=>∀v,aN X.K B P pv v->Q v B)):gG X b j H λy m=>∃x,j[i]?=aa (aa x)/\∃a o,x=.ref a/\ny m a y o/\Q (.bl (l^^o.isSome)) m:=by
 unfold jA at h;refine M F S p j H _ I ((Ok.bind h).imp λk n C A m r T q u G=>?_);cases w:eD n i with
 |none=>rw[w]at q;exact q.elim
 |some J=>
  rw[w]at q;simp only[bS,R.bind_ok]at q;obtain⟨a,D,O,N,L,_⟩:=r.dkAt (mF w);cases s:jC k with
  |none=>rw[s]at q;exact q.elim
  |some z=>
   rw[s,wS]at q;rw[tN G s];refine⟨.ref a,O,a,j5 D z,rfl,ny.k N,?_⟩;rcases L.val z with⟨x,v,h1,h2,h3⟩|⟨h1,h2⟩
   .rw[h1]at q;rw[h2];exact q C A m r (Grow.refl ..) _ rfl
   .rw[h1]at q;rw[h2];exact q C A m r (Grow.refl ..) _ rfl
def BP(i:Nat){y:Str}{a:Pos}(w:X.A.units+64<cLine)(n:DE X E b db)(o:X.N[i]?=aa y:=by rfl)(p:ee X.env.scope y:=by eq_refl)(m:ad y:=by decide) (q:az y:=by decide) (l:qT .In (.Name y a)=ak:=by rfl):DT X E (.Compare b [.In] [.Name y a] d) (dB (jA ak i db)):=λF S u s H Q j h=>by refine wl (Tl (P4 ∅ bK (e_ o p m q)) l) ?_;have:=Lj (Q:=λv r=>∃k,v=.bl k/\Q k r) ak n j (u8 h);simp only[wY]at this;exact this
def qp(x:Str):tS x.cps.toList=x:=by simp[tS]
end
section
variable{g:List Nat}{e:aC}{de d a:ac PV}
def u_(d a:ac PV):ac PO:=λj=>(d j).bind λk i=>(a i).bind λy h=>(aS (jC k) h).bind λl h=>.ok (.dK [(l,y)]) h
def Om(hb:DE X E b d)(hc:DE X E c a):DN X E (.Dict [aa b] [c] f) (u_ d a):=λF S T L H Q x h=>by
 refine cb (Ms (Hg bK bK IK) rfl rfl (by simp) (by simp)) λp C=>?_;have al:Al F F H (upd H p (.dK [])):=Al.new0 C;have nF:¬F p:=λz=>by obtain⟨o,q⟩:=x.ex p z;lia
 have nS:¬U S p:=λ⟨i,z⟩=>by obtain⟨_,_,o,q,_⟩:=x.foot i p z;lia
 have D:Grow (U S) (U S) F F H (upd H p (.dK [])):=al.grow;refine hb F S T L _ _ (x.al al) ((Ok.bindB h D).imp λk r F1 S1 H1 M I h1 u W=>?_);obtain⟨e1,B,A⟩:=I.stay (upd_same:upd H p (.dK []) p=aa (.dK [])) nS nF;refine hc F1 S1 r L H1 _ M ((Ok.bindB h1 (D.trans I)).imp λy P O S2 H2 Z G n w s=>?_);obtain⟨N,l,j⟩:=G.stay e1 A B;cases J:jC k with
 |none=>rw[J]at n;exact n.elim
 |some m=>
  rw[J]at n;simp only[bS,R.bind_ok]at n;have v:aN X.K H2 O k u:=W.grow G M.fit;refine⟨N,[(m,w)],?_,by simp,?_⟩
  .rw[cR,zW,<-tN v J]
  .rw[show t4 [] [(m,w)]=[(m,w)] from rfl];obtain⟨gl,fit,Y⟩:=Z.lay (o':=.dK [(m,w)]) N trivial l j;have g3:=((D.trans I).trans G).lay (o':=.dK [(m,w)]) C;refine n O S2 _ Y g3 p (λb=>b=p) ⟨⟨_,upd_same,.cons ⟨rfl,s.grow gl fit⟩ .nil⟩,λb=>kN⟩ λb z=>?_;subst z;exact⟨C,l,j,_,upd_same,trivial⟩
end
end Pu
namespace L2
open Mx
def perm_mapE{g o:Type}{f:g->o}{l:List o}{m:List g}(h:l.Perm (m.map f)):∃d:List g,l=d.map f/\d.Perm m:=by
 generalize c:m.map f=mm at h
 induction h generalizing m with
 |nil=>simp_all
 |cons x _ w=>
  cases m with
  |nil=>cases c
  |cons y r=>rw[cR]at c;injection c with q n;obtain⟨d,e,p⟩:=w n;exact⟨y::d,by grind,p.cons y⟩
 |swap x y l=>
  match m,c with
  |a::b::r,c=>simp only[cR,mZ]at c;obtain⟨q,n,z⟩:=c;exact⟨b::a::r,by simp[q,n,z],.swap ..⟩
 |trans _ _ j i=>obtain⟨C,A,s⟩:=i c;obtain⟨v,B,u⟩:=j A.symm;exact⟨v,B,u.trans s⟩
def below_go{xs:Array Nat}(g:xs.toList.Pairwise (· < ·)):∀(f d c:Nat),c-d<=f->d<=c->c<=xs.size -> (∀i (h:i<xs.size),i<d->xs[i]<j)->(∀i (h:i<xs.size),c<=i->j<=xs[i]) -> uo xs j f d c<=xs.size/\(∀i (h:i<xs.size),i<uo xs j f d c->xs[i]<j)/\∀i (h:i<xs.size),uo xs j f d c<=i->j<=xs[i]
 |0,d,c,h,hl,hs,h1,h2=>by
  have:d=c:=∅
  subst this;exact⟨hs,h1,h2⟩
 |f+1,d,c,h,hl,hs,h1,h2=>by
  unfold uo;split
  .rename_i u;have s:(d+c) / 2<xs.size:=∅
   have mono:∀a b (n:a<xs.size) (m:b<xs.size),a<b->xs[a]<xs[b]:=λa b n m o=>by have:=ut.mp g a b (~~~n) (~~~m) o;simpa using this
   have q:xs.getD ((d+c) / 2) j=xs[(d+c) / 2]:=by simp_all
   dsimp only;rw[q];split
   .rename_i r;refine below_go g f _ _ ∅ ∅ hs (λi p l=>?_) h2;by_cases e:i=(d+c) / 2
    all_goals grind
   .rename_i r;refine below_go g f _ _ ∅ ∅ ∅ h1 (λi p l=>?_);by_cases e:i=(d+c) / 2
    all_goals grind
  grind
def below_ok{xs:Array Nat}(a:xs.toList.Pairwise (· < ·))(j:Nat):jO xs j<=xs.size/\(∀i (h:i<xs.size),i<jO xs j->xs[i]<j)/\∀i (h:i<xs.size),jO xs j<=i->j<=xs[i] :=below_go a xs.size 0 xs.size ∅ ∅ (bi _) (λi _ h=>absurd h (og _)) λi h b=>absurd h ∅
structure TOk(t:cx):Prop where
 dm:t.dummies=#[]
 ris:t.place.toList.Pairwise (· < ·)
 le:∀j∈t.place.toList,j<=t.mask
 sz:t.mask∈[7,31,127,511,2047,8191]
 roomy:t.place.size*5<t.mask*3
def TOk.pow(h:TOk t):∃q,t.mask+1=2^q:=by
 have:=h.sz;simp only[cC,ju,or_false]at this;rcases this with e|e|e|e|e|e <;> rw[e]
 .exact⟨3,rfl⟩
 .exact⟨5,rfl⟩
 .exact⟨7,rfl⟩
 .exact⟨9,rfl⟩
 .exact⟨11,rfl⟩
 .exact⟨13,rfl⟩
def TOk.most(h:TOk t):t.mask<=8191/\7<=t.mask/\t.mask % 2=1:=by
 have:=h.sz
 grind
def slot_of{t:cx}(l:t.dummies=#[])(a:t.place.toList.Pairwise (· < ·))(j:Nat):(j∉t.place.toList/\t.slot j=.empty)\/∃i,t.place[i]?=aa j/\t.slot j=.live i:=by
 obtain⟨o,b1,b2⟩:=below_ok a j;unfold SetTable.slot;dsimp only;by_cases b:t.place[jO t.place j]?=aa j
 .exact .inr ⟨_,b,by rw[b];simp⟩
 .refine .inl ⟨λf=>?_,?_⟩
  .obtain⟨i,g,e⟩:=om f;have c:i<t.place.size:= ~~~g
   have h:t.place[i]=j:= ~~~e
   have n:¬i<jO t.place j:=λz=>by grind
   have d:jO t.place j<t.place.size:=∅
   have m:=b2 _ d (bi _);have:jO t.place j=i:=by
    by_cases q:jO t.place j=i
    .exact q
    .have:=ut.mp a _ i (~~~d) (~~~c) ∅
     grind
   exact b (by rw[this,kf c,h])
  .rw[if_neg (~~~b),l];simp[SetTable.has]
def stp(a i p:Nat):kP:={j:=i,more:=fM a i-i,i:=i,perturb:=p,dummy:=ae}
def pth(t:cx):Nat->kP->kP
 |0,p=>p
 |n+1,p=>pth t n (t.advance p)
def pth_add(t:cx):∀(m n:Nat) (p:kP),pth t (m+n) p=pth t n (pth t m p)
 |0,n,p=>by rw[pD];rfl
 |m+1,n,p=>by rw[Kn];exact pth_add t m n _
def pth_succ(t:cx)(n:Nat)(p:kP):pth t (n+1) p=t.advance (pth t n p):=pth_add t n 1 p
def adv_dummy(t:cx)(p:kP):(t.advance p).dummy=p.dummy:=by unfold Ec;split <;> rfl
def pth_dummy(t:cx):∀(n:Nat) (p:kP),(pth t n p).dummy=p.dummy
 |0,p=>rfl
 |n+1,p=>(pth_dummy t n _).trans (adv_dummy t p)
def pth_mask{t a:cx}(h:t.mask=a.mask):∀(n:Nat) (p:kP),pth t n p=pth a n p
 |0,p=>rfl
 |n+1,p=>by
  have:t.advance p=a.advance p:=by unfold Ec;rw[h]
  show pth t n (t.advance p)=pth a n (a.advance p);rw[this,pth_mask h n]
def pth_run(t:cx):∀(k:Nat) (p:kP),k<=p.more->pth t k p={p with j:=p.j+k,more:=p.more-k}
 |0,p,_=>rfl
 |k+1,p,h=>by
  show pth t k (t.advance p)=_;have:t.advance p={p with j:=p.j+1,more:=p.more-1}:=by unfold Ec;lia
  rw[this,pth_run t k _ (by dsimp only;lia)];lia
def run_le(a i:Nat):fM a i-i<=9:=by unfold fM;split <;> lia
def pth_leap(t:cx)(i p:Nat):pth t (fM t.mask i-i+1) (stp t.mask i p)=stp t.mask (mY t.mask i p).1 (mY t.mask i p).2:=by rw[pth_succ,pth_run t (fM t.mask i-i) (stp t.mask i p) (bi _)];exact(if_neg (show ¬(fM t.mask i-i-(fM t.mask i-i) > 0) by lia)).trans rfl
def pth_orb(t:cx):∀(m i p:Nat),∃n,n<=10*m/\pth t n (stp t.mask i p)=stp t.mask (fe t.mask m i p).1 (fe t.mask m i p).2
 |0,i,p=>⟨0,bi _,rfl⟩
 |m+1,i,p=>by obtain⟨n,b,a⟩:=pth_orb t m (mY t.mask i p).1 (mY t.mask i p).2;refine⟨fM t.mask i-i+1+n,by have:=run_le t.mask i;lia,?_⟩;rw[pth_add,pth_leap];exact a
def nat_len_sub:∀{l m:List Nat},l.Nodup->(∀x∈l,x∈m)->l.length<=m.length
 |[],m,_,_=>jM _
 |x::l,m,b,h=>by
  have d:x∈m:=h x (j_ ..);have a:=kL.mp b;have:=nat_len_sub (l:=l) (m:=m.erase x) a.2 λy c=>by
   grind
  grind
def bits_lt(h:Int):fE h<2^64:=by unfold fE;lia
def pth_empty(ok:TOk t)(h:Int):∃n,n<=10*(t.mask+14)/\(pth t n (t.probeStart h)).j∉t.place.toList:=by
 obtain⟨q,p⟩:=ok.pow;have:∃y,y<t.mask+1/\y∉t.place.toList:=by
  by_cases z:∃y,y<t.mask+1/\y∉t.place.toList
  .exact z
  .have:=nat_len_sub (l:=cJ (t.mask+1)) (m:=t.place.toList) List.nodup_range λx j=>by
    grind
   have:=ok.roomy
   grind
 obtain⟨y,i,a⟩:=this;obtain⟨n,o,e⟩:=IQ q (fe t.mask 13 (fE h % (t.mask+1)) (fE h)).1 y ∅;have b:(fe t.mask 13 (fE h % (t.mask+1)) (fE h)).2=0:=by rw[Cb];exact Nat.div_eq_of_lt (gQ (bits_lt h) (by decide))
 have g:(fe t.mask (13+n) (fE h % (t.mask+1)) (fE h)).1<t.mask+1:=by rw[show 13+n=(12+n)+1 by lia];exact CT t.mask _ _ _
 have f:(fe t.mask (13+n) (fE h % (t.mask+1)) (fE h)).1=y:=by
  have d:(fe t.mask (13+n) (fE h % (t.mask+1)) (fE h)).1 % (t.mask+1)=y:=by rw[A4,b,B6];lia
  rwa[Ea g]at d
 obtain⟨k,r,c⟩:=pth_orb t (13+n) (fE h % (t.mask+1)) (fE h);refine⟨k,∅,?_⟩;show(pth t k (stp t.mask (fE h % (t.mask+1)) (fE h))).j∉_;rw[c];show(fe t.mask (13+n) _ _).1∉_;rw[f];exact a
def least{p:Nat->Prop}:∀(n:Nat),p n->∃m,m<=n/\p m/\∀k,k<m->¬p k
 |0,h=>⟨0,bi _,h,λk d=>absurd d (og _)⟩
 |n+1,h=>by
  by_cases z:∃m,m<=n/\p m/\∀k,k<m->¬p k
  .obtain⟨m,a,b,c⟩:=z;exact⟨m,∅,b,c⟩
  .refine⟨n+1,bi _,h,λk d f=>z ?_⟩;obtain⟨m,a,b,c⟩:=least k f
   grind
def go_met{t:cx}(j:t.dummies=#[])(b:t.place.toList.Pairwise (· < ·))(rD:Nat->Int)(h:Int):∀(d n:Nat) (p:kP),n<d->p.dummy=ae->(pth t n p).j∉t.place.toList->(∀k,k<n->(pth t k p).j∈t.place.toList) -> ((wZ t rD h d p=aa (.empty (pth t n p).j ae)/\∀k i,k<n->t.place[i]?=aa (pth t k p).j->t.slot (pth t k p).j=.live i->rD i≠h) \/ ∃m i,m<n/\t.place[i]?=aa (pth t m p).j/\t.slot (pth t m p).j=.live i/\rD i=h/\wZ t rD h d p=aa (.candidate (pth t m p).j i (pth t (m+1) p))/\∀k i,k<m->t.slot (pth t k p).j=.live i->rD i≠h)
 |0,n,p,hf,_,_,_=>absurd hf (og _)
 |d+1,0,p,hf,hd,he,_=>by
  left;refine⟨?_,λk i c=>absurd c (og _)⟩;rcases slot_of j b p.j with⟨_,e⟩|⟨i,e,_⟩
  .unfold wZ;rw[e,hd];rfl
  .exact absurd (kc (show t.place.toList[i]?=aa p.j by simpa using e)) he
 |d+1,n+1,p,hf,hd,he,hb=>by
  rcases slot_of j b p.j with⟨e,_⟩|⟨i,e1,e2⟩
  .exact absurd (hb 0 (uu _)) e
  .unfold wZ;rw[e2];dsimp only;by_cases g:rD i=h
   .right;refine⟨0,i,uu _,e1,e2,g,?_,λk i c=>absurd c (og _)⟩;rw[if_pos (~~~g)];rfl
   .rw[if_neg (~~~g)];rcases go_met j b rD h d n (t.advance p) ∅ ((adv_dummy t p).trans hd) he (λk c=>hb (k+1) ∅)with⟨g1,g2⟩|⟨m,a,g1,g2,g3,g4,g5,g6⟩
    .refine .inl ⟨g1,λk a c l f=>?_⟩;cases k with
     |zero=>
      have:a=i:=by have o:t.slot p.j=.live a:=f;lia
      lia
     |succ k=>exact g2 k a ∅ l f
    .refine .inr ⟨m+1,a,∅,g2,g3,g4,g5,λk a c f=>?_⟩;cases k with
     |zero=>
      have:a=i:=by have o:t.slot p.j=.live a:=f;lia
      lia
     |succ k=>exact g6 k a ∅ f
def ins_list(xs:Array a)(p:Nat)(x:a):(rg xs p x).toList=xs.toList.take p++x::xs.toList.drop p:=by unfold rg;simp[mW,ul,Array.toList_extract,List.extract,jN];exact pA (by simp)
def zip_ins{d c:Type}{a:List d}{b:List c}(h:a.length=b.length)(p:Nat)(x:d)(y:c)(q:d×c):q∈(a.take p++x::a.drop p).zip (b.take p++y::b.drop p)↔q=(x,y)\/q∈a.zip b:=by
 rw[List.zip_append (by simp[h]),lj,Ed,cC];have:a.zip b=(a.take p).zip (b.take p)++(a.drop p).zip (b.drop p):=by rw[<-List.zip_append (by simp[h]),l8,l8]
 grind
def Rch(t:cx)(a:List Nat)(j:Nat)(h:Int):Prop:=∃n,(pth t n (t.probeStart h)).j=j/\∀k,k<n->(pth t k (t.probeStart h)).j∈a
structure TPl(t:cx)(hs:List Int):Prop where
 ok:TOk t
 len:t.place.size=hs.length
 rch:∀q∈t.place.toList.zip hs,Rch t t.place.toList q.1 q.2
def put_ris{a:Array Nat}(b:a.toList.Pairwise (· < ·))(g:j∉a.toList):(rg a (jO a j) j).toList.Pairwise (· < ·):=by
 obtain⟨h,b1,b2⟩:=below_ok b j;rw[ins_list];have up:∀y∈a.toList.drop (jO a j),j<y:=λy c=>by
  obtain⟨k,f,e⟩:=om c
  grind
 have dn:∀x∈a.toList.take (jO a j),x<j:=λx d=>by
  obtain⟨k,f,e⟩:=om d
  grind
 refine List.pairwise_append.mpr ⟨b.sublist (List.take_sublist _ _),List.pairwise_cons.mpr ⟨up,b.sublist (List.drop_sublist _ _)⟩,λx d y c=>?_⟩
 grind
def Rch.up{t t':cx}(b:t.mask=t'.mask)(g:∀x∈c,x∈a)(r:Rch t c j h):Rch t' a j h:=by
 obtain⟨n,e,f⟩:=r;have d:t'.probeStart h=t.probeStart h:=by unfold SetTable.probeStart;rw[b]
 exact⟨n,by rw[d,<-pth_mask b];exact e,λk i=>by rw[d,<-pth_mask b];exact g _ (f k i)⟩
def put_tp(T:TPl t b)(h:Int)(p:(pth t n (t.probeStart h)).j∉t.place.toList)(r:∀k,k<n->(pth t k (t.probeStart h)).j∈t.place.toList)(m:(pth t n (t.probeStart h)).j<=t.mask):let t':=(t.put (pth t n (t.probeStart h)).j).1
  let d:=b.take (t.put (pth t n (t.probeStart h)).j).2++h::b.drop (t.put (pth t n (t.probeStart h)).j).2
  t'.dummies=#[]/\t'.place.toList.Pairwise (· < ·)/\(∀j∈t'.place.toList,j<=t'.mask)/\t'.mask=t.mask/\t'.place.size=t.place.size+1/\d.length=b.length+1 /\
   ∀q∈t'.place.toList.zip d,Rch t' t'.place.toList q.1 q.2:=by
 intro t' d;have g:t'.place.toList=t.place.toList.take (jO t.place (pth t n (t.probeStart h)).j)++(pth t n (t.probeStart h)).j::t.place.toList.drop (jO t.place (pth t n (t.probeStart h)).j):=ins_list _ _ _;have a:∀x,x∈t'.place.toList↔x=(pth t n (t.probeStart h)).j\/x∈t.place.toList:=λx=>by
  rw[g,lj,cC];have:=congrArg (x∈·) (l8 (jO t.place (pth t n (t.probeStart h)).j) t.place.toList)
  grind
 have i:t'.mask=t.mask:=rfl;have s:t.place.toList.length=b.length:=by have:=T.len;simpa using this
 refine⟨?_,put_ris T.ok.ris p,λj f=>?_,rfl,?_,?_,λq c=>?_⟩
 .show(if SetTable.has t.dummies _ then _ else t.dummies)=#[];rw[T.ok.dm];simp[SetTable.has]
 .rcases(a j).mp f with rfl|f
  .exact m
  .exact T.ok.le j f
 .rw[<-iP,g];simp;lia
 .grind
 .rw[g]at c;rcases(zip_ins s _ _ _ q).mp c with rfl|c
  .exact⟨n,by rw[pth_mask i];rfl,λk o=>by rw[pth_mask i];exact(a _).mpr (.inr (r k o))⟩
  .exact(T.rch q c).up i.symm λx l=>(a x).mpr (.inr l)
def adv_le{t:cx}{p:kP}(h:p.j+p.more<=t.mask):(t.advance p).j+(t.advance p).more<=t.mask:=by
 unfold Ec;split
 .dsimp only;lia
 .show(mY t.mask p.i p.perturb).1+(fM t.mask (mY t.mask p.i p.perturb).1-(mY t.mask p.i p.perturb).1)<=t.mask;have:(mY t.mask p.i p.perturb).1<t.mask+1:=n_ _ (uu _);generalize (mY t.mask p.i p.perturb).1=i at *;unfold fM;split <;> lia
def pth_le{t:cx}:∀(n:Nat) {p:kP},p.j+p.more<=t.mask->(pth t n p).j+(pth t n p).more<=t.mask
 |0,p,h=>h
 |n+1,p,h=>pth_le n (adv_le h)
def stp_le(h:i<a+1):(stp a i p).j+(stp a i p).more<=a:=by show i+(fM a i-i)<=a;unfold fM;split <;> lia
def start_le(t:cx)(h:Int)(n:Nat):(pth t n (t.probeStart h)).j<=t.mask:=by have:=pth_le (t:=t) n (p:=t.probeStart h) (stp_le (p:=fE h) (n_ (fE h) (uu t.mask)));lia
def Occ(a:Array (Option Nat))(j:Nat):Prop:=∃k,a[j]?=aa (aa k)
def free_path(t:cx){a:Array (Option Nat)}(s:a.size=t.mask+1):∀(f i p j:Nat),i<t.mask+1->rA t.mask a f i p=aa j -> ∃n,(pth t n (stp t.mask i p)).j=j/\∀k,k<n->Occ a (pth t k (stp t.mask i p)).j
 |0,i,p,j,_,h=>by unfold rA at h;cases h
 |f+1,i,p,j,hi,h=>by
  have c:∀k,k<=fM t.mask i-i->(a.getD (i+k) (aa 0)).isNone=ak->Occ a (i+k):=λk d e=>by
   have r:i+k<a.size:=by have:=stp_le (p:=p) hi;have:i+(fM t.mask i-i)<=t.mask:=this;lia
   rw[Eb,kf r]at e;unfold Occ;rw[kf r];cases q:a[i+k]with
   |none=>grind
   |some v=>lia
  have b:∀k,k<=fM t.mask i-i->(pth t k (stp t.mask i p)).j=i+k:=λk d=>by rw[pth_run t k (stp t.mask i p) d];rfl
  unfold rA at h;cases q:(cJ (fM t.mask i+1-i)).find? (λk=>(a.getD (i+k) (aa 0)).isNone)with
  |some k=>
   rw[q]at h;cases h;obtain⟨_,g,bs,o,A⟩:=List.find?_eq_some_iff_append.mp q;have d:k<fM t.mask i+1-i:=pf.mp (List.mem_of_find?_eq_some q);refine⟨k,b k ∅,λm x=>?_⟩;rw[b m ∅];refine c m ∅ ?_;have:m∈g:=by
    have y:g.length=k:=by have:=congrArg (λl=>l[g.length]?) o;simp only[JN (bi _),Nat.sub_self,D6]at this;rw[cP]at this;obtain⟨z,e⟩:=this;rw[List.getElem_range]at e;exact e
    have:=congrArg (λl=>l[m]?) o;rw[wC ∅,Dt ∅]at this;exact kc this.symm
   grind
  |none=>
   rw[q]at h;obtain⟨n,w,f2⟩:=free_path t s f _ _ j (n_ _ (uu _)) h;refine⟨fM t.mask i-i+1+n,by rw[pth_add,pth_leap];exact w,λk d=>?_⟩;by_cases u:k<fM t.mask i-i+1
   .rw[b k ∅];refine c k ∅ ?_;have:=List.find?_eq_none.mp q k (pf.mpr (by unfold fM at u ⊢;lia));exact D5.mpr this
   .have e:k=fM t.mask i-i+1+(k-(fM t.mask i-i+1)):=∅
    rw[e,pth_add,pth_leap];exact f2 _ ∅
def LaidR(t:cx)(a:Array (Option Nat))(b:List Int):Prop:=∀(j k:Nat),a[j]?=aa (aa k)->∃h,b[k]?=aa h/\∃n,(pth t n (t.probeStart h)).j=j/\∀m,m<n->Occ a (pth t m (t.probeStart h)).j
def layClean_ok2(t:cx)(y:t.mask+1=2^q)(f:Array Int)(G:f.size<=t.mask):∃a,DD t.mask f=aa a/\Laid t.mask a f.size/\LaidR t a f.toList:=by
 unfold DD;have i:∀(l b:List Int) (a:Array (Option Nat)),Laid t.mask a b.length->LaidR t a b->b.length+l.length<=t.mask+1->∃c,l.foldl (λF h=>do
   let (a,k) <-F
   let j <-rA t.mask a (uv t.mask) (fE h % (t.mask+1)) (fE h)
   pure (a.setIfInBounds j (aa k),k+1)) (aa (a,b.length))=aa (c,(b++l).length)/\Laid t.mask c (b++l).length/\LaidR t c (b++l):=by
  intro l
  induction l with
  |nil=>intro b a L R _;rw[ix];exact⟨a,rfl,L,R⟩
  |cons h l w=>
   intro b a L R z;simp only[gR]at z;obtain⟨j,C,L2⟩:=Ut y L ∅ h;obtain⟨n,p,s⟩:=free_path t L.1 _ _ _ _ (n_ _ (uu _)) C;have A:j<a.size:=by rw[L.1,<-p];exact Nat.lt_succ_of_le (start_le t h n)
   have grow:∀x,Occ a x->Occ (a.setIfInBounds j (aa b.length)) x:=λx ⟨k,e⟩=>by
    unfold Occ;rw[Array.getElem?_setIfInBounds];by_cases d:j=x
    .rw[if_pos d,if_pos ∅];exact⟨_,rfl⟩
    .rw[if_neg d];exact⟨k,e⟩
   have R2:LaidR t (a.setIfInBounds j (aa b.length)) (b++[h]):=λx k e=>by
    rw[Array.getElem?_setIfInBounds]at e;by_cases d:j=x
    .subst d;rw[if_pos rfl,if_pos ∅]at e;cases e;exact⟨h,by simp,n,p,λm g=>grow _ (s m g)⟩
    .rw[if_neg d]at e;obtain⟨B,r,u,E,D⟩:=R x k e;have v:k<b.length:=(cP.mp r).1;exact⟨B,by rw[wC v];exact r,u,E,λm g=>grow _ (D m g)⟩
   have o:Laid t.mask (a.setIfInBounds j (aa b.length)) (b++[h]).length:=by rw[iT];exact L2
   obtain⟨c,e,I,H⟩:=w (b++[h]) _ o R2 (by simp;lia);simp_all
 obtain⟨c,e,L,R⟩:=i f.toList [] (Array.replicate (t.mask+1) ae) ⟨by simp,by simp⟩ (λj k e=>by
  rw[Array.getElem?_replicate]at e;split at e <;> cases e) (by simp;lia)
 grind
def laid_tp(finger moves:Nat)(led plain:Bool)(P:mask+1=2^q)(M:mask∈[7,31,127,511,2047,8191])(b:Array (Int×ai))(O:b.size*5<mask*3):∃t c,DC mask finger moves led plain (b.map (·.1))=aa (t,c)/\t.led=led/\t.plain=plain/\t.mask=mask/\t.moves=moves/\(c.filterMap (b[·]?)).toList.Perm b.toList/\TPl t ((c.filterMap (b[·]?)).toList.map (·.1)):=by
 let t0:cx:={mask:=mask,place:=#[],dummies:=#[],finger:=finger,led:=led,moves:=moves,plain:=plain}
 obtain⟨a,e,L,R⟩:=layClean_ok2 t0 (q:=q) P (b.map (·.1)) (by grind)
 let live:=(cJ (mask+1)).filterMap λj=>(a.getD j ae).map (j,·)
 let t:cx:={mask:=mask,place:=(live.map (·.1)).toArray,dummies:=#[],finger:=finger,led:=led,moves:=moves,plain:=plain}
 have W:DC mask finger moves led plain (b.map (·.1))=aa (t,(live.map (·.2)).toArray):=by unfold DC;have Z:DD mask (b.map (·.1))=aa a:=e;rw[Z];rfl
 have g:∀x:Nat×Nat,x∈live↔x.1<mask+1/\a[x.1]?=aa (aa x.2):=λx=>by
  show x∈(cJ (mask+1)).filterMap _↔_;rw[JH];constructor
  .rintro⟨j,v,e⟩;have u:j<a.size:=by rw[L.1];exact pf.mp v
   rw[Eb,kf u]at e;simp only[Option.getD_some,mO]at e;obtain⟨k,Y,rfl⟩:=e;exact⟨pf.mp v,by rw[kf u,Y]⟩
  .rintro⟨F,E⟩;exact⟨x.1,pf.mpr F,by simp_all⟩
 have X:live.map (·.2)=a.toList.filterMap id:=by
  show((cJ (mask+1)).filterMap _).map _=_;rw[Kd];have:a.toList=(cJ (mask+1)).map λj=>a.getD j ae:=by
   refine pC λi=>?_;rw[d8];by_cases B:i<mask+1
   .rw[Dt B];simp[Eb,show i<a.size by rw[L.1];exact B]
   .rw[oh (by rw[iP,L.1];lia),oh (~~~B)];rfl
  rw[this,zT];refine fm_congr' λj _=>?_;show Option.map (λx=>x.snd) (Option.map (λx=>(j,x)) (a.getD j ae))=a.getD j ae;cases a.getD j ae <;> rfl
 have d:(live.map (·.2)).Perm (cJ b.size):=by rw[X];have:=L.2;simpa using this
 have bn:∀k∈live.map (·.2),k<b.size:=λk A=>pf.mp (d.mem_iff.mp A);have s:∀l:List (Nat×Nat),(∀x∈l,x.2<b.size)->((l.map (·.2)).filterMap (b[·]?)).map (·.1)=l.map λx=>((b[x.2]?).map (·.1)).getD 0:=by
  intro l
  induction l with
  |nil=>intro _;rfl
  |cons x r ih=>grind
 have G:∀x∈live,x.2<b.size:=λx f=>bn _ (b8.mpr ⟨x,f,rfl⟩);have o:(((live.map (·.2)).toArray).filterMap (b[·]?)).toList=(live.map (·.2)).filterMap (b[·]?):=by simp
 have J:((live.map (·.2)).filterMap (b[·]?)).Perm b.toList:=by have:=d.filterMap (b[·]?);rwa[filterMap_getElem?_range]at this
 have p:live.length=b.size:=by have:=d.length_eq;simpa using this
 have z:∀x,Occ a x->x∈t.place.toList:=λx ⟨k,A⟩=>by
  show x∈(live.map (·.1)).toArray.toList;have f:x<mask+1:=by have:=(mQ.mp A).1;rw[L.1]at this;exact this
  simp_all
 refine⟨t,_,W,rfl,rfl,rfl,rfl,by rw[o];exact J,⟨⟨rfl,?_,λj v=>?_,M,?_⟩,?_,λx f=>?_⟩⟩
 .show(live.map (·.1)).Pairwise (· < ·);have w:(live.map (·.1)).Sublist (cJ (mask+1)):=by show(((cJ (mask+1)).filterMap _).map _).Sublist _;rw[Kd];refine fm_sub _ λj k e=>?_;simp_all
  exact List.pairwise_lt_range.sublist w
 .have u:j∈live.map (·.1):=v;obtain⟨x,f,rfl⟩:=b8.mp u;exact Nat.le_of_lt_succ ((g x).mp f).1
 .show(live.map (·.1)).toArray.size*5<mask*3;simp[p];exact O
 .rw[o];show(live.map (·.1)).toArray.size=_;rw[s live G];simp
 .rw[o,s live G]at f;have D:x∈(live.map (·.1)).zip (live.map λx=>((b[x.2]?).map (·.1)).getD 0):=f;rw[List.zip_map']at D;obtain⟨y,N,rfl⟩:=b8.mp D;obtain⟨F,E⟩:=(g y).mp N;obtain⟨h,T,n,S,Q⟩:=R _ _ E;have C:((b[y.2]?).map (·.1))=aa h:=by have:(b.map (·.1)).toList[y.2]?=aa h:=T;simpa using this
  show Rch t t.place.toList y.1 (((b[y.2]?).map (·.1)).getD 0);rw[C];have H:t0.mask=t.mask:=rfl;refine Rch.up (t:=t0) H (λx f=>f) ⟨n,S,λm I=>z _ (Q m I)⟩
where
 fm_congr' {α β:Type}{f g:α->Option β}:∀{l:List α},(∀k∈l,f k=g k)->l.filterMap f=l.filterMap g
  |[],_=>rfl
  |x::l,h=>by rw[nW,nW,h x (j_ ..),fm_congr' λk hk=>h k (iu _ hk)]
 fm_sub {f:Nat->Option Nat}:∀(l:List Nat),(∀j k,f j=aa k->k=j)->(l.filterMap f).Sublist l
  |[],_=>.slnil
  |x::l,h=>by
   rw[nW];cases q:f x with
   |none=>exact(fm_sub l h).cons _
   |some k=>rw[h x k q];exact(fm_sub l h).cons₂ _
section
variable{P:aQ}{w:aJ}{A:aX}{E:ai->ao->Prop}{s:ao}
structure Keyd(P:aQ)(w:aJ)(K:Type)[DecidableEq K] where
 is:aB->K->ai->Prop
 hash:K->Int
 room:aX->Prop
 keep:∀{h h':aB}{k:K}{v:ai},is h k v->(∀b o,h.get? b=aa o->o.cls=.type "tuple"->h'.get? b=aa o)->is h' k v
 ref:∀{h:aB}{k:K}{v:ai},is h k v->∃a o,v=.ref a/\h.get? a=aa o
 eqBool:∀{A:aX}{E:ai->ao->Prop}{s:ao}{x y:K}{u v:ai}{Q:Bool->ao->Prop},room A->is s.heap x u->is s.heap y v->Q (decide (x=y)) s->ar (aw P w) A (PySem.eqBool u v) Q E s
 quiet:∀{A:aX}{E:ai->ao->Prop}{s:ao}{k:K}{v:ai}{Q:Bool->ao->Prop},is s.heap k v->Q ah s->ar (aw P w) A (w6 8 v) Q E s
 cls:∀{A:aX}{E:ai->ao->Prop}{s:ao}{k:K}{v:ai}{Q:Bool->ao->Prop},is s.heap k v->Q ak s->ar (aw P w) A (w8 8 v) Q E s
 hbv:∀{A:aX}{E:ai->ao->Prop}{s:ao}{k:K}{v:ai}{Q:Bool->ao->Prop},is s.heap k v->Q ak s->ar (aw P w) A (uw 8 v) Q E s
variable{K:Type}[DecidableEq K]{kd:Keyd P w K}
def Els(kd:Keyd P w K)(h:aB)(a:List (Int×ai))(ks:List K):Prop:=a.length=ks.length/\∀q∈a.zip ks,q.1.1=kd.hash q.2/\kd.is h q.2 q.1.2
def seen_not(h:kd.is s.heap k x):∀(d:List ai),(∀y∈d,∃k,kd.is s.heap k y)->∀{Q:Bool->ao->Prop},Q ak s->ar (aw P w) A (Ko x d) Q E s:=by
 intro d m Q q;unfold Ko;refine aq ?_;refine w_ _ (λrest r f=>r.1=ae/\f=s/\∀y∈rest,∃k,kd.is s.heap k y) _ ?_ ?_ _ _ ⟨rfl,rfl,m⟩
 .rintro y rest r f ⟨i,rfl,j⟩;obtain⟨v,c⟩:=j y j_;have next:∀z,z=(ForInStep.yield ((ae:Option Bool),()):ForInStep (Option Bool×Unit))->(∃l,z=ForInStep.yield l/\l.1=ae):=λz e=>⟨_,e,rfl⟩
  obtain⟨a,o,rfl,B⟩:=kd.ref h;obtain⟨b,u,rfl,C⟩:=kd.ref c;dsimp only;split
  .exact aF ⟨rfl,rfl,λz g=>j z (iu _ g)⟩
  .refine aq (kd.quiet h ?_);simp only[rE,fi,if_false];refine aq (kd.quiet c ?_);simp only[rE,fi,if_false];refine aq (kd.cls h ?_);simp only[fi,if_false];refine aq (kd.cls c ?_);simp only[fi,if_false];exact aF ⟨rfl,rfl,λz g=>j z (iu _ g)⟩
 .rintro⟨p,n⟩ f ⟨i,rfl,_⟩;simp only at i;subst i;exact aF q
def search_eq(a:af)(x:ai)(h:Int)(b:Bool)(l:Nat)(c:Option kP):ux a x h b (l+1) c=(do
  let (es,_,t) <-setState a
  if t.gaveWay then l6 "set:on-a-table-that-gave-way"
  let aa met:=t.probe (λi=>(es[i]?.map (·.1)).getD 0) h (c.getD (t.probeStart h))|l6 "internal:set-table-without-an-empty-slot"
  match met with
  |.empty j f=>
   match f with
   |none=>return .free j ak
   |some d=>
    if b&&t.slot d != .dummy then rule "set.search.the-dummy-was-taken";return <-ux a x h b l ae
    return .free d ah
  |.candidate j i next=>
   if !t.led then
    if <-Ko x ((es.filter (·.1 == h)).toList.map (·.2))then l6 "set:the-search-would-show-the-table"
   let aa (_,y):=es[i]?|l6 "internal:set-entry"
   let equal <-kb [y] (eqBool y x)
   let (es',_,t') <-setState a
   if b&&equal then return .there ae
   let aa same:=t'.sameMemory t.moves t.mask|l6 "set.changed-during-lookup:is-the-new-block-at-the-old-address"
   let still <-match (if same then t'.slot j else .empty)with
    |.live g=>match es'[g]? with
     |some (_,m)=>do pure (if <-isSame m y then aa g else ae)
     |none=>pure ae
    |_=>pure ae
   match still with
   |none=>rule "set.search.anew";ux a x h b l ae
   |some g=>if equal then return .there (aa g)else ux a x h b l (aa next)):=rfl
def same_self(h:s.heap.get? a=aa o)(q:Q ah s):ar (aw P w) A (isSame (.ref a) (.ref a)) Q E s:=by unfold isSame;dsimp only;rw[if_pos (by simp)];exact aF q
def live_at(ok:TOk t)(a:i<t.place.size):t.slot t.place[i]=.live i:=by
 rcases slot_of ok.dm ok.ris t.place[i]with⟨e,_⟩|⟨i',e1,e2⟩
 .exact absurd (by simp) e
 .rw[e2];obtain⟨b,c⟩:=mQ.mp e1;have:i'=i:=by
   rcases Nat.lt_trichotomy i' i with z|z|z
   .have:=ut.mp ok.ris i' i (~~~b) (~~~a) z;simp at this;lia
   .exact z
   .have:=ut.mp ok.ris i i' (~~~a) (~~~b) z;simp at this;lia
  rw[this]
def searchV(hr:kd.room A)(M:s.heap.get? a=aa {cls:=.type "set",dict:=ae,data:=.set d ep t})(S:t.fits d.size=ah)(T:TPl t (d.toList.map (·.1))) (f:Els kd s.heap d.toList ks) (I:kd.is s.heap k x) (he:(pth t N (t.probeStart (kd.hash k))).j∉t.place.toList) (hb:∀m,m<N->(pth t m (t.probeStart (kd.hash k))).j∈t.place.toList) (hN:N<10*(t.mask+15)) (q1:k∈ks->Q (.there ae) s) (q2:k∉ks->Q (.free (pth t N (t.probeStart (kd.hash k))).j ak) s):∀(r m:Nat) (c:Option kP),N-m<r->m<=N->c.getD (t.probeStart (kd.hash k))=pth t m (t.probeStart (kd.hash k)) -> (∀j i g,j<m->t.slot (pth t j (t.probeStart (kd.hash k))).j=.live i->ks[i]?=aa g->g≠k)->ar (aw P w) A (ux a x (kd.hash k) ah r c) Q E s
 |0,m,c,h,_,_,_=>absurd h (og _)
 |r+1,m,c,h1,h2,h3,h4=>by
  rw[search_eq];refine aq (l4 M rfl S ?_);dsimp only;have hg:t.gaveWay=ak:=by unfold SetTable.gaveWay;have:=T.ok.most.2.2;simp[this]
  rw[hg];simp only[fi,if_false];have dG:∀i j,t.place[i]?=aa j->∃(q:Int×ai) (g:K),d[i]?=aa q/\ks[i]?=aa g/\q.1=kd.hash g/\kd.is s.heap g q.2:=λi j hi=>by
   have bn:i<d.size:=by
    have:=(mQ.mp hi).1;have:=T.len
    grind
   have v:i<ks.length:=by have:=f.1;grind
   refine⟨d[i],ks[i],kf bn,d9 v,?_⟩;exact f.2 (d[i],ks[i]) (kc (i:=i) (by rw[Ac];exact⟨by simp[bn],by simp[v]⟩))
  rcases go_met T.ok.dm T.ok.ris (λi=>((d[i]?).map (·.1)).getD 0) (kd.hash k) (10*uv t.mask) (N-m) (pth t m (t.probeStart (kd.hash k))) (by unfold uv;lia) (pth_dummy t m _)
    (by rw[<-pth_add,show m+(N-m)=N by lia];exact he) (λj hj=>by rw[<-pth_add];grind)with⟨g1,g2⟩|⟨n,i,g1,g2,g3,g4,g5,g6⟩
  .have e1:t.probe (λi=>((d[i]?).map (·.1)).getD 0) (kd.hash k) (c.getD (t.probeStart (kd.hash k)))=aa (.empty (pth t N (t.probeStart (kd.hash k))).j ae):=by
    rw[h3];show wZ t _ _ _ _=_;rw[g1,<-pth_add,show m+(N-m)=N by lia]
   rw[e1];refine aF (q2 λG=>?_);obtain⟨i,hi,ek⟩:=om G;have o:i<t.place.size:=by have:=T.len;have:=f.1;simp at *;lia
   obtain⟨q,g,D,Z,Y,X⟩:=dG i _ (kf o);have W:g=k:=by grind
   subst W;obtain⟨n,H,r2⟩:=T.rch (t.place[i],q.1) (kc (i:=i) (by rw[Ac];exact⟨by simp[o],by rw[d8,rj,D];rfl⟩));rw[Y]at H r2;have i6:t.place[i]∈t.place.toList:=by simp
   have hnN:n<N:=by
    grind
   have uK:t.slot (pth t n (t.probeStart (kd.hash g))).j=.live i:=by rw[H];exact live_at T.ok o
   by_cases C:n<m
   .exact h4 n i g C uK Z rfl
   .have:=g2 (n-m) i ∅ (by rw[<-pth_add,show m+(n-m)=n by lia,H];exact kf o) (by rw[<-pth_add,show m+(n-m)=n by lia];exact uK);exact this (by rw[D];exact Y)
  .rw[<-pth_add]at g2 g3;have e1:t.probe (λi=>((d[i]?).map (·.1)).getD 0) (kd.hash k) (c.getD (t.probeStart (kd.hash k)))=aa (.candidate (pth t (m+n) (t.probeStart (kd.hash k))).j i (pth t (m+n+1) (t.probeStart (kd.hash k)))):=by rw[h3];show wZ t _ _ _ _=_;rw[g5,<-pth_add,<-pth_add,Nat.add_assoc]
   rw[e1];dsimp only;obtain⟨q,g,D,Z,Y,X⟩:=dG i _ g2;have rest:ar (aw P w) A (do
     let aa (_,y):=d[i]?|l6 "internal:set-entry"
     let equal <-kb [y] (PySem.eqBool y x)
     let (es',_,t') <-setState a
     if ah&&equal then return .there ae
     let aa same:=t'.sameMemory t.moves t.mask|l6 "set.changed-during-lookup:is-the-new-block-at-the-old-address"
     let still <-match (if same then t'.slot (pth t (m+n) (t.probeStart (kd.hash k))).j else .empty)with
      |.live l=>match es'[l]? with
       |some (_,y')=>do pure (if <-isSame y' y then aa l else ae)
       |none=>pure ae
      |_=>pure ae
     match still with
     |none=>rule "set.search.anew";ux a x (kd.hash k) ah r ae
     |some l=>if equal then return .there (aa l)else ux a x (kd.hash k) ah r (aa (pth t (m+n+1) (t.probeStart (kd.hash k))))) Q E s:=by
    rw[D];dsimp only;refine aq (iQ (kd.eqBool hr X I ?_));refine aq (l4 M rfl S ?_);dsimp only;by_cases C:g=k
    .rw[decide_eq_true C];simp only[Bool.and_self,if_true];exact aF (q1 (by subst C;exact kc Z))
    .rw[decide_eq_false C];simp only[zZ,fi,if_false];have J:t.sameMemory t.moves t.mask=aa ah:=by unfold SetTable.sameMemory;simp
     rw[J];dsimp only;rw[if_pos rfl,g3];dsimp only;rw[D];dsimp only;obtain⟨b,ob,eb,L⟩:=kd.ref X;rw[eb];refine aq (same_self L ?_);rw[if_pos rfl];refine aq (aF ?_);dsimp only;refine searchV hr M S T f I he hb hN q1 q2 r (m+n+1) _ ∅ ∅ rfl λj l p hj F G=>?_;by_cases c1:j<m
     .exact h4 j l p c1 F G
     .by_cases c2:j=m+n
      .lia
      .intro z;subst z;have lq:t.slot (pth t (j-m) (pth t m (t.probeStart (kd.hash p)))).j=.live l:=by rw[<-pth_add,show m+(j-m)=j by lia];exact F
       have:=g6 (j-m) l ∅ lq;rcases slot_of T.ok.dm T.ok.ris (pth t j (t.probeStart (kd.hash p))).j with⟨_,y⟩|⟨i2,y1,y2⟩
       .rw[F]at y;cases y
       .rw[F]at y2;injection y2 with z2;subst z2;obtain⟨hv2,k2,f2,f3,f4,f5⟩:=dG l _ y1;rw[G]at f3;cases f3;exact this (by rw[f2];exact f4)
   cases hl:t.led with
   |true=>simp only[rE,fi,if_false];exact rest
   |false=>
    simp only[Ee,if_true];refine aq (seen_not (kd:=kd) I _ (λy hy=>?_) ?_)
    .obtain⟨e,uL,rfl⟩:=b8.mp hy;have uJ:e∈d.toList:=by rw[Array.toList_filter]at uL;exact(kH.mp uL).1
     obtain⟨u,B,e6⟩:=om uJ;have O:u<ks.length:=by rw[<-f.1];exact B
     exact⟨ks[u],by have:=(f.2 (d.toList[u],ks[u]) (kc (i:=u) (by rw[Ac];exact⟨d9 B,d9 O⟩))).2;rw[e6]at this;exact this⟩
    .simp only[fi,if_false];exact rest
end
section
variable{P:aQ}{w:aJ}{s:ao}{K:Type}[DecidableEq K]
def elV(a:Keyd P w K)(p:K×ai):Int×ai:=(a.hash p.1,p.2)
structure SetV(kd:Keyd P w K)(h:aB)(a:af)(ps:List (K×ai)):Prop where
 ex:∃(es:Array (Int×ai)) (ep:Nat) (t:cx) (qs:List (K×ai)),h.get? a=aa {cls:=.type "set",dict:=ae,data:=.set es ep t}/\qs.Perm ps/\es.toList=qs.map (elV kd)/\es.size<4090/\TPl t (es.toList.map (·.1))/\t.led=(!eB w)/\(ps≠[]->t.plain=ak)
variable{kd:Keyd P w K}
def SetV.at{h':aB}(S:SetV kd h a b)(k:∀o,h.get? a=aa o->h'.get? a=aa o):SetV kd h' a b:=by obtain⟨es,ep,t,c,e,r⟩:=S.ex;exact⟨es,ep,t,c,k _ e,r⟩
def TPl.fits(T:TPl t a)(b:n=a.length):t.fits n=ah:=by unfold SetTable.fits SetTable.fill;have:=T.len;have:=T.ok.roomy;rw[T.ok.dm];simp;lia
def addV(a:List (K×ai))(p:K×ai):List (K×ai):=if p.1∈a.map (·.1)then a else a++[p]
def relay_eq(a:af)(b:Nat):setRelay a b=(do
  let (es,_,t) <-setState a
  if J8 b > bo then l6 "set:memory"
  let (es,t) <-(do
   let aa (t,order):=t.relaid (es.map (·.1)) b|l6 "internal:set-table-without-room"
   let es':=order.filterMap (es[·]?)
   if es'.size != es.size then l6 "internal:set-table-lost-an-element"
   pure (es',t))
  storeSet a es t):=rfl
def grow_ok(b:mask∈[7,31,127,511,2047,8191])(f:(n-1)*5<mask*3)(d:mask*3<=n*5)(c:n<4090):∃a q,J8 (n6 n)=a+1/\a+1=2^q/\a∈[7,31,127,511,2047,8191]/\n*5<a * 3/\a+1<=bo:=by
 simp only[cC,ju,or_false]at b;rcases b with e|e|e|e|e|e <;> subst e
 .obtain rfl:n=5:=∅
  exact⟨31,5,by decide,rfl,by decide,by decide,by decide⟩
 .obtain rfl:n=19:=∅
  exact⟨127,7,by decide,rfl,by decide,by decide,by decide⟩
 .obtain rfl:n=77:=∅
  exact⟨511,9,by decide,rfl,by decide,by decide,by decide⟩
 .obtain rfl:n=307:=∅
  exact⟨2047,11,by decide,rfl,by decide,by decide,by decide⟩
 .obtain rfl:n=1229:=∅
  exact⟨8191,13,by decide,rfl,by decide,by decide,by decide⟩
 .lia
def els_of{a:List (K×ai)}(e:c=a.map (elV kd))(f:∀p∈a,kd.is h p.1 p.2):Els kd h c (a.map (·.1)):=by subst e;refine⟨by simp,λq b=>?_⟩;rw[List.zip_map']at b;obtain⟨p,d,rfl⟩:=b8.mp b;exact⟨rfl,f p d⟩
def set_addV(hr:kd.room A)(S:SetV kd s.heap a y)(hk:∀p∈y,kd.is s.heap p.1 p.2)(W:kd.is s.heap k x)(hn:y.length<4000)(h:∀l b,ka a s.heap l->SetV kd l a (addV y (k,x))->Q b {s with heap:=l}):ar (aw P w) A (DH a x (kd.hash k)) Q E s:=by
 obtain⟨f,ep,t,C,ho,hp,jT,hsz,T,m_,dv⟩:=S.ex;have hqk:∀p∈C,kd.is s.heap p.1 p.2:=λp hq=>hk p (hp.mem_iff.mp hq);have els:=els_of jT hqk;have bz:f.size=y.length:=by
  have e1:=congrArg pi jT;have u:=hp.length_eq
  grind
 have hf:t.fits f.size=ah:=T.fits (by simp);have D:k∈C.map (·.1)↔k∈y.map (·.1):=(hp.map (·.1)).mem_iff;obtain⟨o,ox,rfl,hox⟩:=kd.ref W;unfold DH setAddHashedIn;refine iQ (aq (l4 ho rfl hf ?_));dsimp only;have hbs:byScan (.ref o) f=ak:=by unfold byScan;simp[Value.scannable]
 rw[hbs];simp only[fi,if_false];obtain⟨N0,hN0,hE0⟩:=pth_empty T.ok (kd.hash k);obtain⟨N,hN,hE,hB⟩:=least (p:=λn=>(pth t n (t.probeStart (kd.hash k))).j∉t.place.toList) N0 hE0;have hB':∀m,m<N->(pth t m (t.probeStart (kd.hash k))).j∈t.place.toList:=λm hm=>Classical.not_not.mp (hB m hm);have h8:=T.ok.most.1;unfold setSearch;refine aq (searchV hr ho hf T els W hE hB' ∅ (λi6=>?_) (λZ=>?_) 100000 0 ae ∅ (jM _) rfl λj i k' hj=>absurd hj (og _))
 .refine aF (h s.heap _ (J9 a s.heap) ?_);unfold addV;rw[if_pos (D.mp i6)];exact S
 .dsimp only;refine aq (l4 ho rfl hf ?_);dsimp only;have bn:=start_le t (kd.hash k) N;obtain⟨p1,p2,p3,p4,O,M,L⟩:=put_tp T (kd.hash k) hE hB' bn;have G:(t.put (pth t N (t.probeStart (kd.hash k))).j).1.led=t.led:=rfl;have X:(t.put (pth t N (t.probeStart (kd.hash k))).j).2<=f.size:=by
   have:=(below_ok T.ok.ris (pth t N (t.probeStart (kd.hash k))).j).1;have e:t.place.size=f.size:=by have:=T.len;simpa using this
   rw[<-e];exact this
  generalize hPut:t.put (pth t N (t.probeStart (kd.hash k))).j=TP at p1 p2 p3 p4 O M L G X ⊢;obtain⟨I,g⟩:=TP;dsimp only at p1 p2 p3 p4 O M L G X ⊢;have EG:(rg f g (kd.hash k,.ref o)).toList=(C.take g++(k,.ref o)::C.drop g).map (elV kd):=by rw[ins_list,jT,ui,cR,List.map_take,List.map_drop];rfl
  have hhs:(rg f g (kd.hash k,.ref o)).toList.map (·.1)=(f.toList.map (·.1)).take g++kd.hash k::(f.toList.map (·.1)).drop g:=by rw[ins_list,ui,cR,List.map_take,List.map_drop]
  have Y:(C.take g++(k,Value.ref o)::C.drop g).Perm (addV y (k,.ref o)):=by unfold addV;rw[if_neg (λz=>Z (D.mpr z))];refine List.perm_middle.trans ?_;rw[l8];exact(hp.cons _).trans (List.perm_append_singleton _ _).symm
  have EA:(rg f g (kd.hash k,.ref o)).size=f.size+1:=by
   grind
  have cE:addV y (k,Value.ref o)≠[]:=by unfold addV;simp_all
  rw[<-hhs]at M L;generalize hes2:rg f g (kd.hash k,Value.ref o)=es1 at EG hhs EA M L ⊢;have B:∀c:cx,c={I with plain:=ak}->ar (aw P w) A (do
    storeSet a es1 c
    if(!ak&&c.tooFull)=ah then do
      setRelay a (n6 (f.size+1))
      pure ah
     else pure ah) (λr s'=>∃l,r=ah/\s'={s with heap:=l}/\ka a s.heap l/\SetV kd l a (addV y (k,.ref o))) E s:=by
   intro c u;have jP:c.led=(!eB w):=by rw[u];exact G.trans m_
   have iA:c.plain=ak:=by rw[u]
   have d1:c.dummies=#[]:=by rw[u];exact p1
   have d2:c.place=I.place:=by rw[u]
   have d3:c.mask=I.mask:=by rw[u]
   have J:∀q∈c.place.toList.zip (es1.toList.map (·.1)),Rch c c.place.toList q.1 q.2:=λq hq=>by rw[d2]at hq ⊢;exact(L q hq).up d3.symm λx W=>W
   have Ev:c.fill=f.size+1:=by unfold SetTable.fill;rw[d1,d2,O];have:=T.len;simp at this ⊢;lia
   have KQ:c.mask∈[7,31,127,511,2047,8191]:=by rw[d3,p4];exact T.ok.sz
   have Vr:c.fits es1.size=ah:=by
    unfold SetTable.fits;rw[Ev,EA,d2,O];have h1:=T.len;have h2:=T.ok.roomy
    grind
   refine aq (DJ ho rfl ?_ (DK (wI (show es1.size<4090 by lia) (by decide))));have o1:=li.put (es':=es1) (t':=c) ho;have iZ:=mS s.heap a (Obj.putSet es1 c);by_cases F:c.tooFull=ah
   .rw[F];simp only[Ee,Bool.and_self,if_true];have Vl:c.mask*3<=(f.size+1)*5:=by unfold SetTable.tooFull at F;rw[Ev]at F;simpa using F
    have H:(f.size+1-1)*5<c.mask*3:=by
     have h1:=T.len;have h2:=T.ok.roomy
     grind
    obtain⟨m',q,g1,g2,g3,g4,g5⟩:=grow_ok KQ H Vl ∅;rw[relay_eq];refine aq (aq (l4 o1 rfl Vr ?_));dsimp only;rw[g1,if_neg ∅];obtain⟨t3,d,f1,f2,f3,f4,f5,f6,f7⟩:=laid_tp (mask:=m') c.finger (c.movedTo m') c.led c.plain g2 g3 es1 ∅;have er:c.relaid (es1.map (·.1)) (n6 (f.size+1))=aa (t3,d):=by unfold SetTable.relaid;rw[g1];exact f1
    rw[er];dsimp only;have Au:(d.filterMap (es1[·]?)).size=es1.size:=by
     have:=f6.length_eq
     grind
    refine aq ?_;rw[if_neg (by rw[Au];simp)];refine aF ?_;dsimp only;obtain⟨v,r1,r2⟩:∃v:List (K×ai),(d.filterMap (es1[·]?)).toList=v.map (elV kd)/\v.Perm (C.take g++(k,Value.ref o)::C.drop g):=by rw[EG]at f6;exact perm_mapE f6
    refine DJ o1 rfl ?_ (DK (wI (show(d.filterMap (es1[·]?)).size<4090 by lia) (by decide)));refine aF ⟨_,rfl,rfl,iZ.trans (mS _ a _),⟨_,_,t3,v,li.put o1,r2.trans Y,r1,∅,f7,f2.trans jP,λ_=>f3.trans iA⟩⟩
   .rw[D5.mpr F];simp only[zZ,fi,if_false];have H:c.place.size*5<c.mask*3:=by
     unfold SetTable.tooFull at F;rw[Ev]at F;have h1:=T.len
     grind
    refine aF ⟨_,rfl,rfl,iZ,⟨es1,_,c,_,o1,Y,EG,∅,⟨⟨d1,by rw[d2];exact p2,by rw[d2,d3];exact p3,KQ,H⟩,?_,J⟩,jP,λ_=>iA⟩⟩;rw[d2,O,M];have:=T.len;lia
  split
  .refine aq (kd.hbv W ?_);simp only[fi,if_false];refine aW (B _ rfl) λr s' ⟨l,e1,u,e3,e4⟩=>?_;subst e1 u;exact h l _ e3 e4
  .rename_i EB;refine aq (aF ?_);simp only[if_true];refine aW (B I (by
    have:I.plain=ak:= ~~~EB
    rw[<-this])) λr s' ⟨l,e1,u,e3,e4⟩=>?_
   subst e1 u;exact h l _ e3 e4
end
section
variable{P:aQ}{w:aJ}{A:aX}{E:ai->ao->Prop}{s:ao}
def tupTy(h:IsTup s.heap a b):s.TypeIs (.ref a) "tuple":=let ⟨o,ho,hc,_⟩:=h;⟨o,ho,hc⟩
def HsAt(P:aQ)(w:aJ)(A:aX)(s:ao)(v:ai)(x:Int):Prop :=
 ∀(b:Nat) (E:ai->ao->Prop) (Q:Int->ao->Prop),(∀a,b<=a->Q x {s with toks:=a})->ar (aw P w) A (pyHash v) Q E {s with toks:=b}
def hash_tup{hs:List (ai×Int)}(z:A.units<cLine)(v:IsTup s.heap a g)(D:g.toList=hs.map (·.1))(G:∀p∈hs,HsAt P w A.in1 s p.1 p.2):HsAt P w A s (.ref a) (qQ (lS (hs.map (·.2)))):=λj E Q h=>by
 have l:Shared.TypeIs {s with toks:=j} (.ref a) "tuple":=tupTy v;obtain⟨o,C,_,n,H⟩:=v;unfold pyHash
 first|unfold pyHashByItsType|skip
 first|refine aq (wpAny_cRoomFor_or (.inr z) ?_)|skip
 refine aq (wJ l F.slot_tuple_hash.lookup ?_);show ar _ _ (if(aa (Value.builtin "tuple.__hash__") == aa Value.none)=ah then _ else _) Q E _;rw[if_neg (by lia)];refine aq (wJ l F.slot_tuple_hash.lookup ?_);show ar _ _ (callSpecialIfBoundUnlessNone? (.ref a) "__hash__" _ >>= _) Q E _;refine aq (wpAny_callSpecialIfBoundUnlessNone?_slot l Vb (ll Vb l F.entry_tuple_hash ?_ (F.args_tuple_hash_1 _)));show ar _ _ (Builtin.Tuple.tupleItemsOf (.ref a) >>= _) _ _ _;refine aq (wpAny_tupleItemsOf (s:={s with toks:=j}) C H ?_);refine aq ?_;rw[<-Ef,D];refine w_ _
  (λrest (b:Array Int) u=>∃c d f,hs=c++d/\rest=d.map (·.1)/\b.toList=c.map (·.2)/\j<=f/\u={s with toks:=f})
  _ ?_ ?_ _ _ ⟨[],hs,j,rfl,rfl,rfl,bi _,rfl⟩
 .rintro x rest b u ⟨c,d,f,rfl,q,r,B,rfl⟩;cases d with
  |nil=>cases q
  |cons p d=>
   rw[cR]at q;injection q with h1 y;subst h1 y;refine aq (G p (by simp) f _ _ λi y=>?_)
   first
    |exact aF ⟨c++[p],d,i,by simp,rfl,by simp[r],∅,rfl⟩
    |exact aq (aF (aF ⟨c++[p],d,i,by simp,rfl,by simp[r],∅,rfl⟩))
 .rintro b u ⟨c,d,f,rfl,q,r,B,rfl⟩;have:d=[]:=by simp_all
  subst this;rw[ix]at h;show ar _ _ (retInt (lS b.toList)) _ _ _;rw[r];refine wpAny_ret_mkInt ?_;show ar _ _ (if(decide (-(2:Int)^63<=lS (c.map (·.2)))&&decide (lS (c.map (·.2))<2^63))=ah then _ else _) Q E _;unfold qQ at h;by_cases m:(decide (-(2:Int)^63<=lS (c.map (·.2)))&&decide (lS (c.map (·.2))<2^63))=ah
  .rw[if_pos m];rw[if_pos m]at h;exact aF (h _ (by simp;lia))
  .rw[if_neg m];rw[if_neg m]at h;exact aq (mR (aF (h _ (by simp;lia))))
def hash_str(z:Str)(t:Tok):HsAt P w A s (.str z t) ((gh P w).hash z):=λa E Q h=>(gh P w).pyHash (s:={s with toks:=a}) (k:=z) (by show qO z (.str z t)=ah;simp[qO]) (h _ (wK _))
def hash_int(z:Int)(t:Tok):HsAt P w A s (.int z t) ((Eg P w).hash z):=λa E Q h=>(Eg P w).pyHash (s:={s with toks:=a}) (k:=z) (by show Dc z (.int z t)=ah;simp[Dc]) (h _ (wK _))
def quiet_tup(g:IsTup s.heap a b)(q:∀v∈b.toList,∀(E:ai->ao->Prop) (Q:Bool->ao->Prop),Q ah s->ar (aw P w) A (w6 n v) Q E s)(h:Q ah s):ar (aw P w) A (w6 (n+1) (.ref a)) Q E s:=by
 have f:=tupTy g;obtain⟨o,p,_,m,x⟩:=g;unfold w6;refine aq (wJ f F.slot_tuple_eq.lookup ?_);show ar _ _ (z8 (.ref a) (.type "tuple") >>= _) _ _ s;refine aq (DP f isSubtype_tuple_tuple ?_);simp only[rE,fi,if_false];refine aq (wT p x ?_);refine aq ?_;show ar _ _ (forIn b _ _) _ _ s;rw[<-Ef];refine w_ _ (λrest r c=>r.1=ae/\c=s/\∀v∈rest,v∈b.toList) _ ?_ ?_ _ _ ⟨rfl,rfl,λv l=>l⟩
 .rintro v rest r c ⟨d,rfl,i⟩;refine aq (q v (i v j_) _ _ ?_);simp only[rE,fi,if_false];exact aF ⟨rfl,rfl,λu j=>i u (iu _ j)⟩
 .rintro⟨z,y⟩ c ⟨d,rfl,_⟩;simp only at d;subst d;exact aF h
def cls_tup(f:IsTup s.heap a b)(q:∀v∈b.toList,∀(E:ai->ao->Prop) (Q:Bool->ao->Prop),Q ak s->ar (aw P w) A (w8 n v) Q E s)(h:Q ak s):ar (aw P w) A (w8 (n+1) (.ref a)) Q E s:=by
 have j:=tupTy f;obtain⟨o,p,_,m,x⟩:=f;unfold w8;refine aq (Dk j ?_);dsimp only;rw[if_pos (by decide)];refine aq (aF ?_);simp only[rE,fi,if_false];refine aq (wT p x ?_);dsimp only;refine aq ?_;rw[<-Ef];refine w_ _ (λrest r c=>r.1=ae/\c=s/\∀v∈rest,v∈b.toList) _ ?_ ?_ _ _ ⟨rfl,rfl,λv l=>l⟩
 .rintro v rest r c ⟨d,rfl,g⟩;refine aq (q v (g v j_) _ _ ?_);simp only[fi,if_false];exact aF ⟨rfl,rfl,λu i=>g u (iu _ i)⟩
 .rintro⟨z,y⟩ c ⟨d,rfl,_⟩;simp only at d;subst d;exact aF h
def hbv_tup(f:IsTup s.heap a b)(e:b.toList=pre++x::post)(B:∀v∈pre,∀(E:ai->ao->Prop) (Q:Bool->ao->Prop),Q ah s->ar (aw P w) A (uw n v) Q E s)(l:∀(E:ai->ao->Prop) (Q:Bool->ao->Prop),Q ak s->ar (aw P w) A (uw n x) Q E s) (h:Q ak s):ar (aw P w) A (uw (n+1) (.ref a)) Q E s:=by
 have j:=tupTy f;obtain⟨o,C,_,m,D⟩:=f;unfold uw;refine aq (wJ j F.slot_tuple_hash.lookup ?_);show ar _ _ (z7 (.ref a) >>= _) _ _ s;refine aq (wT C D ?_);refine aq ?_;show ar _ _ (forIn b _ _) _ _ s;rw[<-Ef,e];refine w_ _ (λrest r d=>r.1=ae/\d=s/\∃p,rest=p++x::post/\∀v∈p,v∈pre) _ ?_ ?_ _ _ ⟨rfl,rfl,pre,rfl,λv q=>q⟩
 .rintro v rest r d ⟨z,rfl,p,c,g⟩;cases p with
  |nil=>rw[eW]at c;injection c with h1 h2;subst h1;refine aq (l _ _ ?_);simp only[Ee,if_true];exact aF (aF h)
  |cons y p=>rw[rq]at c;injection c with h1 h2;subst h1;refine aq (B v (g v j_) _ _ ?_);simp only[rE,fi,if_false];exact aF ⟨rfl,rfl,p,h2,λu i=>g u (iu _ i)⟩
 .rintro⟨H,G⟩ d ⟨z,rfl,p,c,_⟩;cases p <;> cases c
def tup_uniq(c:IsTup h a x)(b:IsTup h a y):x=y:=by obtain⟨o,e,_,n,d⟩:=c;obtain⟨f,i,_,g,j⟩:=b;lia
def strs_uniq:∀{a:List ai}{x y:List Str},cS a x->cS a y->x=y
 |_,_,_,.nil,.nil=>rfl
 |_,_,_,.cons z t h,.cons _ _ b=>by rw[strs_uniq h b]
def all_getD{a b:List Str}:((cJ (min a.length b.length)).all (λj=>a.getD j kK == b.getD j kK)&&a.length == b.length)=decide (a=b):=by
 rw[nZ,h_,lZ,decide_eq_true_iff,beq_iff_eq];constructor
 .rintro⟨g,c⟩;refine List.ext_getElem c λi f d=>?_;simp_all
 lia
def strs_len(h:cS a b):a.length=b.length:=h.length
def eq_strs(u:A.units<cLine)(o:IsTup s.heap b c)(f:cS c.toList i)(p:IsTup s.heap h a)(g:cS a.toList d):wH A s (.ref b) (.ref h) (decide (i=d)):=by
 by_cases n:b=h
 .subst n;obtain rfl:=tup_uniq o p;obtain rfl:=strs_uniq f g;rw[decide_eq_true rfl];exact .same _
 .have m:=strs_len f;have l:=strs_len g;rw[iP]at m l;rw[<-all_getD,<-m,<-l];refine .of_refs n (.tuples o p u λj r q=>?_);obtain⟨t,e⟩:=yZ j c[j] f (by simp[r]);obtain⟨x,v⟩:=yZ j a[j] g (by simp[q]);rw[e,v];exact JV _ _ _ _
def PrIs(h:aB)(k:Int×List Str)(v:ai):Prop:=k.2≠[]/\∃(a b:af) (t:Tok) (c:Array ai),v=.ref a/\IsTup h a #[.int k.1 t,.ref b]/\IsTup h b c/\cS c.toList k.2
def PrIs.inj(x:PrIs h k v)(y:PrIs h c v):k=c:=by
 obtain⟨_,a,b,t,i,rfl,m,l,j⟩:=x;obtain⟨_,r,p,q,f,e,o,n,g⟩:=y;cases e;have:=tup_uniq m o;have d:k.1=c.1/\b=p:=by lia
 obtain⟨d,rfl⟩:=d;obtain rfl:=tup_uniq l n;exact Prod.ext d (strs_uniq j g)
def tup_kept{d:aB}(f:IsTup h a x)(k:∀b o,h.get? b=aa o->o.cls=.type "tuple"->d.get? b=aa o):IsTup d a x:=by obtain⟨o,e,c,r⟩:=f;exact⟨o,k a o e c,c,r⟩
def hashPr(P:aQ)(w:aJ)(k:Int×List Str):Int:=qQ (lS [(Eg P w).hash k.1,qQ (lS (k.2.map (gh P w).hash))])
def strs_pairs(h:cS a b):a=(a.zip (b.map (gh P w).hash)).map (·.1)/\(a.zip (b.map (gh P w).hash)).map (·.2)=b.map (gh P w).hash/\∀p∈a.zip (b.map (gh P w).hash),HsAt P w A s p.1 p.2:=by
 induction h with
 |nil=>simp_all
 |cons z t _ d=>
  obtain⟨i,g,f⟩:=d;rw[cR,Ed,cR,cR];refine⟨by rw[<-i],by rw[g],λp c=>?_⟩;rcases cC.mp c with rfl|c
  .exact hash_str z t
  .exact f p c
def hash_pr(n:A.units+4<cLine)(x:PrIs s.heap k v):HsAt P w A s v (hashPr P w k):=by
 obtain⟨_,a,b,t,f,rfl,m,l,j⟩:=x;obtain⟨i,h,g⟩:=strs_pairs (P:=P) (w:=w) (A:=A.in1.in1) (s:=s) j;have c:HsAt P w A.in1 s (.ref b) (qQ (lS (k.2.map (gh P w).hash))):=by have:=hash_tup (P:=P) (w:=w) (A:=A.in1) (s:=s) (show A.units+1<cLine by lia) l i g;rw[h]at this;exact this
 refine hash_tup (hs:=[(.int k.1 t,(Eg P w).hash k.1),(.ref b,qQ (lS (k.2.map (gh P w).hash)))]) ∅ m rfl λp d=>?_;simp only[cC,ju,or_false]at d;rcases d with rfl|rfl
 .exact hash_int _ _
 .exact c
def strs_mem_shape(h:cS a b):∀v∈a,∃z t,v=Value.str z t:=λv c=>h.all v c
def prKd(P:aQ)(w:aJ):Keyd P w (Int×List Str) where
 is:=PrIs
 hash:=hashPr P w
 room:=λA=>A.units+4<cLine
 keep:=λ⟨m,a,b,t,d,e,g,h,f⟩ k=>⟨m,a,b,t,d,e,tup_kept g k,tup_kept h k,f⟩
 ref:=λ⟨_,a,_,_,_,e,⟨o,g,_⟩,_⟩=>⟨a,o,e,g⟩
 eqBool:=λ{A E s x y u v Q} O B r q=>by
  by_cases i:u=v
  .subst i;obtain rfl:=B.inj r;rw[decide_eq_true rfl]at q;exact SeqAt.EqAt.same _ _ _ _ _ q
  .obtain⟨_,a,b,t,d,rfl,g,h,f⟩:=B;obtain⟨_,T,S,t',p,rfl,G,F,C⟩:=r;have H:decide (x=y)=((cJ (min 2 2)).all (λj=>if j=0 then x.1 == y.1 else decide (x.2=y.2))&&2 == 2):=by obtain⟨M,L⟩:=x;obtain⟨J,I⟩:=y;rw[nZ];simp[rf]
   rw[H]at q;refine SeqAt.EqAt.of_refs (λz=>i (by rw[z])) (.tuples g G ∅ λj D N=>?_) _ _ _ _ q
   match j,D with
   |0,_=>exact JU _ _ _ _
   |1,_=>exact eq_strs (show A.units+1<cLine by lia) h f F C
 quiet:=λ⟨_,a,b,t,d,e,g,h,f⟩ q=>by
  subst e;refine quiet_tup (n:=7) g (λv c E Q q=>?_) q;simp only[cC,ju,or_false]at c;rcases c with rfl|rfl
  .exact n8 (by unfold w6;rfl) q
  .refine quiet_tup (n:=6) h (λv c E Q q=>?_) q;obtain⟨z,t,rfl⟩:=strs_mem_shape f v c;exact n8 (by unfold w6;rfl) q
 cls:=λ⟨_,a,b,t,d,e,g,h,f⟩ q=>by
  subst e;refine cls_tup (n:=7) g (λv c E Q q=>?_) q;simp only[cC,ju,or_false]at c;rcases c with rfl|rfl
  .exact n8 (by unfold w8;rfl) q
  .refine cls_tup (n:=6) h (λv c E Q q=>?_) q;obtain⟨z,t,rfl⟩:=strs_mem_shape f v c;exact n8 (by unfold w8;rfl) q
 hbv:=λ⟨m,a,b,t,d,e,g,h,f⟩ q=>by
  subst e;refine hbv_tup (n:=7) (pre:=[.int _ t]) (x:=.ref b) (post:=[]) g rfl (λv c E Q q=>?_) (λE Q q=>?_) q
  .simp only[cC,ju,or_false]at c;subst c;exact n8 (by unfold uw;rfl) q
  .cases l:d.toList with
   |nil=>rw[l]at f;have:=strs_len f;exact absurd (Dv this.symm) m
   |cons v rest=>refine hbv_tup (n:=6) (pre:=[]) (x:=v) (post:=rest) h l (λv c=>by simp at c) (λE Q q=>?_) q;obtain⟨z,t,rfl⟩:=strs_mem_shape f v (by rw[l];simp);exact n8 (by unfold uw;rfl) q
end
def ltL(a b:List Tx):Bool:=decide (a<b)
def ltL_cons(x y:Tx)(xs ys:List Tx):ltL (x::xs) (y::ys)=if x=y then ltL xs ys else decide (x<y):=by
 unfold ltL;by_cases h:x=y
 .simp_all
 .rw[if_neg h,nZ,decide_eq_true_iff,decide_eq_true_iff,Kq];lia
def ordL:KeyOrd where
 α:=List Tx
 blt:=ltL
 irrefl:=λa=>decide_eq_false (List.lt_irrefl a)
 trans:=λa b c f d=>decide_eq_true (List.lt_trans (of_decide_eq_true f) (of_decide_eq_true d))
 negTrans:=λa b c h=>by
  unfold ltL;by_cases g:a<b
  .exact .inl (decide_eq_true g)
  .have i:b<=a:=List.not_lt.mp g;exact .inr (decide_eq_true (List.lt_of_le_of_lt i (of_decide_eq_true h)))
 total:=λa b f d=>List.le_antisymm (List.not_lt.mp (of_decide_eq_false d)) (List.not_lt.mp (of_decide_eq_false f))
section
open PySem.SeqAt
open PySem.AutoSeq1 (wpAny_loadPart')
open PySem.MeetsSeq PySem.MeetsSeq2 PySem.MeetsSeq3
def cpsL(a:List Str):List Tx:=a.map λz=>z.cps.toList
def cps_inj{x y:Str}(h:x.cps.toList=y.cps.toList):x=y:=by rw[<-qp x,<-qp y,h]
def tuple_lt_strs(l b:af)(i f:Array ai)(n n2:Nat)(dd W:Option af)(sl N:Array (Option ai))(P S:List Str)(hi:cS i.toList P)(hj:cS f.toList S):Meets (Builtin.«tuple.__lt__» ⟨[.ref l,.ref b],[]⟩) (λ_ R s=>s.heap.get? l=aa {cls:=.type "tuple",dict:=dd,data:=.seq i n,slots:=sl}/\s.heap.get? b=aa {cls:=.type "tuple",dict:=W,data:=.seq f n2,slots:=N} /\ R (.ok (.ret (.bool (ltL (cpsL P) (cpsL S))))) s) :=
 .of_wp λo w A R s h=>by
  obtain⟨C,g,d,v,B⟩:=s;obtain⟨hl,hb,h⟩:=h;have f2:=AutoSeq1.sub_tuple_tuple;have z1:i.size=P.length:=by rw[<-hi.length];simp
  have z2:f.size=S.length:=by rw[<-hj.length];simp
  wp_walk using pq hl,pq hb,w_ _ (λrest b O=>b.1=ae/\O=⟨C,g,d,v,B⟩/\∃(H G:List ai) (j m:List Str),rest=H.zip G /\ cS H j/\cS G m/\j.length+f.size=m.length+i.size/\R (.ok (.ret (.bool (ltL (cpsL j) (cpsL m))))) ⟨C,g,d,v,B⟩) _
  case turn=>
   rintro⟨y,x⟩ rest b O ⟨M,rfl,H,G,j,m,q,r,p,F,I⟩;cases r with
   |nil=>rw[Kr]at q;cases q
   |cons a t Y=>
    cases p with
    |nil=>rw[List.zip_nil_right]at q;cases q
    |cons c u X=>
     rw[Ed]at q;injection q with hyx hrest;injection hyx with hy hx;subst hy hx;rename_i vs1 L vs2 J;have D:R (.ok (.ret (.bool (if a.cps.toList=c.cps.toList then ltL (cpsL L) (cpsL J)else decide (a.cps.toList<c.cps.toList))))) ⟨C,g,d,v,B⟩:=by rw[<-ltL_cons];exact I
     simp only[gR]at F;refine aq (EqAt.str_str a t c u o w _ _ ?_);by_cases e:a=c
     .subst e;rw[if_pos rfl]at D;rw[beq_self_eq_true]
      wp_walk
      grind
     .rw[if_neg (λz=>e (cps_inj z))]at D;rw[beq_false_of_ne e];have T:∀(E:ai->ao->Prop) (Q:ai->ao->Prop),Q (.bool (decide (a.cps.toList<c.cps.toList))) ⟨C,g,d,v,B⟩->ar (aw o w) A.in1 (richCompare .Lt (.str a t) (.str c u)) Q E ⟨C,g,d,v,B⟩:=λE Q h=>(PyProof.Rows.lt_str h:ar (aw o w) A.in1 (eF .Lt (.str a t) (.str c u)) Q E _)
      wp_walk using T
      lia
  case fin=>
   rintro⟨b1,b2⟩ O ⟨M,rfl,H,G,j,m,q,r,p,F,I⟩;simp only at M;subst M;have Z:ltL (cpsL j) (cpsL m)=decide (i.size<f.size):=by
    cases r with
    |nil=>
     cases p with
     |nil=>simp only[re]at F;exact(decide_eq_false (by simp[cpsL])).trans (decide_eq_false ∅).symm
     |cons c u hw=>simp only[re,gR]at F;exact(decide_eq_true (by simp[cpsL])).trans (decide_eq_true ∅).symm
    |cons a t Z=>
     cases p with
     |nil=>simp only[re,gR]at F;exact(decide_eq_false (by simp[cpsL])).trans (decide_eq_false ∅).symm
     |cons c u hw=>simp_all
   rw[Z]at I
   wp_walk
   exact⟨_,rfl,by simpa[Builtin.Tuple.tupleCompareSizes]using I⟩
  grind
end
section
variable{P:aQ}{w:aJ}{A:aX}{E:ai->ao->Prop}{s:ao}
def lt_tupStrs(D:IsTup s.heap l c)(H:IsTup s.heap b a)(G:cS c.toList d)(F:cS a.toList f)(C:A.units<cLine) (h:Q (.bool (ltL (cpsL d) (cpsL f))) s):ar (aw P w) A (eF .Lt (.ref l) (.ref b)) Q E s:=by
 obtain⟨⟨J,I,v,z⟩,q,u,n,r⟩:=id D;obtain⟨⟨y,i,j,g⟩,o,p,B,m⟩:=id H;simp only at u r p m;subst u r p m;exact richCompare_meets_room (op:=.Lt) ⟨_,q,rfl⟩ ⟨_,o,rfl⟩ PySem.F.slot_tuple_lt PySem.F.entry_tuple_lt (PySem.F.args_tuple_lt_2 _ _) (tuple_lt_strs l b c a n B I i z g d f G F)
  ⟨q,o,show Value.bool (ltL (cpsL d) (cpsL f))≠Value.notImplemented/\Q (.bool (ltL (cpsL d) (cpsL f))) s from⟨(λx=>nomatch x),h⟩⟩ C
def prKey(h:aB)(n:Int):KeyKind where
 toKeyOrd:=ordL
 keyOf:=λv=>open Classical in if z:∃a,PrIs h (n,a) v then aa (cpsL z.choose)else ae
 dflt:=([]:List Tx)
def prKey_of(x:PrIs h (n,a) v):(prKey h n).keyOf v=aa (cpsL a):=by
 have z:∃a,PrIs h (n,a) v:=⟨a,x⟩
 have e:z.choose=a:=(Prod.mk.inj (z.choose_spec.inj x)).2;show(open Classical in if z:∃a,PrIs h (n,a) v then aa (cpsL z.choose)else ae)=_;rw[dif_pos z,e]
def prKey_some(x:(prKey h n).keyOf v=aa k):∃a,PrIs h (n,a) v/\cpsL a=k:=by
 by_cases z:∃a,PrIs h (n,a) v
 .obtain⟨a,z⟩:=z;rw[prKey_of z]at x;exact⟨a,z,f_ x⟩
 .have:(prKey h n).keyOf v=ae:=dif_neg z;lia
def prLt{h:aB}(M:A.units+8<cLine)(k:∀b o,h.get? b=aa o->o.cls=.type "tuple"->s.heap.get? b=aa o):iq (prKey h n) (tuples' ah) P w A s:=λE x y a b Q D C i=>by
 obtain⟨c,v,rfl⟩:=prKey_some D;obtain⟨I,u,rfl⟩:=prKey_some C;obtain⟨_,O,b1,t,r,rfl,F,l,j⟩:=(prKd P w).keep v k;obtain⟨_,N,b2,t',g,rfl,H,p,f⟩:=(prKd P w).keep u k;obtain⟨o,z,_,m,B⟩:=F;obtain⟨J,G,_,L,q⟩:=H;refine PySem.W.kat_lt z B G q ?_;show PySem.W.KatLex P w A ah _ Q [(Value.int n t,Value.int n t'),(Value.ref b1,Value.ref b2)] 0 s;refine Kt (JU n t n t' _ _ _ _ ?_);rw[beq_self_eq_true];refine PySem.W.kat_yes (Kt (eq_strs ∅ l j p f _ _ _ _ ?_));by_cases e:c=I
 .subst e;rw[decide_eq_true rfl];refine PySem.W.kat_yes (Eh ?_);have:ltL (cpsL c) (cpsL c)=ak:=ordL.irrefl _;have d:Q (ltL (cpsL c) (cpsL c)) s:=i;rw[this]at d;simpa using d
 .rw[decide_eq_false e];refine PySem.W.kat_no ?_;show ar _ _ (oneLt' (ah&&(1 == 0)) _ _) _ _ _;simp only[show((1:Nat) == 0)=ak from rfl,zZ];refine PySem.W.kat_one _ _ (lt_tupStrs l p j f ∅ ?_);exact i
def kat_all:∀(c:List ai),(∀v∈c,∃d,PrIs h (n,d) v)->∃fs,Vc h c fs/\fs.length=c.length/\∀f∈fs,∃t,f=Value.int n t
 |[],_=>⟨[],PySem.W.KatTups.nil,rfl,λf i=>by simp at i⟩
 |v::c,g=>by
  obtain⟨fs,p,l,z⟩:=kat_all c λu q=>g u (iu _ q);obtain⟨d,_,a,b,t,j,rfl,⟨o,r,y,m,x⟩,_⟩:=g v j_;refine⟨.int n t::fs,PySem.W.KatTups.cons r y x rfl p,by simp[l],λf i=>?_⟩
  grind
def prKind{a:List ai}{n:Int}{Q:gS->ao->Prop}(b:∀v∈a,∃c,PrIs s.heap (n,c) v)(i:2<=a.length)(h:Q (tuples' ah) s):ar (aw P w) A (keyKind' a.toArray) Q E s:=by
 obtain⟨fs,f,g,d⟩:=kat_all a b;refine PySem.W.kat_kind (T:=.type "int") f ∅ (λv b=>?_) (by decide) ?_
 .obtain⟨t,rfl⟩:=d v b;exact .now
 .have:(Value.type "int" != Value.type "tuple")=ah:=by decide
  rw[this];exact h
def sorted_genK(hu:A.units+32<cLine)(N:ar (aw P w) A.in1 (collect v) (λa c=>∃(κ:KeyKind) (kz:gS),(∀v∈a,∃k,κ.keyOf v=aa k)/\a.length<=1000000 /\ (∀(C:aX) (d:aB),C.units+8<cLine->(∀b o,c.heap.get? b=aa o->d.get? b=aa o)->2<=a.length->iq κ kz P w C {c with heap:=d}/\∀{E:ai->ao->Prop}{Q:gS->ao->Prop},Q kz {c with heap:=d}->ar (aw P w) C (keyKind' a.toArray) Q E {c with heap:=d}) /\ ∀(d:aB) (out:Array ai) (e:Nat),(∀b o,c.heap.get? b=aa o->d.get? b=aa o) -> d.get? c.heap.objs.size=aa (gf "list" out e)->out.toList.Perm a->out.toList.Pairwise (λx y=>∀p q,κ.keyOf x=aa p->κ.keyOf y=aa q->κ.blt q p=ak)->Q (.ref c.heap.objs.size) {c with heap:=d}) E s):ar (aw P w) A (call (.builtin "sorted") [v]) Q E s:=by
 refine J5 kind_sorted plain_sorted entry_sorted (args_sorted1 _) ?_;unfold J7;refine aq (m:=checkCount "sorted" 1 1 _) (aF ?_);refine aq (aW N λa c ⟨κ,kz,O,I,n,B⟩=>?_);refine aq (Dz ?_);have r:(c.heap.push (gf "list" a.toArray 0)).get? c.heap.objs.size=aa (gf "list" a.toArray 0):=cV _ rfl;refine aq (iQ (ll slot_list_sort ⟨_,r,rfl⟩ entry_list_sort (FN (κ:=κ) (kz:=kz) r (λp g=>?_) I (λd k S=>n _ d (by simp;lia) (λb o e=>k b o (dE (bH e)) (bL _ e)) S) λf g L=>⟨_,rfl,?_⟩) (args_list_sort _)))
 .have:p.1∈a:=by
   have G:p∈(a.toArray.zip a.toArray).toList:=g;rw[Array.toList_zip]at G;exact wB G |>.1
  exact O _ this
 .obtain⟨e,M⟩:=sortedHeap_at (out:=(arrOf f).map (·.2)) r;have l:(arrOf f).toList.Perm (a.zip a):=by
   have:=D9.mp g;have Y:(lm a).toList=a.zip a:=by show(a.toArray.zip a.toArray).toList=_;grind
   rwa[Y]at this
  have same:∀p∈(arrOf f).toList,p.1=p.2:=λp g=>by have:=l.mem_iff.mp g;rw[<-List.map_id a,List.zip_map']at this;obtain⟨x,_,rfl⟩:=b8.mp this;rfl
  have X:((arrOf f).map (·.2)).toList.Perm a:=by rw[Array.toList_map];have:=l.map (·.2);rwa[Ku (bi _)]at this
  refine aF ⟨_,rfl,B _ _ e (λb o F=>?_) M X ?_⟩
  .have n:b<c.heap.objs.size:=bH F;rw[sortedHeap_old (dE n) (by rw[l0];exact wN n)];exact bL _ F
  .rw[Array.toList_map];refine pB.mpr (ut.mpr λi j D z Z p q hx hy=>?_);have J:j<(lm a).size:=by rw[<-g.size_eq];simpa using z
   have H:i<(arrOf f).size:= ~~~D
   have u:j<(arrOf f).size:= ~~~z
   have h:=L i j (kI Z) J;rw[tz H,tz u]at h;have f1:=same _ (wM D);have f2:=same _ (wM z);have W:kO κ (arrOf f)[i]=p:=by
    unfold kO
    grind
   have T:kO κ (arrOf f)[j]=q:=by
    unfold kO
    grind
   rw[W,T]at h;exact h
end
section
variable{X:Cx}
abbrev PrK:=Int×List Tx
def kS(k:PrK):Int×List Str:=(k.1,k.2.map tS)
def kS_inj(h:kS a=kS b):a=b:=by obtain⟨g,f⟩:=a;obtain⟨b1,b2⟩:=b;have d:=congrArg Prod.fst h;have c:=congrArg (λx=>cpsL x.2) h;simp only[kS,cpsL,cT,l3,j8,uy]at d c;rw[d,c]
def PrH(H:Hp)(k:PrK)(a:af):Prop:=k.2≠[]/\∃b,H a=aa (.tup [.int k.1,.ref b])/\H b=aa (.tup (cr k.2))
def PrH.is(ok:dy P w H h)(x:PrH H k a):PrIs h (kS k) (.ref a):=by
 obtain⟨n,b,m,l⟩:=x;obtain⟨_,j,r,p,_⟩:=(show cn P w H h a (.tup [.int k.1,.ref b])from ok a _ m)
 obtain⟨_,c,g,i,_⟩:=(show cn P w H h b (.tup (cr k.2))from ok b _ l)
 obtain⟨u,v,rfl,f,d⟩:=vals2 r;obtain⟨t,rfl⟩:=f;cases d;exact⟨λz=>n (by simpa[kS]using z),a,b,t,c.toArray,rfl,p,i,by have:=uU g;rw[Dw];exact this⟩
where
 vals2 {x y:V}{us:List ai} (h:bG [x,y] us):∃u v,us=[u,v]/\RelV x u/\RelV y v:=by
  cases h with
  |cons h1 h=>cases h with
   |cons h2 h=>cases h with
    |nil=>exact⟨_,_,rfl,h1,h2⟩
def toV(q:PrK×af):(Int×List Str)×ai:=(kS q.1,.ref q.2)
def addQ(a:List (PrK×af))(q:PrK×af):List (PrK×af):=if q.1∈a.map (·.1)then a else a++[q]
def uniqQ(a:List (PrK×af)):List (PrK×af):=a.foldl addQ []
def addV_toV(a:List (PrK×af))(q:PrK×af):addV (a.map toV) (toV q)=(addQ a q).map toV:=by
 unfold addV addQ;have c:(toV q).1∈(a.map toV).map (·.1)↔q.1∈a.map (·.1):=by rw[cT,b8,b8];exact⟨λ⟨y,b,e⟩=>⟨y,b,kS_inj e⟩,λ⟨y,b,e⟩=>⟨y,b,by show kS y.1=kS q.1;rw[e]⟩⟩
 grind
def uniqQ_take(a:List (PrK×af))(i:Nat)(h:i<a.length):uniqQ (a.take (i+1))=addQ (uniqQ (a.take i)) a[i]:=by unfold uniqQ;rw[Va h,z5];rfl
def addQ_len(a:List (PrK×af))(q:PrK×af):a.length<=(addQ a q).length:=by
 unfold addQ;split
 .exact bi _
 .simp
def uniqQ_mono(l a:List (PrK×af)):a.length<=(l.foldl addQ a).length:=by
 induction l generalizing a with
 |nil=>exact bi _
 |cons x r b=>exact c7 (addQ_len a x) (b _)
def uniqQ_le(a:List (PrK×af))(i:Nat):(uniqQ (a.take i)).length<=(uniqQ a).length:=by
 have e:uniqQ a=(a.drop i).foldl addQ (uniqQ (a.take i)):=by unfold uniqQ;rw[<-z5,l8]
 rw[e];exact uniqQ_mono _ _
def uniqQ_mem(l b:List (PrK×af)):∀x∈l.foldl addQ b,x∈b\/x∈l:=by
 induction l generalizing b with
 |nil=>exact λx a=>.inl a
 |cons y r c=>
  intro x a;rcases c _ x a with z|z
  .unfold addQ at z
   grind
  grind
def uniqQ_sub(h:x∈uniqQ a):x∈a:=(uniqQ_mem a [] x h).elim (λz=>by simp at z) id
def setPHO(X:Cx)(a:af)(b:List (PrK×af)):HO:=.ext λh=>SetV (prKd X.prog X.w) h a (b.map toV)
def refs(a:List (PrK×af)):List V:=a.map λq=>.ref q.2
def refs_vals:∀{a:List (PrK×af)}{b:List ai},bG (refs a) b->b=a.map λq=>Value.ref q.2
 |[],_,.nil=>rfl
 |q::a,_,.cons r h=>by cases r;rw[refs_vals h];rfl
def vals_refs:∀(a:List (PrK×af)),bG (refs a) (a.map λq=>Value.ref q.2)
 |[]=>.nil
 |q::a=>.cons rfl (vals_refs a)
def call_setLP(hu:X.A.units+64<cLine)(hc:X.calm=ah):eG X (.type "set") (λxs H Q=>∃(p:af) (c:List (PrK×af)),xs=[.ref p]/\cF X.K H p (refs c)/\(∀q∈c,PrH H q.1 q.2)/\(uniqQ c).length<4000/\∀a,H a=ae->Q (.ref a) (upd H a (setPHO X a (uniqQ c)))):=by
 intro ag s σ H xs us Q I r h;obtain⟨p,c,rfl,D,hP,h4,q⟩:=h;obtain⟨u,rfl,N⟩:=vals1 r;cases N;obtain⟨z,M,Y,hz⟩:=I.list D;have bO:=refs_vals M;have C:z.toArray.size=c.length:=by grind
 have f:∀(h:aB),(∀b o,b<s.heap.objs.size->s.heap.get? b=aa o->h.get? b=aa o)->∀x∈c,(prKd X.prog X.w).is h (kS x.1) (.ref x.2):=λh k x A=>(prKd X.prog X.w).keep ((hP x A).is I.hok) λb o e _=>k b o (bH e) e;refine Js (P:=X.prog) (w:=X.w) (I.ok.hd hc) (.inl Y.isList) (J:=λi h=>SetV (prKd X.prog X.w) h s.heap.objs.size ((uniqQ (c.take i)).map toV)/\∀b o,b<s.heap.objs.size->s.heap.get? b=aa o->h.get? b=aa o)
  (λi h n ⟨S,k⟩ g=>⟨S.at λo e=>g _ o (bi _) e,λb o l e=>g b o (kI l) (k b o l e)⟩) ⟨⟨#[],0,_,[],cV _ rfl,uj _,rfl,by decide,⟨⟨rfl,List.Pairwise.nil,(λj hj=>by cases hj),(by show 7∈_;decide),(by show 0*5<7*3;decide)⟩,rfl,(λq D=>by cases D)⟩,rfl,λh=>absurd rfl h⟩,λb o _ e=>bL _ e⟩
  (λi v d E Q hi B ⟨S,k⟩ q=>?_) λn m ⟨S,_⟩ k=>?_
 .have y:i<c.length:=∅
  obtain rfl:v=.ref c[i].2:=by rw[bO]at B;simp[y]at B;exact B.symm
  have F:=f d.heap k c[i] (wM y);unfold setAdd;refine iQ (aq (hash_pr (P:=X.prog) (w:=X.w) (s:=d) (show X.A.units+3+4<cLine by lia) F d.toks _ _ λm O=>?_));refine set_addV (kd:=prKd X.prog X.w) (s:={d with toks:=m}) (k:=kS c[i].1) (show X.A.units+3+4<cLine by lia) S (λp hp=>?_) F (by rw[cK];exact zX (uniqQ_le c i) h4) λn b G Z=>?_
  .obtain⟨x,A,rfl⟩:=b8.mp hp;exact f d.heap k x (List.mem_of_mem_take (uniqQ_sub A))
  .refine q n m b O G ⟨?_,λb o l e=>by rw[G.2 b (dE l)];exact k b o l e⟩;rw[uniqQ_take c i y,<-addV_toV];exact Z
 .have L:SetV (prKd X.prog X.w) n s.heap.objs.size ((uniqQ c).map toV):=by
   rw[C,D8]at S;exact S
  refine⟨.ref s.heap.objs.size,_,I.laid (t':=m) (o:=setPHO X s.heap.objs.size (uniqQ c)) (λb o e=>k b o (bH e) e) (bi _) ?_,rfl,q _ I.fresh⟩;obtain⟨es,ep,t,ss,e,_⟩:=L.ex;exact⟨L,⟨_,e⟩,λh1 h2 W T=>W.at T⟩
def call_sortedSetP(hu:X.A.units+64<cLine)(hc:X.calm=ah):eG X (.builtin "sorted") (λxs H Q=>∃(p:af) (d:List (PrK×af)) (n:Int),xs=[.ref p]/\H p=aa (setPHO X p d)/\(∀q∈d,PrH H q.1 q.2/\q.1.1=n)/\d.length<4000 /\ ∀l g,H l=ae->Vd g d->g.Pairwise (λx y=>ltL y.1.2 x.1.2=ak)->Q (.ref l) (upd H l (.lst (refs g)))):=by
 intro ag s L H xs us Q I r h;obtain⟨p,d,n,rfl,hq,F,h4,q⟩:=h;obtain⟨u,rfl,N⟩:=vals1 r;cases N;obtain⟨S,_,_⟩:=(show cn X.prog X.w H s.heap p (setPHO X p d)from I.hok p _ hq)
 obtain⟨G,ep,t,ps,ho,hp,Y,B,T,W,dv⟩:=S.ex;have SE:sM X.w s.heap p G:=⟨ep,t,ho,B,T.fits (by simp),W,λh0=>dv λz=>h0 (by simp_all)⟩
 have m:(G.toList.map (·.2)).Perm (d.map λq=>Value.ref q.2):=by rw[Y,cT];have:=hp.map (·.2);rwa[cT]at this
 refine sorted_genK ∅ (Ff (uV (I.ok.hd hc)) SE λM vs pv k eg eo=>?_);obtain⟨C,g',d',t',P⟩:=M;obtain rfl:g'=s.gens:=eg;obtain rfl:P=s.os:=eo;have D:Inv X ag L H {s with heap:=C,drawn:=d',toks:=t'}:=by have:=Inv.call (ch:=[]) I (g':=s.gens) (d':=d') (t':=t') (Un.kept (fs:=fJ X.stack) (ex:=[]) k) (I.hok.kept k) I.bare (λb hb=>absurd hb (by simp));exact this
 have a:=pv.trans m;have c:∀x∈d,PrIs C (n,x.1.2.map tS) (.ref x.2):=λx f=>by have:=(F x f).1.is D.hok;rw[<-(F x f).2];exact this
 refine⟨prKey C n,tuples' ah,λv A=>?_,by have:=a.length_eq;grind,λA' h2 hA i Z=>⟨prLt hA λb o e _=>i b o e,λ{E Q} O=>prKind (n:=n) (λv A=>?_) Z O⟩,λh2 w e i iz b1 b2=>?_⟩
 .obtain⟨x,f,rfl⟩:=b8.mp (a.mem_iff.mp A);exact⟨_,prKey_of (c x f)⟩
 .obtain⟨x,f,rfl⟩:=b8.mp (a.mem_iff.mp A);exact⟨_,(prKd X.prog X.w).keep (c x f) λb o e _=>i b o e⟩
 .obtain⟨g,J,j⟩:=perm_mapE (b1.trans a);refine⟨.ref _,_,D.laid (t':=t') (o:=.lst (refs g)) i (bi _) ⟨?_,w.toList,e,by rw[J];exact vals_refs g,by rw[Array.toArray_toList];exact iz⟩,rfl,q _ g D.fresh j ?_⟩
  .unfold refs;rw[cK,j.length_eq];exact kI (sT ∅)
  .rw[J]at b2;refine(pB.mp b2).imp_of_mem λ{x y} f hy hh=>?_;have:ltL _ _=ak:=hh _ _ (prKey_of (c x (j.mem_iff.mp f))) (prKey_of (c y (j.mem_iff.mp hy)));simpa[cpsL,cT,l3,j8]using this
end
end L2
namespace Pu
open L2
section
variable{X:Cx}{e:aC}{p q:Pos}
def pr1:PV->Option PrK
 |.tup [.int n,.tup xs]=>(fV xs).bind λa=>if a≠[] then aa (n,a)else ae
 |_=>ae
def prs:List PV->Option (List PrK)
 |[]=>aa []
 |x::xs=>(pr1 x).bind λk=>(prs xs).bind λks=>aa (k::ks)
def prV(k:PrK):PV:=.tup [.int k.1,.tup (am k.2)]
def uniqK(ks:List PrK):List PrK:=ks.foldl (λa k=>if k∈a then a else a++[k]) []
def leK2(a b:PrK):Bool:=!ltL b.2 a.2
def sortK(ks:List PrK):List PrK:=ks.mergeSort leK2
def sortSetVP:List PV->Option PO
 |[.lst xs]=>(prs xs).bind λks=>if(uniqK ks).length<4000/\∀k∈ks,k.1=(ks.headD (0,[])).1 then aa (.lst ((sortK (uniqK ks)).map prV))else ae
 |_=>ae
def pr1_eq(h:pr1 x=aa k):x=prV k/\k.2≠[]:=by
 unfold pr1 at h;split at h
 .obtain⟨f,c,a⟩:=uz.mp h;split at a
  .rename_i b;cases a;rw[uX c];exact⟨rfl,b⟩
  .cases a
 .cases h
def prs_eq:∀{xs:List PV}{ks:List PrK},prs xs=aa ks->xs=ks.map prV/\∀k∈ks,k.2≠[]
 |[],ks,h=>by cases h;grind
 |x::xs,ks,h=>by
  obtain⟨k,j,f⟩:=uz.mp h;obtain⟨a,c,b⟩:=uz.mp f;cases b;obtain⟨m,l⟩:=prs_eq c;obtain⟨b1,b2⟩:=pr1_eq j
  grind
def pr_rep{K:ax}{H:Hp}{F:af->Prop}{k:PrK}{v:V}(h:aN K H F (prV k) v)(m:k.2≠[]):∃a,v=.ref a/\PrH H k a:=by obtain⟨a,u,rfl,f,j,x,rfl,r,w,l,rfl,⟨b,s,rfl,c,o⟩,n⟩:=h;rw[show l=[] from n,show j=.int k.1 from r]at f;rw[(VB.mp o).1]at c;exact⟨a,rfl,m,b,f,c⟩
def prs_rep{K:ax}{H:Hp}{F:af->Prop}:∀{ks:List PrK}{c:List V},a6 K H F (ks.map prV) c->(∀k∈ks,k.2≠[])->∃b:List (PrK×af),b.map (·.1)=ks/\c=refs b/\∀q∈b,PrH H q.1 q.2/\aN K H F (prV q.1) (.ref q.2)
 |[],_,h,_=>⟨[],rfl,h,λq f=>by cases f⟩
 |k::ks,_,⟨v,r,e,o,n⟩,j=>by
  obtain⟨a,rfl,w⟩:=pr_rep o (j k j_);obtain⟨b,u,l,s⟩:=prs_rep n λy m=>j y (iu _ m);refine⟨(k,a)::b,by grind,by rw[e,l];rfl,λq f=>?_⟩
  grind
def reps_refs{K:ax}{H:Hp}{F:af->Prop}:∀{a:List (PrK×af)},(∀q∈a,aN K H F (prV q.1) (.ref q.2))->a6 K H F ((a.map (·.1)).map prV) (refs a)
 |[],_=>rfl
 |q::a,h=>⟨_,_,rfl,h q j_,reps_refs λx b=>h x (iu _ b)⟩
def uniqQ_keys(l a:List (PrK×af)):(l.foldl addQ a).map (·.1)=(l.map (·.1)).foldl (λa k=>if k∈a then a else a++[k]) (a.map (·.1)):=by
 induction l generalizing a with
 |nil=>rfl
 |cons x r b=>
  rw[iU,b,cR,iU];congr 1;unfold addQ;split
  .rfl
  .rw[ui];rfl
def uniqK_nodup(l a:List PrK)(h:a.Nodup):(l.foldl (λa k=>if k∈a then a else a++[k]) a).Nodup:=by
 induction l generalizing a with
 |nil=>exact h
 |cons x r b=>grind
def sortK_uniq{l:List PrK}(m:l.Perm ks)(o:∀k∈ks,k.1=n)(r:l.Pairwise (λx y=>ltL y.2 x.2=ak)):l=sortK ks:=by
 refine J4 (le:=λa b=>leK2 a b=ah) (λa b u s j f=>?_) (r.imp λh=>by unfold leK2;rw[h];rfl) (J3 (λa b c=>?_) (λa b=>?_) ks) (m.trans (Dy ks leK2).symm)
 .have z:=o a (m.mem_iff.mp u);have w:=o b ((Dy ks leK2).mem_iff.mp s);unfold leK2 at j f;have:=ordL.total a.2 b.2 (show ltL a.2 b.2=ak by simpa using f) (show ltL b.2 a.2=ak by simpa using j);exact Prod.ext (z.trans w.symm) this
 .unfold leK2;intro j f;have:=rm (O:=ordL) (a:=a.2) (b:=b.2) (c:=c.2) (show ltL b.2 a.2=ak by simpa using j) (show ltL c.2 b.2=ak by simpa using f);have:ltL c.2 a.2=ak:=this;rw[this];rfl
 .unfold leK2;cases h:ltL b.2 a.2 with
  |false=>rfl
  |true=>
   have:ltL a.2 b.2=ak:=by
    cases v:ltL a.2 b.2 with
    |false=>rfl
    |true=>exact absurd (ordL.trans _ _ _ h v) (by have:ltL b.2 b.2=ak:=ordL.irrefl _;show ¬ltL b.2 b.2=ah;rw[this];decide)
   rw[this];rfl
def rSetThenP(X:Cx)(r:List V->Hp->VK->Prop):List V->Hp->VK->Prop:=λxs H Q=>∃(p:af) (b:List (PrK×af)),xs=[.ref p]/\cF X.K H p (refs b)/\(∀q∈b,PrH H q.1 q.2)/\(uniqQ b).length<4000/\∀a,H a=ae->r [.ref a] (upd H a (setPHO X a (uniqQ b))) Q
def rSortP(X:Cx):List V->Hp->VK->Prop:=λxs H Q=>∃(p:af) (a:List (PrK×af)) (n:Int),xs=[.ref p]/\H p=aa (setPHO X p a)/\(∀q∈a,PrH H q.1 q.2/\q.1.1=n)/\a.length<4000 /\
  ∀l b,H l=ae->Vd b a->b.Pairwise (λx y=>ltL y.1.2 x.1.2=ak)->Q (.ref l) (upd H l (.lst (refs b)))
def pln_sortSetV:lA X.K (rSetThenP X (rSortP X)) sortSetVP:=λF H xs vs Q po hF S e q=>by
 unfold sortSetVP at e;split at e
 .obtain⟨v,rfl,a,us,rfl,Z,_,P⟩:=gI S;obtain⟨ks,e1,D⟩:=uz.mp e;obtain⟨rfl,cE⟩:=prs_eq e1;obtain⟨j,W,rfl,u⟩:=prs_rep P cE;split at D
  .rename_i M;cases D;have L:(uniqQ j).map (·.1)=uniqK ks:=by unfold uniqQ uniqK;rw[uniqQ_keys,W];rfl
   have r:(uniqQ j).length<4000:=by rw[<-cK (f:=(·.1)),L];exact M.1
   have I:∀q∈j,q.1.1=(ks.headD (0,[])).1:=λq m=>M.2 _ (by grind);refine⟨a,j,rfl,.inl Z,λq m=>(u q m).1,r,λb C=>⟨b,uniqQ j,(ks.headD (0,[])).1,rfl,upd_same,λq m=>⟨?_,I q (uniqQ_sub m)⟩,r,λl G s J Y=>?_⟩⟩
   .obtain⟨h0,c,O,N⟩:=(u q (uniqQ_sub m)).1;exact⟨h0,c,by rw[a8 (kX O C)];exact O,by rw[a8 (kX N C)];exact N⟩
   .have A:l≠b:=by rintro rfl;rw[upd_same]at s;cases s
    have B:H l=ae:=by rw[a8 A]at s;exact s
    have al:Al F F H (upd (upd H b (setPHO X b (uniqQ j))) l (.lst (refs G))):=(Al.new0 C).trans (Al.new0 s);have ez:G.map (·.1)=sortK (uniqK ks):=by rw[<-L];refine sortK_uniq (n:=(ks.headD (0,[])).1) (J.map _) (λk T=>?_) (pB.mpr Y);obtain⟨y,x,rfl⟩:=b8.mp T;exact I y (uniqQ_sub x)
    refine q l F _ (λc=>c=l) al ⟨⟨_,upd_same,?_⟩,λc=>kN⟩ λc z=>?_
    .rw[<-ez];refine reps_refs λy x=>?_;exact aN.mono (λ_ h=>h) (λ_ _ _ h=>al.same.rd h) (λc o h _=>al.same c o h) _ _ (u y (uniqQ_sub (J.mem_iff.mp x))).2
    .subst z;exact⟨B,λz=>wX (hF _ z) (λo w=>by lia),_,upd_same,trivial⟩
  .cases D
 .cases e
def dn_sortSetV(c:X.A.units+64<cLine)(f:X.calm=ah)(n:DA X E [e] i)(l:X.mg "sorted"=ae)(a:X.mg "set"=ae)(m:Gl X "sorted":=by rfl)(b:Gl X "set":=by rfl)(h:o5 e=ak:=by rfl):DN X E (.Call (.Name "sorted" p) [.Call (.Name "set" q) [e] [] d] [] g) (dL sortSetVP i):=λF S s r H Q j o=>cb (mH (call_sortedSetP c f) m l mD (je (zk (call_setLP c f) b a GT jh (by decide) (by decide) (jx h) rfl) jE (jx rfl)) (by decide) (by decide) (jx rfl) rfl) (vK pln_sortSetV n j o)
end
end Pu
namespace L2
section
variable{X:Cx}{l:List aC}{k:Nat}{j:Pos}
def Cu:V->Hp->St->Prop:=λv H a=>∃p x y,v=.ref p/\H p=aa (.tup [x,y])/\a=[aa x,aa y]
def Lu(B:iG X f x g i)(P:X.calm=ah)(D:g[1]?=aa y)(J:f.names.lookup y=aa .local):∀C m o A z,PG (bB X f g C m o A z) (.Tuple [.Name x N,.Name y M] k j) λv w H Q=>∃E,E.length=1+1/\w.length=g.length/\Cu v H E/\Q (E++w.drop (1+1)) H:=by
 intro C m o A z T s w H v u Q I r h;obtain⟨E,_,S,⟨p,a,b,rfl,O,rfl⟩,q⟩:=h;have Y:Loc (bB X f g C m o A z).env.scope x:=B.loc.elim (λh=>.inl (wL h)) (λh=>.inr (yM h));have W:(bB X f g C m o A z).fn x=ah\/(bB X f g C m o A z).env.scope.names.lookup x=aa .local:=B.loc.elim (λh=>.inr (wL h)) (λh=>.inl (by show(f.names.lookup x == aa .cell)=ah;rw[h];rfl));have F:(bB X f g C m o A z).N[0]?=aa x:=by show g[0]?=aa x;rw[<-List.head?_eq_getElem?];exact B.hd
 have L:Q (((w.set 0 (aa a)).set 1 (aa b))) H:=by
  match w,S,q with
  |c::d::t,_,q=>exact q
  |[c],G,_=>rw[oh (by rw[<-G];simp)]at D;cases D
  |[],G,_=>rw[oh (by rw[<-G];simp)]at D;cases D
 refine HZ (X:=bB X f g C m o A z) (n:=2) P (zG (qN (X:=bB X f g C m o A z) B.nd F Y W) (zG (qN (X:=bB X f g C m o A z) B.nd (show(bB X f g C m o A z).N[1]?=aa y from D) (.inl (wL J)) (.inr (wL J))) HS)) rfl rfl T s w H _ u Q I r ⟨p,[a,b],rfl,cu.of O,rfl,a,[b],rfl,b,[],rfl,rfl,L⟩
end
end L2
namespace Pu
open L2
def nP{f:Type}(b:List Nat)(d:ac f)(x y:PV):ac f:=λa=>(aS (bW a b) a).bind λc _=>(aS (if(cI c).Nodup then eU a (.inl x::.inl y::c)else ae) a).bind λg _=>fP a (.inl x::.inl y::c) (d g)
def oV(a:List Nat)(dt:ac Bool)(de:ac PV):List (PV×PV)->List PV->aj->R (List PV)
 |[],c,f=>.ok c f
 |x::xs,c,f=>(bq (nP a dt x.1 x.2 f)).bind λk b=>match k with
  |true=>(bq (nP a de x.1 x.2 b)).bind λy d=>oV a dt de xs (c++[y]) d
  |false=>oV a dt de xs c b
def qv(cap:List Nat)(c:ac (List (PV×PV)))(dt:ac Bool)(de:ac PV):ac PO:=λε=>(c ε).bind λxs ε1=>(oV cap dt de xs [] ε1).bind λb a=>.ok (.lst b) a
def F7{K:ax}{E:XK}{F:af->Prop}{S:Nat->af->Prop}{s:aj}{f:St}{H:Hp}{L:Type}{b:List Nat}{d:ac L}{x y:PV}{v w:V}{C:L->aj->(af->Prop)->(Nat->af->Prop)->Hp->Prop}(r:aL K F S s f H) (T:aN K H F x v) (Q:aN K H F y w) (h:Ok K E f F S H (bq (nP b d x y s)) C):∃O l,aL K F O l (aa v::aa w::fc f b) H/\Ok K E0 (aa v::aa w::fc f b) F O H (d l) (λa _ q _ p=>∃j B,aL K q B j f p/\Grow (U S) (U B) F q H p/\C a j q B p):=by
 unfold nP at h;cases I:bW s b with
 |none=>rw[I]at h;exact h.elim
 |some g=>
  rw[I]at h;simp only[bS,R.bind_ok]at h;by_cases D:(cI g).Nodup
  .rw[if_pos D]at h;cases A:eU s (.inl x::.inl y::g)with
   |none=>rw[A]at h;exact h.elim
   |some l=>
    rw[A]at h;simp only[bS,R.bind_ok]at h;obtain⟨u,Z,Y⟩:=uY r I;have o:jW K f F H (.inl x::.inl y::g) (v::w::u):=⟨v,w::u,rfl,T,w,u,rfl,Q,Z⟩
    have n:aa v::aa w::fc f b=(v::w::u).map aa:=by rw[Y];rfl
    have m:(cI (.inl x::.inl y::g)).Nodup:=D;refine⟨lF (.inl x::.inl y::g) S,l,by rw[n];exact r.cal o A m,?_⟩;rw[n];cases G:d l with
    |no=>rw[G]at h;exact h.elim
    |er c J=>
     rw[G]at h;unfold fP at h;dsimp only at h;by_cases i:fX (.inl x::.inl y::g) J=ah
     .rw[if_pos i]at h;exact h.elim
     .rw[if_neg i]at h;exact h.elim
    |ok a J=>
     rw[G]at h;intro q B p W X;unfold fP at h;dsimp only at h;by_cases i:fX (.inl x::.inl y::g) J=ah
     .rw[if_pos i]at h;obtain⟨P,M,N,_⟩:=r.called o A m W X (λ_ z=>z) (nG i);exact⟨_,P,M,N,h q P p M N⟩
     .rw[if_neg i]at h;exact h.elim
  .rw[if_neg D]at h;exact h.elim
def IJ(J:It)(b:List (V×V))(R:Hp->Prop):Prop :=
 ∀H,R H->∀i,(∀x,b[i]?=aa x->J.go i H/\∀v a,J.yld i H v a->∃p,v=.ref p/\a p=aa (.tup [x.1,x.2])/\(a=H\/(H p=ae/\a=upd H p (.tup [x.1,x.2]))))/\(i=b.length->J.stop i H)
def tE(K:ax)(H:Hp)(F:af->Prop)(b:List (PV×PV))(a:List (V×V)):Prop:=a6 K H F (b.map (·.1)) (a.map (·.1))/\a6 K H F (b.map (·.2)) (a.map (·.2))
def BQ(X:Cx)(E:XK)(o a:aC)(d:ac (List (PV×PV))):Prop:=∀F S j c H l,aL X.K F S j c H ->
 Ok X.K E c F S H (d j) (λp _ n q h=>∀J f m,tE X.K h n p f->f.length<=bo->IJ J f m->(∀g i b,Grow (U q) (U g) n i h b->m b)->l J h)->lO X o a c H l
section
variable{X:Cx}{E:XK}{c:dU}{x y:Str}{d:List Str}{cap:List Nat}
def Mv{elt M:aC}{tg:aC}{ifs:List aC}{j:Nat}{di:ac (List (PV×PV))}{dt:ac Bool}{de:ac PV}(hi:BQ X E tg M di)(ht:∀C f g n r,DF (bB X c d C f g n r) E0 ifs dt) (he:∀C f g n r,DE (bB X c d C f g n r) E0 elt de){Q:VK} (rl:aL X.K F S ε s H) (h:Ok X.K E s F S H (qv cap di dt de ε) (λpo _ B S' w=>∀a Sa,fq X.K w B po a Sa->(∀b,Sa b->H b=ae/\¬B b/\¬U S' b/\∃o,w b=aa o/\eA o)->Q (.ref a) w)):zK (lO X tg M) Cu 1 (λs H Q=>∀C f g n r,nJ (bB X c d C f g n r) ifs s H Q) (λs H Q=>∀C f g n r,gG (bB X c d C f g n r) elt s H Q) (j::cap) s H Q:=by
 refine hi F S ε s H _ rl ((Ok.bind h).imp λxs ε1 T S1 H1 r1 g1 h1 J vs RR rs hz hw keep l hl=>?_);have h1:=h1.bind;have hvl:vs.length=xs.length:=by have:=rs.1.len;simpa using this
 have a0:Al T T H1 (upd H1 l (.lst [])):=Al.new0 hl;have nF1:¬T l:=λz=>by obtain⟨o,q⟩:=r1.ex l z;lia
 have nS1:¬U S1 l:=λ⟨i,z⟩=>by obtain⟨_,_,o,q,_⟩:=r1.foot i l z;lia
 have hH:H l=ae:=oQ g1 hl;refine⟨λi m I w=>m=xs.length-i/\i<=xs.length/\∃B S' ε' aA,aL X.K B S' ε' s w/\Grow (U S1) (U S') T B H1 w/\w l=aa (.lst I)/\¬B l/\¬U S' l/\a6 X.K w B aA I/\I.length<=i /\ Ok X.K E s T S1 H1 (oV cap dt de (xs.drop i) aA ε') (λys' D G S2 P=>Ok X.K E s G S2 P (R.ok (PO.lst ys') D) (λpo _ B S' w=>∀a Sa,fq X.K w B po a Sa->(∀b,Sa b->H b=ae/\¬B b/\¬U S' b/\∃o,w b=aa o/\eA o)->Q (.ref a) w)),⟨_,rfl,jM _,T,S1,ε1,[],r1.al a0,a0.grow,upd_same,nF1,nS1,rfl,bi _,h1⟩,?_⟩;rintro i m I H0 ⟨rfl,hi,G,S2,D,aA,r0,g0,el0,nF2,nS2,A,hyl,q2⟩;have RH:=keep S2 G H0 g0;by_cases bn:i<xs.length
 .obtain⟨v,hv⟩:∃v,vs[i]?=aa v:=⟨_,d9 ∅⟩
  obtain⟨go,yl⟩:=(hw H0 RH i).1 v hv;refine .inr ⟨go,λv' P yy=>?_⟩;obtain⟨p,e1,e2,e3⟩:=yl v' P yy;subst e1;refine⟨[aa v.1,aa v.2],rfl,⟨p,_,_,rfl,e2,rfl⟩,?_⟩;have al:Al G G H0 P:=by
   rcases e3 with rfl|⟨e3,rfl⟩
   .exact Al.refl ..
   .exact Al.new0 e3
  have r2:=r0.al al;have g2:Grow (U S1) (U S2) T G H1 P:=g0.trans al.grow;have el:P l=aa (.lst I):=al.same _ _ el0;have L:=al.reps A;show ∀C f g n r,nJ (bB X c d C f g n r) ifs (aa v.1::aa v.2::fc s cap) P _;obtain⟨Z,hx,rx⟩:=rs.1.back (show(vs.map (·.1))[i]?=aa v.1 by rw[d8,hv];rfl);obtain⟨Y,hy,ry⟩:=rs.2.back (show(vs.map (·.2))[i]?=aa v.2 by rw[d8,hv];rfl);have n:xs[i].1=Z:=by rw[d8,d9 bn]at hx;exact f_ hx
  have ey:xs[i].2=Y:=by rw[d8,d9 bn]at hy;exact f_ hy
  have ed:xs.drop i=(Z,Y)::xs.drop (i+1):=by rw[wU bn];congr 1;exact Prod.ext n ey
  rw[ed]at q2;have rx2:=rx.grow g2 r1.fit;have ry2:=ry.grow g2 r1.fit;have q3:=Ok.bindB q2 g2;obtain⟨Sb,ss,rb,okb⟩:=F7 r2 rx2 ry2 q3;intro C f g n r;refine ht C f g n r G Sb ss _ P _ rb (okb.imp λb _ F3 _ H3 _ _ ⟨ε3,S3,r3,N,q4⟩=>?_);obtain⟨el3,nF3,nS3⟩:=N.stay el nS2 nF2;cases b with
  |false=>exact nz ⟨_,∅,rfl,bn,F3,S3,ε3,aA,r3,g2.trans N,el3,nF3,nS3,L.grow N r2.fit,∅,q4⟩
  |true=>refine nL ?_;have q5:Ok X.K E s T S1 H1 ((bq (nP cap de Z Y ε3)).bind λy D=>oV cap dt de (xs.drop (i+1)) (aA++[y]) D) _:=q4;obtain⟨Sc,sc,rc,okc⟩:=F7 r3 (rx2.grow N r2.fit) (ry2.grow N r2.fit) (Ok.bindB q5 (g2.trans N));show ∀C f g n r,gG (bB X c d C f g n r) elt (aa v.1::aa v.2::fc s cap) H3 _;intro C f g n r;refine he C f g n r F3 Sc sc _ H3 _ rc (okc.imp λy _ F4 _ H4 _ _ ⟨ε4,S4,r4,g4,q6⟩ u ru=>?_);obtain⟨el4,nF4,nS4⟩:=g4.stay el3 nS3 nF3;have W:=(L.grow N r2.fit).grow g4 r3.fit;obtain⟨gl,O,r5⟩:=r4.lay (o':=.lst (I++[u])) el4 trivial nF4 nS4;have g5:=((g2.trans N).trans g4).lay (o':=.lst (I++[u])) hl;refine⟨el4,?_,_,∅,rfl,bn,F4,S4,ε4,aA++[y],r5,g5,upd_same,nF4,nS4,(W.grow gl O).app (.one (ru.grow gl O)),by simp;lia,q6⟩;lia
 .have e:i=xs.length:=∅
  subst e;refine .inl ⟨(hw H0 RH _).2 hvl.symm,?_⟩;rw[Ae]at q2;exact q2 G S2 H0 r0 g0 G S2 H0 r0 (Grow.refl ..) l (λb=>b=l) ⟨⟨I,el0,A⟩,λb=>kN⟩ λb z=>by subst z;exact⟨hH,nF2,nS2,_,el0,trivial⟩
def jZ{b a:Type}(f:Nat->a):Nat->List b->List (a×b)
 |_,[]=>[]
 |n,x::xs=>(f n,x)::jZ f (n+1) xs
def Bl(f:Nat->a):∀(n:Nat) (xs:List b),(jZ f n xs).map (·.2)=xs
 |_,[]=>rfl
 |n,x::xs=>by show x::_=_;rw[Bl f (n+1) xs]
def IZ(f:Nat->a):∀(n:Nat) (xs:List b) (i:Nat),(jZ f n xs)[i]?=(xs[i]?).map λx=>(f (n+i),x)
 |_,[],i=>rfl
 |n,x::xs,0=>rfl
 |n,x::xs,i+1=>by show(jZ f (n+1) xs)[i]?=(xs[i]?).map _;rw[IZ f (n+1) xs i,show n+1+i=n+(i+1) by lia]
def Bs(f:Nat->a):∀(n:Nat) (xs:List b),(jZ f n xs).length=xs.length
 |_,[]=>rfl
 |n,x::xs=>by show(jZ f (n+1) xs).length+1=_;rw[Bs f (n+1) xs];rfl
def vW(xs:List PV):List (PV×PV):=jZ (λi=>PV.int (i:Nat)) 0 xs
def Hv{K:ax}{H:Hp}{F:af->Prop}:∀(n:Nat) {xs:List PV}{a:List V},a6 K H F xs a->a6 K H F ((jZ (λi=>PV.int (i:Nat)) n xs).map (·.1)) ((jZ (λi=>V.int i) n a).map (·.1))
 |_,[],a,h=>by cases h;rfl
 |n,x::xs,a,⟨v,r,e,f,b⟩=>by subst e;exact⟨_,_,rfl,rfl,Hv (n+1) b⟩
end
section
variable{X:Cx}{f:Pos}
def T9(i:Nat)(hN:X.N.Nodup)(B:iG X a x N' (j::cap))(L:X.calm=ah)(hi:BQ X E (.Tuple [.Name x o,.Name z n] k m) b q)(T:∀C r u w v,DF (bB X a N' C r u w v) E0 c dt) (he:∀C r u w v,DE (bB X a N' C r u w v) E0 d de) (O:N'[1]?=aa z:=by rfl) (Z:a.names.lookup z=aa .local:=by rfl)(Y:i∉l:=by decide) (N:X.N[i]?=aa y:=by rfl) (P:Loc X.env.scope y:=by first|exact Or.inl rfl|exact Or.inr rfl) (M:jr (.ListComp d [⟨.Tuple [.Name x o,.Name z n] k m,b,c,0⟩] a g) (aa (.Name y p)) f.line X.env=pure ah:=by rfl)(hf:av X y:=by mleft) (W:∀x,lT b X.env x=pure x:=by intro _;rfl):DS X E l (.Assign [.Name y p] (.ListComp d [⟨.Tuple [.Name x o,.Name z n] k m,b,c,0⟩] a g) f) (bw i (dF (qv cap q dt de))):=λF S ε A H D J h=>
 fS (G2 (k:=1) (tgf:=Cu) (wi:=lO X (.Tuple [.Name x o,.Name z n] k m) b) (ts:=λA H Q=>∀C r u w v,nJ (bB X a N' C r u w v) c A H Q) (te:=λA H Q=>∀C r u w v,gG (bB X a N' C r u w v) d A H Q) B (by simp) L wu (Lu B L O Z)
  (λC r u w v G s A H Q I h=>(h C r u w v).run G s I) (λC r u w v G s A H Q I h=>(h C r u w v).run G s I) hN N P M hf W) (Mv hi T he J (FH Y J h))
end
end Pu
namespace PySem
open PySem.AutoSeq1 (wpAny_loadPart')
section
variable{A:aX}{s:ao}
def MY{items}(f:s.heap.IsTupleIter a t i)(m:s.heap.IsTuple t items)(l:items[i]?=aa x)(p:∀g,g.IsTupleIter a t (i+1)->ka a s.heap g->Q x {s with heap:=g}):ar (aw b w) A (Ei (.ref a)) Q E s:=by obtain⟨o,d,n,c⟩:=id f;obtain⟨q,j,_,r,h⟩:=m;unfold Ei;refine aq (wG (name:=ua "__next__") f.typeIs Ej (ll Ej f.typeIs F.entry_tuple_iterator_next ?_ (F.args_tuple_iterator_next_1 _)));show ar _ _ (field (.ref a) 0 >>= _) _ _ s;refine aq (lX d c (x:=.ref t) rfl ?_);show ar _ _ (if(Value.ref t == Value.none)=ah then _ else _) _ _ s;rw[if_neg (show ¬((Value.ref t == Value.none)=ah)from gb)];show ar _ _ (field (.ref a) 1 >>= _) _ _ s;refine aq (lX d c (x:=.int i 0) rfl ?_);show ar _ _ (z7 (.ref t) >>= _) _ _ s;refine aq (wT j h ?_);simp only[lW,l];refine aq (mT d c (by simp) (aF ⟨x,rfl,aF (p _ ?_ (mS ..))⟩));exact⟨_,mM _ d (wW (oj c _)),(Kf ..).trans n,by rw[oj c];simp[dq]⟩
def Oo{items}(j:A.handled=ae)(d:s.heap.IsTupleIter c t i)(q:s.heap.IsTuple t items)(p:items[i]?=ae)(r:∀h e,Heap.ExtBut c s.heap h->(∃o,h.get? e=aa o/\o.cls=.type "StopIteration")->E (.ref e) {s with heap:=h}):ar (aw b w) A (Ei (.ref c)) Q E s:=by
 obtain⟨o,f,y,g⟩:=id d;obtain⟨u,n,_,v,l⟩:=q;unfold Ei;refine aq (wG (name:=ua "__next__") d.typeIs Ej (ll Ej d.typeIs F.entry_tuple_iterator_next ?_ (F.args_tuple_iterator_next_1 _)));show ar _ _ (field (.ref c) 0 >>= _) _ _ s;refine aq (lX f g (x:=.ref t) rfl ?_);show ar _ _ (if(Value.ref t == Value.none)=ah then _ else _) _ _ s;rw[if_neg (show ¬((Value.ref t == Value.none)=ah)from gb)];show ar _ _ (field (.ref c) 1 >>= _) _ _ s;refine aq (lX f g (x:=.int i 0) rfl ?_);show ar _ _ (z7 (.ref t) >>= _) _ _ s;refine aq (wT n l ?_);simp only[lW,p];refine aq (mR (aq (mT f g (by simp) ?_)));show ar _ _ (rh (.type "StopIteration") [] >>= _) _ _ _;refine aq ?_;simp only[rh,newTuple];refine aq (ke ?_ (by size_fits));refine aq (m:=wR _ _) (n8 (a:=Value.none) (by first|rfl | (simp only[wR];rfl)) ?_);refine ke ?_ (by size_fits);simp only[wP];refine aq (wpAny_handled ?_)
 first|rw[show A.in1.handled=ae from j]|rw[j]
 refine aq (aF (wpAny_throw ?_));exact r _ _ (((mS ..).extBut.push _).push _) ⟨_,cV _ rfl,rfl⟩
end
def Pa(l:af)(a:Array ai)(n:Nat)(i:Option af)(o:Array (Option ai)):Meets (Builtin.«enumerate.__new__» ⟨[.type "enumerate",.ref l],[]⟩) (λ_ R s=>s.heap.get? l=aa {cls:=.type "tuple",dict:=i,data:=.seq a n,slots:=o} /\ R (.ok (.ret (.ref (s.heap.push {cls:=.type "tuple_iterator",data:=.fields #[.ref l,.int 0 0]}).objs.size))) {s with heap:=(s.heap.push {cls:=.type "tuple_iterator",data:=.fields #[.ref l,.int 0 0]}).push {cls:=.type "enumerate",data:=.fields #[.none,.bool ak,.ref s.heap.objs.size,dq 0,.none,.none]}}) :=
 .of_wp λj w A R s h=>by
  obtain⟨q,g,d,m,p⟩:=s;obtain⟨b,h⟩:=h;have u:=sub_enumerate;have f:Heap.IsTuple (Shared.heap ⟨q,g,d,m,p⟩) l a:=⟨_,b,rfl,n,rfl⟩
  wp_walk using pq b
  refine wpAny_stack_any λr=>aF ?_;split
  .rename_i c _ _ _ _ _;cases (c == Value.type "enumerate")
   .wp_walk using pq b,Ab f
    exact⟨_,rfl,h⟩
   .wp_walk using pq b,Ab f
    exact⟨_,rfl,h⟩
  .wp_walk using pq b,Ab f
   exact⟨_,rfl,h⟩
def Draws.tuple{A:aX}(j:A.handled=ae)(c l:af)(q:l≠c)(a:Array ai):Draws b w A c [c,l] a.size (λi v=>a[i]?=aa v) (λi h=>h.IsTupleIter c l i/\h.IsTuple l a) where
 live:=λ_ _ st=>let ⟨o,ho,_⟩:=st.1;⟨o,ho⟩
 frame:=λ_ _ _ st f=>⟨let ⟨o,ho,r⟩:=st.1;⟨o,f c (by simp) o ho,r⟩,let ⟨o,ho,r⟩:=st.2;⟨o,f l (by simp) o ho,r⟩⟩
 item:=λi s Q E g st m=>by refine MY st.1 st.2 (x:=a[i]) (by simp[g]) λp u d=>?_;exact m _ p s.toks (by simp[g]) ⟨u,st.2.extBut d.extBut q⟩ d
 done:=λs Q E st n=>Oo j st.1 st.2 (by simp) n
section
variable{s:ao}
def OA(v:s.heap.IsTuple l d)(h:∀f,IsEnum f (s.heap.objs.size+1) s.heap.objs.size 0 .none->f.IsTupleIter s.heap.objs.size l 0->f.objs.size=s.heap.objs.size+2 -> (∀b o,s.heap.get? b=aa o->f.get? b=aa o)->Q (.ref (s.heap.objs.size+1)) {s with heap:=f}):ar (aw a w) A (call (.type "enumerate") [.ref l]) Q E s:=by
 obtain⟨⟨c,m,dt,r⟩,u,j,n,i⟩:=v;replace j:c=.type "tuple":=j;replace i:dt=.seq d n:=i;subst j i;refine callType_new F.called_enumerate (by decide) (F.typeCall_enumerate_1 _) (F.newCall_enumerate_1 _) (λg=>F.args_object_init_2 g _) F.entry_enumerate_new
  (Pa l d n m r) ⟨u,?_⟩
 have p:(s.heap.push {cls:=.type "tuple_iterator",data:=.fields #[.ref l,.int 0 0]}).objs.size=s.heap.objs.size+1:=Dr ..;show _/\_;rw[p];have q:IsEnum ((s.heap.push {cls:=.type "tuple_iterator",data:=.fields #[.ref l,.int 0 0]}).push {cls:=.type "enumerate",data:=.fields #[.none,.bool ak,.ref s.heap.objs.size,dq 0,.none,.none]}) (s.heap.objs.size+1) s.heap.objs.size 0 .none:=by
  have:=cV (s.heap.push {cls:=.type "tuple_iterator",data:=.fields #[.ref l,.int 0 0]})
   (o:={cls:=.type "enumerate",data:=.fields #[.none,.bool ak,.ref s.heap.objs.size,dq 0,.none,.none]}) rfl
  rw[p]at this;exact this
 refine⟨⟨_,q,rfl⟩,h _ q ⟨_,bL _ (cV _ rfl),rfl,rfl⟩ (by simp_all) λb o x=>bL _ (bL _ x)⟩
end
end PySem
namespace L2
def yW(K:ax)(a:af):It :=⟨λi H=>∃xs x,cu K H a xs/\xs[i]?=aa x,λi H v c=>∃p x,H p=ae/\v=.ref p/\c=upd H p (.tup [.int i,x])/\∀b,cu K H a b->b[i]?=aa x,λi H=>∃xs,cu K H a xs/\xs.length=i⟩
def OV{P:aQ}{w:aJ}{K:ax}{es:List aC}{k:Nat}{pos:Pos}(a e j:af)(cE:e≠j):qh P w K (.Tuple es k pos) (yW K a) [e,j] e (λi h=>(∃l,IsEnum h e j (i:Nat) l)/\h.IsTupleIter j a i) where
 mem:=by simp
 obj:=λi h ⟨⟨l,C⟩,f⟩ b y=>by
  simp only[cC,ju,or_false]at y;rcases y with rfl|rfl
  .exact⟨_,C,λv z=>by cases z⟩
  .obtain⟨o,e,c,d⟩:=f
   grind
 keep:=λi h h' ⟨⟨l,C⟩,f⟩ k=>⟨⟨l,k e (by simp) _ C⟩,let ⟨o,ho,r⟩:=f;⟨o,k j (by simp) o ho,r⟩⟩
 item:=by
  intro X S hw hK D i ag s σ H E I Y f hg;subst S hw hK;obtain⟨⟨l,C⟩,f⟩:=f;obtain⟨xs,x,W,hx⟩:=hg;obtain⟨m,rv,p,hz⟩:=I.tuple W;obtain⟨u,hu,ru⟩:=rv.get hx;obtain⟨f0,f1,f2,f3,f4,f5⟩:=Y e (by simp);obtain⟨g0,g1,g2,g3,g4,g5⟩:=Y j (by simp);have G:a≠j:=λz=>by obtain⟨o1,L,c1,_⟩:=p;obtain⟨o2,e2,c2,_⟩:=f;lia
  have hea:e≠a:=λz=>by obtain⟨o1,L,c1,_⟩:=p;lia
  have bn:i<m.toArray.size:=by have:=(cP.mp hu).1;simpa using this
  refine wpAny_pyNext_enum_itemD (Draws.tuple (by show X.A.in1.handled=ae;exact I.ok.hd D) j a G m.toArray) C ⟨f,p⟩ bn cE (by simp[cE,hea]) λM h' T S uL aD ht hsz kp=>⟨_,rfl,?_⟩
  have eu:M=u:=by
   have B:m[i]?=aa M:= ~~~S
   rw[hu]at B;exact(f_ B).symm
  subst eu;replace aD:=aD.1;refine wpAny_letOwnedTupleGo_enum (s:={s with heap:=h',toks:=T+1}) uL λh2 uJ sb=>?_;have Q:s.heap.objs.size≠e:=t9 (bH C);have O:h2.get? s.heap.objs.size=aa {cls:=.type "tuple",data:=.seq #[.int i T,M]}:=(sb.2 _ Q).trans ht;have A:∀b o,b≠e->b≠j->s.heap.get? b=aa o->h2.get? b=aa o:=λb o B Z q=>(sb.2 b B).trans (kp b o B Z q);have fr:=I.fresh;have J:∀b u,H b=aa u->b≠s.heap.objs.size:=λb u q z=>by lia
  have F:∀b o,s.heap.get? b=aa o->∃o',h2.get? b=aa o':=λb o q=>by
   by_cases B:b=e
   .subst B;exact⟨_,uJ⟩
   .by_cases Z:b=j
    .subst Z;obtain⟨oi,L,_⟩:=aD;exact⟨oi,(sb.2 b B).trans L⟩
    .exact⟨o,A b o B Z q⟩
  have I2:Inv X ag σ (upd H s.heap.objs.size (.tup [.int i,x])) {s with heap:=h2,toks:=T+1}:=by
   refine I.call' (ch:=[e,j]) rfl ⟨λb o q n _ N=>A b o (λz=>N (by simp[z])) (λz=>N (by simp[z])) q,λb o q n _ N=>⟨o.slots,A b o (λz=>N (by simp[z])) (λz=>N (by simp[z])) q⟩,λb o q n _=>by rw[a8 (dE (bH q))];exact n,λb o q _=>F b o q,λb ys q=>by rw[a8 (J b _ q)];exact q,λb o u q=>by rw[a8 (J b _ q)];exact q,λb ps q=>⟨by rw[a8 (J b _ q)];exact q,λc o e2 g=>⟨A c o (λz=>by lia) (λz=>by lia) g,by rw[a8 (J c _ e2)];exact e2⟩⟩⟩ (λb v q=>?_) I.bare λb y=>?_
   .by_cases y:b=s.heap.objs.size
    .subst y;rw[upd_same]at q;cases q;exact⟨by show 2<=bo;decide,[.int i T,M],.cons ⟨_,rfl⟩ (.cons ru .nil),⟨_,O,rfl,_,rfl⟩,_,O,rfl⟩
    .rw[a8 y]at q;have ne1:∀c,H c≠ae->c≠e/\c≠j:=λc D=>⟨λz=>D (by rw[z];exact f0),λz=>D (by rw[z];exact g0)⟩
     refine(I.hok b v q).stay (λc o D r=>?_) (λc r=>by rw[a8 (J c _ r)];exact r) λc ys r=>by rw[a8 (J c _ r)];exact r
     have:=ne1 c (by rcases D with z|z <;> (first | (rw[<-z,q];simp) | (rw[z,q];simp) | (rw[z];simp)));exact A c o this.1 this.2 r
   .simp only[cC,ju,or_false]at y;rcases y with rfl|rfl
    .exact⟨f3,f1,f4,f5⟩
    .exact⟨g3,g1,g4,g5⟩
  refine⟨.ref s.heap.objs.size,_,I2,rfl,⟨s.heap.objs.size,x,fr,rfl,rfl,λys hy=>by rw[I.tuple_inj hy W];exact hx⟩,⟨⟨M,(show((i+1:Nat):Int)=(i:Int)+1 by lia) ▸ uJ⟩,let ⟨o,ho,r⟩:=aD;⟨o,(sb.2 j cE.symm).trans ho,r⟩⟩,λb y=>?_⟩;simp only[cC,ju,or_false]at y;rcases y with rfl|rfl
  .rw[a8 (dj Q)];exact f0
  .obtain⟨oi,L,_⟩:=f;rw[a8 (dE (bH L))];exact g0
 done:=by
  intro X S hw hK D i ag s σ H E I Y f hg;subst S hw hK;obtain⟨⟨l,C⟩,f⟩:=f;obtain⟨xs,W,hx⟩:=hg;obtain⟨m,rv,p,hz⟩:=I.tuple W;obtain⟨g0,g1,g2,g3,g4,g5⟩:=Y j (by simp);have hl:=rv.length;have G:a≠j:=λz=>by obtain⟨o1,L,c1,_⟩:=p;obtain⟨o2,e2,c2,_⟩:=f;lia
  have hi:i=m.toArray.size:=by simp;lia
  rw[hi]at f;exact wpAny_pyNext_enum_endD (Draws.tuple (by show X.A.in1.handled=ae;exact I.ok.hd D) j a G m.toArray) C ⟨f,p⟩ λh' eb=>⟨rfl,I.turned (t':=s.toks) (λb o y e=>eb b o y e) g0 g1 g3 g4 g5⟩
 self:=λ_ _ _ _ _ f h=>wpAny_pyIter_enum f.1.choose_spec h
section
variable{X:Cx}{d:List aC}{k:Nat}{c:Pos}
def UB(K:ax)(h:TA):TI:=λf H R=>h f H λg b=>∃a xs,g=[.ref a]/\cu K b a xs/\(xs.length<=bo->R (yW K a) b)
def Nf{e:aC}{m:TA}{p i:Pos}(L:Gl X "enumerate")(J:X.mg "enumerate"=ae)(M:PA X [e] m)(F:aV [e] X.env=[(ak,a9 e X.env)]:=by rfl):PI X (.Tuple d k c) (.Call (.Name "enumerate" p) [e] [] i) (UB X.K m):=by
 intro v s l H R I h;refine Call_ (wd I L J (show fA "enumerate"=aa (.type "enumerate") by decide +kernel) (JG (aW (M i v s l H _ I h) λP f ⟨O,w,g,z,A⟩=>?_) F rfl));obtain⟨a,xs,e,G,q⟩:=A;subst e;obtain⟨u,rfl,y⟩:=vals1 z;cases y;obtain⟨j,Q,B,D⟩:=g.tuple G;refine OA (show f.heap.IsTuple a j.toArray from B) λr n x E C=>?_;refine wpAny_pyIter_enum (s:={f with heap:=r}) n ?_;have N:Inv X v l w {f with heap:=r}:=g.kept (t':=f.toks) C;refine⟨f.heap.objs.size+1,[f.heap.objs.size+1,f.heap.objs.size],_,_,w,rfl,N,OV a _ _ (Nat.succ_ne_self _),⟨⟨_,n⟩,x⟩,λb o=>?_,q D⟩;simp only[cC,ju,or_false]at o;rcases o with rfl|rfl
 .exact g.fpOk (wK _) (g.hok.fresh (wK _))
 .exact g.fpOk (bi _) (g.hok.fresh (bi _))
end
end L2
namespace Pu
open L2
section
variable{X:Cx}
def Qq{K:ax}{a:af}{b:List V}:IJ (yW K a) (jZ (λi=>V.int i) 0 b) (λH=>cu K H a b):=λH h i=>
 ⟨λx d=>by
  rw[IZ,mO]at d;obtain⟨z,c,rfl⟩:=d;refine⟨⟨b,z,h,c⟩,λv n ⟨p,w,m,l,j,g⟩=>?_⟩;have:=g b h;rw[c]at this;cases this;subst l j;rw[pD];exact⟨p,rfl,upd_same,.inr ⟨m,rfl⟩⟩,λf=>⟨b,h,by rw[f,Bs]⟩⟩
def vE(a:ac (List PV)):ac (List (PV×PV)):=λε=>(a ε).bind λx ε1=>match x with
 |[.tup xs]=>.ok (vW xs) ε1
 |_=>.no
def RZ(z:X.mg "enumerate"=ae)(b:DA X E [a] m)(A:Gl X "enumerate":=by rfl)(y:aV [a] X.env=[(ak,a9 a X.env)]:=by rfl):BQ X E (.Tuple C k q) (.Call (.Name "enumerate" p) [a] [] d) (vE m):=λF S o g H J u h=>Bx.mk λD s I=>by
 refine Nf A z jh y D s g H J I (b F S o g H _ u ((Ok.bind h).imp λxs n M G L l O f N w=>?_));split at f
 .rename_i xs;obtain⟨v,rfl,r⟩:=gI w;obtain⟨a,c,rfl,b,j⟩:=r;refine⟨a,c,rfl,cu.of b,λx=>f M G L l (Grow.refl ..) (yW X.K a) (jZ (λi=>V.int i) 0 c) (λH=>cu X.K H a c) ⟨Hv 0 j,by rw[Bl];unfold vW;rw[Bl];exact j⟩ (by rw[Bs];exact x) Qq λP T Q B=>cu.of (B.imm l.fit b id)⟩
 .exact f.elim
end
abbrev eZ:=List aK
def se(a:List (eZ×PV))(k:eZ)(v:PV):List (eZ×PV):=if(a.any λb=>decide (b.1=k))=ah then a.map (λb=>if b.1=k then(b.1,v)else b)else a++[(k,v)]
def pZ:List PV->Option eZ
 |[]=>aa []
 |x::xs=>(jC x).bind λk=>(pZ xs).map (k::·)
def o9:PV->Option eZ
 |.tup xs=>pZ xs
 |_=>ae
section
variable{K:ax}{F:af->Prop}{S:Nat->af->Prop}{ε:aj}{f:St}{H:Hp}{i:Nat}{c:List (eZ×PV)}{d:List (eZ×V)}{a:af}
def GW:∀{xs:List PV}{b:List V}{k:eZ},a6 K H F xs b->pZ xs=aa k->b=k.map kV
 |[],b,k,r,e=>by cases r;cases e;rfl
 |x::xs,b,k,⟨v,r,j,h,g⟩,e=>by simp only[pZ,uz,mO]at e;obtain⟨n,m,ks,l,rfl⟩:=e;rw[j,tN h m,GW g l];rfl
def E6(r:aN K H F x v)(e:o9 x=aa k):∃b,v=.ref b/\H b=aa (.tup (k.map kV)):=by
 cases x <;> simp[o9]at e;obtain⟨b,j,rfl,h,g⟩:=r;exact⟨b,rfl,by rw[h,GW g e]⟩
def jI.len(h:jI K H F c d):d.length=c.length:=by
 unfold jI at h
 induction h with
 |nil=>rfl
 |cons _ _ b=>simp[b]
def jI.any(h:jI K H F c d)(k:eZ):(c.any λb=>decide (b.1=k))=d.any λb=>decide (b.1=k):=by
 unfold jI at h
 induction h with
 |nil=>rfl
 |cons r _ g=>rw[pt,pt,g,r.1]
def jI.put(h:jI K H F c d)(k:eZ)(r:aN K H F x v):jI K H F (se c k x) (fZ d k v):=by
 unfold se fZ;rw[h.any k];split
 .rename_i b;clear b;unfold jI at h ⊢
  induction h with
  |nil=>exact .nil
  |@cons p q ps qs r1 _ ih=>refine .cons ?_ ih;lia
 .exact zV h ⟨rfl,r⟩
def aL.dtAt(r:aL K F S ε f H)(e:ε[i]?=aa (.own (.dT c))):∃a d,f[i]?=aa (aa (.ref a))/\H a=aa (.dT d)/\jI K H F c d/\S i a/\∀b,S i b->b=a:=by obtain⟨a,n,⟨j,m,l⟩,g⟩:=r.own i _ e;exact⟨a,j,n,m,l,(g a).mpr rfl,λb h=>(g b).mp h⟩
end
def kt(ε:aj)(i:Nat):Option (List (eZ×PV)):=match ε[i]? with
 |some (.own (.dT a))=>aa a
 |_=>ae
def vD(h:kt b i=aa a):b[i]?=aa (.own (.dT a)):=by
 unfold kt at h;split at h
 .cases h;assumption
 .cases h
section
variable{X:Cx}{E:XK}{f:List Nat}{e b c:aC}{de db g:ac PV}{d:Pos}
def yC(i:Nat)(db de:ac PV):ac aM:=λl=>(de l).bind λy h=>(aS (kt h i) h).bind λ_ h=>(db h).bind λk a=>(aS (kt a i) a).bind λj a=>(aS (o9 k) a).bind λk a=>if j.length<bD then .ok .next (a.set i (.own (.dT (se j k y))))else .no
def UT(i:Nat)(hu:X.A.units+64<cLine)(hb:DE X E b db)(he:DE X E e de)(hN:X.N[i]?=aa y:=by rfl)(eO:ee X.env.scope y:=by eq_refl)(hd:ad y:=by decide) (bv:az y:=by decide) (hs:jr e (aa (.Subscript (.Name y G) b l)) d.line X.env=pure ak:=by rfl):DS X E f (.Assign [.Subscript (.Name y G) b l] e d) (yC i db de):=λF S M p H D T h=>by
 refine fS (FL ∅ (e_ hN eO hd bv) bK bK hs) (he F S M p H _ T (h.bindE.imp λy m F1 S1 H1 s g1 q v P=>?_));cases C:kt m i with
 |none=>rw[C]at q;exact q.elim
 |some J=>
  rw[C]at q;simp only[bS,R.bind_ok]at q;obtain⟨a,N,A,ha0,_⟩:=s.dtAt (vD C);refine⟨.ref a,A,hb F1 S1 m p H1 _ s (q.bindE.imp λk r F2 S2 H2 I g2 j u Q=>?_)⟩;cases o:kt r i with
  |none=>rw[o]at j;exact j.elim
  |some x=>
   rw[o]at j;simp only[bS,R.bind_ok]at j;obtain⟨a',O,n,ha,L,_⟩:=I.dtAt (vD o);rw[A]at n;cases n;cases B:o9 k with
   |none=>rw[B]at j;exact j.elim
   |some w=>
    rw[B]at j;simp only[bS,R.bind_ok]at j;split at j
    .rename_i hl;obtain⟨bb,rfl,W⟩:=E6 Q B;have fF:=L.put w (P.grow g2 s.fit);obtain⟨Y,g3⟩:=I.updO (po':=.dT (se x w y)) (o':=.dT (fZ O w v)) (vD o) rfl A trivial λH' m1 m2 z Sa Z=>⟨⟨_,z,fF.mono m1⟩,Z⟩
     exact⟨a,_,rfl,zN.t ha W (by rw[L.len];exact gQ hl kZ),j F2 S2 p _ Y g3 (iE.refl _ _)⟩
    .exact j.elim
def zp:ac PO:=λε=>.ok (.dT []) ε
def NU:DN X E (.Dict [] [] d) zp:=λF S m l H Q a h=>cb T6 λp i=>by
 have al:Al F F H (upd H p (.dT [])):=Al.new0 i;refine h F S _ (a.al al) al.grow p (λb=>b=p) ⟨⟨[],upd_same,.nil⟩,λb=>kN⟩ λb z=>?_;subst z;refine⟨i,λz=>?_,λ⟨j,z⟩=>?_,_,upd_same,trivial⟩
 .obtain⟨o,q⟩:=a.ex b z;lia
 .obtain⟨_,_,o,q,_⟩:=a.foot j b z;lia
end
end Pu
namespace L2
def ly(h:aB)(d:af)(a:Array uf)(b:Nat):Prop:=∃o,h.get? d=aa o/\o.ExactDict/\o.data=.dict a b
section
variable{A:aX}{s:ao}{es:Array uf}
def ly.ty(r:ly s.heap d es ep):s.TypeIs (.ref d) "dict":=let ⟨o,ho,hc,_⟩:=r;⟨o,ho,hc.1⟩
def ly.at{h':aB}(r:ly h d es ep)(k:∀o,h.get? d=aa o->h'.get? d=aa o):ly h' d es ep:=let ⟨o,ho,z⟩:=r;⟨o,k o ho,z⟩
def ly.lt(r:ly h d es ep):d<h.objs.size:=let ⟨o,ho,_⟩:=r;bH ho
def GH(f:(d == jK)=ak)(r:ly s.heap d es ep)(q:Q (.ref s.heap.objs.size) {s with heap:=s.heap.push {cls:=.type "dict_keyiterator",data:=.fields #[.ref d,.int 0 0,.int es.size 0,.int ep 0]}}):ar (aw P w) A (nY (.ref d)) Q E s:=by have a:=r.ty;obtain⟨o,c,g,b⟩:=id r;refine Kb a F.slot_dict_iter (ll F.slot_dict_iter a F.entry_dict_iter ?_ (F.args_dict_iter_1 _));unfold Builtin.«dict.__iter__» Builtin.Dict.dictSlotNone;refine aq (aq (wpAny_notOrdered_dict a ?_));refine aF (show ar _ _ (Builtin.Dict.showsAll d >>= _) _ _ s from ?_);unfold Builtin.Dict.showsAll;rw[if_neg (by lia)];refine aq (aF (aq (Kv c b (aq (wpAny_dictEpoch c b ?_)))));refine aq (ke (aF ⟨_,rfl,"dict_keyiterator",_,⟨_,cV _ rfl,rfl⟩,F.slot_dict_keyiterator_next.lookup,?_⟩));simpa[dq]using q
def EW(a:s.heap.IsKeyIter it d i es.size ep)(r:ly s.heap d es ep)(m:i<es.size)(q:∀g,g.IsKeyIter it d (i+1) es.size ep->ka it s.heap g->Q (aa es[i].key) {s with heap:=g}):ar (aw P w) A (mK (.ref it)) Q E s:=by
 obtain⟨n,c,f,b⟩:=id a;obtain⟨o,j,p,h⟩:=id r;unfold mK;refine aq (DM (wG (name:=ua "__next__") a.typeIs Ek (ll Ek a.typeIs Ve ?_ (Vf _))));refine aq (aF (aq (aq ?_)))
 first|refine aq (El a.typeIs (aF ?_))|refine aq (Em a.typeIs (aF ?_))
 refine aq (wpAny_fieldsOf c b ?_);simp only[show Builtin.Dict_items.ownsTuple "dict_keyiterator"=ak by decide,fi,if_false];show ar _ _ (if(Value.ref d == Value.none)=ah then _ else _) _ _ s;rw[if_neg (show ¬((Value.ref d == Value.none)=ah)from gb)];refine aq (aF (aq (Kv j h ?_)));rw[if_neg (by simp)];refine aq (aF (aq (wpAny_dictEpoch j h ?_)));rw[if_neg (by simp)];refine aF ?_;simp only[show ¬((i:Int)<0)from by lia,if_false,lW,kf m];refine aq ?_
 first|refine aq (El a.typeIs (aF ?_))|refine aq (Em a.typeIs (aF ?_))
 refine aq (wpAny_isOneOf_keyiter a.typeIs ?_);refine show ar _ _ (l5 (.ref it) 1 (dq ((i:Int)+1)) >>= _) _ _ s from aq (mT c b (by simp) ?_)
 have l:(s.heap.update it (mU (·.setIfInBounds 1 (dq ((i:Int)+1))))).IsKeyIter it d (i+1) es.size ep :=⟨_,mM _ c (wW (oj b _)),(Kf ..).trans f,by rw[oj b];simp[dq]⟩
 refine aq (iQ (aq (wpAny_isOneOf_keyiter (s:={s with heap:=s.heap.update it (mU (·.setIfInBounds 1 (dq ((i:Int)+1))))}) l.typeIs ?_)));exact show ar _ _ (pure es[i].key) _ _ _ from aF (aF ⟨_,rfl,aF (q _ l (mS ..))⟩)
def IV(o:A.handled=ae)(c:s.heap.IsKeyIter it d i es.size ep)(r:ly s.heap d es ep)(n:es.size<=i)(q:∀l,Heap.ExtBut it s.heap l->Q ae {s with heap:=l}):ar (aw P w) A (mK (.ref it)) Q E s:=by
 obtain⟨u,j,p,h⟩:=id c;obtain⟨v,g,x,f⟩:=id r;unfold mK;refine aq (DM (wG (name:=ua "__next__") c.typeIs Ek (ll Ek c.typeIs Ve ?_ (Vf _))));refine aq (aF (aq (aq ?_)))
 first|refine aq (El c.typeIs (aF ?_))|refine aq (Em c.typeIs (aF ?_))
 refine aq (wpAny_fieldsOf j h ?_);simp only[show Builtin.Dict_items.ownsTuple "dict_keyiterator"=ak by decide,fi,if_false];show ar _ _ (if(Value.ref d == Value.none)=ah then _ else _) _ _ s;rw[if_neg (show ¬((Value.ref d == Value.none)=ah)from gb)];refine aq (aF (aq (Kv g f ?_)));rw[if_neg (by simp)];refine aq (aF (aq (wpAny_dictEpoch g f ?_)));rw[if_neg (by simp)];refine aF ?_;simp only[show ¬((i:Int)<0)from by lia,if_false,lW,Array.getElem?_eq_none n];refine aq ?_
 first|refine aq (El c.typeIs (aF ?_))|refine aq (Em c.typeIs (aF ?_))
 refine show ar _ _ (l5 (.ref it) 0 .none >>= _) _ _ s from aq (mT j h (by simp) ?_)
 refine show ar _ _ (rh (.type "StopIteration") [] >>= _) _ _ _ from aq ?_
 simp only[rh,newTuple];refine aq (ke ?_ (by size_fits));refine aq (m:=wR _ _) (n8 (a:=Value.none) (by first|rfl | (simp only[wR];rfl)) ?_);refine ke ?_ (by size_fits);simp only[wP];refine aq (wpAny_handled ?_);rw[show A.in1.handled=ae from o];refine aq (aF (wpAny_throw ?_));refine aq (DP (T:="StopIteration") (b:=ah) ⟨_,cV _ rfl,rfl⟩ isSubtype_stop ?_);exact aF (q _ (((mS ..).extBut.push _).push _))
def Of(p:A.handled=ae)(I d:af)(q:d≠I)(es:Array uf)(ep:Nat):Walks P w A I [I,d] [I] es.size (λi v=>∃e,es[i]?=aa e/\v=e.key) (λi h=>h.IsKeyIter I d i es.size ep/\ly h d es ep) where
 sub:=λb f=>by grind
 frame:=λ_ _ _ a l=>⟨a.1.at λo e=>l I (by simp) o e,a.2.at λo e=>l d (by simp) o e⟩
 item:=λi s Q E m a c=>EW a.1 a.2 m λg r j=>c _ g s.toks ⟨es[i],by simp[m],rfl⟩ ⟨r,a.2.at λo e=>by rw[j.2 d q];exact e⟩ λb o f e=>j.extBut b o (λh=>f (by simp[h])) e
 done:=λs Q E a c=>IV p a.1 a.2 (bi _) λg n=>c g s.toks λb o f e=>n b o (λh=>f (by simp[h])) e
 self:=λ_ _ _ _ a c=>wpAny_pyIter_keyiter a.1 c
def Rn(c:(d == jK)=ak):PySem.W.KdlSrc P w "dict" d d es.size (λi v=>∃e,es[i]?=aa e/\v=e.key) (λh=>ly h d es ep) where
 type:=λ_ a=>a.ty
 there:=λ_ a=>⟨a.lt,a.lt⟩
 keep:=λ_ _ a f=>a.at λo e=>f d (.inl rfl) o e
 notList:=by decide
 notTuple:=by decide
 hint:=λ_ _ _ _ a b=>PySem.W.kdl_hint_dict a.ty b
 iter:=λ_ _ g a=>⟨_,_,(λ_ _ b=>GH c a b),Of g _ d (dE a.lt) es ep,⟨⟨_,cV _ rfl,rfl,rfl⟩,a.at λo e=>bL _ e⟩⟩
end
section
variable{a:af}
def HD{h:aB}(z:h.get? a=aa o)(k:cn P w H h a (.dT c)):(a == jK)=ak/\∃j,ly h a j (sj o)/\j.size=c.length/\(c.map (·.1)).Nodup /\
  ∀(i:Nat) (e:uf),j[i]?=aa e->∃p b,c[i]?=aa p/\e.key=.ref b/\H b=aa (.tup (p.1.map kV)):=by
 obtain⟨u,F,xs,g,M,j,J,E,v,D,y,A⟩:=k;rw[z]at E;cases E;have L:sj o=J:=by unfold sj;rw[D]
 have B:=qP g;refine⟨F,j,⟨o,z,v,by rw[L];exact D⟩,by rw[<-iP,y,cK];exact B.symm,?_,λi e C=>?_⟩
 .have:c.map (·.1)=xs.map (·.1):=by
   clear y A B u
   induction g with
   |nil=>rfl
   |cons r _ n=>simp[n,r.1]
  rw[this];exact A
 .rw[<-rj,y,d8]at C;obtain⟨x,v,rfl⟩:=mO.mp C;have:∀{l:List (List aK×V)}{m:List (List aK×af×ai)} (i:Nat) (x:List aK×af×ai),eV (λ(p:List aK×V) (q:List aK×af×ai)=>p.1=q.1/\H q.2.1=aa (.tup (p.1.map kV))/\RelV p.2 q.2.2) l m->m[i]?=aa x->∃p,l[i]?=aa p/\H x.2.1=aa (.tup (p.1.map kV)):=by
   intro l m i x r
   induction r generalizing i with
   |nil=>intro e;simp at e
   |cons r _ n=>
    intro e;cases i with
    |zero=>simp at e;subst e;exact⟨_,rfl,r.2.1⟩
    |succ i=>exact n i (~~~e)
  obtain⟨p,G,I⟩:=this i x g v;exact⟨p,x.2.1,G,rfl,I⟩
def Inv.freezeT(I:Inv X f d H s)(e:H a=aa (.dT c)):∃o,s.heap.get? a=aa o/\Inv X f d (upd H a (.frz o (.dT c))) s:=by
 have k:cn X.prog X.w H s.heap a (.dT c):=I.hok a _ e;obtain⟨z,h,xs,b,o,es,ep,g,r⟩:=id k;refine⟨o,g,I.recast e (λ_ q=>by cases q) (λo u q=>?_) (λ_ q=>by cases q) (λ_ q=>by cases q) ⟨g,z,h,xs,Paired.mapP b λp q z=>⟨z.1,?_,z.2.2⟩,o,es,ep,g,r⟩⟩
 .have:=I.base.frzs a o u q;lia
 .rw[a8 (ya z.2.1 e (λz=>nomatch z))];exact z.2.1
def Inv.thawT(I:Inv X f d H s)(e:H a=aa (.frz o (.dT c)))(h:∀o u,X.H₀ a≠aa (.frz o u)):Inv X f d (upd H a (.dT c)) s:=by
 obtain⟨i,z,g,xs,b,r⟩:=(show cn X.prog X.w H s.heap a (.frz o (.dT c))from I.hok a _ e)
 refine I.recast e (λ_ q=>by cases q) h (λ_ q=>by cases q) (λ_ q=>by cases q) ⟨z,g,xs,Paired.mapP b λp q z=>⟨z.1,?_,z.2.2⟩,r⟩;rw[a8 (ya z.2.1 e (λz=>nomatch z))];exact z.2.1
end
def gM(o:Obj):List af:=match o.data with
 |.dict es _=>es.toList.map λe=>match e.key with
  |.ref b=>b
  |_=>0
 |_=>[]
def tu(a:af)(o:Obj)(c:List (List aK×V)):It :=⟨λi H=>H a=aa (.frz o (.dT c))/\i<c.length,λi H x d=>d=H/\∃b,(gM o)[i]?=aa b/\x=.ref b,λi H=>H a=aa (.frz o (.dT c))/\c.length<=i⟩
def Ay(H:Hp)(a:List (List aK×V))(bs:List af):Prop:=bs.length=a.length/\∀(i:Nat) (b:af),bs[i]?=aa b->∃p,a[i]?=aa p/\H b=aa (.tup (p.1.map kV))
def Bb{h:aB}(q:h.get? a=aa o)(k:cn P w H h a (.dT d)):(a == jK)=ak/\∃es,ly h a es (sj o)/\es.size=d.length/\(d.map (·.1)).Nodup/\Ay H d (gM o)/\∀(i:Nat) (e:uf),es[i]?=aa e->∃b,(gM o)[i]?=aa b/\e.key=.ref b:=by
 obtain⟨A,es,rd,n,z,m⟩:=HD q k;have j:gM o=es.toList.map λe=>match e.key with
  |.ref b=>b
  |_=>0:=by
  obtain⟨C,y,_,B⟩:=rd;rw[q]at y;cases y;unfold gM;rw[B]
 have l:∀(i:Nat) (e:uf),es[i]?=aa e->∃b,(gM o)[i]?=aa b/\e.key=.ref b:=λi e f=>by obtain⟨p,b,x,g,v⟩:=m i e f;refine⟨b,?_,g⟩;rw[j,d8,rj,f,wS,g]
 refine⟨A,es,rd,n,z,⟨by rw[j,cK,iP];exact n,λi b r=>?_⟩,l⟩;have f:i<es.size:=by have:=(cP.mp r).1;rw[j,cK,iP]at this;exact this
 obtain⟨p,c,x,g,v⟩:=m i es[i] (by simp[f]);obtain⟨D,u,s⟩:=l i es[i] (by simp[f]);rw[r]at u;cases u;rw[g]at s;cases s;exact⟨p,x,v⟩
def Ug{P:aQ}{w:aJ}{K:ax}{N:aC}(a l:af)(o:Obj)(g:List (List aK×V)):qh P w K N (tu a o g) [l] l (λi h=>h.IsKeyIter l a i g.length (sj o)) where
 mem:=by simp
 obj:=λi h f b j=>by
  have e:b=l:= ~~~j
  subst e;obtain⟨o,e,c,d⟩:=f
  grind
 keep:=λi h p f k=>f.at λo e=>k l (by simp) o e
 item:=by
  intro X y q z L i M s G H E I n f x;subst y q z;obtain⟨r,J⟩:=x;obtain⟨u,v⟩:=(show cn X.prog X.w H s.heap a (.frz o (.dT g))from I.hok a _ r)
  obtain⟨Q,D,rd,m,_,_,O⟩:=Bb u v;obtain⟨b,j,T⟩:=O i D[i] (by simp[m,J]);obtain⟨C,B,f2,f3,f4,A⟩:=n l (by simp);rw[<-m]at f;refine EW f rd ∅ λp F sb=>?_;have W:Inv X M G H {s with heap:=p}:=I.turned (t':=s.toks) (λb o j e=>(sb.2 b j).trans e) C B f3 f4 A;rw[m]at F;obtain⟨Y,e,c,d⟩:=id F;exact⟨D[i].key,rfl,u7 (s:={s with heap:=p}) e c d (by decide) ⟨.ref b,H,W,by rw[T];rfl,⟨rfl,b,j,rfl⟩,F,λb j=>(n b j).1⟩⟩
 done:=by
  intro X y q z L i M s G H E I n f x;subst y q z;obtain⟨r,J⟩:=x;obtain⟨u,v⟩:=(show cn X.prog X.w H s.heap a (.frz o (.dT g))from I.hok a _ r)
  obtain⟨Q,D,rd,m,_⟩:=HD u v;obtain⟨C,B,f2,f3,f4,A⟩:=n l (by simp);rw[<-m]at f;exact IV (I.ok.hd L) f rd ∅ λp S=>⟨rfl,I.turned (t':=s.toks) (λb o j e=>S b o j e) C B f3 f4 A⟩
 self:=λ_ _ _ _ _ f h=>wpAny_pyIter_keyiter f h
section
variable{X:Cx}{c:aC}
def LG(g:TE):TI:=λf H R=>g f H λx d=>∃a b,x=.ref a/\d a=aa (.dT b)/\∀o,(b.map (·.1)).Nodup->b.length<=bo->Ay d b (gM o)->R (tu a o b) (upd d a (.frz o (.dT b)))
def Os{d:aC}{m:TE}(C:PE X d m):PI X c d (LG m):=by
 intro E s p H R I h;refine aW (C E s p H _ I h) λv g ⟨x,n,l,r,u⟩=>?_;obtain⟨a,f,e,i,q⟩:=u;subst e;cases r;obtain⟨o,B,j⟩:=l.freezeT i;obtain⟨A,F,rd,z,w,y,_⟩:=Bb (o:=o) B (show cn X.prog X.w n g.heap a (.dT f)from l.hok a _ i);refine GH A rd ?_;rw[z];refine⟨g.heap.objs.size,[g.heap.objs.size],_,_,_,rfl,j.kept (t':=g.toks) λb o e=>bL _ e,Ug a _ o f,⟨_,cV _ rfl,rfl,rfl⟩,λb D=>?_,q o w (show cn X.prog X.w n g.heap a (.dT f)from l.hok a _ i).1 y⟩;have e:b=g.heap.objs.size:= ~~~D
 subst e;exact j.fpOk (bi _) (j.hok.fresh (bi _))
def Li{d:List (List aK×V)}(l:(gM o).length=d.length):Walk (tu a o d) ((gM o).map .ref) (λH=>H a=aa (.frz o (.dT d))):=λH h i=>⟨λx f=>by rw[d8]at f;obtain⟨b,j,rfl⟩:=mO.mp f;have g:=(cP.mp j).1;exact⟨⟨h,∅⟩,λy n z=>⟨z.1,by obtain⟨m,e,rfl⟩:=z.2;lia⟩⟩,λg=>⟨h,by grind⟩⟩
def vj(a:af)(b:List (List aK×V))(D:j4):St->Hp->Prop:=λd f=>∃o,f a=aa (.frz o (.dT b))/\D.nx d (upd f a (.dT b))
def Mt(j:Nat)(g:TG)(q:TS):TS:=λD l H=>∃a b,l[j]?=aa (aa (.ref a))/\H a=aa (.dT b)/\∀o,(b.map (·.1)).Nodup->b.length<=bo->Ay H b (gM o) ->
 ∃W:Nat->Nat->St->Hp->Prop,(∃m,W 0 m l (upd H a (.frz o (.dT b))))/\∀i m d f,W i m d f ->
 ((tu a o b).stop i f/\vj a b D d f)\/((tu a o b).go i f/\∃N:St->Hp->Prop,(∀d f,N d f->∃n,n<m/\W (i+1) n d f)/\∀x p,(tu a o b).yld i f x p->g x d p λh r=>q ⟨N,λ_ _=>False,vj a b D,N⟩ h r)
def SJ(j:Nat)(w:wz X.zz X.A X.env X.xe)(E:X.calm=ah)(G:X.N[j]?=aa y)(r:ee X.env.scope y)(C:ad y)(N:az y)(B:PG X c g)(F:lg X b n)(v:∀x,lT (.Name y m) X.env x=pure x:=by intro _;rfl):PS X (.For c (.Name y m) b [] l) (Mt j g n):=by
 intro O s p H D I h;obtain⟨a,d,J,L,h⟩:=h;have A:∀o u,X.H₀ a≠aa (.frz o u):=λo u z=>by have:=I.base.frzs a o u z;lia
 refine aW (G9 w E (Os (e_ G r C N)) B F v O s p H ⟨vj a d D,λ_ _=>False,λ_ _=>False,λ_ _=>False⟩ I ⟨.ref a,J,a,d,rfl,L,λo S T W=>?_⟩) λf Q q=>?_
 .simp_all
 .cases f with
  |next=>obtain⟨i,Y,P,o,M,q⟩:=q;exact⟨i,_,P.thawT M A,q⟩
  |brk=>obtain⟨_,_,_,q⟩:=q;exact q.elim
  |cont=>obtain⟨_,_,_,q⟩:=q;exact q.elim
  |ret u=>obtain⟨_,_,_,_,_,q⟩:=q;exact q.elim
end
section
variable{X:Cx}
def Qh(f d:TE):TE:=λc H Q=>∀p,H p=ae->yO [(f,d)] c (upd H p (.dT [])) λg a=>∃x y,g=[(x,y)]/\a p=aa (.dT [])/\∃b k,x=.ref b/\a b=aa (.tup (k.map kV))/\Q (.ref p) (upd a p (.dT [(k,y)]))
def Mm(hu:X.A.units+1<cLine)(L:PE X k l)(F:PE X v j):PE X (.Dict [aa k] [v] f) (Qh l j):=by
 intro Z s p H Q I q;have J:=I.hok.fresh (bi s.heap.objs.size);have I1:=I.laid (a:=s.heap.objs.size) (o:=.dT []) (h':=s.heap.push {cls:=.type "dict",data:=.dict #[]}) (t':=s.toks) (λ_ _ q=>bL _ q) (bi _) (He s.heap I.big);refine wpAny_Dict_any rfl rfl (by simp) (by simp) (aW ((Hg L F IK) Z _ p _ (λm c=>∃x y,m=[(x,y)]/\c s.heap.objs.size=aa (.dT [])/\∃b k,x=.ref b/\c b=aa (.tup (k.map kV))/\Q (.ref s.heap.objs.size) (upd c s.heap.objs.size (.dT [(k,y)]))) I1 ?_) ?_)
 .exact q _ J
 .rintro ws s2 ⟨m,c,i,d,x,y,rfl,e,b,k,rfl,g,C⟩;cases d with
  |cons B r=>
   cases r;rename_i E;obtain⟨D,p2⟩:=E;obtain⟨A,w⟩:=B;cases (show D=Value.ref b from A);unfold storeAll;rw[List.forIn_cons];obtain⟨z,M,xs,u,Y⟩:=Fj i.hok e;cases u;refine aq (aq (wpAny_dictSet_heap (hsz:=by size_fits) (show(t7 (g9 X.prog X.w)).room X.A from ?_) (tD i.hok g) Y λh' h G=>aF ?_))
   .show X.A.units<cLine;lia
   .dsimp only;rw[List.forIn_nil];refine aF ⟨.ref s.heap.objs.size,_,?_,rfl,C⟩;obtain⟨q,T,W,n,S,P,O,_,N⟩:=h;refine ye i (by rw[e];exact True.intro) G ⟨q,n⟩ ⟨by size_fits,M,_,.cons ⟨rfl,?_,w⟩ .nil,q,T,W,n,S,P,O,N⟩;rw[a8 (ya g e (λz=>nomatch z))];exact g
end
open Mx
section
variable{P:aQ}{w:aJ}{A:aX}{E:ai->ao->Prop}{s:ao}
def FtIs(h:aB)(c:List Str)(v:ai):Prop:=c≠[]/\∃(a:af) (b:Array ai),v=.ref a/\IsTup h a b/\cS b.toList c
def FtIs.inj(x:FtIs h k v)(y:FtIs h b v):k=b:=by
 obtain⟨_,a,d,rfl,g,f⟩:=x;obtain⟨_,l,c,e,j,i⟩:=y;cases e;obtain rfl:=tup_uniq g j;exact strs_uniq f i
def FtIs.keep{c:aB}(x:FtIs h k v)(g:∀b o,h.get? b=aa o->c.get? b=aa o):FtIs c k v:=by obtain⟨n,a,its,rfl,f,d⟩:=x;exact⟨n,a,its,rfl,tup_kept f λb o e _=>g b o e,d⟩
def ftKey(h:aB):KeyKind where
 toKeyOrd:=ordL
 keyOf:=λv=>open Classical in if z:∃a,FtIs h a v then aa (cpsL z.choose)else ae
 dflt:=([]:List Tx)
def ftKey_of(x:FtIs h a v):(ftKey h).keyOf v=aa (cpsL a):=by
 have z:∃a,FtIs h a v:=⟨a,x⟩
 show(open Classical in if z:∃a,FtIs h a v then aa (cpsL z.choose)else ae)=_;rw[dif_pos z,z.choose_spec.inj x]
def ftKey_some(x:(ftKey h).keyOf v=aa k):∃a,FtIs h a v/\cpsL a=k:=by
 by_cases z:∃a,FtIs h a v
 .obtain⟨a,z⟩:=z;rw[ftKey_of z]at x
  grind
 .have:(ftKey h).keyOf v=ae:=dif_neg z;lia
def lex_strs:∀{n m:List ai}{g j:List Str} (i:Nat) {d:Bool},cS n g->cS m j->d=decide (g.length<j.length)->Q (ltL (cpsL g) (cpsL j)) s->PySem.W.KatLex P w A b d Q (n.zip m) i s
 |_,_,_,_,i,d,.nil,.nil,f,h=>by rw[Kr];refine Eh ?_;rw[f];have e:ltL (cpsL []) (cpsL [])=decide (([]:List Str).length<([]:List Str).length):=(decide_eq_false (by simp[cpsL])).trans (decide_eq_false (by simp)).symm;rw[<-e];exact h
 |_,_,_,_,i,d,.nil,.cons c u o,f,h=>by rw[Kr];refine Eh ?_;rw[f];refine cast (congrArg (λz=>Q z s) ?_) h;exact(decide_eq_true (by simp[cpsL])).trans (decide_eq_true (by simp)).symm
 |_,_,_,_,i,d,.cons a t p,.nil,f,h=>by rw[List.zip_nil_right];refine Eh ?_;rw[f];refine cast (congrArg (λz=>Q z s) ?_) h;exact(decide_eq_false (by simp[cpsL])).trans (decide_eq_false (by simp)).symm
 |_,_,_,_,i,d,.cons (ys:=g) a t p,.cons (ys:=j) c u o,f,h=>by
  rw[Ed];have l:Q (if a.cps.toList=c.cps.toList then ltL (cpsL g) (cpsL j)else decide (a.cps.toList<c.cps.toList)) s:=by rw[<-ltL_cons];exact h
  refine Kt (JV a t c u _ _ _ _ ?_);by_cases e:a=c
  .subst e;rw[if_pos rfl]at l;rw[beq_self_eq_true];exact PySem.W.kat_yes (lex_strs (i+1) p o (by rw[f];simp) l)
  .rw[if_neg (λz=>e (cps_inj z))]at l;rw[beq_false_of_ne e];refine PySem.W.kat_no ?_;cases (b&&i == 0)with
   |true=>exact oneLt_str l
   |false=>exact PySem.W.kat_one _ _ (PyProof.Rows.lt_str l)
def ftLt{h j:aB}(J:A.units+8<cLine)(k:∀b o,h.get? b=aa o->j.get? b=aa o):iq (ftKey h) (tuples' ah) P w A {s with heap:=j}:=λE x y a b Q B z r=>by obtain⟨G,q,rfl⟩:=ftKey_some B;obtain⟨L,p,rfl⟩:=ftKey_some z;obtain⟨_,N,n,rfl,C,i⟩:=q.keep k;obtain⟨_,M,g,rfl,F,c⟩:=p.keep k;obtain⟨o,u,_,m,v⟩:=C;obtain⟨H,D,_,I,l⟩:=F;refine PySem.W.kat_lt u v D l (lex_strs 0 i c ?_ r);have f:=strs_len i;have d:=strs_len c;rw[iP]at f d;rw[f,d]
def ft_kind{b:List ai}{Q:gS->ao->Prop}(c:∀v∈b,∃d,FtIs s.heap d v)(I:2<=b.length)(h:Q (tuples' ah) s):ar (aw P w) A (keyKind' b.toArray) Q E s:=by
 have g:∀(b:List ai),(∀v∈b,∃d,FtIs s.heap d v)->∃fs,Vc s.heap b fs/\fs.length=b.length/\∀f∈fs,∃z t,f=Value.str z t:=by
  intro b
  induction b with
  |nil=>intro _;exact⟨[],PySem.W.KatTups.nil,rfl,λf r=>by simp at r⟩
  |cons v b x=>
   intro c;obtain⟨fs,j,q,p⟩:=x λu y=>c u (iu _ y);obtain⟨d,G,a,i,rfl,⟨o,B,F,m,D⟩,n⟩:=c v j_;cases d with
   |nil=>exact absurd rfl G
   |cons z H=>
    generalize C:i.toList=l at n;cases n with
    |cons _ t n=>
     refine⟨.str z t::fs,PySem.W.KatTups.cons B F D (by rw[<-rj,C];rfl) j,by simp[q],λf r=>?_⟩
     grind
 obtain⟨fs,j,q,p⟩:=g b c;refine PySem.W.kat_kind (T:=.type "str") j ∅ (λv c=>?_) (by decide) ?_
 .obtain⟨z,t,rfl⟩:=p v c;exact .now
 .have:(Value.type "str" != Value.type "tuple")=ah:=by decide
  rw[this];exact h
end
end L2
namespace Pu
open L2
section
variable{K:ax}{F g:af->Prop}{S:Nat->af->Prop}{f:aj}{d:St}{H b:Hp}
mutual
def aN.mono2(m:∀a xs,Rd H a (.lst xs)->Rd b a (.lst xs))(l:∀a xs,H a=aa (.tup xs)->b a=aa (.tup xs))(j:∀a c,H a=aa (jD a c)->b a=aa (jD a c)):∀(x:PV) (v:V),aN K H F x v->aN K b F x v
 |.non,_,h=>h
 |.bl _,_,h=>h
 |.int _,_,h=>h
 |.str _,_,h=>h
 |.raw _,_,h=>h
 |.exc _,_,⟨a,e,h⟩=>⟨a,e,j a _ h⟩
 |.tup xs,_,⟨a,i,e,o,n⟩=>⟨a,i,e,l a _ o,a6.mono2 m l j xs i n⟩
 |.lst xs,_,⟨a,i,e,o,p,n⟩=>⟨a,i,e,m a i o,p,a6.mono2 m l j xs i n⟩
def a6.mono2(m:∀a xs,Rd H a (.lst xs)->Rd b a (.lst xs))(l:∀a xs,H a=aa (.tup xs)->b a=aa (.tup xs))(j:∀a c,H a=aa (jD a c)->b a=aa (jD a c)):∀(xs:List PV) (i:List V),a6 K H F xs i->a6 K b F xs i
 |[],_,h=>h
 |x::xs,_,⟨v,r,e,o,n⟩=>⟨v,r,e,aN.mono2 m l j x v o,a6.mono2 m l j xs r n⟩
end
def qu(p:HO):Prop:=(∃a,p=.dT a)\/∃o a,p=.frz o (.dT a)
def qu.lst(h:qu p)(xs:List V):p≠.lst xs/\(∀o,p≠.frz o (.lst xs))/\p≠.tup xs:=by
 rcases h with⟨ws,rfl⟩|⟨o,ws,rfl⟩
 all_goals lia
section
variable{a:af}{p q:HO}
def zm(f:H a=aa p)(d:qu p):∀b xs,Rd H b (.lst xs)->Rd (upd H a q) b (.lst xs):=λb xs h=>by
 have c:b≠a:=by
  rintro rfl;rcases h with h|⟨o,h⟩ <;> rw[f]at h
  .exact(d.lst xs).1 (f_ h)
  .exact(d.lst xs).2.1 o (f_ h)
 rcases h with h|⟨o,h⟩
 .exact .inl (by rw[a8 c];exact h)
 .exact .inr ⟨o,by rw[a8 c];exact h⟩
def v5(c:H a=aa p)(d:qu p):∀b xs,H b=aa (.tup xs)->upd H a q b=aa (.tup xs):=λb xs h=>by rw[a8 (by rintro rfl;rw[c]at h;exact(d.lst xs).2.2 (f_ h))];exact h
def yh(f:H a=aa p)(d:qu p):∀b c,H b=aa (jD b c)->upd H a q b=aa (jD b c):=λb c h=>by
 rw[a8 (by
  rintro rfl;rw[f]at h;cases h;rcases d with⟨ws,z⟩|⟨o,ws,z⟩ <;> cases z)];exact h
def aL.recast(r:aL K F S ε σ H)(f:H a=aa p)(d:qu p)(u:¬U S a):aL K F S ε σ (L2.upd H a q):=by
 have n:∀x v,aN K H F x v->aN K (L2.upd H a q) F x v:=aN.mono2 (zm f d) (v5 f d) (yh f d);have l:∀x v,a6 K H F x v->a6 K (L2.upd H a q) F x v:=a6.mono2 (zm f d) (v5 f d) (yh f d);have s:∀i b,S i b->b≠a:=λi b z e=>u ⟨i,e ▸ z⟩;refine⟨r.len,λb z=>?_,λi pv e=>let ⟨v,j,g⟩:=r.val i pv e;⟨v,j,n _ _ g⟩,λi po e=>let ⟨b,j,g⟩:=r.own i po e;⟨b,j,g.mono n l λc o z w=>by rw[a8 (s i c z)];exact w⟩,λi b z=>?_,r.dist⟩
 .obtain⟨o,h⟩:=r.ex b z;by_cases m:b=a
  .subst m;exact⟨_,upd_same⟩
  .exact⟨o,by rw[a8 m];exact h⟩
 .obtain⟨j,g,o,A,y⟩:=r.foot i b z;exact⟨j,g,o,by rw[a8 (s i b z)];exact A,y⟩
end
def aL.putOwn(r:aL K F S ε σ H)(d:j<ε.length)(e:σ[j]?=aa (aa (.ref a)))(h:fq K H F po a Sa)(f:wg F S H Sa):aL K F (λk b=>(S k b/\k≠j)\/(k=j/\Sa b)) (ε.set j (.own po)) σ H:=by
 have:=r.setOwn d h f;have g:σ.set j (aa (.ref a))=σ:=by
  apply pC;intro k;by_cases c:j=k
  .subst c;rw[eE (by rw[<-r.len];exact d),e]
  .rw[cQ c]
 rw[g]at this;exact this
end
def Fa:aK->PV
 |.inl i=>.int i
 |.inr z=>.str z.cps.toList
def lP(k:eZ):PV:=.tup (k.map Fa)
def uT:aK->Bool
 |.inl _=>ah
 |.inr z=>decide (z.cps.toList.length<=bD)
def Av(a:List (eZ×PV)):Bool:=a.all λp=>p.1.all uT
section
variable{K:ax}{F:af->Prop}{H:Hp}
def AK:∀{k:eZ},k.all uT=ah->a6 K H F (k.map Fa) (k.map kV)
 |[],_=>rfl
 |.inl i::k,h=>⟨_,_,rfl,rfl,AK (by grind)⟩
 |.inr z::k,h=>by rw[qZ,h_]at h;exact⟨_,_,rfl,⟨by show V.str z=V.str (tS z.cps.toList);rw[qp],of_decide_eq_true h.1⟩,AK h.2⟩
def SH{k:eZ}(h:k.all uT=ah)(a:H b=aa (.tup (k.map kV))):aN K H F (lP k) (.ref b):=⟨b,_,rfl,a,AK h⟩
def jI.keys(h:jI K H F a b):b.map (·.1)=a.map (·.1):=by
 unfold jI at h
 induction h with
 |nil=>rfl
 |cons r _ c=>grind
end
section
variable{X:Cx}{E:XK}{d:List Nat}{e b c:aC}{de db m:ac PV}{l:Pos}
def v8(db m:ac PV):ac PO:=λε=>(db ε).bind λk ε1=>(m ε1).bind λy a=>(aS (o9 k) a).bind λf a=>.ok (.dT [(f,y)]) a
def Nw(hu:X.A.units+64<cLine)(hb:DE X E b db)(hc:DE X E c m):DN X E (.Dict [aa b] [c] l) (v8 db m):=λF S P J H Q s h=>by
 refine cb (Mm ∅ bK bK) λp B=>?_;have al:Al F F H (upd H p (.dT [])):=Al.new0 B;have nF:¬F p:=λz=>by obtain⟨o,q⟩:=s.ex p z;lia
 have nS:¬U S p:=λ⟨i,z⟩=>by obtain⟨_,_,o,q,_⟩:=s.foot i p z;lia
 have C:Grow (U S) (U S) F F H (upd H p (.dT [])):=al.grow;refine hb F S P J _ _ (s.al al) ((Ok.bindB h C).imp λk j F1 S1 H1 L G h1 u T=>?_);obtain⟨e1,x,v⟩:=G.stay (upd_same:upd H p (.dT []) p=aa (.dT [])) nS nF;refine hc F1 S1 j J H1 _ L ((Ok.bindB h1 (C.trans G)).imp λy O N S2 H2 Z D g w n=>?_);obtain⟨M,f,a⟩:=D.stay e1 v x;cases I:o9 k with
 |none=>rw[I]at g;exact g.elim
 |some A=>rw[I]at g;simp only[bS,R.bind_ok]at g;have r:aN X.K H2 N k u:=T.grow D L.fit;obtain⟨bb,rfl,W⟩:=E6 r I;refine⟨_,_,rfl,M,bb,A,rfl,W,?_⟩;obtain⟨gl,fit,Y⟩:=Z.lay (o':=.dT [(A,w)]) M trivial f a;have g3:=((C.trans G).trans D).lay (o':=.dT [(A,w)]) B;refine g N S2 _ Y g3 p (λb=>b=p) ⟨⟨_,upd_same,.cons ⟨rfl,n.grow gl fit⟩ .nil⟩,λb=>kN⟩ λb z=>?_;subst z;exact⟨B,f,a,_,upd_same,trivial⟩
def v6(i j:Nat):ac aM:=λε=>match ε[j]? with
 |some (.own a)=>if i<ε.length then .ok .next ((ε.set j .none).set i (.own a))else .no
 |_=>.no
def Nr(i j:Nat)(J:X.N.Nodup)(A:i∉d:=by decide)(C:X.N[i]?=aa x:=by rfl)(u:Loc X.env.scope x:=by first|exact Or.inl rfl|exact Or.inr rfl)(w:jr (.Name y n) (aa (.Name x p)) l.line X.env=pure ak:=by rfl)(G:av X x:=by mleft) (g:X.N[j]?=aa y:=by rfl) (v:ee X.env.scope y:=by eq_refl)(I:ad y:=by decide) (N:az y:=by decide):DS X E d (.Assign [.Name x p] (.Name y n) l) (v6 i j):=λF S P O H D f h=>by
 unfold v6 at h;split at h
 .rename_i Q M;split at h
  .rename_i B;obtain⟨a,L,s⟩:=f.own j _ M;refine fS (CY J C u (e_ g v I N) w G) ⟨_,L,?_⟩;refine h F _ _ H ((f.drop j).setOwn (Sa:=S j) (by rw[ge];exact B) s λb z=>⟨(f.foot j b z).2.1,λ⟨k,r,q⟩=>q (f.dist k j b r z),(f.foot j b z).2.2⟩) ⟨λ_ z=>z,λ_ _ z _=>z,λ_ o z=>⟨o,z⟩,λ_ z=>.inl z,λb ⟨k,z⟩=>?_⟩ (iE.set A);rcases z with z|⟨_,z⟩
   .exact .inl ⟨k,z.1.1⟩
   .exact .inl ⟨j,z⟩
  .exact h.elim
 .exact h.elim
def sS(i j:Nat)(db:ac aM):ac aM:=λg=>(aS (kt g j) g).bind λa g=>if Av a=ah then match ff i db (a.map λp=>lP p.1) (g.set j .none)with
 |.ok .next f=>if j<f.length then .ok .next (f.set j (.own (.dT a)))else .no
 |_=>.no else .no
def Ny(i j:Nat){x y:Str}{p yp:Pos}{N:List bf}{db:ac aM}(xx:wz X.zz X.A X.env X.xe)(hc:X.calm=ah)(hN:X.N.Nodup)(hb:gD X E (j::d) N db)(hp:i∉j::d:=by decide) (hx:X.N[i]?=aa x:=by rfl) (hl:Loc X.env.scope x:=by first|exact Or.inl rfl|exact Or.inr rfl) (hs:∀x,lT (.Name y yp) X.env x=pure x:=by intro _;rfl)(hf:av X x:=by mleft) (hNj:X.N[j]?=aa y:=by rfl) (hv:ee X.env.scope y:=by eq_refl)(hd:ad y:=by decide) (bv:az y:=by decide):DS X E d (.For (.Name x p) (.Name y yp) N [] l) (sS i j db):=λF S ε σ H D rl h=>by
 unfold sS at h;cases e0:kt ε j with
 |none=>rw[e0]at h;exact h.elim
 |some L=>
  rw[e0]at h;simp only[bS,R.bind_ok]at h;split at h;rotate_left
  .exact h.elim
  rename_i hok;split at h;rotate_left
  .exact h.elim
  rename_i Q KR;split at h;rotate_left
  .exact h.elim
  rename_i hje;obtain⟨a,B,ea,Z,hk,nk,hSo⟩:=rl.dtAt (vD e0);have pO:=hk.keys;refine fS (SJ j xx hc hNj hv hd bv (qN hN hx hl hf) qF hs) ⟨a,B,ea,Z,λo nd hz ml=>?_⟩;have uN:¬U (λk b=>S k b/\k≠j) a:=λ⟨k,z1,z2⟩=>z2 (rl.dist k j a z1 nk);have hFa:¬F a:=(rl.foot j a nk).2.1;have r0:aL X.K F (λk b=>S k b/\k≠j) (ε.set j .none) σ (upd H a (.frz o (.dT B))):=(rl.drop j).recast Z (.inl ⟨_,rfl⟩) uN;have u:∀(n:Nat) (b:af),(gM o)[n]?=aa b->∃k,(L.map λp=>lP p.1)[n]?=aa (lP k)/\k.all uT=ah/\H b=aa (.tup (k.map kV)):=λn b hb=>by
   obtain⟨p,h1,h2⟩:=ml.2 n b hb;have h3:(B.map (·.1))[n]?=aa p.1:=by rw[d8,h1];rfl
   rw[pO,d8]at h3;obtain⟨q,h4,h5⟩:=mO.mp h3;refine⟨p.1,by rw[d8,h4,wS,h5],?_,h2⟩;have:=lZ.mp hok q (kc h4);lia
  have bz:(gM o).length=(L.map λp=>lP p.1).length:=by rw[cK,ml.1,hk.len]
  generalize hxs:(L.map λp=>lP p.1)=xs at KR u bz;have fin:∀C J r A,aL X.K C J Q r A->Grow (U λk b=>S k b/\k≠j) (U J) F C (upd H a (.frz o (.dT B))) A->iE (j::d) σ r->vj a B D r A:=by
   intro C J r A r' G O;have xO:A a=aa (.frz o (.dT B)):=G.keep a _ upd_same uN;obtain⟨_,nF',nS'⟩:=G.stay (upd_same:upd H a (.frz o (.dT B)) a=_) uN hFa;have dt:qu (.frz o (.dT B)):=.inr ⟨_,_,rfl⟩;have Y:qu (.dT B):=.inl ⟨_,rfl⟩;have W:aL X.K C J Q r (upd A a (.dT B)):=r'.recast xO dt nS';have mf:jI X.K (upd A a (.dT B)) C L B:=hk.mono λx v z=>aN.mono2 (zm xO dt) (v5 xO dt) (yh xO dt) _ _ ((aN.mono2 (zm Z Y) (v5 Z Y) (yh Z Y) _ _ z:aN X.K (upd H a (.frz o (.dT B))) F x v).grow G r0.fit);have r4:=W.putOwn (po:=.dT L) (Sa:=λb=>b=a) hje (by rw[O j (by simp)];exact ea) ⟨⟨B,upd_same,mf⟩,λ_=>kN⟩ λb z=>by subst z;exact⟨nF',nS',_,upd_same,trivial⟩
   refine⟨o,xO,h C _ r _ r4 ⟨G.fro,λb o' e n=>?_,λb o' e=>?_,λb z=>?_,λb ⟨k,z⟩=>?_⟩ λk hk=>O k (by simp[hk])⟩
   .have M:b≠a:=by rintro rfl;exact n ⟨j,nk⟩
    rw[a8 M];exact G.keep b o' (by rw[a8 M];exact e) λ⟨k,z⟩=>n ⟨k,z.1⟩
   .by_cases M:b=a
    .subst M;exact⟨_,upd_same⟩
    .obtain⟨o2,q⟩:=G.there b o' (by rw[a8 M];exact e);exact⟨o2,by rw[a8 M];exact q⟩
   .rcases G.fnew b z with w|w|⟨k,w⟩
    .exact .inl w
    .refine .inr (.inl ?_);by_cases M:b=a
     .lia
     .rw[a8 M]at w;exact w
    .exact .inr (.inr ⟨k,w.1⟩)
   .rcases z with z|⟨_,z⟩
    .rcases G.onew b ⟨k,z.1⟩with⟨k',w⟩|w
     .exact .inl ⟨k',w.1⟩
     .by_cases M:b=a
      .subst M;rw[upd_same]at w;cases w
      .rw[a8 M]at w;exact .inr w
    .subst z;exact .inl ⟨j,nk⟩
  refine HP (D:=⟨vj a B D,λ_ _=>False,λ_ _=>False,λ_ _=>False⟩) (Li ml.1) (λn r A=>∃C J I,aL X.K C J I r A/\Grow (U λk b=>S k b/\k≠j) (U J) F C (upd H a (.frz o (.dT B))) A/\iE (j::d) σ r/\ff i db (xs.drop n) I=.ok .next Q) ⟨F,_,_,r0,Grow.refl ..,iE.refl _ _,KR⟩ (λn r A _ ⟨C,J,I,_,g,_⟩=>g.keep a _ upd_same uN) ?_ ?_
  .rintro n v r A uO ⟨C,J,I,r',G,O,q⟩;rw[d8]at uO;obtain⟨bb,rO,rfl⟩:=mO.mp uO;obtain⟨k,lw,fF,fO⟩:=u n bb rO;have hn:n<xs.length:=(cP.mp lw).1;have ed:xs.drop n=lP k::xs.drop (n+1):=by rw[wU hn];congr 1;exact(cP.mp lw).2
   rw[ed]at q;have jS:upd H a (.frz o (.dT B)) bb=aa (.tup (k.map kV)):=v5 Z (.inl ⟨_,rfl⟩) _ _ fO;have mi:A bb=aa (.tup (k.map kV)):=G.imm r0.fit jS (λz=>z);have r2:=r'.set (i:=i) (SH (K:=X.K) (F:=C) fF mi);have gl:Grow (U J) (U λj b=>J j b/\j≠i) C C A A:=Grow.less i;show oY X N _ (r.set i (aa (.ref bb))) A;refine hb C _ _ _ A _ r2 ?_;unfold ff at q;cases e:db (I.set i (.val (lP k)))with
   |no=>rw[e]at q;cases q
   |er c T=>rw[e]at q;cases q
   |ok f T=>
    rw[e]at q;cases f with
    |next=>exact λF3 S3 P H3 W g3 p3=>⟨F3,S3,T,W,(G.trans gl).trans g3,(O.trans (iE.set hp)).trans p3,q⟩
    |cont=>exact λF3 S3 P H3 W g3 p3=>⟨F3,S3,T,W,(G.trans gl).trans g3,(O.trans (iE.set hp)).trans p3,q⟩
    |brk=>
     cases q;exact λF3 S3 P H3 W g3 p3=>fin F3 S3 P H3 W ((G.trans gl).trans g3) ((O.trans (iE.set hp)).trans p3)
    |ret s=>cases q
  .rintro r A ⟨C,J,I,r',G,O,q⟩;rw[cK,bz,Ae]at q;cases q;exact fin C J r A r' G O
end
end Pu
namespace L2
open Mx
def iO(a b:List Tx):Bool:=!ltL b a
def cZ(ks:List (List Tx)):List (List Tx):=ks.mergeSort iO
def UC(a b:List Tx):(iO a b||iO b a)=ah:=by
 unfold iO;cases h:ltL b a with
 |false=>rfl
 |true=>
  have:ltL a b=ak:=by
   cases c:ltL a b with
   |false=>rfl
   |true=>exact absurd (ordL.trans _ _ _ h c) (by have:ltL b b=ak:=ordL.irrefl _;show ¬ltL b b=ah;rw[this];decide)
  rw[this];rfl
def Mz(a b c:List Tx)(f:iO a b=ah)(d:iO b c=ah):iO a c=ah:=by unfold iO at *;have:ltL c a=ak:=rm (O:=ordL) (a:=a) (b:=b) (c:=c) (show ltL b a=ak by simpa using f) (show ltL c b=ak by simpa using d);rw[this];rfl
def TB(a b:List Tx)(d:iO a b=ah)(c:iO b a=ah):a=b:=by unfold iO at *;exact ordL.total a b (show ltL a b=ak by simpa using c) (show ltL b a=ak by simpa using d)
def nM(ks:List (List Tx)):(cZ ks).Perm ks:=Dy ks iO
def Jh(ks:List (List Tx)):(cZ ks).Pairwise (λa b=>iO a b=ah):=J3 Mz UC ks
def R5{c:List (List Tx)}(f:c.Perm ks)(d:c.Pairwise (λx y=>iO x y=ah)):c=cZ ks :=J4 (le:=λa b=>iO a b=ah) (λa b _ _=>TB a b) d (Jh ks) (f.trans (nM ks).symm)
def fH(k:List Tx):List aK:=k.map λx=>Sum.inr (tS x)
def Mf(k:List Tx):(fH k).map kV=cr k:=by simp[fH,cr,kV,tV]
section
variable{X:Cx}
def R4(ok:dy P w H h)(e:H a=aa (.tup (cr k)))(c:k≠[]):FtIs h (k.map tS) (.ref a):=by
 obtain⟨_,b,r,p,_⟩:=(show cn P w H h a (.tup (cr k))from ok a _ e)
 exact⟨λz=>c (~~~z),a,b.toArray,rfl,p,by have:=uU r;lia⟩
def My(hu:X.A.units+64<cLine)(hc:X.calm=ah):eG X (.builtin "sorted") (λxs H Q=>∃(d:af) (a:List (List aK×V)) (ks:List (List Tx)),xs=[.ref d]/\H d=aa (.dT a)/\a.map (·.1)=ks.map fH/\(∀k∈ks,k≠[])/\ks.length<=1000000 /\ ∀l (T:List (List Tx×af)),H l=ae->(∀q∈T,H q.2=aa (.tup (cr q.1)))->T.map (·.1)=cZ ks->Q (.ref l) (upd H l (.lst (T.map λq=>.ref q.2)))):=by
 intro ag s σ H xs us Q I r h;obtain⟨d,a,ks,rfl,hd,hk,cE,Z,q⟩:=h;obtain⟨u,rfl,ru⟩:=vals1 r;cases ru;obtain⟨o,ho,_⟩:=I.freezeT hd;obtain⟨hs,es,rd,Y,nd,B,uG⟩:=Bb ho (show cn X.prog X.w H s.heap d (.dT a)from I.hok d _ hd);have m:a.length=ks.length:=by have:=congrArg pi hk;simpa using this
 have uP:∀x∈ks.zip (gM o),H x.2=aa (.tup (cr x.1)):=λx f=>by
  obtain⟨n,D⟩:=Kh f;rw[Ac]at D;obtain⟨p,h1,c⟩:=B.2 n _ D.2;have N:(a.map (·.1))[n]?=aa p.1:=by rw[d8,h1];rfl
  rw[hk,d8,D.1,wS]at N;rw[c,<-f_ N,Mf]
 refine sorted_genK ∅ (PySem.W.kdu_collect (Rn (P:=X.prog) (w:=X.w) (es:=es) (ep:=sj o) hs) (uV (I.ok.hd hc)) rd (by rw[Y,m];exact kI (sT Z)) λj G S k M=>?_);have I1:Inv X ag σ H {s with heap:=j,toks:=G}:=I.kept (t':=G) k;have kh:S.toList=(ks.zip (gM o)).map λx=>Value.ref x.2:=by
  have F:(ks.zip (gM o)).map (λx=>Value.ref x.2)=(gM o).map Value.ref:=by rw[<-Ku (l₁:=ks) (l₂:=gM o) (by rw[B.1,m];lia),cT];simp[Ku,B.1,m]
  rw[F];apply pC;intro n;by_cases D:n<es.size
  .have uI:n<S.size:=by rw[M.1];exact D
   obtain⟨e,h1,c⟩:=M.2 n S[n] (by rw[kf]);obtain⟨b,N,h4⟩:=uG n e h1;rw[d8,N,rj,kf uI,c,h4];rfl
  .rw[oh (by rw[iP,M.1];lia),oh (by rw[cK,B.1,<-Y];lia)]
 have g:∀(c:aB),(∀b o,j.get? b=aa o->c.get? b=aa o)->∀x∈ks.zip (gM o),FtIs c (x.1.map tS) (.ref x.2):=λc i x f=>(R4 I1.hok (uP x f) (cE _ (wB f).1)).keep i;have C:∀v∈S.toList,∃x∈ks.zip (gM o),v=.ref x.2:=λv J=>by
  grind
 refine⟨ftKey j,tuples' ah,λv J=>?_,by rw[iP,M.1,Y,m];exact Z,λA' c hA i jP=>⟨ftLt hA i,λ{E Q} qq=>ft_kind (s:={s with heap:=c,toks:=G}) (λv J=>?_) jP qq⟩,λc W e i iz b1 b2=>?_⟩
 .obtain⟨x,f,rfl⟩:=C v J;exact⟨_,ftKey_of (g j (λ_ _ z=>z) x f)⟩
 .obtain⟨x,f,rfl⟩:=C v J;exact⟨_,g c i x f⟩
 .rw[kh]at b1;obtain⟨A,F,O⟩:=perm_mapE b1;have L:∀q∈A,q∈ks.zip (gM o):=λq hq=>O.mem_iff.mp hq;refine⟨.ref _,_,I1.laid (t':=G) (o:=.lst (A.map λq=>.ref q.2)) i (bi _) ⟨?_,W.toList,e,?_,by rw[Array.toArray_toList];exact iz⟩,rfl,q _ A I1.fresh (λq hq=>uP q (L q hq)) ?_⟩
  .rw[cK,O.length_eq,List.length_zip];have:=sT Z;lia
  .rw[F];clear F O L
   induction A with
   |nil=>exact .nil
   |cons q A ih=>exact .cons rfl ih
  .refine R5 ?_ ?_
   .have:=O.map (·.1);rwa[List.map_fst_zip (by rw[B.1,m];lia)]at this
   .rw[F]at b2;refine pB.mpr ((pB.mp b2).imp_of_mem λ{x y} f hy hh=>?_);have:=hh _ _ (ftKey_of (g j (λ_ _ z=>z) x (L x f))) (ftKey_of (g j (λ_ _ z=>z) y (L y hy)));have:ltL (cpsL (y.1.map tS)) (cpsL (x.1.map tS))=ak:=this;simp only[cpsL,cT,l3,j8,uy]at this;unfold iO;rw[this];rfl
end
end L2
namespace Pu
open L2
def pT:eZ->Option (List Tx)
 |[]=>aa []
 |.inr z::r=>(pT r).map (z.cps.toList::·)
 |_=>ae
def qC:List (eZ×PV)->Option (List (List Tx))
 |[]=>aa []
 | (k,_)::r=>(pT k).bind λt=>(qC r).map (t::·)
def FF:∀{k:eZ}{t:List Tx},pT k=aa t->k=fH t
 |[],t,h=>by cases h;rfl
 |.inr z::r,t,h=>by simp only[pT,mO]at h;obtain⟨l,a,rfl⟩:=h;rw[FF a];simp[fH,qp]
 |.inl _::_,_,h=>by cases h
def Hs:∀{a:List (eZ×PV)}{ks:List (List Tx)},qC a=aa ks->a.map (·.1)=ks.map fH
 |[],ks,h=>by cases h;rfl
 | (k,_)::r,ks,h=>by simp only[qC,uz,mO]at h;obtain⟨t,c,d,b,rfl⟩:=h;rw[cR,cR,Hs b,FF c]
def Bo(t:List Tx):pT (fH t)=aa t:=by
 induction t with
 |nil=>rfl
 |cons x t a=>show pT (Sum.inr (tS x)::fH t)=_;simp[pT,a,j8]
def Rw(ks:List (List Tx))(v:PV):qC (ks.map λk=>(fH k,v))=aa ks:=by
 induction ks with
 |nil=>rfl
 |cons k ks a=>simp[qC,a,Bo]
def oR(k:List Tx):PV:=.tup (am k)
def yz(a:List (eZ×PV)):Option PO:=(qC a).bind λks=>if ks.length<=1000000/\(∀k∈ks,k≠[]/\∀x∈k,x.length<=bD)then aa (.lst ((cZ ks).map oR))else ae
def vT(i:Nat):ac PO:=λε=>(aS (kt ε i) ε).bind λa ε=>aS (yz a) ε
def Uv{X:Cx}(i:Nat)(M:X.A.units+64<cLine)(T:X.calm=ah)(N:X.mg "sorted"=ae)(Y:X.N[i]?=aa y:=by rfl)(eO:ee X.env.scope y:=by eq_refl)(P:ad y:=by decide) (bv:az y:=by decide) (O:Gl X "sorted":=by rfl):DN X E (.Call (.Name "sorted" p) [.Name y G] [] n) (vT i):=λF S D σ H Q g h=>by
 unfold vT at h;cases A:kt D i with
 |none=>rw[A]at h;exact h.elim
 |some r=>
  rw[A]at h;simp only[bS,R.bind_ok]at h;obtain⟨a,I,ea,W,s,ia,_⟩:=g.dtAt (vD A);unfold yz at h;cases v:qC r with
  |none=>rw[v]at h;exact h.elim
  |some ks=>
   rw[v,gz]at h;split at h
   .rename_i u;refine cb (mH (My M T) O N mD (je (e_ Y eO P bv) jE (jx rfl)) (by decide) (by decide) (jx rfl) rfl) ⟨.ref a,ea,a,I,ks,rfl,W,by rw[s.keys];exact Hs v,λk s=>(u.2 k s).1,u.1,λl d C m f=>?_⟩;have al:Al F F H (L2.upd H l (.lst (d.map λq=>.ref q.2))):=Al.new0 C;have reps:∀(d:List (List Tx×af)),(∀q∈d,H q.2=aa (.tup (cr q.1))/\∀x∈q.1,x.length<=bD)->a6 X.K H F ((d.map (·.1)).map oR) (d.map λq=>.ref q.2):=by
     intro d
     induction d with
     |nil=>intro _;rfl
     |cons q d J=>intro m;obtain⟨h1,Z⟩:=m q j_;exact⟨_,_,rfl,⟨q.2,cr q.1,rfl,h1,VB.mpr ⟨rfl,Z⟩⟩,J λz L=>m z (iu _ L)⟩
    refine h F S _ (g.al al) al.grow l (λc=>c=l) ⟨⟨_,upd_same,?_⟩,λc=>kN⟩ λb z=>?_
    .rw[<-f];refine al.reps (reps d λq B=>⟨m q B,?_⟩);have:q.1∈cZ ks:=by rw[<-f];exact b8.mpr ⟨q,B,rfl⟩
     exact(u.2 _ ((nM ks).mem_iff.mp this)).2
    .subst z;exact⟨C,λz=>wX (g.ex _ z) (λo w=>by lia),λ⟨j,z⟩=>wX (g.foot j b z).2.2 (λo w=>by lia),_,upd_same,trivial⟩
   .exact h.elim
end Pu
namespace L2
def QI{s:ao}{f:List ai}(v:IsTup s.heap t #[])(x:IsTup s.heap b f.toArray)(h:Q (.ref b) s):ar (aw P w) A (js .Add (.ref t) (.ref b)) Q E s:=by
 obtain⟨⟨z,y,p,r⟩,l,o,n,m⟩:=id v;obtain⟨⟨q,c,d,a⟩,i,j,u,g⟩:=id x;simp only at o m j g;subst o m j g;exact concat_meets ⟨_,l,rfl⟩ ⟨_,i,rfl⟩ JO seq_tuple_add JP JQ (JR _ _)
  (tuple_addW0 t b #[] f.toArray n u y c r a rfl) ⟨l,i,h⟩
def CG(K:ax):R2:=λx y H Q=>∃a b c,x=.ref a/\y=.ref b/\cu K H a []/\cu K H b c/\Q (.ref b) H
def VU:cg X (js .Add) (CG X.K):=by
 intro w s o H x y v u Q I f d h;obtain⟨a,b,p,rfl,rfl,n,m,q⟩:=h;cases f;cases d;obtain⟨l,g,j,_⟩:=I.tuple n;obtain⟨c,r,i,_⟩:=I.tuple m;cases g;exact QI j i ⟨.ref b,H,I,rfl,q⟩
end L2
namespace Pu
open L2
def we:PV->PV->Option PV
 |.tup [],.tup a=>aa (.tup a)
 |x,y=>bj x y
def Mu:cg X (js .Add) (λx y H Q=>CG X.K x y H Q\/yF X.K x y H Q):=VU.or fU
def Qd{K:ax}:P2 K (λx y H Q=>CG K x y H Q\/yF K x y H Q) we:=λF H x y v u Q pv d c e q=>by
 unfold we at e;split at e
 .cases e;obtain⟨a,h,rfl,f,i⟩:=d;obtain⟨b,g,rfl,j,l⟩:=id c;rw[show h=[] from i]at f;exact .inl ⟨a,b,g,rfl,rfl,cu.of f,cu.of j,q _ F H (Al.refl ..) c⟩
 .exact .inr (fQ F H _ _ v u Q pv d c e q)
end Pu
namespace L2
section
variable{X:Cx}
def Uh(z:X.calm=ah):eG X (.type "set") (λxs H Q=>∃(p:af) (c:List Tx),xs=[.ref p]/\cu X.K H p (cr c)/\(dZ c).length<4000/\∀a,H a=ae->Q (.ref a) (upd H a (pX X a (dZ c)))):=by
 intro M s B H xs C Q I r h;obtain⟨p,c,rfl,x,f,q⟩:=h;obtain⟨u,rfl,l⟩:=vals1 r;cases l;obtain⟨d,g,v,E⟩:=I.tuple x;have y:=g.length;rw[zo]at y;refine PX (P:=X.prog) (w:=X.w) (I.ok.hd z) (.inr v) (by simpa using uU g) (by rw[fD,show d.length=c.length by lia,FC,cK];exact f) λA j S k=>?_;have i:li X.prog X.w A s.heap.objs.size ((dZ c).map tS):=by
  have e:d.toArray.size=c.length:=by grind
  rw[e,FC]at S;exact S
 refine⟨.ref s.heap.objs.size,_,I.laid (t':=j) (o:=pX X s.heap.objs.size (dZ c)) (λb o e=>k b o (bH e) e) (bi _) ?_,rfl,q _ I.fresh⟩;obtain⟨J,L,t,D,e,_⟩:=i.ex;exact⟨i,⟨_,e⟩,λG F n m=>n.at m⟩
end
end L2
namespace Pu
open L2
section
variable{X:Cx}{p:Pos}
def qD:List PV->Option PO
 |[.tup xs]=>(fV xs).bind λa=>if(dZ a).length<4000 then aa (.lst (am (aT (dZ a))))else ae
 |_=>ae
def Nv(X:Cx)(r:List V->Hp->VK->Prop):List V->Hp->VK->Prop:=λxs H Q=>∃(p:af) (b:List Tx),xs=[.ref p]/\cu X.K H p (cr b)/\(dZ b).length<4000/\∀a,H a=ae->r [.ref a] (upd H a (pX X a (dZ b))) Q
def MV:lA X.K (Nv X (M3 X)) qD:=λF H xs I Q L D u e q=>by
 unfold qD at e;split at e
 .obtain⟨v,rfl,a,J,rfl,C,r⟩:=gI u;obtain⟨i,G,n⟩:=uz.mp e;rw[uX G]at r;obtain⟨rfl,A⟩:=VB.mp r;split at n
  .rename_i s;cases n;refine⟨a,i,rfl,cu.of C,s,λb B=>⟨b,dZ i,rfl,upd_same,s,λl h=>?_⟩⟩;have j:l≠b:=by rintro rfl;rw[upd_same]at h;cases h
   have m:H l=ae:=by rw[a8 j]at h;exact h
   have al:Al F F H (upd (upd H b (pX X b (dZ i))) l (.lst (cr (aT (dZ i))))):=(Al.new0 B).trans (Al.new0 h);refine q l F _ (λc=>c=l) al ⟨⟨_,upd_same,VB.mpr ⟨rfl,λx y=>A x ((BF _ _).mp ((fk _).mem_iff.mp y))⟩⟩,λc=>kN⟩ λc z=>?_;subst z;exact⟨m,λz=>wX (D _ z) (λo w=>by lia),_,upd_same,trivial⟩
  .cases n
 .cases e
def FE(c:X.calm=ah)(m:DA X E [e] g)(j:X.mg "sorted"=ae)(a:X.mg "set"=ae)(l:Gl X "sorted":=by rfl)(b:Gl X "set":=by rfl)(h:o5 e=ak:=by rfl):DN X E (.Call (.Name "sorted" p) [.Call (.Name "set" q) [e] [] d] [] f) (dL qD g):=λF S r o H Q i n=>cb (mH (PQ c) l j mD (je (zk (Uh c) b a GT jh (by decide) (by decide) (jx h) rfl) jE (jx rfl)) (by decide) (by decide) (jx rfl) rfl) (vK MV m i n)
end
def tJ(d:ac Slot):ac Slot:=λa=>(d a).bind λs ε1=>(aS (zy s) ε1).bind λv ε1=>.ok (.val v) ε1
def RD(h:DX X e d):DX X e (tJ d):=λF S n x H Q W E q=>by
 unfold tJ at q;refine h F S n x H Q W E ?_;cases P:d n with
 |no=>simp_all
 |er c B=>simp_all
 |ok s A=>
  rw[P]at q;intro u i j r f v m p l;cases s with
  |none=>exact q.elim
  |val pv=>exact q u i j r f v m p l
  |own G=>
   obtain⟨a,rfl,I⟩:=p;cases G with
   |dK g=>exact q.elim
   |lls T=>exact q.elim
   |dL T=>exact q.elim
   |ins C fs=>exact q.elim
   |dT g=>exact q.elim
   |dN g=>exact q.elim
   |inl C fs y xs=>exact q.elim
   |lst xs=>
    have N:∀b,m b->¬U i b/\∃o,j b=aa o:=λb z=>let ⟨_,_,x3,o,x4,_⟩:=l b z;⟨x3,o,x4⟩
    obtain⟨⟨D,L,J⟩,M⟩:=I;have O:Grow (U S) (U i) F (λb=>u b\/m b) H j:=⟨λb z=>.inl (f.fro b z),f.keep,f.there,λb z=>z.elim (f.fnew b) λw=>.inr (.inl (l b w).1),f.onew⟩
    exact q _ i j (r.more N) O _ (λ_=>False) ⟨⟨a,D,rfl,.inl L,.inr ((M a).mpr rfl),a6.mono (λ_ z=>.inl z) (λ_ _ _ z=>z) (λ_ _ z _=>z) _ _ J⟩,λ_ z=>z⟩ λ_ z=>z.elim
end Pu
local macro_rules | `(⇑$x) => `(.val (.int $x))
local macro_rules | `(↥$x) => `(.val (.str $x))
namespace Sh
open L2 Pu
set_option genInjectivity false in
structure Ad where
 SlitError:af
 NoText:af
 NoWidth:af
 NoView:af
 NoWindow:af
 Never:af
 Full:af
 Nothing:af
 Unlike:af
 NoPlace:af
 NoLetters:af
 BadText:af
 Seeker:af
 Slit:af
def jg(a:Ad):List af:=[a.NoText,a.NoWidth,a.NoView,a.NoWindow,a.Never,a.Full,a.Nothing,a.Unlike,a.NoPlace,a.NoLetters,a.BadText]
def pU(a:Ad)(c:ai):Bool:=match c with
 |.ref x=>(jg a).contains x
 |_=>ak
def jF(a:Ad)(c:ai)(D:V):Option Bool:=match c,D with
 |.ref x,.ref d=>if(jg a).contains x&&(jg a).contains d then aa (x == d)else ae
 |.ref x,.ty T=>if(jg a).contains x&&T == "ValueError" then aa ah else ae
 |_,_=>ae
def yau(a:Ad):ac aM:=cB (dL qw (ay (dF (bE [1] (aU (dV 0)) (b7) (d2 (iF ak) (dV 0) (dV 1)))) (aE)))
def zB(a:Ad):ac Slot:=bJ 2 [] (bI 0 (yau a))
def yaz(a:Ad):ac aM:=cB (lz (dL jJ (ay (dV 0) (ay (dC (.raw (.ty "int"))) (aE)))) (zv (dL jJ (ay (dV 0) (ay (dC (.raw (.ty "bool"))) (aE))))))
def yd(a:Ad):ac Slot:=bJ 1 [] (bI 0 (yaz a))
def yaA(a:Ad):ac aM:=cB (lz (bA (bg (yd a) (gV (dV 0) (bY)))) (qm (dX λi j=>decide (i<=j)) (dX λi j=>decide (i<=j)) (dC (.int 1)) (dV 0) (dC (.int 4))))
def tW(a:Ad):ac Slot:=bJ 1 [] (bI 0 (yaA a))
def yaB(a:Ad):ac aM:=cB (lz (dL jJ (ay (dV 0) (ay (dC (.raw (.ty "str"))) (aE)))) (lz (d2 (eqT ak) (dL bV (ay (dV 0) (aE))) (dV 1)) (bA (bg (zB a) (gV (dV 0) (gV (dV 2) (bY)))))))
def tF(a:Ad):ac Slot:=bJ 3 [] (bI 0 (yaB a))
def yam(a:Ad):ac aM:=aH (cO (mn (mq (dB (dL jJ (ay (dV 0) (ay (dC (.raw (.ty "tuple"))) (aE)))))) (mq (dB (qm (dX λi j=>decide (i<=j)) (dX λi j=>decide (i<=j)) (dC (.int 1)) (dL bV (ay (dV 0) (aE))) (dC (.int 9)))))) (cB (dC (.bl ak))) (f9))
 (aH (cO (mq (dB (dL qw (ay (dF (bE [1,2] (aU (dV 0)) (b7) (bA (bg (tF a) (gV (dV 0) (gV (dV 1) (gV (dV 2) (bY)))))))) (aE))))) (cB (dC (.bl ak))) (f9))
 (cB (d2 (eqT ak) (dF (dL tf (ay (dV 0) (aE)))) (dF (dL jf (ay (dV 0) (aE)))))))
def oZ(a:Ad):ac Slot:=bJ 3 [] (bI 0 (yam a))
def yay(a:Ad):ac aM:=aH (cO (mn (mq (dB (dL jJ (ay (dV 0) (ay (dC (.raw (.ty "tuple"))) (aE)))))) (dB (d2 (eqT ah) (dL bV (ay (dV 0) (aE))) (dC (.int 2))))) (cB (dC (.bl ak))) (f9))
 (cB (lz (bA (bg (tW a) (gV (d2 bd (dV 0) (dC (.int 0))) (bY)))) (bA (bg (oZ a) (gV (d2 bd (dV 0) (dC (.int 1))) (gV (d2 bd (dV 0) (dC (.int 0))) (gV (dV 1) (bY))))))))
def o4(a:Ad):ac Slot:=bJ 2 [] (bI 0 (yay a))
def yax(a:Ad):ac aM:=pV (bg (o4 a) (gV (dV 0) (gV (dC (.str [97,98,99])) (bY))))
def y0(a:Ad):ac Slot:=bJ 1 [] (bI 0 (yax a))
def yap(a:Ad):ac aM:=cO (mq (dB (bA (bg (y0 a) (gV (dV 0) (bY)))))) (vk (.ref a.NoView) (λb=>bq ((dC (.str [97,32,118,105,101,119,32,105,115,32,97,32,116,117,112,108,101,32,111,102,32,97,32,119,105,100,116,104,32,97,110,100,32,97,32,114,105,115,105,110,103,32,116,117,112,108,101,32,111,102,32,49,32,116,111,32,57,32,119,105,110,100,111,119,115])) b))) (f9)
def vt(a:Ad):ac Slot:=bJ 1 [] (bI 0 (yap a))
def yas(a:Ad):ac aM:=aH (cX 1 (yH))
 (aH (λb=>dH (bZ 2 (aU (dV 0)) (aH (jU 1 (eI fu (dV 2) (fo) (ef (d1 im (dC (.int 1))))) (d2 bj (mE 1 (eI fu (dV 2) (fo) (ef (d1 im (dC (.int 1))))) (dC (.int 0))) (dC (.int 1))))
 (jU 1 (eI fu (dV 2) (ef (dC (.int 1))) (fo)) (d2 lI (mE 1 (eI fu (dV 2) (ef (dC (.int 1))) (fo)) (dC (.int 0))) (dC (.int 1))))) b))
 (k8 1))
def su(a:Ad):ac Slot:=bJ 1 [] (bI 2 (yas a))
def yaR(a:Ad):ac aM:=aH (cX 1 (u_ (eI fu (d2 bd (dV 0) (dC (.int 0))) (fo) (ef (d1 im (dC (.int 1))))) (dC (.bl ah))))
 (aH (bw 2 (dC (.int 0)))
 (aH (λb=>dH (jk (dB (d2 (dX λi j=>decide (i<j)) (dV 2) (nN 1))) (aH (bw 2 (nN 1))
 (bZ 3 (aU (dV 0)) (cO (mn (dB (jA ak 1 (eI fu (dV 3) (fo) (ef (d1 im (dC (.int 1))))))) (dB (jA ak 1 (eI fu (dV 3) (ef (dC (.int 1))) (fo))))) (aH (jU 1 (eI fu (dV 3) (fo) (ef (d1 im (dC (.int 1))))) (dC (.bl ah)))
 (jU 1 (eI fu (dV 3) (ef (dC (.int 1))) (fo)) (dC (.bl ah)))) (f9)))) 1000 b))
 (k8 1)))
def o6(a:Ad):ac Slot:=bJ 1 [] (bI 3 (yaR a))
def yaF(a:Ad):ac aM:=aH (cO (dB (d2 (dX λi j=>decide (i<j)) (dV 1) (dL bV (ay (dV 0) (aE))))) (cB (d2 bd (dV 0) (dV 1))) (f9))
 (aH (cO (dB (d2 (eqT ak) (dV 0) (dF (dL cM (aE))))) (cB (dC (.int 0))) (f9))
 (cB (d2 bj (d2 lJ (d2 bd (dV 0) (d2 g8 (dV 1) (dL bV (ay (dV 0) (aE))))) (dC (.int 31))) (dV 1))))
def sU(a:Ad):ac Slot:=bJ 2 [] (bI 0 (yaF a))
def yaI(a:Ad):ac aM:=aH (bw 3 (d2 g8 (d2 bj (d2 bj (d2 lJ (bA (bg (sU a) (gV (dV 0) (gV (dV 1) (bY))))) (dC (.int 1103515245))) (d2 lJ (dC (.int 7919)) (dV 1))) (dC (.int 12345))) (dC (.int 2147483647))))
 (cB (d2 g8 (d2 g8 (d2 g8 (d2 vA (dV 3) (dC (.int 5))) (dC (.int 2147483647))) (dC (.int 999983))) (dV 2)))
def zz(a:Ad):ac Slot:=bJ 3 [] (bI 1 (yaI a))
def yaG(a:Ad):ac aM:=aH (vH 1 (dC (.int 0)))
 (pV (bg (zz a) (gV (dV 0) (gV (k9 (λxs=>qd (bV xs)) 1) (gV (dV 2) (bY))))))
def hU(a:Ad):ac Slot:=bJ 3 [1] (bI 0 (yaG a))
def yaJ(a:Ad):ac aM:=cB (d2 bd (dV 2) (bA (bg (hU a) (gV (dV 0) (gO 1 (gV (dL bV (ay (dV 2) (aE))) (bY)))))))
def vF(a:Ad):ac Slot:=bJ 3 [1] (bI 0 (yaJ a))
def yaL(a:Ad):ac aM:=aH (bw 4 (bA (bg (vF a) (gV (dV 0) (gO 1 (gV (dF (dL cM (ay (dC (.int 1)) (ay (dC (.int 2)) (ay (dC (.int 2)) (ay (dC (.int 3)) (ay (dC (.int 3)) (ay (dC (.int 3)) (aE))))))))) (bY)))))))
 (aH (bw 5 (dC (.str [])))
 (aH (λb=>dH (bZ 6 (dL kD (ay (d2 bj (dV 2) (bA (bg (hU a) (gV (dV 0) (gO 1 (gV (d2 bj (d2 lI (dV 3) (dV 2)) (dC (.int 1))) (bY))))))) (aE))) (bw 5 (d2 bj (dV 5) (d2 bd (dC (.str [97,98,99])) (bA (bg (hU a) (gV (dV 0) (gO 1 (gV (dV 4) (bY))))))))) b))
 (cB (dV 5))))
def sF(a:Ad):ac Slot:=bJ 4 [1] (bI 3 (yaL a))
def yaK(a:Ad):ac aM:=cB (dL iJ (ay (dF (dL jf (ay (dF (bE [0,1] (dL kD (ay (dL bV (ay (dV 0) (aE))) (aE))) (dB (d2 (dX λi j=>decide (i<=j)) (d2 bj (dV 0) (dV 2)) (dL bV (ay (dV 1) (aE))))) (eI fu (dV 1) (ef (dV 0)) (ef (d2 bj (dV 0) (dV 2)))))) (aE)))) (aE)))
def oW(a:Ad):ac Slot:=bJ 2 [] (bI 0 (yaK a))
def yaP(a:Ad):ac aM:=aH (bw 4 (cO (dB (d2 (eqT ah) (dV 2) (dC (.int 2)))) (d2 bj (dC (.int 2)) (bA (bg (hU a) (gV (dV 0) (gO 1 (gV (dC (.int 3)) (bY))))))) (d2 bj (dC (.int 1)) (bA (bg (hU a) (gV (dV 0) (gO 1 (gV (dC (.int 4)) (bY)))))))))
 (aH (cX 5 (dL tf (ay (bA (bg (oW a) (gV (bA (bg (sF a) (gV (dV 0) (gO 1 (gV (dV 4) (gV (d2 lI (d2 bj (dV 4) (dV 3)) (dC (.int 1))) (bY))))))) (gV (dV 4) (bY))))) (aE))))
 (aH (λb=>dH (bZ 6 (dL kD (ay (d2 g8 (dV 2) (dC (.int 3))) (aE))) (zC 5 (bA (bg (hU a) (gV (dV 0) (gO 1 (gV (k9 (λxs=>qd (bV xs)) 5) (bY)))))) (bA (bg (sF a) (gV (dV 0) (gO 1 (gV (dV 4) (gV (dV 4) (bY)))))))) b))
 (cB (dL eh (ay (dV 4) (ay (dL iJ (ay (dF (k9 (λxs=>v4 (jf xs)) 5)) (aE))) (aE)))))))
def uS(a:Ad):ac Slot:=bJ 4 [1] (bI 3 (yaP a))
def yaQ(a:Ad):ac aM:=aH (cX 1 (dL cM (ay (dL (jY (jF a)) (ay (dV 0) (ay (dC (.raw (.ref a.NoText))) (aE)))) (ay (dL (jY (jF a)) (ay (dV 0) (ay (dC (.raw (.ref a.NoWidth))) (aE)))) (ay (dL (jY (jF a)) (ay (dV 0) (ay (dC (.raw (.ref a.NoView))) (aE)))) (ay (dL (jY (jF a)) (ay (dV 0) (ay (dC (.raw (.ref a.NoWindow))) (aE)))) (aE)))))))
 (aH (gJ 1 (dF (dL cM (ay (dL (jY (jF a)) (ay (dV 0) (ay (dC (.raw (.ref a.Never))) (aE)))) (ay (dL (jY (jF a)) (ay (dV 0) (ay (dC (.raw (.ref a.Full))) (aE)))) (ay (dL (jY (jF a)) (ay (dV 0) (ay (dC (.raw (.ref a.Nothing))) (aE)))) (ay (dL (jY (jF a)) (ay (dV 0) (ay (dC (.raw (.ref a.Unlike))) (aE)))) (aE))))))))
 (aH (gJ 1 (dF (dL cM (ay (dL (jY (jF a)) (ay (dV 0) (ay (dC (.raw (.ref a.NoPlace))) (aE)))) (ay (dL (jY (jF a)) (ay (dV 0) (ay (dC (.raw (.ref a.NoLetters))) (aE)))) (ay (dL (jY (jF a)) (ay (dV 0) (ay (dC (.raw (.ref a.BadText))) (aE)))) (aE)))))))
 (aH (cO (mn (dB (d2 (eqT ah) (sW mz 1 (dC (.bl ah))) (dC (.int 1)))) (mq (dB (dL (jY (jF a)) (ay (dV 0) (ay (dC (.raw (.ty "ValueError"))) (aE))))))) (cB (dL eh (ay (dC (.str [114,101,102,117,115,101,100])) (ay (d1 im (dC (.int 1))) (aE))))) (f9))
 (cB (dL eh (ay (dC (.str [114,101,102,117,115,101,100])) (ay (sW Cs 1 (dC (.bl ah))) (aE))))))))
def vX(a:Ad):ac Slot:=bJ 1 [] (bI 1 (yaQ a))
def yaO(a:Ad):ac aM:=aH (bw 3 (bA (bg (oW a) (gV (dV 0) (gV (dV 1) (bY))))))
 (cB (dL qw (ay (dF (bE [3,2] (aU (dV 3)) (b7) (d2 (dX λi j=>decide (i<=j)) (sG mz (dV 1) (dV 0)) (sG mz (dV 2) (dV 0))))) (aE))))
def o8(a:Ad):ac Slot:=bJ 3 [] (bI 1 (yaO a))
def yaD(a:Ad):ac aM:=aH (B4 1 2 (dV 0))
 (aH (bw 3 (dF (dL cM (ay (dC (.str [])) (aE)))))
 (aH (λε=>dH (bZ 4 (dL kD (ay (d2 lI (d2 bj (dL bV (ay (dV 2) (aE))) (dV 1)) (dC (.int 1))) (aE))) (aH (cX 5 (dL cM (aE)))
 (aH (bZ 6 (aU (dV 3)) (gJ 5 (dF (bE [6,1,2] (aU (dC (.str [97,98,99]))) (dB (bA (bg (o8 a) (gV (d2 bj (dV 1) (dV 0)) (gV (dV 2) (gV (dV 3) (bY))))))) (d2 bj (dV 1) (dV 0))))))
 (bw 3 (dM 5)))) ε))
 (jV (bE [1,2] (aU (dV 3)) (dB (d2 (eqT ak) (bA (bg (oW a) (gV (dV 0) (gV (dV 1) (bY))))) (dV 2))) (dV 0)))))
def sK(a:Ad):ac Slot:=bJ 1 [] (bI 6 (yaD a))
def yav(a:Ad):ac aM:=cB (lz (bA (bg (o4 a) (gV (dV 0) (gV (d2 bj (dC (.str [46])) (dC (.str [97,98,99]))) (bY))))) (d2 (dX λi j=>decide (i<=j)) (my yt (my nv (dC (.str [])) (ay (d2 bd (dV 0) (dC (.int 1))) (aE))) (ay (dC (.str [46])) (aE))) (dC (.int 6))))
def oS(a:Ad):ac Slot:=bJ 1 [] (bI 0 (yav a))
def yao(a:Ad):ac aM:=cO (mq (dB (bA (bg (oS a) (gV (dV 0) (bY)))))) (vk (.ref a.NoView) (λb=>bq ((dC (.str [97,32,98,108,117,114,114,101,100,32,118,105,101,119,32,105,115,32,97,32,118,105,101,119,32,111,102,32,119,104,111,115,101,32,108,101,116,116,101,114,115,32,117,112,32,116,111,32,54,32,109,97,121,32,98,101,32,112,111,105,110,116,115])) b))) (f9)
def vU(a:Ad):ac Slot:=bJ 1 [] (bI 0 (yao a))
def yaT(a:Ad):ac aM:=aH (bw 1 (dF (dL cM (ay (dC (.str [])) (aE)))))
 (aH (λb=>dH (bZ 2 (aU (dV 0)) (aH (bw 3 (cO (dB (d2 (eqT ak) (dV 2) (dC (.str [46])))) (dC (.str [97,98,99])) (dV 2)))
 (aH (cX 4 (dL cM (aE)))
 (aH (bZ 5 (aU (dV 1)) (gJ 4 (dF (bE [5] (aU (dV 3)) (b7) (d2 bj (dV 1) (dV 0))))))
 (bw 1 (dM 4))))) b))
 (cB (dV 1)))
def sH(a:Ad):ac Slot:=bJ 1 [] (bI 5 (yaT a))
def yar(a:Ad):ac aM:=aH (cX 1 (v8 (dL eh (aE)) (dC (.bl ah))))
 (aH (λε=>dH (bZ 2 (aU (d2 bd (dV 0) (dC (.int 1)))) (aH (cX 3 zp)
 (aH (sS 4 1 (bZ 5 (aU (bA (bg (sH a) (gV (dV 2) (bY))))) (yC 3 (dL iJ (ay (dF (dL jf (ay (d2 we (dV 4) (dL eh (ay (dV 5) (aE)))) (aE)))) (aE))) (dC (.bl ah)))))
 (v6 1 3))) ε))
 (jV (bE [0] (aU (dF (vT 1))) (b7) (dL eh (ay (d2 bd (dV 1) (dC (.int 0))) (ay (dV 0) (aE)))))))
def zu(a:Ad):ac Slot:=bJ 1 [] (bI 5 (yar a))
def yaE(a:Ad):ac aM:=aH (cX 4 (zj [] (aU (d2 bd (dV 2) (dC (.int 1)))) (dL sr (ay (dV 0) (aE)))))
 (aH (λb=>dH (bZ 5 (dL kD (ay (bA (bg (hU a) (gV (dV 0) (gO 1 (gV (d2 bj (dV 3) (dC (.int 1))) (bY)))))) (aE))) (zi 4 (bA (bg (hU a) (gV (dV 0) (gO 1 (gV (u9 4) (bY)))))) (bA (bg (hU a) (gV (dV 0) (gO 1 (gV (d2 bd (dV 2) (dC (.int 0))) (bY)))))) (dC (.str [46]))) b))
 (cB (dL eh (ay (d2 bd (dV 2) (dC (.int 0))) (ay (dL iJ (ay (dF (dL jf (ay (dF (bE [] (aU (zt 4)) (b7) (my nv (dC (.str [])) (ay (dV 0) (aE))))) (aE)))) (aE))) (aE))))))
def yY(a:Ad):ac Slot:=bJ 4 [1] (bI 2 (yaE a))
def yat(a:Ad):ac aM:=aH (cX 1 (kB (bg (su a) (gV (dV 0) (bY)))))
 (aH (bw 2 (dF (bE [1] (aU (dF (o_ 1))) (dB (d2 (dX λi j=>decide (j<i)) (lc 1 (dV 0)) (dC (.int 0)))) (dV 0))))
 (aH (cO (dB (d2 (dX λi j=>decide (j<i)) (dL bV (ay (dV 2) (aE))) (dC (.int 1)))) (cB (dL eh (ay (dC (.str [116,119,111])) (ay (d2 bd (dV 2) (dC (.int 0))) (ay (d2 bd (dV 2) (dC (.int 1))) (aE)))))) (f9))
 (aH (cO (pW (dB (d2 (eqT ak) (dL bV (ay (dV 2) (aE))) (dC (.int 1)))) (dB (d2 (dX λi j=>decide (j<i)) (lc 1 (d2 bd (dV 2) (dC (.int 0)))) (dC (.int 1))))) (cB (dL eh (ay (dC (.str [109,111,114,101])) (ay (d2 bd (dV 2) (dC (.int 0))) (aE))))) (f9))
 (aH (cX 3 (kB (bg (o6 a) (gV (dV 0) (bY)))))
 (aH (bw 4 (dF (qv [3] (vE (ay (dV 0) (aE))) (dB (jA ak 2 (eI fu (dV 1) (fo) (ef (d1 im (dC (.int 1))))))) (dV 0))))
 (aH (cO (dB (d2 (dX λi j=>decide (i<j)) (dL bV (ay (dV 4) (aE))) (dL bV (ay (dV 0) (aE))))) (cB (dL eh (ay (dC (.str [97,112,97,114,116])) (ay (dL iJ (ay (dV 4) (aE))) (aE))))) (f9))
 (cB (dC .non))))))))
def vm(a:Ad):ac Slot:=bJ 1 [] (bI 4 (yat a))
def yan(a:Ad):ac aM:=aH (wq (bg (vt a) (gV (dV 0) (bY))))
 (pV (bg (vm a) (gV (d2 bd (dV 0) (dC (.int 1))) (bY))))
def vd(a:Ad):ac Slot:=bJ 1 [] (bI 0 (yan a))
def yaq(a:Ad):ac aM:=aH (wq (bg (vU a) (gV (dV 0) (bY))))
 (jV (bE [] (aU (bA (bg (zu a) (gV (dV 0) (bY))))) (dB (d2 (nA ak) (bA (bg (vd a) (gV (dV 0) (bY)))) (dC .non))) (dV 0)))
def yv(a:Ad):ac Slot:=bJ 1 [] (bI 0 (yaq a))
def yaM(a:Ad):ac aM:=aH (cX 1 (dL cM (aE)))
 (aH (λb=>dH (bZ 2 (aU (dV 0)) (gJ 1 (dF (bE [2] (aU (dC (.str [97,98,99]))) (b7) (d2 bj (dV 1) (dV 0))))) b))
 (k8 1))
def v_(a:Ad):ac Slot:=bJ 1 [] (bI 2 (yaM a))
def yaN(a:Ad):ac aM:=aH (cX 2 (dL cM (aE)))
 (aH (λb=>dH (bZ 3 (aU (dV 0)) (gJ 2 (dF (bE [3] (aU (dV 1)) (b7) (d2 bj (dV 1) (dF (dL cM (ay (dV 0) (aE)))))))) b))
 (k8 2))
def vY(a:Ad):ac Slot:=bJ 2 [] (bI 2 (yaN a))
def yaH(a:Ad):ac aM:=aH (bw 1 (dF (dL cM (ay (dF (dL cM (aE))) (aE)))))
 (aH (λε=>dH (bZ 2 (aU (d2 bd (dV 0) (dC (.int 1)))) (aH (bw 3 (dF (dL cM (ay (dC (.str [])) (aE)))))
 (aH (bZ 4 (aU (dV 2)) (bw 3 (cO (dB (d2 (eqT ak) (dV 4) (dC (.str [46])))) (bA (bg (v_ a) (gV (dV 3) (bY)))) (dF (bE [4] (aU (dV 3)) (b7) (d2 bj (dV 0) (dV 1)))))))
 (bw 1 (bA (bg (vY a) (gV (dV 1) (gV (dV 3) (bY)))))))) ε))
 (aH (bw 5 (dF (dL sortSetVP (ay (dF (bE [0] (aU (dV 1)) (b7) (dL eh (ay (d2 bd (dV 1) (dC (.int 0))) (ay (dL iJ (ay (dF (dL jf (ay (dV 0) (aE)))) (aE))) (aE)))))) (aE)))))
 (jV (bE [] (aU (dV 5)) (dB (d2 (eqT ah) (bA (bg (sK a) (gV (dV 0) (bY)))) (dF (dL cM (aE))))) (dV 0)))))
def y8(a:Ad):ac Slot:=bJ 1 [] (bI 5 (yaH a))
def yaw(a:Ad):ac aM:=cB (dL qw (ay (dF (bE [0] (aU (dV 1)) (b7) (d2 (iF ak) (dV 1) (d2 bd (dV 0) (dC (.int 1)))))) (aE)))
def vQ(a:Ad):ac Slot:=bJ 2 [] (bI 0 (yaw a))
def yaS(a:Ad):ac aM:=aH (bw 1 (bA (bg (yv a) (gV (dV 0) (bY)))))
 (aH (cO (dB (d2 (eqT ak) (dL bV (ay (dV 1) (aE))) (dC (.int 0)))) (vk (.ref a.Never) (λε=>bq ((dC (.str [110,111,32,116,101,120,116,32,104,97,115,32,97,32,118,105,101,119,32,116,104,97,116,32,99,108,101,97,114,115,32,116,104,105,115,32,111,110,101])) ε))) (f9))
 (jV (bE [1] (aU (dF (dL qD (ay (d2 bd (d2 bd (dV 1) (dC (.int 0))) (dC (.int 1))) (aE))))) (dB (bA (bg (vQ a) (gV (dV 0) (gV (dV 1) (bY)))))) (dV 0))))
def qL(a:Ad):ac Slot:=bJ 1 [] (bI 1 (yaS a))
end Sh
namespace Pu
open L2
def bX{X:Cx}(cap:List Nat)(h:Ba X.N X.env.scope a x (x::cap.map λj=>X.N.getD j "") cap=ah:=by kernel_rfl):iG X a x (x::cap.map λj=>X.N.getD j "") cap:=iG.of _ _ rfl rfl h
def lx:∀C b c f d,DF (bB X a g C b c f d) E0 [] b7:=λ_ _ _ _ _=>FM
abbrev dO(P:aQ)(w:aJ)(K:ax)(c:Str->Option ai)(a:aB)(x:Str)(k:Nat)(b:List Str)(g:ac Slot):=qE (lB P w) P w K c a x k b (fY K g)
def dP{p:gE}{P:aQ}{w:aJ}{K:ax}{m:Str->Option ai}{c:aB}{x:Str}{b:bf}{N i:List Str}{k n:Nat}{d:ac aM}{j:List Nat}(D:cG K m x b)(B:cq N i (br b))(r:∀(f:af) (l:ai) (A:aX) (g:List Env) (s:ao) (H:Hp) (E:XK),fR k (A.deeper (jt x (br b) s.heap.objs.size f l))->gD (jc p P w K m c N x (br b) f l A g s H E) E j (f8 b) d) (u:N.length=i.length+n:=by rfl)(v:∀(kV o q:ai) (z:Option af) (l y:ai) (a:List ai),a.length=i.length->gy (iS x x (j3 b) (f8 b) (br b) .none kV o q z l y) ⟨a,[]⟩=pure (i.zip a):=by
   first|exact λ_ _ _ _ _ _ a h=>PD (λ_=>rfl) a h|exact λ_ _ _ _ _ _ a h=>Lo (λ_ _=>rfl) a h|exact λ_ _ _ _ _ _ a h=>Ox (λ_ _ _=>rfl) a h|exact λ_ _ _ _ _ _ a h=>TV (λ_ _ _ _=>rfl) a h) :
  qE p P w K m c x (k+1) i (fY K (bJ i.length j (bI n d))):=M0 D B u v r
section
variable{X:Cx}
def cp(c:qE f X.prog X.w X.K X.mg X.base x k h (fY X.K g))(l:fR j X.A)(i:s_ f X E)(q:DG X E (e::b) d)(m:k<=j:=by decide)(n:Gl X x:=by rfl)(o:ad x:=by decide) (s:aV (e::b) X.env=(ak,a9 e X.env)::aV b X.env:=by rfl) (r:(c8 a (aV b X.env)).any (·.1)=ak:=by rfl):DR X E (.Call (.Name x p) (e::b) [] a) (bg g d):=TH c (l.mono m) i q n o s r
end
end Pu
local macro_rules | `(tactic| simp! [$xs,*]) => `(tactic| simp [Pu.aH, Pu.cO, Pu.dB, Pu.d2, Pu.d1, Pu.dV, Pu.dC, Pu.dL, Pu.dF, Pu.ay, Pu.aE, Pu.cB, Pu.pV, Pu.bw, Pu.cX, Pu.bg, Pu.gV, Pu.gO, Pu.bY, Pu.fP, Pu.fX, Pu.cI, Pu.eU, Pu.i9, Pu.R.bind, Pu.aS, Pu.bJ, Pu.gq, Pu.bI, Pu.back, Pu.gu, Pu.oJ, Pu.ji, Pu.AZ, Pu.zy, Pu.zb, Pu.bA, Pu.kB, Pu.cM, Pu.eh, Pu.f9, Pu.I_, Pu.wq, Pu.IL, Pu.mq, Pu.zv, Pu.pW, Pu.mn, Pu.lz, Pu.HB, Pu.qm, Pu.dX, Pu.eY, Pu.vH, Pu.k9, Pu.qd, Pu.imm, Pu.v4, Pu.nB, dW, pi, $xs,*])
namespace K10
open L2 Pu Sh
def dz(i:Nat):bf:=PySem.Challenge.pw_slitview_k10_whole_seen_windows.main.body.getD i (.Pass ⟨0,0,0,0⟩)
abbrev AO:bf:=dz 41
abbrev AB:bf:=dz 42
abbrev BN:bf:=dz 43
abbrev CZ:bf:=dz 44
abbrev AD:bf:=dz 46
abbrev Bv:bf:=dz 45
abbrev A2:bf:=dz 47
abbrev Az:bf:=dz 48
abbrev BE:bf:=dz 52
abbrev Cr:bf:=dz 51
abbrev C8:bf:=dz 49
abbrev AN:bf:=dz 50
abbrev B2:bf:=dz 53
abbrev Bc:bf:=dz 20
abbrev C_:bf:=dz 21
abbrev A6:bf:=dz 19
abbrev CD:bf:=dz 22
abbrev Bf:bf:=dz 23
abbrev Cw:bf:=dz 24
abbrev Ch:bf:=dz 26
abbrev C4:bf:=dz 28
abbrev A_:bf:=dz 29
abbrev AF:bf:=dz 36
abbrev B8:bf:=dz 25
abbrev Da:bf:=dz 27
abbrev AG:bf:=dz 31
abbrev AU:bf:=dz 32
abbrev yL:bf:=dz 33
abbrev C9:bf:=dz 34
abbrev BI:bf:=dz 37
abbrev BB:bf:=dz 38
abbrev BO:bf:=dz 39
abbrev Bq:bf:=dz 54
abbrev xV:bf:=dz 55
structure df(K:ax)(mg:Str->Option ai)(base:aB)(a:Ad):Prop where
 yaF:cG K mg "_law_cell_at" AO
 yaI:cG K mg "_law_mixed" AB
 yaG:cG K mg "_law_draw" BN
 yaJ:cG K mg "_law_pick" CZ
 yaK:cG K mg "_law_seen" AD
 yaL:cG K mg "_law_text" Bv
 yaP:cG K mg "_law_view" A2
 yaE:cG K mg "_law_blurred" Az
 yaN:cG K mg "_law_times" BE
 yaM:cG K mg "_law_three" Cr
 yaO:cG K mg "_law_under" C8
 yaD:cG K mg "_law_all" AN
 yaH:cG K mg "_law_filled" B2
 yaz:cG K mg "is_whole_number" Bc
 yaA:cG K mg "is_width" C_
 yau:cG K mg "has_only" A6
 yaB:cG K mg "is_window" CD
 yam:cG K mg "are_windows" Bf
 yay:cG K mg "is_view_with" Cw
 yav:cG K mg "is_blurred_view" Ch
 yao:cG K mg "check_blurred_view" C4
 yaT:cG K mg "windows_that_fit" A_
 yar:cG K mg "clearing_views" AF
 yax:cG K mg "is_view" B8
 yap:cG K mg "check_view" Da
 yas:cG K mg "excesses" AG
 yaR:cG K mg "reached_pieces" AU
 yat:cG K mg "find_bar" yL
 yan:cG K mg "bar" C9
 yaq:cG K mg "cleared" BI
 yaw:cG K mg "is_in_all" BB
 yaS:cG K mg "seen" BO
 yaQ:cG K mg "_law_which" Bq
 yaC:cG K mg "law" xV
 yaU:mg "ValueError"=ae
 yaV:mg "all"=ae
 yaW:mg "bool"=ae
 yaX:mg "enumerate"=ae
 yaY:mg "int"=ae
 yaZ:mg "isinstance"=ae
 ya0:mg "len"=ae
 ya1:mg "list"=ae
 ya2:mg "range"=ae
 ya3:mg "set"=ae
 ya4:mg "sorted"=ae
 ya5:mg "str"=ae
 ya6:mg "tuple"=ae
 ya9:∃t,mg "LETTERS"=aa (.str (tS [97,98,99]) t)
 yba:∃t,mg "MOST_POINTS"=aa (.int 6 t)
 ybb:∃t,mg "MOST_WINDOWS"=aa (.int 9 t)
 ybc:∃t,mg "POINT"=aa (.str (tS [46]) t)
 ybd:∃t,mg "WIDEST"=aa (.int 4 t)
 yak:mg "SlitError"=aa (.ref a.SlitError)
 yaf:mg "NoText"=aa (.ref a.NoText)
 yah:mg "NoWidth"=aa (.ref a.NoWidth)
 yag:mg "NoView"=aa (.ref a.NoView)
 yai:mg "NoWindow"=aa (.ref a.NoWindow)
 yac:mg "Never"=aa (.ref a.Never)
 yab:mg "Full"=aa (.ref a.Full)
 yaj:mg "Nothing"=aa (.ref a.Nothing)
 yal:mg "Unlike"=aa (.ref a.Unlike)
 yae:mg "NoPlace"=aa (.ref a.NoPlace)
 yad:mg "NoLetters"=aa (.ref a.NoLetters)
 yaa:mg "BadText"=aa (.ref a.BadText)
 ya8:OwnCls "NoView" a.NoView [.type "ValueError",.type "Exception",.type "BaseException",.type "object"] "ValueError.__new__" mg base
 ya7:OwnCls "Never" a.Never [.type "ValueError",.type "Exception",.type "BaseException",.type "object"] "ValueError.__new__" mg base
 err_SlitError:qJ base a.SlitError
 und:∀c,pU a c=ah->Under base a.SlitError c
 tab:Bm K (jF a)
section
variable{P:aQ}{w:aJ}{K:ax}{c:Str->Option ai}{b:aB}{a:Ad}
def RW:cq ["_law_script","_law_k"] ["_law_script","_law_k"] (br AO):=by ac_nf
def Sk(G:df K c b a):dO P w K c b "_law_cell_at" 1 ["_law_script","_law_k"] (sU a) :=
 dP G.yaF RW (λf h A d s H E g=>by exact
  (bp (j6 (gF CI kG (au 1) (c_ iN jm G.ya0 jd (aG (au 0) aY)) rfl) (bu (d7 (eJ eC eK (au 0) (au 1)))) j0)
  (bp (j6 (gF (lL g.units) lC (au 0) (j7 aY) rfl) (bu (d7 ba)) j0)
  (bu (d7 (cY fU fQ (cY BJ Bj (eJ eC eK (au 0) (cY sy t6 (au 1) (c_ iN jm G.ya0 jd (aG (au 0) aY)))) ba) (au 1)))))))
def QU:cq ["_law_script","_law_k","_law_many","_law_drawn"] ["_law_script","_law_k","_law_many"] (br AB):=by ac_nf
def K9(G:df K c b a):dO P w K c b "_law_mixed" 2 ["_law_script","_law_k","_law_many"] (zz a) :=
 dP G.yaI QU (λf h A d s H E g=>by exact
  (bp (et 3 QU.nd (cY sy t6 (cY fU fQ (cY fU fQ (cY BJ Bj ((cp (Sk G) g d_ (a_ (au 0) (a_ (au 1) cc)))).de ba) (cY BJ Bj ba (au 1))) ba) ba))
  (bu (d7 (cY sy t6 (cY sy t6 (cY sy t6 (cY S8 U0 (au 3) ba) ba) ba) (au 2))))))
def Ue:cq ["_law_script","_law_town","_law_many"] ["_law_script","_law_town","_law_many"] (br BN):=by ac_nf
def mo(G:df K c b a):dO P w K c b "_law_draw" 3 ["_law_script","_law_town","_law_many"] (hU a) :=
 dP G.yaG Ue (λf h A d s H E g=>by exact
  (bp (QC 1 ba)
  (bu (AE (cp (K9 G) g d_ (a_ (au 0) (a_ (HM 1 iN jm G.ya0 jd) (a_ (au 2) cc))))))))
def QX:cq ["_law_script","_law_town","_law_some"] ["_law_script","_law_town","_law_some"] (br CZ):=by ac_nf
def Jq(G:df K c b a):dO P w K c b "_law_pick" 4 ["_law_script","_law_town","_law_some"] (vF a) :=
 dP G.yaJ QX (λf h A d s H E g=>by exact
  (bu (d7 (eJ eC eK (au 2) ((cp (mo G) g d_ (a_ (au 0) (i_ 1 (a_ (c_ iN jm G.ya0 jd (aG (au 2) aY)) cc))))).de))))
def Ts:cq ["_law_text_here","_law_width"] ["_law_text_here","_law_width"] (br AD):=by ac_nf
def AJ(G:df K c b a):dO P w K c b "_law_seen" 1 ["_law_text_here","_law_width"] (oW a) :=
 dP G.yaK Ts (λf m A h s H E l=>by exact
  (bu (d7 (tZ tL tO G.ya6 oU (aG (vi sC tU G.ya4 mD (aG (iC (bX [0,1]) rfl (vh G.ya2 (aG (c_ iN jm G.ya0 jd (aG (au 0) aY)) aY)) (λC d g j i=>by exact nI (gF pR kG (cY fU fQ (au 0) (au 2)) (c_ iN jm G.ya0 jd (aG (au 1) aY)) rfl)) (λC d g j i=>by exact(lK lQ lM (au 1) (kT (au 0)) (kT (cY fU fQ (au 0) (au 2)))))).de aY)).de aY)))))
def UP:cq ["_law_script","_law_town","_law_low","_law_most","_law_few","_law_made","_law_k"] ["_law_script","_law_town","_law_low","_law_most"] (br Bv):=by ac_nf
def FI(G:df K c b a):dO P w K c b "_law_text" 5 ["_law_script","_law_town","_law_low","_law_most"] (sF a) :=
 dP G.yaL UP (λf h A d s H E g=>by exact
  (bp (et 4 UP.nd ((cp (Jq G) g d_ (a_ (au 0) (i_ 1 (a_ (j7 (aG ba (aG ba (aG ba (aG ba (aG ba (aG ba aY))))))) cc))))).de)
  (bp (et 5 UP.nd (gK []))
  (bp (kW (jb 6 iV rfl UP.nd (vh G.ya2 (aG (cY fU fQ (au 2) ((cp (mo G) g jl (a_ (au 0) (i_ 1 (a_ (cY fU fQ (cY x_ yc (au 3) (au 2)) ba) cc))))).de) aY)) (bu (et 5 UP.nd (cY fU fQ (au 5) (eJ eC eK (gK [97,98,99]) ((cp (mo G) g jl (a_ (au 0) (i_ 1 (a_ (au 4) cc))))).de))))))
  (bu (d7 (au 5)))))))
def TZ:cq ["_law_script","_law_town","_law_spoil","_law_most","_law_width","_law_windows","_law_k"] ["_law_script","_law_town","_law_spoil","_law_most"] (br A2):=by ac_nf
def SW(G:df K c b a):dO P w K c b "_law_view" 6 ["_law_script","_law_town","_law_spoil","_law_most"] (uS a) :=
 dP G.yaP TZ (λf h A g s H E d=>by exact
  (bp (et 4 TZ.nd (B3 (gF (yn d.units) y9 (au 2) ba rfl) (cY fU fQ ba ((cp (mo G) d d_ (a_ (au 0) (i_ 1 (a_ ba cc))))).de) (cY fU fQ ba ((cp (mo G) d d_ (a_ (au 0) (i_ 1 (a_ ba cc))))).de)))
  (bp (kF 5 TZ.nd (BC Jr Ht G.ya1 A5 (aG ((cp (AJ G) d d_ (a_ ((cp (FI G) d d_ (a_ (au 0) (i_ 1 (a_ (au 4) (a_ (cY x_ yc (cY fU fQ (au 4) (au 3)) ba) cc)))))).de (a_ (au 4) cc)))).de aY)))
  (bp (kW (jb 6 iV rfl TZ.nd (vh G.ya2 (aG (cY sy t6 (au 2) ba) aY)) (bu (Ri 5 ((cp (mo G) d jl (a_ (au 0) (i_ 1 (a_ (HM 5 iN jm G.ya0 jd) cc))))).de ((cp (FI G) d jl (a_ (au 0) (i_ 1 (a_ (au 4) (a_ (au 4) cc)))))).de))))
  (bu (d7 (kU (aG (au 4) (aG (tZ tL tO G.ya6 oU (aG (Rt 5 sC tU G.ya4 mD).de aY)) aY)))))))))
def Ot:cq ["_law_script","_law_town","_law_asked","_law_most","_law_windows","_law_k"] ["_law_script","_law_town","_law_asked","_law_most"] (br Az):=by ac_nf
def Sy(G:df K c b a):dO P w K c b "_law_blurred" 4 ["_law_script","_law_town","_law_asked","_law_most"] (yY a) :=
 dP G.yaE Ot (λf m A h s H E i=>by exact
  (bp (QD 4 Ot.nd (bX []) rfl (dS (eJ eC eK (au 2) ba)) (λC d g l j=>by exact BC (SG rfl) Q3 G.ya1 A5 (aG (au 0) aY)))
  (bp (kW (jb 5 iV rfl Ot.nd (vh G.ya2 (aG ((cp (mo G) i jl (a_ (au 0) (i_ 1 (a_ (cY fU fQ (au 3) ba) cc))))).de aY)) (bu (UU 4 ((cp (mo G) i jl (a_ (au 0) (i_ 1 (a_ (R7 4 G.ya0) cc))))).de ((cp (mo G) i jl (a_ (au 0) (i_ 1 (a_ (eJ eC eK (au 2) ba) cc))))).de (gK [46])))))
  (bu (d7 (kU (aG (eJ eC eK (au 2) ba) (aG (tZ tL tO G.ya6 oU (aG (vi sC tU G.ya4 mD (aG (iC (bX []) rfl (dS (Ld 4)) lx (λC d g l j=>by exact(Bw PySem.F.slot_str_join PySem.F.type_str_join FZ Hh (gK []) (aG (au 0) aY)))).de aY)).de aY)) aY))))))))
def N_:cq ["_law_rows","_law_made","_law_longer","_law_row"] ["_law_rows","_law_made"] (br BE):=by ac_nf
def Mr(G:df K c b a):dO P w K c b "_law_times" 1 ["_law_rows","_law_made"] (vY a) :=
 dP G.yaN N_ (λf m A d s H E j=>by exact
  (bp (kF 2 N_.nd (qb aY))
  (bp (kW (jb 3 iV rfl N_.nd (dS (au 0)) (bu (sR 2 (iC (bX [3]) rfl (dS (au 1)) lx (λC g h l i=>by exact(cY fU fQ (au 1) (j7 (aG (au 0) aY))))).de))))
  (bu (y3 2)))))
def Qt:cq ["_law_made","_law_longer","_law_line"] ["_law_made"] (br Cr):=by ac_nf
def Tp(G:df K c b a):dO P w K c b "_law_three" 1 ["_law_made"] (v_ a) :=
 dP G.yaM Qt (λf m A d s H E j=>by exact
  (bp (kF 1 Qt.nd (qb aY))
  (bp (kW (jb 2 iV rfl Qt.nd (dS (au 0)) (bu (sR 1 (iC (bX [2]) rfl (dS (gK [97,98,99])) lx (λC g h l i=>by exact(cY fU fQ (au 1) (au 0)))).de))))
  (bu (y3 1)))))
def LR:cq ["_law_text_here","_law_width","_law_windows","_law_made"] ["_law_text_here","_law_width","_law_windows"] (br C8):=by ac_nf
def Qm(G:df K c b a):dO P w K c b "_law_under" 2 ["_law_text_here","_law_width","_law_windows"] (o8 a) :=
 dP G.yaO LR (λf m A d s H E i=>by exact
  (bp (et 3 LR.nd ((cp (AJ G) i d_ (a_ (au 0) (a_ (au 1) cc)))).de)
  (bu (d7 (c_ (zx rfl) zO G.yaV zH (aG (iC (bX [3,2]) rfl (dS (au 3)) lx (λC g h l j=>by exact(nR pR kG (Hl (au 1) (au 0)) (Hl (au 2) (au 0)) rfl))).de aY))))))
def NE:cq ["_law_asked","_law_width","_law_windows","_law_rows","_law_k","_law_longer","_law_line"] ["_law_asked"] (br AN):=by ac_nf
def Nh(G:df K c b a):dO P w K c b "_law_all" 3 ["_law_asked"] (sK a) :=
 dP G.yaD NE (λf m A i s H E j=>by exact
  (bp (Ux 1 2 rfl NE.nd (au 0))
  (bp (et 3 NE.nd (j7 (aG (gK []) aY)))
  (bp (kW (jb 4 iV rfl NE.nd (vh G.ya2 (aG (cY x_ yc (cY fU fQ (c_ iN jm G.ya0 jd (aG (au 2) aY)) (au 1)) ba) aY)) (bp (kF 5 NE.nd (qb aY))
  (bp (jb 6 iV rfl NE.nd (dS (au 3)) (bu (sR 5 (iC (bX [6,1,2]) rfl (dS (gK [97,98,99])) (λC d g l h=>by exact nI (pe ((cp (Qm G) j jl (a_ (cY fU fQ (au 1) (au 0)) (a_ (au 2) (a_ (au 3) cc))))).de)) (λC d g l h=>by exact(cY fU fQ (au 1) (au 0)))).de)))
  (bu (et 3 NE.nd (Jm 5)))))))
  (bu (vC (iC (bX [1,2]) rfl (dS (au 3)) (λC d g l h=>by exact nI (gF (lL j.units) lC ((cp (AJ G) j jl (a_ (au 0) (a_ (au 1) cc)))).de (au 2) rfl)) (λC d g l h=>by exact(au 0)))))))))
def S9:cq ["_law_blurred_here","_law_rows","_law_other","_law_made","_law_sign","_law_views"] ["_law_blurred_here"] (br B2):=by ac_nf
def Ss(G:df K c b a):dO P w K c b "_law_filled" 4 ["_law_blurred_here"] (y8 a) :=
 dP G.yaH S9 (λf m A j s H E h=>by exact
  (bp (et 1 S9.nd (j7 (aG (j7 aY) aY)))
  (bp (kW (jb 2 iV rfl S9.nd (dS (eJ eC eK (au 0) ba)) (bp (et 3 S9.nd (j7 (aG (gK []) aY)))
  (bp (jb 4 iV rfl S9.nd (dS (au 2)) (bu (et 3 S9.nd (B3 (gF (lL h.units) lC (au 4) (gK [46]) rfl) ((cp (Tp G) h jl (a_ (au 3) cc))).de (iC (bX [4]) rfl (dS (au 3)) lx (λC d g l i=>by exact(cY fU fQ (au 0) (au 1)))).de))))
  (bu (et 1 S9.nd ((cp (Mr G) h jl (a_ (au 1) (a_ (au 3) cc)))).de))))))
  (bp (et 5 S9.nd (dn_sortSetV h.units rfl (aG (iC (bX [0]) rfl (dS (au 1)) lx (λC d g l i=>by exact(kU (aG (eJ eC eK (au 1) ba) (aG (tZ tL tO G.ya6 oU (aG (vi sC tU G.ya4 mD (aG (au 0) aY)).de aY)) aY))))).de aY) G.ya4 G.ya3).de)
  (bu (vC (iC (bX []) rfl (dS (au 5)) (λC d g l i=>by exact nI (gF (yn h.units) y9 ((cp (Nh G) h jl (a_ (au 0) cc))).de (j7 aY) rfl)) (λC d g l i=>by exact(au 0)))))))))
def OK:cq ["thing"] ["thing"] (br Bc):=by ac_nf
def Mw(G:df K c b a):dO P w K c b "is_whole_number" 1 ["thing"] (yd a) :=
 dP G.yaz OK (λf h A d s H E g=>by exact
  (bu (d7 (qB (c_ sv sV G.yaZ iK (aG (au 0) (aG (sB G.yaY Rh) aY))) (sh (SI (c_ sv sV G.yaZ iK (aG (au 0) (aG (sB G.yaW Q6) aY)))))))))
def TW:cq ["thing"] ["thing"] (br C_):=by ac_nf
def OG(G:df K c b a):dO P w K c b "is_width" 2 ["thing"] (tW a) :=
 dP G.yaA TW (λf h A d s H E g=>by exact
  (bu (d7 (qB ((cp (Mw G) g d_ (a_ (au 0) cc))).de (sh (Uw pR pR kG kG ba (au 0) (CN G.ybd)))))))
def MO:cq ["text","signs"] ["text","signs"] (br A6):=by ac_nf
def Q1(G:df K c b a):dO P w K c b "has_only" 1 ["text","signs"] (zB a) :=
 dP G.yau MO (λf m A d s H E j=>by exact
  (bu (d7 (c_ (zx rfl) zO G.yaV zH (aG (iC (bX [1]) rfl (dS (au 0)) lx (λC g h l i=>by exact(nR CK AA (au 0) (au 1) rfl))).de aY)))))
def MX:cq ["thing","width","signs"] ["thing","width","signs"] (br CD):=by ac_nf
def Ou(G:df K c b a):dO P w K c b "is_window" 2 ["thing","width","signs"] (tF a) :=
 dP G.yaB MX (λf h A d s H E g=>by exact
  (bu (d7 (qB (c_ sv sV G.yaZ iK (aG (au 0) (aG (sB G.ya5 Pn) aY))) (qB (nR (lL g.units) lC (c_ iN jm G.ya0 jd (aG (au 0) aY)) (au 1) rfl) (sh ((cp (Q1 G) g d_ (a_ (au 0) (a_ (au 2) cc)))).de))))))
def SO:cq ["thing","width","signs"] ["thing","width","signs"] (br Bf):=by ac_nf
def Pf(G:df K c b a):dO P w K c b "are_windows" 3 ["thing","width","signs"] (oZ a) :=
 dP G.yam SO (λf m A d s H E h=>by exact
  (bp (j6 ((yo (p8 (pe (c_ sv sV G.yaZ iK (aG (au 0) (aG (sB G.ya6 oU) aY))))) (yj (p8 (MT pR pR kG kG ba (c_ iN jm G.ya0 jd (aG (au 0) aY)) (CN G.ybb)))))).dt (bu (d7 mC)) j0)
  (bp (j6 (p8 (pe (c_ (zx rfl) zO G.yaV zH (aG (iC (bX [1,2]) rfl (dS (au 0)) lx (λC g i l j=>by exact((cp (Ou G) h jl (a_ (au 0) (a_ (au 1) (a_ (au 2) cc))))).de)).de aY)))) (bu (d7 mC)) j0)
  (bu (d7 (nR (lL h.units) lC (BC Jr Ht G.ya1 A5 (aG (au 0) aY)).de (vi sC tU G.ya4 mD (aG (au 0) aY)).de rfl))))))
def Lh:cq ["thing","signs"] ["thing","signs"] (br Cw):=by ac_nf
def FP(G:df K c b a):dO P w K c b "is_view_with" 4 ["thing","signs"] (o4 a) :=
 dP G.yay Lh (λf h A d s H E g=>by exact
  (bp (j6 ((yo (p8 (pe (c_ sv sV G.yaZ iK (aG (au 0) (aG (sB G.ya6 oU) aY))))) (yj (gF (yn g.units) y9 (c_ iN jm G.ya0 jd (aG (au 0) aY)) ba rfl)))).dt (bu (d7 mC)) j0)
  (bu (d7 (qB ((cp (OG G) g d_ (a_ (eJ eC eK (au 0) ba) cc))).de (sh ((cp (Pf G) g d_ (a_ (eJ eC eK (au 0) ba) (a_ (eJ eC eK (au 0) ba) (a_ (au 1) cc))))).de))))))
def Oc:cq ["thing"] ["thing"] (br Ch):=by ac_nf
def LQ(G:df K c b a):dO P w K c b "is_blurred_view" 5 ["thing"] (oS a) :=
 dP G.yav Oc (λf h A d s H E g=>by exact
  (bu (d7 (qB ((cp (FP G) g d_ (a_ (au 0) (a_ (cY fU fQ (tT G.ybc) (tT G.ya9)) cc)))).de (sh (nR pR kG (Bw PySem.F.slot_str_count PySem.F.type_str_count Q7 Sd (Bw PySem.F.slot_str_join PySem.F.type_str_join FZ Hh (gK []) (aG (eJ eC eK (au 0) ba) aY)) (aG (tT G.ybc) aY)) (CN G.yba) rfl))))))
def TF:cq ["thing"] ["thing"] (br C4):=by ac_nf
def Uf(G:df K c b a):dO P w K c b "check_blurred_view" 6 ["thing"] (vU a) :=
 dP G.yao TF (λf h A d s H E g=>by exact
  (bu (j6 (p8 (pe ((cp (LQ G) g d_ (a_ (au 0) cc))).de)) (bu (B1 AR rfl G.ya8 Kw (gK [97,32,98,108,117,114,114,101,100,32,118,105,101,119,32,105,115,32,97,32,118,105,101,119,32,111,102,32,119,104,111,115,101,32,108,101,116,116,101,114,115,32,117,112,32,116,111,32,54,32,109,97,121,32,98,101,32,112,111,105,110,116,115]))) j0)))
def Po:cq ["blurred_window","found","sign","letters","longer","start"] ["blurred_window"] (br A_):=by ac_nf
def Rq(G:df K c b a):dO P w K c b "windows_that_fit" 1 ["blurred_window"] (sH a) :=
 dP G.yaT Po (λf m A d s H E i=>by exact
  (bp (et 1 Po.nd (j7 (aG (gK []) aY)))
  (bp (kW (jb 2 iV rfl Po.nd (dS (au 0)) (bp (et 3 Po.nd (B3 (gF (lL i.units) lC (au 2) (tT G.ybc) rfl) (tT G.ya9) (au 2)))
  (bp (kF 4 Po.nd (qb aY))
  (bp (jb 5 iV rfl Po.nd (dS (au 1)) (bu (sR 4 (iC (bX [5]) rfl (dS (au 3)) lx (λC g h l j=>by exact(cY fU fQ (au 1) (au 0)))).de)))
  (bu (et 1 Po.nd (Jm 4))))))))
  (bu (d7 (au 1))))))
def Ls:cq ["blurred","ways","blurred_window","longer","windows","window"] ["blurred"] (br AF):=by ac_nf
def So(G:df K c b a):dO P w K c b "clearing_views" 2 ["blurred"] (zu a) :=
 dP G.yar Ls (λf m A g s H E d=>by exact
  (bp (kF 1 Ls.nd (Nw d.units (kU aY) mC))
  (bp (kW (jb 2 iV rfl Ls.nd (dS (eJ eC eK (au 0) ba)) (bp (kF 3 Ls.nd NU)
  (bp (Ny 4 1 iV rfl Ls.nd (bu (jb 5 iV rfl Ls.nd (dS ((cp (Rq G) d jl (a_ (au 2) cc))).de) (bu (UT 3 d.units (tZ tL tO G.ya6 oU (aG (vi sC tU G.ya4 mD (aG (cY Mu Qd (au 4) (kU (aG (au 5) aY))) aY)).de aY)) mC)))))
  (bu (Nr 1 3 Ls.nd))))))
  (bu (vC (iC (bX [0]) rfl (dS (Uv 1 d.units rfl G.ya4).de) lx (λC h i l j=>by exact(kU (aG (eJ eC eK (au 1) ba) (aG (au 0) aY))))))))))
def Me:cq ["thing"] ["thing"] (br B8):=by ac_nf
def SK(G:df K c b a):dO P w K c b "is_view" 5 ["thing"] (y0 a) :=
 dP G.yax Me (λf h A d s H E g=>by exact
  (bu (AE (cp (FP G) g d_ (a_ (au 0) (a_ (tT G.ya9) cc))))))
def US:cq ["thing"] ["thing"] (br Da):=by ac_nf
def Tb(G:df K c b a):dO P w K c b "check_view" 6 ["thing"] (vt a) :=
 dP G.yap US (λf h A d s H E g=>by exact
  (bu (j6 (p8 (pe ((cp (SK G) g d_ (a_ (au 0) cc))).de)) (bu (B1 AR rfl G.ya8 Kw (gK [97,32,118,105,101,119,32,105,115,32,97,32,116,117,112,108,101,32,111,102,32,97,32,119,105,100,116,104,32,97,110,100,32,97,32,114,105,115,105,110,103,32,116,117,112,108,101,32,111,102,32,49,32,116,111,32,57,32,119,105,110,100,111,119,115]))) j0)))
def OZ:cq ["windows","excess","window"] ["windows"] (br AG):=by ac_nf
def RU(G:df K c b a):dO P w K c b "excesses" 1 ["windows"] (su a) :=
 dP G.yas OZ (λf h A g s H E d=>by exact
  (bp (kF 1 OZ.nd (M5))
  (bp (kW (jb 2 iV rfl OZ.nd (dS (au 0)) (bp (zE 1 d.units (lK lQ lM (au 2) mB (kT (qt qg qK ba))) (cY fU fQ (H_ 1 d.units (lK lQ lM (au 2) mB (kT (qt qg qK ba))) ba) ba))
  (bu (zE 1 d.units (lK lQ lM (au 2) (kT ba) mB) (cY x_ yc (H_ 1 d.units (lK lQ lM (au 2) (kT ba) mB) ba) ba))))))
  (bu (y3 1)))))
def Ud:cq ["windows","reached","known","window"] ["windows"] (br AU):=by ac_nf
def SV(G:df K c b a):dO P w K c b "reached_pieces" 1 ["windows"] (o6 a) :=
 dP G.yaR Ud (λf h A g s H E d=>by exact
  (bp (kF 1 Ud.nd (Om (lK lQ lM (eJ eC eK (au 0) ba) mB (kT (qt qg qK ba))) mC))
  (bp (et 2 Ud.nd ba)
  (bp (kW (PF (λ_=>1000) iV (gF CI kG (au 2) (Ix 1 G.ya0) rfl) (bp (et 2 Ud.nd (Ix 1 G.ya0))
  (bu (jb 3 iV rfl Ud.nd (dS (au 0)) (bu (j6 ((yo (BP 1 d.units (lK lQ lM (au 3) mB (kT (qt qg qK ba)))) (yj (BP 1 d.units (lK lQ lM (au 3) (kT ba) mB))))).dt (bp (zE 1 d.units (lK lQ lM (au 3) mB (kT (qt qg qK ba))) mC)
  (bu (zE 1 d.units (lK lQ lM (au 3) (kT ba) mB) mC))) j0)))))))
  (bu (y3 1))))))
def R9:cq ["windows","excess","starts","reached","places"] ["windows"] (br yL):=by ac_nf
def RA(G:df K c b a):dO P w K c b "find_bar" 2 ["windows"] (vm a) :=
 dP G.yat R9 (λf n A l s H E h=>by exact
  (bp (kF 1 R9.nd (((cp (RU G) h d_ (a_ (au 0) cc))).dn))
  (bp (E7 2 R9.nd (bX [1]) rfl (dS (PN 1 rfl G.ya4).de) (λC d g m i=>by exact nI (gF Bt kG (GK 1 h.units (au 0)) ba rfl)) (λC d g m i=>by exact(au 0)))
  (bp (j6 (gF Bt kG (c_ iN jm G.ya0 jd (aG (au 2) aY)) ba rfl) (bu (d7 (kU (aG (gK [116,119,111]) (aG (eJ eC eK (au 2) ba) (aG (eJ eC eK (au 2) ba) aY)))))) j0)
  (bp (j6 ((OT (gF (lL h.units) lC (c_ iN jm G.ya0 jd (aG (au 2) aY)) ba rfl) (LJ (gF Bt kG (GK 1 h.units (eJ eC eK (au 2) ba)) ba rfl)))).dt (bu (d7 (kU (aG (gK [109,111,114,101]) (aG (eJ eC eK (au 2) ba) aY))))) j0)
  (bp (kF 3 R9.nd (((cp (SV G) h d_ (a_ (au 0) cc))).dn))
  (bp (T9 4 R9.nd (cap:=[3]) (j:=5) (N':=["place","window","reached"]) (iG.of ["windows","excess","starts","reached","places"] (br yL) rfl rfl (by decide +kernel)) rfl (RZ G.yaX (aG (au 0) aY)) (λC d g m i=>by exact nI (BP 2 h.units (lK lQ lM (au 1) mB (kT (qt qg qK ba))))) (λC d g m i=>by exact(au 0)))
  (bp (j6 (gF CI kG (c_ iN jm G.ya0 jd (aG (au 4) aY)) (c_ iN jm G.ya0 jd (aG (au 0) aY)) rfl) (bu (d7 (kU (aG (gK [97,112,97,114,116]) (aG (tZ tL tO G.ya6 oU (aG (au 4) aY)) aY))))) j0)
  (bu (d7 xX))))))))))
def Q0:cq ["view"] ["view"] (br C9):=by ac_nf
def RE(G:df K c b a):dO P w K c b "bar" 7 ["view"] (vd a) :=
 dP G.yan Q0 (λf h A d s H E g=>by exact
  (bp (E5 (cp (Tb G) g d_ (a_ (au 0) cc)))
  (bu (AE (cp (RA G) g d_ (a_ (eJ eC eK (au 0) ba) cc))))))
def O6:cq ["blurred"] ["blurred"] (br BI):=by ac_nf
def LN(G:df K c b a):dO P w K c b "cleared" 8 ["blurred"] (yv a) :=
 dP G.yaq O6 (λf m A h s H E i=>by exact
  (bp (E5 (cp (Uf G) i d_ (a_ (au 0) cc)))
  (bu (vC (iC (bX []) rfl (dS ((cp (So G) i d_ (a_ (au 0) cc))).de) (λC d g l j=>by exact nI (gF EQ Iz ((cp (RE G) i jl (a_ (au 0) cc))).de xX rfl)) (λC d g l j=>by exact(au 0)))))))
def LB:cq ["window","views"] ["window","views"] (br BB):=by ac_nf
def SY(G:df K c b a):dO P w K c b "is_in_all" 1 ["window","views"] (vQ a) :=
 dP G.yaw LB (λf m A d s H E j=>by exact
  (bu (d7 (c_ (zx rfl) zO G.yaV zH (aG (iC (bX [0]) rfl (dS (au 1)) lx (λC g h l i=>by exact(nR CK AA (au 1) (eJ eC eK (au 0) ba) rfl))).de aY)))))
def SL:cq ["blurred","views"] ["blurred"] (br BO):=by ac_nf
def SS(G:df K c b a):dO P w K c b "seen" 9 ["blurred"] (qL a) :=
 dP G.yaS SL (λf m A h s H E i=>by exact
  (bp (et 1 SL.nd ((cp (LN G) i d_ (a_ (au 0) cc))).de)
  (bp (j6 (gF (lL i.units) lC (c_ iN jm G.ya0 jd (aG (au 1) aY)) ba rfl) (bu (B1 AR rfl G.ya7 Kw (gK [110,111,32,116,101,120,116,32,104,97,115,32,97,32,118,105,101,119,32,116,104,97,116,32,99,108,101,97,114,115,32,116,104,105,115,32,111,110,101]))) j0)
  (bu (vC (iC (bX [1]) rfl (dS (FE rfl (aG (eJ eC eK (eJ eC eK (au 1) ba) ba) aY) G.ya4 G.ya3).de) (λC d g l j=>by exact nI (pe ((cp (SY G) i jl (a_ (au 0) (a_ (au 1) cc)))).de)) (λC d g l j=>by exact(au 0))))))))
def M9:cq ["_law_e","_law_own"] ["_law_e"] (br Bq):=by ac_nf
def OL(G:df K c b a):yA P w K c b "_law_which" 1 ["_law_e"] (fY K (vX a)) :=
 Ni (k:=0) (pin:=[]) G.yaQ M9 rfl (λ_ _ _ _ _ _ g i=>Pu.PD (λ_=>rfl) g i) (λf j A d s H h=>by exact
  (bp (kF 1 M9.nd (qb (aG (c_ k_ (k6 G.tab) G.yaZ iK (aG (au 0) (aG (lG G.yaf) aY))) (aG (c_ k_ (k6 G.tab) G.yaZ iK (aG (au 0) (aG (lG G.yah) aY))) (aG (c_ k_ (k6 G.tab) G.yaZ iK (aG (au 0) (aG (lG G.yag) aY))) (aG (c_ k_ (k6 G.tab) G.yaZ iK (aG (au 0) (aG (lG G.yai) aY))) aY))))))
  (bp (sR 1 (j7 (aG (c_ k_ (k6 G.tab) G.yaZ iK (aG (au 0) (aG (lG G.yac) aY))) (aG (c_ k_ (k6 G.tab) G.yaZ iK (aG (au 0) (aG (lG G.yab) aY))) (aG (c_ k_ (k6 G.tab) G.yaZ iK (aG (au 0) (aG (lG G.yaj) aY))) (aG (c_ k_ (k6 G.tab) G.yaZ iK (aG (au 0) (aG (lG G.yal) aY))) aY))))))
  (bp (sR 1 (j7 (aG (c_ k_ (k6 G.tab) G.yaZ iK (aG (au 0) (aG (lG G.yae) aY))) (aG (c_ k_ (k6 G.tab) G.yaZ iK (aG (au 0) (aG (lG G.yad) aY))) (aG (c_ k_ (k6 G.tab) G.yaZ iK (aG (au 0) (aG (lG G.yaa) aY))) aY)))))
  (bp (j6 ((yo (gF (yn h.units) y9 (NJ 1 mC) ba rfl) (yj (p8 (pe (c_ k_ (k6 G.tab) G.yaZ iK (aG (au 0) (aG (sB G.yaU SQ) aY)))))))).dt (bu (d7 (kU (aG (gK [114,101,102,117,115,101,100]) (aG (qt qg qK ba) aY))))) j0)
  (bu (d7 (kU (aG (gK [114,101,102,117,115,101,100]) (aG (Ma 1 mC) aY))))))))))
def yaC(a:Ad):ac aM:=aH (cX 1 (dL cM (aE)))
 (aH (bw 2 (bA (bg (vF a) (gV (dV 0) (gO 1 (gV (dF (dL cM (ay (dC (.int 0)) (ay (dC (.int 0)) (ay (dC (.int 0)) (ay (dC (.int 1)) (ay (dC (.int 2)) (aE)))))))) (bY)))))))
 (aH (bw 3 (bA (bg (hU a) (gV (dV 0) (gO 1 (gV (dC (.int 5)) (bY)))))))
 (aH (bw 4 (bA (bg (uS a) (gV (dV 0) (gO 1 (gV (dV 2) (gV (dC (.int 6)) (bY))))))))
 (aH (bw 5 (bA (bg (yY a) (gV (dV 0) (gO 1 (gV (dV 4) (gV (dV 3) (bY))))))))
 (aH (bw 6 (bA (bg (y8 a) (gV (dV 5) (bY)))))
 (aH (bw 7 (dC .non))
 (aH (bw 8 (dF (dL cM (aE))))
 (aH (sL 8 9 (pU a) (tJ (tj (qL a) (gV (dV 5) (bY)))) (bw 7 (bA (λd=>bq (bg (vX a) (gV (dV 9) (bY)) d)))))
 (aH (cO (dB (d2 (eqT ak) (dV 6) (dF (dL cM (aE))))) (cB (d2 (eqT ak) (dV 7) (dL eh (ay (dC (.str [114,101,102,117,115,101,100])) (ay (dC (.int 4)) (aE)))))) (f9))
 (aH (bw 10 (dF (dL qD (ay (d2 bd (d2 bd (dV 6) (dC (.int 0))) (dC (.int 1))) (aE)))))
 (aH (λd=>dH (bZ 11 (aU (dV 6)) (bw 10 (dF (bE [11] (aU (dV 10)) (dB (d2 (iF ak) (dV 0) (d2 bd (dV 1) (dC (.int 1))))) (dV 0)))) d))
 (cB (lz (d2 (nA ak) (dV 7) (dC .non)) (d2 (eqT ak) (dV 8) (dV 10)))))))))))))))
def sD(a:Ad):ac Slot:=bJ 1 [] (bI 11 (yaC a))
def QB:cq ["_law_script","_law_town","_law_spoil","_law_few","_law_asked","_law_blurred_here","_law_views","_law_caught","_law_made","_law_e","_law_due","_law_some"] ["_law_script"] (br xV):=by ac_nf
def Qi(G:df K c b a)(r:qf K "law" "law" xV f m):lD P w K c b (lB P w) 10 f m ["_law_script"] (fY K (sD a)) :=
 OS (k:=9) (pin:=[]) r QB rfl (λ_ _ _ _ _ _ n p=>Pu.PD (λ_=>rfl) n p) (λf u A i s H E d=>by
  have j:=λl=>fR.hand (v:=aa (.ref l)) d;exact
  (bp (kF 1 QB.nd (qb aY))
  (bp (et 2 QB.nd ((cp (Jq G) d d_ (a_ (au 0) (i_ 1 (a_ (j7 (aG ba (aG ba (aG ba (aG ba (aG ba aY)))))) cc))))).de)
  (bp (et 3 QB.nd ((cp (mo G) d d_ (a_ (au 0) (i_ 1 (a_ ba cc))))).de)
  (bp (et 4 QB.nd ((cp (SW G) d d_ (a_ (au 0) (i_ 1 (a_ (au 2) (a_ ba cc)))))).de)
  (bp (et 5 QB.nd ((cp (Sy G) d d_ (a_ (au 0) (i_ 1 (a_ (au 4) (a_ (au 3) cc)))))).de)
  (bp (et 6 QB.nd ((cp (Ss G) d d_ (a_ (au 5) cc))).de)
  (bp (et 7 QB.nd xX)
  (bp (et 8 QB.nd (j7 aY))
  (bp (Uo 8 9 QB.nd (RD (MZ (SS G) (d.mono (by decide)) (a_ (au 5) cc))) G.yak G.err_SlitError G.und (λl=>by exact(bu (et 7 QB.nd ((Qw (OL G) ((j l).mono (by decide)) (a_ (au 9) cc))).de))))
  (bp (j6 (gF (lL d.units) lC (au 6) (j7 aY) rfl) (bu (d7 (nR (lL d.units) lC (au 7) (kU (aG (gK [114,101,102,117,115,101,100]) (aG ba aY))) rfl))) j0)
  (bp (et 10 QB.nd (FE rfl (aG (eJ eC eK (eJ eC eK (au 6) ba) ba) aY) G.ya4 G.ya3).de)
  (bp (kW (jb 11 iV rfl QB.nd (dS (au 6)) (bu (E7 10 QB.nd (bX [11]) rfl (dS (au 10)) (λC g h q o=>by exact nI (gF CK AA (au 0) (eJ eC eK (au 1) ba) rfl)) (λC g h q o=>by exact(au 0))))))
  (bu (d7 (qB (nR EQ Iz (au 7) xX rfl) (sh (nR (lL d.units) lC (au 8) (au 10) rfl))))))))))))))))))
end
end K10
namespace Mx
open L2 Pu
def cz:Tx:=[97,98,99]
def dY:Nat->List Tx
 |0=>[[]]
 |k+1=>cz.flatMap λc=>(dY k).map (c::·)
def nK:∀(k:Nat) (x:Tx),x∈dY k↔x.length=k/\∀c∈x,c∈cz
 |0,x=>by
  simp only[dY,kg]
  grind
 |k+1,x=>by
  simp only[dY,xf,b8];constructor
  .rintro⟨c,h,y,f,rfl⟩;obtain⟨b,a⟩:=(nK k y).mp f
   grind
  .rintro⟨b,a⟩;cases x with
   |nil=>cases b
   |cons c y=>exact⟨c,a c (by simp),y,(nK k y).mpr ⟨Af b,λd g=>a d (by simp[g])⟩,rfl⟩
def IS:∀k:Nat,(dY k).length=3^k
 |0=>rfl
 |k+1=>by simp only[dY,cz,uA,List.flatMap_nil,iT,cK,IS k,re,Ah];lia
def G_(i j:Nat):dY (i+j)=(dY i).flatMap λh=>(dY j).map (h++·):=by
 induction i with
 |zero=>simp[dY]
 |succ i a=>rw[show i+1+j=(i+j)+1 by lia];simp only[dY,a,List.flatMap_assoc,List.map_flatMap,List.flatMap_map,cT,l3,rq]
def L7(k:Nat):dY (k+1)=(dY k).flatMap λh=>cz.map λc=>h++[c]:=by rw[G_ k 1];congr 1
def CH:∀k:Nat,(dY k).Pairwise (λa b=>a<b)
 |0=>by simp[dY]
 |k+1=>by
  simp only[dY];rw[List.pairwise_flatMap];refine⟨λc _=>?_,?_⟩
  .rw[pB];exact(CH k).imp λh=>Kq.mpr (.inr ⟨rfl,h⟩)
  .have:cz.Pairwise (λa b=>a<b):=by decide
   refine this.imp λh=>?_;intro x f y d;obtain⟨i,_,rfl⟩:=b8.mp f;obtain⟨g,_,rfl⟩:=b8.mp d;exact Kq.mpr (.inl h)
def Lg(h:a<b):dD a b=ah:=by
 simp only[dD,decide_eq_true_eq]
 grind
def LX(k:Nat):(dY k).Pairwise (λa b=>dD a b=ah):=(CH k).imp Lg
def P5(k:Nat):(dY k).Nodup:=(CH k).imp λh z=>by grind
def bh(z:Tx)(w:Nat):List Tx:=((cJ z.length).filter λi=>decide (i+w<=z.length)).map λi=>(z.drop i).take w
def Hn(w L:Nat):∀m:Nat,(cJ m).filter (λi=>decide (i+w<=L))=cJ (min m (L+1-w))
 |0=>by simp
 |m+1=>by
  rw[rf,List.filter_append,Hn w L m];by_cases h:m+w<=L
  .rw[show min m (L+1-w)=m by lia,show min (m+1) (L+1-w)=m+1 by lia,rf];simp[h]
  grind
def qG(z:Tx)(w:Nat)(a:1<=w):bh z w=(cJ (z.length+1-w)).map λi=>(z.drop i).take w:=by unfold bh;rw[Hn,show min z.length (z.length+1-w)=z.length+1-w by lia]
def nw(w:Nat)(t:Tx):Tx->List Tx
 |[]=>[]
 |c::s=>(t.drop (t.length+1-w)++[c])::nw w (t++[c]) s
def IF(w:Nat)(b:1<=w):∀(s t:Tx),w<=t.length+1->nw w t s=(cJ s.length).map λi=>((t++s).drop (t.length+1-w+i)).take w
 |[],t,_=>by simp[nw]
 |c::s,t,h=>by
  rw[nw,IF w b s (t++[c]) (by simp;lia),gR,J1,cR,cT];congr 1
  .show _=((t++c::s).drop (t.length+1-w)).take w;rw[Vg ∅,List.take_append];have a:(t.drop (t.length+1-w)).length=w-1:=by grind
   rw[a,pA (by rw[a];lia),show w-(w-1)=1 by lia];rfl
  .refine lY λi _=>?_
   grind
def AW(a:1<=w){h:Tx}(b:h.length=w-1):bh (h++s) w=nw w h s:=by
 rw[qG _ _ a,IF w a s h ∅,iT,show h.length+s.length+1-w=s.length by lia]
 grind
def Iq(a:1<=w)(t:Tx)(c:Nat):bh (t++[c]) w=bh t w++(if w<=t.length+1 then [((t++[c]).drop (t.length+1-w)).take w] else []):=by
 rw[qG _ _ a,qG _ _ a,iT,List.length_singleton];by_cases h:w<=t.length+1
 .rw[if_pos h,show t.length+1+1-w=(t.length+1-w)+1 by lia,rf,ui];congr 1;refine lY λi b=>?_
  grind
 grind
def sZ(w:Nat):Nat->Tx->List Tx->List Tx
 |0,t,_=>[t]
 |r+1,t,q=>cz.flatMap λc=>if t.drop (t.length+1-w)++[c]∈q then sZ w r (t++[c]) (q.erase (t.drop (t.length+1-w)++[c]))else []
def Fb(w:Nat):∀(r:Nat) (t:Tx) (q:List Tx),q.length=r->sZ w r t q=((dY r).filter λs=>(nw w t s).isPerm q).map (t++·)
 |0,t,q,hq=>by have:q=[]:=Aj.mp hq;subst this;simp[sZ,dY,nw,List.isPerm]
 |r+1,t,q,hq=>by
  simp only[sZ,dY,Kx,List.map_flatMap];congr 1;funext c;rw[ou,cT];by_cases h:t.drop (t.length+1-w)++[c]∈q
  .rw[if_pos h,Fb w r (t++[c]) _ (by rw[List.length_erase_of_mem h,hq];rfl)];have e:((λs=>(nw w t s).isPerm q) ∘ λx=>c::x)=λs=>(nw w (t++[c]) s).isPerm (q.erase (t.drop (t.length+1-w)++[c])):=by funext s;show(q.contains (t.drop (t.length+1-w)++[c])&&(nw w (t++[c]) s).isPerm (q.erase (t.drop (t.length+1-w)++[c])))=_;rw[List.contains_iff_mem.mpr h,Du]
   simp_all
  .rw[if_neg h];have e:((λs=>(nw w t s).isPerm q) ∘ λx=>c::x)=λ_=>ak:=by
    funext s;show(q.contains (t.drop (t.length+1-w)++[c])&&(nw w (t++[c]) s).isPerm (q.erase (t.drop (t.length+1-w)++[c])))=_
    grind
   rw[e];simp
def kA(w:Nat)(ls:List Tx):List Tx:=(aT (dZ (ls.map Ak))).flatMap λh=>sZ w ls.length h ls
def Hj{a b:Type}{l:List a}{f:a->List b}(p:a->Bool)(h:∀x∈l,p x=ak->f x=[]):l.flatMap f=(l.filter p).flatMap f:=by
 induction l with
 |nil=>rfl
 |cons x l c=>grind
def CF{w:Nat}{a:List Tx}(f:1<=w)(C:1<=a.length)(m:∀x∈a,x.length=w/\∀c∈x,c∈cz):kA w a=(dY (w-1+a.length)).filter λz=>(bh z w).isPerm a:=by
 rw[G_,Kx];have u:(λh=>((dY a.length).map (h++·)).filter λz=>(bh z w).isPerm a)=λh=>((dY a.length).filter λs=>(bh (h++s) w).isPerm a).map (h++·):=by funext h;rw[ou];rfl
 rw[u,Hj (λh=>decide (h∈a.map Ak))]
 .have r:(dY (w-1)).filter (λh=>decide (h∈a.map Ak))=aT (dZ (a.map Ak)):=by
   refine v7 ?_ ((LX (w-1)).filter _);refine(List.perm_ext_iff_of_nodup ((P5 (w-1)).filter _) (Uz _)).mpr λx=>?_;rw[kH,decide_eq_true_eq,BF,nK];refine⟨λh=>h.2,λh=>⟨?_,h⟩⟩;obtain⟨y,d,rfl⟩:=b8.mp h;obtain⟨p,o⟩:=m y d;exact⟨by rw[List.length_dropLast,p],λc n=>o c ((List.dropLast_sublist _).mem n)⟩
  rw[r];unfold kA;have:∀l:List Tx,(∀h∈l,h.length=w-1)->l.flatMap (λh=>sZ w a.length h a)=l.flatMap λh=>((dY a.length).filter λs=>(bh (h++s) w).isPerm a).map (h++·):=by
   intro l
   induction l with
   |nil=>intro _;rfl
   |cons h l i=>
    intro b;rw[uA,uA,i λy d=>b y (by simp[d]),Fb w _ h a rfl];have q:(λs=>(nw w h s).isPerm a)=λs=>(bh (h++s) w).isPerm a:=by funext s;rw[AW f (b h (by simp))]
    rw[q]
  grind
 .intro h b B;have v:=((nK _ h).mp b).1;rw[List.map_eq_nil_iff,List.filter_eq_nil_iff];intro s j g;have A:=((nK _ s).mp j).1;rw[AW f v,List.isPerm_iff]at g;cases s with
  |nil=>grind
  |cons c s=>
   rw[nw,show h.length+1-w=0 by lia,List.drop_zero]at g
   grind
def unD(w:Nat)(a:List Tx)(t:Tx):Bool:=(bh t w).all λx=>decide ((bh t w).count x<=a.count x)
def GI:unD w a t=ah↔∀x,(bh t w).count x<=a.count x:=by
 unfold unD
 grind
def M8(b:1<=w)(h:unD w a (t++[c])=ah):unD w a t=ah:=by rw[GI]at h ⊢;intro x;have:=h x;rw[Iq b,List.count_append]at this;lia
def rowsOf(w:Nat)(a:List Tx)(k:Nat):List Tx:=(dY k).filter (unD w a)
def LA(b:1<=w)(a:List Tx):rowsOf w a 0=[[]]:=by simp[rowsOf,dY,unD,bh]
def Su{w:Nat}(f:1<=w)(a:List Tx)(k:Nat):rowsOf w a (k+1)=(rowsOf w a k).flatMap λt=>(cz.map λc=>t++[c]).filter (unD w a):=by
 unfold rowsOf;rw[L7,Kx];refine Hj _ λt _ b=>?_;rw[List.filter_eq_nil_iff];intro z d g;obtain⟨c,_,rfl⟩:=b8.mp d;rw[M8 f g]at b;cases b
def UA(w:Nat)(a:List Tx)(k:Nat):(rowsOf w a k).length<=3^k:=by rw[<-IS k];exact List.length_filter_le _ _
def ML{c:List Tx}(d:c.Pairwise (λa b=>dD a b=ah))(L:Nat):(rowsOf w c L).filter (λz=>decide (aT (bh z w)=c))=(dY L).filter λz=>(bh z w).isPerm c:=by
 unfold rowsOf;rw[List.filter_filter];refine Kz λz _=>?_;rw[nZ,h_,decide_eq_true_eq,List.isPerm_iff];constructor
 .rintro⟨h,_⟩;rw[<-h];exact(fk _).symm
 .intro h;refine⟨by rw[sA h,qH d],?_⟩;rw[GI]
  grind
end Mx
namespace Sh
open L2 Pu Mx
def SA{b:Type}{f:List PV->Option b}{c:ac (List PV)}{xs:List PV}{v:b}(h:c ε=.ok xs a)(d:f xs=aa v):dL f c ε=.ok v a:=by unfold dL;simp_all
def O5(h:d ε=.ok x b)(f:c b=.ok xs a):ay d c ε=.ok (x::xs) a:=by unfold ay;simp_all
def Nn:aE ε=.ok [] ε:=rfl
def yU(h:c ε=.ok x b)(g:db b=.ok y a)(d:f x y=aa z):d2 f c db ε=.ok z a:=by unfold d2;simp_all
section
def BA{ls:List Tx}(h:ls.length<=1000000):jf [.lst (am ls)]=aa (.lst (am (aT ls))):=by show(fV (am ls)).bind _=_;rw[oN,gz,if_pos h]
end
section
variable{a:Ad}
abbrev bR(b:List Int):Slot:=.val (.lst (b.map .int))
def IX(b:List Int)(k:Int)(d:0<=k)(h:k<b.length):∃v,fI (b.map PV.int) k=aa (.int v):=by
 have c:k.toNat<b.length:=∅
 refine⟨b[k.toNat],?_⟩;rw[tw d (by rw[cK];exact c)];simp
def Oh(b:List Int):Pu.eqT ak (.lst (b.map .int)) (.lst [])=aa (.bl b.isEmpty):=by
 cases b with
 |nil=>rfl
 |cons x xs=>
  have d:∀l:List Int,fg (l.map .int)=0:=λl=>by induction l with|nil=>rfl|cons y l c=>simp[fg,fW,c]
  have:fg ((x::xs).map .int)=0:=d _;simp only[cR]at this;simp[Pu.eqT,dI,dQ,gw,fW,this]
def tm(b:Bool)(i j:Int):Pu.eqT b (.int i) (.int j)=aa (.bl (b^^decide (i=j))):=by show(if qx (V.int i) (V.int j)then aa (PV.bl (b^^decide (V.int i=V.int j)))else ae)=_;have:qx (V.int i) (V.int j)=ah:=rfl;simp_all
def yI(b:Bool)(x y:Tx):Pu.eqT b (.str x) (.str y)=aa (.bl (b^^decide (x=y))):=by show(if qx (tV x) (tV y)then aa (PV.bl (b^^decide (tV x=tV y)))else ae)=_;have:qx (tV x) (tV y)=ah:=rfl;rw[if_pos this];have e:(tV x=tV y)=(x=y):=propext ⟨OE,λh=>by rw[h]⟩;simp only[e]
def L9(b:List Int)(k:Int)(i:0<=k):∃v,sU a [bR b,⇑k]=.ok (⇑v) [bR b,⇑k]:=by
 by_cases h:k<b.length
 .obtain⟨v,d⟩:=IX b k i h;refine⟨v,?_⟩;simp![sU,yaF,bV,bd,d,h]
 .have e:=Oh b;by_cases f:b=[]
  .subst f;refine⟨0,?_⟩;simp only[zW,List.isEmpty_nil]at e;have j:¬k<0:=∅
   simp![sU,yaF,bV,bd,e,j]
  .have m:0<b.length:=by grind
   obtain⟨v,d⟩:=IX b (k % b.length) (Int.emod_nonneg _ ∅) (KA _ ∅);refine⟨v*31+k,?_⟩;have l:b.isEmpty=ak:=by grind
   rw[l]at e;have g:g8 (.int k) (.int (b.length:Int))=aa (.int (k % b.length)):=by simp[g8];lia
   have c:lJ (.int v) (.int 31)=aa (.int (v*31)):=by simp[lJ,wf]
   simp![sU,yaF,bV,bd,h,e,g,d,c,bj]
def Qk(b:List Int)(k m:Int)(q:0<=k)(i:0<m):∃v,0<=v/\v<m/\zz a [bR b,⇑k,⇑m]=.ok (⇑v) [bR b,⇑k,⇑m]:=by
 obtain⟨c,p⟩:=L9 (a:=a) b k q;have r:0<=(c*1103515245+7919*k+12345) % 2147483647:=Int.emod_nonneg _ (by decide);have d1:(c*1103515245+7919*k+12345) % 2147483647<2147483647:=KA _ (by decide);have o:lJ (.int c) (.int 1103515245)=aa (.int (c*1103515245)):=by simp[lJ,wf]
 have n:lJ (.int 7919) (.int k)=aa (.int (7919*k)):=by simp[lJ,wf]
 have h:g8 (.int (c*1103515245+7919*k+12345)) (.int 2147483647)=aa (.int ((c*1103515245+7919*k+12345) % 2147483647)):=by simp[g8]
 generalize (c*1103515245+7919*k+12345) % 2147483647=d at r d1 h;have l:vA (.int d) (.int 5)=aa (.int (d^5)):=by
  have:d.natAbs<2^64:=∅
  simp[vA,this]
 have g:g8 (.int (d^5)) (.int 2147483647)=aa (.int (d^5 % 2147483647)):=by simp[g8]
 generalize d^5 % 2147483647=d5 at g;have f:g8 (.int d5) (.int 999983)=aa (.int (d5 % 999983)):=by simp[g8]
 generalize d5 % 999983=d6 at f;have j:g8 (.int d6) (.int m)=aa (.int (d6 % m)):=by simp[g8,i]
 refine⟨d6 % m,Int.emod_nonneg _ ∅,KA _ i,?_⟩;simp![zz,yaI,p,o,n,h,l,g,f,j,bj]
def mI(b:List Int)(xs:List PV)(m:Int)(h:0<m)(i:xs.length<=1000):∃v,0<=v/\v<m/\hU a [bR b,.own (.lst xs),⇑m]=.ok (⇑v) [bR b,.own (.lst (xs++[.int 0])),⇑m]:=by
 obtain⟨v,d,c,g⟩:=Qk (a:=a) b ((xs.length:Int)+1) m ∅ h;refine⟨v,d,c,?_⟩;have f:xs.length<bD:=by unfold bD;lia
 simp![hU,yaG,bV,f,g]
def Gu(b:List c)(v:Int)(f:0<=v)(g:v<b.length):∃x∈b,fI b v=aa x:=by
 have d:v.toNat<b.length:=∅
 exact⟨b[v.toNat],wM _,tw f d⟩
def Io(c:List Int)(xs b:List PV)(h:xs.length<=1000)(l:0<b.length):∃x∈b,vF a [bR c,.own (.lst xs),.val (.lst b)]=.ok (.val x) [bR c,.own (.lst (xs++[.int 0])),.val (.lst b)]:=by obtain⟨v,f,d,i⟩:=mI (a:=a) c xs (b.length:Nat) ∅ h;obtain⟨x,j,g⟩:=Gu b v f d;refine⟨x,j,?_⟩;simp![vF,yaJ,bV,bd,i,g]
def vZ{n:Nat}(h:n<=1000000):kD [.int n]=aa (eR 0 n):=by
 show(if(n:Int)<=1000000/\-1000000<=(n:Int)then aa (eR 0 (n:Int).toNat)else ae)=_
 grind
def qo{x y:Tx}(h:x.length+y.length<=bD):bj (.str x) (.str y)=aa (.str (x++y)):=by show(if(x++y).length<=bD then aa (PV.str (x++y))else ae)=_;rw[if_pos (by rw[iT];exact h)]
def cf{d1 d2:ac aM}(h:d1 ε=.ok .next ε1):aH d1 d2 ε=d2 ε1:=by unfold aH;rw[h]
def tK(h:d ε=.ok x ε1):bw i d ε=.ok .next (ε1.set i (.val x)):=by unfold bw;rw[h];rfl
def vn{i:Nat}{db:ac aM}{I:Nat->aj->Prop}{N:Nat}(step:∀k ε x,k<N->I k ε->∃b,db (ε.set i (.val x))=.ok .next b/\I (k+1) b):∀(xs:List PV) (k:Nat) (ε:aj),k+xs.length<=N->I k ε->∃b,ff i db xs ε=.ok .next b/\I (k+xs.length) b
 |[],k,ε,_,h=>⟨ε,rfl,h⟩
 |x::xs,k,ε,d,h=>by
  simp only[gR]at d;obtain⟨ε1,j,f⟩:=step k ε x ∅ h;obtain⟨c,g,l⟩:=vn step xs (k+1) ε1 ∅ f;refine⟨c,by unfold ff;rw[j];exact g,?_⟩
  grind
def lN{i:Nat}{db:ac aM}{I:List PV->aj->Prop}(step:∀(x:PV) (r:List PV) ε,I (x::r) ε->∃b,db (ε.set i (.val x))=.ok .next b/\I r b):∀(xs:List PV) (ε:aj),I xs ε->∃b,ff i db xs ε=.ok .next b/\I [] b
 |[],ε,h=>⟨ε,rfl,h⟩
 |x::xs,ε,h=>by obtain⟨ε1,j,f⟩:=step x xs ε h;obtain⟨c,g,d⟩:=lN step xs ε1 f;exact⟨c,by unfold ff;rw[j];exact g,d⟩
def HE(h:List Int)(xs:List PV)(b most:Nat)(M:b<=most)(W:most<=100)(T:xs.length<=500):∃(z:Tx) (g:List PV),b<=z.length/\z.length<=most/\(∀c∈z,c∈cz)/\g.length<=xs.length+2+most /\ sF a [bR h,.own (.lst xs),⇑b,⇑most]=.ok (↥z) [bR h,.own (.lst g),⇑b,⇑most]:=by
 obtain⟨f,s,J⟩:=Io (a:=a) h xs [.int 1,.int 2,.int 2,.int 3,.int 3,.int 3] ∅ (by decide);obtain⟨few,rfl,O,Z⟩:∃few:Int,f=.int few/\0<few/\few<=3:=by simp only[cC,ju,or_false]at s;rcases s with rfl|rfl|rfl|rfl|rfl|rfl <;> exact⟨_,rfl,by decide,by decide⟩
 obtain⟨m,S,Q,u⟩:=mI (a:=a) h (xs++[.int 0]) ((most:Int)-b+1) ∅ (by simp;lia);obtain⟨n,L⟩:∃n:Nat,(b:Int)+m=n:=⟨(b+m).toNat,∅⟩
 have H:kD [.int ((b:Int)+m)]=aa (eR 0 n):=by rw[L];exact vZ ∅
 have bz:(eR 0 n).length=n:=by simp[eR]
 obtain⟨A,w,g,z,j,rfl,r,F,y⟩:=vn (i:=6) (db:=bw 5 (d2 bj (dV 5) (d2 bd (dC (.str [97,98,99])) (bA (bg (hU a) (gV (dV 0) (gO 1 (gV (dV 4) (Pu.bY)))))))))
  (I:=λk q=>∃g z j,q=[bR h,.own (.lst g),⇑b,⇑most,⇑few,↥z,j]/\z.length=k/\g.length<=xs.length+2+k/\∀c∈z,c∈cz) (N:=n)
  (by
   rintro k q x X ⟨g,z,j,rfl,r,F,y⟩;obtain⟨v,B,P,G⟩:=mI (a:=a) h g few O ∅;obtain⟨c,Y,D⟩:=Gu cz v B (by simp[cz];lia);refine⟨[bR h,.own (.lst (g++[.int 0])),⇑b,⇑most,⇑few,↥(z++[c]),.val x],?_,g++[.int 0],z++[c],.val x,rfl,by simp[r],by simp;lia,λd u=>?_⟩
   .have l:bd (.str [97,98,99]) (.int v)=aa (.str [c]):=by
     show(fI cz v).map _=_;rw[D];rfl
    have E:bj (.str z) (.str [c])=aa (.str (z++[c])):=qo (by simp[bD];lia);simp![G,l,E]
   grind)
  (eR 0 n) 0 [bR h,.own (.lst (xs++[.int 0]++[.int 0])),⇑b,⇑most,⇑few,.val (.str []),.none] ∅ ⟨xs++[.int 0]++[.int 0],[],.none,rfl,rfl,by simp,by simp⟩
 refine⟨z,g,∅,∅,y,∅,?_⟩;have C:lI (.int most) (.int b)=aa (.int ((most:Int)-b)):=rfl;have p:bj (.int ((most:Int)-b)) (.int 1)=aa (.int ((most:Int)-b+1)):=rfl;have o:bj (.int b) (.int m)=aa (.int ((b:Int)+m)):=rfl;simp only[jN,rq,eW]at w;simp![sF,yaL,J,C,p,o,u,bZ,H,dH,w]
def g7(p:PV->Bool)(f:PV->PV):∀(xs:List PV),(∀x∈xs,bq (bQ cap dt x ε)=.ok (p x) ε/\(p x=ah->bq (bQ cap de x ε)=.ok (f x) ε))->∀b,iL cap dt de xs b ε=.ok (b++(xs.filter p).map f) ε
 |[],_,b=>by simp[iL]
 |x::xs,h,b=>by
  have d:=h x (by simp);have g:=g7 p f xs (λy c=>h y (by simp[c]));unfold iL;rw[d.1];simp only[R.bind_ok];cases i:p x with
  |false=>grind
  |true=>simp_all
def PY{z:Tx}(h:i+w<=z.length):io z (aa (i:Int)) (aa ((i:Int)+w))=(z.drop i).take w:=by
 unfold io;have c:HT.sIx z.length 0 (aa (i:Int))=i:=by rw[HT.sIx_nat];lia
 have b:HT.sIx z.length z.length (aa ((i:Int)+w))=i+w:=by rw[show(i:Int)+w=((i+w:Nat):Int) by lia,HT.sIx_nat];lia
 rw[c,b,Nat.add_sub_cancel_left]
def Cz(z:Tx)(w:Nat)(o:z.length<=60):oW a [↥z,⇑w]=.ok (.val (.tup (am (aT (bh z w))))) [↥z,⇑w]:=by
 have g:kD [.int (z.length:Nat)]=aa (eR 0 z.length):=vZ ∅;have b:=g7 (cap:=[0,1]) (dt:=(dB (d2 (dX λi j=>decide (i<=j)) (d2 bj (dV 0) (dV 2)) (dL bV (ay (dV 1) (aE)))))) (de:=(eI fu (dV 1) (ef (dV 0)) (ef (d2 bj (dV 0) (dV 2)))))
  (ε:=[↥z,⇑w]) (λx=>match x with|.int i=>decide (i+w<=z.length)|_=>ak) (λx=>match x with|.int i=>.str (io z (aa i) (aa (i+w)))|_=>.non) (eR 0 z.length)
  (by
   intro x d;simp only[eR,b8]at d;obtain⟨i,f,rfl⟩:=d;refine⟨?_,λh=>?_⟩
   .simp![bQ,bW,bq,bV,bj]
   .simp![bQ,bW,bq,bV,bj,eI,ef,fu]) []
 have l:(bh z w).length<=1000000:=by
  unfold bh
  grind
 have m:(((eR 0 z.length).filter (λx=>match x with|.int i=>decide (i+w<=z.length)|_=>ak)).map (λx=>match x with|.int i=>PV.str (io z (aa i) (aa (i+w)))|_=>.non))=am (bh z w):=by
  unfold eR bh am;rw[ou,cT,cT];have n:((λx=>match x with|PV.int i=>decide (i+(w:Int)<=(z.length:Nat))|_=>ak) ∘ λ(i:Nat)=>PV.int (0+(i:Nat)))=λi=>decide (i+w<=z.length):=by funext i;simp only[En];congr 1;simp;lia
  rw[n];refine lY λi f=>?_;have:=(kH.mp f).2;simp only[decide_eq_true_eq]at this;simp only[En,Int.zero_add];rw[PY this]
 simp only[eW]at b;rw[m]at b;have c:=BA l;generalize am (aT (bh z w))=T at c;generalize am (bh z w)=B at b c;simp![oW,yaK,bV,g,bE,b,c,iJ]
def ET:∀x∈bh z w,x.length=w/\∀c∈x,c∈z:=by
 intro x b;simp only[bh,b8,kH,pf,decide_eq_true_eq]at b
 grind
def Ta{z:Tx}(c:1<=w)(f:w<=z.length)(d:z.length<=w+m):1<=(bh z w).length/\(bh z w).length<=m+1:=by
 unfold bh;rw[cK];have:∀n,((cJ n).filter λi=>decide (i+w<=z.length)).length=min n (z.length+1-w):=by
  intro n
  induction n with
  |zero=>simp
  |succ n b=>
   rw[rf,List.filter_append,iT,b]
   grind
 rw[this];lia
structure Good(l:Tx)(w:Nat)(ls:List Tx):Prop where
 len:∀x∈ls,x.length=w
 abc:∀x∈ls,∀c∈x,c∈l
 some:1<=ls.length
 few:ls.length<=9
def Good.perm{b:List Tx}(g:Good l w ls)(p:b.Perm ls):Good l w b:=⟨λx h=>g.len x (p.mem_iff.mp h),λx h=>g.abc x (p.mem_iff.mp h),by rw[p.length_eq];exact g.some,by rw[p.length_eq];exact g.few⟩
def Good.put{z:Tx}(g:Good l w ls)(b:z.length=w)(d:∀c∈z,c∈l):Good l w (ls.set j z):=by
 refine⟨λx h=>?_,λx h=>?_,by rw[ge];exact g.some,by rw[ge];exact g.few⟩
 .rcases KB h with h|rfl
  .exact g.len x h
  .exact b
 .rcases KB h with h|rfl
  .exact g.abc x h
  .exact d
def Od(ls:List Tx)(j:Nat)(z:Tx):(am ls).set j (.str z)=am (ls.set j z):=by simp[am,List.map_set]
def kC(ls:List Tx):(am ls).length=ls.length:=by simp[am]
def CU{n:Nat}{v:Int}(c:0<=v)(b:v<n):il n v=aa v.toNat:=by unfold il;rw[if_pos c,if_pos b]
def OX(ls:List Tx):nB (am ls)=ah:=by
 induction ls with
 |nil=>rfl
 |cons x ls b=>show(imm (.str x)&&nB (am ls))=ah;rw[b];rfl
def QG(g:List Int)(xs:List PV)(d most:Nat)(hs:d<3)(m1:1<=most)(m9:most<=9)(hx:xs.length<=300):∃(w:Nat) (ls:List Tx) (j:List PV),1<=w/\w<=4/\(d≠2->2<=w)/\Good cz w ls/\ls.Pairwise (λa b=>dD a b=ah)/\ls.length<=most/\(d=0->∃z:Tx,ls=aT (bh z w)/\w<=z.length/\z.length+1<=w+most/\∀c∈z,c∈cz)/\j.length<=xs.length+60 /\ uS a [bR g,.own (.lst xs),⇑d,⇑most]=.ok (.val (.tup [.int w,.tup (am ls)])) [bR g,.own (.lst j),⇑d,⇑most]:=by
 obtain⟨w,L,Q,S,hw⟩:∃w:Nat,1<=w/\w<=4/\(d≠2->2<=w)/\(cO (dB (d2 (Pu.eqT ah) (dV 2) (dC (.int 2)))) (d2 bj (dC (.int 2)) (bA (bg (hU a) (gV (dV 0) (gO 1 (gV (dC (.int 3)) (Pu.bY))))))) (d2 bj (dC (.int 1)) (bA (bg (hU a) (gV (dV 0) (gO 1 (gV (dC (.int 4)) (Pu.bY)))))))) [bR g,.own (.lst xs),⇑d,⇑most,.none,.none,.none] =
   .ok (.int w) [bR g,.own (.lst (xs++[.int 0])),⇑d,⇑most,.none,.none,.none]:=by
  by_cases h2:d=2
  .subst h2;obtain⟨v,D,C,n⟩:=mI (a:=a) g xs 4 (by decide) ∅;refine⟨(1+v).toNat,∅,∅,λz=>absurd rfl z,?_⟩;have e:Pu.eqT ah (.int 2) (.int 2)=aa (.bl ak):=by rw[tm];rfl
   have:((1+v).toNat:Int)=1+v:=∅
   simp![e,n,bj,this]
  .obtain⟨v,D,C,n⟩:=mI (a:=a) g xs 3 (by decide) ∅;refine⟨(2+v).toNat,∅,∅,λ_=>∅,?_⟩;have e:Pu.eqT ah (.int ((d:Nat):Int)) (.int 2)=aa (.bl ah):=by
    have:d=0\/d=1:=∅
    rcases this with rfl|rfl <;> (rw[tm];rfl)
   have:((2+v).toNat:Int)=2+v:=∅
   simp![e,n,bj,this]
 obtain⟨z,B,A,H,f,E,u⟩:=HE (a:=a) g (xs++[.int 0]) w (w+(most-1)) ∅ ∅ (by simp;lia);simp only[iT,List.length_singleton]at E;have W:=Cz (a:=a) z w ∅;have Vs:=Ta (z:=z) (w:=w) (m:=most-1) L A H;have g0:Good cz w (aT (bh z w)):=by exact Good.perm ⟨λx h=>(ET x h).1,λx h c hc=>f c ((ET x h).2 c hc),Vs.1,∅⟩ (fk _)
 have o:g8 (.int d) (.int 3)=aa (.int d):=by
  have:d=0\/d=1\/d=2:=∅
  rcases this with rfl|rfl|rfl <;> rfl
 have hr:kD [.int d]=aa (eR 0 d):=vZ ∅;have bz:(eR 0 d).length=d:=by simp[eR]
 obtain⟨P,e1,j,ls,s,rfl,y,l,h0,Z⟩:=vn (i:=6) (db:=(zC 5 (bA (bg (hU a) (gV (dV 0) (gO 1 (gV (k9 (λxs=>qd (bV xs)) 5) (Pu.bY)))))) (bA (bg (sF a) (gV (dV 0) (gO 1 (gV (dV 4) (gV (dV 4) (Pu.bY)))))))))
  (I:=λk G=>∃j ls s,G=[bR g,.own (.lst j),⇑d,⇑most,⇑w,.own (.lst (am ls)),s]/\Good cz w ls/\ls.length<=most/\(k=0->ls=aT (bh z w))/\j.length<=B.length+10*k) (N:=d)
  (by
   rintro k G x hk ⟨j,ls,s,rfl,y,l,_,Z⟩;obtain⟨z,J,A,H,f,Y,u⟩:=HE (a:=a) g j w w ∅ ∅ ∅;obtain⟨v,D,C,n⟩:=mI (a:=a) g J (ls.length:Nat) (by have:=y.some;lia) ∅;refine⟨[bR g,.own (.lst (J++[.int 0])),⇑d,⇑most,⇑w,.own (.lst (am (ls.set v.toNat z))),.val x],?_,_,_,_,rfl,y.put ∅ f,by rw[ge];exact l,λz=>∅,by simp;lia⟩;have X:il (am ls).length v=aa v.toNat:=CU D (by rw[kC];exact C);have hl:bV [.lst (am ls)]=aa (.int (ls.length:Nat)):=by simp[bV,kC]
   simp![zC,u,hl,n,X,Od])
  (eR 0 d) 0 [bR g,.own (.lst B),⇑d,⇑most,⇑w,.own (.lst (am (aT (bh z w)))),.none] ∅ ⟨B,_,.none,rfl,g0,by rw[zg];lia,λ_=>rfl,∅⟩
 refine⟨w,aT ls,j,L,Q,S,y.perm (fk _),tI _,by rw[zg];exact l,λz0=>⟨z,by rw[h0 ∅,qH (tI _)],A,∅,f⟩,∅,?_⟩;have M:bj (.int w) (.int most)=aa (.int ((w:Int)+most)):=rfl;have F:lI (.int ((w:Int)+most)) (.int 1)=aa (.int (((w+(most-1):Nat)):Int)):=by show aa (PV.int ((w:Int)+most-1))=_;congr 2;lia
 have O:=BA (ls:=ls) (by lia);have r:yaP a [bR g,.own (.lst xs),⇑d,⇑most,.none,.none,.none]=.ok (.ret (.val (.tup [.int w,.tup (am (aT ls))]))) [bR g,.own (.lst j),⇑d,⇑most,⇑w,.own (.lst (am ls)),s]:=by unfold yaP;refine(cf (tK hw)).trans ?_;have p:=OX (aT ls);generalize am (aT ls)=T at O p;generalize ((w+(most-1):Nat):Int)=q at F u;generalize (w:Int)+most=q2 at M F;simp[aH,cO,dB,d2,d1,dV,dC,dL,dF,ay,aE,cB,pV,bw,cX,bg,gV,gO,Pu.bY,fP,fX,cI,eU,i9,R.bind,aS,bJ,gq,bI,back,gu,oJ,ji,AZ,zy,zb,bA,kB,cM,eh,f9,I_,wq,IL,mq,zv,pW,mn,lz,HB,qm,dX,eY,vH,k9,v4,dW,pi,M,F,u,W,tf,o,bZ,hr,dH,e1,O,Il,p,iJ]
 simp[uS,bJ,gq,bI,r,back,gu]
def eM(x:Tx):List PV:=x.map λc=>.str [c]
def RY(x:Tx):(eM x).length=x.length:=by simp[eM]
def UL(x:Tx)(j c:Nat):(eM x).set j (.str [c])=eM (x.set j c):=by simp[eM,List.map_set]
def MI(x:Tx):fV (eM x)=aa (x.map λc=>[c]):=by
 have e:eM x=am (x.map λc=>[c]):=by unfold eM am;simp_all
 rw[e,oN]
def U2(x:Tx):gZ [] (x.map λc=>[c])=x:=by
 induction x with
 |nil=>rfl
 |cons c x b=>
  cases x with
  |nil=>rfl
  |cons d x=>show [c]++[]++gZ [] ((d::x).map λc=>[c])=_;rw[b];rfl
def Py(x:Tx):ir [] (x.map λc=>[c])=x.length:=by
 unfold ir
 induction x with
 |nil=>rfl
 |cons c x b=>simp at b ⊢;lia
def O3(b:List Tx)(c:aj):∀d,pY [] (dL sr (ay (dV 0) aE)) (am b) d c=.ok (d++b.map eM) c:=by
 induction b with
 |nil=>intro d;simp[am,pY]
 |cons x b f=>
  intro d;have:am (x::b)=.str x::am b:=rfl;rw[this];unfold pY;have h:bq (bQ [] (dL sr (ay (dV 0) aE)) (.str x) c)=.ok (.lst (eM x)) c:=by simp![bQ,bW,bq,sr,eM]
  simp_all
def map_set{b c:Type}(f:b->c)(l:List b)(j:Nat)(x:b):(l.map f).set j (f x)=(l.set j x).map f:=by simp_all
def cy(ls:List Tx):Nat:=(ls.map λx=>x.count 46).sum
def LM(x:Tx)(j c:Nat):(x.set j c).count 46<=x.count 46+1:=by
 induction x generalizing j with
 |nil=>simp
 |cons d x b=>
  cases j with
  |zero=>grind
  |succ j=>grind
def NW(b:List Tx)(j:Nat)(x y:Tx)(h:b[j]?=aa x)(d:y.count 46<=x.count 46+1):cy (b.set j y)<=cy b+1:=by
 unfold cy
 induction b generalizing j with
 |nil=>simp
 |cons z b c=>
  cases j with
  |zero=>grind
  |succ j=>have:=c j (~~~h);simp only[List.set_cons_succ,cR,mV];lia
def TX{c:List Tx}(p:c.Perm b):cy c=cy b:=(p.map _).sum_nat
def gY:Tx:=[46,97,98,99]
def LZ(b:List Tx)(d:∀x∈b,x.length<=10)(c:aj):iL [] b7 (my nv (dC (.str [])) (ay (dV 0) aE)) (b.map λx=>.lst (eM x)) [] c=.ok (am b) c:=by
 have h:∀(b:List Tx),(∀x∈b,x.length<=10)->∀f,iL [] b7 (my nv (dC (.str [])) (ay (dV 0) aE)) (b.map λx=>.lst (eM x)) f c=.ok (f++am b) c:=by
  intro b
  induction b with
  |nil=>intro _ f;simp[iL,am]
  |cons x b g=>
   intro d f;have n:=d x (by simp);have m:bq (bQ [] b7 (.lst (eM x)) c)=.ok ah c:=by simp![bQ,bW,bq,b7]
   have j:nv [] [.lst (eM x)]=aa (.str x):=by show(fV (eM x)).bind _=_;rw[MI,gz,Py,if_pos (by unfold bD;lia),U2]
   have l:bq (bQ [] (my nv (dC (.str [])) (ay (dV 0) aE)) (.lst (eM x)) c)=.ok (.str x) c:=by simp![bQ,bW,bq,my,y_,j]
   rw[cR];unfold iL;rw[m];simp only[R.bind_ok,l];rw[g (λy i=>d y (by simp[i]))];simp[am]
 have:=h b d [];simpa using this
def Ja(c b:List Tx):am c++am b=am (c++b):=by simp[am]
def Qs(xs:List b)(n:Nat):io xs (aa (n:Int)) ae=xs.drop n:=by
 unfold io;have c:HT.sIx xs.length xs.length ae=xs.length:=rfl;rw[c,HT.sIx_nat];by_cases h:n<=xs.length
 .rw[Nat.min_eq_left h,pA (by rw[wF];lia)]
 .rw[Nat.min_eq_right ∅,KC ∅,KC ∅];simp
end
def opts(d:Nat):Tx:=if d=46 then cz else [d]
def fillS(a:List Tx)(d:Nat):List Tx:=a.flatMap λs=>(opts d).map λc=>s++[c]
def fillF(a:List Tx)(b:Tx):List Tx:=b.foldl fillS a
def fills(b:Tx):List Tx:=fillF [[]] b
def rowS(a:List (List Tx))(b:Tx):List (List Tx):=a.flatMap λr=>(fills b).map λx=>r++[x]
def rowsF(a:List Tx):List (List Tx):=a.foldl rowS [[]]
def opts_mem:c∈opts d↔(d=46/\c∈cz)\/(d≠46/\c=d):=by
 unfold opts
 grind
def opts_len(d:Nat):(opts d).length=3 ^ [d].count 46:=by
 unfold opts;by_cases h:d=46
 .subst h;rfl
 .simp[h]
def fillS_len(a:List Tx)(d:Nat):(fillS a d).length=a.length*3 ^ [d].count 46:=by
 unfold fillS;rw[KD];simp only[cK,opts_len]
 induction a with
 |nil=>simp
 |cons r a b=>grind
def fillF_len(b:Tx):∀a:List Tx,(fillF a b).length=a.length*3^b.count 46:=by
 unfold fillF
 induction b with
 |nil=>intro a;simp
 |cons d b c=>intro a;rw[iU,c,fillS_len,Nat.mul_assoc,<-Ai];congr 2;rw[<-List.count_append];rfl
def fills_len(b:Tx):(fills b).length=3^b.count 46:=by rw[fills,fillF_len];simp
def rowS_len(a:List (List Tx))(b:Tx):(rowS a b).length=a.length*3^b.count 46:=by
 unfold rowS;rw[KD];simp only[cK,fills_len]
 induction a with
 |nil=>simp
 |cons r a c=>grind
def rowsF_len'(c:List Tx):∀a:List (List Tx),(c.foldl rowS a).length=a.length*3^cy c:=by
 induction c with
 |nil=>intro a;simp[cy]
 |cons b c d=>intro a;rw[iU,d,rowS_len,Nat.mul_assoc,<-Ai];congr 2
def rowsF_len(a:List Tx):(rowsF a).length=3^cy a:=by rw[rowsF,rowsF_len'];simp
def fillF_fits(b:Tx):∀(a:List Tx) (z:Tx),z∈fillF a b↔∃r∈a,∃x:Tx,z=r++x/\eV (λc d=>c∈opts d) x b:=by
 unfold fillF
 induction b with
 |nil=>
  intro a z;constructor
  .intro h;exact⟨z,h,[],by simp,.nil⟩
  .rintro⟨r,f,x,rfl,g⟩;cases g;simpa using f
 |cons d b j=>
  intro a z;rw[iU,j];constructor
  .rintro⟨r,f,x,rfl,g⟩;unfold fillS at f;obtain⟨s,l,f⟩:=xf.mp f;obtain⟨c,i,rfl⟩:=b8.mp f;exact⟨s,l,c::x,by simp,.cons i g⟩
  .rintro⟨r,f,x,rfl,g⟩;cases g with
   |cons i g=>
    rename_i c x;refine⟨r++[c],?_,x,by simp,g⟩;unfold fillS
    grind
def Fit(x b:Tx):Prop:=eV (λc d=>c∈opts d) x b
def fills_mem:z∈fills b↔Fit z b:=by
 unfold fills;rw[fillF_fits];constructor
 .rintro⟨r,a,x,rfl,c⟩;simp at a;subst a;exact c
 .intro h;exact⟨[],by simp,z,rfl,h⟩
def Fit.len(h:Fit x b):x.length=b.length:=qP h
def Fit.abc(h:Fit x b)(f:∀c∈b,c∈gY):∀c∈x,c∈cz:=by
 unfold Fit at h
 induction h with
 |nil=>grind
 |@cons c d x b hc _ ih=>
  intro e a;rcases cC.mp a with rfl|a
  .rcases opts_mem.mp hc with⟨_,h⟩|⟨h1,rfl⟩
   .exact h
   .have:=f e (by simp);simp[gY]at this;simp[cz];lia
  grind
def rowsF_mem'(i:List Tx):∀(a:List (List Tx)) (z:List Tx),z∈i.foldl rowS a↔∃r∈a,∃xs:List Tx,z=r++xs/\eV Fit xs i:=by
 induction i with
 |nil=>
  intro a z;constructor
  .intro h;exact⟨z,h,[],by simp,.nil⟩
  .rintro⟨r,f,x,rfl,g⟩;cases g;simpa using f
 |cons d b l=>
  intro a z;rw[iU,l];constructor
  .rintro⟨r,f,x,rfl,g⟩;unfold rowS at f;obtain⟨s,m,f⟩:=xf.mp f;obtain⟨c,j,rfl⟩:=b8.mp f;exact⟨s,m,c::x,by simp,.cons (fills_mem.mp j) g⟩
  .rintro⟨r,f,x,rfl,g⟩;cases g with
   |cons j g=>rename_i c x;refine⟨r++[c],?_,x,by simp,g⟩;unfold rowS;exact xf.mpr ⟨r,f,b8.mpr ⟨c,fills_mem.mpr j,rfl⟩⟩
def rowsF_mem:xs∈rowsF a↔eV Fit xs a:=by unfold rowsF;rw[rowsF_mem'];simp_all
def addL(a:List (List Tx))(k:List Tx):List (List Tx):=if k∈a then a else a++[k]
def addL_mem:z∈addL a k↔z∈a\/z=k:=by
 unfold addL
 grind
def addL_nodup{a:List (List Tx)}(h:a.Nodup):(addL a k).Nodup:=by
 unfold addL
 grind
def addF_mem(ks:List (List Tx)):∀(a:List (List Tx)) (z:List Tx),z∈ks.foldl addL a↔z∈a\/z∈ks:=by
 induction ks with
 |nil=>intro a z;simp
 |cons k ks b=>intro a z;rw[iU,b,addL_mem,cC];lia
def addF_nodup(ks:List (List Tx)):∀a:List (List Tx),a.Nodup->(ks.foldl addL a).Nodup:=by
 induction ks with
 |nil=>grind
 |cons k ks b=>intro a h;exact b _ (addL_nodup h)
def nextW(b:Tx)(k:List Tx):List (List Tx):=(fills b).map λx=>aT (k++[x])
def stepW(ks:List (List Tx))(b:Tx):List (List Tx):=(ks.flatMap (nextW b)).foldl addL []
def waysF(a:List Tx):List (List Tx):=a.foldl stepW [[]]
def waysF_mem'(f:List Tx):∀(ks:List (List Tx)) (z:List Tx),z∈f.foldl stepW ks↔if f=[] then z∈ks else ∃k∈ks,∃xs:List Tx,z=aT (k++xs)/\eV Fit xs f:=by
 induction f with
 |nil=>intro ks z;simp
 |cons b f l=>
  intro ks z;rw[iU,l,if_neg (show ¬b::f=[] by simp)];have g:∀y,y∈stepW ks b↔∃k∈ks,∃x,Fit x b/\y=aT (k++[x]):=λy=>by
   unfold stepW;rw[addF_mem];constructor
   .rintro(h|h)
    .simp at h
    .obtain⟨k,c,h⟩:=xf.mp h;obtain⟨x,a,rfl⟩:=b8.mp h;exact⟨k,c,x,fills_mem.mp a,rfl⟩
   .rintro⟨k,c,x,a,rfl⟩;exact .inr (xf.mpr ⟨k,c,b8.mpr ⟨x,fills_mem.mpr a,rfl⟩⟩)
  by_cases j:f=[]
  .subst j;rw[if_pos rfl,g];constructor
   .rintro⟨k,c,x,a,rfl⟩;exact⟨k,c,[x],rfl,.cons a .nil⟩
   .rintro⟨k,c,xs,rfl,d⟩;cases d with
    |cons a d=>cases d;exact⟨k,c,_,a,rfl⟩
  .rw[if_neg j];constructor
   .rintro⟨y,m,xs,rfl,d⟩;obtain⟨k,c,x,a,rfl⟩:=(g y).mp m;refine⟨k,c,x::xs,sA ?_,.cons a d⟩;have i:=(fk (k++[x])).append_right xs;simpa using i
   .rintro⟨k,c,xs,rfl,d⟩;cases d with
    |cons a d=>rename_i x xs;refine⟨aT (k++[x]),(g _).mpr ⟨k,c,x,a,rfl⟩,xs,sA ?_,d⟩;have i:=(fk (k++[x])).symm.append_right xs;simpa using i
def waysF_mem:z∈waysF a↔∃xs:List Tx,z=aT xs/\eV Fit xs a:=by
 unfold waysF;rw[waysF_mem'];by_cases c:a=[]
 .subst c;rw[if_pos rfl];constructor
  .intro h;simp at h;subst h;exact⟨[],(by simp[aT]),.nil⟩
  .rintro⟨xs,rfl,b⟩;cases b;simp[aT]
 simp_all
def waysF_nodup'(a:List Tx):∀ks:List (List Tx),ks.Nodup->(a.foldl stepW ks).Nodup:=by
 induction a with
 |nil=>grind
 |cons b a c=>intro ks _;exact c _ (addF_nodup _ _ ud)
def waysF_nodup(a:List Tx):(waysF a).Nodup:=waysF_nodup' a _ (by simp)
def addF_len(ks:List (List Tx)):∀a:List (List Tx),(ks.foldl addL a).length<=a.length+ks.length:=by
 induction ks with
 |nil=>intro a;simp
 |cons k ks b=>
  intro a;have:=b (addL a k);rw[iU,gR];have c:(addL a k).length<=a.length+1:=by unfold addL;split <;> simp
  lia
def next_len(ks:List (List Tx))(b:Tx):(ks.flatMap (nextW b)).length=ks.length*3^b.count 46:=by
 rw[KD];simp only[nextW,cK,fills_len]
 induction ks with
 |nil=>simp
 |cons r a c=>grind
def stepW_len(ks:List (List Tx))(b:Tx):(stepW ks b).length<=ks.length*3^b.count 46:=by unfold stepW;have:=addF_len (ks.flatMap (nextW b)) [];rw[next_len]at this;simpa using this
def waysF_len'(a:List Tx):∀ks:List (List Tx),(a.foldl stepW ks).length<=ks.length*3^cy a:=by
 induction a with
 |nil=>intro ks;simp[cy]
 |cons b a c=>
  intro ks;rw[iU];refine c7 (c _) ?_;have e:3^cy (b::a)=3^b.count 46*3^cy a:=by rw[<-Ai];rfl
  rw[e,<-Nat.mul_assoc];exact Nat.mul_le_mul_right _ (stepW_len ks b)
def waysF_len(a:List Tx):(waysF a).length<=3^cy a:=by have:=waysF_len' a [[]];simpa[waysF]using this
def uniqK_acc(l:List PrK):∀(a:List PrK) (z:PrK),z∈l.foldl (λa k=>if k∈a then a else a++[k]) a↔z∈a\/z∈l:=by
 induction l with
 |nil=>intro a z;simp
 |cons k l b=>grind
def uniqK_mem:z∈uniqK l↔z∈l:=by unfold uniqK;rw[uniqK_acc];simp
def views_same(w:Int)(a:List Tx):sortK (uniqK ((rowsF a).map λr=>(w,aT r)))=(cZ (waysF a)).map λk=>(w,k):=by
 have g:∀k∈uniqK ((rowsF a).map λr=>((w,aT r):PrK)),k.1=w:=λk c=>by obtain⟨r,_,rfl⟩:=b8.mp (uniqK_mem.mp c);rfl
 refine(sortK_uniq (n:=w) ?_ g ?_).symm
 .have b:((cZ (waysF a)).map λk=>((w,k):PrK)).Nodup:=by
   exact pB.mpr ((((nM _).nodup_iff).mpr (waysF_nodup a)).imp λh e=>h (Prod.mk.inj e).2)
  refine(List.perm_ext_iff_of_nodup b (uniqK_nodup _ [] ud)).mpr λq=>?_;show q∈_↔q∈uniqK _;rw[uniqK_mem,b8,b8];constructor
  .rintro⟨k,c,rfl⟩;obtain⟨xs,rfl,f⟩:=waysF_mem.mp ((nM _).mem_iff.mp c);exact⟨xs,rowsF_mem.mpr f,rfl⟩
  .rintro⟨xs,d,rfl⟩;exact⟨aT xs,(nM _).mem_iff.mpr (waysF_mem.mpr ⟨xs,rfl,rowsF_mem.mp d⟩),rfl⟩
 .refine pB.mpr ((Jh _).imp λh=>?_);unfold iO at h;simpa using h
def uniqK_len(l:List PrK):(uniqK l).length<=l.length:=(uniqK_nodup l [] ud).length_le_of_subset λz a=>uniqK_mem.mp a
section
def wf_comp(t:Tx)(o:Tx)(g f d b:Slot)(l:t.length<=50):iL [5] b7 (d2 bj (dV 1) (dV 0)) (o.map λc=>.str [c]) [] [g,f,d,↥o,b,↥t]=.ok (am (o.map λc=>t++[c])) [g,f,d,↥o,b,↥t]:=by
 have h:=g7 (cap:=[5]) (dt:=b7) (de:=(d2 bj (dV 1) (dV 0))) (ε:=[g,f,d,↥o,b,↥t]) (λ_=>ah) (λx=>match x with|.str [c]=>.str (t++[c])|_=>.non) (o.map λc=>PV.str [c])
  (by intro x i;obtain⟨c,_,rfl⟩:=b8.mp i;have j:bj (.str t) (.str [c])=aa (.str (t++[c])):=qo (by simp[bD];lia);refine⟨by simp![bQ,bW,bq,b7],λ_=>?_⟩;simp![bQ,bW,bq,j]) []
 rw[eW,m8.mpr (by simp)]at h;rw[h];congr 1;simp[am,cT,l3]
def wf_row(d:Nat)(h g f n:Slot)(b:List Tx)(A:∀t∈b,t.length<=50)(D:(fillS b d).length<=999999):∃l,ff 5 (gJ 4 (dF (bE [5] (aU (dV 3)) (b7) (d2 bj (dV 1) (dV 0))))) (am b) [h,g,f,↥(opts d),.own (.lst []),n]=.ok .next [h,g,f,↥(opts d),.own (.lst (am (fillS b d))),l]:=by
 obtain⟨y,w,l,p,rest,j,z,rfl⟩:=lN (i:=5) (db:=(gJ 4 (dF (bE [5] (aU (dV 3)) (b7) (d2 bj (dV 1) (dV 0))))))
  (I:=λr s=>∃(l:Slot) (p rest:List Tx),b=p++rest/\r=am rest/\s=[h,g,f,↥(opts d),.own (.lst (am (fillS p d))),l])
  (by
   rintro x r s ⟨l,p,rest,j,u,rfl⟩;cases rest with
   |nil=>cases u
   |cons t rest=>
    have v:x::r=.str t::am rest:=u;simp only[mZ]at v;obtain⟨rfl,rfl⟩:=v;have m:=wf_comp t (opts d) h g f (.own (.lst (am (fillS p d)))) (A t (by rw[j];simp));have q:dA (.str (opts d))=aa ((opts d).map λc=>.str [c]):=rfl;have C:fillS (p++[t]) d=fillS p d++(opts d).map λc=>t++[c]:=by simp[fillS]
    have o:(am (fillS p d)).length+(am ((opts d).map λc=>t++[c])).length<=bD:=by
     rw[kC,kC];have E:(fillS p d).length+((opts d).map λc=>t++[c]).length<=(fillS b d).length:=by rw[j];simp only[fillS,Eo,uA,iT];lia
     unfold bD;lia
    refine⟨[h,g,f,↥(opts d),.own (.lst (am (fillS (p++[t]) d))),↥t],?_,↥t,p++[t],rest,by rw[j];simp,rfl,rfl⟩;rw[C,<-Ja];generalize am ((opts d).map λc=>t++[c])=Y at m o;generalize am (fillS p d)=L at m o;generalize ((opts d).map λc=>PV.str [c])=A3 at m q;generalize opts d=O at m q;simp![gJ,bE,aU,q,m,o])
  (am b) [h,g,f,↥(opts d),.own (.lst (am (fillS [] d))),n] ⟨n,[],b,by simp,rfl,rfl⟩
 have B:rest=[]:=by cases rest with|nil=>rfl|cons=>cases z
 subst B;rw[ix]at j;rw[<-j]at w;exact⟨l,w⟩
def fillF_app(d:List Tx)(b c:Tx):fillF d (b++c)=fillF (fillF d b) c:=by unfold fillF;grind
def fill_long(h:t∈fills b):t.length=b.length:=(fills_mem.mp h).len
def pow6(h:k<=6):3^k<=729:=c7 (Nat.pow_le_pow_right (by decide) h) (by decide)
def wtf_eq(b:Tx)(H:b.length<=40)(G:b.count 46<=6):sH a [↥b]=.ok (.val (.lst (am (fills b)))) [↥b]:=by
 obtain⟨z,m,o,h,g,f,p,rest,j,E,rfl⟩:=lN (i:=2) (db:=(aH (bw 3 (cO (dB (d2 (Pu.eqT ak) (dV 2) (dC (.str [46])))) (dC (.str [97,98,99])) (dV 2)))
 (aH (cX 4 (dL cM (aE)))
 (aH (bZ 5 (aU (dV 1)) (gJ 4 (dF (bE [5] (aU (dV 3)) (b7) (d2 bj (dV 1) (dV 0))))))
 (bw 1 (dM 4))))))
  (I:=λr v=>∃(o h g f:Slot) (p rest:Tx),b=p++rest/\r=rest.map (λc=>PV.str [c])/\v=[↥b,.val (.lst (am (fills p))),o,h,g,f])
  (by
   rintro x r v ⟨o,h,g,f,p,rest,j,q,rfl⟩;cases rest with
   |nil=>cases q
   |cons d rest=>
    simp only[cR,mZ]at q;obtain⟨rfl,rfl⟩:=q;have J:p.length+1<=b.length:=by rw[j];simp
    have s:(p++[d]).count 46<=6:=by
     grind
    have e:fillS (fills p) d=fills (p++[d]):=by unfold fills;rw[fillF_app];rfl
    obtain⟨w,l⟩:=wf_row d (↥b) (.val (.lst (am (fills p)))) (.val (.str [d])) f (fills p) (λt A=>by rw[fill_long A];lia) (by rw[e,fills_len];have:=pow6 s;lia);rw[e]at l;refine⟨_,?_,.val (.str [d]),↥(opts d),.val (.lst (am (fills (p++[d])))),w,p++[d],rest,by rw[j];simp,rfl,rfl⟩;have u:(cO (dB (d2 (Pu.eqT ak) (dV 2) (dC (.str [46])))) (dC (.str [97,98,99])) (dV 2)) [↥b,.val (.lst (am (fills p))),.val (.str [d]),h,g,f]=.ok (.str (opts d)) [↥b,.val (.lst (am (fills p))),.val (.str [d]),h,g,f]:=by
     have F:=yI ak [d] [46];by_cases y:d=46
     .subst y;simp![yI,opts,cz]
     .simp![yI,opts,y]
    have n:dA (.lst (am (fills p)))=aa (am (fills p)):=rfl;generalize am (fills (p++[d]))=R1 at l;generalize am (fills p)=R0 at l u n;generalize opts d=O at l u;refine(cf (tK u)).trans ?_;refine(cf (ε1:=[↥b,.val (.lst R0),.val (.str [d]),↥O,.own (.lst []),f]) (by simp![])).trans ?_;refine(cf (ε1:=[↥b,.val (.lst R0),.val (.str [d]),↥O,.own (.lst R1),w]) ?_).trans ?_
    .unfold bZ aU dV;simp only[DQ,D6,R.bind_ok,n,bS];exact l
    .simp[bw,dM,R.bind])
  (b.map λc=>.str [c]) [↥b,.val (.lst (am (fills []))),.none,.none,.none,.none] ⟨.none,.none,.none,.none,[],b,rfl,rfl,rfl⟩
 have C:rest=[]:=by simp_all
 subst C;rw[ix]at j;rw[<-j]at m;have D:am (fills [])=[.str []]:=rfl;rw[D]at m;have n:dA (.str b)=aa (b.map λc=>.str [c]):=rfl;generalize am (fills b)=R1 at m;generalize (b.map λc=>PV.str [c])=B at m n;simp![sH,yaT,dH,bZ,aU,n,m]
def sY(h:wp x=aa t)(e:iR [] (.type t) (.type T)=aa b):jJ [x,.raw (.ty T)]=aa (.bl b):=by
 show((wp x).bind λt=>(iR [] (.type t) (.type T)).map λb=>PV.bl b)=_
 grind
def Q5:iR [] (.type "int") (.type "int")=aa ah:=by decide +kernel
def Tj:iR [] (.type "int") (.type "bool")=aa ak:=by decide +kernel
def Qj:iR [] (.type "str") (.type "str")=aa ah:=by decide +kernel
def AV:iR [] (.type "tuple") (.type "tuple")=aa ah:=by decide +kernel
def ME(bs:List Bool):nt (bs.map .bl)=aa bs:=by
 induction bs with
 |nil=>rfl
 |cons b bs c=>show(nt (bs.map .bl)).map (b::·)=_;rw[c];rfl
def yD(bs:List Bool):qw [.lst (bs.map .bl)]=aa (.bl (bs.all id)):=by show(nt (bs.map .bl)).map _=_;rw[ME];rfl
def Pt(z s:Tx):zB a [↥z,↥s]=.ok (.val (.bl (z.all s.contains))) [↥z,↥s]:=by
 have b:=g7 (cap:=[1]) (dt:=b7) (de:=(d2 (iF ak) (dV 0) (dV 1))) (ε:=[↥z,↥s]) (λ_=>ah) (λx=>match x with|.str [c]=>.bl (s.contains c)|_=>.non) (z.map λc=>.str [c])
  (by
   intro x h;obtain⟨c,_,rfl⟩:=b8.mp h;refine⟨by simp![bQ,bW,bq,b7],λ_=>?_⟩;have g:iF ak (.str [c]) (.str s)=aa (.bl (s.contains c)):=by rw[<-Mp];simp[iF]
   simp![bQ,bW,bq,g]) []
 have i:((z.map λc=>PV.str [c]).filter (λ_=>ah)).map (λx=>match x with|.str [c]=>PV.bl (s.contains c)|_=>.non)=(z.map s.contains).map .bl:=by rw[m8.mpr (by simp),cT,cT];rfl
 rw[eW,i]at b;have f:(z.map s.contains).all id=z.all s.contains:=by rw[uh];rfl
 generalize z.map s.contains=bs at b f;have d:=yD bs;rw[f]at d;simp![zB,yau,bE,aU,dA,b,d]
def jy(w:Int)(s z:Tx):Bool:=decide ((z.length:Int)=w)&&z.all s.contains
def MW(z s:Tx)(w:Int):tF a [↥z,⇑w,↥s]=.ok (.val (.bl (jy w s z))) [↥z,⇑w,↥s]:=by
 have d:jJ [.str z,.raw (.ty "str")]=aa (.bl ah):=sY rfl Qj;have f:=Pt (a:=a) z s;have c:bV [.str z]=aa (.int (z.length:Nat)):=rfl;have b:=tm ak (z.length:Nat) w;unfold jy;by_cases h:((z.length:Nat):Int)=w
 .simp only[h,decide_true,Bool.xor_true,Ee]at b;simp![tF,yaB,d,c,b,f,h]
 .simp only[h,decide_false,Bool.xor_false]at b;simp![tF,yaB,d,c,b,h]
def yf(d c:List Tx):gw (am d) (am c)=aa (decide (d=c)):=by
 induction d generalizing c with
 |nil=>cases c <;> simp[am,gw]
 |cons x d f=>
  cases c with
  |nil=>simp[am,gw]
  |cons y c=>
   show(dQ (.str x) (.str y)).bind (λa=>(gw (am d) (am c)).map λb=>a&&b)=_;rw[f];have:dQ (.str x) (.str y)=aa (decide (x=y)):=by
    show aa (tS x == tS y)=_;by_cases h:x=y
    .subst h;simp
    .have:tS x≠tS y:=λz=>h (sN z);simp[h,this]
   simp_all
def vg(b:List Tx):fg (am b)=0:=by
 induction b with
 |nil=>rfl
 |cons x b c=>show max (fW (.str x)) (fg (am b))=0;rw[c];rfl
def Uc(b:Bool)(c d:List Tx):Pu.eqT b (.lst (am c)) (.lst (am d))=aa (.bl (b^^decide (c=d))):=by show(if fW (.lst (am c))<=8 then(gw (am c) (am d)).map (λk=>PV.bl (b^^k))else ae)=_;rw[if_pos (by show fg (am c)+1<=8;rw[vg];decide),yf];rfl
def Nk(b:List Tx)(w:Int)(s:Tx)(u:1<=b.length)(r:b.length<=9):oZ a [.val (.tup (am b)),⇑w,↥s]=.ok (.val (.bl (b.all (jy w s)&&decide (b=aT b)))) [.val (.tup (am b)),⇑w,↥s]:=by
 have h:jJ [.tup (am b),.raw (.ty "tuple")]=aa (.bl ah):=sY rfl AV;have i:bV [.tup (am b)]=aa (.int (b.length:Nat)):=by simp[bV,kC]
 have m:(1:Int)<=(b.length:Nat):=∅
 have l:((b.length:Nat):Int)<=9:=∅
 have c:=g7 (cap:=[1,2]) (dt:=b7) (de:=(bA (bg (tF a) (gV (dV 0) (gV (dV 1) (gV (dV 2) (Pu.bY))))))) (ε:=[.val (.tup (am b)),⇑w,↥s]) (λ_=>ah) (λx=>match x with|.str z=>.bl (jy w s z)|_=>.non) (am b)
  (by intro x o;obtain⟨z,_,rfl⟩:=b8.mp o;refine⟨by simp![bQ,bW,bq,b7],λ_=>?_⟩;have p:=MW (a:=a) z s w;simp![bQ,bW,bq,p]) []
 have q:((am b).filter (λ_=>ah)).map (λx=>match x with|.str z=>PV.bl (jy w s z)|_=>.non)=(b.map (jy w s)).map .bl:=by rw[m8.mpr (by simp)];unfold am;rw[cT,cT];rfl
 rw[eW,q]at c;have f:(b.map (jy w s)).all id=b.all (jy w s):=by rw[uh];rfl
 generalize b.map (jy w s)=bs at c f;have d:=yD bs;have n:b.length<=1000000:=∅
 have g:=Uc ak b (aT b);cases j:b.all (jy w s)with
 |false=>rw[f,j]at d;simp![oZ,yam,h,i,m,l,bE,aU,dA,c,d]
 |true=>rw[f,j]at d;simp only[wY]at g;simp![oZ,yam,h,i,m,l,bE,aU,dA,c,d,tf,jf,oN,n,g]
def UR(b:List Tx)(w:Int)(s:Tx)(h:b.length=0\/9<b.length):oZ a [.val (.tup (am b)),⇑w,↥s]=.ok (.val (.bl ak)) [.val (.tup (am b)),⇑w,↥s]:=by
 have c:jJ [.tup (am b),.raw (.ty "tuple")]=aa (.bl ah):=sY rfl AV;have d:bV [.tup (am b)]=aa (.int (b.length:Nat)):=by simp[bV,kC]
 by_cases f:(1:Int)<=(b.length:Nat)
 .have g:¬((b.length:Nat):Int)<=9:=∅
  simp![oZ,yam,c,d,f,g]
 .simp![oZ,yam,c,d,f]
def Tc(i:Int):yd a [⇑i]=.ok (.val (.bl ah)) [⇑i]:=by have c:jJ [.int i,.raw (.ty "int")]=aa (.bl ah):=sY rfl Q5;have b:jJ [.int i,.raw (.ty "bool")]=aa (.bl ak):=sY rfl Tj;simp![yd,yaz,c,b]
def NV(i:Int):tW a [⇑i]=.ok (.val (.bl (decide (1<=i/\i<=4)))) [⇑i]:=by
 have h:=Tc (a:=a) i;by_cases b:1<=i
 .by_cases c:i<=4
  .simp![tW,yaA,h,b,c]
  .simp![tW,yaA,h,b,c]
 .simp![tW,yaA,h,b]
def nu(s:Tx)(w:Int)(b:List Tx):Bool:=decide (1<=w/\w<=4)&&(decide (1<=b.length/\b.length<=9)&&(b.all (jy w s)&&decide (b=aT b)))
def Jw(s:Tx)(w:Int)(b:List Tx):o4 a [.val (.tup [.int w,.tup (am b)]),↥s]=.ok (.val (.bl (nu s w b))) [.val (.tup [.int w,.tup (am b)]),↥s]:=by
 have h:jJ [.tup [.int w,.tup (am b)],.raw (.ty "tuple")]=aa (.bl ah):=sY rfl AV;have l:bV [.tup [.int w,.tup (am b)]]=aa (.int 2):=rfl;have f:=tm ah 2 2;simp only[decide_true,Bool.true_xor,rE]at f;have j:bd (.tup [.int w,.tup (am b)]) (.int 0)=aa (.int w):=rfl;have i:bd (.tup [.int w,.tup (am b)]) (.int 1)=aa (.tup (am b)):=rfl;have d:=NV (a:=a) w;unfold nu;by_cases c:1<=w/\w<=4
 .rw[decide_eq_true c]at d ⊢;by_cases g:1<=b.length/\b.length<=9
  .have m:=Nk (a:=a) b w s g.1 g.2;rw[decide_eq_true g];simp![o4,yay,h,l,f,j,i,d,m]
  .have m:=UR (a:=a) b w s ∅;rw[decide_eq_false g];simp![o4,yay,h,l,f,j,i,d,m]
 .rw[decide_eq_false c]at d ⊢;simp![o4,yay,h,l,f,j,i,d]
abbrev vw(w:Int)(b:List Tx):Bool:=nu cz w b
def Oq(w:Int)(b:List Tx):y0 a [.val (.tup [.int w,.tup (am b)])]=.ok (.val (.bl (vw w b))) [.val (.tup [.int w,.tup (am b)])]:=by have c:=Jw (a:=a) cz w b;simp only[cz]at c;simp![y0,yax,c];rfl
def SX(h:vw w b=ah):vt a [.val (.tup [.int w,.tup (am b)])]=.ok (.val .non) [.val (.tup [.int w,.tup (am b)])]:=by have c:=Oq (a:=a) w b;rw[h]at c;simp![vt,yap,c]
def Good.vw(g:Good cz w d)(n:1<=w)(m:w<=4)(h:d.Pairwise (λa b=>dD a b=ah)):vw w d=ah:=by
 have l:d.all (jy w cz)=ah:=by rw[lZ];intro x f;unfold jy;rw[g.len x f,decide_eq_true rfl,Du,lZ];intro c i;simpa using g.abc x f c i
 have j:decide (d=aT d)=ah:=decide_eq_true (qH h).symm;show nu cz w d=ah;unfold nu;rw[l,j,decide_eq_true (show 1<=(w:Int)/\(w:Int)<=4 by lia),decide_eq_true (show 1<=d.length/\d.length<=9 from⟨g.some,g.few⟩)];rfl
def PZ(b:List Tx):gZ [] b=b.flatten:=by
 induction b with
 |nil=>rfl
 |cons x b c=>
  cases b with
  |nil=>simp[gZ]
  |cons y b=>show x++[]++gZ [] (y::b)=_;rw[c];simp
def RM(b:List Tx):b.flatten.count 46=cy b:=by
 unfold cy
 grind
def PB(x:PV)(h:o4 a [.val x,↥gY]=.ok (.val (.bl ak)) [.val x,↥gY]):oS a [.val x]=.ok (.val (.bl ak)) [.val x]:=by have b:bj (.str [46]) (.str [97,98,99])=aa (.str gY):=qo (by decide);simp![oS,yav,b,h]
def Tn(w:Int)(b:List Tx)(m:ir [] b<=bD):oS a [.val (.tup [.int w,.tup (am b)])]=.ok (.val (.bl (nu gY w b&&decide (cy b<=6)))) [.val (.tup [.int w,.tup (am b)])]:=by
 have d:=Jw (a:=a) gY w b;cases l:nu gY w b with
 |false=>rw[l]at d;exact PB _ d
 |true=>
  rw[l]at d;have g:bj (.str [46]) (.str [97,98,99])=aa (.str gY):=qo (by decide);have h:bd (.tup [.int w,.tup (am b)]) (.int 1)=aa (.tup (am b)):=rfl;have i:nv [] [.tup (am b)]=aa (.str b.flatten):=by show(fV (am b)).bind _=_;rw[oN,gz,if_pos m,PZ]
  have j:yt b.flatten [.str [46]]=aa (.int ((cy b:Nat):Int)):=by show aa (PV.int ((b.flatten.count 46:Nat):Int))=_;rw[RM]
  by_cases c:cy b<=6
  .have f:((cy b:Nat):Int)<=6:=∅
   simp![oS,yav,g,d,h,my,y_,i,j,c,f]
  .have f:¬((cy b:Nat):Int)<=6:=∅
   simp![oS,yav,g,d,h,my,y_,i,j,c,f]
def Rv(h:oS a [.val x]=.ok (.val (.bl ah)) [.val x]):vU a [.val x]=.ok (.val .non) [.val x]:=by simp![vU,yao,h]
end
def cH(m:List (Tx×Int))(x:Tx):Option Int:=(m.find? λp=>decide (p.1=x)).map (·.2)
def kw(m:List (Tx×Int))(x:Tx)(n:Int):List (Tx×Int):=if(m.any λp=>decide (p.1=x))=ah then m.map (λp=>if p.1=x then(p.1,n)else p)else m++[(x,n)]
def dk(m:List (Tx×Int)):List (aK×PV):=m.map λp=>(Sum.inr (tS p.1),PV.int p.2)
def C7(x y:Tx):((Sum.inr (tS x):aK)=Sum.inr (tS y))=(x=y):=propext ⟨λh=>sN (Sum.inr.inj h),λh=>by rw[h]⟩
def Fp(m:List (Tx×Int))(x:Tx):jz (dk m) (Sum.inr (tS x))=(cH m x).map .int:=by
 induction m with
 |nil=>rfl
 |cons p m a=>
  show((List.find? _ ((Sum.inr (tS p.1),PV.int p.2)::dk m)).map (·.2))=_;unfold cH;rw[n5,n5];simp only[C7];by_cases h:p.1=x
  .simp[h]
  .simp only[h,decide_false];exact a
def Uj(m:List (Tx×Int))(x:Tx):((dk m).any λa=>decide (a.1=(Sum.inr (tS x):aK)))=m.any λp=>decide (p.1=x):=by unfold dk;rw[Ep];congr 1;funext p;simp only[En,C7]
def Nb(m:List (Tx×Int))(x:Tx)(n:Int):oO (dk m) (Sum.inr (tS x)) (.int n)=dk (kw m x n):=by
 unfold oO kw;rw[Uj];split
 .unfold dk;rw[cT,cT];refine lY λp _=>?_;simp only[En,C7];split <;> rfl
 .unfold dk;simp
def Fm{m:List (Tx×Int)}(h:(m.any λp=>decide (p.1=x))=ak):cH m x=ae:=by
 unfold cH
 grind
def OM{m:List (Tx×Int)}(h:(m.any λp=>decide (p.1=x))=ak):cH (m++[(x,n)]) y=if y=x then aa n else cH m y:=by
 have a:=Fm h;unfold cH at a ⊢
 grind
def L5{m:List (Tx×Int)}:cH (m.map λp=>if p.1=x then(p.1,n)else p) y=(cH m y).map λz=>if y=x then n else z:=by
 induction m with
 |nil=>rfl
 |cons p m a=>
  unfold cH at a ⊢
  grind
def Jn{m:List (Tx×Int)}(h:(m.any λp=>decide (p.1=x))=ah):∃n,cH m x=aa n:=by
 unfold cH;cases a:m.find? (λp=>decide (p.1=x))with
 |none=>grind
 |some p=>simp_all
def sd(m:List (Tx×Int))(x y:Tx)(n:Int):cH (kw m x n) y=if y=x then aa n else cH m y:=by
 unfold kw;by_cases h:(m.any λp=>decide (p.1=x))=ah
 .rw[if_pos h,L5];by_cases e:y=x
  .subst e;obtain⟨k,a⟩:=Jn h;rw[a];simp
  .simp[e]
 .rw[if_neg h,OM (D5.mpr h)]
def NM:(kw m x n).map (·.1)=if(m.any λp=>decide (p.1=x))=ah then m.map (·.1)else m.map (·.1)++[x]:=by
 unfold kw;split
 .rw[cT];refine lY λp _=>?_;lia
 .simp
def vz{m:List (Tx×Int)}(h:(m.map (·.1)).Nodup):((kw m x n).map (·.1)).Nodup:=by
 rw[NM]
 grind
section
variable{a:Ad}
def vG(c:Nat):PV:=.str [c]
end
section
abbrev aI(w:Nat)(ls:List Tx):PV:=.tup [.int w,.tup (am ls)]
def Qz(xs:List b):io xs ae (aa (-1))=xs.dropLast:=by unfold io;rw[show HT.sIx xs.length 0 ae=0 from rfl,List.drop_zero,Nat.sub_zero,KF];congr 1;show(HT.sIx xs.length xs.length (aa (-1)))=_;show(if(-1:Int)<0 then((-1:Int)+(xs.length:Int)).toNat else min (-1:Int).toNat xs.length)=_;lia
def GO(b:List Tx):iM (am b)=aa (cr b):=by
 induction b with
 |nil=>rfl
 |cons x b c=>show(dI (.str x)).bind (λv=>(iM (am b)).map (v::·))=_;rw[c];rfl
def Ij(b:List Tx)(x:Tx):mz (am b) (.str x)=aa (.int (b.count x:Nat)):=by show(dI (.str x)).bind (λv=>(iM (am b)).map λc=>PV.int (c.countP λz=>eT z v))=_;rw[GO,<-Na];rfl
def Tt(w:Nat)(b:List Tx)(t:Tx)(n:t.length<=60):o8 a [↥t,⇑w,.val (.tup (am b))]=.ok (.val (.bl (unD w b t))) [↥t,⇑w,.val (.tup (am b))]:=by
 have d:=Cz (a:=a) t w n
 let M:=aT (bh t w)
 have c:=g7 (cap:=[3,2]) (dt:=b7) (de:=(d2 (dX λi j=>decide (i<=j)) (sG mz (dV 1) (dV 0)) (sG mz (dV 2) (dV 0)))) (ε:=[↥t,⇑w,.val (.tup (am b)),.val (.tup (am M))]) (λ_=>ah) (λx=>match x with|.str z=>.bl (decide (M.count z<=b.count z))|_=>.non) (am M)
  (by intro x m;obtain⟨z,_,rfl⟩:=b8.mp m;refine⟨by simp![bQ,bW,bq,b7],λ_=>?_⟩;have h:=Ij M z;have g:=Ij b z;generalize am M=A at h;generalize am b=B at g;simp![bQ,bW,bq,sG,h,g]) []
 have o:((am M).filter (λ_=>ah)).map (λx=>match x with|.str z=>PV.bl (decide (M.count z<=b.count z))|_=>.non)=(M.map λz=>decide (M.count z<=b.count z)).map .bl:=by rw[m8.mpr (by simp)];unfold am;rw[cT,cT];rfl
 rw[eW,o]at c;have l:(M.map λz=>decide (M.count z<=b.count z)).all id=unD w b t:=by
  rw[uh];unfold unD;have p:=fk (bh t w)
  grind
 generalize (M.map λz=>decide (M.count z<=b.count z))=bs at c l;have f:=yD bs;rw[l]at f;change oW a _=R.ok (Slot.val (.tup (am M))) _ at d;generalize am M=MM at d c;clear_value M;simp![o8,yaO,d,bE,aU,dA,c,f]
end
section
variable{a:Ad}
def Tu(b:Bool)(c d:List Tx):Pu.eqT b (.tup (am c)) (.tup (am d))=aa (.bl (b^^decide (c=d))):=by show(if fW (.tup (am c))<=8 then(gw (am c) (am d)).map (λk=>PV.bl (b^^k))else ae)=_;rw[if_pos (by show fg (am c)+1<=8;rw[vg];decide),yf];rfl
def nextT(w:Nat)(b:List Tx)(t:Tx):List Tx:=(cz.map λc=>t++[c]).filter (unD w b)
def Ub(w:Nat)(g:List Tx)(V j h q:Slot)(d:List Tx)(G:∀t∈d,t.length<=50)(N:(d.flatMap (nextT w g)).length<=999999):∃l,ff 6 (gJ 5 (dF (bE [6,1,2] (aU (dC (.str [97,98,99]))) (dB (bA (bg (o8 a) (gV (d2 bj (dV 1) (dV 0)) (gV (dV 2) (gV (dV 3) (Pu.bY))))))) (d2 bj (dV 1) (dV 0))))) (am d) [V,⇑w,.val (.tup (am g)),j,h,.own (.lst []),q]=.ok .next [V,⇑w,.val (.tup (am g)),j,h,.own (.lst (am (d.flatMap (nextT w g)))),l]:=by
 let f:=nextT w g
 obtain⟨C,z,l,p,rest,n,D,rfl⟩:=lN (i:=6) (db:=(gJ 5 (dF (bE [6,1,2] (aU (dC (.str [97,98,99]))) (dB (bA (bg (o8 a) (gV (d2 bj (dV 1) (dV 0)) (gV (dV 2) (gV (dV 3) (Pu.bY))))))) (d2 bj (dV 1) (dV 0))))))
  (I:=λr ε=>∃(l:Slot) (p rest:List Tx),d=p++rest/\r=am rest/\ε=[V,⇑w,.val (.tup (am g)),j,h,.own (.lst (am (p.flatMap f))),l])
  (by
   rintro x r ε ⟨l,p,rest,n,v,rfl⟩;cases rest with
   |nil=>cases v
   |cons t rest=>
    have y:x::r=.str t::am rest:=v;simp only[mZ]at y;obtain⟨rfl,rfl⟩:=y;have F:=G t (by rw[n];simp);have m:=g7 (cap:=[6,1,2]) (dt:=(dB (bA (bg (o8 a) (gV (d2 bj (dV 1) (dV 0)) (gV (dV 2) (gV (dV 3) (Pu.bY)))))))) (de:=(d2 bj (dV 1) (dV 0))) (ε:=[V,⇑w,.val (.tup (am g)),j,h,.own (.lst (am (p.flatMap f))),↥t])
     (λx=>match x with|.str [c]=>unD w g (t++[c])|_=>ak) (λx=>match x with|.str [c]=>.str (t++[c])|_=>.non) (cz.map vG)
     (by
      intro x E;obtain⟨c,_,rfl⟩:=b8.mp E;have o:=Tt (a:=a) w g (t++[c]) (by simp;lia);have u:bj (.str t) (.str [c])=aa (.str (t++[c])):=qo (by simp[bD];lia);simp only[vG];generalize am (p.flatMap f)=L;generalize unD w g (t++[c])=b at o;generalize t++[c]=tc at o u;generalize am g=B at o;refine⟨?_,λ_=>?_⟩
      .simp![bQ,bW,bq,u,o]
      .simp![bQ,bW,bq,u]) []
    have H:((cz.map vG).filter (λx=>match x with|.str [c]=>unD w g (t++[c])|_=>ak)).map (λx=>match x with|.str [c]=>PV.str (t++[c])|_=>.non)=am (f t):=by simp only[f,nextT];rw[ou,cT,ou];unfold am;rw[cT];rfl
    rw[eW,H]at m;have A:dA (.str [97,98,99])=aa (cz.map vG):=rfl;have s:(am (p.flatMap f)).length+(am (f t)).length<=bD:=by
     rw[kC,kC];have O:(p.flatMap f).length+(f t).length<=(d.flatMap (nextT w g)).length:=by
      grind
     unfold bD;lia
    refine⟨[V,⇑w,.val (.tup (am g)),j,h,.own (.lst (am ((p++[t]).flatMap f))),↥t],?_,↥t,p++[t],rest,by rw[n];simp,rfl,rfl⟩;have M:am ((p++[t]).flatMap f)=am (p.flatMap f)++am (f t):=by simp[am]
    rw[M];generalize am (f t)=Y at m s;generalize am (p.flatMap f)=L at m s;generalize am g=B at m;generalize cz.map vG=A3 at m A;clear_value f;simp![gJ,bE,aU,A,m,s])
  (am d) [V,⇑w,.val (.tup (am g)),j,h,.own (.lst (am (([]:List Tx).flatMap f))),q] ⟨q,[],d,by simp,rfl,rfl⟩
 have J:rest=[]:=by cases rest with|nil=>rfl|cons=>cases D
 subst J;rw[ix]at n;rw[<-n]at z;exact⟨l,z⟩
def TM(h:k<=12):3^k<=531441:=c7 (Nat.pow_le_pow_right (by decide) h) (by decide)
def Rk(g:Good cz w ls)(s:1<=w)(w4:w<=4)(W:ls.Pairwise (λa b=>dD a b=ah)):sK a [.val (aI w ls)]=.ok (.own (.lst (am (kA w ls)))) [.val (aI w ls)]:=by
 have G:kA w ls=(rowsOf w ls (ls.length+w-1)).filter (λz=>decide (aT (bh z w)=ls)):=by rw[ML W,CF s g.some λx r=>⟨g.len x r,g.abc x r⟩];congr 2;lia
 obtain⟨L,C⟩:∃L:Nat,ls.length+w-1=L:=⟨_,rfl⟩
 rw[C]at G;have F:L<=12:=by have:=g.few;lia
 have H:bV [.tup (am ls)]=aa (.int (ls.length:Nat)):=by simp[bV,kC]
 have A:bj (.int (ls.length:Nat)) (.int w)=aa (.int ((ls.length:Int)+w)):=rfl;have y:lI (.int ((ls.length:Int)+w)) (.int 1)=aa (.int L):=by show aa (PV.int ((ls.length:Int)+w-1))=_;congr 2;lia
 have X:kD [.int L]=aa (eR 0 L):=vZ ∅;have v:(eR 0 L).length=L:=by simp[eR]
 obtain⟨J,m,q,p,f,rfl⟩:=vn (i:=4) (db:=(aH (cX 5 (dL cM (aE)))
 (aH (bZ 6 (aU (dV 3)) (gJ 5 (dF (bE [6,1,2] (aU (dC (.str [97,98,99]))) (dB (bA (bg (o8 a) (gV (d2 bj (dV 1) (dV 0)) (gV (dV 2) (gV (dV 3) (Pu.bY))))))) (d2 bj (dV 1) (dV 0))))))
 (bw 3 (dM 5)))))
  (I:=λk ε=>∃(q p f:Slot),ε=[.val (aI w ls),⇑w,.val (.tup (am ls)),.val (.lst (am (rowsOf w ls k))),q,p,f]) (N:=L)
  (by
   rintro k ε x hk ⟨q,p,f,rfl⟩;have n:∀t∈rowsOf w ls k,t.length<=50:=λt S=>by have:=((nK k t).mp (kH.mp S).1).1;lia
   have e:(rowsOf w ls k).flatMap (nextT w ls)=rowsOf w ls (k+1):=(Su s ls k).symm;have P:((rowsOf w ls k).flatMap (nextT w ls)).length<=999999:=by rw[e];have l:=UA w ls (k+1);have h2:=TM (show k+1<=12 by lia);lia
   obtain⟨O,l⟩:=Ub (a:=a) w ls (.val (aI w ls)) (.val (.lst (am (rowsOf w ls k)))) (.val x) f (rowsOf w ls k) n P;rw[e]at l;refine⟨_,?_,.val x,.val (.lst (am (rowsOf w ls (k+1)))),O,rfl⟩;generalize am (rowsOf w ls (k+1))=R1 at l;generalize Y:am (rowsOf w ls k)=R0 at l;simp only[aI]at l ⊢;have o:∀(d:ac aM) (xs:List PV) (ε:aj),ε[3]?=aa (.val (.lst xs))->bZ 6 (aU (dV 3)) d ε=ff 6 d xs ε:=λd xs ε h=>by unfold bZ aU dV;rw[h];rfl
   refine(cf (ε1:=[.val (.tup [.int w,.tup (am ls)]),⇑w,.val (.tup (am ls)),.val (.lst R0),.val x,.own (.lst []),f]) (by simp![])).trans ?_;refine(cf ((o _ R0 _ rfl).trans l)).trans ?_;simp[bw,dM,R.bind])
  (eR 0 L) 0 [.val (aI w ls),⇑w,.val (.tup (am ls)),.val (.lst (am (rowsOf w ls 0))),.none,.none,.none] ∅ ⟨.none,.none,.none,rfl⟩
 rw[v,pD,LA s]at m;have j:=g7 (cap:=[1,2]) (dt:=(dB (d2 (Pu.eqT ak) (bA (bg (oW a) (gV (dV 0) (gV (dV 1) (Pu.bY))))) (dV 2)))) (de:=dV 0) (ε:=[.val (aI w ls),⇑w,.val (.tup (am ls)),.val (.lst (am (rowsOf w ls L))),q,p,f])
  (λx=>match x with|.str z=>decide (aT (bh z w)=ls)|_=>ak) (λx=>x) (am (rowsOf w ls L))
  (by
   intro x r;obtain⟨z,Q,rfl⟩:=b8.mp r;have u:z.length<=60:=by have:=((nK L z).mp (kH.mp Q).1).1;lia
   have E:=Cz (a:=a) z w u;have c:=Tu ak (aT (bh z w)) ls;simp only[wY]at c;generalize am (aT (bh z w))=M at E c;generalize Z:decide (aT (bh z w)=ls)=D at c;generalize am (rowsOf w ls L)=RR;simp only[aI];refine⟨?_,λ_=>?_⟩
   .simp only[Z];generalize am ls=B at c;simp![bQ,bW,bq,E,c]
   .generalize am ls=B;simp![bQ,bW,bq]) []
 have c:((am (rowsOf w ls L)).filter (λx=>match x with|.str z=>decide (aT (bh z w)=ls)|_=>ak)).map (λx=>x)=am (kA w ls):=by rw[uy,G];unfold am;rw[ou];rfl
 rw[eW,c]at j;have e0:am [[]]=[.str []]:=rfl;rw[e0]at m;generalize am (kA w ls)=T at j;generalize am (rowsOf w ls L)=RR at j m;simp only[aI]at j m ⊢;generalize am ls=B at j m H;simp![sK,yaD,B4,H,A,y,dH,bZ,X,m,jV,bE,aU,dA,j]
def tkD(ks:List (List Tx)):List (eZ×PV):=ks.map λk=>(fH k,.bl ah)
def txKey_inj:fH k=fH l↔k=l:=by
 constructor
 .intro h;have b:=Bo k;rw[h,Bo]at b;lia
 lia
def put_tkD(ks:List (List Tx))(k:List Tx):se (tkD ks) (fH k) (.bl ah)=tkD (addL ks k):=by
 have b:((tkD ks).any λc=>decide (c.1=fH k))=decide (k∈ks):=by
  unfold tkD;rw[Ep,nZ,KG,decide_eq_true_iff];constructor
  .rintro⟨l,d,h⟩;have:fH l=fH k:=of_decide_eq_true h;rw[<-txKey_inj.mp this];exact d
  lia
 unfold se addL;rw[b];by_cases h:k∈ks
 .rw[if_pos (decide_eq_true h),if_pos h];unfold tkD;simp_all
 .rw[if_neg (~~~h),if_neg h];simp[tkD]
def tkey_tup(l:List Tx):o9 (.tup (am l))=aa (fH l):=by
 show pZ (am l)=_
 induction l with
 |nil=>rfl
 |cons x l b=>show(jC (.str x)).bind (λk=>(pZ (am l)).map (k::·))=_;rw[b];rfl
def tkV_key(l:List Tx):lP (fH l)=.tup (am l):=by unfold lP fH am;rw[cT];congr 1
def tkD_len(ks:List (List Tx)):(tkD ks).length=ks.length:=by simp[tkD]
def tkD_ok(h:∀k∈ks,∀x∈k,x.length<=bD):Av (tkD ks)=ah:=by
 unfold Av tkD;rw[uh,lZ];intro k c;show(fH k).all uT=ah;unfold fH;rw[uh,lZ];intro x b;show decide ((tS x).cps.toList.length<=bD)=ah;rw[j8]
 grind
def sort2t{ls:List Tx}(h:ls.length<=1000000):jf [.tup (am ls)]=aa (.lst (am (aT ls))):=by simp[jf,oN,h]
def cvB:ac aM:=yC 3 (dL iJ (ay (dF (dL jf (ay (d2 we (dV 4) (dL eh (ay (dV 5) (aE)))) (aE)))) (aE))) (dC (.bl ah))
def cv_row(g f d h:Slot)(k:List Tx)(s:k.length<=20)(xs:List Tx)(b:List (List Tx))(u:b.length+xs.length<=900000):∃n,ff 5 cvB (am xs) [g,f,d,.own (.dT (tkD b)),.val (.tup (am k)),h]=.ok .next [g,f,d,.own (.dT (tkD ((xs.map λx=>aT (k++[x])).foldl addL b))),.val (.tup (am k)),n]:=by
 induction xs generalizing b h with
 |nil=>exact⟨h,rfl⟩
 |cons x xs q=>
  have y:(addL b (aT (k++[x]))).length<=b.length+1:=by unfold addL;split <;> simp
  simp only[gR]at u;obtain⟨n,v⟩:=q (↥x) (addL b (aT (k++[x]))) ∅;refine⟨n,?_⟩;have j:we (.tup (am k)) (.tup [.str x])=aa (.tup (am (k++[x]))):=by
   have e:am (k++[x])=am k++[.str x]:=by simp[am]
   rw[e];cases k with
   |nil=>rfl
   |cons z k=>
    show bj (.tup (.str z::am k)) (.tup [.str x])=_;have:(am k).length+1+1<=1000:=by rw[kC];simp at s;lia
    simp[bj];constructor
    .lia
    .rfl
  have l:=sort2t (ls:=k++[x]) (by simp;lia);have o:iJ [.lst (am (aT (k++[x])))]=aa (.tup (am (aT (k++[x])))):=rfl;have m:=tkey_tup (aT (k++[x]));have i:=put_tkD b (aT (k++[x]));have p:(tkD b).length<bD:=by rw[tkD_len];unfold bD;lia
  have w:cvB [g,f,d,.own (.dT (tkD b)),.val (.tup (am k)),↥x]=.ok .next [g,f,d,.own (.dT (tkD (addL b (aT (k++[x]))))),.val (.tup (am k)),↥x]:=by generalize am (aT (k++[x]))=Y at l o m;generalize am (k++[x])=Z at l j;generalize tkD (addL b (aT (k++[x])))=D2 at i;generalize fH (aT (k++[x]))=Ky at i m;generalize tkD b=D1 at i p;generalize am k=B at j;simp![cvB,yC,j,l,o,kt,m,p,i]
  show(match cvB ([g,f,d,.own (.dT (tkD b)),.val (.tup (am k)),h].set 5 (↥x))with
   |.ok .next c=>ff 5 cvB (am xs) c
   |.ok .cont c=>ff 5 cvB (am xs) c
   |.ok .brk c=>.ok .next c
   |r=>r)=_
  rw[show [g,f,d,.own (.dT (tkD b)),.val (.tup (am k)),h].set 5 (↥x)=[g,f,d,.own (.dT (tkD b)),.val (.tup (am k)),↥x] from rfl,w];exact v
def cvF(a:Ad):ac aM:=bZ 5 (aU (bA (bg (sH a) (gV (dV 2) (Pu.bY))))) cvB
def cv_for(b:Tx)(n:b.length<=40)(j:b.count 46<=6)(f d g:Slot)(k:List Tx)(m:k.length<=20)(c:List (List Tx))(q:c.length<=800000):∃h,cvF a [f,d,↥b,.own (.dT (tkD c)),.val (.tup (am k)),g]=.ok .next [f,d,↥b,.own (.dT (tkD ((nextW b k).foldl addL c))),.val (.tup (am k)),h]:=by
 have i:=wtf_eq (a:=a) b n j;obtain⟨h,p⟩:=cv_row f d (↥b) g k m (fills b) c (by rw[fills_len];have:=pow6 j;lia);refine⟨h,?_⟩;have l:dA (.lst (am (fills b)))=aa (am (fills b)):=rfl;have o:(aU (bA (bg (sH a) (gV (dV 2) (Pu.bY))))) [f,d,↥b,.own (.dT (tkD c)),.val (.tup (am k)),g]=.ok (am (fills b)) [f,d,↥b,.own (.dT (tkD c)),.val (.tup (am k)),g]:=by generalize am (fills b)=FB at i l;simp![aU,i,l]
 unfold cvF bZ;rw[o];exact p
def cv_all(b:Tx)(y:b.length<=40)(o:b.count 46<=6)(V d c:Slot)(ks:List (List Tx))(n:∀k∈ks,k.length<=20/\∀x∈k,x.length<=50)(G:ks.length<=1000):∃h f,sS 4 1 (cvF a) [V,.own (.dT (tkD ks)),↥b,.own (.dT []),d,c]=.ok .next [V,.own (.dT (tkD ks)),↥b,.own (.dT (tkD (stepW ks b))),h,f]:=by
 have E:(tkD ks).map (λp=>lP p.1)=ks.map λk=>.tup (am k):=by unfold tkD;rw[cT];exact lY λk _=>tkV_key k
 obtain⟨s,q,h,f,p,rest,g,F,rfl⟩:=lN (i:=4) (db:=cvF a)
  (I:=λr ε=>∃(d c:Slot) (p rest:List (List Tx)),ks=p++rest/\r=rest.map (λk=>PV.tup (am k))/\ε=[V,.none,↥b,.own (.dT (tkD ((p.flatMap (nextW b)).foldl addL []))),d,c])
  (by
   rintro x r ε ⟨d,c,p,rest,g,j,rfl⟩;cases rest with
   |nil=>cases j
   |cons k rest=>
    simp only[cR,mZ]at j;obtain⟨rfl,rfl⟩:=j;have B:((p.flatMap (nextW b)).foldl addL []).length<=800000:=by
     have m:=addF_len (p.flatMap (nextW b)) [];rw[next_len]at m;have A:=pow6 o;have z:p.length<=1000:=by grind
     have H:p.length*3^b.count 46<=1000*729:=DB z A
     grind
    obtain⟨f,m⟩:=cv_for (a:=a) b y o V .none c k (n k (by rw[g];simp)).1 ((p.flatMap (nextW b)).foldl addL []) B;refine⟨_,m,.val (.tup (am k)),f,p++[k],rest,by rw[g];simp,rfl,?_⟩;rw[Eo,z5];simp)
  (ks.map λk=>.tup (am k)) [V,.none,↥b,.own (.dT (tkD (([].flatMap (nextW b)).foldl addL []))),d,c] ⟨d,c,[],ks,rfl,rfl,rfl⟩
 have C:rest=[]:=by simp_all
 subst C;rw[ix]at g;rw[<-g]at q;refine⟨h,f,?_⟩;have l:=tkD_ok (ks:=ks) λk u x v=>by have:=(n k u).2 x v;unfold bD;lia
 unfold sS;have w:kt [V,.own (.dT (tkD ks)),↥b,.own (.dT []),d,c] 1=aa (tkD ks):=rfl;rw[w];simp only[bS,R.bind_ok];rw[if_pos l,E];have D:ff 4 (cvF a) (ks.map λk=>.tup (am k)) ([V,.own (.dT (tkD ks)),↥b,.own (.dT []),d,c].set 1 .none)=.ok .next [V,.none,↥b,.own (.dT (tkD ((ks.flatMap (nextW b)).foldl addL []))),h,f]:=q;rw[D];rfl
def ways_shape(h:k∈waysF c):k.length=c.length/\k.Pairwise (λa b=>dD a b=ah)/\∀x∈k,∃b∈c,Fit x b:=by
 obtain⟨xs,rfl,f⟩:=waysF_mem.mp h;refine⟨by rw[(fk xs).length_eq];exact qP f,tI _,λx d=>?_⟩;have g:=(fk xs).mem_iff.mp d;clear d h
 induction f with
 |nil=>cases g
 |cons r _ i=>grind
def dots_app(ls b:List Tx):cy (ls++b)=cy ls+cy b:=by simp[cy]
def dots_mem(h:b∈c):b.count 46<=cy c:=by
 induction c with
 |nil=>cases h
 |cons x c d=>
  have e:cy (x::c)=x.count 46+cy c:=by simp[cy]
  grind
def cvO(a:Ad):ac aM:=aH (cX 3 zp) (aH (sS 4 1 (cvF a)) (v6 1 3))
def d_clearing_views_def:yar a=aH (cX 1 (v8 (dL eh (aE)) (dC (.bl ah)))) (aH (λε=>dH (bZ 2 (aU (d2 bd (dV 0) (dC (.int 1)))) (cvO a) ε)) (jV (bE [0] (aU (dF (vT 1))) (b7) (dL eh (ay (d2 bd (dV 1) (dC (.int 0))) (ay (dV 0) (aE))))))):=rfl
def clearing_eq(g:Good gY w d)(w4:w<=4)(J:cy d<=6):zu a [.val (aI w d)]=.ok (.own (.lst ((cZ (waysF d)).map λk=>prV (w,k)))) [.val (aI w d)]:=by
 have S:=g.few;have xR:=g.some;obtain⟨O,q,m,l,j,h,p,rest,n,P,rfl⟩:=lN (i:=2) (db:=cvO a)
  (I:=λr ε=>∃(m l j h:Slot) (p rest:List Tx),d=p++rest/\r=am rest/\ε=[.val (aI w d),.own (.dT (tkD (waysF p))),m,l,j,h])
  (by
   rintro x r ε ⟨m,l,j,h,p,rest,n,H,rfl⟩;cases rest with
   |nil=>cases H
   |cons b rest=>
    have L:x::r=.str b::am rest:=H;simp only[mZ]at L;obtain⟨rfl,rfl⟩:=L;have F:b∈d:=by rw[n];simp
    have W:=g.len b F;have C:b.count 46<=6:=c7 (dots_mem F) J;have z:cy p<=6:=by have:=dots_app p (b::rest);lia
    have Q:=waysF_len p;have:=pow6 z;have Vu:p.length<=9:=by grind
    obtain⟨G,M,o⟩:=cv_all (a:=a) b ∅ C (.val (aI w d)) j h (waysF p) (λk s=>⟨by rw[(ways_shape s).1];lia,λx u=>by obtain⟨c,f,A⟩:=(ways_shape s).2.2 x u;rw[A.len,g.len c (by rw[n];simp[f])];lia⟩) ∅;have e:stepW (waysF p) b=waysF (p++[b]):=by unfold waysF;grind
    rw[e]at o;refine⟨[.val (aI w d),.own (.dT (tkD (waysF (p++[b])))),↥b,.none,G,M],?_,↥b,.none,G,M,p++[b],rest,by rw[n];simp,rfl,rfl⟩;generalize tkD (waysF (p++[b]))=D2 at o;generalize tkD (waysF p)=D1 at o;refine(cf (ε1:=[.val (aI w d),.own (.dT D1),↥b,.own (.dT []),j,h]) (by simp![zp])).trans ?_;refine(cf o).trans ?_;simp[v6])
  (am d) [.val (aI w d),.own (.dT (tkD (waysF []))),.none,.none,.none,.none] ⟨.none,.none,.none,.none,[],d,rfl,rfl,rfl⟩
 have X:rest=[]:=by cases rest with|nil=>rfl|cons=>cases P
 subst X;rw[ix]at n;rw[<-n]at q;have v:bd (aI w d) (.int 1)=aa (.tup (am d)):=rfl;have y:bd (aI w d) (.int 0)=aa (.int w):=rfl;have N:dA (.tup (am d))=aa (am d):=rfl;have D:yz (tkD (waysF d))=aa (.lst ((cZ (waysF d)).map oR)):=by
  have Y:(waysF d).length<=1000000/\∀k∈waysF d,k≠[]/\∀x∈k,x.length<=bD:=by
   refine⟨?_,λk s=>⟨?_,λx u=>?_⟩⟩
   .have:=waysF_len d;have:=pow6 J;lia
   .rintro rfl;have:=(ways_shape s).1
    grind
   .obtain⟨c,f,A⟩:=(ways_shape s).2.2 x u;rw[A.len,g.len c f];unfold bD;lia
  unfold yz tkD;rw[Rw,gz,if_pos Y]
 have f:=g7 (cap:=[0]) (dt:=b7) (de:=(dL eh (ay (d2 bd (dV 1) (dC (.int 0))) (ay (dV 0) (aE))))) (ε:=[.val (aI w d),.own (.dT (tkD (waysF d))),m,l,j,h]) (λ_=>ah) (λx=>.tup [.int w,x]) ((cZ (waysF d)).map oR)
  (by intro x u;generalize aI w d=V at y;generalize ((w:Nat):Int)=WI at y;refine⟨by simp![bQ,bW,bq,b7],λ_=>?_⟩;simp![bQ,bW,bq,y]) []
 rw[eW,m8.mpr (by simp),cT]at f;have T:(cZ (waysF d)).map ((λx=>PV.tup [.int w,x]) ∘ oR)=(cZ (waysF d)).map λk=>prV (w,k):=rfl;rw[T]at f;have E:dA (.lst ((cZ (waysF d)).map oR))=aa ((cZ (waysF d)).map oR):=rfl;have o:(cX 1 (v8 (dL eh (aE)) (dC (.bl ah)))) [.val (aI w d),.none,.none,.none,.none,.none]=.ok .next [.val (aI w d),.own (.dT (tkD (waysF []))),.none,.none,.none,.none]:=by simp![v8,o9,pZ,waysF,tkD,fH]
 have Z:yar a [.val (aI w d),.none,.none,.none,.none,.none]=.ok (.ret (.own (.lst ((cZ (waysF d)).map λk=>prV (w,k))))) [.val (aI w d),.own (.dT (tkD (waysF d))),m,l,j,h]:=by
  rw[d_clearing_views_def];refine(cf o).trans ?_;generalize (cZ (waysF d)).map (λk=>prV (w,k))=RV at f;generalize (cZ (waysF d)).map oR=RT at f D E;generalize tkD (waysF d)=D2 at q f D;generalize tkD (waysF [])=D0 at q;generalize am d=B at q v N;generalize aI w d=V at q v f;refine(cf (ε1:=[.val V,.own (.dT D2),m,l,j,h]) ?_).trans ?_
  .simp![dH,bZ,aU,v,N,q]
  .simp![jV,bE,aU,vT,kt,D,E,f]
 simp[zu,bJ,gq,bI,dW,Z,back,gu,aS,R.bind]
end
end Sh
namespace Mx
open L2 Pu
def nU(z:Tx)(i:Nat):Nat:=z.getD (i % z.length) 0
def OB(z:Tx)(w:Nat):Tx:=((dW w z).flatten).take (z.length+w-1)
def len_sub{l m:List Tx}(a:l.Nodup)(h:∀x∈l,x∈m):l.length<=m.length:=by
 induction l generalizing m with
 |nil=>simp
 |cons x l b=>
  rw[kL]at a;have d:x∈m:=h x (by simp);have:=b (m:=m.erase x) a.2 λy c=>(List.mem_erase_of_ne (λz=>a.1 (by lia))).mpr (h y (by simp[c]))
  grind
end Mx
namespace Sh
open L2 Pu Mx
section
variable{a:Ad}
def FD(t:Tx)(v:Nat):List Tx:=(cJ (t.length+1-v)).map λi=>(t.drop i).take v
def sO(b c:Nat):List Nat:=List.range' b (c-b)
def part(t:Tx)(i j:Nat):Tx:=(t.drop i).take (j-i)
def nU(b:List Tx)(i:Nat):Tx:=b.getD i []
def Sn(t:Tx)(s e g l:Nat):Tx:=t.take s++part t g l++part t e g++part t s e++t.drop l
def SD(t:Tx)(b:List Tx)(s g e:Nat):List Tx:=(sO (g+1) b.length).flatMap λl=>if nU b e=nU b l then [Sn t s e g l] else []
def OO(t:Tx)(b:List Tx)(s g:Nat):List Tx:=(sO (s+1) (g+1)).flatMap λe=>SD t b s g e
def Gr(h:b[i]?=aa (.own c)):k8 i b=.ok (.ret (.own c)) (b.set i .none):=by unfold k8;rw[h]
def QQ(h:d ε=.ok xs c)(f:ff i db xs c=.ok .next b):bZ i d db ε=.ok .next b:=by unfold bZ;rw[h];exact f
def L_(t:Tx)(b:List Tx)(s:Nat):List Tx:=(sO (s+1) b.length).flatMap λg=>if nU b s=nU b g then OO t b s g else []
def Ra(t:Tx)(b:List Tx):List Tx:=(sO 0 b.length).flatMap λs=>L_ t b s
def A9(h:ε[i]?=aa (.val v)):dV i ε=.ok v ε:=by unfold dV;rw[h]
def Qv{d:Type}{c:ac Bool}{d1 d2:ac d}(h:c ε=.ok ah b):cO c d1 d2 ε=d1 b:=by unfold cO;rw[h];rfl
def QF{d:Type}{c:ac Bool}{d1 d2:ac d}(h:c ε=.ok ak b):cO c d1 d2 ε=d2 b:=by unfold cO;rw[h];rfl
def p_(h:d ε=.ok (.bl b) ε1):dB d ε=.ok b ε1:=by unfold dB;rw[h];rfl
def Lc(t:Tx)(m w:Nat):List Tx:=(sO 1 m).map λp=>OB ((t.take m).drop p++(t.take m).take p) w
def Pq(t:Tx)(b:List Tx)(w:Nat):List Tx:=if nU b 0=nU b (b.length-1)then Lc t (b.length-1) w else []
def Np(t:Tx)(w:Nat):List Tx:=Ra t (FD t (w-1))++Pq t (FD t (w-1)) w
def MN(t:Tx)(m:Nat):List Tx:=(sO 1 m).map λp=>part (dW 3 (t.take m)).flatten p (p+t.length)
def qj(t:Tx)(b:List Tx):List Tx:=if nU b 0=nU b (b.length-1)then MN t (b.length-1)else []
def BR(h:t d=.ok ah ε1)(f:c ε1=.ok .next b):jk t c (n+1) d=jk t c n b:=by rw[jk,h,R.bind_ok];simp only;rw[f]
def Iu(h:t b=.ok ak ε1):jk t c (n+1) b=.ok .next ε1:=by rw[jk,h,R.bind_ok]
end
end Sh
namespace Mx
open L2 Pu
def qI(a:1<=w):(bh z w).length=z.length+1-w:=by rw[qG z w a];simp
def Sx(t:Tx)(w:Nat):List Tx:=(dY t.length).filter λz=>(bh z w).isPerm (bh t w)
end Mx
namespace Sh
open L2 Pu Mx
abbrev gr(t:Tx)(v i:Nat):Tx:=(t.drop i).take v
def yB:(gr t (v+1) i).take v=gr t v i:=by
 grind
def Bz:(gr t (v+1) i).tail=gr t v (i+1):=by
 unfold gr;refine pC λk=>?_;rw[List.getElem?_tail,Km,Km,DY,DY];by_cases h:k<v
 .rw[if_pos ∅,if_pos h];congr 1;lia
 .rw[if_neg ∅,if_neg h]
def VF:x∈bh t (v+1)↔∃i,i+v<t.length/\x=gr t (v+1) i:=by
 rw[qG _ _ ∅,b8]
 grind
def Jc:∀(k:Nat) (t:Tx) (i:Nat),((List.range' i k).map λj=>if gr t v j=y then 1 else 0).sum+(if gr t v (i+k)=y then 1 else 0)=((List.range' i k).map λj=>if gr t v (j+1)=y then 1 else 0).sum+(if gr t v i=y then 1 else 0)
 |0,t,i=>by simp
 |k+1,t,i=>by have a:=Jc (v:=v) (y:=y) k t (i+1);rw[List.range'_succ,cR,cR,mV,mV,show i+(k+1)=i+1+k by lia];lia
end Sh
namespace Mx
open L2 Pu
def FX(w:Nat):∀(s r t:Tx),nw w t (s++r)=nw w t s++nw w (t++s) r
 |[],r,t=>by simp[nw]
 |c::s,r,t=>by rw[rq,nw,nw,FX w s r (t++[c]),rq,jN];rfl
end Mx
namespace Sh
open L2 Pu Mx
section
variable{v:Nat}
def oc(v:Nat)(M:List Tx)(y:Tx):Nat:=(M.map λx=>if x.take v=y then 1 else 0).sum
def ic(M:List Tx)(y:Tx):Nat:=(M.map λx=>if x.tail=y then 1 else 0).sum
def yN(M N:List Tx)(y:Tx):oc v (M++N) y=oc v M y+oc v N y:=by simp[oc]
def zl(M N:List Tx)(y:Tx):ic (M++N) y=ic M y+ic N y:=by simp[ic]
def uZ{M:List Tx}(h:M.Perm N)(y:Tx):oc v M y=oc v N y:=(h.map _).sum_nat
def u5{M:List Tx}(h:M.Perm N)(y:Tx):ic M y=ic N y:=(h.map _).sum_nat
def VD:0<oc v M y↔∃x∈M,x.take v=y:=by
 unfold oc
 induction M with
 |nil=>simp
 |cons a M b=>grind
def VZ:0<ic M y↔∃x∈M,x.tail=y:=by
 unfold ic
 induction M with
 |nil=>simp
 |cons a M b=>grind
abbrev en(v:Nat)(t:Tx):Tx:=t.drop (t.length-v)
abbrev b2(p:Prop)[Decidable p]:Nat:=if p then 1 else 0
def MQ:gr t v (t.length-v)=en v t:=by unfold gr en;exact pA (by simp;lia)
def vN{t:Tx}(h:v<=t.length)(y:Tx):oc v (bh t (v+1)) y+b2 (en v t=y)=ic (bh t (v+1)) y+b2 (t.take v=y):=by
 have:=Jc (v:=v) (y:=y) (t.length-v) t 0;rw[pD,MQ]at this;unfold oc ic b2;rw[qG _ _ ∅,cT,cT,show t.length+1-(v+1)=t.length-v by lia,List.range_eq_range'];have b:∀j,((λx:Tx=>if x.take v=y then 1 else 0) ∘ λi=>(t.drop i).take (v+1)) j=if gr t v j=y then 1 else 0:=λj=>by
  grind
 have a:∀j,((λx:Tx=>if x.tail=y then 1 else 0) ∘ λi=>(t.drop i).take (v+1)) j=if gr t v (j+1)=y then 1 else 0:=λj=>by show(if(gr t (v+1) j).tail=_ then 1 else 0)=_;rw[Bz]
 rw[lY λj _=>b j,lY λj _=>a j];simpa[gr]using this
def E2{t:Tx}(h:v<=t.length)(c:Nat):bh (t++[c]) (v+1)=bh t (v+1)++[en v t++[c]]:=by rw[Iq ∅,if_pos ∅];congr 2;rw[show t.length+1-(v+1)=t.length-v by lia,Vg ∅];exact pA (by simp;lia)
def AC(h:∀x∈M,x.length=v+1):∀(n:Nat) (t:Tx) (R:List Tx),R.length=n->v<=t.length->(bh t (v+1)++R).Perm M -> ∃a d,a.take v=t.take v/\v<=a.length/\(bh a (v+1)++d).Perm M/\∀x∈d,x.take v≠en v a
 |0,t,R,hn,ht,hp=>⟨t,R,rfl,ht,hp,λx b=>by grind⟩
 |n+1,t,R,hn,ht,hp=>by
  by_cases q:∃x∈R,x.take v=en v t
  .obtain⟨x,b,e⟩:=q;have i:x.length=v+1:=h x (hp.mem_iff.mp (kJ _ b));have f:x=en v t++[x.getLastD 0]:=by
    have g:x=x.take v++x.drop v:=(l8 v x).symm;have m:∃c,x.drop v=[c]:=List.length_eq_one_iff.mp (by grind);obtain⟨c,j⟩:=m;rw[j]at g;have l:x.getLastD 0=c:=by rw[g];simp
    rw[l,<-e];exact g
   have o:(bh (t++[x.getLastD 0]) (v+1)++R.erase x).Perm M:=by rw[E2 ht,<-f,jN];exact(z9 _ (List.perm_cons_erase b).symm).trans hp
   obtain⟨a,d,u,s,r,p⟩:=AC h n (t++[x.getLastD 0]) (R.erase x) (by grind) (by simp;lia) o;exact⟨a,d,by rw[u,List.take_append_of_le_length ht],s,r,p⟩
  .exact⟨t,R,rfl,ht,hp,λx b e=>q ⟨x,b,e⟩⟩
def Um(i:∀x∈M,x.length=v+1)(c:∀y,oc v M y=ic M y){p:Tx}(s:p.length=v):∃t R,t.take v=p/\v<=t.length/\(bh t (v+1)++R).Perm M/\en v t=p/\(∀x∈R,x.take v≠p)/\∀y,oc v R y=ic R y:=by
 have m:bh p (v+1)=[]:=Aj.mp (by rw[qI ∅];lia);obtain⟨t,R,f,d,a,g⟩:=AC i M.length p M rfl ∅ (by rw[m];exact .refl _);rw[show p.take v=p from pA ∅]at f;have u:oc v R (en v t)=0:=by
  rcases KH (oc v R (en v t))with q|q
  .exact q
  .obtain⟨x,l,j⟩:=VD.mp q;exact absurd j (g x l)
 have b:=vN d (en v t);have r:=uZ (v:=v) a (en v t);have o:=u5 a (en v t);have w:=c (en v t);rw[yN]at r;rw[zl]at o;rw[f]at b;unfold b2 at b;rw[if_pos rfl]at b;have h:p=en v t:=by lia
 refine⟨t,R,f,d,a,h.symm,by rw[h];exact g,λy=>?_⟩;have d1:=vN d y;have d2:=uZ (v:=v) a y;have n:=u5 a y;rw[yN]at d2;rw[zl]at n
 grind
def Qy{t c:Tx}(E:i+v<=t.length)(F:v<=c.length)(C:c.take v=gr t v i)(B:en v c=gr t v i):∃g,g.take v=t.take v/\v<=g.length/\en v g=en v t/\(bh g (v+1)).Perm (bh t (v+1)++bh c (v+1)):=by
 let T1:=t.take (i+v)
 let T2:=t.drop (i+v)
 have A:t=T1++T2:=(l8 _ _).symm;have w:T1.length=i+v:=by simp[T1];lia
 have l:T1=t.take i++gr t v i:=by show t.take (i+v)=_;rw[List.take_add]
 have d:(gr t v i).length=v:=by grind
 let s:=c.drop v
 have m:c=gr t v i++s:=by rw[<-C];exact(l8 _ _).symm
 have o:∀(a b:Tx),(a++gr t v i).length=a.length+v->bh (a++gr t v i++b) (v+1)=bh (a++gr t v i) (v+1)++nw (v+1) (gr t v i) b:=by
  intro a b _;have j:∀(n:Nat) (b:Tx),b.length=n->bh (a++gr t v i++b) (v+1)=bh (a++gr t v i) (v+1)++nw (v+1) (gr t v i) b:=by
   intro n
   induction n with
   |zero=>intro b h;rw[Aj.mp h];simp[nw]
   |succ n z=>
    intro b h;obtain⟨f,x,rfl⟩:∃f x,b=f++[x]:=⟨b.dropLast,b.getLast (by grind),(List.dropLast_concat_getLast _).symm⟩
    rw[<-jN,E2 (by simp[d];lia),z f (by simp at h;lia),FX,jN];congr 2;simp only[nw];congr 2;have e:(a++gr t v i++f).length-v=a.length+((gr t v i++f).length+1-(v+1)):=by simp[d];lia
    unfold en;rw[e,jN,List.drop_append];simp
  exact j b.length b rfl
 have u:bh t (v+1)=bh T1 (v+1)++nw (v+1) (gr t v i) T2:=by have:=o (t.take i) T2 (by simp[d]);rw[<-l]at this;rw[<-this,<-A]
 have r:bh (T1++s) (v+1)=bh T1 (v+1)++nw (v+1) (gr t v i) s:=by have:=o (t.take i) s (by simp[d]);rw[<-l]at this;exact this
 have q:bh c (v+1)=nw (v+1) (gr t v i) s:=by
  conv=>lhs;rw[m]
  exact AW ∅ (by rw[d];lia)
 have D:T1++s=t.take i++c.take (c.length-v)++gr t v i:=by rw[l,jN,<-m,jN,<-B];congr 1;exact(l8 _ _).symm
 have p:bh (T1++s++T2) (v+1)=bh (T1++s) (v+1)++nw (v+1) (gr t v i) T2:=by
  grind
 refine⟨T1++s++T2,?_,by simp[w];lia,?_,?_⟩
 .grind
 .have y:∀a:Tx,en v (a++(gr t v i++T2))=en v (gr t v i++T2):=λa=>by
   unfold en;rw[List.drop_append,KC (by simp[d];lia),eW];congr 1;simp[d];lia
  grind
 .rw[p,r,u,q,jN,jN];exact z9 _ List.perm_append_comm
def qe(v:Nat)(M:List Tx):Prop:=∀V:Tx->Prop,(∃x∈M,V (x.take v))->(∀x∈M,V (x.take v)\/V x.tail->V (x.take v)/\V x.tail)->∀x∈M,V (x.take v)
def Re(I:∀x∈M,x.length=v+1)(r:qe v M):∀(n:Nat) (t:Tx) (R:List Tx),R.length<=n->v<t.length->(bh t (v+1)++R).Perm M->(∀y,oc v R y=ic R y)->∃d,d.take v=t.take v/\v<d.length/\(bh d (v+1)).Perm M:=by
 intro n
 induction n with
 |zero=>grind
 |succ n D=>
  intro t R W F f g;by_cases s:R=[]
  .rw[s,ix]at f;exact⟨t,rfl,F,f⟩
  .obtain⟨w,l⟩:=List.exists_mem_of_ne_nil R s;have b:∃i,i+v<=t.length/\∃x∈R,x.take v=gr t v i\/x.tail=gr t v i:=by
    refine KI λno=>?_;have C:∀i,i+v<=t.length->∀x∈R,¬(x.take v=gr t v i\/x.tail=gr t v i):=λi m x a q=>no ⟨i,m,x,a,q⟩;have:=r (λy=>∃i,i+v<=t.length/\gr t v i=y)
     ⟨gr t (v+1) 0,f.mem_iff.mp (zP _ (VF.mpr ⟨0,∅,rfl⟩)),0,∅,by rw[yB]⟩
     (λx a q=>by
      rcases lj.mp (f.mem_iff.mpr a)with a|a
      .obtain⟨j,X,rfl⟩:=VF.mp a;exact⟨⟨j,∅,by rw[yB]⟩,⟨j+1,∅,by rw[Bz]⟩⟩
      grind)
     w (f.mem_iff.mp (kJ _ l))
    grind
   obtain⟨i,m,x,a,G⟩:=b;have B:0<oc v R (gr t v i):=by
    rcases G with q|q
    .exact VD.mpr ⟨x,a,q⟩
    .rw[g];exact VZ.mpr ⟨x,a,q⟩
   have o:∀x∈R,x.length=v+1:=λx a=>I x (f.mem_iff.mp (kJ _ a));obtain⟨c,R2,S,Q,h,P,O,N⟩:=Um o g (p:=gr t v i) (by grind);have Z:R2.length<R.length:=by
    have H:=h.length_eq;rw[iT]at H;rcases KH (bh c (v+1)).length with z|z
    .rw[Aj.mp z,eW]at h;obtain⟨y,E,e⟩:=VD.mp B;exact absurd e (O y (h.mem_iff.mpr E))
    .lia
   obtain⟨d,d1,d2,Y,u⟩:=Qy m Q S P;have L:(bh d (v+1)++R2).Perm M:=by refine(u.append_right R2).trans ?_;rw[jN];exact(h.append_left _).trans f
   have T:v<d.length:=by have:=u.length_eq;rw[iT,qI ∅,qI ∅]at this;lia
   obtain⟨A,J,f2,f3⟩:=D d R2 ∅ T L N;exact⟨A,by rw[J,d1],f2,f3⟩
def Fg(h:∀x∈M,x.length=v+1)(c:qe v M)(o:∃x∈M,x.take v=s0)(b:∀y,oc v M y+b2 (e=y)=ic M y+b2 (s0=y)):∃t,t.take v=s0/\v<t.length/\(bh t (v+1)).Perm M:=by
 obtain⟨E,m,G⟩:=o;have F:s0.length=v:=by grind
 have i:bh s0 (v+1)=[]:=Aj.mp (by rw[qI ∅];lia);obtain⟨t,R,g,j,a,C⟩:=AC h M.length s0 M rfl ∅ (by rw[i];exact .refl _);rw[show s0.take v=s0 from pA ∅]at g;have D:oc v R (en v t)=0:=by
  rcases KH (oc v R (en v t))with q|q
  .exact q
  .obtain⟨x,r,p⟩:=VD.mp q;exact absurd p (C x r)
 have d:=vN j (en v t);have A:=uZ (v:=v) a (en v t);have z:=u5 a (en v t);have w:=b (en v t);rw[yN]at A;rw[zl]at z;rw[g]at d;unfold b2 at d w;rw[if_pos rfl]at d;have I:e=en v t:=by lia
 have f:∀y,oc v R y=ic R y:=λy=>by have d1:=vN j y;have d2:=uZ (v:=v) a y;have u:=u5 a y;have H:=b y;rw[yN]at d2;rw[zl]at u;lia
 have B:v<t.length:=by
  rcases Nat.lt_or_ge v t.length with q|q
  .exact q
  .have n:t=s0:=by grind
   subst n;rw[i,eW]at a;have:en v t=t:=by unfold en;simp_all
   grind
 obtain⟨l,s,f2,f3⟩:=Re h c R.length t R (bi _) B a f;exact⟨l,by rw[s,g],f2,f3⟩
def To(a:(bh t (v+1)).Perm M):qe v M:=by
 intro V ⟨x,d,b⟩ l z c;obtain⟨i,h,rfl⟩:=VF.mp (a.mem_iff.mpr d);obtain⟨j,g,rfl⟩:=VF.mp (a.mem_iff.mpr c);rw[yB]at b ⊢;have step:∀k,k+v<t.length->(V (gr t v k)↔V (gr t v (k+1))):=λk f=>by have:=l (gr t (v+1) k) (a.mem_iff.mp (VF.mpr ⟨k,f,rfl⟩));rw[yB,Bz]at this;lia
 have all:∀k,k+v<t.length->(V (gr t v 0)↔V (gr t v k)):=λk=>by
  induction k with
  |zero=>intro _;exact kN
  |succ k m=>grind
 exact(all j g).mp ((all i h).mpr b)
end
inductive WN(w:Nat):Nat->Tx->Tx->Prop
 |here (n:Nat) (t:Tx):WN w n t t
 |on {n:Nat}{t u z:Tx}:WN w n t u->z∈Np u w->WN w (n+1) t z
def Full(w:Nat)(t:Tx)(k:Nat):Prop:=∀z∈Sx t w,WN w k t z
def Co{i:Nat}{db:ac aM}{c g:Type}(b:c->g->aj)(f:c->Tx->c)(P:c->Prop):∀(xs:List Tx) (a:c) (s:g),P a -> (∀x∈xs,∀a s,P a->P (f a x)/\∃d,db ((b a s).set i (↥x))=.ok .next (b (f a x) d))->∃d,ff i db (am xs) (b a s)=.ok .next (b (xs.foldl f a) d)/\P (xs.foldl f a)
 |[],a,s,h,_=>⟨s,rfl,h⟩
 |x::xs,a,s,h,step=>by obtain⟨o,l,q⟩:=step x (by simp) a s h;obtain⟨j,p,n⟩:=Co b f P xs (f a x) l o λy m=>step y (by simp[m]);refine⟨j,?_,n⟩;show ff i db (.str x::am xs) _=_;rw[ff,q];exact p
abbrev ks(m:List (Tx×Int)):List Tx:=m.map (·.1)
def P7(m:List (Tx×Int))(z:Tx):(m.any λp=>decide (p.1=z))=decide (z∈ks m):=by
 grind
def tG(m:List (Tx×Int))(z:Tx):(cH m z).isSome=decide (z∈ks m):=by
 rw[<-P7];cases h:m.any λp=>decide (p.1=z)with
 |false=>rw[Fm h];rfl
 |true=>obtain⟨n,e⟩:=Jn h;rw[e];rfl
def QP(m:List (Tx×Int)):(dk m).length=m.length:=by simp[dk]
def FA(j:de c=.ok (.int n) b)(l:db b=.ok (.str z) a)(d:∃x,eD b i=aa x)(g:eD a i=aa (dk m))(h:m.length<bD):jU i db de c=.ok .next (a.set i (.own (.dK (dk (kw m z n))))):=by unfold jU;obtain⟨x,f⟩:=d;rw[j,R.bind_ok,f];simp only[bS,R.bind_ok];rw[l,R.bind_ok,g];simp only[bS,R.bind_ok];show(aS (aa (Sum.inr (tS z))) a).bind _=_;simp only[bS,R.bind_ok];rw[QP,if_pos h,Nb]
def HF(a:∃x,eD ε i=aa x)(f:db ε=.ok (.str z) ε1)(c:eD ε1 i=aa (dk m))(d:cH m z=aa n):lc i db ε=.ok (.int n) ε1:=by unfold lc;obtain⟨x,b⟩:=a;rw[b];simp only[bS,R.bind_ok];rw[f,R.bind_ok,c];simp only[bS,R.bind_ok];show aS (jz (dk m) (.inr (tS z))) ε1=_;rw[Fp,d];rfl
def cU(ks:List Tx):List (aK×PV):=ks.map λx=>(Sum.inr (tS x),PV.bl ah)
def fL(ks:List Tx)(x:Tx):List Tx:=if x∈ks then ks else ks++[x]
def VT{ks:List Tx}{x z:Tx}:z∈fL ks x↔z∈ks\/z=x:=by
 unfold fL
 grind
def Ga{ks:List Tx}(h:ks.Nodup):(fL ks x).Nodup:=by
 unfold fL
 grind
def zd{ks:List Tx}:ks.length<=(fL ks x).length/\(x∉ks->ks.length<(fL ks x).length):=by
 unfold fL;by_cases c:x∈ks
 .rw[if_pos c];exact⟨bi _,λq=>absurd c q⟩
 .rw[if_neg c];simp
def Gc(ks:List Tx)(x:Tx):((cU ks).any λa=>decide (a.1=(Sum.inr (tS x):aK)))=decide (x∈ks):=by
 unfold cU;rw[Ep,nZ,KG,decide_eq_true_eq];constructor
 .rintro⟨z,c,b⟩;have:=of_decide_eq_true b;rw[<-sN (Sum.inr.inj this)];exact c
 lia
def Te(ks:List Tx)(x:Tx):oO (cU ks) (Sum.inr (tS x)) (.bl ah)=cU (fL ks x):=by
 unfold oO fL;rw[Gc];by_cases c:x∈ks
 .rw[decide_eq_true c,if_pos rfl,if_pos c];unfold cU;simp_all
 .rw[decide_eq_false c,if_neg (by simp),if_neg c];unfold cU;simp
def Pz(ks:List Tx)(x:Tx):(jz (cU ks) (Sum.inr (tS x))).isSome=decide (x∈ks):=by rw[<-Gc];unfold jz;rw[JY,List.isSome_find?]
def yw(ks:List Tx):(cU ks).length=ks.length:=by simp[cU]
def BD{neg:Bool}{i:Nat}{db:ac PV}{z:Tx}{ks:List Tx}(b:db ε=.ok (.str z) ε1)(a:eD ε1 i=aa (cU ks)):jA neg i db ε=.ok (.bl (neg^^decide (z∈ks))) ε1:=by unfold jA;rw[b,R.bind_ok,a];simp only[bS,R.bind_ok];show aS (aa (PV.bl (neg^^(jz (cU ks) (.inr (tS z))).isSome))) ε1=_;rw[Pz];rfl
def E9{i:Nat}{db de:ac PV}{z:Tx}{ks:List Tx}(h:de ε=.ok (.bl ah) b)(j:db b=.ok (.str z) a)(c:∃x,eD b i=aa x)(f:eD a i=aa (cU ks))(g:ks.length<bD):jU i db de ε=.ok .next (a.set i (.own (.dK (cU (fL ks z))))):=by unfold jU;obtain⟨x,d⟩:=c;rw[h,R.bind_ok,d];simp only[bS,R.bind_ok];rw[j,R.bind_ok,f];simp only[bS,R.bind_ok];show(aS (aa (Sum.inr (tS z))) a).bind _=_;simp only[bS,R.bind_ok];rw[yw,if_pos g,Te]
def rS(ks:List Tx)(x:Tx):List Tx:=if x.dropLast∈ks\/x.tail∈ks then fL (fL ks x.dropLast) x.tail else ks
def Pk{ks:List Tx}{x z:Tx}(h:z∈ks):z∈rS ks x:=by
 unfold rS;split
 .exact VT.mpr (.inl (VT.mpr (.inl h)))
 .exact h
def Hy:∀(a:List Tx) {ks:List Tx}{z:Tx},z∈ks->z∈a.foldl rS ks
 |[],_,_,h=>h
 |x::a,_,_,h=>Hy a (Pk h)
def EV{ks:List Tx}(h:ks.Nodup):(rS ks x).Nodup:=by
 unfold rS;split
 .exact Ga (Ga h)
 .exact h
def EO:∀(a:List Tx) {ks:List Tx},ks.Nodup->(a.foldl rS ks).Nodup
 |[],_,h=>h
 |x::a,_,h=>EO a (EV h)
def BX(ks:List Tx)(x:Tx):ks.length<=(rS ks x).length:=by
 unfold rS;split
 .exact c7 zd.1 zd.1
 lia
def u6:∀(a ks:List Tx),ks.length<=(a.foldl rS ks).length
 |[],ks=>bi _
 |x::a,ks=>c7 (BX ks x) (u6 a (rS ks x))
def zr:∀(a ks:List Tx),(a.foldl rS ks).length=ks.length->∀x∈a,x.dropLast∈ks\/x.tail∈ks->x.dropLast∈ks/\x.tail∈ks
 |[],_,_,x,b=>by simp at b
 |y::a,ks,h,x,b=>by
  rw[iU]at h;have n:=BX ks y;have m:=u6 a (rS ks y);have d:(rS ks y).length=ks.length:=∅
  have same:rS ks y=ks/\(y.dropLast∈ks\/y.tail∈ks->y.dropLast∈ks/\y.tail∈ks):=by
   unfold rS at d ⊢;by_cases c:y.dropLast∈ks\/y.tail∈ks
   .rw[if_pos c]at d ⊢;have l:=zd (ks:=ks) (x:=y.dropLast);have j:=zd (ks:=fL ks y.dropLast) (x:=y.tail);have g:y.dropLast∈ks:=KI λq=>by lia
    have i:fL ks y.dropLast=ks:=by unfold fL;rw[if_pos g]
    rw[i]at j d ⊢;have f:y.tail∈ks:=KI λq=>by lia
    exact⟨by unfold fL;rw[if_pos f],λ_=>⟨g,f⟩⟩
   lia
  rcases cC.mp b with rfl|b
  .exact same.2
  .rw[same.1]at h;exact zr a ks h x b
def Ft{V:Tx->Prop}:∀(b ks:List Tx),(∀x∈b,V x.dropLast\/V x.tail->V x.dropLast/\V x.tail)->(∀z∈ks,V z)->∀z∈b.foldl rS ks,V z
 |[],_,_,h,z,d=>h z d
 |x::b,ks,g,h,z,d=>by
  refine Ft b (rS ks x) (λy a=>g y (by simp[a])) (λy a=>?_) z d;unfold rS at a;split at a
  .rename_i c;have f:=g x (by simp) (c.imp (h _) (h _));rcases VT.mp a with a|rfl
   .rcases VT.mp a with a|rfl
    .exact h y a
    .exact f.1
   .exact f.2
  .exact h y a
def AI:∀(a ks:List Tx),(a.foldl rS ks).length=ks.length->a.foldl rS ks=ks
 |[],_,_=>rfl
 |y::a,ks,h=>by
  rw[iU]at h ⊢;have l:=BX ks y;have j:=u6 a (rS ks y);have e:rS ks y=ks:=by
   have i:(rS ks y).length=ks.length:=∅
   have b:=zr [y] ks i y (by simp);unfold rS;by_cases c:y.dropLast∈ks\/y.tail∈ks
   .obtain⟨g,f⟩:=b c;have d:fL ks y.dropLast=ks:=by unfold fL;rw[if_pos g]
    rw[if_pos c,d];unfold fL;rw[if_pos f]
   .rw[if_neg c]
  rw[e]at h ⊢;exact AI a ks h
def fz(a:List Tx):List Tx:=a.map Ak++a.map List.tail
def JA{b ks:List Tx}(h:∀z∈ks,z∈fz b){x:Tx}(c:x∈b):∀z∈rS ks x,z∈fz b:=λz a=>by
 unfold rS at a;split at a
 .rcases VT.mp a with a|rfl
  .rcases VT.mp a with a|rfl
   .exact h z a
   .exact zP _ (b8.mpr ⟨x,c,rfl⟩)
  .exact kJ _ (b8.mpr ⟨x,c,rfl⟩)
 .exact h z a
structure Rch(ls ks:List Tx):Prop where
 nd:ks.Nodup
 sub:∀z∈ks,z∈fz ls
 start:∀x r,ls=x::r->x.dropLast∈ks
 least:∀V:Tx->Prop,(∀x∈ls,V x.dropLast\/V x.tail->V x.dropLast/\V x.tail)->(∀x r,ls=x::r->V x.dropLast)->∀z∈ks,V z
def Rch.few{ls ks:List Tx}(h:Rch ls ks):ks.length<=2*ls.length:=by
 have:=len_sub h.nd h.sub;unfold fz at this
 grind
def Rch.next{ls ks:List Tx}(h:Rch ls ks):Rch ls (ls.foldl rS ks):=by
 refine⟨EO ls h.nd,?_,λx r e=>Hy ls (h.start x r e),λV c g=>Ft ls ks c (h.least V c g)⟩;have a:∀(l:List Tx) (ks:List Tx),(∀x∈l,x∈ls)->(∀z∈ks,z∈fz ls)->∀z∈l.foldl rS ks,z∈fz ls:=by
  intro l
  induction l with
  |nil=>exact λks _ h=>h
  |cons x l d=>exact λks b h=>d (rS ks x) (λy f=>b y (by simp[f])) (JA h (b x (by simp)))
 exact a ls ks (λ_ h=>h) h.sub
section
def zD(x:Tx):fu (.str x) ae (aa (-1))=aa (.str x.dropLast):=by show aa (PV.str (io x ae (aa (-1))))=_;rw[Qz]
def Fd(x:Tx):fu (.str x) (aa 1) ae=aa (.str x.tail):=by show aa (PV.str (io x (aa ((1:Nat):Int)) ae))=_;rw[Qs,List.drop_one]
def vI:ac PV:=eI fu (dV 3) (fo) (ef (d1 im (dC (.int 1))))
def vf:ac PV:=eI fu (dV 3) (ef (dC (.int 1))) (fo)
def rI:ac aM:=cO (mn (dB (jA ak 1 vI)) (dB (jA ak 1 vf))) (aH (jU 1 vI (dC (.bl ah))) (jU 1 vf (dC (.bl ah)))) (f9)
def rC:ac Bool:=dB (d2 (dX λi j=>decide (i<j)) (dV 2) (nN 1))
def rB:ac aM:=aH (bw 2 (nN 1)) (bZ 3 (aU (dV 0)) rI)
def TD:yaR a=aH (cX 1 (u_ (eI fu (d2 bd (dV 0) (dC (.int 0))) (fo) (ef (d1 im (dC (.int 1))))) (dC (.bl ah)))) (aH (bw 2 (dC (.int 0))) (aH (λb=>dH (jk rC rB 1000 b)) (k8 1))):=rfl
def dR(W:PV)(ks:List Tx)(n:Nat)(b:Slot):aj:=[.val W,.own (.dK (cU ks)),⇑n,b]
def IG(W:PV)(ks:List Tx)(n:Nat)(x:Tx):vI (dR W ks n (↥x))=.ok (.str x.dropLast) (dR W ks n (↥x)):=by have h:=zD x;have b:im (.int 1)=aa (.int (-1)):=rfl;simp[vI,dR,eI,fo,ef,dV,d1,dC,R.bind,aS,b,ji,h]
def G7(W:PV)(ks:List Tx)(n:Nat)(x:Tx):vf (dR W ks n (↥x))=.ok (.str x.tail) (dR W ks n (↥x)):=by have h:=Fd x;simp[vf,dR,eI,fo,ef,dV,dC,R.bind,aS,ji,h]
def JD(W:PV)(d:List Tx)(u:d.length<=100)(q:dA W=aa (am d))(ks:List Tx)(h:Rch d ks)(n:Nat)(f:Slot):∃j,bZ 3 (aU (dV 0)) rI (dR W ks n f)=.ok .next (dR W (d.foldl rS ks) n j):=by
 obtain⟨j,e,_⟩:=Co (i:=3) (db:=rI) (λks f=>dR W ks n f) rS (λks=>ks.Nodup/\∀z∈ks,z∈fz d) d ks f ⟨h.nd,h.sub⟩
  (by
   rintro x p ks f ⟨g,l⟩;refine⟨⟨EV g,JA l p⟩,↥x,?_⟩;have r:ks.length<=200:=by
    have:=len_sub g l;unfold fz at this
    grind
   have m:=p_ (BD (neg:=ak) (i:=1) (IG W ks n x) rfl);have o:=p_ (BD (neg:=ak) (i:=1) (G7 W ks n x) rfl);rw[wY]at m o;have b:mn (dB (jA ak 1 vI)) (dB (jA ak 1 vf)) (dR W ks n (↥x))=.ok (decide (x.dropLast∈ks\/x.tail∈ks)) (dR W ks n (↥x)):=by unfold mn;rw[m,R.bind_ok];lia
   show rI (dR W ks n (↥x))=_;unfold rI rS;by_cases c:x.dropLast∈ks\/x.tail∈ks
   .rw[decide_eq_true c]at b;rw[if_pos c];refine(Qv b).trans ?_;have g:=E9 (i:=1) (de:=dC (.bl ah)) (ε:=dR W ks n (↥x)) rfl (IG W ks n x) ⟨_,rfl⟩ rfl (by unfold bD;lia);refine(cf g).trans ?_;have s:(fL ks x.dropLast).length<=ks.length+1:=by unfold fL;split <;> simp
    exact E9 (i:=1) (de:=dC (.bl ah)) (ε:=dR W (fL ks x.dropLast) n (↥x)) rfl (G7 W (fL ks x.dropLast) n x) ⟨_,rfl⟩ rfl (by unfold bD;lia)
   .rw[decide_eq_false c]at b;rw[if_neg c];exact(QF b).trans rfl)
 refine⟨j,QQ ?_ e⟩;unfold aU;rw[A9 (v:=W) rfl,R.bind_ok,q];rfl
def yg(W:PV)(ks:List Tx)(n:Nat)(b:Slot):rC (dR W ks n b)=.ok (decide (n<ks.length)) (dR W ks n b):=by
 have d:nN 1 (dR W ks n b)=.ok (.int (ks.length:Nat)) (dR W ks n b):=by show R.ok (PV.int ((cU ks).length:Nat)) _=_;rw[yw]
 have c:decide ((n:Int)<(ks.length:Nat))=decide (n<ks.length):=by lia
 refine p_ (yU (x:=.int n) (A9 rfl) d ?_);show aa (PV.bl (decide ((n:Int)<(ks.length:Nat))))=_;rw[c]
def RN(W:PV)(b:List Tx)(v:b.length<=100)(w:dA W=aa (am b)):∀(j:Nat) (ks:List Tx) (n l:Nat) (g:Slot),2*b.length<=ks.length+j->j+2<=l->n<ks.length->Rch b ks -> ∃d r i,Rch b d/\(∀x∈b,x.dropLast∈d\/x.tail∈d->x.dropLast∈d/\x.tail∈d)/\jk rC rB l (dR W ks n g)=.ok .next (dR W d r i):=by
 intro j
 induction j with
 |zero=>
  intro ks n l g G F s h;obtain⟨f,rfl⟩:∃f,l=f+1+1:=⟨l-2,∅⟩
  obtain⟨i,e⟩:=JD W b v w ks h ks.length g;have I:=h.few;have H:=h.next.few;have D:=u6 b ks;have p:=AI b ks ∅;have u:=zr b ks (by rw[p]);rw[p]at e;have c:=yg W ks n g;rw[decide_eq_true s]at c;have m:rB (dR W ks n g)=.ok .next (dR W ks ks.length i):=by
   unfold rB;have k:bw 2 (nN 1) (dR W ks n g)=.ok .next (dR W ks ks.length g):=by refine tK (x:=.int (ks.length:Nat)) (ε1:=dR W ks n g) ?_;show R.ok (PV.int ((cU ks).length:Nat)) _=_;rw[yw]
   exact(cf k).trans e
  have o:=yg W ks ks.length i;rw[decide_eq_false (jq _)]at o;exact⟨ks,ks.length,i,h,u,(BR c m).trans (Iu o)⟩
 |succ j E=>
  intro ks n l g G F s h;obtain⟨f,rfl⟩:∃f,l=f+1:=⟨l-1,∅⟩
  obtain⟨i,e⟩:=JD W b v w ks h ks.length g;have D:=u6 b ks;have c:=yg W ks n g;rw[decide_eq_true s]at c;have m:rB (dR W ks n g)=.ok .next (dR W (b.foldl rS ks) ks.length i):=by
   unfold rB;have k:bw 2 (nN 1) (dR W ks n g)=.ok .next (dR W ks ks.length g):=by refine tK (x:=.int (ks.length:Nat)) (ε1:=dR W ks n g) ?_;show R.ok (PV.int ((cU ks).length:Nat)) _=_;rw[yw]
   exact(cf k).trans e
  by_cases q:(b.foldl rS ks).length=ks.length
  .have p:=AI b ks q;have u:=zr b ks q;rw[p]at m;obtain⟨y,rfl⟩:∃y,f=y+1:=⟨f-1,∅⟩
   have o:=yg W ks ks.length i;rw[decide_eq_false (jq _)]at o;exact⟨ks,ks.length,i,h,u,(BR c m).trans (Iu o)⟩
  .obtain⟨d,r,z,C,B,A⟩:=E (b.foldl rS ks) ks.length f i ∅ ∅ ∅ h.next;exact⟨d,r,z,C,B,(BR c m).trans A⟩
def T3(W:PV)(x:Tx)(r:List Tx)(v:r.length<=50)(p:dA W=aa (am (x::r)))(d:bd W (.int 0)=aa (.str x)):∃ks,Rch (x::r) ks/\(∀y∈x::r,y.dropLast∈ks\/y.tail∈ks->y.dropLast∈ks/\y.tail∈ks)/\o6 a [.val W]=.ok (.own (.dK (cU ks))) [.val W]:=by
 have s:Rch (x::r) [x.dropLast]:=⟨by simp,λz b=>by simp at b;rw[b];simp[fz],λy q e=>by cases e;simp,λV _ u z b=>by grind⟩
 obtain⟨ks,n,g,i,h,m⟩:=RN W (x::r) (by simp;lia) p (2*(x::r).length) [x.dropLast] 0 1000 .none ∅ (by simp;lia) (by simp) s;refine⟨ks,i,h,?_⟩;have f:=zD x;have o:im (.int 1)=aa (.int (-1)):=rfl;have l:cX 1 (u_ (eI fu (d2 bd (dV 0) (dC (.int 0))) (fo) (ef (d1 im (dC (.int 1))))) (dC (.bl ah))) [.val W,.none,.none,.none]=.ok .next [.val W,.own (.dK (cU [x.dropLast])),.none,.none]:=by simp[cX,u_,eI,fo,ef,d2,d1,dV,dC,R.bind,aS,d,o,ji,f,jC,cU]
 have j:bw 2 (dC (.int 0)) [.val W,.own (.dK (cU [x.dropLast])),.none,.none]=.ok .next (dR W [x.dropLast] 0 .none):=rfl;have c:yaR a [.val W,.none,.none,.none]=.ok (.ret (.own (.dK (cU ks)))) [.val W,.none,⇑n,g]:=by rw[TD];refine(cf l).trans ?_;refine(cf j).trans ?_;refine(cf (d1:=λε=>dH (jk rC rB 1000 ε)) (by show dH _=_;rw[m];rfl)).trans ?_;exact Gr rfl
 unfold o6;generalize yaR a=D at c;generalize cU ks=A at c;simp[bJ,gq,bI,dW,c,back,aS,R.bind,gu]
def Rz{v:Nat}{x:Tx}{r ks:List Tx}(l:∀y∈x::r,y.length=v+1)(h:Rch (x::r) ks)(m:∀y∈x::r,y.dropLast∈ks\/y.tail∈ks->y.dropLast∈ks/\y.tail∈ks):(∀y∈x::r,y.dropLast∈ks)↔qe v (x::r):=by
 have d:∀y∈x::r,y.take v=y.dropLast:=λy b=>by rw[KF,l y b];rfl
 constructor
 .intro i V ⟨y,b,j⟩ o z g;have n:∀y∈x::r,V y.dropLast\/V y.tail->V y.dropLast/\V y.tail:=λy b q=>by
   grind
  rw[d y b]at j;rw[d z g];by_cases c:V x.dropLast
  .exact h.least V n (λ_ _ e=>by cases e;exact c) _ (i z g)
  .have:=h.least (λq=>¬V q) (λy b q=>by
     grind) (λ_ _ e=>by cases e;exact c) _ (i y b)
   lia
 .intro f y b;have:=f (λq=>q∈ks) ⟨x,by simp,by rw[d x (by simp)];exact h.start x r rfl⟩ (λy b q=>by rw[d y b]at q ⊢;exact m y b q) y b;rwa[d y b]at this
end
def lH(m:List (Tx×Int))(x:Tx):List (Tx×Int):=kw (kw m x.dropLast ((cH m x.dropLast).getD 0+1)) x.tail ((cH (kw m x.dropLast ((cH m x.dropLast).getD 0+1)) x.tail).getD 0-1)
def b1(p:Prop)[Decidable p]:Int:=if p then 1 else 0
def Rb(m:List (Tx×Int))(x y:Tx):(cH (lH m x) y).getD 0=(cH m y).getD 0+b1 (x.dropLast=y)-b1 (x.tail=y):=by
 unfold lH b1;rw[sd,sd,sd];by_cases b:y=x.tail
 .subst b;by_cases a:x.tail=x.dropLast
  .rw[if_pos rfl,if_pos a,if_pos a.symm,if_pos rfl,a];simp
  .rw[if_pos rfl,if_neg a,if_neg (dj a),if_pos rfl];simp
 .rw[if_neg b,if_neg (dj b)];by_cases a:y=x.dropLast
  .subst a;rw[if_pos rfl,if_pos rfl];simp
  .rw[if_neg a,if_neg (dj a)];simp
def Gs(m:List (Tx×Int))(x y:Tx):y∈ks (lH m x)↔y∈ks m\/y=x.dropLast\/y=x.tail:=by
 have k:∀(m:List (Tx×Int)) (z:Tx),z∈ks m↔(cH m z).isSome=ah:=λm z=>by rw[tG,decide_eq_true_eq]
 rw[k,k];unfold lH;generalize (cH (kw m x.dropLast ((cH m x.dropLast).getD 0+1)) x.tail).getD 0-1=n1;generalize (cH m x.dropLast).getD 0+1=n2;rw[sd,sd]
 grind
def bC(a:List Tx):List (Tx×Int):=a.foldl lH []
def exc(ls:List Tx)(y:Tx):Int:=(ls.map λx=>b1 (x.dropLast=y)-b1 (x.tail=y)).sum
def GY:∀(a:List Tx) (m:List (Tx×Int)) (y:Tx),(cH (a.foldl lH m) y).getD 0=(cH m y).getD 0+exc a y
 |[],m,y=>by simp[exc]
 |x::a,m,y=>by rw[iU,GY a,Rb];simp only[exc,cR,mV];lia
def CO(a:List Tx)(y:Tx):(cH (bC a) y).getD 0=exc a y:=by unfold bC;rw[GY];show 0+_=_;lia
def Ii:∀(a:List Tx) (m:List (Tx×Int)) (y:Tx),y∈ks (a.foldl lH m)↔y∈ks m\/y∈fz a
 |[],m,y=>by simp[fz]
 |x::a,m,y=>by rw[iU,Ii a,Gs];simp only[fz,cR,lj,cC];lia
def xZ(a:List Tx)(y:Tx):y∈ks (bC a)↔y∈fz a:=by unfold bC;rw[Ii];simp
def GD:∀(a:List Tx) (m:List (Tx×Int)),(ks m).Nodup->(ks (a.foldl lH m)).Nodup
 |[],_,h=>h
 |x::a,m,h=>GD a _ (vz (vz h))
def Iy(a:List Tx):(ks (bC a)).Nodup:=GD a [] (by simp)
section
def wj:ac PV:=eI fu (dV 2) (fo) (ef (d1 im (dC (.int 1))))
def tX:ac PV:=eI fu (dV 2) (ef (dC (.int 1))) (fo)
def xB:ac aM:=aH (jU 1 wj (d2 bj (mE 1 wj (dC (.int 0))) (dC (.int 1)))) (jU 1 tX (d2 lI (mE 1 tX (dC (.int 0))) (dC (.int 1))))
def Qf:yas a=aH (cX 1 (yH)) (aH (λb=>dH (bZ 2 (aU (dV 0)) xB b)) (k8 1)):=rfl
def iH(W:PV)(m:List (Tx×Int))(s:Slot):aj:=[.val W,.own (.dK (dk m)),s]
def FG(W:PV)(m:List (Tx×Int))(x:Tx):wj (iH W m (↥x))=.ok (.str x.dropLast) (iH W m (↥x)):=by have h:=zD x;have b:im (.int 1)=aa (.int (-1)):=rfl;simp[wj,iH,eI,fo,ef,dV,d1,dC,R.bind,aS,b,ji,h]
def Jf(W:PV)(m:List (Tx×Int))(x:Tx):tX (iH W m (↥x))=.ok (.str x.tail) (iH W m (↥x)):=by have h:=Fd x;simp[tX,iH,eI,fo,ef,dV,dC,R.bind,aS,ji,h]
def ES(d:db b=.ok (.str z) b)(c:eD b i=aa (dk m)):mE i db (dC (.int n)) b=.ok (.int ((cH m z).getD n)) b:=by unfold mE;rw[c];simp only[bS,R.bind_ok];rw[d,R.bind_ok];show((R.ok (PV.int n) b).bind _)=_;rw[R.bind_ok,c];simp only[bS,R.bind_ok];show aS (aa ((jz (dk m) (.inr (tS z))).getD (.int n))) b=_;rw[Fp];simp_all
def TQ(W:PV)(b:List Tx)(L:b.length<=100)(M:dA W=aa (am b)):su a [.val W]=.ok (.own (.dK (dk (bC b)))) [.val W]:=by
 obtain⟨d,e,_⟩:=Co (i:=2) (db:=xB) (λm s=>iH W m s) lH (λm=>(ks m).Nodup/\∀z∈ks m,z∈fz b) b [] .none ⟨by simp,by simp⟩
  (by
   rintro x G m s ⟨g,p⟩;have v:(ks (lH m x)).Nodup:=vz (vz g);have y:x.dropLast∈fz b:=by unfold fz;grind
   have H:x.tail∈fz b:=by unfold fz;grind
   refine⟨⟨v,λz j=>?_⟩,↥x,?_⟩
   .rcases(Gs m x z).mp j with h|h|h
    all_goals grind
   .have few:∀{q:List (Tx×Int)},(ks q).Nodup->(∀z∈ks q,z∈fz b)->q.length<=200:=λ{q} n s=>by
     have:=len_sub n s;unfold fz at this
     grind
    have J:=few g p;have N:(1000:Nat)<=bD:=by decide
    have C:=ES (i:=1) (n:=0) (FG W m x) rfl;have F:d2 bj (mE 1 wj (dC (.int 0))) (dC (.int 1)) (iH W m (↥x))=.ok (.int ((cH m x.dropLast).getD 0+1)) (iH W m (↥x)):=by unfold d2;rw[C,R.bind_ok];rfl
    have o:=FA (i:=1) F (FG W m x) ⟨_,rfl⟩ rfl (m:=m) ∅;generalize f:kw m x.dropLast ((cH m x.dropLast).getD 0+1)=q at o;have u:(ks q).Nodup:=by rw[<-f];exact vz g
    have r:∀z∈ks q,z∈fz b:=λz j=>by
     have:(cH q z).isSome=ah:=by rw[tG];exact decide_eq_true j
     rw[<-f,sd]at this;by_cases c:z=x.dropLast
     .rw[c];exact y
     .rw[if_neg c,tG,decide_eq_true_eq]at this;exact p z this
    have I:=few u r;have B:=ES (i:=1) (n:=0) (Jf W q x) rfl;have E:d2 lI (mE 1 tX (dC (.int 0))) (dC (.int 1)) (iH W q (↥x))=.ok (.int ((cH q x.tail).getD 0-1)) (iH W q (↥x)):=by unfold d2;rw[B,R.bind_ok];rfl
    have d:=FA (i:=1) E (Jf W q x) ⟨_,rfl⟩ rfl (m:=q) ∅;show xB (iH W m (↥x))=_;unfold xB;refine(cf o).trans ?_;refine Eq.trans (show jU 1 tX _ _=_ from d) ?_;unfold lH;rw[f];rfl)
 have l:yas a [.val W,.none,.none]=.ok (.ret (.own (.dK (dk (bC b))))) [.val W,.none,d]:=by
  rw[Qf];refine(cf (show cX 1 yH [.val W,.none,.none]=.ok .next (iH W [] .none)from rfl)).trans ?_;have w:bZ 2 (aU (dV 0)) xB (iH W [] .none)=.ok .next (iH W (bC b) d):=by
   unfold bZ;have:aU (dV 0) (iH W [] .none)=.ok (am b) (iH W [] .none):=by unfold aU;show(R.ok W _).bind _=_;simp_all
   rw[this,R.bind_ok];exact e
  refine(cf (d1:=λε=>dH (bZ 2 (aU (dV 0)) xB ε)) (by show dH _=_;rw[w];rfl)).trans ?_;exact Gr rfl
 unfold su;generalize yas a=D at l;generalize dk (bC b)=A at l;simp[bJ,gq,bI,dW,l,back,aS,R.bind,gu]
end
def G6{a:aj}{i:Nat}{s:Slot}(h:a[i]?=aa s):a.set i s=a:=by
 apply pC;intro j;by_cases b:i=j
 .subst b;rw[eE (cP.mp h).1,h]
 .rw[cQ b]
def Jl{b:Type}{d:ac b}{x:PV}{ε:aj}{i:Nat}{a:PO}{r:b}(c:ε[i]?=aa (.own a))(f:d [.val x,.own a]=.ok r [.val x,.own a]):bq (bQ [i] d x ε)=.ok r ε:=by simp[bQ,bW,c,bq,R.bind,aS,cI,eU,f,fP,i9,fX,G6 c]
def F8{b:Type}{d:ac b}{x y:PV}{ε:aj}{i:Nat}{a:PO}{r:b}(c:ε[i]?=aa (.own a))(f:d [.val x,.val y,.own a]=.ok r [.val x,.val y,.own a]):bq (nP [i] d x y ε)=.ok r ε:=by simp[nP,bW,c,bq,R.bind,aS,cI,eU,f,fP,i9,fX,G6 c]
def GC(p:PV×PV->Bool)(f:PV×PV->PV):∀(xs:List (PV×PV)),(∀x∈xs,bq (nP cap dt x.1 x.2 ε)=.ok (p x) ε/\(p x=ah->bq (nP cap de x.1 x.2 ε)=.ok (f x) ε))->∀a,oV cap dt de xs a ε=.ok (a++(xs.filter p).map f) ε
 |[],_,a=>by simp[oV]
 |x::xs,h,a=>by
  have c:=h x (by simp);have d:=GC p f xs (λy b=>h y (by simp[b]));unfold oV;rw[c.1,R.bind_ok];cases g:p x
  all_goals simp_all
def HQ:∀m:List (Tx×Int),qA (dk m)=aa (ks m)
 |[]=>rfl
 |p::m=>by show(qA (dk m)).map _=_;rw[HQ m];simp[tS]
def ip(a:List Tx):List Tx:=(aT (ks (bC a))).filter λy=>decide (0<exc a y)
def Jv(a:List Tx):PV->Bool
 |.str y=>decide (0<exc a y)
 |_=>ak
def PJ(b:List Tx)(a:List Tx):((am a).filter (Jv b)).map (λx=>x)=am (a.filter λy=>decide (0<exc b y)):=by rw[uy];unfold am;rw[ou];rfl
def v3(ks:List Tx):PV×PV->Bool
 | (_,.str y)=>decide (y.dropLast∈ks)
 |_=>ak
def Je(ks:List Tx):∀(n:Nat) (a:List Tx),((jZ (λi=>PV.int (i:Nat)) n (am a)).filter (v3 ks)).length=(a.filter λy=>decide (y.dropLast∈ks)).length
 |n,[]=>rfl
 |n,y::a=>by
  have b:=Je ks (n+1) a;show(((PV.int n,PV.str y)::jZ _ (n+1) (am a)).filter (v3 ks)).length=_;have e:v3 ks (PV.int n,PV.str y)=decide (y.dropLast∈ks):=rfl
  grind
def GG(f:Nat->PV):∀(n:Nat) (a:List Tx),∀q∈jZ f n (am a),∃k y,q=(f k,.str y)
 |n,[],q,h=>by cases h
 |n,y::a,q,h=>by
  rcases cC.mp h with h|h
  .exact⟨n,y,h⟩
  .exact GG f (n+1) a q h
section
variable{a:Ad}
def ve:ac PV:=eI fu (dV 1) (fo) (ef (d1 im (dC (.int 1))))
def f2(a:Ad):ac aM:=bw 2 (dF (bE [1] (aU (dF (o_ 1))) (dB (d2 (dX λi j=>decide (j<i)) (lc 1 (dV 0)) (dC (.int 0)))) (dV 0)))
def f3:ac aM:=cO (dB (d2 (dX λi j=>decide (j<i)) (dL bV (ay (dV 2) (aE))) (dC (.int 1)))) (cB (dL eh (ay (dC (.str [116,119,111])) (ay (d2 bd (dV 2) (dC (.int 0))) (ay (d2 bd (dV 2) (dC (.int 1))) (aE)))))) (f9)
def f4:ac aM:=cO (pW (dB (d2 (eqT ak) (dL bV (ay (dV 2) (aE))) (dC (.int 1)))) (dB (d2 (dX λi j=>decide (j<i)) (lc 1 (d2 bd (dV 2) (dC (.int 0)))) (dC (.int 1))))) (cB (dL eh (ay (dC (.str [109,111,114,101])) (ay (d2 bd (dV 2) (dC (.int 0))) (aE))))) (f9)
def f6:ac aM:=bw 4 (dF (qv [3] (vE (ay (dV 0) (aE))) (dB (jA ak 2 ve)) (dV 0)))
def f7:ac aM:=cO (dB (d2 (dX λi j=>decide (i<j)) (dL bV (ay (dV 4) (aE))) (dL bV (ay (dV 0) (aE))))) (cB (dL eh (ay (dC (.str [97,112,97,114,116])) (ay (dL iJ (ay (dV 4) (aE))) (aE))))) (f9)
def UF:yat a=aH (cX 1 (kB (bg (su a) (gV (dV 0) (Pu.bY))))) (aH (f2 a) (aH f3 (aH f4 (aH (cX 3 (kB (bg (o6 a) (gV (dV 0) (Pu.bY))))) (aH f6 (aH f7 (cB (dC .non)))))))):=rfl
def EL(f:ε[0]?=aa (.val W))(d:G [.val W]=.ok (.own b) [.val W])(c:i<ε.length):cX i (kB (bg G (gV (dV 0) (Pu.bY)))) ε=.ok .next (ε.set i (.own b)):=by simp[cX,kB,bg,gV,Pu.bY,dV,f,R.bind,aS,cI,eU,d,fP,i9,fX,zb,c]
def Pl(W:PV)(b:List Tx)(v:b.length<=20)(l:∀y∈b,y.length<=100)(f d c:Slot):f2 a [.val W,.own (.dK (dk (bC b))),f,d,c]=.ok .next [.val W,.own (.dK (dk (bC b))),.val (.lst (am (ip b))),d,c]:=by
 unfold f2;have few:(ks (bC b)).length<64:=by
  have:=len_sub (Iy b) (λz g=>(xZ b z).mp g);unfold fz at this
  grind
 have o:∀z∈ks (bC b),z.length<=bD:=λz g=>by
  have:=(xZ b z).mp g;have w:(1000:Nat)<=bD:=by decide
  unfold fz at this
  grind
 have q:o_ 1 [.val W,.own (.dK (dk (bC b))),f,d,c]=.ok (.lst (am (aT (ks (bC b))))) [.val W,.own (.dK (dk (bC b))),f,d,c]:=by unfold o_;show aS (yE (dk (bC b))) _=_;unfold yE;rw[HQ];show aS (if _ then _ else _) _=_;rw[if_pos ⟨few,o⟩];rfl
 have r:aU (dF (o_ 1)) [.val W,.own (.dK (dk (bC b))),f,d,c]=.ok (am (aT (ks (bC b)))) [.val W,.own (.dK (dk (bC b))),f,d,c]:=by unfold aU dF;rw[q];rfl
 have u:=g7 (cap:=[1]) (dt:=dB (d2 (dX λi j=>decide (j<i)) (lc 1 (dV 0)) (dC (.int 0)))) (de:=dV 0) (ε:=[.val W,.own (.dK (dk (bC b))),f,d,c]) (Jv b) (λx=>x) (am (aT (ks (bC b)))) (λx l=>by
  obtain⟨y,p,rfl⟩:=b8.mp l;have m:y∈ks (bC b):=(fk _).mem_iff.mp p;have s:cH (bC b) y=aa (exc b y):=by
   have B:(cH (bC b) y).isSome=ah:=by rw[tG];lia
   have A:=CO b y;cases h:cH (bC b) y with
   |none=>grind
   |some n=>grind
  refine⟨Jl rfl ?_,λ_=>Jl rfl rfl⟩;refine p_ ?_;unfold d2;rw[HF (i:=1) (db:=dV 0) (ε:=[↥y,.own (.dK (dk (bC b)))]) ⟨_,rfl⟩ rfl rfl s,R.bind_ok];rfl) []
 refine(tK (x:=.lst (am (ip b))) (ε1:=[.val W,.own (.dK (dk (bC b))),f,d,c]) ?_).trans rfl;have m:bE [1] (aU (dF (o_ 1))) (dB (d2 (dX λi j=>decide (j<i)) (lc 1 (dV 0)) (dC (.int 0)))) (dV 0) [.val W,.own (.dK (dk (bC b))),f,d,c]=.ok (.lst (am (ip b))) [.val W,.own (.dK (dk (bC b))),f,d,c]:=by unfold bE;rw[r,R.bind_ok,u,R.bind_ok,eW,PJ];rfl
 show(bE _ _ _ _ _).bind _=_;rw[m];rfl
def jG(ks b:List Tx):List PV:=((vW (am b)).filter (v3 ks)).map (·.1)
def Ca(y:Tx)(r:List Tx):bd (.lst (am (y::r))) (.int 0)=aa (.str y):=by show fI (.str y::am r) 0=_;rw[tw (by decide) (by simp)];rfl
def Sq(y z:Tx)(r:List Tx):bd (.lst (am (y::z::r))) (.int 1)=aa (.str z):=by show fI (.str y::.str z::am r) 1=_;rw[tw (by decide) (by simp)];rfl
def LS(f ks:List Tx)(p:W=.tup (am f))(c b d:Slot):f6 [.val W,c,b,.own (.dK (cU ks)),d]=.ok .next [.val W,c,b,.own (.dK (cU ks)),.val (.lst (jG ks f))]:=by
 unfold f6;have m:vE (ay (dV 0) (aE)) [.val W,c,b,.own (.dK (cU ks)),d]=.ok (vW (am f)) [.val W,c,b,.own (.dK (cU ks)),d]:=by subst p;rfl
 have n:=GC (cap:=[3]) (dt:=dB (jA ak 2 ve)) (de:=dV 0) (ε:=[.val W,c,b,.own (.dK (cU ks)),d]) (v3 ks) (·.1) (vW (am f)) (λx g=>by
  obtain⟨k,y,rfl⟩:=GG _ 0 f x g;refine⟨F8 rfl ?_,λ_=>F8 rfl rfl⟩;have o:ve [.val (PV.int k),↥y,.own (.dK (cU ks))]=.ok (.str y.dropLast) [.val (PV.int k),↥y,.own (.dK (cU ks))]:=by have h:=zD y;have j:im (.int 1)=aa (.int (-1)):=rfl;simp[ve,eI,fo,ef,dV,d1,dC,R.bind,aS,j,ji,h]
  have:=p_ (BD (neg:=ak) (i:=2) o rfl);rw[wY]at this;exact this) []
 refine(tK (x:=.lst (jG ks f)) (ε1:=[.val W,c,b,.own (.dK (cU ks)),d]) ?_).trans rfl;have l:qv [3] (vE (ay (dV 0) (aE))) (dB (jA ak 2 ve)) (dV 0) [.val W,c,b,.own (.dK (cU ks)),d]=.ok (.lst (jG ks f)) [.val W,c,b,.own (.dK (cU ks)),d]:=by unfold qv;rw[m,R.bind_ok,n,R.bind_ok,eW];rfl
 show(qv _ _ _ _ _).bind _=_;rw[l];rfl
def ER(ks b:List Tx):(jG ks b).length<b.length↔¬∀y∈b,y.dropLast∈ks:=by
 have e:(jG ks b).length=(b.filter λy=>decide (y.dropLast∈ks)).length:=by unfold jG;rw[cK];exact Je ks 0 b
 simp_all
def zF{W pv:PV}{ε:aj}(h:yat a [.val W,.none,.none,.none,.none]=.ok (.ret (.val pv)) (.val W::ε)):vm a [.val W]=.ok (.val pv) [.val W]:=by unfold vm;generalize yat a=D at h;simp[bJ,gq,bI,dW,h,back,aS,R.bind,gu]
def T4{v:Nat}(q:W=.tup (am (x::r)))(L:∀y∈x::r,y.length=v+1)(Z:v<=20)(hr:r.length<=15):∃pv,vm a [.val W]=.ok (.val pv) [.val W]/\(pv=.non\/∃w,pv=.tup w) /\ (pv=.non↔(ip (x::r)).length<=1/\(∀s∈ip (x::r),exc (x::r) s<=1)/\qe v (x::r)):=by
 have D:dA W=aa (am (x::r)):=by subst q;rfl
 have P:bd W (.int 0)=aa (.str x):=by subst q;exact Ca x r
 have Q:bV [W]=aa (.int ((am (x::r)).length:Nat)):=by subst q;rfl
 have u:=EL (G:=su a) (W:=W) (ε:=[.val W,.none,.none,.none,.none]) (i:=1) rfl (TQ _ (x::r) (by simp;lia) D) (by simp);have E:=Pl (a:=a) W (x::r) (by simp;lia) (λy Y=>by grind) .none .none .none;obtain⟨ks,H,F,N⟩:=T3 (a:=a) W x r ∅ D P;have f:=Rz L H F;have o:∀s∈ip (x::r),cH (bC (x::r)) s=aa (exc (x::r) s):=λs A=>by
  have M:s∈Sh.ks (bC (x::r)):=(fk _).mem_iff.mp (kH.mp A).1;have u:(cH (bC (x::r)) s).isSome=ah:=by rw[tG];exact decide_eq_true M
  have E:=CO (x::r) s;cases h:cH (bC (x::r)) s with
  |none=>rw[h]at u;cases u
  |some n=>grind
 have d:∀S:List Tx,∃pv ε,aH (cX 3 (kB (bg (o6 a) (gV (dV 0) (Pu.bY))))) (aH f6 (aH f7 (cB (dC .non)))) [.val W,.own (.dK (dk (bC (x::r)))),.val (.lst (am S)),.none,.none]=.ok (.ret (.val pv)) (.val W::ε)/\(pv=.non\/∃w,pv=.tup w)/\(pv=.non↔qe v (x::r)):=by
  intro S;have X:=EL (G:=o6 a) (W:=W) (ε:=[.val W,.own (.dK (dk (bC (x::r)))),.val (.lst (am S)),.none,.none]) (i:=3) rfl N (by simp);have T:=LS (x::r) ks q (.own (.dK (dk (bC (x::r))))) (.val (.lst (am S))) .none;rw[cf X,cf (show f6 ([Slot.val W,.own (.dK (dk (bC (x::r)))),.val (.lst (am S)),.none,.none].set 3 (.own (.dK (cU ks))))=_ from T)];have m:dB (d2 (dX λi j=>decide (i<j)) (dL bV (ay (dV 4) (aE))) (dL bV (ay (dV 0) (aE)))) [.val W,.own (.dK (dk (bC (x::r)))),.val (.lst (am S)),.own (.dK (cU ks)),.val (.lst (jG ks (x::r)))]=.ok (decide (((jG ks (x::r)).length:Int)<((am (x::r)).length:Int))) [.val W,.own (.dK (dk (bC (x::r)))),.val (.lst (am S)),.own (.dK (cU ks)),.val (.lst (jG ks (x::r)))]:=by refine p_ (yU (x:=.int ((jG ks (x::r)).length:Nat)) (y:=.int ((am (x::r)).length:Nat)) rfl ?_ rfl);exact SA (O5 (A9 rfl) Nn) Q
  have p:(am (x::r)).length=(x::r).length:=by unfold am;grind
  by_cases c:∀y∈x::r,y.dropLast∈ks
  .have B:¬(((jG ks (x::r)).length:Int)<((am (x::r)).length:Int)):=by
    rw[p];have:=mt (ER ks (x::r)).mp (λh=>h c);lia
   rw[decide_eq_false B]at m;refine⟨.non,[.own (.dK (dk (bC (x::r)))),.val (.lst (am S)),.own (.dK (cU ks)),.val (.lst (jG ks (x::r)))],?_,.inl rfl,⟨λ_=>f.mp c,λ_=>rfl⟩⟩;rw[cf (show f7 _=.ok .next _ by unfold f7 cO;rw[m];rfl)];rfl
  .have B:((jG ks (x::r)).length:Int)<((am (x::r)).length:Int):=by
    rw[p];have:=(ER ks (x::r)).mpr c;lia
   rw[decide_eq_true B]at m;refine⟨.tup [.str [97,112,97,114,116],.tup (jG ks (x::r))],[.own (.dK (dk (bC (x::r)))),.val (.lst (am S)),.own (.dK (cU ks)),.val (.lst (jG ks (x::r)))],?_,.inr ⟨_,rfl⟩,⟨(λh=>by cases h),λh=>absurd (f.mpr h) c⟩⟩;unfold aH f7 cO;rw[m];rfl
 have b:∀(l:R aM),aH f3 (aH f4 (aH (cX 3 (kB (bg (o6 a) (gV (dV 0) (Pu.bY))))) (aH f6 (aH f7 (cB (dC .non)))))) [.val W,.own (.dK (dk (bC (x::r)))),.val (.lst (am (ip (x::r)))),.none,.none]=l->yat a [.val W,.none,.none,.none,.none]=l:=by intro l h;rw[UF,cf u];exact(cf E).trans h
 generalize hS:ip (x::r)=S at o b ⊢
 match S,o,b with
 |[],_,b=>
  obtain⟨pv,ε,e,z,C⟩:=d [];refine⟨pv,zF (ε:=ε) (b _ ?_),z,?_⟩
  .rw[cf (show f3 _=.ok .next _ from rfl),cf (show f4 _=.ok .next _ from rfl)];exact e
  .rw[C];simp
 |[s],o,b=>
  have A:=o s (by simp);have O:dB (d2 (dX λi j=>decide (j<i)) (lc 1 (d2 bd (dV 2) (dC (.int 0)))) (dC (.int 1))) [.val W,.own (.dK (dk (bC (x::r)))),.val (.lst (am [s])),.none,.none]=.ok (decide (1<exc (x::r) s)) [.val W,.own (.dK (dk (bC (x::r)))),.val (.lst (am [s])),.none,.none]:=by refine p_ (yU (HF (i:=1) (db:=d2 bd (dV 2) (dC (.int 0))) ⟨_,rfl⟩ (yU (x:=.lst (am [s])) rfl rfl (Ca s [])) rfl A) rfl rfl)
  have hand:pW (dB (d2 (eqT ak) (dL bV (ay (dV 2) (aE))) (dC (.int 1)))) (dB (d2 (dX λi j=>decide (j<i)) (lc 1 (d2 bd (dV 2) (dC (.int 0)))) (dC (.int 1)))) [.val W,.own (.dK (dk (bC (x::r)))),.val (.lst (am [s])),.none,.none]=.ok (decide (1<exc (x::r) s)) [.val W,.own (.dK (dk (bC (x::r)))),.val (.lst (am [s])),.none,.none]:=by unfold pW;rw[show dB (d2 (eqT ak) (dL bV (ay (dV 2) (aE))) (dC (.int 1))) [.val W,.own (.dK (dk (bC (x::r)))),.val (.lst (am [s])),.none,.none]=.ok ah [.val W,.own (.dK (dk (bC (x::r)))),.val (.lst (am [s])),.none,.none] from rfl,R.bind_ok];exact O
  by_cases c:1<exc (x::r) s
  .rw[decide_eq_true c]at hand;refine⟨.tup [.str [109,111,114,101],.str s],zF (ε:=[.own (.dK (dk (bC (x::r)))),.val (.lst (am [s])),.none,.none]) (b _ ?_),.inr ⟨_,rfl⟩,⟨(λh=>by cases h),λh=>?_⟩⟩
   .rw[cf (show f3 _=.ok .next _ from rfl)];unfold aH f4 cO;rw[hand];rfl
   .have:=h.2.1 s (by simp);lia
  .rw[decide_eq_false c]at hand;obtain⟨pv,ε,e,z,C⟩:=d [s];refine⟨pv,zF (ε:=ε) (b _ ?_),z,?_⟩
   .rw[cf (show f3 _=.ok .next _ from rfl),cf (show f4 _=.ok .next _ by unfold f4 cO;rw[hand];rfl)];exact e
   grind
 |s::g::S,o,b=>
  refine⟨.tup [.str [116,119,111],.str s,.str g],zF (ε:=[.own (.dK (dk (bC (x::r)))),.val (.lst (am (s::g::S))),.none,.none]) (b _ ?_),.inr ⟨_,rfl⟩,⟨λh=>(by cases h),λh=>?_⟩⟩
  .have J:=Ca s (g::S);have I:=Sq s g S;unfold aH f3 cO;have m:dB (d2 (dX λi j=>decide (j<i)) (dL bV (ay (dV 2) (aE))) (dC (.int 1))) [.val W,.own (.dK (dk (bC (x::r)))),.val (.lst (am (s::g::S))),.none,.none]=.ok (decide ((1:Int)<((am (s::g::S)).length:Int))) [.val W,.own (.dK (dk (bC (x::r)))),.val (.lst (am (s::g::S))),.none,.none]:=rfl;rw[decide_eq_true (by unfold am;simp;lia)]at m;rw[m];simp[R.bind,cB,dL,ay,aE,dC,dV,d2,aS,J,I,eh]
  .have:=h.1;simp at this
end
def Gb:∀{ls:List Tx},(∀y∈ls,y.length=v+1)->∀y,exc ls y=(oc v ls y:Int)-(ic ls y:Int)
 |[],_,y=>rfl
 |x::ls,h,y=>by
  have a:=Gb (λz b=>h z (by simp[b])) (ls:=ls) y;have c:x.take v=x.dropLast:=by rw[KF,h x (by simp)];rfl
  have e:exc (x::ls) y=b1 (x.dropLast=y)-b1 (x.tail=y)+exc ls y:=by simp[exc]
  rw[e,a];unfold oc ic b1
  grind
def Be{K:List Tx}(d:K.Nodup)(f:s∈K):(K.map λy=>b1 (s=y)).sum=1:=by
 have ae:∀{K:List Tx},s∉K->(K.map λy=>b1 (s=y)).sum=0:=by
  intro K
  induction K with
  |nil=>intro _;rfl
  |cons y K b=>intro h;simp only[cC,not_or]at h;rw[cR,mV,b h.2];unfold b1;rw[if_neg h.1];rfl
 induction K with
 |nil=>cases f
 |cons y K b=>
  rw[cR,mV];have a:=kL.mp d;by_cases c:s=y
  .subst c;rw[ae a.1];unfold b1;lia
  .rw[b a.2 (by grind)];unfold b1;rw[if_neg c];rfl
def CL(f g:Tx->Int):∀K:List Tx,(K.map λy=>f y-g y).sum=(K.map f).sum-(K.map g).sum
 |[]=>rfl
 |y::K=>by simp only[cR,mV,CL f g K];lia
def Hq(f g:Tx->Int):∀K:List Tx,(K.map λy=>f y+g y).sum=(K.map f).sum+(K.map g).sum
 |[]=>rfl
 |y::K=>by simp only[cR,mV,Hq f g K];lia
def FK{K:List Tx}(a:K.Nodup):∀{ls:List Tx},(∀x∈ls,x.dropLast∈K/\x.tail∈K)->(K.map (exc ls)).sum=0
 |[],_=>by
  show(K.map λ_=>(0:Int)).sum=0;clear a;have b:∀K:List Tx,(K.map λ_=>(0:Int)).sum=0:=λK=>by
   induction K with
   |nil=>rfl
   |cons y K c=>grind
  exact b K
 |x::ls,h=>by
  have c:=FK a (ls:=ls) λz d=>h z (by simp[d]);have e:exc (x::ls)=λy=>(b1 (x.dropLast=y)-b1 (x.tail=y))+exc ls y:=by funext y;simp[exc]
  rw[e,Hq,c,CL,Be a (h x (by simp)).1,Be a (h x (by simp)).2];rfl
def Cq(f:Tx->Int):∀{K:List Tx},(∀y∈K,f y<=0)->(K.map f).sum<=0/\((K.map f).sum=0->∀y∈K,f y=0)
 |[],_=>⟨by simp,λ_ y h=>by cases h⟩
 |y::K,h=>by
  have b:=Cq f (K:=K) λz a=>h z (by simp[a])
  grind
def IT(f:Tx->Int):∀{K:List Tx},(∀y∈K,f y<=0)->(K.map f).sum=-1->K.Nodup->∃e∈K,f e=-1/\∀y∈K,y≠e->f y=0
 |[],_,h,_=>by simp at h
 |y::K,h,i,d=>by
  have b:∀z∈K,f z<=0:=λz g=>h z (by simp[g]);have o:=Cq f b;have j:=h y (by simp);have a:=kL.mp d;rw[cR,mV]at i;by_cases c:f y=0
  .obtain⟨e,l,n,m⟩:=IT f b ∅ a.2
   grind
  grind
def GP(h:y∉ks (bC a)):exc a y=0:=by
 have c:(cH (bC a) y).isSome=ak:=by rw[tG];lia
 have b:=CO a y;simp_all
def VW:s∈ip a↔s∈ks (bC a)/\0<exc a s:=by unfold ip;rw[kH,decide_eq_true_eq,(fk _).mem_iff]
def O8(p:∀y∈x::r,y.length=v+1):((ip (x::r)).length<=1/\(∀s∈ip (x::r),exc (x::r) s<=1)/\qe v (x::r))↔∃t,(bh t (v+1)).Perm (x::r):=by
 have A:=Gb p;have g:=Iy (x::r);have E:∀y∈x::r,y.dropLast∈ks (bC (x::r))/\y.tail∈ks (bC (x::r)):=λy b=>by
  rw[xZ,xZ];unfold fz
  grind
 have C:=FK g E;constructor
 .rintro⟨i,H,f⟩;have I:∀y∈ks (bC (x::r)),y∉ip (x::r)->exc (x::r) y<=0:=λy b n=>by have:=mt (λh=>VW.mpr ⟨b,h⟩) n;lia
  cases q:ip (x::r)with
  |nil=>
   have l:=(Cq _ (λy b=>I y b (by rw[q];simp))).2 C;obtain⟨t,_,_,a⟩:=Fg p f (s0:=x.take v) (e:=x.take v) ⟨x,by simp,rfl⟩ (λy=>by
    have:exc (x::r) y=0:=by
     by_cases c:y∈ks (bC (x::r))
     .exact l y c
     .exact GP c
    grind)
   exact⟨t,a⟩
  |cons s S=>
   rw[q]at i;have D:S=[]:=by simp_all
   subst D;have d:s∈ip (x::r):=by rw[q];simp
   obtain⟨w,s0⟩:=VW.mp d;have P:=H s d;have G:∀y∈ks (bC (x::r)),exc (x::r) y-b1 (s=y)<=0:=λy b=>by
    unfold b1
    grind
   obtain⟨e,J,Q,M⟩:=IT (λy=>exc (x::r) y-b1 (s=y)) G (by rw[CL,C,Be g w];rfl) g;have L:∀y,exc (x::r) y=b1 (s=y)-b1 (e=y):=λy=>by
    by_cases c:y∈ks (bC (x::r))
    .by_cases u:e=y
     .subst u;have:b1 (e=e)=1:=by unfold b1;rw[if_pos rfl]
      lia
     .have:=M y c (dj u);have:b1 (e=y)=0:=by unfold b1;rw[if_neg u]
      lia
    .have O:s≠y:=λz=>c (z ▸ w);have N:e≠y:=λz=>c (z ▸ J);rw[GP c];unfold b1;rw[if_neg O,if_neg N];rfl
   obtain⟨t,_,_,a⟩:=Fg p f (s0:=s) (e:=e) (VD.mp (by grind)) (λy=>by have i:=L y;rw[A]at i;unfold b1 at i;unfold b2;split <;> split <;> simp_all <;> lia);exact⟨t,a⟩
 .rintro⟨t,a⟩;have o:v<=t.length:=by
   have:=a.length_eq;rw[qI ∅]at this
   grind
  have B:∀y,exc (x::r) y=b1 (t.take v=y)-b1 (en v t=y):=λy=>by have:=vN o y;rw[uZ a,u5 a]at this;rw[A];unfold b1;unfold b2 at this;split <;> split <;> simp_all <;> lia
  have F:∀s∈ip (x::r),s=t.take v:=λs d=>by have:=(VW.mp d).2;rw[B]at this;unfold b1 at this;lia
  refine⟨?_,λs d=>?_,To a⟩
  .have j:(ip (x::r)).Nodup:=by
    unfold ip;exact((fk _).nodup_iff.mpr g).filter _
   have:=len_sub j (m:=[t.take v]) (λz l=>by rw[F z l];simp);simpa using this
  .rw[B];unfold b1;lia
end Sh
namespace Mx
open L2 Pu
def EM{d:List Tx}(f:1<=w)(h:1<=d.length)(i:∀x∈d,x.length=w/\∀c∈x,c∈cz)(g:d.Pairwise (λa b=>dD a b=ah))(l:∀c∈z,c∈cz):z∈kA w d↔aT (bh z w)=d:=by
 rw[CF f h i,kH,nK,List.isPerm_iff];constructor
 .rintro⟨_,p⟩;rw[sA p,qH g]
 .intro e;have p:(bh z w).Perm d:=by rw[<-e];exact(fk _).symm
  have j:=p.length_eq;rw[qI f]at j;lia
def Lz{a:List Tx}(b:1<=w)(d:1<=a.length)(f:∀x∈a,x.length=w/\∀c∈x,c∈cz)(h:z∈kA w a):z.length=w-1+a.length/\∀c∈z,c∈cz:=by rw[CF b d f,kH,nK]at h;exact h.1
end Mx
namespace Sh
open L2 Pu Mx
def abc_of{t:Tx}(a:1<=w)(d:w<=t.length)(h:∀x∈bh t w,∀c∈x,c∈cz):∀c∈t,c∈cz:=by
 intro c b;obtain⟨i,g,rfl⟩:=List.mem_iff_getElem.mp b;have f:min i (t.length-w)<t.length+1-w:=∅
 refine h ((t.drop (min i (t.length-w))).take w) ?_ _ ?_
 .rw[qG t w a]
  grind
 .refine List.mem_iff_getElem.mpr ⟨i-min i (t.length-w),by simp;lia,?_⟩;rw[List.getElem_take,List.getElem_drop];congr 1;lia
def hasT(w:Nat)(k:List Tx):Bool:=decide (kA w k≠[])
def has_iff(g:Good cz w d)(f:1<=w)(l:d.Pairwise (λa b=>dD a b=ah)):(∃t,(bh t w).Perm d)↔hasT w d=ah:=by
 have n:∀x∈d,x.length=w/\∀c∈x,c∈cz:=λx i=>⟨g.len x i,g.abc x i⟩
 unfold hasT;rw[decide_eq_true_iff];constructor
 .rintro⟨t,j⟩ e;have p:=j.length_eq;rw[qI f]at p;have q:=g.some;have m:=abc_of (t:=t) f ∅ (λx i=>g.abc x (j.mem_iff.mp i));have:=(EM f g.some n l m).mpr (by rw[sA j];exact(qH l))
  grind
 .intro h;obtain⟨z,r,e⟩:=Er h;have o:z∈kA w d:=by rw[e];simp
  have m:=(Lz f g.some n o).2;have:=(EM f g.some n l m).mp o;exact⟨z,by rw[<-this];exact(fk _).symm⟩
section
variable{a:Ad}
def bar_eq(g:Good cz w c)(f:1<=w)(p:w<=4)(j:c.Pairwise (λa b=>dD a b=ah)):∃pv,vd a [.val (aI w c)]=.ok (.val pv) [.val (aI w c)]/\nA ak pv .non=aa (.bl (hasT w c)):=by
 have m:=g.few;have u:=g.some;obtain⟨v,rfl⟩:∃v,w=v+1:=⟨w-1,∅⟩
 obtain⟨x,r,e⟩:∃x r,c=x::r:=Er (by rintro rfl;simp at u);have o:=has_iff g f j;rw[e]at o m;have l:∀y∈x::r,y.length=v+1:=λy s=>g.len y (by rw[e];exact s);obtain⟨pv,i,q,h⟩:=T4 (a:=a) (W:=.tup (am (x::r))) rfl l ∅ (by simp at m;lia);rw[O8 l,o]at h;refine⟨pv,?_,?_⟩
 .have n:vt a [.val (aI (v+1) c)]=.ok (.val .non) [.val (aI (v+1) c)]:=SX (a:=a) (g.vw f p j);have d:bd (aI (v+1) c) (.int 1)=aa (.tup (am (x::r))):=by rw[e];rfl
  generalize am (x::r)=B at i d;generalize aI (v+1) c=V at n d;simp![vd,yan,n,d,i]
 .rw[e];rcases q with rfl|⟨z,rfl⟩
  .rw[h.mp rfl];rfl
  .cases A:hasT (v+1) (x::r)with
   |true=>lia
   |false=>rfl
structure Blur(w:Nat)(ms:List Tx):Prop where
 g:Good gY w ms
 w1:1<=w
 w4:w<=4
 d6:cy ms<=6
 rises:ms.Pairwise (λa b=>dD a b=ah)
def Good.vwB(g:Good gY w d)(o:1<=w)(n:w<=4)(h:d.Pairwise (λa b=>dD a b=ah)):nu gY w d=ah:=by
 have m:d.all (jy w gY)=ah:=by rw[lZ];intro x f;unfold jy;rw[g.len x f,decide_eq_true rfl,Du,lZ];intro c i;simpa using g.abc x f c i
 have l:=g.some;have j:=g.few;unfold nu;rw[m,decide_eq_true (show(1:Int)<=(w:Nat)/\((w:Nat):Int)<=4 by lia),decide_eq_true ⟨l,j⟩,decide_eq_true (qH h).symm];rfl
def wt_small:∀{ls:List Tx},(∀x∈ls,x.length=w)->ir [] ls<=ls.length*w
 |[],_=>by simp[ir]
 |[x],h=>by have:=h x (by simp);simp[ir,this]
 |x::y::r,h=>by
  have d:=h x (by simp);have c:=wt_small (ls:=y::r) λz b=>h z (by simp[b]);simp only[gR]at c ⊢;have e:ir [] (x::y::r)=x.length+0+ir [] (y::r):=by simp[ir]
  lia
def blur_yes(b:Blur w c):vU a [.val (aI w c)]=.ok (.val .non) [.val (aI w c)]:=by
 have h:=wt_small b.g.len;have g:=b.g.few;have d:=b.w4;have f:ir [] c<=bD:=by have:c.length*w<=9*4:=DB g d;unfold bD;lia
 have:=Tn (a:=a) w c f;rw[b.g.vwB b.w1 b.w4 b.rises,decide_eq_true b.d6]at this;exact Rv this
def ways_good(b:Blur w i)(h:k∈waysF i):Good cz w k/\k.Pairwise (λa b=>dD a b=ah):=by
 obtain⟨l,m,j⟩:=ways_shape h;refine⟨⟨λx d=>?_,λx d=>?_,by rw[l];exact b.g.some,by rw[l];exact b.g.few⟩,m⟩
 .obtain⟨c,g,f⟩:=j x d;rw[f.len,b.g.len c g]
 .obtain⟨c,g,f⟩:=j x d;exact f.abc (b.g.abc c g)
def viewsC(w:Nat)(b:List Tx):List (List Tx):=(cZ (waysF b)).filter (hasT w)
def vwsP(w:Nat)(ks:List (List Tx)):List PV:=ks.map λk=>aI w k
def ok_filter(ks:List (List Tx))(p:List Tx->Bool)(f:PV->Bool)(b:∀k,f (aI w k)=p k):((vwsP w ks).filter f).map (λx=>x)=vwsP w (ks.filter p):=by rw[uy];unfold vwsP;rw[ou];congr 1;exact Kz λk _=>b k
def unVw:PV->List Tx
 |.tup [_,.tup xs]=>xs.filterMap λx=>match x with
  |.str t=>aa t
  |_=>ae
 |_=>[]
def unVw_vw(w:Nat)(k:List Tx):unVw (aI w k)=k:=by show(am k).filterMap _=k;unfold am;rw[zT];simp[l3]
def cleared_eq(b:Blur w c):yv a [.val (aI w c)]=.ok (.own (.lst (vwsP w (viewsC w c)))) [.val (aI w c)]:=by
 have i:=blur_yes (a:=a) b;have f:=clearing_eq (a:=a) b.g b.w4 b.d6;have d:=g7 (cap:=[]) (dt:=(dB (d2 (nA ak) (bA (bg (vd a) (gV (dV 0) (Pu.bY)))) (dC .non)))) (de:=dV 0) (ε:=[.val (aI w c)]) (λx=>hasT w (unVw x)) (λx=>x) (vwsP w (cZ (waysF c)))
  (by
   intro x m;obtain⟨k,n,rfl⟩:=b8.mp m;obtain⟨o,l⟩:=ways_good b ((nM _).mem_iff.mp n);obtain⟨pv,h,g⟩:=bar_eq (a:=a) o b.w1 b.w4 l;rw[unVw_vw];generalize aI w c=V;generalize hasT w k=B at g;generalize aI w k=W at h;refine⟨?_,λ_=>?_⟩
   .simp![bQ,bW,bq,h,g]
   .simp![bQ,bW,bq]) []
 rw[eW,ok_filter _ (hasT w) _ (λk=>by rw[unVw_vw])]at d;have j:dA (.lst (vwsP w (cZ (waysF c))))=aa (vwsP w (cZ (waysF c))):=rfl;have p:((cZ (waysF c)).map λk=>prV ((w:Int),k))=vwsP w (cZ (waysF c)):=rfl;rw[p]at f;unfold viewsC;generalize vwsP w ((cZ (waysF c)).filter (hasT w))=R1 at d;generalize vwsP w (cZ (waysF c))=R0 at d j f;generalize aI w c=V at i f d;simp![yv,yaq,i,f,jV,bE,aU,j,d]
def th_comp(t:Tx)(d b:Slot)(i:t.length<=50):iL [2] b7 (d2 bj (dV 1) (dV 0)) (cz.map λc=>.str [c]) [] [d,b,↥t]=.ok (am (cz.map λc=>t++[c])) [d,b,↥t]:=by
 have f:=g7 (cap:=[2]) (dt:=b7) (de:=(d2 bj (dV 1) (dV 0))) (ε:=[d,b,↥t]) (λ_=>ah) (λx=>match x with|.str [c]=>.str (t++[c])|_=>.non) (cz.map λc=>PV.str [c])
  (by intro x g;obtain⟨c,_,rfl⟩:=b8.mp g;have h:bj (.str t) (.str [c])=aa (.str (t++[c])):=qo (by simp[bD];lia);refine⟨by simp![bQ,bW,bq,b7],λ_=>?_⟩;simp![bQ,bW,bq,h]) []
 rw[eW,m8.mpr (by simp)]at f;rw[f];congr 1
def three_eq(b:List Tx)(u:∀t∈b,t.length<=50)(z:(fillS b 46).length<=999999):v_ a [.val (.lst (am b))]=.ok (.own (.lst (am (fillS b 46)))) [.val (.lst (am b))]:=by
 obtain⟨q,g,j,p,rest,d,s,rfl⟩:=lN (i:=2) (db:=(gJ 1 (dF (bE [2] (aU (dC (.str [97,98,99]))) (b7) (d2 bj (dV 1) (dV 0))))))
  (I:=λr m=>∃(j:Slot) (p rest:List Tx),b=p++rest/\r=am rest/\m=[.val (.lst (am b)),.own (.lst (am (fillS p 46))),j])
  (by
   rintro x r m ⟨j,p,rest,d,n,rfl⟩;cases rest with
   |nil=>cases n
   |cons t rest=>
    have o:x::r=.str t::am rest:=n;simp only[mZ]at o;obtain⟨rfl,rfl⟩:=o;have f:=th_comp t (.val (.lst (am b))) (.own (.lst (am (fillS p 46)))) (u t (by rw[d];simp));have h:dA (.str [97,98,99])=aa (cz.map λc=>.str [c]):=rfl;have w:fillS (p++[t]) 46=fillS p 46++cz.map λc=>t++[c]:=by simp[fillS,opts]
    have l:(am (fillS p 46)).length+(am (cz.map λc=>t++[c])).length<=bD:=by
     rw[kC,kC];have A:(fillS p 46).length+(cz.map λc=>t++[c]).length<=(fillS b 46).length:=by rw[d];simp only[fillS,Eo,uA,iT,opts,if_true];lia
     unfold bD;lia
    refine⟨[.val (.lst (am b)),.own (.lst (am (fillS (p++[t]) 46))),↥t],?_,↥t,p++[t],rest,by rw[d];simp,rfl,rfl⟩;rw[w,<-Ja];generalize am (cz.map λc=>t++[c])=Y at f l;generalize am (fillS p 46)=L at f l;generalize (cz.map λc=>PV.str [c])=A3 at f h;generalize am b=RR at f;simp![gJ,bE,aU,h,f,l])
  (am b) [.val (.lst (am b)),.own (.lst (am (fillS [] 46))),.none] ⟨.none,[],b,by simp,rfl,rfl⟩
 have v:rest=[]:=by cases rest with|nil=>rfl|cons=>cases s
 subst v;rw[ix]at d;rw[<-d]at g;have h:dA (.lst (am b))=aa (am b):=rfl;have y:am (fillS [] 46)=[]:=rfl;rw[y]at g;generalize am (fillS b 46)=R1 at g;generalize am b=R0 at g h;simp![v_,yaM,dH,bZ,aU,h,g,k8]
def lstsP(b:List (List Tx)):List PV:=b.map λr=>.lst (am r)
def timesL(b:List (List Tx))(c:List Tx):List (List Tx):=b.flatMap λr=>c.map λx=>r++[x]
def ti_comp(r b:List Tx)(d c:Slot)(i:r.length<=50):iL [3] b7 (d2 bj (dV 1) (dF (dL cM (ay (dV 0) (aE))))) (am b) [] [d,.val (.lst (am b)),c,.val (.lst (am r))]=.ok (lstsP (b.map λx=>r++[x])) [d,.val (.lst (am b)),c,.val (.lst (am r))]:=by
 have g:=g7 (cap:=[3]) (dt:=b7) (de:=(d2 bj (dV 1) (dF (dL cM (ay (dV 0) (aE)))))) (ε:=[d,.val (.lst (am b)),c,.val (.lst (am r))]) (λ_=>ah) (λx=>.lst (am r++[x])) (am b)
  (by
   intro x h;have f:bj (.lst (am r)) (.lst [x])=aa (.lst (am r++[x])):=by
    have:(am r).length+1<=bD:=by rw[kC];unfold bD;lia
    simp[bj,this]
   generalize am b=M;generalize am r++[x]=RX at f;generalize am r=RP at f;refine⟨by simp![bQ,bW,bq,b7],λ_=>?_⟩;simp![bQ,bW,bq,f]) []
 rw[eW,m8.mpr (by simp)]at g;rw[g];congr 1;simp[lstsP,am,cT,l3]
def lstsP_app(x y:List (List Tx)):lstsP (x++y)=lstsP x++lstsP y:=by simp[lstsP]
def lstsP_len(x:List (List Tx)):(lstsP x).length=x.length:=by simp[lstsP]
def times_eq(c:List (List Tx))(b:List Tx)(s:∀t∈c,t.length<=50)(y:(timesL c b).length<=999999):vY a [.val (.lst (lstsP c)),.val (.lst (am b))]=.ok (.own (.lst (lstsP (timesL c b)))) [.val (.lst (lstsP c)),.val (.lst (am b))]:=by
 obtain⟨o,g,j,p,rest,d,q,rfl⟩:=lN (i:=3) (db:=(gJ 2 (dF (bE [3] (aU (dV 1)) (b7) (d2 bj (dV 1) (dF (dL cM (ay (dV 0) (aE)))))))))
  (I:=λr ε=>∃(j:Slot) (p rest:List (List Tx)),c=p++rest/\r=lstsP rest/\ε=[.val (.lst (lstsP c)),.val (.lst (am b)),.own (.lst (lstsP (timesL p b))),j])
  (by
   rintro x r ε ⟨j,p,rest,d,m,rfl⟩;cases rest with
   |nil=>cases m
   |cons t rest=>
    have n:x::r=.lst (am t)::lstsP rest:=m;simp only[mZ]at n;obtain⟨rfl,rfl⟩:=n;have f:=ti_comp t b (.val (.lst (lstsP c))) (.own (.lst (lstsP (timesL p b)))) (s t (by rw[d];simp));have h:dA (.lst (am b))=aa (am b):=rfl;have v:timesL (p++[t]) b=timesL p b++b.map λx=>t++[x]:=by simp[timesL]
    have l:(lstsP (timesL p b)).length+(lstsP (b.map λx=>t++[x])).length<=bD:=by
     rw[lstsP_len,lstsP_len];have z:(timesL p b).length+(b.map λx=>t++[x]).length<=(timesL c b).length:=by rw[d];simp only[timesL,Eo,uA,iT];lia
     unfold bD;lia
    refine⟨[.val (.lst (lstsP c)),.val (.lst (am b)),.own (.lst (lstsP (timesL (p++[t]) b))),.val (.lst (am t))],?_,.val (.lst (am t)),p++[t],rest,by rw[d];simp,rfl,rfl⟩;rw[v,lstsP_app];generalize lstsP (b.map λx=>t++[x])=Y at f l;generalize lstsP (timesL p b)=L at f l;generalize am b=M at f h;generalize lstsP c=RR at f;generalize am t=T at f;simp![gJ,bE,aU,h,f,l])
  (lstsP c) [.val (.lst (lstsP c)),.val (.lst (am b)),.own (.lst (lstsP (timesL [] b))),.none] ⟨.none,[],c,by simp,rfl,rfl⟩
 have u:rest=[]:=by cases rest with|nil=>rfl|cons=>cases q
 subst u;rw[ix]at d;rw[<-d]at g;have h:dA (.lst (lstsP c))=aa (lstsP c):=rfl;have w:lstsP (timesL [] b)=[]:=rfl;rw[w]at g;generalize lstsP (timesL c b)=R1 at g;generalize lstsP c=R0 at g h;generalize am b=M at g;simp![vY,yaN,dH,bZ,aU,h,g,k8]
def fiB(a:Ad):ac aM:=bw 3 (cO (dB (d2 (Pu.eqT ak) (dV 4) (dC (.str [46])))) (bA (bg (v_ a) (gV (dV 3) (Pu.bY)))) (dF (bE [4] (aU (dV 3)) (b7) (d2 bj (dV 0) (dV 1)))))
def fi_comp(b:List Tx)(d:Nat)(h g f c:Slot)(m:∀t∈b,t.length<=50):iL [4] b7 (d2 bj (dV 0) (dV 1)) (am b) [] [h,g,f,.val (.lst (am b)),.val (.str [d]),c]=.ok (am (b.map λt=>t++[d])) [h,g,f,.val (.lst (am b)),.val (.str [d]),c]:=by
 have j:=g7 (cap:=[4]) (dt:=b7) (de:=(d2 bj (dV 0) (dV 1))) (ε:=[h,g,f,.val (.lst (am b)),.val (.str [d]),c]) (λ_=>ah) (λx=>match x with|.str t=>.str (t++[d])|_=>.non) (am b)
  (by intro x l;obtain⟨t,i,rfl⟩:=b8.mp l;have o:=m t i;have n:bj (.str t) (.str [d])=aa (.str (t++[d])):=qo (by simp[bD];lia);generalize am b=RR;refine⟨by simp![bQ,bW,bq,b7],λ_=>?_⟩;simp![bQ,bW,bq,n]) []
 rw[eW,m8.mpr (by simp)]at j;rw[j];congr 1;simp[am,cT,l3]
def fi_step(b:List Tx)(d:Nat)(i h g f:Slot)(j:∀t∈b,t.length<=50)(o:(fillS b d).length<=999999):fiB a [i,h,g,.val (.lst (am b)),.val (.str [d]),f]=.ok .next [i,h,g,.val (.lst (am (fillS b d))),.val (.str [d]),f]:=by
 have l:=yI ak [d] [46];by_cases m:d=46
 .subst m;have n:=three_eq (a:=a) b j o;generalize am (fillS b 46)=R1 at n;generalize am b=R0 at n;simp![fiB,l,n]
 .have c:=fi_comp b d i h g f j;have e:fillS b d=b.map λt=>t++[d]:=by
   unfold fillS opts;rw[if_neg m];clear c j o
   induction b with
   |nil=>rfl
   |cons t b q=>rw[uA,q];rfl
  have p:dA (.lst (am b))=aa (am b):=rfl;rw[e];have r:decide (([d]:Tx)=[46])=ak:=decide_eq_false (~~~m);rw[r]at l;generalize am (b.map λt=>t++[d])=R1 at c;generalize am b=R0 at c p;simp![fiB,l,bE,aU,p,c]
def fi_for(b:Tx)(B:b.length<=40)(A:b.count 46<=6)(j h f g:Slot):∃m,bZ 4 (aU (dV 2)) (fiB a) [j,h,↥b,.val (.lst (am [[]])),f,g]=.ok .next [j,h,↥b,.val (.lst (am (fills b))),m,g]:=by
 obtain⟨u,s,m,p,rest,l,z,rfl⟩:=lN (i:=4) (db:=fiB a)
  (I:=λr ε=>∃(f:Slot) (p rest:Tx),b=p++rest/\r=rest.map (λc=>PV.str [c])/\ε=[j,h,↥b,.val (.lst (am (fills p))),f,g])
  (by
   rintro x r ε ⟨f,p,rest,l,n,rfl⟩;cases rest with
   |nil=>cases n
   |cons d rest=>
    simp only[cR,mZ]at n;obtain⟨rfl,rfl⟩:=n;have C:p.length+1<=b.length:=by rw[l];simp
    have o:(p++[d]).count 46<=6:=by
     grind
    have e:fillS (fills p) d=fills (p++[d]):=by unfold fills;rw[fillF_app];rfl
    have q:=fi_step (a:=a) (fills p) d j h (↥b) g (λt v=>by rw[fill_long v];lia) (by rw[e,fills_len];have:=pow6 o;lia);rw[e]at q;exact⟨_,q,.val (.str [d]),p++[d],rest,by rw[l];simp,rfl,rfl⟩)
  (b.map λc=>.str [c]) [j,h,↥b,.val (.lst (am (fills []))),f,g] ⟨f,[],b,rfl,rfl,rfl⟩
 have w:rest=[]:=by simp_all
 subst w;rw[ix]at l;rw[<-l]at s;refine⟨m,?_⟩;have y:dA (.str b)=aa (b.map λc=>.str [c]):=rfl;unfold bZ aU dV;simp only[DQ,D6,R.bind_ok,y,bS];exact s
def fiO(a:Ad):ac aM:=aH (bw 3 (dF (dL cM (ay (dC (.str [])) (aE))))) (aH (bZ 4 (aU (dV 2)) (fiB a)) (bw 1 (bA (bg (vY a) (gV (dV 1) (gV (dV 3) (Pu.bY)))))))
def d_law_filled_def:yaH a=aH (bw 1 (dF (dL cM (ay (dF (dL cM (aE))) (aE))))) (aH (λε=>dH (bZ 2 (aU (d2 bd (dV 0) (dC (.int 1)))) (fiO a) ε)) (aH (bw 5 (dF (dL sortSetVP (ay (dF (bE [0] (aU (dV 1)) (b7) (dL eh (ay (d2 bd (dV 1) (dC (.int 0))) (ay (dL iJ (ay (dF (dL jf (ay (dV 0) (aE)))) (aE))) (aE)))))) (aE))))) (jV (bE [] (aU (dV 5)) (dB (d2 (Pu.eqT ah) (bA (bg (sK a) (gV (dV 0) (Pu.bY)))) (dF (dL cM (aE))))) (dV 0))))):=rfl
def prs_vw(w:Int):∀(ks:List (List Tx)),(∀k∈ks,k≠[])->prs (ks.map λk=>prV (w,k))=aa (ks.map λk=>(w,k))
 |[],_=>rfl
 |k::ks,h=>by
  have d:=h k (by simp);have b:=prs_vw w ks λx c=>h x (by simp[c]);show(pr1 (prV (w,k))).bind (λq=>(prs (ks.map λk=>prV (w,k))).bind λr=>aa (q::r))=_;rw[b];have e:pr1 (prV (w,k))=aa (w,k):=by show(fV (am k)).bind _=_;rw[oN];simp[d]
  rw[e];rfl
def sortSetVP_vw(w:Int)(ks:List (List Tx))(h:∀k∈ks,k≠[])(f:ks.length<4000):sortSetVP [.lst (ks.map λk=>prV (w,k))]=aa (.lst ((sortK (uniqK (ks.map λk=>(w,k)))).map prV)):=by
 show(prs (ks.map λk=>prV (w,k))).bind _=_;rw[prs_vw w ks h,gz,if_pos];have d:=uniqK_len (ks.map λk=>((w,k):PrK));rw[cK]at d;refine⟨∅,λk c=>?_⟩;obtain⟨x,b,rfl⟩:=b8.mp c;cases ks with
 |nil=>cases b
 |cons y ks=>rfl
def rows_long(h:r∈rowsF b):r.length=b.length:=qP (rowsF_mem.mp h)
def eqT_nil(b:Bool)(ls:List Tx):Pu.eqT b (.lst (am ls)) (.lst [])=aa (.bl (b^^decide (ls=[]))):=by show(if fW (.lst (am ls))<=8 then(gw (am ls) (am [])).map (λk=>PV.bl (b^^k))else ae)=_;rw[if_pos (by show fg (am ls)+1<=8;rw[vg];decide),yf];rfl
def filled_eq(b:Blur w c):y8 a [.val (aI w c)]=.ok (.own (.lst (vwsP w (viewsC w c)))) [.val (aI w c)]:=by
 have g:=b.g;have hms:=g.few;have xR:=g.some;have S:=b.d6;obtain⟨Z,u,l,j,d,f,p,rest,q,jw,rfl⟩:=lN (i:=2) (db:=fiO a)
  (I:=λr ε=>∃(l j d f:Slot) (p rest:List Tx),c=p++rest/\r=am rest/\ε=[.val (aI w c),.val (.lst (lstsP (rowsF p))),l,j,d,f])
  (by
   rintro x r ε ⟨l,j,d,f,p,rest,q,o,rfl⟩;cases rest with
   |nil=>cases o
   |cons b rest=>
    have T:x::r=.str b::am rest:=o;simp only[mZ]at T;obtain⟨rfl,rfl⟩:=T;have P:b∈c:=by rw[q];simp
    have hbl:=g.len b P;have pP:=‹Blur w c›.w4;have M:b.count 46<=6:=c7 (dots_mem P) S;have Vu:p.length<=9:=by grind
    obtain⟨Q,m⟩:=fi_for (a:=a) b ∅ M (.val (aI w c)) (.val (.lst (lstsP (rowsF p)))) d f;have e:timesL (rowsF p) (fills b)=rowsF (p++[b]):=by unfold rowsF;rw[z5];rfl
    have J:cy (p++[b])<=6:=by
     have m:=dots_app p (b::rest);rw[<-q]at m;have h:cy (b::rest)=b.count 46+cy rest:=by simp[cy]
     have h3:cy (p++[b])=cy p+b.count 46:=by rw[dots_app];simp[cy]
     lia
    have h:=times_eq (a:=a) (rowsF p) (fills b) (λt y=>by rw[rows_long y];lia) (by rw[e,rowsF_len];have:=pow6 J;lia);rw[e]at h;refine⟨[.val (aI w c),.val (.lst (lstsP (rowsF (p++[b])))),↥b,.val (.lst (am (fills b))),Q,f],?_,↥b,_,Q,f,p++[b],rest,by rw[q];simp,rfl,rfl⟩;have e0:am [[]]=[.str []]:=rfl;rw[e0]at m;generalize lstsP (rowsF (p++[b]))=R1 at h;generalize lstsP (rowsF p)=R0 at m h;generalize am (fills b)=FB at m h;refine(cf (ε1:=[.val (aI w c),.val (.lst R0),↥b,.val (.lst [.str []]),d,f]) (by simp![])).trans ?_;refine(cf m).trans ?_;simp![h])
  (am c) [.val (aI w c),.val (.lst (lstsP (rowsF []))),.none,.none,.none,.none] ⟨.none,.none,.none,.none,[],c,rfl,rfl,rfl⟩
 have eX:rest=[]:=by cases rest with|nil=>rfl|cons=>cases jw
 subst eX;rw[ix]at q;rw[<-q]at u;have D:bd (aI w c) (.int 1)=aa (.tup (am c)):=rfl;have E:bd (aI w c) (.int 0)=aa (.int w):=rfl;have X:dA (.tup (am c))=aa (am c):=rfl;have Y:dA (.lst (lstsP (rowsF c)))=aa (lstsP (rowsF c)):=rfl;have s:=g7 (cap:=[0]) (dt:=b7) (de:=(dL eh (ay (d2 bd (dV 1) (dC (.int 0))) (ay (dL iJ (ay (dF (dL jf (ay (dV 0) (aE)))) (aE))) (aE))))) (ε:=[.val (aI w c),.val (.lst (lstsP (rowsF c))),l,j,d,f]) (λ_=>ah)
  (λx=>match x with|.lst xs=>prV ((w:Int),aT (xs.filterMap λx=>match x with|.str t=>aa t|_=>ae))|_=>.non) (lstsP (rowsF c))
  (by
   intro x F;obtain⟨r,o,rfl⟩:=b8.mp F;have hrl:=rows_long o;have H:=BA (ls:=r) ∅;have C:(am r).filterMap (λx=>match x with|.str t=>aa t|_=>ae)=r:=by unfold am;rw[zT];simp[l3]
   have y:iJ [.lst (am (aT r))]=aa (.tup (am (aT r))):=rfl;simp only[C];unfold prV;generalize am (aT r)=SR at H y;generalize am r=RR at H;generalize lstsP (rowsF c)=R0;generalize aI w c=V at E;generalize ((w:Nat):Int)=WI at E;refine⟨by simp![bQ,bW,bq,b7],λ_=>?_⟩;simp![bQ,bW,bq,E,H,y]) []
 rw[eW,m8.mpr (by simp)]at s;have EI:(lstsP (rowsF c)).map (λx=>match x with|.lst xs=>prV ((w:Int),aT (xs.filterMap λx=>match x with|.str t=>aa t|_=>ae))|_=>.non)=((rowsF c).map aT).map λk=>prV ((w:Int),k):=by
  unfold lstsP;rw[cT,cT];refine lY λr _=>?_;have C:(am r).filterMap (λx=>match x with|.str t=>aa t|_=>ae)=r:=by unfold am;rw[zT];simp[l3]
  show prV ((w:Int),aT ((am r).filterMap λx=>match x with|.str t=>aa t|_=>ae))=_;rw[C];rfl
 rw[EI]at s;have v:=sortSetVP_vw (w:Int) ((rowsF c).map aT) (λk L=>by obtain⟨r,o,rfl⟩:=b8.mp L;intro z;have:=rows_long o;have h:=(fk r).length_eq;rw[z]at h;simp at h;lia) (by rw[cK,rowsF_len];have:=pow6 S;lia);have eO:=views_same (w:Int) c;have Vw:((rowsF c).map aT).map (λk=>(((w:Nat):Int),k))=(rowsF c).map λr=>(((w:Nat):Int),aT r):=by rw[cT];rfl
 rw[Vw,eO]at v;have G:((cZ (waysF c)).map λk=>(((w:Nat):Int),k)).map prV=vwsP w (cZ (waysF c)):=by rw[cT];rfl
 rw[G]at v;have n:=g7 (cap:=[]) (dt:=(dB (d2 (Pu.eqT ah) (bA (bg (sK a) (gV (dV 0) (Pu.bY)))) (dF (dL cM (aE)))))) (de:=dV 0) (ε:=[.val (aI w c),.val (.lst (lstsP (rowsF c))),l,j,d,.val (.lst (vwsP w (cZ (waysF c))))]) (λx=>hasT w (unVw x)) (λx=>x) (vwsP w (cZ (waysF c)))
  (by
   intro x F;obtain⟨k,L,rfl⟩:=b8.mp F;obtain⟨gk,sk⟩:=ways_good b ((nM _).mem_iff.mp L);have N:=Rk (a:=a) gk b.w1 b.w4 sk;have A:=eqT_nil ah (kA w k);rw[unVw_vw];have hh:(ah^^decide (kA w k=[]))=hasT w k:=by unfold hasT;simp
   rw[hh]at A;generalize aI w c=V;generalize vwsP w (cZ (waysF c))=VS;generalize lstsP (rowsF c)=R0;generalize hasT w k=B at A;generalize aI w k=W at N;generalize am (kA w k)=TT at N A;refine⟨?_,λ_=>?_⟩
   .simp![bQ,bW,bq,N,A]
   .simp![bQ,bW,bq]) []
 rw[eW,ok_filter _ (hasT w) _ (λk=>by rw[unVw_vw])]at n;have O:dA (.lst (vwsP w (cZ (waysF c))))=aa (vwsP w (cZ (waysF c))):=rfl;have EJ:yaH a [.val (aI w c),.none,.none,.none,.none,.none]=.ok (.ret (.own (.lst (vwsP w (viewsC w c))))) [.val (aI w c),.val (.lst (lstsP (rowsF c))),l,j,d,.val (.lst (vwsP w (cZ (waysF c))))]:=by
  rw[d_law_filled_def];have m:(bw 1 (dF (dL cM (ay (dF (dL cM (aE))) (aE))))) [.val (aI w c),.none,.none,.none,.none,.none]=.ok .next [.val (aI w c),.val (.lst (lstsP (rowsF []))),.none,.none,.none,.none]:=by have:lstsP (rowsF [])=[.lst []]:=rfl;rw[this];simp![]
  refine(cf m).trans ?_;unfold viewsC;generalize vwsP w ((cZ (waysF c)).filter (hasT w))=RF at n;generalize vwsP w (cZ (waysF c))=RV at n v O;generalize ((rowsF c).map aT).map (λk=>prV ((w:Int),k))=RP at s v;generalize lstsP (rowsF c)=R1 at u s Y n;generalize lstsP (rowsF [])=R0 at u;generalize am c=B at u D X;generalize aI w c=V at u D s n;refine(cf (ε1:=[.val V,.val (.lst R1),l,j,d,f]) (by simp![dH,bZ,aU,D,X,u])).trans ?_;refine(cf (ε1:=[.val V,.val (.lst R1),l,j,d,.val (.lst RV)]) ?_).trans ?_
  .simp![bE,aU,Y,s,v]
  .simp![jV,bE,aU,O,n]
 simp[y8,bJ,gq,bI,dW,EJ,back,gu,aS,R.bind]
end
def paired_perm{f d:Type}{i:f->d->Prop}{m g:List d}(p:m.Perm g):∀{l:List f},eV i l m->∃a,l.Perm a/\eV i a g:=by
 induction p with
 |nil=>intro l h;cases h;exact⟨[],.nil,.nil⟩
 |cons x _ v=>
  intro l h;cases h with
  |cons r h=>obtain⟨a,s,A⟩:=v h;exact⟨_::a,s.cons _,.cons r A⟩
 |swap x y r=>
  intro l h;cases h with
  |cons n h=>cases h with
   |cons j h=>exact⟨_,List.Perm.swap ..,.cons j (.cons n h)⟩
 |trans _ _ c b=>intro l h;obtain⟨B,q,z⟩:=c h;obtain⟨u,o,w⟩:=b z;exact⟨u,q.trans o,w⟩
def paired_set:∀{l:List b}{m:List a}{i:Nat}{x:b}{y:a},eV c l m->l[i]?=aa x->c x y->eV c l (m.set i y)
 |_,_,0,x,y,.cons r t,h,hy=>by simp at h;subst h;exact .cons hy t
 |_,_,i+1,x,y,.cons r t,h,hy=>.cons r (paired_set t (~~~h) hy)
 |_,_,_,_,_,.nil,h,_=>by simp at h
def fit_self:∀{x:Tx},(∀c∈x,c∈cz)->Fit x x
 |[],_=>.nil
 |c::x,h=>.cons (opts_mem.mpr (.inr ⟨by rintro rfl;have:=h 46 (by simp);simp[cz]at this,rfl⟩)) (fit_self λd a=>h d (by simp[a]))
def fit_dot:∀{x b:Tx} (u:Nat),(∀c∈x,c∈cz)->Fit x b->Fit x (b.set u 46)
 |_,_,_,_,.nil=>.nil
 |_,_,0,h,.cons r t=>.cons (opts_mem.mpr (.inl ⟨rfl,h _ (by simp)⟩)) t
 |_,_,u+1,h,.cons r t=>.cons r (fit_dot u (λc a=>h c (by simp[a])) t)
def pairedFit_self:∀{a:List Tx},(∀x∈a,∀c∈x,c∈cz)->eV Fit a a
 |[],_=>.nil
 |x::a,h=>.cons (fit_self (h x (by simp))) (pairedFit_self λy b=>h y (by simp[b]))
def Good.dots0(g:Good cz w a):cy a=0:=by
 unfold cy;have:∀x∈a,x.count 46=0:=λx h=>List.count_eq_zero.mpr λd=>by have:=g.abc x h 46 d;simp[cz]at this
 clear g
 induction a with
 |nil=>rfl
 |cons x a b=>rw[cR,mV,this x (by simp),b λy c=>this y (by simp[c])]
def Good.dab(g:Good cz w a):Good gY w a:=⟨g.len,λx h c b=>by have:=g.abc x h c b;simp[cz]at this;simp[gY];lia,g.some,g.few⟩
section
variable{a:Ad}
def blurredN_eq(p:List Int)(xs:List PV)(w:Nat)(f:List Tx)(j:Nat)(h6:j<=6)(w1:1<=w)(w4:w<=4)(hx:xs.length<=200)(g:Good cz w f)(hs:f.Pairwise (λa b=>dD a b=ah)):∃(d:List Tx) (o:List PV),Blur w d/\cy d<=j/\f∈waysF d/\o.length<=300 /\ yY a [bR p,.own (.lst xs),.val (aI w f),⇑j]=.ok (.val (aI w d)) [bR p,.own (.lst o),.val (aI w f),⇑j]:=by
 obtain⟨m,m0,m1,Z⟩:=mI (a:=a) p xs ((j:Nat)+1) ∅ ∅;obtain⟨n,rfl⟩:∃n:Nat,m=n:=⟨m.toNat,∅⟩
 have hr:kD [.int n]=aa (eR 0 n):=vZ ∅;have bz:(eR 0 n).length=n:=by simp[eR]
 have g0:Good gY w f:=g.dab;have d0:cy f=0:=g.dots0;obtain⟨ε',e1,o,d,G,rfl,s,hd,hy,z⟩:=vn (i:=5) (db:=(zi 4 (bA (bg (hU a) (gV (dV 0) (gO 1 (gV (u9 4) (Pu.bY)))))) (bA (bg (hU a) (gV (dV 0) (gO 1 (gV (d2 bd (dV 2) (dC (.int 0))) (Pu.bY)))))) (dC (.str [46]))))
  (I:=λk C=>∃o d G,C=[bR p,.own (.lst o),.val (.tup [.int w,.tup (am f)]),⇑j,.own (.lls (d.map eM)),G]/\Good gY w d/\cy d<=k/\o.length<=xs.length+1+2*k/\eV Fit f d) (N:=n)
  (by
   rintro k C x hk ⟨o,d,G,rfl,s,hd,hy,z⟩;have hll:f.length=d.length:=qP z;obtain⟨v,v0,v1,hv⟩:=mI (a:=a) p o (d.length:Nat) (by have:=s.some;lia) ∅;obtain⟨u,u0,u1,Y⟩:=mI (a:=a) p (o++[.int 0]) (w:Nat) ∅ (by simp;lia);have L:v.toNat<d.length:=∅
   obtain⟨q,E⟩:∃q,d[v.toNat]?=aa q:=⟨_,d9 L⟩
   obtain⟨D,F⟩:∃D,f[v.toNat]?=aa D:=⟨_,d9 ∅⟩
   have A:q∈d:=kc E;have B:=s.len q A;have hf:Fit D q:=by
    have:∀{l m:List Tx} (i:Nat) (x y:Tx),eV Fit l m->l[i]?=aa x->m[i]?=aa y->Fit x y:=by
     intro l m i x y r
     induction r generalizing i with
     |nil=>grind
     |cons r _ ih=>
      intro W T;cases i with
      |zero=>simp at W T;subst W T;exact r
      |succ i=>exact ih i (~~~W) (~~~T)
    exact this _ _ _ z F E
   refine⟨[bR p,.own (.lst (o++[.int 0]++[.int 0])),.val (.tup [.int w,.tup (am f)]),⇑j,.own (.lls ((d.set v.toNat (q.set u.toNat 46)).map eM)),.val x],?_,_,_,_,rfl,s.put (by simp[B]) (λc Q=>?_),?_,by simp;lia,paired_set z F (fit_dot _ (g.abc D (kc F)) hf)⟩
   .have X:il (d.map eM).length v=aa v.toNat:=CU v0 (by rw[cK];exact v1);have i2:il (eM q).length u=aa u.toNat:=CU u0 (by rw[RY,B];exact u1);have i3:(d.map eM)[v.toNat]?=aa (eM q):=by rw[d8,E];rfl
    have J:bd (.tup [.int w,.tup (am f)]) (.int 0)=aa (.int w):=rfl;have H:(d.map eM).length=d.length:=cK _;simp only[jN,rq,eW]at Y;simp only[cK]at X;generalize ((j:Nat):Int)=M6;simp![zi,u9,lf,H,hv,X,i3,J,Y,i2,UL,<-map_set]
   .rcases KB Q with Q|rfl
    .exact s.abc q A c Q
    .simp[gY]
   .have:=NW d v.toNat q (q.set u.toNat 46) E (LM q u.toNat 46);lia)
  (eR 0 n) 0 [bR p,.own (.lst (xs++[.int 0])),.val (.tup [.int w,.tup (am f)]),⇑j,.own (.lls (f.map eM)),.none] ∅ ⟨xs++[.int 0],f,.none,rfl,g0,∅,by simp,pairedFit_self g.abc⟩
 have O:cy (aT d)<=j:=by rw[TX (fk d)];lia
 refine⟨aT d,o,⟨s.perm (fk _),w1,w4,∅,tI _⟩,O,?_,∅,?_⟩
 .obtain⟨l',p',h'⟩:=paired_perm (fk d).symm z;exact waysF_mem.mpr ⟨l',by rw[<-sA p',qH hs],h'⟩
 have J:bd (.tup [.int w,.tup (am f)]) (.int 0)=aa (.int w):=rfl;have H:bd (.tup [.int w,.tup (am f)]) (.int 1)=aa (.tup (am f)):=rfl;have S:bj (.int j) (.int 1)=aa (.int ((j:Nat)+1)):=rfl;have ij:d.length<=1000000:=by have:=s.few;lia
 have hj:=λC=>LZ d (λx h=>by rw[s.len x h];lia) C;have M:(d.map eM).map PV.lst=d.map λx=>PV.lst (eM x):=by simp_all
 have P:=O3 f;generalize ((j:Nat):Int)+1=M7 at Z S;generalize ((j:Nat):Int)=M6 at S e1 ⊢;simp[yY,yaE,aH,cO,dB,d2,d1,dV,dC,dL,dF,ay,aE,cB,pV,bw,cX,bg,gV,gO,Pu.bY,fP,fX,cI,eU,i9,R.bind,aS,bJ,gq,bI,back,gu,oJ,ji,AZ,zy,zb,bA,kB,cM,eh,f9,I_,wq,IL,mq,zv,pW,mn,lz,HB,qm,dX,eY,vH,k9,v4,dW,pi,H,zj,aU,dA,P,S,Z,bZ,hr,dH,e1,J,zt,lf,bE,M,hj,jf,oN,ij,iJ]
end
section
def in_tup(x:Tx)(k:List Tx):iF ak (.str x) (.tup (am k))=aa (.bl (decide (x∈k))):=by
 show(dI (.str x)).bind (λv=>(iM (am k)).map λb=>PV.bl (ak^^oX v b))=_;rw[GO];show aa (PV.bl (ak^^oX (tV x) (cr k)))=_;rw[wY];congr 2;unfold oX cr;rw[Ep,nZ,KG,decide_eq_true_eq];constructor
 .rintro⟨z,d,c⟩;have:x=z:=by simpa[C5,eq_comm]using c
  lia
 .intro h;exact⟨x,h,by simp[C5]⟩
def inAll(V:List (List Tx))(x:Tx):Bool:=V.all λk=>decide (x∈k)
def ina_eq(w:Nat)(V:List (List Tx))(x:Tx):vQ a [↥x,.val (.lst (vwsP w V))]=.ok (.val (.bl (inAll V x))) [↥x,.val (.lst (vwsP w V))]:=by
 have b:=g7 (cap:=[0]) (dt:=b7) (de:=(d2 (iF ak) (dV 1) (d2 bd (dV 0) (dC (.int 1))))) (ε:=[↥x,.val (.lst (vwsP w V))]) (λ_=>ah) (λy=>.bl (decide (x∈unVw y))) (vwsP w V)
  (by intro y i;obtain⟨k,l,rfl⟩:=b8.mp i;have c:=in_tup x k;have d:bd (aI w k) (.int 1)=aa (.tup (am k)):=rfl;rw[unVw_vw];generalize decide (x∈k)=D at c;generalize am k=B at c d;generalize aI w k=W at d;generalize vwsP w V=VS;refine⟨by simp![bQ,bW,bq,b7],λ_=>?_⟩;simp![bQ,bW,bq,d,c]) []
 rw[eW,m8.mpr (by simp)]at b;have j:(vwsP w V).map (λy=>PV.bl (decide (x∈unVw y)))=(V.map λk=>decide (x∈k)).map .bl:=by unfold vwsP;rw[cT,cT];refine lY λk _=>?_;show PV.bl (decide (x∈unVw (aI w k)))=_;rw[unVw_vw];rfl
 rw[j]at b;have f:=yD (V.map λk=>decide (x∈k));have h:(V.map λk=>decide (x∈k)).all id=inAll V x:=by unfold inAll;simp_all
 rw[h]at f;have g:dA (.lst (vwsP w V))=aa (vwsP w V):=rfl;generalize (V.map λk=>decide (x∈k)).map PV.bl=BS at b f;generalize vwsP w V=VS at b g;simp![vQ,yaw,bE,aU,g,b,f]
def seenT(V:List (List Tx)):List Tx:=(aT (dZ (V.headD []))).filter (inAll V)
def sortSetTP_eq{k:List Tx}(h:k.length<=1000):qD [.tup (am k)]=aa (.lst (am (aT (dZ k)))):=by show(fV (am k)).bind _=_;rw[oN,gz,if_pos];have:(dZ k).length<=k.length:=(RL k).length_le_of_subset λz b=>(BF _ _).mp b;lia
def seens_no(b:Blur w c)(h:viewsC w c=[]):qL a [.val (aI w c)]=.er (.ref a.Never) [.val (aI w c)]:=by have d:=cleared_eq (a:=a) b;rw[h]at d;have i:vwsP w []=[]:=rfl;rw[i]at d;have f:bV [.lst []]=aa (.int 0):=rfl;have g:=tm ak 0 0;generalize aI w c=V at d;simp![qL,yaS,d,f,g,vk,bq]
def seens_yes(b:Blur w c)(h:viewsC w c≠[]):qL a [.val (aI w c)]=.ok (.own (.lst (am (seenT (viewsC w c))))) [.val (aI w c)]:=by
 have o:=cleared_eq (a:=a) b;obtain⟨k,V,n⟩:=Er h;have l:k∈viewsC w c:=by rw[n];simp
 obtain⟨u,_⟩:=ways_good b ((nM _).mem_iff.mp (kH.mp l).1);have z:=u.few;have f:=sortSetTP_eq (k:=k) ∅;have j:bV [.lst (vwsP w (viewsC w c))]=aa (.int ((viewsC w c).length:Nat)):=by simp[bV,vwsP]
 have p:Pu.eqT ak (.int ((viewsC w c).length:Nat)) (.int 0)=aa (.bl ak):=by rw[tm,decide_eq_false (by grind)];rfl
 have g:bd (.lst (vwsP w (viewsC w c))) (.int 0)=aa (aI w k):=by rw[n];show fI (aI w k::vwsP w V) 0=_;rw[tw (by decide) (by simp)];rfl
 have i:bd (aI w k) (.int 1)=aa (.tup (am k)):=rfl;have d:=g7 (cap:=[1]) (dt:=(dB (bA (bg (vQ a) (gV (dV 0) (gV (dV 1) (Pu.bY))))))) (de:=dV 0) (ε:=[.val (aI w c),.val (.lst (vwsP w (viewsC w c)))]) (λx=>match x with|.str t=>inAll (viewsC w c) t|_=>ak) (λx=>x) (am (aT (dZ k)))
  (by
   intro y r;obtain⟨t,v,rfl⟩:=b8.mp r;have m:=ina_eq (a:=a) w (viewsC w c) t;dsimp only;generalize inAll (viewsC w c) t=B at m;generalize vwsP w (viewsC w c)=VS at m;generalize aI w c=V;refine⟨?_,λ_=>?_⟩
   .simp![bQ,bW,bq,m]
   .simp![bQ,bW,bq]) []
 have s:((am (aT (dZ k))).filter (λx=>match x with|.str t=>inAll (viewsC w c) t|_=>ak)).map (λx=>x)=am (seenT (viewsC w c)):=by rw[uy];unfold seenT am;rw[ou,n];rfl
 rw[eW,s]at d;have q:dA (.lst (am (aT (dZ k))))=aa (am (aT (dZ k))):=rfl;generalize am (seenT (viewsC w c))=RS at d;generalize am (aT (dZ k))=RK at d q f;generalize am k=KP at f i;generalize aI w k=W at g i;generalize (((viewsC w c).length:Nat):Int)=LI at j p;generalize vwsP w (viewsC w c)=VS at o j g d;generalize aI w c=B at o d;simp![qL,yaS,o,j,p,jV,bE,aU,g,i,f,q,d]
end
end Sh
namespace K10
open L2 Pu Mx Sh
section
variable{a:Ad}
def vP:PV:=.tup [.str [114,101,102,117,115,101,100],.int 4]
def Wh(a:Ad):Prop:=vX a [.val (.exc (.ref a.Never))]=.ok (.val vP) [.val (.exc (.ref a.Never))]
def VQ(h:vX a [.val (.exc (.ref a.Never))]=.ok (.val vP) [.val (.exc (.ref a.Never))]):Wh a:=h
def MH(p q:List (List Tx))(x:Tx):inAll (p++q) x=(inAll p x&&inAll q x):=by simp[inAll]
def OP(b k:List Tx)(w:Nat)(n m l j i h g f d c:Slot):iL [11] (dB (d2 (iF ak) (dV 0) (d2 bd (dV 1) (dC (.int 1))))) (dV 0) (am b) [] [n,m,l,j,i,h,g,f,d,c,.val (.lst (am b)),.val (aI w k)]=.ok (am (b.filter λx=>decide (x∈k))) [n,m,l,j,i,h,g,f,d,c,.val (.lst (am b)),.val (aI w k)]:=by
 have r:=g7 (cap:=[11]) (dt:=(dB (d2 (iF ak) (dV 0) (d2 bd (dV 1) (dC (.int 1)))))) (de:=dV 0) (ε:=[n,m,l,j,i,h,g,f,d,c,.val (.lst (am b)),.val (aI w k)]) (λx=>match x with|.str t=>decide (t∈k)|_=>ak) (λx=>x) (am b)
  (by
   intro y q;obtain⟨t,s,rfl⟩:=b8.mp q;have o:=in_tup t k;have p:bd (aI w k) (.int 1)=aa (.tup (am k)):=rfl;dsimp only;generalize decide (t∈k)=D at o;generalize am k=B at o p;generalize aI w k=W at p;generalize am b=DU;refine⟨?_,λ_=>?_⟩
   .simp![bQ,bW,bq,p,o]
   .simp![bQ,bW,bq]) []
 rw[r];congr 1;rw[eW,uy];unfold am;rw[ou];rfl
def Ob(w:Nat)(V:List (List Tx))(c:List Tx)(s q o n m l j h g f b:Slot):∃d,ff 11 (bw 10 (dF (bE [11] (aU (dV 10)) (dB (d2 (iF ak) (dV 0) (d2 bd (dV 1) (dC (.int 1))))) (dV 0)))) (vwsP w V) [s,q,o,n,m,l,j,h,g,f,.val (.lst (am c)),b]=.ok .next [s,q,o,n,m,l,j,h,g,f,.val (.lst (am (c.filter (inAll V)))),d]:=by
 obtain⟨D,y,d,p,rest,v,E,rfl⟩:=lN (i:=11) (db:=(bw 10 (dF (bE [11] (aU (dV 10)) (dB (d2 (iF ak) (dV 0) (d2 bd (dV 1) (dC (.int 1))))) (dV 0)))))
  (I:=λr z=>∃(b:Slot) (p rest:List (List Tx)),V=p++rest/\r=vwsP w rest/\z=[s,q,o,n,m,l,j,h,g,f,.val (.lst (am (c.filter (inAll p)))),b])
  (by
   rintro x r z ⟨b,p,rest,v,A,rfl⟩;cases rest with
   |nil=>cases A
   |cons k rest=>
    have B:x::r=aI w k::vwsP w rest:=A;simp only[mZ]at B;obtain⟨rfl,rfl⟩:=B;have u:=OP (c.filter (inAll p)) k w s q o n m l j h g f;have G:(c.filter (inAll p)).filter (λx=>decide (x∈k))=c.filter (inAll (p++[k])):=by rw[List.filter_filter];refine Kz λx _=>?_;rw[MH,Bool.and_comm];congr 1;simp[inAll]
    rw[G]at u;refine⟨_,?_,.val (aI w k),p++[k],rest,by rw[v];simp,rfl,rfl⟩;have C:dA (.lst (am (c.filter (inAll p))))=aa (am (c.filter (inAll p))):=rfl;generalize am (c.filter (inAll (p++[k])))=R1 at u;generalize am (c.filter (inAll p))=R0 at u C;generalize aI w k=W at u;simp![bE,aU,C,u])
  (vwsP w V) [s,q,o,n,m,l,j,h,g,f,.val (.lst (am (c.filter (inAll [])))),b] ⟨b,[],V,rfl,rfl,rfl⟩
 have F:rest=[]:=by cases rest with|nil=>rfl|cons=>cases E
 subst F;rw[ix]at v;rw[<-v]at y;have H:c.filter (inAll [])=c:=m8.mpr λx _=>rfl;rw[H]at y;exact⟨d,y⟩
def Ic(w:Nat):∀ks:List (List Tx),fg (vwsP w ks)<=3
 |[]=>by simp[vwsP,fg]
 |k::ks=>by
  show max (fW (aI w k)) (fg (vwsP w ks))<=3;have c:=Ic w ks;have b:fW (aI w k)<=3:=by show max (fW (.int w)) (max (fg (am k)+1) (fg []))+1<=3;rw[vg];simp[fW,fg]
  lia
def P9(G:Wh a)(c:List Int):sD a [bR c]=.ok (.val (.bl ah)) [bR c]:=by
 have cN:pU a (.ref a.Never)=ah:=by simp[pU,jg]
 unfold Wh at G;obtain⟨x,Q,J⟩:=Io (a:=a) c [] [.int 0,.int 0,.int 0,.int 1,.int 2] (by simp) (by decide);obtain⟨sp,gT,rfl⟩:∃sp:Nat,sp<3/\x=.int sp:=by
  simp at Q;rcases Q with rfl|rfl|rfl
  .exact⟨0,by decide,rfl⟩
  .exact⟨1,by decide,rfl⟩
  .exact⟨2,by decide,rfl⟩
 obtain⟨f,f0,f5,N⟩:=mI (a:=a) c ([]++[.int 0]) 5 (by decide) (by simp);obtain⟨o,rfl⟩:∃n:Nat,f=n:=⟨f.toNat,∅⟩
 obtain⟨w,d,A,X,T,_,g,hs,_,_,H,Z⟩:=QG (a:=a) c ([]++[.int 0]++[.int 0]) sp 6 gT (by decide) (by decide) (by simp);obtain⟨b,h,bl,hdm,hlw,Y,v⟩:=blurredN_eq (a:=a) c A w d o ∅ X T (by simp at H;lia) g hs;have l:=filled_eq (a:=a) bl;have C:uS a [bR c,.own (.lst [.int 0,.int 0]),⇑sp,⇑6]=.ok (.val (aI w d)) [bR c,.own (.lst A),⇑sp,⇑6]:=Z;simp only[eW,rq]at N J;have P:∀{r:R aM},((aH (sL 8 9 (pU a) (tJ (tj (qL a) (gV (dV 5) (Pu.bY)))) (bw 7 (bA (λz=>bq (bg (vX a) (gV (dV 9) (Pu.bY)) z))))) (aH (cO (dB (d2 (Pu.eqT ak) (dV 6) (dF (dL cM (aE))))) (cB (d2 (Pu.eqT ak) (dV 7) (dL eh (ay (dC (.str [114,101,102,117,115,101,100])) (ay (dC (.int 4)) (aE)))))) (f9)) (aH (bw 10 (dF (dL qD (ay (d2 bd (d2 bd (dV 6) (dC (.int 0))) (dC (.int 1))) (aE))))) (aH (λz=>dH (bZ 11 (aU (dV 6)) (bw 10 (dF (bE [11] (aU (dV 10)) (dB (d2 (iF ak) (dV 0) (d2 bd (dV 1) (dC (.int 1))))) (dV 0)))) z)) (cB (lz (d2 (nA ak) (dV 7) (dC .non)) (d2 (Pu.eqT ak) (dV 8) (dV 10)))))))) [bR c,.own (.lst h),⇑sp,⇑o,.val (aI w d),.val (aI w b),.val (.lst (vwsP w (viewsC w b))),.val .non,.val (.lst []),.none,.none,.none]=r)->yaC a [bR c,.none,.none,.none,.none,.none,.none,.none,.none,.none,.none,.none]=r:=by
  intro r I;unfold yaC;generalize ((o:Nat):Int)=FW at N v I;generalize ((sp:Nat):Int)=SP at J C I;refine(cf (ε1:=[bR c,.own (.lst []),.none,.none,.none,.none,.none,.none,.none,.none,.none,.none]) (by simp![])).trans ?_;refine(cf (ε1:=[bR c,.own (.lst [.int 0]),⇑SP,.none,.none,.none,.none,.none,.none,.none,.none,.none]) (by simp![J])).trans ?_;refine(cf (ε1:=[bR c,.own (.lst [.int 0,.int 0]),⇑SP,⇑FW,.none,.none,.none,.none,.none,.none,.none,.none]) (by simp![N])).trans ?_;refine(cf (ε1:=[bR c,.own (.lst A),⇑SP,⇑FW,.val (aI w d),.none,.none,.none,.none,.none,.none,.none]) ?_).trans ?_
  .generalize aI w d=V at C;simp![C]
  refine(cf (ε1:=[bR c,.own (.lst h),⇑SP,⇑FW,.val (aI w d),.val (aI w b),.none,.none,.none,.none,.none,.none]) ?_).trans ?_
  .generalize aI w d=V at v;generalize aI w b=B at v;simp![v]
  refine(cf (ε1:=[bR c,.own (.lst h),⇑SP,⇑FW,.val (aI w d),.val (aI w b),.val (.lst (vwsP w (viewsC w b))),.none,.none,.none,.none,.none]) ?_).trans ?_
  .generalize aI w d=V;generalize vwsP w (viewsC w b)=VS at l;generalize aI w b=B at l;simp![l]
  refine(cf (ε1:=[bR c,.own (.lst h),⇑SP,⇑FW,.val (aI w d),.val (aI w b),.val (.lst (vwsP w (viewsC w b))),.val .non,.none,.none,.none,.none]) (by simp![])).trans ?_;refine(cf (ε1:=[bR c,.own (.lst h),⇑SP,⇑FW,.val (aI w d),.val (aI w b),.val (.lst (vwsP w (viewsC w b))),.val .non,.val (.lst []),.none,.none,.none]) (by simp![])).trans I
 by_cases y:viewsC w b=[]
 .have p:=seens_no (a:=a) bl y;have e0:vwsP w []=[]:=rfl;have u:Pu.eqT ak (.lst []) (.lst [])=aa (.bl ah):=rfl;have s:Pu.eqT ak vP (.tup [.str [114,101,102,117,115,101,100],.int 4])=aa (.bl ah):=rfl;have m:yaC a [bR c,.none,.none,.none,.none,.none,.none,.none,.none,.none,.none,.none]=.ok (.ret (.val (.bl ah))) [bR c,.own (.lst h),⇑sp,⇑o,.val (aI w d),.val (aI w b),.val (.lst []),.val vP,.val (.lst []),.none,.none,.none]:=by refine P ?_;rw[y,e0];generalize vP=RF at G s ⊢;generalize aI w b=B at p ⊢;generalize aI w d=V;simp![sL,tJ,tj,bq,p,cN,G,u,s]
  simp[sD,bJ,gq,bI,dW,m,back,gu,aS,R.bind]
 .have p:=seens_yes (a:=a) bl y;obtain⟨k,V,j⟩:=Er y;have M:k∈viewsC w b:=by rw[j];simp
  obtain⟨gk,_⟩:=ways_good bl ((nM _).mem_iff.mp (kH.mp M).1);have h9:=gk.few;have D:=sortSetTP_eq (k:=k) ∅;have E:bd (.lst (vwsP w (viewsC w b))) (.int 0)=aa (aI w k):=by rw[j];show fI (aI w k::vwsP w V) 0=_;rw[tw (by decide) (by simp)];rfl
  have F:bd (aI w k) (.int 1)=aa (.tup (am k)):=rfl;have S:Pu.eqT ak (.lst (vwsP w (viewsC w b))) (.lst [])=aa (.bl ak):=by
   rw[j];show(if fW (.lst (vwsP w (k::V)))<=8 then(gw (vwsP w (k::V)) []).map (λk=>PV.bl (ak^^k))else ae)=_;have:fW (.lst (vwsP w (k::V)))<=8:=by show fg (vwsP w (k::V))+1<=8;have:=Ic w (k::V);lia
   rw[if_pos this];rfl
  have bO:dA (.lst (vwsP w (viewsC w b)))=aa (vwsP w (viewsC w b)):=rfl;obtain⟨q,i⟩:=Ob w (viewsC w b) (aT (dZ k)) (bR c) (.own (.lst h)) (⇑sp) (⇑o) (.val (aI w d)) (.val (aI w b)) (.val (.lst (vwsP w (viewsC w b)))) (.val .non) (.val (.lst (am (seenT (viewsC w b))))) .none .none;have dG:seenT (viewsC w b)=(aT (dZ k)).filter (inAll (viewsC w b)):=by unfold seenT;rw[j];rfl
  rw[<-dG]at i;have O:Pu.eqT ak (.lst (am (seenT (viewsC w b)))) (.lst (am (seenT (viewsC w b))))=aa (.bl ah):=by show(if fW (.lst (am (seenT (viewsC w b))))<=8 then(gw (am (seenT (viewsC w b))) (am (seenT (viewsC w b)))).map (λk=>PV.bl (ak^^k))else ae)=_;rw[if_pos (by show fg (am _)+1<=8;rw[vg];decide),yf,decide_eq_true rfl];rfl
  have L:nA ak .non .non=aa (.bl ah):=rfl;have m:yaC a [bR c,.none,.none,.none,.none,.none,.none,.none,.none,.none,.none,.none]=.ok (.ret (.val (.bl ah))) [bR c,.own (.lst h),⇑sp,⇑o,.val (aI w d),.val (aI w b),.val (.lst (vwsP w (viewsC w b))),.val .non,.val (.lst (am (seenT (viewsC w b)))),.none,.val (.lst (am (seenT (viewsC w b)))),q]:=by
   refine P ?_;generalize ((o:Nat):Int)=FW at i ⊢;generalize ((sp:Nat):Int)=SP at i ⊢;generalize am (seenT (viewsC w b))=RS at p i O ⊢;generalize am (aT (dZ k))=RK at D i;generalize am k=KP at D F;generalize aI w k=W at E F;generalize vwsP w (viewsC w b)=VS at E S bO i ⊢;generalize aI w b=B at p i ⊢;generalize aI w d=V at i ⊢;refine(cf (ε1:=[bR c,.own (.lst h),⇑SP,⇑FW,.val V,.val B,.val (.lst VS),.val .non,.val (.lst RS),.none,.none,.none]) (by simp![sL,tJ,tj,bq,p])).trans ?_;refine(cf (ε1:=[bR c,.own (.lst h),⇑SP,⇑FW,.val V,.val B,.val (.lst VS),.val .non,.val (.lst RS),.none,.none,.none]) (by simp![S])).trans ?_;refine(cf (ε1:=[bR c,.own (.lst h),⇑SP,⇑FW,.val V,.val B,.val (.lst VS),.val .non,.val (.lst RS),.none,.val (.lst RK),.none]) (by simp![E,F,D])).trans ?_;refine(cf (ε1:=[bR c,.own (.lst h),⇑SP,⇑FW,.val V,.val B,.val (.lst VS),.val .non,.val (.lst RS),.none,.val (.lst RS),q]) ?_).trans ?_
   .have:bZ 11 (aU (dV 6)) (bw 10 (dF (bE [11] (aU (dV 10)) (dB (d2 (iF ak) (dV 0) (d2 bd (dV 1) (dC (.int 1))))) (dV 0)))) [bR c,.own (.lst h),⇑SP,⇑FW,.val V,.val B,.val (.lst VS),.val .non,.val (.lst RS),.none,.val (.lst RK),.none]=ff 11 (bw 10 (dF (bE [11] (aU (dV 10)) (dB (d2 (iF ak) (dV 0) (d2 bd (dV 1) (dC (.int 1))))) (dV 0)))) VS [bR c,.own (.lst h),⇑SP,⇑FW,.val V,.val B,.val (.lst VS),.val .non,.val (.lst RS),.none,.val (.lst RK),.none]:=by
     unfold bZ aU dV;simp_all
    show dH (bZ _ _ _ _)=_;rw[this,i];rfl
   .simp![L,O]
  simp[sD,bJ,gq,bI,dW,m,back,gu,aS,R.bind]
end
open L2 Pu Sh
def wb(K:ax)(a:Ad):Bool:=pF K a.SlitError vM "ValueError.__new__" && (jg a).all (λx=>pF K x vM "ValueError.__new__" && subB K a.SlitError x&&yQ K x&&(jg a).all (λd=>iR K (.ref x) (.ref d) == aa (x == d))&&iR K (.ref x) (.type "ValueError") == aa ah)&&Aw K&&decide (jg a).Nodup
section
variable{K:ax}{h g:aB}{i:Str->Option ai}{a:Ad}
def vo(h:wb K a=ah):pF K a.SlitError vM "ValueError.__new__"=ah/\(∀x∈jg a,pF K x vM "ValueError.__new__"=ah/\subB K a.SlitError x=ah/\yQ K x=ah/\(∀d∈jg a,iR K (.ref x) (.ref d)=aa (x == d))/\iR K (.ref x) (.type "ValueError")=aa ah)/\Aw K=ah/\(jg a).Nodup:=by unfold wb at h;simp only[h_,lZ,beq_iff_eq,decide_eq_true_eq]at h;obtain⟨⟨⟨l,c⟩,j⟩,f⟩:=h;exact⟨l,λx b=>⟨(c x b).1.1.1.1,(c x b).1.1.1.2,(c x b).1.1.2,(c x b).1.2,(c x b).2⟩,j,f⟩
def Q4(h:wb K a=ah):Bm K (jF a):=by
 obtain⟨_,l,_,_⟩:=vo h;intro c D b e;unfold jF at e;split at e
 .rename_i x d;split at e
  .rename_i f;rw[h_]at f;cases e;have j:x∈jg a:= ~~~f.1
   have m:d∈jg a:= ~~~f.2
   exact⟨x,.ref d,rfl,Gi (l x j).2.2.1,rfl,(l x j).2.2.2.1 d m⟩
  .cases e
 .rename_i x T;split at e
  .rename_i f;rw[h_]at f;cases e;have j:x∈jg a:= ~~~f.1
   have n:T = "ValueError":= ~~~f.2
   subst n;exact⟨x,.type "ValueError",rfl,Gi (l x j).2.2.1,rfl,(l x j).2.2.2.2⟩
  .cases e
 .cases e
def RO(X:K.In g)(h:wb K a=ah):∀c,pU a c=ah->Under g a.SlitError c:=by
 obtain⟨_,d,_,_⟩:=vo h;intro c e;unfold pU at e;split at e
 .rename_i x;have b:x∈jg a:= ~~~e
  exact NG X (d x b).1 (d x b).2.1
 .cases e
structure Top(K:ax)(a:Ad):Prop where
 yaF:c0 K "_law_cell_at" AO
 yaI:c0 K "_law_mixed" AB
 yaG:c0 K "_law_draw" BN
 yaJ:c0 K "_law_pick" CZ
 yaK:c0 K "_law_seen" AD
 yaL:c0 K "_law_text" Bv
 yaP:c0 K "_law_view" A2
 yaE:c0 K "_law_blurred" Az
 yaN:c0 K "_law_times" BE
 yaM:c0 K "_law_three" Cr
 yaO:c0 K "_law_under" C8
 yaD:c0 K "_law_all" AN
 yaH:c0 K "_law_filled" B2
 yaz:c0 K "is_whole_number" Bc
 yaA:c0 K "is_width" C_
 yau:c0 K "has_only" A6
 yaB:c0 K "is_window" CD
 yam:c0 K "are_windows" Bf
 yay:c0 K "is_view_with" Cw
 yav:c0 K "is_blurred_view" Ch
 yao:c0 K "check_blurred_view" C4
 yaT:c0 K "windows_that_fit" A_
 yar:c0 K "clearing_views" AF
 yax:c0 K "is_view" B8
 yap:c0 K "check_view" Da
 yas:c0 K "excesses" AG
 yaR:c0 K "reached_pieces" AU
 yat:c0 K "find_bar" yL
 yan:c0 K "bar" C9
 yaq:c0 K "cleared" BI
 yaw:c0 K "is_in_all" BB
 yaS:c0 K "seen" BO
 yaQ:c0 K "_law_which" Bq
 yaC:c0 K "law" xV
 yaU:dr K cm "ValueError"=aa ae
 yaV:dr K cm "all"=aa ae
 yaW:dr K cm "bool"=aa ae
 yaX:dr K cm "enumerate"=aa ae
 yaY:dr K cm "int"=aa ae
 yaZ:dr K cm "isinstance"=aa ae
 ya0:dr K cm "len"=aa ae
 ya1:dr K cm "list"=aa ae
 ya2:dr K cm "range"=aa ae
 ya3:dr K cm "set"=aa ae
 ya4:dr K cm "sorted"=aa ae
 ya5:dr K cm "str"=aa ae
 ya6:dr K cm "tuple"=aa ae
 ya9:∃t,dr K cm "LETTERS"=aa (aa (.str (tS [97,98,99]) t))
 yba:∃t,dr K cm "MOST_POINTS"=aa (aa (.int 6 t))
 ybb:∃t,dr K cm "MOST_WINDOWS"=aa (aa (.int 9 t))
 ybc:∃t,dr K cm "POINT"=aa (aa (.str (tS [46]) t))
 ybd:∃t,dr K cm "WIDEST"=aa (aa (.int 4 t))
 yak:dr K cm "SlitError"=aa (aa (.ref a.SlitError))
 yaf:dr K cm "NoText"=aa (aa (.ref a.NoText))
 yah:dr K cm "NoWidth"=aa (aa (.ref a.NoWidth))
 yag:dr K cm "NoView"=aa (aa (.ref a.NoView))
 yai:dr K cm "NoWindow"=aa (aa (.ref a.NoWindow))
 yac:dr K cm "Never"=aa (aa (.ref a.Never))
 yab:dr K cm "Full"=aa (aa (.ref a.Full))
 yaj:dr K cm "Nothing"=aa (aa (.ref a.Nothing))
 yal:dr K cm "Unlike"=aa (aa (.ref a.Unlike))
 yae:dr K cm "NoPlace"=aa (aa (.ref a.NoPlace))
 yad:dr K cm "NoLetters"=aa (aa (.ref a.NoLetters))
 yaa:dr K cm "BadText"=aa (aa (.ref a.BadText))
 ck:wb K a=ah
 z0:qS K "least_ending"=ae
 wh:Wh a
def NP(T:Top K a)(X:K.In g)(G:g.Ns cm i):df K i g a:=by
 have C:=(vo T.ck).2.1;have d:=Tq X (vo T.ck).1;have b:=RO X T.ck;have c:=Q4 T.ck;cases T;constructor
 all_goals first|assumption|exact c0.at (by assumption) X G|exact PySem.W.mg_none_of X G (by assumption)|exact Ag X G (by assumption)|exact M4 X (Ag X G (by assumption)) (C _ (by simp[jg])).1|exact Exists.imp (λ_ e=>Ag X G e) (by assumption)
def OY{l:Dq}{w:aJ}{d:af}(X:K.In h)(G:h.Ns cm i)(b:i "law"=aa (.ref d))(T:Top K a):∃c:iw,(∀(s:ao) (v:ai),BindsTo s c ⟨[v],[]⟩ [("_law_script",v)])/\∀g:aB,K.In g->g.Ns cm i->lD l.prog w K i g (lB l.prog w) 10 d c ["_law_script"] (fY K (sD a)):=by
 obtain⟨f,oc,x,kV,y,u,B,A,z,r,o,n,m,j⟩:=T.yaC;have e:=b.symm.trans (Ag X G o);cases e;exact⟨_,λs v=>.of_eq rfl,λg p q=>Qi (NP T p q) (Ik n m j)⟩
def Op{l:Dq}{q:aQ}{j:List Str}{XP:(Str->Option ai)->aB->Prop}{o:aJ->aB->Prop}{d:DefRec}{K:Params->ax}(y:l.most=aa 63)(u:d.params.defaults=[])(m:d.name = "law")(A:∀(w:aJ) (h:aB),o w h->(K w.params).In h) {a:Ad} (T:∀w:aJ,Top (K w.params) a):PySem.W.WalkO q j XP o l.row.toRowW d [] (λf r=>PySem.call f r) :=
 L2.VY (n:=63) (k:=10) (x:="_law_script") (K:=K) (CX:=λw=>lB l.prog w) (sp:=λw=>fY (K w.params) (sD a)) y (by decide) u ⟨rfl,by decide,by decide⟩ (λw h Y=>⟨A w h Y,λc P e=>by rw[(T w).z0]at e;cases e⟩)
  (λw i F h C G p=>OY C G (by rw[<-m];exact p) (T w))
  (λw H b v E _ B=>T0 (S6 (vo (T w).ck).2.2.1 B) (P9 (T w).wh v))
  (λw H s e D z=>by obtain⟨_,_,_,_,_,_,_,_,_,_,_,f⟩:=z;exact f)
def VR{l:Dq}{q:aQ}{b:List Str}{XP:(Str->Option ai)->aB->Prop}{A:aJ->aB->Prop}{d:DefRec}{K:Params->ax}{j r o p n v x m c s u y:af}(D:l.most=aa 63)(C:d.params.defaults=[])(z:d.name = "law")(E:∀(w:aJ) (h:aB),A w h->(K w.params).In h) (T:∀w:aJ,Top (K w.params) ⟨j,r,o,p,n,v,x,m,c,s,u,y,0,0⟩):PySem.W.WalkO q b XP A l.row.toRowW d [] (λf B=>PySem.call f B):=Op D C z E T
end
end K10
def PySem.W.Fast.tw16969070366939473015:Nat:=0
def PySem.W.Fast.tw5216845589658350233:Nat:=0
def PySem.W.Fast.tw2753574655455192871:Nat:=0
def PySem.W.Fast.tw1432434952518948623:Nat:=0
def PySem.W.Fast.tw9307157117907055124:Nat:=0
def PySem.W.Fast.tw16661662554945023075:Nat:=0
def PySem.W.Fast.tw16520243867375930955:Nat:=0
def PySem.W.Fast.tw793382747925525115:Nat:=0
def PySem.W.Fast.tw13087008774616774317:Nat:=0
def PySem.W.Fast.tw6428201137427714725:Nat:=0
def PySem.W.Fast.tw17677196953632291465:Nat:=0
def PySem.W.Fast.tw9548243164950905203:Nat:=0
def PySem.W.Fast.tw17093176692104548901:Nat:=0
def PySem.W.Fast.tw10831338996927832162:Nat:=0
def PySem.W.Fast.tw2968016596874369756:Nat:=0
def PySem.W.Fast.tw4588511678337737795:Nat:=0
def PySem.W.Fast.tw5939092818113275481:Nat:=0
def PySem.W.Fast.tw1662839821075868047:Nat:=0
def PySem.W.Fast.tw15124774567957119807:Nat:=0
def PySem.W.Fast.tw17524069132932844644:Nat:=0
def PySem.W.Fast.tw5637471631722208376:Nat:=0
def PySem.W.Fast.tw17711804489938127640:Nat:=0
def PySem.W.Fast.tw18005909793448823677:Nat:=0
def PySem.W.Fast.tw15877268087593699822:Nat:=0
def PySem.W.Fast.tw1140223403282126842:Nat:=0
def PySem.W.Fast.tw509620537815486602:Nat:=0
def PySem.W.Fast.tw11729203944261895205:Nat:=0
def PySem.W.Fast.tw16355392525359009569:Nat:=0
def PySem.W.Fast.tw5289260278785883179:Nat:=0
def PySem.W.Fast.tw2658250777224797647:Nat:=0
def PySem.W.Fast.tw14594903284342824551:Nat:=0
def PySem.W.Fast.tw8458131228862633051:Nat:=0
def PySem.W.Fast.tw636093039454216431:Nat:=0
def PySem.W.Fast.tw348487526647202161:Nat:=0
def PySem.W.Fast.tw12864694410640047765:Nat:=0
def PySem.W.Fast.tw538058619222657092:Nat:=0
def PySem.W.Fast.tw15917413113805043298:Nat:=0
def PySem.W.Fast.tw13284731008118352357:Nat:=0
def PySem.W.Fast.tw9764147534809629668:Nat:=0
def PySem.W.Fast.tw3193419186462223318:Nat:=0
def PySem.W.Fast.tw2166786412115238667:Nat:=0
def PySem.W.Fast.tw13048066210303666705:Nat:=0
def PySem.W.Fast.tw3271295854075489130:Nat:=0
def PySem.W.Fast.tw18301124500703672062:Nat:=0
def PySem.W.Fast.tw7811700531567165193:Nat:=0
def PySem.W.Fast.tw15472784415645676641:Nat:=0
def PySem.W.Fast.tw7940257372998998002:Nat:=0
def PySem.W.Fast.tw3193869606982101973:Nat:=0
def PySem.W.Fast.tw13355209591850470197:Nat:=0
def PySem.W.Fast.tw4238195025455650352:Nat:=0
def PySem.W.Fast.tw14773363278915833606:Nat:=0
def PySem.W.Fast.tw10408599410595423216:Nat:=0
def PySem.W.Fast.tw14656901216952897232:Nat:=0
def PySem.W.Fast.tw12218043804368112623:Nat:=0
def PySem.W.Fast.tw16959548204490011179:Nat:=0
def PySem.W.Fast.tw17691493886655969931:Nat:=0
def PySem.W.Fast.tw17826462334065517020:Nat:=0
def PySem.W.Fast.tw10395314860280318440:Nat:=0
def PySem.W.Fast.tw2358258646599678300:Nat:=0
def PySem.W.Fast.tw9536507355229905416:Nat:=0
open PySem PySem.W PyProof.Rows
set_option maxRecDepth 100000 in
set_option maxHeartbeats 0 in
theorem PySem.Challenge.cw_slitview_k10_whole_seen_windows_holds : PySem.Challenge.rw_slitview_k10_whole_seen_windows.Holds := by
 w_on; o_law; k_head; (case hw=>w_witness2)
 k_fill
 refine' K10.VR (l:=PySem.Challenge.rw_slitview_k10_whole_seen_windows) rfl rfl rfl (fun w h Y=>PySem.W.kIn_of Y) ?T
 case T =>
  intro w
  constructor
  iterate 34 (case _=>refine' Pu.Vx ?qa ?ql ?qc ?qk; (case qa=>k_is); (case ql=>k_is); (case qc=>k_is); (case qk=>k_is))
  iterate 13 (case _=>k_is)
  (case _=>refine' Pu.VJ ?e; (case e=>k_is))
  iterate 2 (case _=>refine' Pu.VP ?e; (case e=>k_is))
  (case _=>refine' Pu.VJ ?e; (case e=>k_is))
  (case _=>refine' Pu.VP ?e; (case e=>k_is))
  iterate 12 (case _=>k_is)
  iterate 2 (case _=>kernel_rfl)
  (case _=>refine K10.VQ ?_; kernel_rfl)
