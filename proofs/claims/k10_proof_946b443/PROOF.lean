import PyProof.Rows.All
import Wide.All
import OpenK.AllK
import Wide.FinOn
import Lean
import PyProof.EqAt
import PyProof.EqKinds
import PyProof.TupleCall
import KE.KIntText
import KE.KDictList
import KE.KDictSum
import PyProof.Rows.Range3
import PyProof.DictWalks
import KE.KMinKey
import KE.KSortTup
import PyProof.EnumStmt
import PyProof.EnumMake
import PyProof.EnumFor
import PyProof.Draws
import PyProof.Rows.TupDisplay
import PyProof.Rows.SumAny
import KE.LcSums
import PyProof.FString5
import PyProof.WalkInts
import KE.KDictLaws
import PySem.Challenge.RW_slitview_k10_whole_seen_windows
noncomputable section
set_option compiler.extract_closed false
local macro_rules | `(tactic| eq_refl) => `(tactic| first | exact Or.inl rfl | exact Or.inr (Or.inl rfl) | exact Or.inr (Or.inr rfl) | fail)
local macro_rules | `(tactic| ac_rfl) => `(tactic| first | assumption| with_reducible rfl|exact Nat.le_refl _|exact Nat.zero_le _|exact Nat.succ_pos _|exact Nat.le_succ _|exact Nat.le_add_left _ _|exact Nat.le_add_right _ _|exact Nat.sub_le _ _|exact Nat.le_of_lt ‹_›|exact Nat.pos_of_ne_zero ‹_›|exact Nat.zero_lt_of_lt ‹_›|exact Nat.lt_of_not_le ‹_›|exact Nat.le_of_not_lt ‹_›|exact Nat.lt_succ_of_le ‹_›|exact Nat.le_of_lt_succ ‹_›|exact Eq.symm ‹_›|exact Nat.lt_of_lt_of_le ‹_› ‹_›|exact Nat.lt_of_le_of_lt ‹_› ‹_›|exact Nat.le_trans ‹_› ‹_›|exact Nat.lt_of_le_of_lt (Nat.le_add_right _ _) ‹_›|exact Nat.le_trans (Nat.le_add_right _ _) ‹_›|exact Nat.le_trans (Nat.le_add_left _ _) ‹_›|(refine Nat.lt_of_le_of_lt (Nat.add_le_add_left ?_ _) ‹_›; decide)|exact Nat.lt_of_le_of_lt ‹_› (by decide)|exact Nat.le_trans ‹_› (by decide)|exact Nat.le_of_lt (Nat.lt_of_lt_of_le ‹_› (by decide))|exact Nat.le_trans (Nat.sub_le _ _) ‹_›|exact Nat.lt_of_le_of_lt (Nat.sub_le _ _) ‹_› | lia | omega)
local macro_rules | `(∅) => `(by ac_rfl)
local macro_rules | `(nofun) => `(by omega)
local macro_rules | `(⋯) => `(by simp_all)
set_option Elab.async false
set_option bootstrap.genMatcherCode false
set_option genSizeOf false
set_option linter.all false
set_option maxRecDepth 100000
local macro_rules | `(tactic| mleft) => `(tactic| first | exact .inl rfl | exact .inr rfl | assumption)
local macro_rules | `(~~~$x) => `(by simpa using $x)
local macro_rules | `(tactic| ac_nf) => `(tactic| exact ⟨rfl,rfl,rfl,by decide +kernel,rfl,by decide +kernel,by decide +kernel⟩)
theorem Zq(_:True:=by rfl)(_:True:=by decide)(_:True:=by eq_refl)(_:True:=by mleft)(_:True:=by intro _;rfl)(_:True:=by first|exact Or.inl rfl|exact Or.inr rfl)(_:True:=by with_unfolding_all rfl):True:=trivial
local macro_rules |`($x^0)=>`(autoParam $x Zq._auto_1)|`($x^1)=>`(autoParam $x Zq._auto_2)|`($x^2)=>`(autoParam $x Zq._auto_3)|`($x^3)=>`(autoParam $x Zq._auto_4)|`($x^4)=>`(autoParam $x Zq._auto_5)|`($x^6)=>`(autoParam $x Zq._auto_6)|`($x^7)=>`(autoParam $x Zq._auto_7)
open Option renaming some->aa,none->af,bind_some->gp,map_eq_some_iff->mF,bind_eq_some_iff->ue,map_some->wA,isSome_iff_exists->C6,getD_none->JL,isSome_map->JQ
open PySem renaming Addr->ae,Value->ai,Shared->ao,wpAny_bind->aq,wpAny->ar,model->aw,Heap->aB,Expr->aC,wpAny_pure->aE,World->aI,Program->aP,Around->aV,starEach->aX,eval->a8,Stmt->bf,sizeLine->bq,mainGlobals->cb,SetTable->cq,backTo->dr,rawInt->dH,Scope->dP,compareOp->eC,Paired->eT,wpAny_mono->ff,bootBuiltins->fu,cellsFrom->fY,strKind->f9,bindArgs->gn,FuncData->g7,NameKind->g8,wpAny_holding->iI,swapsWith->jg,binaryOp->ji,sysModules->jE,Keyword->jF,holding->j5,wpAny_newObj_type->j8,wpAny_call_entry->k8,foldedSetIterable->lL,mem_of_lookup->lN,wpAny_field->lO,wpAny_setState_of->lT,setField->lU,unsupported->lV,assign->mB,pyNext->mC,codeAny->mD,wpAny_rule->mJ,wpAny_setField->mL,isTrue->nM,pyIter->nN,IsPart->nP,attributeBase->nQ,wpAny_of_eq->nU,setNext->nV,wpAny_truthy_bool->o5,wpAny_loadPart'->o8,reduceHash->qF,builtinsNs->qG,behindInMarks->qI,assignEach->qJ,codeAny_mono->qL,getItem->qN,backToKw->qP,keywordEach->qQ,newExc->qT,tupleKind->tJ,wpAny_passesOwn->tK,valueAt->tO,callerA->tT,DictEntry->tU,relayAll->tZ,wpAny_askSetting->t5,hashByValue->ub,setSearchFrom->uc,wpAny_execs_nil->wd,PassesOwn->we,wpAny_callSpecial?_slot->wo,wpAny_specialOf->wq,lookup_relabel_local->wu,codeAny_builtin->wy,raiseNew->wz,wpAny_seqItems->wB,setFlight->wD,eqIsQuiet->wI,ofAClassStatement->wJ,wpAny_forIn_list->wK,wpAny_call->zz,wpAny_Call_Name_kw->zA,sliceBounds->zD,call_meets->zE,noteFrame->zI,seqItems?->zM,isInstance->zN,pickOrder->zP,firstArgMember->zQ,setsByText->zR,wpAny_ite_split->zS,wpAny_pyIter_tuple->zT,swapsWithSole->C0,swappedStores->C1,letOwnedTupleGo->C3,sizeLine_eq->C4,wpAny_typeOf->C8,subscripted->C_,tupleKind_room_in1->Db,wpAny_newList->Dk,setAddHashed->Dp,wpAny_storeSet_of->Dq,fits_of_scanBound->Dr,plainId_quiet->Dt,wpAny_attempt->Du,wpAny_isInstance->Dv,intKind->D5,wpAny_typeNameOfWhole_keyiter->D9,wpAny_typeNameOf_keyiter->D_,wpAny_execs_cons->Jy,noFill_tuple_add->JG,wpAny_pyIter_list->JU,checkBuiltinCall->J3,wpAny_pyIter_slot->J4,wpAny_loadPart_at->J_,searchCouldBeSeen->Ki,wpAny_dictEntries->Km
open Bool renaming true->ah,false->ak,false_eq_true->fg,and_eq_true->g9,false_ne_true->jh,eq_iff_iff->o6,not_true->qZ,false_xor->wG,and_false->zK,true_and->Dg,or_eq_true->Di,eq_false_iff->DC,not_false->D3,not_eq_true'->Kb
open PySem.W renaming Frag->ax,nsIn->c7,kitOne->iJ,fnOf->iK,kia_one->lM,excIn->ph,tabIn->qH,findIn->qK,keepIn->qM,hashAt->qY,InstAt->wf,codeIn->wl,mroIn->zy,mg_of->zY,OpenLaw->Dc,clsIn->DB,methodObj->Jx,specialIn->JC,callWith_K->JE,cellsFrom_some->JF,kat_cons->Kk,KatTups->Vj
open PyProof.Rows renaming wpS_bind->aW,wpS_pure->bd,SortSt->bA,pendingOf->b7,StrsAre->cL,seqObj->f8,SortKind->gq,wpS_mono->iL,wpS_forRange->iM,envOfC->jj,pairsOf->lc,size_push'->lR,AllBare->nK,wpS_get->n0,wpS_lift->t6,wpS_modify->t8,listUpdate_at->Dw,callWith_type1->Jz,slot_tuple_getitem->Ve
open Nat renaming le_refl->bn,le_trans->cV,ne_of_lt->dq,lt_of_lt_of_le->gK,zero_le->jG,le_of_lt->kw,lt_irrefl->mz,zero_add->mO,mod_lt->nW,not_lt_zero->nX,ne_of_gt->tL,lt_trans->tP,le_of_eq->tW,succ_pos->t9,le_succ->wt,lt_succ_of_lt->wx,lt_of_le_of_lt->zH,pow_succ->zZ,pow_add->z6,mul_le_mul->Dl,add_comm->Dy,add_mul->DD,mul_comm->DM,mod_eq_of_lt->DP,lt_succ_self->J5,add_right_comm->Kg,eq_zero_or_pos->KA
open PySem.Heap renaming lt_size->bG,get?_push_of_some->bL,get?_push_size->cP,SameBut->j4,get?_update_self->mE,get?_update_other->o9,get?_none_of_le->CZ,size_push->Dd,get?_update_ne->J8
open List renaming mem_map->bU,mem_cons->bZ,map_cons->cp,range->cF,length_map->cG,getElem?_eq_some_iff->cJ,getElem?_set_ne->cK,map_map->cR,replicate->dQ,getElem?_map->dY,getElem?_set_self->eB,getElem?_eq_getElem->eD,nil_append->fh,length_cons->fz,length_set->fZ,size_toArray->gi,mem_cons_of_mem->gZ,foldl_cons->g_,append_nil->ik,length_append->jk,not_mem_nil->jl,append_assoc->jH,sum_cons->jJ,mem_cons_self->j3,mem_append_right->j6,mem_of_getElem?->j7,mem_filter->ku,mem_append->kA,nodup_cons->kB,mem_singleton->kD,all_eq_true->k9,find?_cons->lP,lookup_cons->lQ,map_congr_left->mH,take_append_drop->mP,filterMap_cons->nL,getElem?_eq_none->nY,getElem_of_mem->n4,filter_map->n8,filter_eq_self->n9,mem_range->o4,length->o7,any_cons->o_,take_of_length_le->pc,pairwise_map->pe,ext_getElem?->pf,all_cons->qO,range_succ->qR,mem_reverse->qW,cons_append->qX,flatMap_cons->q8,nodup_nil->tQ,length_nil->tR,map_append->tX,pairwise_iff_getElem->t7,map_id'->ud,mem_append_left->wc,of_mem_zip->wg,getElem?_append_left->wj,length_take->wm,getElem_mem->ww,drop_eq_getElem_cons->wC,mem_flatMap->wL,filterMap_map->zB,length_drop->zC,map_nil->zG,all_map->zJ,getElem?_zip_eq_some->zU,drop_length->zV,nodup_append->zW,length_eq_zero_iff->z7,dropLast->z8,lookup->De,getElem?_range->Df,eq_nil_of_length_eq_zero->Dh,mergeSort_perm->Dj,foldl_append->Ds,getElem?_drop->Dx,pairwise_append->DH,singleton_append->DJ,take_length->DK,zip_cons_cons->DZ,any_map->Eb,any_eq_true->Ec,exists_cons_of_ne_nil->Ed,mem_filterMap->JA,lookup_append->JS,range_succ_eq_map->JT,toList_toArray->JV,pairwise_mergeSort->JW,map_filterMap->J7,getElem?_of_mem->Ka,reverse_append->Kc,reverse_perm->Kd,pairwise_reverse->Ke,getElem?_take->Kf,find?_eq_none->Kh,cons_lt_cons_iff->Kj,map_snd_zip->Kl,filter_flatMap->Ko,filter_cons->Kq,filter_congr->Kr,mem_or_eq_of_mem_set->Ku,drop_of_length_le->Kv,length_flatMap->Kw,flatMap_append->Kx,dropLast_eq_take->Kz,findIdx?_eq_some_iff_getElem->Vf,take_succ_eq_append_getElem->Vh,Perm->Vk,drop_append_of_le_length->Vn
open Ne renaming symm->c0
open Option.some renaming inj->fe
open PySem.SetTable renaming bits->fA,runEnd->fK,below->jI,Probe->kF,leap->mR,grown->nR,insertAt->qS,turns->ua,laid->Dm,layClean->Do,advance->DY,sizeAbove->J0
open Array renaming length_toList->iH,getElem?_eq_getElem->k_,getElem?_eq_some_iff->mG,toList_append->mQ,getElem_extract->n6,getElem?_toList->qU,toList_push->t4,perm_iff_toList_perm->DL,getD_eq_getD_getElem?->DQ,forIn_toList->D4
open PySem.PassesOwn renaming never->iN
open PySem.Obj renaming mapSeq->kC,mapFields->mM,data_mapFields->nZ,isFreed_of_fields->wE,cls_mapFields->J9
open Iff renaming rfl->kE
open PySem.Str renaming empty->k7,ofString->tN
open PySem.Builtin.Tuple renaming tupleHashOf->lK,tupleExact->C9
open Function renaming comp_def->lS,comp->Ea
open PyProof.Rows.KeyOrd renaming kle_of_klt->lW,kle_refl->n5,kle_trans->qV
open Int renaming toNat_natCast->mI,emod_lt_of_pos->Kt
open PySem.Heap.SameBut renaming update->mK,refl->J1
open List.cons renaming injEq->mS
open PySem.Paired renaming length->qE,snoc->zF
open List.Perm renaming refl->tY,append_left->zO,eq_of_pairwise->JX
open PySem.SetTable.layClean renaming free->t_
open PySem.Value renaming isStrOf->wb,isInt->CY
open PySem.SeqAt renaming EqAt->wp
open Exists renaming elim->wF
open PySem.SetTable.probe renaming go->wH
open PySem.Around renaming under_plainId->zL
open Nat.succ renaming inj->zX
open PySem.Calls renaming spliced_cons->C5,evalArgs_plain->Da,spliced_nil->JD,callWith_builtin->JO,call_function_entry->JY
open PySem.Builtin.Slice renaming slicePlaces->C7,sliceAdjust->JK
open PySem.F renaming plainAttrs_list->Dz,slot_tuple_iterator_next->D7,slot_dict_keyiterator_next->D8,slot_tuple_add->JH,entry_tuple_add->JI,args_tuple_add_2->JJ,slot_dict_get->JR,excBase_ValueError->Kn,slot_tuple_hash->Vi,entry_dict_keyiterator_next->Vl,args_dict_keyiterator_next_1->Vm
open PySem.SetTable.below renaming go->DV
open PySem.Builtin.SmallTypes renaming nextOf->D6
open PySem.Builtin.Str renaming occurrences->JB
open PySem.SeqAt.EqAt renaming int_int->JM,str_str->JN
open PySem.Builtin.List renaming listTooLong->JP
open PySem.Builtin renaming sorted->JZ
open PyProof.Rows.F renaming plain_set_update_loop->J2,entry_set_update_loop->Vg
open Classical renaming byContradiction->KB
open PySem PySem.Spec PyProof.Rows
namespace L2
noncomputable abbrev aK:=Sum Int Str
def sM:aK->ai->Bool
 |.inl k,v=>CY k v
 |.inr x,v=>wb x v
def UY(w:aI):aK->Int
 |.inl k=>hashInt k
 |.inr x=>hashStr w x
theorem nH:∀{k:aK}{v:ai},sM k v=ah->(∃i t,k=Sum.inl i/\v=Value.int i t)\/(∃x t,k=Sum.inr x/\v=Value.str x t)
 |.inl i,v,h=>by obtain⟨t,e⟩:=Value.isInt_shape (k:=i) (v:=v) h;exact .inl ⟨i,t,rfl,e⟩
 |.inr x,v,h=>by obtain⟨t,e⟩:=Value.isStrOf_shape (x:=x) (v:=v) h;exact .inr ⟨x,t,rfl,e⟩
theorem L_(i:Int)(t:Tok):sM (.inl i) (.int i t)=ah:=by simp[sM,CY]
theorem Sd(x:Str)(t:Tok):sM (.inr x) (.str x t)=ah:=by simp[sM,wb]
theorem Uc(a b:Int):decide ((Sum.inl a:aK)=Sum.inl b)=(a == b):=by lia
theorem Uy(a b:Str):decide ((Sum.inr a:aK)=Sum.inr b)=decide (a=b):=by simp
theorem Nw(a:Int)(b:Str):decide ((Sum.inl a:aK)=Sum.inr b)=ak:=decide_eq_false (λq=>nomatch q)
theorem NR(a:Str)(b:Int):decide ((Sum.inr a:aK)=Sum.inl b)=ak:=decide_eq_false (λq=>nomatch q)
def gU(c:aP)(w:aI):PySem.KeyKind c w aK where
 is:=sM
 hash:=UY w
 inj:=λv a b l f=>by
  rcases nH l with⟨i,t,rfl,rfl⟩|⟨x,t,rfl,rfl⟩
  .rcases nH f with⟨j,u,rfl,e⟩|⟨y,u,rfl,e⟩
   .injection e with e1 _;rw[e1]
   .exact nomatch e
  .rcases nH f with⟨j,u,rfl,e⟩|⟨y,u,rfl,e⟩
   .exact nomatch e
   .injection e with e1 _;rw[e1]
 byValue:=λk v h=>by rcases nH h with⟨i,t,rfl,rfl⟩|⟨x,t,rfl,rfl⟩ <;> rfl
 pyHash:=λd h=>by
  rcases nH d with⟨i,t,rfl,rfl⟩|⟨x,t,rfl,rfl⟩
  .exact wpAny_pyHash_int h
  .exact wpAny_pyHash_str h
 eqBool:=λg d h=>by
  rcases nH g with⟨i,t,rfl,rfl⟩|⟨x,t,rfl,rfl⟩
  .rcases nH d with⟨j,u,rfl,rfl⟩|⟨y,u,rfl,rfl⟩
   .rw[Uc]at h;exact wpAny_eqBool_int h
   .rw[Nw]at h;exact SeqAt.EqAt.int_str i t y u _ _ _ _ h
  .rcases nH d with⟨j,u,rfl,rfl⟩|⟨y,u,rfl,rfl⟩
   .rw[NR]at h;exact SeqAt.EqAt.str_int x t j u _ _ _ _ h
   .rw[Uy]at h;exact wpAny_eqBool_str h
 «strs»:=λk x t v h=>by
  rcases nH h with⟨i,u,rfl,e⟩|⟨y,u,rfl,e⟩
  .exact nomatch e
  .injection e with e1 _;subst e1;cases v <;> rfl
theorem Lz(a:aP)(w:aI)(i:Int)(t:Tok):(gU a w).is (.inl i) (.int i t)=ah:=L_ i t
theorem NS(a:aP)(w:aI)(x:Str)(t:Tok):(gU a w).is (.inr x) (.str x t)=ah:=Sd x t
inductive V where
 |non|bl (b:Bool)|int (i:Int)|str (x:Str)|byt (b:Array UInt8)|flt (b:UInt64)|ref (a:ae)|ty (n:String)
 deriving DecidableEq
noncomputable def RelV:V->ai->Prop
 |.non,u=>u=Value.none
 |.bl b,u=>u=Value.bool b
 |.int i,u=>∃t,u=Value.int i t
 |.str x,u=>∃t,u=Value.str x t
 |.byt b,u=>∃t,u=Value.bytes b t
 |.flt b,u=>∃t,u=Value.float b t
 |.ref a,u=>u=Value.ref a
 |.ty n,u=>u=Value.type n
abbrev bC:List V->List ai->Prop:=eT RelV
theorem bC.length(r:bC xs a):xs.length=a.length:=qE r
theorem bC.get:∀{xs:List V}{a:List ai}{i:Nat}{x:V},bC xs a->xs[i]?=aa x->∃u,a[i]?=aa u/\RelV x u
 |_,_,_,_,.nil,e=>by trivial
 |_,_,0,_,.cons r _,e=>by simp at e;subst e;exact⟨_,rfl,r⟩
 |_,_,i+1,x,.cons _ t,e=>by obtain⟨u,c,b⟩:=bC.get (i:=i) (x:=x) t (by trivial);exact⟨u,by trivial,b⟩
theorem bC.set(r:RelV x u):∀{xs:List V}{a:List ai} (i:Nat),bC xs a->bC (xs.set i x) (a.set i u)
 |_,_,_,.nil=>.nil
 |_,_,0,.cons _ t=>.cons r t
 |_,_,i+1,.cons q t=>.cons q (bC.set r i t)
theorem bC.append{xs a:List V}{c b:List ai}(r:bC xs c)(s:bC a b):bC (xs++a) (c++b):=by
 unfold bC at r s ⊢
 induction r with
 |nil=>exact s
 |cons r _ g=>exact .cons r g
theorem bC.take:∀{xs:List V}{a:List ai} (n:Nat),bC xs a->bC (xs.take n) (a.take n)
 |_,_,0,_=>.nil
 |_,_,_+1,.nil=>.nil
 |_,_,n+1,.cons r t=>.cons r (bC.take n t)
theorem bC.drop:∀{xs:List V}{a:List ai} (n:Nat),bC xs a->bC (xs.drop n) (a.drop n)
 |_,_,0,r=>r
 |_,_,_+1,.nil=>.nil
 |_,_,n+1,.cons _ t=>bC.drop n t
def oZ:Option V->Option ai->Prop
 |some v,aa u=>RelV v u
 |none,af=>True
 |_,_=>False
noncomputable def KV{a:Type}:List (a×V)->List (a×ai)->Prop:=eT λ(p:a×V) (q:a×ai)=>p.1=q.1/\RelV p.2 q.2
def kV:aK->V
 |.inl i=>.int i
 |.inr x=>.str x
inductive HO where
 |lst (xs:List V)
 |tup (xs:List V)
 |dK (kvs:List (aK×V))|dT (kvs:List (List aK×V))|dN (kvs:List ((Str×List Str)×V))
 |set (S:Int->Bool) (n:Nat)
 |ins (C dx:ae) (fs:List (Str×V))
 |own (x:ae)
 |xd (fs:List (Str×V))
 |met (f x:ae)
 |rng (lo hi:Int)
 |frz (o:Obj) (u:HO)
 |tbl (q:Str)
 |ext (φ:aB->Prop)
set_option genInjectivity false
noncomputable abbrev Hp:=ae->Option HO
noncomputable def upd(H:Hp)(a:ae)(o:HO):Hp:=λb=>if b=a then aa o else H b
theorem upd_same:upd H a o a=aa o:=by unfold upd;simp
theorem a6(h:b≠a):upd H a o b=H b:=by unfold upd;rw[if_neg h]
theorem xI{H:Hp}{o u:HO}(h:H a=aa o)(h':H b=aa u)(d:o≠u):a≠b:=by lia
theorem kM{H:Hp}{o:HO}(h:H a=aa o)(c:H b=af):a≠b:=by lia
def Jv(h:aB)(a:ae)(b:Array ai):Prop:=IsTup h a b/\∃o,h.get? a=aa o/\o.dict=af
theorem Jv.new(h:aB)(its:Array ai):Jv (h.push {cls:=.type "tuple",data:=.seq its}) h.objs.size its:=⟨IsTup.new _ _,_,cP _ rfl,rfl⟩
section
variable(P:aP)(w:aI)
def MP(k:Str×List Str):Int:=qF (lK [hashStr w k.1,qF (lK (k.2.map (hashStr w)))])
noncomputable def Nz(H:Hp)(k:Str×List Str)(a:ae):Prop:=∃b,H a=aa (.tup [.str k.1,.ref b])/\H b=aa (.tup (k.2.map .str))
def cc(H:Hp)(h:aB)(a:ae):HO->Prop
 |.lst xs=>xs.length<=bq/\∃(d:List ai) (n:Nat),bC xs d/\h.get? a=aa {cls:=.type "list",data:=.seq d.toArray n}
 |.tup xs=>xs.length<=bq/\∃d:List ai,bC xs d/\Jv h a d.toArray
 |.dK b=>b.length<=bq/\(a == jE)=ak/\∃s,KV b s/\h.DictOf (gU P w) a s
 |.dT b=>b.length<=bq/\(a == jE)=ak/\∃xs:List (List aK×ae×ai),
   eT (λ(p:List aK×V) (q:List aK×ae×ai)=>p.1=q.1/\H q.2.1=aa (.tup (p.1.map kV))/\RelV p.2 q.2.2) b xs /\
   ∃o es ep,h.get? a=aa o/\o.ExactDict/\o.data=.dict es ep/\es.toList=xs.map (entryOfKey (tJ (gU P w)))/\(xs.map (·.1)).Nodup
 |.dN b=>b.length<=bq/\(a == jE)=ak/\∃xs:List ((Str×List Str)×ae×ai),
   eT (λ(p:(Str×List Str)×V) (q:(Str×List Str)×ae×ai)=>p.1=q.1/\Nz H p.1 q.2.1/\RelV p.2 q.2.2) b xs /\
   ∃o es ep,h.get? a=aa o/\o.ExactDict/\o.data=.dict es ep/\es.toList=xs.map (λx=>⟨MP w x.1,.ref x.2.1,x.2.2⟩)/\(xs.map (·.1)).Nodup
 |.set S n=>h.SetOf (intKind P w) a S n
 |.ins C i fs=>H i=aa (.own a)/\fs.length<=1000/\i≠a/\h.get? a=aa (PySem.W.instObj C i) /\
   ∃g,h.Ns1 i g/\(∀f,oZ (fs.lookup f) (g f))/\PySem.Within g (fs.map (·.1))
 |.own _=>∃o,h.get? a=aa o
 |.xd fs=>∃g,h.Ns1 a g/\∀f,oZ (fs.lookup f) (g f)
 |.rng A B=>∃t u v,h.get? a=aa {cls:=.type "range",data:=.fields #[.int A t,.int B u,.int 1 v]}
 |.frz o u=>h.get? a=aa o/\cc H h a u
 |.tbl q=>∃l:Array ai,h.get? a=aa {cls:=.none,data:=.fields l}/\TriplesOk l.toList/\∀m r,codeAmong m l.toList=aa r->∃c,r=.ref c/\H c=aa (.own a)/\h.CodeRec r q
 |.met f x=>h.get? a=aa (Jx (.ref f) (.ref x))
 |.ext j=>j h/\(∃o,h.get? a=aa o)/\∀z y:aB,j z->(∀o,z.get? a=aa o->y.get? a=aa o)->j y
def c9(H:Hp)(h:aB):Prop:=∀a o,H a=aa o->cc P w H h a o
end
section
variable{P:aP}{w:aI}{H i:Hp}{h h':aB}{a:ae}{o:HO}
theorem cc.lt(x:cc P w H h a o):a<h.objs.size:=by
 cases o with
 |lst xs=>obtain⟨_,_,_,_,e⟩:=x;exact bG e
 |tup xs=>obtain⟨_,_,_,p,_⟩:=x;exact p.lt
 |dK b=>obtain⟨_,_,_,_,o,_,_,e,_⟩:=x;exact bG e
 |dT b=>obtain⟨_,_,_,_,o,_,_,e,_⟩:=x;exact bG e
 |dN b=>obtain⟨_,_,_,_,o,_,_,e,_⟩:=x;exact bG e
 |set S n=>obtain⟨o,_,_,_,e,_⟩:=x;exact bG e
 |ins C l fs=>obtain⟨_,_,_,e,_⟩:=x;exact bG e
 |own y=>obtain⟨_,e⟩:=x;exact bG e
 |xd fs=>obtain⟨_,⟨_,_,_,e,_⟩,_⟩:=x;exact bG e
 |rng g j=>obtain⟨_,_,_,e⟩:=x;exact bG e
 |frz d u=>obtain⟨e,_⟩:=x;exact bG e
 |tbl q=>obtain⟨_,e,_⟩:=x;exact bG e
 |met f y=>exact bG (show h.get? a=aa _ from x)
 |ext c=>obtain⟨_,⟨_,e⟩,_⟩:=x;exact bG e
theorem Paired.mapP{l j:Type}{F G:l->j->Prop}{d:List l}{c:List j}(r:eT F d c)(f:∀a b,F a b->G a b):eT G d c:=by
 induction r with
 |nil=>exact .nil
 |cons r _ g=>exact .cons (f _ _ r) g
theorem cc.stay(x:cc P w H h a o)(k:∀b u,(b=a\/H b=aa (.own a))->h.get? b=aa u->h'.get? b=aa u)(M:∀b,H b=aa (.own a)->i b=aa (.own a)) (J:∀b xs,H b=aa (.tup xs)->i b=aa (.tup xs)):cc P w i h' a o:=by
 induction o with
 |lst xs=>obtain⟨z,s,n,r,e⟩:=x;exact⟨z,s,n,r,k _ _ (.inl rfl) e⟩
 |tup xs=>obtain⟨z,s,r,⟨j,e,c⟩,T,B,N⟩:=x;exact⟨z,s,r,⟨j,k _ _ (.inl rfl) e,c⟩,T,k _ _ (.inl rfl) B,N⟩
 |dK A=>obtain⟨z,y,E,r,j,l,m,e,c⟩:=x;exact⟨z,y,E,r,j,l,m,k _ _ (.inl rfl) e,c⟩
 |dT A=>obtain⟨z,y,xs,r,j,l,m,e,c⟩:=x;exact⟨z,y,xs,Paired.mapP r λp q z=>⟨z.1,J _ _ z.2.1,z.2.2⟩,j,l,m,k _ _ (.inl rfl) e,c⟩
 |dN A=>obtain⟨z,y,xs,r,j,l,m,e,c⟩:=x;exact⟨z,y,xs,Paired.mapP r λp q z=>⟨z.1,(let ⟨b,D,h2⟩:=z.2.1;⟨b,J _ _ D,J _ _ h2⟩),z.2.2⟩,j,l,m,k _ _ (.inl rfl) e,c⟩
 |set S n=>obtain⟨j,l,m,t,e,c⟩:=x;exact⟨j,l,m,t,k _ _ (.inl rfl) e,c⟩
 |ins C dx fs=>obtain⟨d,z,W,e,I,⟨G,l,m,B,c⟩,r⟩:=x;exact⟨M _ d,z,W,k _ _ (.inl rfl) e,I,⟨G,l,m,k _ _ (.inr d) B,c⟩,r⟩
 |own y=>obtain⟨j,e⟩:=x;exact⟨j,k _ _ (.inl rfl) e⟩
 |xd fs=>obtain⟨I,⟨G,l,m,e,c⟩,r⟩:=x;exact⟨I,⟨G,l,m,k _ _ (.inl rfl) e,c⟩,r⟩
 |rng lo hi=>obtain⟨t,u,v,e⟩:=x;exact⟨t,u,v,k _ _ (.inl rfl) e⟩
 |frz j u X=>obtain⟨e,q⟩:=x;exact⟨k _ _ (.inl rfl) e,X q⟩
 |tbl q=>
  obtain⟨Q,e,t,g⟩:=x;refine⟨Q,k a _ (.inl rfl) e,t,λF cv Y=>?_⟩;obtain⟨c,rfl,D,N,o,E,O,B,Z,r⟩:=g F cv Y;cases B;exact⟨c,rfl,M c D,c,o,E,O,rfl,k c _ (.inr D) Z,r⟩
 |met f y=>have e:h.get? a=aa (Jx (.ref f) (.ref y)):=x;show h'.get? a=aa (Jx (.ref f) (.ref y));exact k a _ (.inl rfl) e
 |ext φ=>obtain⟨p,⟨o,e⟩,L⟩:=x;exact⟨L _ _ p λo q=>k _ _ (.inl rfl) q,⟨o,k _ _ (.inl rfl) e⟩,L⟩
theorem c9.lt(x:c9 P w H h)(e:H a=aa o):a<h.objs.size:=(x a o e).lt
theorem c9.fresh(x:c9 P w H h)(e:h.objs.size<=a):H a=af:=by
 cases q:H a with
 |none=>rfl
 |some u=>exact absurd (gK (x.lt q) e) (mz _)
theorem c9.kept(x:c9 P w H h)(k:∀b u,h.get? b=aa u->h'.get? b=aa u):c9 P w H h':=λa o e=>(x a o e).stay (λb u _ q=>k b u q) (λ_ q=>q) λ_ _ q=>q
theorem c9.laid(x:c9 P w H h)(k:∀b u,h.get? b=aa u->h'.get? b=aa u)(f:h.objs.size<=a)(new:cc P w (upd H a o) h' a o):c9 P w (upd H a o) h':=λb u e=>by
 have hn:=x.fresh f;by_cases d:b=a
 .subst d;rw[upd_same]at e;lia
 .rw[a6 d]at e;exact(x b u e).stay (λc v _ q=>k c v q) (λc q=>by rw[a6 (kM q hn)];exact q) λc xs q=>by rw[a6 (kM q hn)];exact q
end
def Rd(H:Hp)(a:ae)(u:HO):Prop:=H a=aa u\/∃o,H a=aa (.frz o u)
theorem Rd.ok{h:aB}{a:ae}{u:HO}(r:Rd H a u)(x:c9 P w H h):cc P w H h a u:=by
 rcases r with r|⟨o,r⟩
 .exact x a u r
 .obtain⟨_,q⟩:=x a _ r;exact q
noncomputable def vd:Option HO->Prop
 |some (.lst _)=>True
 |some (.dK _)=>True
 |some (.dT _)=>True
 |some (.dN _)=>True
 |some (.set _ _)=>True
 |some (.ins _ _ _)=>True
 |some (.ext _)=>True
 |_=>False
section
variable{P:aP}{w:aI}{H:Hp}{h a:aB}{x e:ae}{d:HO}
theorem c9.write(ok:c9 P w H h)(i:vd (H x))(p:e=x\/H e=aa (.own x))(k:∀b u,b≠e->h.get? b=aa u->a.get? b=aa u)(m:∃u,a.get? e=aa u)(new:cc P w (upd H x d) a x d):c9 P w (upd H x d) a:=λb u q=>by
 have g:∀c y,H c=aa (.own y)->c≠x:=λc y r z=>by subst z;rw[r]at i;exact i
 have f:∀c xs,H c=aa (.tup xs)->c≠x:=λc xs r z=>by subst z;rw[r]at i;exact i
 by_cases l:b=x
 .subst l;rw[upd_same]at q;lia
 .rw[a6 l]at q;by_cases n:b=e
  .have j:H b=aa (.own x):=by
    lia
   rw[q]at j;cases j;obtain⟨v,o⟩:=m;exact⟨v,by lia⟩
  .refine(ok b u q).stay (λc v s r=>k c v ?_ r) (λc r=>by rw[a6 (g c b r)];exact r) λc xs r=>by rw[a6 (f c xs r)];exact r
   grind
end
structure Un(fs ex:List ae)(H H':Hp)(h h':aB):Prop where
 keep:∀b o,h.get? b=aa o->H b=af->b∉fs->b∉ex->h'.get? b=aa o
 slot:∀b o,h.get? b=aa o->H b=af->b∈fs->b∉ex->∃sl,h'.get? b=aa {o with slots:=sl}
 free:∀b o,h.get? b=aa o->H b=af->b∉ex->H' b=af
 there:∀b o,h.get? b=aa o->b∉ex->∃o',h'.get? b=aa o'
 tups:∀b xs,H b=aa (.tup xs)->H' b=aa (.tup xs)
 frzs:∀b o u,H b=aa (.frz o u)->H' b=aa (.frz o u)
 tbls:∀b q,H b=aa (.tbl q)->H' b=aa (.tbl q)/\∀c o,H c=aa (.own b)->h.get? c=aa o->h'.get? c=aa o/\H' c=aa (.own b)
section
variable{fs f ex i:List ae}{H j m:Hp}{h d l h':aB}{a x e:ae}{o:HO}
theorem Un.any(u:Un fs ex H j h d)(q:h.get? b=aa c)(n:H b=af)(g:b∉ex):∃r,d.get? b=aa {c with slots:=r}:=by
 by_cases p:b∈fs
 .exact u.slot b c q n p g
 .exact⟨c.slots,u.keep b c q n p g⟩
theorem Un.kept(k:∀b u,h.get? b=aa u->h'.get? b=aa u):Un fs ex H H h h' :=⟨λb p q _ _ _=>k b p q,λb p q _ _ _=>⟨p.slots,k b p q⟩,λ_ _ _ n _=>n,λb p q _=>⟨p,k b p q⟩,λ_ _ q=>q,λ_ _ _ q=>q,λ_ _ q=>⟨q,λc o e g=>⟨k c o g,e⟩⟩⟩
theorem Un.refl:Un fs ex H H h h:=Un.kept λ_ _ q=>q
theorem Un.laid(k:∀b u,h.get? b=aa u->h'.get? b=aa u)(r:h.objs.size<=a)(hn:H a=af):Un fs ex H (upd H a o) h h' where
 keep:=λb u q _ _ _=>k b u q
 slot:=λb u q _ _ _=>⟨u.slots,k b u q⟩
 free:=λb u q n _=>by rw[a6 (dq (gK (bG q) r))];exact n
 there:=λb u q _=>⟨u,k b u q⟩
 tups:=λb xs q=>by rw[a6 (kM q hn)];exact q
 frzs:=λb u xs q=>by rw[a6 (kM q hn)];exact q
 tbls:=λb v q=>⟨by rw[a6 (kM q hn)];exact q,λc p s g=>⟨k c p g,by rw[a6 (kM s hn)];trivial⟩⟩
theorem Un.write(s:vd (H x))(B:e=x\/H e=aa (.own x))(k:∀b u,b≠e->h.get? b=aa u->h'.get? b=aa u)(C:∃u,h'.get? e=aa u):Un fs ex H (upd H x o) h h':=by
 have A:∀b,H b=af->b≠x:=λb n z=>by subst z;rw[n]at s;exact s
 have w:∀b,H b=af->b≠e:=λb n z=>⋯
 have p:∀b u,H b=aa u->¬vd (aa u)->b≠x:=λb u q E z=>by lia
 refine⟨λb u q n _ _=>k b u (w b n) q,λb u q n _ _=>⟨u.slots,k b u (w b n) q⟩,λb u q n _=>by rw[a6 (A b n)];exact n,λb u q _=>?_,
  λb xs q=>by rw[a6 (p b _ q λz=>z)];exact q,λb u xs q=>by rw[a6 (p b _ q λz=>z)];exact q,λb D q=>⟨by rw[a6 (p b _ q λz=>z)];exact q,λc y v g=>⟨k c y (by
   rintro rfl;rcases B with r|r
   .exact p c _ v (λz=>z) r
   .rw[v]at r;cases r;rw[q]at s;exact s) g,by rw[a6 (p c _ v λz=>z)];trivial⟩⟩⟩
 grind
end
noncomputable def yS(h:aB)(H:Hp):List ae:=(cF h.objs.size).filter λa=>(H a).isSome
def nt(h:aB)(H:Hp):aB:=PySem.W.hideAll h (yS h H)
theorem K8(h:aB)(H:Hp):(nt h H).objs.size=h.objs.size:=PySem.W.hideAll_size _ _
theorem Pt{h:aB}(e:h.get? b=aa o)(n:H b=af):(nt h H).get? b=aa o :=
 PySem.W.hideAll_get _ e λa=>by
  have q:(H b).isSome=ah:=(ku.mp a).2
  grind
theorem Vb(e:(nt h H).get? b=aa o):h.get? b=aa o/\H b=af:=by
 have a:h.get? b=aa o:=PySem.W.of_hideAll (yS h H) e;refine⟨a,?_⟩;cases q:H b with
 |none=>rfl
 |some x=>have c:b∈yS h H:=ku.mpr ⟨o4.mpr (bG a),by simp[q]⟩;have z:(nt h H).get? b=af:=PySem.W.hideAll_none (yS h H) c;lia
noncomputable def RD(g h:aB)(L:ae):List (ae×Obj):=(cF h.objs.size).filterMap λa=>if a=L\/(g.get? a).isSome=ah then af else(h.get? a).map λo=>(a,o)
def rest(g h:aB)(L d:ae):List (ae×Obj):=(RD g h L).filter λp=>decide (p.1≠d)
structure Mod(K:ax)(mg:Str->Option ai)(base:aB):Prop where
 kin:K.In base
 glob:base.Ns cb mg
 blt:∃mb,base.Ns qG mb/\∀x:Str,x≠"__name__"->mb x=fu x
 nolimit:base.NoLimit
 bm:∃bm ob,mg "__builtins__"=aa (.ref bm)/\bm≠qG/\base.get? bm=aa ob/\ob.cls=.type "module"/\ob.dict=aa qG/\ob.data=.plain
structure Cx where
 prog:aP
 w:aI
 K:ax
 mg:Str->Option ai
 base:aB
 A:aV
 N:List Str
 s₀:ao
 H₀:Hp
 env:Env
 outer:List Env
 stack:List Env
 ex:List ae
 fn:Str->Bool
 calm:Bool
 pn:List (ae×Obj)
 xe:ai->ao->Prop
noncomputable def fF(l:List Env):List ae:=l.filterMap (·.frame)
abbrev Cx.fs(X:Cx):List ae:=fF X.outer
noncomputable def d8(a:dP)(x:Str):Prop:=a.names.lookup x=aa .local\/a.names.lookup x=aa .cell\/a.names.lookup x=aa .free
def Loc(a:dP)(x:Str):Prop:=a.names.lookup x=aa .local\/a.names.lookup x=aa .cell
noncomputable def Look(a:Env)(h:aB)(m:Str->Option ai)(x:Str)(u:ai):Prop :=(a.kindOf x=aa .local/\m x=aa u)\/((a.kindOf x=aa .cell\/a.kindOf x=aa .free)/\∃c,a.cells.lookup x=aa c/\h.IsCell c (aa u))
noncomputable def CK:List Str:=["least_ending"]
def xF(K:ax)(H:Hp):Prop:=∀x∈CK,∀c P,qH K x=aa (c,P)->H P=aa (.tbl (x++".<locals>.<lambda>"))
structure Cx.Ok(X:Cx):Prop where
 mod:Mod X.K X.mg X.base
 kind:X.env.scope.kind=.function
 glob:X.env.globals=cb
 blt:X.env.builtins=qG
 above:X.s₀.heap.objs.size<=X.env.locals
 inj:∀x y c,X.env.cells.lookup x=aa c->X.env.cells.lookup y=aa c->x=y
 has:∀x,(X.env.kindOf x=aa .cell\/X.env.kindOf x=aa .free)->∃c,X.env.cells.lookup x=aa c
 cab:∀x c,X.fn x=ah->X.env.cells.lookup x=aa c->X.s₀.heap.objs.size<=c
 hd:X.calm=ah->X.A.handled=af
 frames:X.A.frames=aa X.stack
 stk:X.stack=X.outer\/(X.stack=X.env::X.outer/\X.env.frame=aa X.env.locals)
 exf:∀b∈X.ex,b≠X.env.locals/\∀x c,X.env.cells.lookup x=aa c->c≠b
 bs:∀b o,X.base.get? b=aa o->X.s₀.heap.get? b=aa o/\X.H₀ b=af
 bsz:X.base.objs.size<=X.s₀.heap.objs.size
 noex:∀b o,X.base.get? b=aa o->b∉X.ex
 exfs:∀b∈X.ex,b∉X.fs
 funs:X.s₀.heap.FunFrames X.base X.outer
 frf:∀b∈X.fs,X.H₀ b=af
 tab:xF X.K X.H₀
structure Inv(X:Cx)(ag:List (ae×Obj))(σ:List (Option V))(H:Hp)(s:ao):Prop where
 ok:X.Ok
 os:s.os=X.s₀.os
 bare:nK s.gens
 base:Un X.fs X.ex X.H₀ H X.s₀.heap s.heap
 loc:∃m,s.heap.Ns X.env.locals m/\∀(i:Nat) (x:Str) (v:V),X.N[i]?=aa x->σ[i]?=aa (aa v)->d8 X.env.scope x->∃u,RelV v u/\Look X.env s.heap m x u
 cell:∀x c,X.env.cells.lookup x=aa c->∃v,s.heap.IsCell c v
 free:H X.env.locals=af
 freeC:∀x c,X.env.cells.lookup x=aa c->H c=af
 pin:∀p∈X.pn++ag,s.heap.get? p.1=aa p.2/\H p.1=af/\p.1≠X.env.locals/\p.1∉X.fs/\∀v,p.2.data≠.cell v
 hok:c9 X.prog X.w H s.heap
 len:σ.length=X.N.length
section
variable{X:Cx}{f:List (ae×Obj)}{w:List (Option V)}{H B:Hp}{s:ao}{h':aB}
theorem Cx.Ok.nofr(ok:X.Ok)(e:X.base.get? b=aa o):b∉X.fs:=λa=>by have:=(ok.funs.mem a).1;lia
theorem Inv.bs(I:Inv X f w H s):∀b o,X.base.get? b=aa o->s.heap.get? b=aa o/\H b=af:=λb o e=>⟨I.base.keep b o (I.ok.bs b o e).1 (I.ok.bs b o e).2 (I.ok.nofr e) (I.ok.noex b o e),I.base.free b o (I.ok.bs b o e).1 (I.ok.bs b o e).2 (I.ok.noex b o e)⟩
theorem Inv.bk(I:Inv X f w H s):∀b o,X.base.get? b=aa o->s.heap.get? b=aa o:=λb o e=>(I.bs b o e).1
theorem Inv.mod(I:Inv X f w H s):Mod X.K X.mg X.base:=I.ok.mod
theorem Inv.kIn(I:Inv X f w H s):X.K.In s.heap:=I.ok.mod.kin.keeps I.bk
theorem Inv.lt(I:Inv X f w H s):X.env.locals<s.heap.objs.size:=let ⟨_,hn,_⟩:=I.loc;hn.lt
theorem Inv.sz(I:Inv X f w H s):X.s₀.heap.objs.size<=s.heap.objs.size:=cV I.ok.above (kw I.lt)
theorem Inv.nofs(I:Inv X f w H s)(h:s.heap.objs.size<=a):a∉X.fs:=λc=>by obtain⟨_,o,b,_⟩:=I.ok.funs.mem c;exact absurd (gK (bG b) (cV I.sz h)) (mz _)
theorem Inv.cne(I:Inv X f w H s):∀x c,X.env.cells.lookup x=aa c->c≠X.env.locals:=λx c e z=>by obtain⟨v,o,d,g⟩:=I.cell x c e;obtain⟨m,⟨b,i,j,h,a,_⟩,_⟩:=I.loc;simp_all
theorem Inv.tab(I:Inv X f w H s):xF X.K H:=λx a c P h=>(I.base.tbls P _ (I.ok.tab x a c P h)).1
theorem Inv.funs(I:Inv X f w H s):s.heap.FunFrames X.base X.outer:=by
 have all:∀(l:List Env),(∀b∈fF l,b∈X.fs)->X.s₀.heap.FunFrames X.base l->s.heap.FunFrames X.base l:=by
  intro l
  induction l with
  |nil=>intro _ _;trivial
  |cons u r h=>intro g n;obtain⟨p,⟨L,o,a,m,j,q⟩,i⟩:=n;have d:L∈X.fs:=g L (by unfold fF;rw[nL,a];exact j3);obtain⟨v,e⟩:=I.base.slot L o j (I.ok.frf L d) d λz=>I.ok.exfs L z d;exact⟨p,⟨L,_,a,m,e,q⟩,h (λb c=>g b (by unfold fF;rw[nL,a];exact gZ _ c)) i⟩
 exact all X.outer (λ_ c=>c) I.ok.funs
theorem Inv.stack(I:Inv X f w H s):s.heap.FunFrames X.base X.stack:=by
 rcases I.ok.stk with e|⟨e,b⟩
 .rw[e];exact I.funs
 .rw[e];obtain⟨m,a,_⟩:=I.loc;refine .cons (by rw[I.ok.kind];decide) b a ?_ I.funs;exact CZ (cV I.ok.bsz I.ok.above)
theorem Inv.stkSub(I:Inv X f w H s):∀b∈fF X.stack,b∈X.env.locals::X.fs:=λb a=>by
 rcases I.ok.stk with e|⟨e,c⟩
 .simp_all
 .rw[e]at a;unfold fF at a;rw[nL,c]at a;trivial
theorem Inv.stkFree(I:Inv X f w H s):∀b∈fF X.stack,H b=af:=λb a=>by
 rcases bZ.mp (I.stkSub b a)with e|a
 .rw[e];exact I.free
 .obtain⟨_,o,c,_⟩:=I.ok.funs.mem a;exact I.base.free b o c (I.ok.frf b a) λz=>I.ok.exfs b z a
theorem Inv.step{ch:List ae}(I:Inv X f w H s)(O:∀b∈ch,(b∈X.ex\/X.s₀.heap.objs.size<=b)/\b≠X.env.locals/\(∀x c,X.env.cells.lookup x=aa c->c≠b)/\∀p∈X.pn++f,p.1≠b)(keep:∀b o,b≠X.env.locals->b∉X.fs->b∉ch->s.heap.get? b=aa o->H b=af->h'.get? b=aa o)(C:∀b o,b≠X.env.locals->b∈X.fs->b∉ch->s.heap.get? b=aa o->H b=af->∃T,h'.get? b=aa {o with slots:=T}) (free:∀b o,b∉ch->s.heap.get? b=aa o->H b=af->B b=af)(D:∀b o,b∉ch->s.heap.get? b=aa o->∃M,h'.get? b=aa M)(L:∀b xs,H b=aa (.tup xs)->B b=aa (.tup xs)) (P:∀b o u,H b=aa (.frz o u)->B b=aa (.frz o u)) (A:∀b q,H b=aa (.tbl q)->B b=aa (.tbl q)/\∀c o,H c=aa (.own b)->s.heap.get? c=aa o->h'.get? c=aa o/\B c=aa (.own b))(ns:∀m,s.heap.Ns X.env.locals m->h'.Ns X.env.locals m) (W:c9 X.prog X.w B h') (hg:nK g'):Inv X f w B {s with heap:=h',gens:=g',drawn:=d',toks:=t'}:=by
 have N:∀b o,X.s₀.heap.get? b=aa o->b≠X.env.locals:=λb o e=>dq (gK (bG e) I.ok.above);have y:∀b o,X.s₀.heap.get? b=aa o->b∉X.ex->b∉ch:=λb o e a E=>by
  rcases(O b E).1 with z|z
  .trivial
  .exact absurd (gK (bG e) z) (mz _)
 have j:∀x c,X.env.cells.lookup x=aa c->∀v,s.heap.IsCell c v->h'.IsCell c v:=λx c e v ⟨o,G,Y⟩=>by
  have h:c∉ch:=λz=>(O c z).2.2.1 x c e rfl;by_cases hc:c∈X.fs
  .obtain⟨T,q⟩:=C c o (I.cne x c e) hc h G (I.freeC x c e);exact⟨_,q,Y⟩
  .exact⟨o,keep c o (I.cne x c e) hc h G (I.freeC x c e),Y⟩
 refine⟨I.ok,I.os,hg,⟨λb o e n E a=>?_,λb o e n E a=>?_,λb o e n a=>?_,λb o e a=>?_,λb xs e=>L b xs (I.base.tups b xs e),λb o xs e=>P b o xs (I.base.frzs b o xs e),λb Q e=>?_⟩,?_,λx c e=>?_,?_,λx c e=>?_,λp hp=>?_,W,I.len⟩
 .exact keep b o (N b o e) E (y b o e a) (I.base.keep b o e n E a) (I.base.free b o e n a)
 .obtain⟨T,F⟩:=I.base.slot b o e n E a;obtain⟨S,J⟩:=C b _ (N b o e) E (y b o e a) F (I.base.free b o e n a);exact⟨S,J⟩
 .obtain⟨M,F⟩:=I.base.there b o e a;exact free b M (y b o e a) F (I.base.free b o e n a)
 .obtain⟨M,F⟩:=I.base.there b o e a;exact D b M (y b o e a) F
 .exact⟨(A b _ (I.base.tbls b Q e).1).1,λc o J g=>(A b _ (I.base.tbls b Q e).1).2 c o ((I.base.tbls b Q e).2 c o J g).2 ((I.base.tbls b Q e).2 c o J g).1⟩
 .obtain⟨m,hn,hl⟩:=I.loc;refine⟨m,ns m hn,λi x v F J e3=>?_⟩;obtain⟨u,r,l⟩:=hl i x v F J e3;refine⟨u,r,?_⟩;rcases l with l|⟨k,c,e,z⟩
  .exact .inl l
  .exact .inr ⟨k,c,e,j x c e _ z⟩
 .obtain⟨v,z⟩:=I.cell x c e;exact⟨v,j x c e v z⟩
 .obtain⟨m,⟨o,_,_,G,_⟩,_⟩:=I.loc;exact free _ o (λz=>(O _ z).2.1 rfl) G I.free
 .obtain⟨v,o,G,Y⟩:=I.cell x c e;exact free c o (λz=>(O c z).2.2.1 x c e rfl) G (I.freeC x c e)
 .obtain⟨e,n,ne,Z,d⟩:=I.pin p hp;have h:p.1∉ch:=λz=>(O p.1 z).2.2.2 p hp rfl;exact⟨keep p.1 p.2 ne Z h e n,free p.1 p.2 h e n,ne,Z,d⟩
theorem Inv.un(I:Inv X f w H s)(u:Un X.fs [] H B s.heap h')(a:c9 X.prog X.w B h'):Inv X f w B {s with heap:=h',toks:=t'}:=by
 obtain⟨m,⟨o,y,A,h,r⟩,_⟩:=id I.loc;obtain⟨q,p⟩:=u.any h I.free (by simp);exact I.step (g':=s.gens) (d':=s.drawn) (ch:=[]) (λ_ z=>nomatch z) (λb o _ c _ e n=>u.keep b o e n c (by simp)) (λb o _ c _ e n=>u.slot b o e n c (by simp)) (λb o _ e n=>u.free b o e n (by simp)) (λb o _ e=>u.there b o e (by simp)) u.tups u.frzs u.tbls (λx l=>by
  obtain⟨v,d,g,i,j⟩:=l;rw[h]at i;cases i;exact⟨_,d,g,p,j⟩) a I.bare
theorem Inv.call{ch:List ae}(I:Inv X f w H s)(u:Un (fF X.stack) ch H B s.heap h')(d:c9 X.prog X.w B h')(A:nK g')(j:∀b∈ch,(b∈X.ex\/X.s₀.heap.objs.size<=b)/\b≠X.env.locals/\(∀x c,X.env.cells.lookup x=aa c->c≠b)/\∀p∈X.pn++f,p.1≠b):Inv X f w B {s with heap:=h',gens:=g',drawn:=d',toks:=t'}:=by
 obtain⟨m,⟨o,G,J,l,r⟩,_⟩:=id I.loc;obtain⟨D,g⟩:=u.any l I.free λz=>(j _ z).2.1 rfl;exact I.step (ch:=ch) j (λb o g C a e n=>u.keep b o e n (λz=>(bZ.mp (I.stkSub b z)).elim g C) a) (λb o _ _ a e n=>u.any e n a) (λb o a e n=>u.free b o e n a) (λb o a e=>u.there b o e a) u.tups u.frzs u.tbls (λF y=>by
  obtain⟨E,h,i,q,v⟩:=y;rw[l]at q;cases q;exact⟨_,h,i,g,v⟩) d A
theorem Inv.turned(I:Inv X f w H s)(k:∀b o,b≠it->s.heap.get? b=aa o->h'.get? b=aa o)(D:H it=af)(y:it≠X.env.locals)(G:it∈X.ex\/X.s₀.heap.objs.size<=it) (F:∀x c,X.env.cells.lookup x=aa c->c≠it) (E:∀p∈X.pn++f,p.1≠it):Inv X f w H {s with heap:=h',toks:=t'}:=by
 have d:∀b u,H b=aa u->b≠it:=λb u e z=>by lia
 refine I.step (g':=s.gens) (d':=s.drawn) (ch:=[it]) (λb l=>?_) (λb o _ _ a e _=>k b o (λz=>a (by simp[z])) e) (λb o _ _ a e _=>⟨o.slots,k b o (λz=>a (by simp[z])) e⟩) (λ_ _ _ _ n=>n)
  (λb o a e=>⟨o,k b o (λz=>a (by simp[z])) e⟩) (λ_ _ e=>e) (λ_ _ _ e=>e) (λ_ _ e=>⟨e,λc o h g=>⟨k c o (d c _ h) g,h⟩⟩) (λm j=>?_) (λb u e=>?_) I.bare
 .have e:b=it:= ~~~l
  subst e;trivial
 .obtain⟨o,A,C,i,r⟩:=j;exact⟨o,A,C,k _ o (c0 y) i,r⟩
 .refine(I.hok b u e).stay (λc v a q=>k c v ?_ q) (λ_ q=>q) λ_ _ q=>q;lia
theorem Inv.tok(I:Inv X f w H s)(t:Nat):Inv X f w H {s with toks:=t}:=I.un (h':=s.heap) (t':=t) Un.refl I.hok
theorem Inv.kept(I:Inv X f w H s)(k:∀b u,s.heap.get? b=aa u->h'.get? b=aa u):Inv X f w H {s with heap:=h',toks:=t'}:=I.un (Un.kept k) (I.hok.kept k)
theorem Inv.laid(I:Inv X f w H s)(k:∀b u,s.heap.get? b=aa u->h'.get? b=aa u)(c:s.heap.objs.size<=a)(new:cc X.prog X.w (upd H a o) h' a o):Inv X f w (upd H a o) {s with heap:=h',toks:=t'}:=I.un (Un.laid k c (I.hok.fresh c)) (I.hok.laid k c new)
theorem Inv.write(I:Inv X f w H s)(c:vd (H x))(d:e=x\/H e=aa (.own x))(k:∀b u,b≠e->s.heap.get? b=aa u->h'.get? b=aa u)(a:∃u,h'.get? e=aa u)(new:cc X.prog X.w (upd H x o) h' x o):Inv X f w (upd H x o) {s with heap:=h',toks:=g}:=I.un (Un.write c d k a) (I.hok.write c d k a new)
theorem Inv.pins_of(I:Inv X f w H s)(h:∀p∈a,s.heap.get? p.1=aa p.2/\H p.1=af/\p.1≠X.env.locals/\p.1∉X.fs/\∀v,p.2.data≠.cell v):Inv X a w H s :=⟨I.ok,I.os,I.bare,I.base,I.loc,I.cell,I.free,I.freeC,λp b=>(kA.mp b).elim (λz=>I.pin p (wc _ z)) (h p),I.hok,I.len⟩
theorem AE{N:List Str}(c:N.Nodup){j:Nat}(a:N[i]?=aa x)(b:N[j]?=aa x):i=j:=by obtain⟨l,g⟩:=cJ.mp a;obtain⟨h,d⟩:=cJ.mp b;exact(List.getElem_inj c).mp (g.trans d.symm)
abbrev az(X:Cx)(x:Str):=X.fn x=ah\/X.env.scope.names.lookup x=aa .local
theorem HW(I:Inv X f w H s)(hN:X.N.Nodup)(Y:X.N[i]?=aa x)(G:Loc X.env.scope x)(r:RelV v u)(h:∀s',Inv X f (w.set i (aa v)) H s'->(∃a,j4 a s.heap s'.heap/\(a=X.env.locals\/X.env.cells.lookup x=aa a))->Q () s') (hf:az X x^3):ar M A (storeName X.env x u) Q E s:=by
 obtain⟨m,hn,hl⟩:=id I.loc;have n_:(X.env.scope.kind == .class||(X.env.scope.kind == .module&&X.env.locals != X.env.globals))=ak:=by rw[I.ok.kind];rfl
 have N:i<w.length:=by rw[I.len];exact(cJ.mp Y).1
 have cne:=I.cne;have D:∀{a:ae}{h':aB},(∃o,s.heap.get? a=aa o/\H a=af)->j4 a s.heap h'->c9 X.prog X.w H h':=λ{a h'} ha l b ob e=>by obtain⟨_,_,KC⟩:=ha;refine(I.hok b ob e).stay (λc w' J q=>(l.2 c ?_).trans q) (λ_ q=>q) λ_ _ q=>q;lia
 rcases G with T|T
 .refine wpAny_storeName_local T hn (λh' hn' l=>?_) n_;obtain⟨oL,_,_,j_,_⟩:=id hn;refine h _ ⟨I.ok,I.os,I.bare,⟨λb o e n S G=>?_,λb o e n S G=>?_,I.base.free,λb o e G=>?_,I.base.tups,I.base.frzs,λb q e=>⟨(I.base.tbls b q e).1,λc o F g=>⟨(l.2 c (λz=>by have C:=((I.base.tbls b q e).2 c o F g).2;rw[z,I.free]at C;trivial)).trans ((I.base.tbls b q e).2 c o F g).1,((I.base.tbls b q e).2 c o F g).2⟩⟩⟩,⟨_,hn',λj y v' C F e3=>?_⟩,λy c e=>?_,I.free,I.freeC,λp hp=>?_,D ⟨oL,j_,I.free⟩ l,~~~I.len⟩ ⟨_,l,.inl rfl⟩
  .exact(l.2 b (dq (gK (bG e) I.ok.above))).trans (I.base.keep b o e n S G)
  .obtain⟨sl,C⟩:=I.base.slot b o e n S G;exact⟨sl,(l.2 b (dq (gK (bG e) I.ok.above))).trans C⟩
  .obtain⟨o',C⟩:=I.base.there b o e G;exact⟨o',(l.2 b (dq (gK (bG e) I.ok.above))).trans C⟩
  .by_cases O:j=i
   .subst O;rw[Y]at C;cases C;rw[eB N]at F;cases F;exact⟨u,r,.inl ⟨T,by simp⟩⟩
   .rw[cK (c0 O)]at F;obtain⟨u',r',q⟩:=hl j y v' C F e3;refine⟨u',r',?_⟩;rcases q with⟨k,e⟩|⟨k,c,e,z⟩
    .refine .inl ⟨k,?_⟩;have:y≠x:=λe=>O (AE hN C (e ▸ Y));simp[this,e]
    .exact .inr ⟨k,c,e,z.sameBut l (cne y c e)⟩
  .obtain⟨w',z⟩:=I.cell y c e;exact⟨w',z.sameBut l (cne y c e)⟩
  .obtain⟨e,n,ne,nf,d⟩:=I.pin p hp;exact⟨(l.2 p.1 ne).trans e,n,ne,nf,d⟩
 .have P:X.fn x=ah:=by
   lia
  obtain⟨c,J⟩:=I.ok.has x (.inl T);obtain⟨w',z⟩:=I.cell x c J;refine wpAny_storeName_cell I.ok.kind T J z (λh' jm l=>?_);obtain⟨oc,W,hocd⟩:=id z;refine h {s with heap:=h'} ⟨I.ok,I.os,I.bare,⟨λb o e n S G=>?_,λb o e n S G=>?_,I.base.free,λb o e G=>?_,I.base.tups,I.base.frzs,λb q e=>⟨(I.base.tbls b q e).1,λL o F g=>⟨(l.2 L (λz=>by have C:=((I.base.tbls b q e).2 L o F g).2;rw[z,I.freeC x c J]at C;trivial)).trans ((I.base.tbls b q e).2 L o F g).1,((I.base.tbls b q e).2 L o F g).2⟩⟩⟩,⟨m,hn.sameBut l (c0 (cne x c J)),λj y v' C F e3=>?_⟩,λy L e=>?_,I.free,I.freeC,λp hp=>?_,D ⟨oc,W,I.freeC x c J⟩ l,~~~I.len⟩ ⟨c,l,.inr J⟩
  .exact(l.2 b (dq (gK (bG e) (I.ok.cab x c P J)))).trans (I.base.keep b o e n S G)
  .obtain⟨sl,C⟩:=I.base.slot b o e n S G;exact⟨sl,(l.2 b (dq (gK (bG e) (I.ok.cab x c P J)))).trans C⟩
  .obtain⟨o',C⟩:=I.base.there b o e G;exact⟨o',(l.2 b (dq (gK (bG e) (I.ok.cab x c P J)))).trans C⟩
  .by_cases O:j=i
   .subst O;rw[Y]at C;cases C;rw[eB N]at F;cases F;exact⟨u,r,.inr ⟨.inl T,c,J,jm⟩⟩
   .rw[cK (c0 O)]at F;obtain⟨u',r',q⟩:=hl j y v' C F e3;refine⟨u',r',?_⟩;rcases q with q|⟨k,L,e,z'⟩
    .exact .inl q
    .refine .inr ⟨k,L,e,z'.sameBut l ?_⟩;rintro rfl;exact O (AE hN C (I.ok.inj _ _ _ e J ▸ Y))
  .by_cases Z:L=c
   .subst Z;exact⟨_,jm⟩
   .obtain⟨w2,z2⟩:=I.cell y L e;exact⟨w2,z2.sameBut l Z⟩
  .obtain⟨e,n,ne,nf,d⟩:=I.pin p hp;refine⟨(l.2 p.1 ?_).trans e,n,ne,nf,d⟩;intro q;rw[q,W]at e;have q':oc=p.2:=fe e;exact d w' (by rw[<-q'];trivial)
theorem vI{i:Nat}{x:Str}{v:V}{u:ai}{Q:Unit->ao->Prop}(I:Inv X f w H s)(d:X.N.Nodup)(b:X.N[i]?=aa x)(a:Loc X.env.scope x)(r:RelV v u)(h:∀s',Inv X f (w.set i (aa v)) H s'->Q () s') (c:az X x^3):ar M A (storeName X.env x u) Q E s :=HW I d b a r (λs' g _=>h s' g) c
theorem Inv.call'{s':ao}(I:Inv X f w H s)(h:s'.os=s.os)(u:Un (fF X.stack) ch H B s.heap s'.heap)(a:c9 X.prog X.w B s'.heap)(i:nK s'.gens)(g:∀b∈ch,(b∈X.ex\/X.s₀.heap.objs.size<=b)/\b≠X.env.locals/\(∀x c,X.env.cells.lookup x=aa c->c≠b)/\∀p∈X.pn++f,p.1≠b):Inv X f w B s':=by obtain⟨h',g',d',t',d⟩:=s';have e:d=s.os:=h;subst e;exact I.call (g':=g') (t':=t') (d':=d') u a i g
end
abbrev XK:=ai->Option ae->Hp->Prop
abbrev St:=List (Option V)
abbrev VK:=V->Hp->Prop
abbrev TE:=St->Hp->VK->Prop
abbrev TT:=St->Hp->(Bool->Hp->Prop)->Prop
abbrev TA:=St->Hp->(List V->Hp->Prop)->Prop
structure jW where
 nx:St->Hp->Prop
 rt:VK
 bk:St->Hp->Prop:=λ_ _=>False
 ct:St->Hp->Prop:=λ_ _=>False
abbrev TS:=jW->St->Hp->Prop
inductive EP(X:Cx)(ag:List (ae×Obj))(σ:St)(Q:VK)(u:ai)(s':ao):Prop
 |mk (v:V) (H':Hp) (z0:Inv X ag σ H' s') (z1:RelV v u) (z2:Q v H')
inductive TP(X:Cx)(ag:List (ae×Obj))(σ:St)(Q:Bool->Hp->Prop)(b:Bool)(s':ao):Prop
 |mk (H':Hp) (z0:Inv X ag σ H' s') (z1:Q b H')
inductive AP(X:Cx)(ag:List (ae×Obj))(σ:St)(Q:List V->Hp->Prop)(us:List ai)(s':ao):Prop
 |mk (vs:List V) (H':Hp) (z0:Inv X ag σ H' s') (z1:bC vs us) (z2:Q vs H')
noncomputable def SP(X:Cx)(c:List (ae×Obj))(D:jW)(f:Flow)(s':ao):Prop :=
 match f with
 |.next=>∃a b,Inv X c a b s'/\D.nx a b
 |.brk=>∃a b,Inv X c a b s'/\D.bk a b
 |.cont=>∃a b,Inv X c a b s'/\D.ct a b
 |.ret u=>∃v a b,Inv X c a b s'/\RelV v u/\D.rt v b
noncomputable abbrev Cx.zz(X:Cx):=aw X.prog X.w
def PE(X:Cx)(e:aC)(t:TE):Prop :=
 ∀(b:List (ae×Obj)) (s:ao) (a:St) (H:Hp) (Q:VK),Inv X b a H s->t a H Q->ar X.zz X.A (a8 e X.env) (EP X b a Q) X.xe s
def PT(X:Cx)(e:aC)(t:TT):Prop :=
 ∀(b:List (ae×Obj)) (s:ao) (a:St) (H:Hp) (Q:Bool->Hp->Prop),Inv X b a H s->t a H Q->ar X.zz X.A (nM e X.env (a8 e X.env)) (TP X b a Q) X.xe s
def PW(X:Cx)(e:aC)(t:TT):Prop :=
 ∀(c:Sem ai) (b:List (ae×Obj)) (s:ao) (a:St) (H:Hp) (Q:Bool->Hp->Prop),Inv X b a H s->t a H Q->ar X.zz X.A (nM e X.env c) (TP X b a Q) X.xe s
def PA(X:Cx)(d:List aC)(t:TA):Prop :=
 ∀(b:Pos) (c:List (ae×Obj)) (s:ao) (a:St) (H:Hp) (Q:List V->Hp->Prop),Inv X c a H s->t a H Q->ar X.zz X.A (spliced (dr b (aX d X.env))) (AP X c a Q) X.xe s
def PS(X:Cx)(c:bf)(t:TS):Prop :=
 ∀(b:List (ae×Obj)) (s:ao) (a:St) (H:Hp) (D:jW),Inv X b a H s->t D a H->ar X.zz X.A (exec c X.env) (SP X b D) X.xe s
def kZ(X:Cx)(c:List bf)(t:TS):Prop :=
 ∀(b:List (ae×Obj)) (s:ao) (a:St) (H:Hp) (D:jW),Inv X b a H s->t D a H->ar X.zz X.A (execs c X.env) (SP X b D) X.xe s
theorem aT{c:b->ao->Prop}{M:Model}{A:aV}{E:ai->ao->Prop}{s:ao}(h:ar M A t Q E s)(d:∀a s,Q a s->c a s):ar M A t c E s:=ff h d λ_ _ x=>x
section
variable{X:Cx}
def IA(i:Nat):TE:=λa H Q=>∃v,a[i]?=aa (aa v)/\Q v H
def tC(v:V):TE:=λ_ H Q=>Q v H
abbrev av(x:Str):=(x==("__debug__":Str))=ak
abbrev a4(x:Str):=(x==("__classdict__":Str))=ak
theorem eY(p:X.N[i]?=aa x)(j:d8 X.env.scope x)(d:av x^1)(q:a4 x^1):PE X (.Name x f) (IA i):=by
 intro w s g H Q I h;obtain⟨v,e,h⟩:=h;obtain⟨m,n,o⟩:=I.loc;obtain⟨u,r,l⟩:=o i x v p e j;have b:EP X w g Q u s:=⟨v,H,I,r,h⟩
 rcases l with⟨a,hm⟩|⟨a,c,hc,z9⟩
 .exact wpAny_Name (wpAny_loadName_local I.ok.kind a n hm b) d
 .rcases a with a|a
  .exact wpAny_Name (wpAny_loadName_cell I.ok.kind a hc z9 b) d
  .exact wpAny_Name (wpAny_loadName_free I.ok.kind a hc z9 b q) d
theorem UA{i j f}:PE X (.Constant (.int i) j f) (tC (.int i)):=λ_ _ _ H _ I h=>wpAny_Constant_int ⟨.int i,H,I.tok _,⟨_,rfl⟩,h⟩
theorem Q5{b j f}:PE X (.Constant (.bool b) j f) (tC (.bl b)):=λ_ _ _ H _ I h=>Constant_bool ⟨.bl b,H,I,rfl,h⟩
theorem Rk{j f}:PE X (.Constant .none j f) (tC .non):=λ_ _ _ H _ I h=>Constant_none ⟨.non,H,I,rfl,h⟩
theorem PU{x j f}:PE X (.Constant (.str x) j f) (tC (.str x)):=λ_ _ _ H _ I h=>Calls.Constant_str ⟨.str x,H,I.tok _,⟨_,rfl⟩,h⟩
def Gl(X:Cx)(x:Str):Prop:=X.env.kindOf x=aa .globalImplicit
theorem tD{a:St}{H:Hp}{x:Str}{u:ai}{f:Pos}{Q:ai->ao->Prop}(I:Inv X g a H s)(c:Gl X x)(b:X.mg x=aa u)(h:Q u s)(d:av x^1):ar X.zz X.A (a8 (.Name x f) X.env) Q E s :=Calls.Name_function_global I.ok.kind c (Calls.loadGlobal_global (by rw[I.ok.glob];exact I.mod.glob.keeps I.bk) b h) d
theorem vV{a:St}{H:Hp}{x:Str}{u:ai}{f:Pos}{Q:ai->ao->Prop}(I:Inv X m a H s)(g:Gl X x)(d:X.mg x=af)(b:fu x=aa u)(h:Q u s)(c:(x≠"__name__")^1) (i:av x^1):ar X.zz X.A (a8 (.Name x f) X.env) Q E s:=by obtain⟨n,l,j⟩:=I.mod.blt;exact Calls.Name_function_global I.ok.kind g (Calls.loadGlobal_builtin (by rw[I.ok.glob];exact I.mod.glob.keeps I.bk) d (by rw[I.ok.blt];exact l.keeps I.bk) ((j x c).trans b) h) i
theorem BX(b:Gl X x)(a:X.mg x=aa u)(r:RelV v u)(c:av x^1):PE X (.Name x f) (tC v) :=λ_ _ _ H _ I h=>tD I b a ⟨v,H,I,r,h⟩ c
theorem O_(d:Gl X x)(c:X.mg x=af)(a:fu x=aa u)(r:RelV v u)(b:(x≠"__name__")^1)(g:av x^1):PE X (.Name x f) (tC v) :=λ_ _ _ H _ I h=>vV I d c a ⟨v,H,I,r,h⟩ b g
variable{a b:aC}{g p:TE}{f:Pos}
def PC(X:Cx)(j:CmpOp)(a b:aC)(t:TE):Prop :=
 ∀(i:List (ae×Obj)) (s:ao) (h:St) (H:Hp) (Q:VK),Inv X i h H s->t h H Q ->
  ar X.zz X.A (a8 a X.env) (λv d=>ar X.zz X.A (a8 b X.env) (λu c=>ar X.zz X.A (eC j v u) (EP X i h Q) X.xe c) X.xe d) X.xe s
theorem UL(b:aC)(h:c≠.In)(j:c≠.NotIn):qI c b=ak:=by
 have i:(c == CmpOp.In)=ak:=by lia
 have d:(c == CmpOp.NotIn)=ak:=by lia
 cases b <;> simp[qI,i,d]
def tB(t:TE):TT:=λd H Q=>t d H λx h=>∃c,x=.bl c/\Q c h
theorem Ts(h:PC X i a b t)(j:qI i b=ak:=by first|exact UL _ (by decide) (by decide)|rfl):PT X (.Compare a [i] [b] f) (tB t):=by
 intro w s l H Q I o;refine wpAny_isTrue_Compare1 (aT (h w s l H _ I o) λv C j=>aT j λu B r=>aT r λc A ⟨x,z,y,m,n⟩=>?_) j;obtain⟨d,rfl,q⟩:=n;cases m;exact o5 ⟨z,y,q⟩
theorem SX(h:PE X e t)(n:(∀c,nM e X.env c=(do let v <-c;standAt e.pos;j5 [v] (truthy v)))^4):PT X e (tB t):=by
 intro o s i H Q I m;refine isTrue_plain (aT (h o s i H _ I m) λv w ⟨x,u,r,j,l⟩=>?_) (n _);obtain⟨d,rfl,q⟩:=l;cases j;exact o5 ⟨u,r,q⟩
variable{n o:TT}{rest:List aC}
def Lb(t u:TT):TT:=λd H Q=>t d H λc h=>if c=ah then u d h Q else Q ak h
def Mb(t u:TT):TT:=λd H Q=>t d H λc h=>if c=ah then Q ah h else u d h Q
def Uf(t:TT):TT:=λd H Q=>t d H λc h=>Q (!c) h
theorem Q4(i:PT X a n):PW X (.BoolOp .And [a] f) n:=by
 intro l j s d H Q I h;refine isTrue_and (aT (i j s d H Q I h) λc m e=>?_);cases c with
 |true=>exact isTrue_and_nil e
 |false=>exact e
theorem Pk(i:PT X a n):PW X (.BoolOp .Or [a] f) n:=by
 intro l j s d H Q I h;refine isTrue_or (aT (i j s d H Q I h) λc m e=>?_);cases c with
 |false=>exact isTrue_or_nil e
 |true=>exact e
theorem Pa(v:PT X a n)(u:PW X (.BoolOp .And (b::rest) f) o):PW X (.BoolOp .And (a::b::rest) f) (Lb n o):=by
 intro q j s d H Q I h;refine isTrue_and (aT (v j s d H _ I h) λc r ⟨m,l,i⟩=>?_);cases c with
 |true=>exact u q j r d m Q l i
 |false=>exact⟨m,l,i⟩
theorem Re(v:PT X a n)(u:PW X (.BoolOp .Or (b::rest) f) o):PW X (.BoolOp .Or (a::b::rest) f) (Mb n o):=by
 intro q j s d H Q I h;refine isTrue_or (aT (v j s d H _ I h) λc r ⟨m,l,i⟩=>?_);cases c with
 |true=>exact⟨m,l,i⟩
 |false=>exact u q j r d m Q l i
theorem Nk(j:PT X a n):PT X (.UnaryOp .Not a f) (Uf n):=by intro l s i H Q I h;exact isTrue_not (aT (j l s i H (λc d=>Q (!c) d) I h) λc r ⟨d,m,q⟩=>⟨d,m,q⟩)
noncomputable def Nb(g p:TE):TE:=λd H Q=>g d H λx h=>∃c,x=.bl c/\if c=ah then p d h Q else Q (.bl ak) h
def Qr(g:TE):TE:=λd H Q=>g d H λx h=>∃c,x=.bl c/\Q (.bl (!c)) h
theorem Om{op}(h:PE X a t):PE X (.BoolOp op [a] f) t:=λi s c H Q I d=>BoolOp_one (h i s c H Q I d)
theorem Lm(w:PE X a g)(u:PE X (.BoolOp .And (b::rest) f) p):PE X (.BoolOp .And (a::b::rest) f) (Nb g p):=by
 intro j s i H Q I h;refine BoolOp_and (aT (w j s i H _ I h) λv q ⟨x,m,l,r,d⟩=>?_);obtain⟨c,rfl,d⟩:=d;cases r;refine o5 ?_;cases c with
 |true=>exact u j q i m Q l d
 |false=>exact⟨.bl ak,m,l,rfl,d⟩
theorem Tn(l:PE X a g):PE X (.UnaryOp .Not a f) (Qr g):=by
 intro m s i H Q I h;refine UnaryOp_ (aT (l m s i H _ I h) λv u ⟨x,r,q,j,d⟩=>?_);obtain⟨c,rfl,d⟩:=d;cases j;exact not_of (o5 ⟨.bl (!c),r,q,rfl,d⟩)
def Py(t:TT)(g p:TE):TE:=λd H Q=>t d H λc h=>if c=ah then g d h Q else p d h Q
theorem Pe(u:PT X c n)(w:PE X a g)(v:PE X b p):PE X (.IfExp c a b f) (Py n g p):=by
 intro j s i H Q I h;refine wpAny_IfExp (aT (u j s i H _ I h) λd l ⟨r,q,m⟩=>?_);cases d with
 |true=>exact w j l i r Q q m
 |false=>exact v j l i r Q q m
end
def cA(K:ax)(H:Hp)(a:ae)(xs:List V):Prop :=
 Rd H a (.lst xs) \/
  ∃(o:Obj) (b:Array ai) (n:Nat),K.lookup a=aa o/\o.cls=.type "list"/\o.dict=af/\o.data=.seq b n/\b.size<=bq/\bC xs b.toList
def cn(K:ax)(H:Hp)(a:ae)(xs:List V):Prop :=
 Rd H a (.tup xs) \/
  ∃(o:Obj) (b:Array ai) (n:Nat),K.lookup a=aa o/\o.cls=.type "tuple"/\o.data=.seq b n/\b.size<=bq/\bC xs b.toList
noncomputable def Vd:ai->Option V
 |.none=>aa .non
 |.bool b=>aa (.bl b)
 |.int i _=>aa (.int i)
 |.str x _=>aa (.str x)
 |.bytes b _=>aa (.byt b)
 |.float b _=>aa (.flt b)
 |.ref a=>aa (.ref a)
 |.type n=>aa (.ty n)
 |_=>af
theorem RelV.abs(r:RelV x u):Vd u=aa x:=by
 cases x with
 |non=>cases r;rfl
 |bl _=>cases r;rfl
 |int _=>obtain⟨t,rfl⟩:=r;rfl
 |str _=>obtain⟨t,rfl⟩:=r;rfl
 |byt _=>obtain⟨t,rfl⟩:=r;rfl
 |flt _=>obtain⟨t,rfl⟩:=r;rfl
 |ref _=>cases r;rfl
 |ty _=>cases r;rfl
theorem RelV.inj(r:RelV x u)(q:RelV y u):x=y:=fe (r.abs.symm.trans q.abs)
theorem bC.inj{xs a:List V}{b:List ai}(r:bC xs b)(s:bC a b):xs=a:=by
 unfold bC at r s
 induction r generalizing a with
 |nil=>cases s;rfl
 |cons r _ g=>
  cases s with
  |cons q t=>rw[r.inj q,g t]
section
variable{X:Cx}{g:List (ae×Obj)}{c:St}{H:Hp}{s:ao}{a:ae}{b f:List V}
theorem cA.of{K:ax}(h:H a=aa (.lst b)):cA K H a b:=.inl (.inl h)
theorem cn.of{K:ax}(h:H a=aa (.tup b)):cn K H a b:=.inl (.inl h)
theorem Inv.list(I:Inv X g c H s)(h:cA X.K H a b):∃its:List ai,bC b its/\PlainL s.heap a its.toArray/\b.length<=bq:=by
 rcases h with h|⟨o,its,n,d,j,i,m,l,r⟩
 .obtain⟨z,its,n,r,e⟩:=h.ok I.hok;exact⟨its,r,⟨_,n,e,rfl,rfl,rfl⟩,z⟩
 .refine⟨its.toList,r,⟨o,n,I.kIn a o d,j,i,by trivial⟩,?_⟩;have e:=r.length;simp_all
theorem Inv.tuple(I:Inv X g c H s)(h:cn X.K H a b):∃d:List ai,bC b d/\IsTup s.heap a d.toArray/\b.length<=bq:=by
 rcases h with h|⟨o,d,n,i,j,m,l,r⟩
 .obtain⟨z,d,r,p,_⟩:=h.ok I.hok;exact⟨d,r,p,z⟩
 .refine⟨d.toList,r,⟨o,I.kIn a o i,j,n,by trivial⟩,?_⟩;have e:=r.length;simp only[iH]at e;simp_all
theorem Inv.list_inj(I:Inv X g c H s)(h:cA X.K H a b)(q:cA X.K H a f):b=f:=by
 obtain⟨j,r,⟨o,n,e,_,_,d⟩,_⟩:=I.list h;obtain⟨i,p,⟨u,v,l,_,_,m⟩,_⟩:=I.list q;rw[e]at l;cases l;rw[d]at m;injection m with d1 _;have:j=i:=by lia
 subst this;exact r.inj p
theorem Inv.tuple_inj(I:Inv X g c H s)(h:cn X.K H a b)(q:cn X.K H a f):b=f:=by
 obtain⟨j,r,⟨o,e,_,n,d⟩,_⟩:=I.tuple h;obtain⟨i,p,⟨u,l,_,v,m⟩,_⟩:=I.tuple q;rw[e]at l;cases l;rw[d]at m;injection m with d1 _;have:j=i:=by lia
 subst this;exact r.inj p
end
abbrev Cx.wish(X:Cx)(E:ai->ao->Prop):Cx:={X with xe:=E}
abbrev Cx.nox(X:Cx):Cx:=X.wish λ_ _=>False
theorem Cx.Ok.wish{X:Cx}(ok:X.Ok)(E:ai->ao->Prop):(X.wish E).Ok :=⟨ok.mod,ok.kind,ok.glob,ok.blt,ok.above,ok.inj,ok.has,ok.cab,ok.hd,ok.frames,ok.stk,ok.exf,ok.bs,ok.bsz,ok.noex,ok.exfs,ok.funs,ok.frf,ok.tab⟩
theorem Cx.Ok.unwish{X:Cx}(ok:(X.wish E).Ok):X.Ok :=⟨ok.mod,ok.kind,ok.glob,ok.blt,ok.above,ok.inj,ok.has,ok.cab,ok.hd,ok.frames,ok.stk,ok.exf,ok.bs,ok.bsz,ok.noex,ok.exfs,ok.funs,ok.frf,ok.tab⟩
section
variable{X:Cx}{a:List (ae×Obj)}{b:St}{H:Hp}{s:ao}{E:ai->ao->Prop}
theorem Inv.wish(I:Inv X a b H s)(E:ai->ao->Prop):Inv (X.wish E) a b H s:=⟨I.ok.wish E,I.os,I.bare,I.base,I.loc,I.cell,I.free,I.freeC,I.pin,I.hok,I.len⟩
theorem Inv.unwish(I:Inv (X.wish E) a b H s):Inv X a b H s:=⟨I.ok.unwish,I.os,I.bare,I.base,I.loc,I.cell,I.free,I.freeC,I.pin,I.hok,I.len⟩
theorem SP.unwish(h:SP (X.wish E) a D f g):SP X a D f g:=by
 cases f with
 |next=>obtain⟨c,d,I,q⟩:=h;exact⟨c,d,I.unwish,q⟩
 |brk=>obtain⟨c,d,I,q⟩:=h;exact⟨c,d,I.unwish,q⟩
 |cont=>obtain⟨c,d,I,q⟩:=h;exact⟨c,d,I.unwish,q⟩
 |ret u=>obtain⟨v,c,d,I,r,q⟩:=h;exact⟨v,c,d,I.unwish,r,q⟩
end
section
variable{X:Cx}{j:bf}{rest:List bf}{t u:TS}{e:aC}{i:TE}{g:Pos}
def OG:TS:=λD a H=>D.nx a H
def Nh(t u:TS):TS:=λD a H=>t {D with nx:=u D} a H
theorem MN:kZ X [] OG:=λ_ _ a H _ I h=>wd ⟨a,H,I,h⟩
theorem LB(m:PS X j t)(l:kZ X rest u):kZ X (j::rest) (Nh t u):=by
 intro b s c H D I h;refine Jy (aT (m b s c H {D with nx:=u D} I h) λf d q=>?_);cases f with
 |next=>obtain⟨a,o,n,q⟩:=q;exact l b d a o D n q
 |ret v=>exact q
 |brk=>exact q
 |cont=>exact q
theorem MH(b:PS X j t):kZ X [j] t:=by
 intro c s a H D I h;refine Jy (aT (b c s a H D I h) λf d q=>?_);cases f with
 |next=>exact wd q
 |ret v=>exact q
 |brk=>exact q
 |cont=>exact q
theorem Inv.quiet{s:ao}(I:Inv X b a H s):interactive X.env=ak:=by simp[interactive,I.ok.kind]
def QJ(i:TE):TS:=λD a H=>i a H λ_ b=>D.nx a b
theorem BM(d:PE X e i)(c:(jg e af g.line X.env=pure ak)^0):PS X (.Expr e g) (QJ i):=by intro f s a H D I h;exact wpAny_Expr_any (aT (d f s a H _ I h) λv n ⟨x,m,l,o,b⟩=>⟨a,m,l,b⟩) I.quiet c
def Qh(i:TE):TS:=λD a H=>i a H D.rt
theorem xY(d:PE X e i):PS X (.Return (aa e) g) (Qh i):=by intro f s a H D I h;exact wpAny_Return_some (aT (d f s a H _ I h) λv n ⟨x,m,l,b,c⟩=>⟨x,a,m,l,b,c⟩)
def UG(c:TT)(t u:TS):TS:=λD a H=>c a H λb d=>if b=ah then t D a d else u D a d
theorem Uu{m:TT}(r:PT X c m)(w:kZ X a t)(v:kZ X b u):PS X (.If c a b g) (UG m t u):=by
 intro l s f H D I h;refine wpAny_If (aT (r l s f H _ I h) λd n ⟨q,p,o⟩=>?_);cases d with
 |true=>exact w l n f q D p o
 |false=>exact v l n f q D p o
end
abbrev TG:=V->St->Hp->(St->Hp->Prop)->Prop
abbrev qi:=List V->St->Hp->(St->Hp->Prop)->Prop
def PG(X:Cx)(a:aC)(t:TG):Prop :=
 ∀(d:List (ae×Obj)) (s:ao) (c:St) (H:Hp) (v:V) (u:ai) (Q:St->Hp->Prop),Inv X d c H s->RelV v u->t v c H Q ->
  ar X.zz X.A (mB a X.env u) (λ_ s'=>∃b f,Inv X d b f s'/\Q b f) X.xe s
def xW(X:Cx)(h:List aC)(t:qi):Prop :=
 ∀(f:List (ae×Obj)) (s:ao) (b:St) (H:Hp) (c:List V) (d:List ai) (Q:St->Hp->Prop),Inv X f b H s->bC c d->t c b H Q ->
  ar X.zz X.A (assignInOrder ((qJ h X.env).map (·.2)) d) (λ_ i=>∃a g,Inv X f a g i/\Q a g) X.xe s
abbrev B9:=V->V->V->Hp->(Hp->Prop)->Prop
def HA(X:Cx)(t:B9):Prop :=
 ∀(d:List (ae×Obj)) (s:ao) (a:St) (H:Hp) (o i v:V) (b c u:ai) (Q:Hp->Prop),Inv X d a H s->RelV o b->RelV i c->RelV v u->t o i v H Q ->
  ar X.zz X.A (setItem b c u) (λ_ g=>∃f,Inv X d a f g/\Q f) X.xe s
section
variable{X:Cx}{d:Pos}
def E4(i:Nat):TG:=λv a H Q=>Q (a.set i (aa v)) H
theorem qD(f:X.N.Nodup)(b:X.N[i]?=aa x)(a:Loc X.env.scope x)(c:az X x^3):PG X (.Name x d) (E4 i):=by intro m s j H v u Q I r h;exact wpAny_assign_Name (vI I f b a r (λl g=>⟨_,H,g,h⟩) c)
def bS:qi:=λb a H Q=>b=[]/\Q a H
def Qg(t:TG)(u:qi):qi:=λc b H Q=>∃v r,c=v::r/\t v b H λa f=>u r a f Q
theorem HI:xW X [] bS:=by
 intro f s a H b c Q I r h;obtain⟨e,h⟩:=h;subst e;cases r;exact assignInOrder_nil ⟨a,H,I,h⟩
theorem zo{u:qi}(n:PG X e t)(m:xW X a u)(l:((qJ (e::a) X.env).map (·.2)=mB e X.env::(qJ a X.env).map (·.2))^0):xW X (e::a) (Qg t u):=by
 intro c s f H w y Q I r h;obtain⟨v,x,o,h⟩:=h;subst o;cases r with
 |cons r i=>rw[l];refine assignInOrder_cons (aT (n c s f H _ _ _ I r h) λ_ g ⟨b,q,p,j⟩=>?_);exact m c g b q _ _ Q p i j
noncomputable def So(K:ax)(n:Nat)(t:qi):TG:=λv b H Q=>∃a xs,v=.ref a/\cn K H a xs/\xs.length=n/\t xs b H Q
theorem HP(y:X.calm=ah)(h:xW X c t)(w:((qJ c X.env).length=n)^0) (B:((qJ c X.env).findIdx? (·.1)=af)^0):PG X (.Tuple c k d) (So X.K n t):=by
 intro i s g H v u Q I r f;obtain⟨a,xs,A,q,x,f⟩:=f;subst A;cases r;obtain⟨l,j,p,D⟩:=I.tuple q;refine assign_Tuple_tuple (I.ok.hd y) p (by simp[w,<-x,j.length]) B λz m=>?_;have C:Inv X i g H {s with heap:=z}:=I.kept (t':=s.toks) λb o e=>m b o (dq (bG e)) e;exact h i _ g H xs _ Q C (by trivial) f
def TL(b c:TE)(t:B9):TG:=λv a H Q=>b a H λo h=>c a h λi g=>t o i v g λf=>Q a f
theorem Ex{j:TE}{t:B9}(B:PE X o g)(C:PE X i j)(A:HA X t)(D:(∀v,mB (.Subscript o i d) X.env v=(do
   let a <-j5 [v] (a8 o X.env)
   let b <-j5 [v,a] (a8 i X.env)
   standAt d
   j5 [v,a,b] (setItem a b v)
   release [v,a,b] []))^4):PG X (.Subscript o i d) (TL g j t):=by
 intro f s c H v u Q I r h;rw[D];refine aq (iI (aT (B f s c H _ I h) λa m ⟨x,M,G,p,z⟩=>?_));refine aq (iI (aT (C f m c M _ G z) λb l ⟨y,L,F,n,w⟩=>?_));refine aq (wpAny_standAt (aq (iI (aT (A f l c L x y v a b u _ F p n r w) λ_ N ⟨J,E,q⟩=>?_))));exact wpAny_release ⟨c,J,E,q⟩
def FE(b:TE)(g:TG):TS:=λD a H=>b a H λx c=>g x a c D.nx
theorem Bn{g:TG}(p:PE X e c)(o:PG X a g)(n:(C0 [a] e d.line X.env=pure ak)^0)(m:(C1 [a] e X.env=pure af)^0)(r:((qJ [a] X.env).map (·.2)=[mB a X.env])^0):PS X (.Assign [a] e d) (FE c g):=by intro f s b H D I h;refine wpAny_Assign_stores (aT (p f s b H _ I h) λv i ⟨x,w,u,j,l⟩=>?_) n m;rw[r];exact aT (o f i b w x v _ u j l) λ_ y q=>q
theorem CI{b:TE}{a:Pos}(p:X.N.Nodup)(m:X.N[i]?=aa x)(j:Loc X.env.scope x)(o:PE X e b)(l:(jg e (aa (.Name x a)) d.line X.env=pure ak)^0)(n:az X x^3):PS X (.Assign [.Name x a] e d) (FE b (E4 i)):=by intro q s c H D I h;refine wpAny_Assign_Name (aT (o q s c H _ I h) λv A ⟨y,w,u,f,g⟩=>?_) l;exact vI u p m j f (λz r=>⟨_,w,r,g⟩) n
def NM(c:TT)(j:TS):TS:=λD a H=>∃W:Nat->St->Hp->Prop,(∃m,W m a H)/\∀m a H,W m a H ->
 c a H λb h=>if b=ah then ∃N:St->Hp->Prop,(∀f i,N f i->∃g,g<m/\W g f i)/\j {D with nx:=N,ct:=N,bk:=D.nx} a h else D.nx a h
theorem TX{z:TS}(B:we X.zz X.A X.env X.xe)(Y:PT X c y)(Z:kZ X i z):PS X (.While c i [] d) (NM y z):=by
 intro w s L H D I h;obtain⟨W,⟨T,O⟩,l⟩:=h;refine wpAny_While (codeAny_whileLoop (λn S=>∃j J,Inv X w j J S/\W n j J) ?_ T ⟨L,H,I,O⟩);rintro n Q ⟨g,G,I1,M⟩;refine tK B (aT (Y w Q g G _ I1 (l n g G M)) λb P ⟨F,E,o⟩=>?_);cases b with
 |true=>
  obtain⟨N,C,o⟩:=o;rw[if_pos rfl];refine tK B (aT (Z w P g F _ E o) λf s3 A=>?_);cases f with
  |next=>obtain⟨a,m,x,q⟩:=A;obtain⟨r,u,p⟩:=C a m q;exact⟨r,u,a,m,x,p⟩
  |cont=>obtain⟨a,m,x,q⟩:=A;obtain⟨r,u,p⟩:=C a m q;exact⟨r,u,a,m,x,p⟩
  |brk=>trivial
  |ret v=>trivial
 |false=>rw[if_neg jh];exact wd ⟨g,F,E,o⟩
end
structure It where
 go:Nat->Hp->Prop
 yld:Nat->Hp->V->Hp->Prop
 stop:Nat->Hp->Prop
def lJ(X:Cx)(a:List (ae×Obj))(H:Hp)(b:ae):Prop :=
 H b=af/\b≠X.env.locals/\b∉X.fs/\(b∈X.ex\/X.s₀.heap.objs.size<=b)/\(∀x c,X.env.cells.lookup x=aa c->c≠b)/\∀p∈X.pn++a,p.1≠b
theorem Inv.fpOk{H f:Hp}{s:ao}{b:ae}(I:Inv X d g H s)(a:s.heap.objs.size<=b)(i:f b=af):lJ X d f b:=by
 refine⟨i,tL (gK I.lt a),I.nofs a,.inr (cV I.sz a),λx c e z=>?_,λp h z=>?_⟩
 .obtain⟨v,q⟩:=I.cell x c e;exact absurd (gK q.lt (by rw[z];trivial)) (mz _)
 .exact absurd (gK (bG (I.pin p h).1) (by rw[z];trivial)) (mz _)
structure pX(P:aP)(w:aI)(K:ax)(tg:aC)(J:It)(fp:List ae)(it:ae)(tn:Nat->aB->Prop):Prop where
 mem:it∈fp
 obj:∀i h,tn i h->∀b∈fp,∃o,h.get? b=aa o/\∀v,o.data≠.cell v
 keep:∀i h h',tn i h->(∀b∈fp,∀o,h.get? b=aa o->h'.get? b=aa o)->tn i h'
 item:∀(X:Cx),X.prog=P->X.w=w->X.K=K->X.calm=ah->∀(i:Nat) (ag:List (ae×Obj)) (s:ao) (σ:St) (H:Hp) (E:ai->ao->Prop),Inv X ag σ H s->(∀b∈fp,lJ X ag H b)->tn i s.heap->J.go i H ->
  ar (aw P w) X.A (mC (.ref it)) (λr s1=>∃u,r=aa u /\ ar (aw P w) X.A (C3 tg (.ref it) u) (λ_ s2=>∃x H',Inv X ag σ H' s2/\RelV x u/\J.yld i H x H'/\tn (i+1) s2.heap/\∀b∈fp,H' b=af) E s1) E s
 done:∀(X:Cx),X.prog=P->X.w=w->X.K=K->X.calm=ah->∀(i:Nat) (ag:List (ae×Obj)) (s:ao) (σ:St) (H:Hp) (E:ai->ao->Prop),Inv X ag σ H s->(∀b∈fp,lJ X ag H b)->tn i s.heap->J.stop i H ->
  ar (aw P w) X.A (mC (.ref it)) (λr s1=>r=af/\Inv X ag σ H s1) E s
 self:∀(A:aV) (i:Nat) (s:ao) (Q:ai->ao->Prop) (E:ai->ao->Prop),tn i s.heap->Q (.ref it) s->ar (aw P w) A (nN (.ref it)) Q E s
abbrev TI:=St->Hp->(It->Hp->Prop)->Prop
inductive xP(X:Cx)(ag:List (ae×Obj))(σ:St)(tg:aC)(R:It->Hp->Prop)(itv:ai)(s2:ao):Prop
 |mk (it:ae) (fp:List ae) (tn:Nat->aB->Prop) (J:It) (H':Hp) (z0:itv=.ref it) (z1:Inv X ag σ H' s2) (z2:pX X.prog X.w X.K tg J fp it tn) (z3:tn 0 s2.heap) (z4:(∀b∈fp,lJ X ag H' b)) (z5:R J H')
def PI(X:Cx)(f a:aC)(d:TI):Prop :=
 ∀(c:List (ae×Obj)) (s:ao) (b:St) (H:Hp) (R:It->Hp->Prop),Inv X c b H s->d b H R ->
  ar X.zz X.A (a8 a X.env) (λv g=>ar X.zz X.A (nN v) (xP X c b f R) X.xe g) X.xe s
theorem uK{s:ao}(f:s.heap.get? d=aa o)(j:o.cls=.type n)(i:o.data=.fields b)(g:["enumerate","zip","dict_itemiterator","dict_reverseitemiterator","odict_iterator","itertools.zip_longest","itertools.pairwise"].contains n=ak) (a:Q () s):ar M A (C3 c (.ref d) u) Q E s:=by
 unfold C3;cases c <;> first
  |exact aE a
  | (cases u <;> first
    |exact aE a
    | (refine aq (wpAny_load f ?_)
       rw[j,i];show ar M A (if(["enumerate","zip","dict_itemiterator","dict_reverseitemiterator","odict_iterator","itertools.zip_longest","itertools.pairwise"].contains n&&b[0]? == aa (dH _))=ah then _ else _) Q E s;rw[if_neg (by intro h;rw[g,Bool.false_and]at h;cases h)];exact aE a))
def AH(K:ax)(a:ae):It :=⟨λi H=>∃xs x,cA K H a xs/\xs[i]?=aa x,λi H x b=>b=H/\∀xs,cA K H a xs->xs[i]?=aa x,λi H=>∃xs,cA K H a xs/\xs.length<=i⟩
def B6(K:ax)(a:ae):It :=⟨λi H=>∃xs x,cn K H a xs/\xs[i]?=aa x,λi H x b=>b=H/\∀xs,cn K H a xs->xs[i]?=aa x,λi H=>∃xs,cn K H a xs/\xs.length<=i⟩
noncomputable def yx(a:Int)(n:Nat):It:=⟨λi _=>i<n,λi H x b=>b=H/\x=.int (a+i),λi _=>n<=i⟩
theorem Qz{K:ax}{N:aC}(a g:ae):pX P w K N (AH K a) [g] g (λi h=>h.IsListIter g a i) where
 mem:=by simp
 obj:=λi h f b j=>by
  have e:b=g:= ~~~j
  subst e;obtain⟨o,e,c,d⟩:=f;simp_all
 keep:=λi h n f k=>f.at λo e=>k g (by simp) o e
 item:=by intro X z v A J i L s F H E I m f y;subst z v A;obtain⟨xs,x,l,G⟩:=y;obtain⟨r,q,p,Q⟩:=I.list l;obtain⟨u,T,O⟩:=q.get G;obtain⟨D,C,f2,f3,f4,B⟩:=m g (by simp);refine wpAny_pyNext_list_item f p.isList (x:=u) (~~~T) λn M sb=>?_;have Y:Inv X L F H {s with heap:=n}:=I.turned (t':=s.toks) (λb o j e=>(sb.2 b j).trans e) D C f3 f4 B;obtain⟨o,e,c,d⟩:=id M;exact⟨u,rfl,uK (s:={s with heap:=n}) e c d (by rfl) ⟨x,H,Y,O,⟨rfl,λZ S=>by rw[I.list_inj S l];trivial⟩,M,λb j=>(m b j).1⟩⟩
 done:=by intro X z v A J i L s F H E I m f y;subst z v A;obtain⟨xs,l,G⟩:=y;obtain⟨r,q,p,Q⟩:=I.list l;obtain⟨D,C,f2,f3,f4,B⟩:=m g (by simp);have hl:=q.length;exact wpAny_pyNext_list_end (I.ok.hd J) f p.isList (by simp;simp_all) λn W=>⟨rfl,I.turned (t':=s.toks) (λb o j e=>W b o j e) D C f3 f4 B⟩
 self:=λ_ _ _ _ _ f h=>wpAny_pyIter_listiter f h
theorem Tq{K:ax}{N:aC}(a j:ae):pX P w K N (B6 K a) [j] j (λi h=>h.IsTupleIter j a i) where
 mem:=by simp
 obj:=λi h f b l=>by
  have e:b=j:= ~~~l
  subst e;obtain⟨o,e,c,d⟩:=f;simp_all
 keep:=λi h q f k=>f.at λo e=>k j (by simp) o e
 item:=by intro X z v A J i L s F H E I n f y;subst z v A;obtain⟨xs,x,m,G⟩:=y;obtain⟨g,r,p,Q⟩:=I.tuple m;obtain⟨u,T,O⟩:=r.get G;obtain⟨D,C,f2,f3,f4,B⟩:=n j (by simp);refine wpAny_pyNext_tuple_item f (show s.heap.IsTuple a g.toArray from p) (x:=u) (~~~T) λq M sb=>?_;have Y:Inv X L F H {s with heap:=q}:=I.turned (t':=s.toks) (λb o l e=>(sb.2 b l).trans e) D C f3 f4 B;obtain⟨o,e,c,d⟩:=id M;exact⟨u,rfl,uK (s:={s with heap:=q}) e c d (by rfl) ⟨x,H,Y,O,⟨rfl,λZ S=>by rw[I.tuple_inj S m];trivial⟩,M,λb l=>(n b l).1⟩⟩
 done:=by intro X z v A J i L s F H E I n f y;subst z v A;obtain⟨xs,m,G⟩:=y;obtain⟨g,r,p,Q⟩:=I.tuple m;obtain⟨D,C,f2,f3,f4,B⟩:=n j (by simp);have hl:=r.length;exact wpAny_pyNext_tuple_end (I.ok.hd J) f (show s.heap.IsTuple a g.toArray from p) (by simp;simp_all) λq W=>⟨rfl,I.turned (t':=s.toks) (λb o l e=>W b o l e) D C f3 f4 B⟩
 self:=λ_ _ _ _ _ f h=>wpAny_pyIter_tupleiter f h
theorem O3{K:ax}{D:aC}(c:ae)(f:Int)(n:Nat):pX P w K D (yx f n) [c] c (λi h=>IsRangeIter h c (f+(i:Nat)*1) ((n:Int)-(i:Nat)) 1) where
 mem:=by simp
 obj:=λi h a b d=>⋯
 keep:=λi h j a k=>k c (by simp) _ a
 item:=by intro X q l r p i B s z H E I g a m;subst q l r;obtain⟨y,x,f2,f3,f4,u⟩:=g c (by simp);have W:=Walks.range (prog:=X.prog) (w:=X.w) (I.ok.hd p) c f 1 n;refine W.item i s _ _ m a λv j A G C F=>?_;obtain⟨t,rfl⟩:=G;have L:Inv X B z H {s with heap:=j,toks:=A}:=I.turned (λb o d e=>F b o (~~~d) e) y x f3 f4 u;refine⟨_,rfl,uK (s:={s with heap:=j,toks:=A}) (n:="range_iterator") C rfl rfl (by rfl) ⟨.int (f+i),H,L,⟨t,?_⟩,⟨rfl,rfl⟩,C,λb d=>(g b d).1⟩⟩;simp
 done:=by intro X q l r p i B s z H E I g a m;subst q l r;obtain⟨y,x,f2,f3,f4,u⟩:=g c (by simp);exact wpAny_pyNext_range_end (I.ok.hd p) a (by have:n<=i:=m;lia) λj J=>⟨rfl,I.turned (t':=s.toks) (λb o d e=>J b o d e) y x f3 f4 u⟩
 self:=λ_ _ _ _ _ a h=>wpAny_pyIter_rangeiter a h
section
variable{X:Cx}{c:aC}
theorem LD{s:ao}{R:It->Hp->Prop}{E:ai->ao->Prop}{a d:Int}{t u v:Tok}{g:Nat}(I:Inv X h f H s)(p:-(2^62)<=a)(n:a<2^62)(m:-(2^62)<=d)(l:d<2^62)(q:R (yx a (d-a).toNat) H):ar X.zz X.A (nN (.ref s.heap.objs.size)) (xP X h f c R) E {s with heap:=s.heap.push {cls:=.type "range",data:=.fields #[.int a t,.int d u,.int 1 v]},toks:=g}:=by
 refine wpAny_pyIter_range (IsRange.new ..) (small_one p n m l) ?_;have i:Inv X h f H {s with heap:=s.heap.push {cls:=.type "range",data:=.fields #[.int a t,.int d u,.int 1 v]},toks:=g}:=I.kept λb o e=>bL _ e;refine⟨(s.heap.push {cls:=.type "range",data:=.fields #[.int a t,.int d u,.int 1 v]}).objs.size,[(s.heap.push {cls:=.type "range",data:=.fields #[.int a t,.int d u,.int 1 v]}).objs.size],_,_,H,rfl,i.kept (t':=g) λb o e=>bL _ e,O3 _ a (d-a).toNat,?_,λb j=>?_,q⟩
 .have w:a+((0:Nat):Int)*1=a:=by simp
  have r:(((d-a).toNat:Nat):Int)-((0:Nat):Int)=Builtin.Range.rangeSize a d 1:=by rw[rangeSize_one];split <;> lia
  show IsRangeIter _ _ (a+((0:Nat):Int)*1) ((((d-a).toNat:Nat):Int)-((0:Nat):Int)) 1;rw[w,r];exact cP _ rfl
 .have e:b=(s.heap.push {cls:=.type "range",data:=.fields #[.int a t,.int d u,.int 1 v]}).objs.size:= ~~~j
  subst e;exact i.fpOk (bn _) (i.hok.fresh (bn _))
def LW(d:TA):TI:=λa H R=>d a H λb f=>∃j:Int,b=[.int j]/\-(2^62)<=j/\j<2^62/\R (yx 0 j.toNat) f
theorem UR{b:Pos}(u:Gl X "range")(o:X.mg "range"=af)(v:PA X [a] f)(n:(aX [a] X.env=[(ak,a8 a X.env)])^0):PI X c (.Call (.Name "range" p) [a] [] b) (LW f):=by
 intro w s g H R I h;refine Call_ (vV I u o boot_range (Jz (aT (v b w s g H _ I h) λz A ⟨y,B,x,l,d⟩=>?_) n rfl));obtain⟨j,e,d,m,q⟩:=d;subst e;cases l with
 |cons r i=>
  cases i;obtain⟨t,rfl⟩:=r;exact call_range_1 (LD x (by simp) (by simp) d m (~~~q))
def Ta(j:TI)(g:TG)(l:TS):TS:=λD a H=>j a H λJ o=>∃W:Nat->Nat->St->Hp->Prop,(∃m,W 0 m a o)/\∀i m a H,W i m a H ->
 (J.stop i H/\D.nx a H)\/(J.go i H/\∃N:St->Hp->Prop,(∀b d,N b d->∃h,h<m/\W (i+1) h b d)/\∀x d,J.yld i H x d->g x a d λf n=>l {D with nx:=N,ct:=N,bk:=D.nx} f n)
def vR(a:List ae)(h:aB):List (ae×Obj):=a.filterMap λb=>(h.get? b).map λo=>(b,o)
theorem yV{h:aB}(d:b∈a)(e:h.get? b=aa o):(b,o)∈vR a h:=JA.mpr ⟨b,d,by rw[e];rfl⟩
theorem Pf(d:p∈vR a h):p.1∈a/\h.get? p.1=aa p.2:=by
 obtain⟨b,f,e⟩:=JA.mp d;cases q:h.get? b with
 |none=>simp_all
 |some o=>grind
theorem Inv.pinned{s:ao}{a:List ae}(I:Inv X d f H s)(h:∀b∈a,lJ X d H b)(j:∀b∈a,∃o,s.heap.get? b=aa o/\∀v,o.data≠.cell v):Inv X (d++vR a s.heap) f H s :=
 I.pins_of λp g=>(kA.mp g).elim (λz=>I.pin p (j6 _ z)) λz=>by
  obtain⟨i,e⟩:=Pf z;obtain⟨m,l,f2,_⟩:=h p.1 i
  grind
theorem Inv.unpinned{H:Hp}{s:ao}(I:Inv X (b++d) a H s):Inv X b a H s:=I.pins_of λp f=>I.pin p (j6 _ (wc _ f))
theorem GW{g:TG}{tb:TS}{Z:Pos}(M:we X.zz X.A X.env X.xe)(hc:X.calm=ah)(hi:PI X c q wi)(hg:PG X c g)(w:kZ X E tb)(hs:(∀x,lL q X.env x=pure x)^4):PS X (.For c q E [] Z) (Ta wi g tb):=by
 intro F s σ H D I h;refine wpAny_For (aT (hi F s σ H _ I h) λv s1 h1=>aT h1 λitv s2 h2=>?_) hs;obtain⟨it,P,tn,J,H2,e,I2,T,bK,f2,W,⟨m0,w0⟩,G⟩:=h2;subst e;have p:∀{B:Hp},(∀b∈P,B b=af)->∀b∈P,lJ X F B b:=λhn b w=>⟨hn b w,(f2 b w).2⟩
 refine codeAny_forLoop_any (λn s'=>∃i l B,Inv X F l B s'/\tn i s'.heap/\(∀b∈P,B b=af)/\W i n l B) ?_ m0 ⟨0,σ,H2,I2,bK,λb w=>(f2 b w).1,w0⟩;rintro n s3 ⟨i,j,Q,I3,bF,O,w3⟩;rcases G i n j Q w3 with⟨stop,qn⟩|⟨go,N,hN,step⟩
 .refine tK M (aT (T.done X rfl rfl rfl hc i F s3 j Q X.xe I3 (p O) bF stop) λr s4 ⟨hr,I4⟩=>?_);subst hr;exact wd ⟨j,Q,I4,qn⟩
 .refine tK M (aT (T.item X rfl rfl rfl hc i F s3 j Q X.xe I3 (p O) bF go) λr s4 ⟨u,hr,h4⟩=>?_);subst hr;refine tK M (aT h4 λ_ s5 ⟨x,H5,I5,r5,y5,gb,fr5⟩=>?_);have I5':=I5.pinned (p fr5) (T.obj _ _ gb);refine tK M (aT (hg _ s5 j H5 x u _ I5' r5 (step x H5 y5)) λ_ s6 ⟨S,H6,I6,q6⟩=>?_);refine tK M (aT (w _ s6 S H6 _ I6 q6) λf Y C=>?_);have y:∀{a:St}{A:Hp},Inv X (F++vR P s5.heap) a A Y->N a A->∃m,m<n/\∃i l B,Inv X F l B Y/\tn i Y.heap/\(∀b∈P,B b=af)/\W i m l B:=λ{a A} z L=>by obtain⟨m',hm,w7⟩:=hN a A L;refine⟨m',hm,i+1,a,A,z.unpinned,T.keep _ _ _ gb λb w o e=>(z.pin (b,o) (j6 _ (j6 _ (yV w e)))).1,λb w=>?_,w7⟩;obtain⟨o,e,d⟩:=T.obj _ _ gb b w;exact(z.pin (b,o) (j6 _ (j6 _ (yV w e)))).2.1
  cases f with
  |next=>obtain⟨a,A,z,L⟩:=C;exact y z L
  |cont=>obtain⟨a,A,z,L⟩:=C;exact y z L
  |brk=>obtain⟨a,A,z,C⟩:=C;exact⟨a,A,z.unpinned,C⟩
  |ret v=>obtain⟨x7,a,A,z,r7,C⟩:=C;exact⟨x7,a,A,z.unpinned,r7,C⟩
end
abbrev R2:=V->V->Hp->VK->Prop
def b_(X:Cx)(f:ai->ai->Sem ai)(r:R2):Prop :=
 ∀(b:List (ae×Obj)) (s:ao) (a:St) (H:Hp) (x y:V) (v u:ai) (Q:VK),Inv X b a H s->RelV x v->RelV y u->r x y H Q ->
  ar X.zz X.A (f v u) (EP X b a Q) X.xe s
def zu(X:Cx)(f:ai->Sem ai)(r:V->Hp->VK->Prop):Prop :=
 ∀(b:List (ae×Obj)) (s:ao) (a:St) (H:Hp) (x:V) (v:ai) (Q:VK),Inv X b a H s->RelV x v->r x H Q ->
  ar X.zz X.A (f v) (EP X b a Q) X.xe s
def eF(X:Cx)(f:ai)(r:List V->Hp->VK->Prop):Prop :=
 ∀(c:List (ae×Obj)) (s:ao) (a:St) (H:Hp) (xs:List V) (b:List ai) (Q:VK),Inv X c a H s->bC xs b->r xs H Q ->
  ar X.zz X.A (call f b) (EP X c a Q) X.xe s
def xT(r:R2)(c b:TE):TE:=λa H Q=>c a H λx f=>b a f λy d=>r x y d Q
def SM(r:V->Hp->VK->Prop)(b:TE):TE:=λa H Q=>b a H λx c=>r x c Q
noncomputable def rI(C:Int->Int->Prop)(g:Int->Int->V):R2:=λx y H Q=>∃i j,x=.int i/\y=.int j/\C i j/\Q (g i j) H
def l9(g:Int->Int->V):R2:=λx y H Q=>∃i j,x=.int i/\y=.int j/\Q (g i j) H
def rU(g:Int->V):V->Hp->VK->Prop:=λx H Q=>∃i,x=.int i/\Q (g i) H
section
variable{X:Cx}{a b c:aC}{d m n:TE}{l:Pos}
theorem CB(F:PE X a d)(E:PE X b m){H:Hp}{R:V->V->Hp->Prop}(I:Inv X q g H s)(h:d g H λx r=>m g r λy i=>R x y i) {Q:ai->ao->Prop}{f:ai->ai->Sem ai}(D:∀v u p x y i,Inv X q g i p->RelV x v->RelV y u->R x y i->ar X.zz X.A (f v u) Q X.xe p):ar X.zz X.A (a8 a X.env) (λv o=>ar X.zz X.A (a8 b X.env) (λu j=>ar X.zz X.A (f v u) Q X.xe j) X.xe o) X.xe s:=by refine aT (F q s g H _ I h) λv w ⟨x,r,J,A,C⟩=>?_;refine aT (E q w g r _ J C) λu p ⟨y,i,G,z,B⟩=>?_;exact D v u p x y i G A z B
theorem K7(p:b_ X (ji f) r)(z:PE X a d)(w:PE X b m):PE X (.BinOp a f b l) (xT r d m):=by intro A s g H Q I h;exact wpAny_BinOp (CB z w I h λv u i x y C B o j q=>p A i g C x y v u Q B o j q)
theorem Td(q:zu X (unaryOp g) r)(u:PE X a d):PE X (.UnaryOp g a l) (SM r d):=by intro i s f H Q I h;exact UnaryOp_ (aT (u i s f H _ I h) λv j ⟨x,y,w,o,p⟩=>q i j f y x v Q w o p)
theorem B7{g:Int->Int->Int}(o:∀(i j:Int) (t u:Tok) (s:ao) (Q:ai->ao->Prop) (E:ai->ao->Prop),C i j->Q (.int (g i j) s.toks) {s with toks:=s.toks+1}->ar X.zz X.A (f (.int i t) (.int j u)) Q E s):b_ X f (rI C λi j=>.int (g i j)):=by intro B s A H x y v u Q I w r h;obtain⟨i,j,rfl,rfl,z,q⟩:=h;obtain⟨t,rfl⟩:=w;obtain⟨p,rfl⟩:=r;exact o i j t p s _ _ z ⟨.int (g i j),H,I.tok _,⟨_,rfl⟩,q⟩
theorem GZ{g:Int->Int->Int}(o:∀(i j:Int) (t u:Tok) (s:ao) (Q:ai->ao->Prop) (E:ai->ao->Prop),Q (.int (g i j) s.toks) {s with toks:=s.toks+1}->ar X.zz X.A (f (.int i t) (.int j u)) Q E s):b_ X f (l9 λi j=>.int (g i j)):=by intro A s z H x y v u Q I w r h;obtain⟨i,j,rfl,rfl,q⟩:=h;obtain⟨t,rfl⟩:=w;obtain⟨p,rfl⟩:=r;exact o i j t p s _ _ ⟨.int (g i j),H,I.tok _,⟨_,rfl⟩,q⟩
theorem CW{g:Int->Int->Bool}(o:∀(i j:Int) (t u:Tok) (s:ao) (Q:ai->ao->Prop) (E:ai->ao->Prop),Q (.bool (g i j)) s->ar X.zz X.A (f (.int i t) (.int j u)) Q E s):b_ X f (l9 λi j=>.bl (g i j)):=by intro A s z H x y v u Q I w r h;obtain⟨i,j,rfl,rfl,q⟩:=h;obtain⟨t,rfl⟩:=w;obtain⟨p,rfl⟩:=r;exact o i j t p s _ _ ⟨.bl (g i j),H,I,rfl,q⟩
def Gg(i j:Int):Prop:=0<=j/\j<=1000000/\i.natAbs<2^64
def B2(i j:Int):Prop:=(-(2^64)<i/\i<2^64)\/(-(2^64)<j/\j<2^64)
theorem B2.ok(h:B2 i j):IntMulOk i j:=by
 rcases h with⟨h1,h2⟩|⟨h1,h2⟩
 .exact .of_left (intBits_le_64 h1 h2)
 .exact .of_right (intBits_le_64 h1 h2)
theorem VW:b_ X (ji .Add) (l9 λi j=>.int (i+j)):=GZ λ_ _ _ _ _ _ _ q=>add_int q
theorem xH:b_ X (ji .Sub) (l9 λi j=>.int (i-j)):=GZ λ_ _ _ _ _ _ _ q=>sub_int q
theorem VI:b_ X (ji .Mult) (rI B2 λi j=>.int (i*j)):=B7 λ_ _ _ _ _ _ _ f q=>mul_int q f.ok
theorem rT:b_ X (ji .Mod) (rI (λ_ j=>0<j) λi j=>.int (i % j)):=B7 λi j _ _ _ _ _ f q=>by have g:(0:Int)<j:=f;exact mod_int' ∅ (by rw[Int.fmod_eq_emod_of_nonneg i ∅];exact q)
theorem Te:b_ X (ji .Pow) (rI Gg λi j=>.int (i^j.toNat)):=B7 λ_ _ _ _ _ _ _ f q=>pow_int_small f.1 f.2.1 f.2.2 q
theorem LJ{g:Int->Int}(j:∀(i:Int) (t:Tok) (s:ao) (Q:ai->ao->Prop) (E:ai->ao->Prop),Q (.int (g i) s.toks) {s with toks:=s.toks+1}->ar X.zz X.A (f (.int i t)) Q E s):zu X f (rU λi=>.int (g i)):=by intro r s p H x v Q I o h;obtain⟨i,rfl,q⟩:=h;obtain⟨t,rfl⟩:=o;exact j i t s _ _ ⟨.int (g i),H,I.tok _,⟨_,rfl⟩,q⟩
theorem pW:zu X (unaryOp .USub) (rU λi=>.int (-i)):=LJ λ_ _ _ _ _ q=>neg_int q
end
noncomputable def qg:V->V->Bool
 |.non,.non=>ah|.non,.int _=>ah|.int _,.non=>ah|.non,.bl _=>ah|.bl _,.non=>ah|.non,.str _=>ah|.str _,.non=>ah
 |.int _,.int _=>ah|.bl _,.bl _=>ah|.str _,.str _=>ah|.byt _,.byt _=>ah
 |.int _,.str _=>ah|.str _,.int _=>ah|.bl _,.str _=>ah|.str _,.bl _=>ah
 |_,_=>ak
def Hi:R2:=λx y H Q=>qg x y=ah/\Q (.bl (decide (x=y))) H
def Go:R2:=λx y H Q=>qg x y=ah/\Q (.bl (!decide (x=y))) H
theorem G2:decide (V.int i=V.int j)=(i == j):=by lia
theorem Gw:decide (V.bl i=V.bl j)=(i == j):=by lia
theorem FP:decide (V.str i=V.str j)=(i == j):=by lia
theorem Jl:decide (V.byt i=V.byt j)=(i.toList == j.toList):=by rw[o6];simp
section
variable{X:Cx}{a b c:aC}{l g o:TE}{m:Pos}
theorem dD(I:Inv X h d H s)(q:Q (.bl k) H)(e:k=f):EP X h d Q (.bool f) s:=by subst e;exact⟨.bl k,H,I,rfl,q⟩
theorem VR:b_ X (eC .Eq) Hi:=by
 intro w s r H x y v u Q I p d h;obtain⟨n,q⟩:=h;cases x with
 |non=>
  cases p;cases y with
  |non=>cases d;exact PySem.EqNone.eq_none_none (dD I q (by rfl))
  |bl j=>cases d;exact PySem.EqNone.eq_none_bool (dD I q (by rfl))
  |int j=>obtain⟨f,rfl⟩:=d;exact PySem.EqNone.eq_none_int (dD I q (by rfl))
  |str j=>obtain⟨f,rfl⟩:=d;exact PySem.EqNone.eq_none_str (dD I q (by rfl))
  |_=>exact absurd (show ak=ah from n) jh
 |bl i=>
  cases p;cases y with
  |non=>cases d;exact PySem.EqNone.eq_bool_none (dD I q (by rfl))
  |bl j=>cases d;exact eq_bool (dD I q Gw)
  |str j=>obtain⟨f,rfl⟩:=d;exact PySem.EqMixed.eq_bool_str (dD I q (by rfl))
  |_=>exact absurd (show ak=ah from n) jh
 |int i=>
  obtain⟨t,rfl⟩:=p;cases y with
  |non=>cases d;exact PySem.EqNone.eq_int_none (dD I q (by rfl))
  |int j=>obtain⟨f,rfl⟩:=d;exact eq_int (dD I q G2)
  |str j=>obtain⟨f,rfl⟩:=d;exact PySem.EqMixed.eq_int_str (dD I q (by rfl))
  |_=>exact absurd (show ak=ah from n) jh
 |str i=>
  obtain⟨t,rfl⟩:=p;cases y with
  |non=>cases d;exact PySem.EqNone.eq_str_none (dD I q (by rfl))
  |bl j=>cases d;exact PySem.EqMixed.eq_str_bool (dD I q (by rfl))
  |int j=>obtain⟨f,rfl⟩:=d;exact PySem.EqMixed.eq_str_int (dD I q (by rfl))
  |str j=>obtain⟨f,rfl⟩:=d;exact eq_str (dD I q FP)
  |_=>exact absurd (show ak=ah from n) jh
 |byt i=>
  obtain⟨t,rfl⟩:=p;cases y with
  |byt j=>obtain⟨f,rfl⟩:=d;exact PySem.W.eq_bytes (dD I q Jl)
  |_=>exact absurd (show ak=ah from n) jh
 |_=>cases y <;> exact absurd (show ak=ah from n) jh
theorem V7:b_ X (eC .NotEq) Go:=by
 intro w s r H x y v u Q I p d h;obtain⟨n,q⟩:=h;cases x with
 |non=>
  cases p;cases y with
  |non=>cases d;exact PySem.EqNone.ne_none_none (dD I q (by rfl))
  |bl j=>cases d;exact PySem.EqNone.ne_none_bool (dD I q (by rfl))
  |int j=>obtain⟨f,rfl⟩:=d;exact PySem.EqNone.ne_none_int (dD I q (by rfl))
  |str j=>obtain⟨f,rfl⟩:=d;exact PySem.EqNone.ne_none_str (dD I q (by rfl))
  |_=>exact absurd (show ak=ah from n) jh
 |bl i=>
  cases p;cases y with
  |non=>cases d;exact PySem.EqNone.ne_bool_none (dD I q (by rfl))
  |bl j=>cases d;exact ne_bool (dD I q (congrArg not Gw))
  |str j=>obtain⟨f,rfl⟩:=d;exact PySem.EqMixed.ne_bool_str (dD I q (by rfl))
  |_=>exact absurd (show ak=ah from n) jh
 |int i=>
  obtain⟨t,rfl⟩:=p;cases y with
  |non=>cases d;exact PySem.EqNone.ne_int_none (dD I q (by rfl))
  |int j=>obtain⟨f,rfl⟩:=d;exact ne_int (dD I q (congrArg not G2))
  |str j=>obtain⟨f,rfl⟩:=d;exact PySem.EqMixed.ne_int_str (dD I q (by rfl))
  |_=>exact absurd (show ak=ah from n) jh
 |str i=>
  obtain⟨t,rfl⟩:=p;cases y with
  |non=>cases d;exact PySem.EqNone.ne_str_none (dD I q (by rfl))
  |bl j=>cases d;exact PySem.EqMixed.ne_str_bool (dD I q (by rfl))
  |int j=>obtain⟨f,rfl⟩:=d;exact PySem.EqMixed.ne_str_int (dD I q (by rfl))
  |str j=>obtain⟨f,rfl⟩:=d;exact ne_str (dD I q (congrArg not FP))
  |_=>exact absurd (show ak=ah from n) jh
 |byt i=>
  obtain⟨t,rfl⟩:=p;cases y with
  |byt j=>obtain⟨f,rfl⟩:=d;exact PySem.W.ne_bytes (dD I q (congrArg not Jl))
  |_=>exact absurd (show ak=ah from n) jh
 |_=>cases y <;> exact absurd (show ak=ah from n) jh
theorem Ct:b_ X (eC .Lt) (l9 λi j=>.bl (decide (i<j))):=CW λ_ _ _ _ _ _ _ q=>lt_int q
theorem pJ:b_ X (eC .LtE) (l9 λi j=>.bl (decide (i<=j))):=CW λ_ _ _ _ _ _ _ q=>le_int q
theorem Bi:b_ X (eC .Gt) (l9 λi j=>.bl (decide (j<i))):=CW λ_ _ _ _ _ _ _ q=>gt_int q
theorem VN:b_ X (eC .In) (λx y H Q=>∃i j,x=.str i/\y=.str j/\Q (.bl (!(JB j i 0 j.length 1).isEmpty)) H):=by intro r s n H x y v u Q I f d h;obtain⟨i,j,rfl,rfl,q⟩:=h;obtain⟨t,rfl⟩:=f;obtain⟨p,rfl⟩:=d;exact in_str (dD I q rfl)
theorem EC:b_ X (eC .Is) (λx y H Q=>y=.non/\Q (.bl (decide (x=.non))) H):=by
 intro j s i H x y v u Q I d f h;obtain⟨rfl,q⟩:=h;cases f;refine is_none_gen (dD I q ?_);cases x <;> first
  | (cases d;rfl)
  | (obtain⟨t,rfl⟩:=d;rfl)
theorem b_.or(h:b_ X f r)(w:b_ X f n):b_ X f (λx y H Q=>r x y H Q\/n x y H Q):=by
 intro p s d H x y v u Q I j i q;rcases q with q|q
 .exact h p s d H x y v u Q I j i q
 .exact w p s d H x y v u Q I j i q
theorem SI(p:b_ X (eC d) r)(A:PE X a l)(z:PE X b g)(w:qI d b=ak):PE X (.Compare a [d] [b] m) (xT r l g):=by intro B s f H Q I h;exact wpAny_Compare1 (CB A z I h λv u i x y D C n j q=>p B i f D x y v u Q C n j q) w
def GG(t:TE):TT:=λd H Q=>t d H λx f=>∃k,x=.bl k/\Q k f
theorem OA(D:b_ X (eC f) r)(G:PE X a l)(F:PE X b g)(E:qI f b=ak):PT X (.Compare a [f] [b] m) (GG (xT r l g)):=by
 intro i s d H Q I h;refine wpAny_isTrue_Compare1 (aT (G i s d H _ I h) λv n ⟨x,P,M,w,C⟩=>aT (F i n d P _ M C) λu j ⟨y,O,L,q,B⟩=>aT (D i j d O x y v u _ L w q B) λc S ⟨z,N,J,p,k,e,A⟩=>?_) E;subst e;cases p;exact o5 ⟨N,J,A⟩
noncomputable def AO(r i:R2)(l g o:TE):TE:=λd H Q=>l d H λx p=>g d p λy n=>r x y n λz f=>∃k,z=.bl k /\
 (if k=ah then o d f λh j=>i y h j Q else Q (.bl ak) f)
theorem Rf{q:R2}(T:b_ X (eC n) r)(f_:b_ X (eC f) q)(ha:PE X a l)(Z:PE X b g)(Y:PE X c o)(W:(lastMarks [n,f] [b,c]=ak)^7):PE X (.Compare a [n,f] [b,c] m) (AO r q l g o):=by
 intro j s i H Q I h;refine Compare_chain (aT (ha j s i H _ I h) λv J ⟨x,H1,I1,N,S⟩=>chain_link (aT (Z j J i H1 _ I1 S) λu G ⟨y,H2,I2,p,P⟩=>aT (T j G i H2 x y v u _ I2 N p P) λd F ⟨z,B,A,M,k,e,w⟩=>?_)) W;subst e;cases M;refine o5 ?_;cases k with
 |false=>exact ite_ff ⟨.bl ak,B,A,rfl,w⟩
 |true=>exact ite_tt (chain_last (aT (Y j F i B _ A w) λD E ⟨C,H4,I4,L,O⟩=>f_ j E i H4 y C u D Q I4 p L O))
theorem RQ{q:R2}(Z:b_ X (eC n) r)(f_:b_ X (eC f) q)(ha:PE X a l)(hb:PE X b g)(hc:PE X c o)(hm:(lastMarks [n,f] [b,c]=ak)^7):PT X (.Compare a [n,f] [b,c] m) (GG (AO r q l g o)):=by
 intro j s i H Q I h;refine isTrue_chain (aT (ha j s i H _ I h) λv J ⟨x,H1,I1,O,W⟩=>test_link (aT (hb j J i H1 _ I1 W) λu G ⟨y,H2,I2,p,T⟩=>aT (Z j G i H2 x y v u _ I2 O p T) λd F ⟨z,B,A,N,k,e,w⟩=>?_)) hm;subst e;cases N;refine o5 ?_;cases k with
 |false=>
  obtain⟨k',e',Y⟩:=w;cases e';exact ite_ff ⟨B,A,Y⟩
 |true=>
  refine ite_tt (test_last (aT (hc j F i B _ A w) λD E ⟨C,H4,I4,M,S⟩=>aT (f_ j E i H4 y C u D _ I4 p M S) λd' s5 ⟨z2,H5,I5,L,k2,e2,P⟩=>?_));subst e2;cases L;exact o5 ⟨H5,I5,P⟩
theorem sy:(bq:Nat)<2^63:=by trivial
theorem NZ:b_ X (ji .Add) (λx y H Q=>∃i j,x=.str i/\y=.str j/\i.length+j.length<=bq/\Q (.str (i++j)) H):=by intro z s r H x y v u Q I n f h;obtain⟨i,j,rfl,rfl,p,q⟩:=h;obtain⟨t,rfl⟩:=n;obtain⟨d,rfl⟩:=f;exact add_str (λd w=>⟨.str (i++j),H,I.tok _,⟨_,rfl⟩,q⟩) p
theorem vals1(r:bC [x] d):∃u,d=[u]/\RelV x u:=by
 cases r with
 |cons h f=>cases f;exact⟨_,rfl,h⟩
theorem vals2(r:bC [x,y] f):∃u d,f=[u,d]/\RelV x u/\RelV y d:=by
 cases r with
 |cons n j=>
  cases j with
  |cons i h=>cases h;exact⟨_,_,rfl,n,i⟩
def FL(K:ax)(x:V)(H:Hp)(n:Nat):Prop :=
 match x with
 |.str y=>y.length<=bq/\n=y.length
 |.byt y=>y.size<=bq/\n=y.size
 |.ref p=>(∃xs,cA K H p xs/\n=xs.length)\/∃xs,cn K H p xs/\n=xs.length
 |_=>False
theorem iE:eF X (.builtin "len") (λxs H Q=>∃x n,xs=[x]/\FL X.K x H n/\Q (.int n) H):=by
 intro F s B H xs C Q I r h;obtain⟨x,n,rfl,e,q⟩:=h;obtain⟨u,rfl,f⟩:=vals1 r;have E:=sy;have D:bq=16777216:=C4;cases x with
 |str y=>obtain⟨t,rfl⟩:=f;obtain⟨A,d⟩:y.length<=bq/\n=y.length:=e;subst d;exact len_str ∅ ⟨.int _,H,I.tok _,⟨_,rfl⟩,q⟩
 |byt y=>obtain⟨t,rfl⟩:=f;obtain⟨A,d⟩:y.size<=bq/\n=y.size:=e;subst d;exact PySem.W.len_bytes ∅ ⟨.int _,H,I.tok _,⟨_,rfl⟩,q⟩
 |ref p=>
  cases f;have d:(∃xs,cA X.K H p xs/\n=xs.length)\/∃xs,cn X.K H p xs/\n=xs.length:=e;rcases d with⟨xs,hx,d⟩|⟨xs,hx,d⟩
  .subst d;obtain⟨v,i,j,z⟩:=I.list hx;have w:=i.length;exact Calls.call_len_list j.isList (by simp only[gi];lia) ⟨.int xs.length,H,I.tok _,⟨_,by simp only[gi];rw[w]⟩,q⟩
  .subst d;obtain⟨v,i,j,z⟩:=I.tuple hx;have w:=i.length;exact len_tuple j (by simp only[gi];lia) ⟨.int xs.length,H,I.tok _,⟨_,by simp only[gi];rw[w]⟩,q⟩
 |_=>exact(show False from e).elim
end
structure Jg(h:aB)(x dx C:ae)(mA:Str->Option ai):Prop where
 obj:h.get? x=aa (PySem.W.instObj C dx)
 ns:h.Ns1 dx mA
 ne:dx≠x
theorem Ss{h:aB}(n:h.Ns1 f d):∃c,h.get? f=aa c/\∀b,PySem.W.lookIn b c=aa (d b):=by
 obtain⟨o,r,s,j,p,m,_,l⟩:=n;refine⟨o,j,λb=>?_⟩;have e:=l b;unfold nsFind findBy at e;rw[<-Array.find?_toList]at e;unfold PySem.W.lookIn;rw[p];dsimp only;split
 .simp_all
 .rename_i q;rw[q]at e;have a:r.toList.any (·.refKey)=ak:=by rw[List.any_eq_false];intro y i;obtain⟨z,t,g⟩:=m y (Array.mem_toList_iff.mp i);simp[DictEntry.refKey,g]
  grind
theorem Jg.look(I:Jg h x d C c):∃b,wf h x (PySem.W.instObj C d) C (aa b)/\∀a,PySem.W.lookIn a b=aa (c a) :=
 let ⟨b,ho,hl⟩:=Ss I.ns
 ⟨b,⟨I.obj,rfl,rfl,ho⟩,hl⟩
theorem oZ.some_of(r:oZ (aa v) o):∃u,o=aa u/\RelV v u:=by
 cases o with
 |none=>trivial
 |some u=>exact⟨u,rfl,r⟩
section
variable{P:aP}{w:aI}{H i:Hp}{h g:aB}{a C b:ae}{fs c:List (Str×V)}
theorem Qa(l:c9 P w H h)(e:H a=aa (.ins C b fs)):∃j,Jg h a b C j/\(∀f,oZ (fs.lookup f) (j f))/\PySem.Within j (fs.map (·.1))/\fs.length<=1000/\H b=aa (.own a):=by
 obtain⟨d,z,o,m,j,n,r,q⟩:=(show cc P w H h a (.ins C b fs)from l a _ e)
 exact⟨j,⟨m,n,o⟩,r,q,z,d⟩
end
structure Hf(K:ax)(C:ae):Prop where
 pg:PySem.W.plainGet K C k7=ah
 hd:PySem.W.hasDictIn K C=ah
 po:PySem.W.plainOver K C=ah
 sa:qK K (.ref C) "__setattr__"=aa (aa (.builtin "object.__setattr__"))
theorem Hf.get{K:ax}(c:Hf K C)(f:Str):PySem.W.plainGet K C f=ah:=c.pg
section
variable{X:Cx}{f:List (ae×Obj)}{d:St}{H:Hp}{s:ao}{A:aV}{E:ai->ao->Prop}{Q:ai->ao->Prop}{c:ai}{b:Bool}
inductive jf(K:ax)(H:Hp):V->ai->Prop where
 |non:jf K H .non (.type "NoneType")
 |bl (x:Bool):jf K H (.bl x) (.type "bool")
 |int (i:Int):jf K H (.int i) (.type "int")
 |str (x:Str):jf K H (.str x) (.type "str")
 |flt (x:UInt64):jf K H (.flt x) (.type "float")
 |lst {a:ae}{xs:List V} (e:H a=aa (.lst xs)):jf K H (.ref a) (.type "list")
 |frz {a:ae}{o:Obj}{xs:List V} (e:H a=aa (.frz o (.lst xs))):jf K H (.ref a) (.type "list")
 |tup {a:ae}{xs:List V} (e:H a=aa (.tup xs)):jf K H (.ref a) (.type "tuple")
 |dK {a:ae}{kvs:List (aK×V)} (e:H a=aa (.dK kvs)):jf K H (.ref a) (.type "dict")
 |dT {a:ae}{kvs:List (List aK×V)} (e:H a=aa (.dT kvs)):jf K H (.ref a) (.type "dict")
 |ins {a C dx:ae}{fs:List (Str×V)} (e:H a=aa (.ins C dx fs)) (cl:Hf K C) (ha:qK K (.ref C) "__class__"=aa (aa (.builtin "object.__class__")))
   (hn:JC K (.builtin "object.__class__") "__get__"=aa (aa (.builtin "getset_descriptor.__get__"))) (rj:PySem.W.takesIn K (.builtin "object.__class__")=aa ah)
   (hm:zy K C (.type "object")=aa ah):jf K H (.ref a) (.ref C)
theorem OE(I:Inv X f d H s)(g:RelV x u)(ty:jf X.K H x t)(e:iJ X.K t c=aa b)(h:∀m,Q (.bool b) {s with toks:=m}):ar X.zz A (call (.builtin "isinstance") [u,c]) Q E s:=by
 cases ty with
 |non=>cases (show u=Value.none from g);exact lM PySem.W.kitx_none I.kIn True.intro e (λz=>nomatch z) h
 |bl y=>cases (show u=Value.bool y from g);exact lM PySem.W.kitx_bool I.kIn True.intro e (λz=>nomatch z) h
 |int i=>obtain⟨t,q⟩:=(show ∃t,u=Value.int i t from g);cases q;exact lM PySem.W.kitx_int I.kIn True.intro e (λz=>nomatch z) h
 |str y=>obtain⟨t,q⟩:=(show ∃t,u=Value.str y t from g);cases q;exact lM PySem.W.kitx_str I.kIn True.intro e (λz=>nomatch z) h
 |flt y=>obtain⟨t,q⟩:=(show ∃t,u=Value.float y t from g);cases q;exact lM PySem.W.kitx_float I.kIn True.intro e (λz=>nomatch z) h
 |@lst a xs ea=>
  cases (show u=Value.ref a from g);obtain⟨_,_,n,_,j⟩:=(show cc X.prog X.w H s.heap a (.lst xs)from I.hok a _ ea)
  exact lM PySem.W.kitx_list I.kIn ⟨_,j,rfl⟩ e (λz=>nomatch z) h
 |@frz a ob xs ea=>
  cases (show u=Value.ref a from g);obtain⟨_,_,_,n,_,j⟩:=(show cc X.prog X.w H s.heap a (.frz ob (.lst xs))from I.hok a _ ea)
  exact lM PySem.W.kitx_list I.kIn ⟨_,j,rfl⟩ e (λz=>nomatch z) h
 |@tup a xs ea=>
  cases (show u=Value.ref a from g);obtain⟨_,_,_,p,_⟩:=(show cc X.prog X.w H s.heap a (.tup xs)from I.hok a _ ea)
  obtain⟨o,j,l,_⟩:=p;exact lM PySem.W.kitx_tuple I.kIn ⟨o,j,l⟩ e (λz=>nomatch z) h
 |@dK a kvs ea=>
  cases (show u=Value.ref a from g);obtain⟨_,_,w,_,p⟩:=(show cc X.prog X.w H s.heap a (.dK kvs)from I.hok a _ ea)
  obtain⟨o,r,v,j,l,_⟩:=p;exact lM PySem.W.kitx_dict I.kIn ⟨o,j,l.1⟩ e (λz=>nomatch z) h
 |@dT a kvs ea=>
  cases (show u=Value.ref a from g);obtain⟨_,_,xs,_,o,r,v,j,l,_⟩:=(show cc X.prog X.w H s.heap a (.dT kvs)from I.hok a _ ea)
  exact lM PySem.W.kitx_dict I.kIn ⟨o,j,l.1⟩ e (λz=>nomatch z) h
 |@ins a C dx fs ea cl ha hn rj hm=>
  cases (show u=Value.ref a from g);obtain⟨D,O,_⟩:=Qa I.hok ea;obtain⟨B,J,_⟩:=O.look;exact lM (PySem.W.kitx_own (cl.get _) cl.hd ha hn rj hm) I.kIn J e (λz=>nomatch z) h
end
structure fP(k:Nat)(A:aV):Prop where
 hd:A.handled=af
 dp:A.depth+3*k+5<recursionLimit
 un:A.units+16*k+200<cLine
theorem fP.mono(r:fP k A)(h:j<=k):fP j A:=⟨r.hd,by have:=r.dp;lia,by have:=r.un;lia⟩
theorem fP.deeper(r:fP (k+1) A)(a:Env):fP k (A.deeper a) :=⟨r.hd,by have:=r.dp;show A.depth+1+3*k+5<_;lia,by have:=r.un;show A.units+3+16*k+200<_;lia⟩
theorem fP.depth(r:fP k A):A.depth<recursionLimit:=by have:=r.dp;lia
theorem fP.units(r:fP k A):A.units+64<cLine:=by have:=r.un;lia
def Oo:TA:=λ_ H Q=>Q [] H
def N6(c:TE)(b:TA):TA:=λa H Q=>c a H λx f=>b a f λxs d=>Q (x::xs) d
section
variable{X:Cx}{e:aC}{es:List aC}{c:TE}{t:TA}{a:Pos}
theorem jz:PA X [] Oo:=λ_ _ _ _ H Q I h=>JD ⟨[],H,I,.nil,h⟩
theorem i7(o:PE X e c)(n:PA X es t)(m:(aX (e::es) X.env=(ak,a8 e X.env)::aX es X.env)^0):PA X (e::es) (N6 c t):=by intro a d s b H Q I h;rw[m];show ar _ _ (spliced ((ak,a8 e X.env)::dr a (aX es X.env))) _ _ s;refine C5 (aT (o d s b H _ I h) λu f ⟨x,v,q,i,l⟩=>?_);exact aT (n a d f b v _ q l) λw y ⟨xs,r,p,g,j⟩=>⟨x::xs,r,p,.cons i g,j⟩
def Ql(t:TA):TE:=λd H Q=>t d H λxs b=>xs.length<=bq/\∀p,b p=af->Q (.ref p) (upd b p (.tup xs))
def LS(t:TA):TE:=λd H Q=>t d H λxs b=>xs.length<=bq/\∀p,b p=af->Q (.ref p) (upd b p (.lst xs))
theorem Na{x1}(h:PA X es t):PE X (.Tuple es x1 a) (Ql t):=by intro n s i H Q I l;refine wpAny_Tuple_spliced (aT (h a n s i H _ I l) λj d ⟨xs,g,f,r,z,q⟩=>⟨by rw[<-r.length];exact z,?_⟩);have m:g d.heap.objs.size=af:=f.hok.fresh (bn _);refine⟨.ref d.heap.objs.size,upd g d.heap.objs.size (.tup xs),f.laid (t':=d.toks) (λb u e=>bL _ e) (bn _) ?_,rfl,q _ m⟩;exact⟨z,j,r,⟨⟨_,cP _ rfl,rfl,_,rfl⟩,_,cP _ rfl,rfl⟩⟩
theorem Ug(h:PA X es t):PE X (.List es a) (LS t):=by intro n s i H Q I l;refine wpAny_List_spliced (aT (h a n s i H _ I l) λj d ⟨xs,g,f,r,z,q⟩=>⟨by rw[<-r.length];exact z,?_⟩);have m:g d.heap.objs.size=af:=f.hok.fresh (bn _);refine⟨.ref d.heap.objs.size,upd g d.heap.objs.size (.lst xs),f.laid (t':=d.toks) (λb u e=>bL _ e) (bn _) ?_,rfl,q _ m⟩;exact⟨z,j,0,r,cP _ rfl⟩
end
abbrev Sp:=List V->Hp->VK->XK->Prop
abbrev gx:=List Env->Hp->ao->XK->ai->ao->Prop
structure sj(P:aP)(w:aI)(K:ax)(mg:Str->Option ai)(base:aB)(A:aV)(outer:List Env)(s:ao)(H:Hp):Prop where
 frames:A.frames=aa outer
 mod:Mod K mg base
 bs:∀b o,base.get? b=aa o->s.heap.get? b=aa o/\H b=af
 bsz:base.objs.size<=s.heap.objs.size
 funs:s.heap.FunFrames base outer
 frf:∀b∈fF outer,H b=af
 hok:c9 P w H s.heap
 bare:nK s.gens
 tab:xF K H
inductive CE(outer:List Env)(P:aP)(w:aI)(H:Hp)(s:ao)(Q:VK)(u:ai)(s':ao):Prop
 |mk (v:V) (H':Hp) (z0:s'.os=s.os) (z1:nK s'.gens) (z2:Un (fF outer) [] H H' s.heap s'.heap) (z3:c9 P w H' s'.heap) (z4:RelV v u) (z5:Q v H')
noncomputable def CR(c:gx)(a:List Env)(P:aP)(w:aI)(H:Hp)(s:ao)(Q:VK)(E:XK)(r:Result)(b:ao):Prop :=
 match r with
 |.ok (.ret u)=>CE a P w H s Q u b
 |.ok _=>False
 |.error e=>c a H s E e b
structure lv(P:aP)(w:aI)(K:ax)(mg:Str->Option ai)(base:aB)(CX:gx)(k:Nat)(f:ae)(fd:g7)(ps:List Str)(sp:Sp):Prop where
 len:∀vs H Q E,sp vs H Q E->vs.length=ps.length
 run:∀(A:aV) (outer:List Env) (s:ao) (H:Hp) (args:Args) (us:List ai) (vs:List V) (Q:VK) (E:XK),fP k A->sj P w K mg base A outer s H->BindsTo s fd args (ps.zip us)->bC vs us->sp vs H Q E ->
  mD (aw P w) A (.call (.ref f) args) (CR CX outer P w H s Q E) s
section
variable{X:Cx}{f:List (ae×Obj)}{a:St}{H:Hp}{s c:ao}
theorem Inv.env0(I:Inv X f a H s):sj X.prog X.w X.K X.mg X.base X.A X.stack s H :=⟨I.ok.frames,I.ok.mod,I.bs,cV I.ok.bsz I.sz,I.stack,I.stkFree,I.hok,I.bare,I.tab⟩
theorem Inv.after(I:Inv X f a H s)(h:CE X.stack X.prog X.w H s Q u c):EP X f a Q u c:=by obtain⟨v,o,m,i,un,l,r,q⟩:=h;obtain⟨n,g,d,t,j⟩:=c;obtain rfl:j=s.os:=m;exact⟨v,o,I.call (h':=n) (g':=g) (d':=d) (t':=t) (ch:=[]) un l i (λb z=>absurd z (by simp)),r,q⟩
end
def Ny(d:Sp)(a:List V)(E:XK)(t:TA):TE:=λb H Q=>t b H λc f=>d (c++a) f Q E
noncomputable def Binds(K:ax)(d:g7)(b:List Str)(c:List ai):Prop :=
 ∀(s:ao) (a:List ai),K.In s.heap->(a++c).length=b.length->BindsTo s d ⟨a,[]⟩ (b.zip (a++c))
theorem Binds.all{K:ax}{b:List Str}(h:∀a:List ai,a.length=b.length->gn d ⟨a,[]⟩=pure (b.zip a)):Binds K d b []:=λs a _ c=>by rw[ik]at c ⊢;exact .of_eq (h a c)
def sJ(c:gx)(X:Cx)(E:XK):Prop:=∀(b:List (ae×Obj)) (a:St) (H:Hp) (s:ao) (e:ai) (s':ao),Inv X b a H s->c X.stack H s E e s'->X.xe e s'
section
variable{X:Cx}{l:gx}{k:Nat}{f C:ae}{j:g7}{d:List Str}{i:Sp}{a:List V}{c:List ai}{E:XK}{x m:Str}{p b n:Pos}{e o:aC}{g:List aC}{v:TE}{t:TA}
theorem Va{s:ao}{Q:VK}{q:List ai}{w:List V}(F:lv X.prog X.w X.K X.mg X.base l k f j d i)(J:fP k X.A)(N:Binds X.K j d c)(M:bC a c)(G:sJ l X E)(I:Inv X z y H s) (r:bC w q) (h:i (w++a) H Q E):ar X.zz X.A (call (.ref f) q) (EP X z y Q) X.xe s:=by
 have A:bC (w++a) (q++c):=r.append M;have L:(q++c).length=d.length:=by rw[<-A.length];exact F.len _ _ _ _ h
 refine zz (qL (F.run X.A X.stack s H ⟨q,[]⟩ (q++c) (w++a) Q E J I.env0 (N s q I.kIn L) A h) λr D B=>?_);cases r with
 |error e=>exact G z y H s e D I B
 |ok O=>
  cases O with
  |ret u=>exact I.after B
  |next=>trivial
  |brk=>trivial
  |cont=>trivial
theorem NK(F:lv X.prog X.w X.K X.mg X.base l k f j d i)(A:fP k X.A)(G:Gl X x)(B:X.mg x=aa (.ref f))(D:qM X.K (.ref f)=ah)(M:Binds X.K j d c)(L:bC a c)(z:sJ l X E)(N:PA X (e::g) t) (y:av x^1) (J:(aX (e::g) X.env=(ak,a8 e X.env)::aX g X.env)^0) (O:((dr b (aX g X.env)).any (·.1)=ak)^0):PE X (.Call (.Name x p) (e::g) [] b) (Ny i a E t):=by intro P s w H Q I h;refine zA (tD I G B ?_ y);refine JE (h₀:=X.base) I.ok.mod.kin D (aT (N b P s w H _ I h) λT W ⟨S,Y,u,r,q⟩=>⟨u.kIn,?_⟩) J O;exact Va F A M L z u r q
end
structure cg(N P:List Str)(sc:dP):Prop where
 kind:sc.kind=.function
 co:sc.isCoroutine=ak
 gen:sc.isGenerator=ak
 nd:N.Nodup
 pre:N.take P.length=P
 par:∀x∈P,sc.names.lookup x=aa .local\/sc.names.lookup x=aa .cell
 nofree:∀y∈sc.names,y.2≠.free
theorem Hk{a:Str->Option g8}:∀{binds:List (Str×ai)}{m:Str->Option ai},(∀v,(x,v)∉binds)->bindL a binds m x=m x
 |[],_,_=>rfl
 | (n,v)::r,m,h=>by
  unfold bindL;rw[Hk λw b=>h w (gZ _ b)];split
  all_goals grind
theorem Jm{a:Str->Option g8}:∀{binds:List (Str×ai)}{m:Str->Option ai},(∀v,(x,v)∉binds)->bindC a binds m x=m x
 |[],_,_=>rfl
 | (n,v)::r,m,h=>by
  unfold bindC;rw[Jm λw b=>h w (gZ _ b)];split
  all_goals grind
theorem FJ{a:Str->Option g8}:∀{P:List Str}{b:List ai}{i:Nat}{m:Str->Option ai},P.Nodup->P[i]?=aa x->b[i]?=aa v->a x=aa .local -> bindL a (P.zip b) m x=aa v
 |[],_,_,_,_,h,_,_=>by trivial
 |_::_,[],_,_,_,_,h,_=>by trivial
 |p::P,w::b,0,m,nd,h1,h2,hk=>by simp at h1 h2;subst h1;subst h2;show bindL a ((p,w)::P.zip b) m p=_;unfold bindL;rw[Hk λv c=>(kB.mp nd).1 (wg c).1,if_pos hk];simp
 |p::P,w::b,i+1,m,nd,h1,h2,hk=>by show bindL a ((p,w)::P.zip b) m x=_;unfold bindL;exact FJ (i:=i) (kB.mp nd).2 (by trivial) (by trivial) hk
theorem Jc{a:Str->Option g8}:∀{P:List Str}{b:List ai}{i:Nat}{m:Str->Option ai},P.Nodup->P[i]?=aa x->b[i]?=aa v->a x≠aa .local -> bindC a (P.zip b) m x=aa v
 |[],_,_,_,_,h,_,_=>by trivial
 |_::_,[],_,_,_,_,h,_=>by trivial
 |p::P,w::b,0,m,nd,h1,h2,hk=>by simp at h1 h2;subst h1;subst h2;show bindC a ((p,w)::P.zip b) m p=_;unfold bindC;rw[Jm λv c=>(kB.mp nd).1 (wg c).1,if_neg hk];simp
 |p::P,w::b,i+1,m,nd,h1,h2,hk=>by show bindC a ((p,w)::P.zip b) m x=_;unfold bindC;exact Jc (i:=i) (kB.mp nd).2 (by trivial) (by trivial) hk
def start(N:List Str)(a:List V):St:=a.map aa++dQ (N.length-a.length) af
noncomputable def iZ(g:gx)(P:aP)(w:aI)(K:ax)(mg:Str->Option ai)(base:aB)(N:List Str)(b:Str)(a:dP)(f:ae)(d:ai)(A:aV)(outer:List Env)(s:ao)(H:Hp)(E:XK):Cx where
 prog:=P
 w:=w
 K:=K
 mg:=mg
 base:=base
 A:=A.deeper (jj b a s.heap.objs.size f d)
 N:=N
 s₀:=s
 H₀:=H
 env:=jj b a s.heap.objs.size f d
 outer:=outer
 stack:=jj b a s.heap.objs.size f d::outer
 ex:=[]
 calm:=ah
 fn:=λ_=>ah
 pn:=[]
 xe:=λe s'=>ar (aw P w) (A.deeper (jj b a s.heap.objs.size f d)) (leaving (jj b a s.heap.objs.size f d) e) (λ_ c=>g outer H s E e c) (λh c=>g outer H s E h c) s'
theorem Fz{a:dP}(h:a.names.lookup x=aa .cell):∃c,(fY n a.names []).lookup x=aa c:=by have q:=JF a.names n [] (.inl h);exact C6.mp q
theorem GM{K:ax}{M:Str->Option ai}{o:aB}{N C:List Str}{j:Str}{d:dP}{f:ae}{J:ai}{A:aV}{g:List Env}{s T:ao}{H:Hp}{E:XK}{L:List ai}{B:List V}(S:cg N C d) (hd:A.handled=af) (m:sj P w K M o A g s H) (hl:B.length=C.length) (r:bC B L)(x:InCallC s s.heap.objs.size (bindL (jj j d s.heap.objs.size f J).kindOf (C.zip L) λ_=>af) (fY (s.heap.objs.size+1) d.names []) (bindC (jj j d s.heap.objs.size f J).kindOf (C.zip L) λ_=>af) T):Inv (iZ Y P w K M o N j d f J A g s H E) [] (start N B) H T:=by
 have dw:C.length<=N.length:=by have:=congrArg o7 S.pre;grind
 obtain⟨Q,tk,rfl,X⟩:=x.done;have D:∀b:ae,b∉(iZ Y P w K M o N j d f J A g s H E).ex:=λb z=>absurd (show b∈([]:List ae)from z) (by simp);refine⟨⟨m.mod,S.kind,rfl,rfl,bn _,λy z c Q l=>?_,λy F=>?_,λy c _ h=>?_,λ_=>hd,Around.frames_deeper m.frames,.inr ⟨rfl,rfl⟩,λb z=>absurd z (D b),m.bs,m.bsz,λb _ _=>D b,λb z=>absurd z (D b),m.funs,m.frf,m.tab⟩,rfl,m.bare,Un.kept X,⟨_,x.toInCall.ns,λi y v Q l h3=>?_⟩,λy c h=>⟨_,x.cell y c h⟩,m.hok.fresh (bn _),λy c h=>?_,λp I=>absurd (show p∈([]:List (ae×Obj))from I) (by simp),m.hok.kept X,?_⟩
 .exact name_of_addr x.apart (lN Q) (lN l)
 .have F:d.names.lookup y=aa .cell\/d.names.lookup y=aa .free:=F;rcases F with F|F
  .exact Fz F
  .exact absurd rfl (S.nofree _ (lN F))
 .exact kw (x.above y c (lN h))
 .have O:i<B.length:=by
   unfold start at l;by_cases O:i<B.length
   .trivial
   .rw[List.getElem?_append_right (~~~O)]at l;rw[List.getElem?_replicate]at l;split at l <;> cases l
  have ha:B[i]?=aa v:=by
   unfold start at l;rw[wj (~~~O),dY]at l;cases e:B[i]? with
   |none=>rw[e]at l;trivial
   |some a=>rw[e]at l;cases l;rfl
  obtain⟨u,W,Z⟩:=r.get ha;have I:C[i]?=aa y:=by rw[<-S.pre,List.getElem?_take_of_lt ⋯];trivial
  have G:C.Nodup:=by rw[<-S.pre];exact S.nd.sublist (List.take_sublist _ _)
  refine⟨u,Z,?_⟩;rcases S.par y (j7 I)with k|k
  .exact .inl ⟨k,FJ G I W k⟩
  .obtain⟨c,e⟩:=Fz (n:=s.heap.objs.size+1) k;refine .inr ⟨.inl k,c,e,?_⟩;have q:=x.cell y c e;rw[Jc G I W (by show d.names.lookup y≠_;rw[k];decide)]at q;exact q
 .exact m.hok.fresh (kw (x.above y c (lN h)))
 .unfold start;show _=N.length;simp_all
theorem Lo{K:ax}{m d:Str}{g:Arguments}{i:List bf}{a:dP}{dV kV F pm z ct oc:ai}{an od:Option ae}{X:Array (Option ai)}{N G:List Str}{O:Sp} (lk:K.lookup f=aa ⟨oc,od,.func (iK m d g i a dV kV F pm an z ct),X⟩) (bt:wl K z d=ah) (S:cg N G a)(len:∀l H Q E,O l H Q E->l.length=G.length)(hG:∀(A:aV) (c:List Env) (s:ao) (H:Hp) (l:List V) (Q:VK) (E:XK),fP k (A.deeper (jj d a s.heap.objs.size f z))->O l H Q E -> ∃t,kZ (iZ M P w K L h N d a f z A c s H E) i t/\t {nx:=λ_ p=>Q .non p,rt:=Q} (start N l) H):lv P w K L h M (k+1) f (iK m d g i a dV kV F pm an z ct) G O:=by
 refine⟨len,λA c s H args us l Q E Z D hb r gL=>?_⟩;have hl:=len _ _ _ _ gL;have KX:K.In s.heap:=D.mod.kin.keeps λb o e=>(D.bs b o e).1;have Y:s.heap.NoLimit:=D.mod.nolimit.keeps λb o e=>(D.bs b o e).1;have Ef:∀y∈G.zip us,a.names.lookup y.1=aa .local\/(a.names.lookup y.1=aa .cell/\((fY (s.heap.objs.size+1) a.names []).lookup y.1).isSome=ah):=λ⟨n,v⟩ hy=>by
  rcases S.par n (wg hy).1 with q|q
  .exact .inl q
  .exact .inr ⟨q,JF _ _ _ (.inl q)⟩
 refine codeAny_call_function Z.depth (KX _ _ lk) rfl S.co S.gen rfl (PySem.W.codeRec_of KX bt) (hb _ _ _ _ ?_);refine wpAny_newFunctionEnv_cells S.kind Ef λenv he s1 x=>?_;subst he;refine⟨Y.keeps x.toInCall.keep,codeAny_func ?_⟩;obtain⟨t,ht,hq⟩:=hG A c s H l Q E (Z.deeper _) gL;have I:Inv (iZ M P w K L h N d a f z A c s H E) [] (start N l) H s1:=GM S Z.hd D hl r x;refine ff (ht [] s1 (start N l) H _ I hq) (λfl T B=>?_) λe T B=>B;have C:∀{j:St}{p:Hp}{v:V}{u:ai},Inv (iZ M P w K L h N d a f z A c s H E) [] j p T->RelV v u->Q v p->CE c P w H s Q u T :=λ{j p v u} J W q=>⟨v,p,J.os,J.bare,J.base,J.hok,W,q⟩
 cases fl with
 |ret u=>obtain⟨v,j,p,J,W,q⟩:=B;exact C J W q
 |next=>obtain⟨j,p,J,q⟩:=B;exact C (v:=V.non) (u:=Value.none) J rfl q
 |brk=>obtain⟨_,_,_,q⟩:=B;trivial
 |cont=>obtain⟨_,_,_,q⟩:=B;trivial
section
variable{X:Cx}{x:Str}{p a:Pos}{e:aC}{b:List aC}{t:TA}{c T:String}{r:List V->Hp->VK->Prop}
def Ib(r:List V->Hp->VK->Prop)(t:TA):TE:=λd H Q=>t d H λf g=>r f g Q
theorem mx(y:eF X (.builtin c) r)(v:Gl X x)(u:X.mg x=af)(o:fu x=aa (.builtin c))(z:PA X (e::b) t)(q:(x≠"__name__")^1)(n:av x^1)(w:(aX (e::b) X.env=(ak,a8 e X.env)::aX b X.env)^0) (A:((dr a (aX b X.env)).any (·.1)=ak)^0):PE X (.Call (.Name x p) (e::b) [] a) (Ib r t):=by intro f s d H Q I h;refine zA (vV I v u o ?_ q n);exact PyProof.Rows.callWith_builtin1 (aT (z a f s d H _ I h) λi j ⟨g,C,B,l,m⟩=>y f j d C g i Q B l m) w A
theorem yZ(y:eF X (.type T) r)(v:Gl X x)(u:X.mg x=af)(o:fu x=aa (.type T))(z:PA X (e::b) t)(q:(x≠"__name__")^1)(n:av x^1)(w:(aX (e::b) X.env=(ak,a8 e X.env)::aX b X.env)^0) (A:((dr a (aX b X.env)).any (·.1)=ak)^0):PE X (.Call (.Name x p) (e::b) [] a) (Ib r t):=by intro f s d H Q I h;refine zA (vV I v u o ?_ q n);exact Jz (aT (z a f s d H _ I h) λi j ⟨g,C,B,l,m⟩=>y f j d C g i Q B l m) w A
end
end L2
namespace HT
section
open PySem.SeqAt
open PySem.AutoSeq1 (wpAny_loadPart')
open PySem.MeetsSeq PySem.MeetsSeq2 PySem.MeetsSeq3
end
section
variable{a:aP}{w:aI}{A:aV}{E:ai->ao->Prop}{s:ao}
theorem cat_tup{d c:List ai}(z:IsTup s.heap t d.toArray)(C:IsTup s.heap b c.toArray)(r:d≠[])(F:c=[]->Q (.ref t) s) (D:c≠[]->Q (.ref s.heap.objs.size) {s with heap:=s.heap.push {cls:=.type "tuple",data:=.seq (d++c).toArray}})(B:d.length+c.length<=bq):ar (aw a w) A (ji .Add (.ref t) (.ref b)) Q E s:=by
 obtain⟨⟨cls,x,data,m⟩,j,v,n,u⟩:=id z;obtain⟨⟨y,g,l,f⟩,h,q,p,o⟩:=id C;simp only at v u q o;subst v u q o;have e:d.toArray++c.toArray=(d++c).toArray:=by simp
 by_cases i:c=[]
 .exact concat_meets ⟨_,j,rfl⟩ ⟨_,h,rfl⟩ JG seq_tuple_add JH JI (JJ _ _)
   (tuple_addW1 t b d.toArray c.toArray n p x g m f (~~~r) (by simp[i])) ⟨j,h,F i⟩
 .refine concat_meets ⟨_,j,rfl⟩ ⟨_,h,rfl⟩ JG seq_tuple_add JH JI (JJ _ _)
   (tuple_addW2 t b d.toArray c.toArray n p x g m f (~~~r) (~~~i) (by trivial)) ⟨j,h,?_⟩
  rw[e];exact D i
noncomputable def sIx(n d:Nat):Option Int->Nat
 |none=>d
 |some v=>if v<0 then(v+(n:Int)).toNat else min v.toNat n
theorem sIx_nat(n d k:Nat):sIx n d (aa (k:Int))=min k n:=by rfl
theorem sIx_le(n d:Nat)(b:d<=n)(o:Option Int):sIx n d o<=n:=by
 cases o with
 |none=>trivial
 |some v=>show(if v<0 then(v+(n:Int)).toNat else min v.toNat n)<=n;lia
theorem Fi(v:Int)(n d:Nat):(if v<0 then max (v+(n:Int)) 0 else min v (n:Int))=((sIx n d (aa v):Nat):Int):=by
 show(if v<0 then max (v+(n:Int)) 0 else min v (n:Int))=(((if v<0 then(v+(n:Int)).toNat else min v.toNat n):Nat):Int)
 lia
theorem Oj(b c:Option Int)(n:Nat):JK b c 1 (n:Int)=(((sIx n 0 b:Nat):Int),((sIx n n c:Nat):Int)):=by
 have d:¬((1:Int)<0):=by simp
 unfold JK;simp only[d,if_false];refine Prod.ext ?_ ?_
 .cases b with
  |none=>rfl
  |some v=>exact Fi v n 0
 .cases c with
  |none=>rfl
  |some v=>exact Fi v n n
theorem RJ(i j:Nat):C7 (i:Int) (j:Int) 1=j-i:=by unfold C7;lia
theorem IF(p:nP v o)(h:Q o s):ar (aw a w) A (Builtin.Slice.slicePartIndex v) Q E s:=by
 cases p with
 |none=>exact slicePart_none h
 |int i t=>exact slicePart_int h
theorem S6{b c:Option Int}{n:Nat}{Q:Int×Int×Nat->ao->Prop}(o:s.heap.IsSliceOf j i g .none)(m:nP i b)(l:nP g c)(h:Q (((sIx n 0 b:Nat):Int),1,sIx n n c-sIx n 0 b) s):ar (aw a w) A (Builtin.Slice.sliceApplied (.ref j) (pure (n:Int))) Q E s:=by
 obtain⟨q,f,p,d⟩:=id o;unfold Builtin.Slice.sliceApplied Builtin.Slice.sliceFields;refine aq (aq (lO f d (x:=i) rfl (aq (lO f d (x:=g) rfl (aq (lO f d (x:=.none) rfl (aE ?_)))))));refine aq (slicePart_none ?_);show ar _ _ (if((1:Int) == 0)=ah then _ else _) _ _ s;rw[if_neg (by simp)];refine aq (IF m (aq (IF l (aq (aE ?_)))));show ar _ _ (match JK b c 1 (n:Int)with | (b,c)=>pure (b,(1:Int),C7 b c 1)) _ _ s;rw[Oj b c n];show ar _ _ (pure (((sIx n 0 b:Nat):Int),(1:Int),C7 ((sIx n 0 b:Nat):Int) ((sIx n n c:Nat):Int) 1)) _ _ s;rw[RJ];exact aE h
theorem QS(xs:Array ai)(i k:Nat):((cF k).filterMap λ(m:Nat)=>xs[((i:Int)+(m:Int)*1).toNat]?).toArray=((xs.toList.drop i).take k).toArray:=by
 have e:(λ(m:Nat)=>xs[((i:Int)+(m:Int)*1).toNat]?)=λm=>xs[i+m]?:=by
  grind
 rw[e];have:=pick_run xs i k;rw[zB]at this;have b:((λx=>xs[x]?) ∘ λx=>i+x)=λm=>xs[i+m]?:=rfl;rw[b]at this;rw[this]
theorem getItem_tuple_cut{c d:Option Int}{Q:ai->ao->Prop}(g:IsTup s.heap t b)(p:s.heap.IsSliceOf i o n .none)(v:nP o c)(u:nP n d)(B:¬(sIx b.size 0 c=0/\sIx b.size b.size d=b.size))(h:Q (.ref s.heap.objs.size) {s with heap:=s.heap.push {cls:=.type "tuple",data:=.seq ((b.toList.drop (sIx b.size 0 c)).take (sIx b.size b.size d-sIx b.size 0 c)).toArray}})(y:b.size<=bq):ar (aw a w) A (qN (.ref t) (.ref i)) Q E s:=by
 have f:sizeOk (.seq ((b.toList.drop (sIx b.size 0 c)).take (sIx b.size b.size d-sIx b.size 0 c)).toArray):=by show((b.toList.drop (sIx b.size 0 c)).take (sIx b.size b.size d-sIx b.size 0 c)).toArray.size<=bq;rw[gi,wm,zC,iH];omega
 have C:sIx b.size b.size d<=b.size:=sIx_le _ _ (bn _) d;obtain⟨x,r,q,z⟩:=id p;have l:s.TypeIs (.ref i) "slice":=⟨x,r,q⟩
 unfold qN
 try with_reducible refine iI ?_
 first|refine aq (aE ?_)|skip
 refine aq (wpAny_sequenceKey g.typeIs (by rfl) ?_);refine aq (wo (name:=tN "__getitem__") g.typeIs Ve (k8 Ve g.typeIs entry_tuple_getitem ?_ (args_tuple_getitem _ _)));show ar _ _ (Builtin.Tuple.tupleItemsOf (.ref t) >>= _) _ _ s;refine aq (tupleItemsOf_ g ?_);refine aq (C8 l ?_);rw[if_pos (by rfl)];refine aq (S6 p v u ?_);have j:¬((((sIx b.size 0 c:Nat):Int) == 0&&(1:Int) == 1&&(sIx b.size b.size d-sIx b.size 0 c) == b.size)=ah):=⋯
 show ar _ _ (if(((sIx b.size 0 c:Nat):Int) == 0&&(1:Int) == 1&&(sIx b.size b.size d-sIx b.size 0 c) == b.size)=ah then _ else _) _ _ s;rw[if_neg j,QS]
 first
  |exact aq (m:=C9 _) (j8 (aE ⟨_,rfl,aE h⟩) f)
  |exact aq (m:=C9 _) (j8 (aq (aE (aE ⟨_,rfl,aE h⟩))) f)
  |exact aq (aq (m:=C9 _) (j8 (aE (aE ⟨_,rfl,aE h⟩)) f))
  |exact aq (aq (m:=C9 _) (j8 (aE ⟨_,rfl,aE h⟩) f))
end
end HT
namespace L2
abbrev TO:=St->Hp->(Option Int->Hp->Prop)->Prop
def PO(X:Cx)(e:Option aC)(t:TO):Prop :=
 ∀(b:List (ae×Obj)) (s:ao) (a:St) (H:Hp) (Q:Option Int->Hp->Prop),Inv X b a H s->t a H Q ->
  ar X.zz X.A (evalPart e X.env) (λu d=>∃o c,Inv X b a c d/\nP u o/\Q o c) X.xe s
def Tr:TO:=λ_ H Q=>Q af H
def NH(t:TE):TO:=λa H Q=>t a H λx b=>∃i,x=.int i/\Q (aa i) b
section
variable{X:Cx}{e:aC}{f:TE}{c d:Option aC}{g j:TO}{n m:Pos}
theorem OS:PO X af Tr:=by intro b s a H Q I h;rw[evalPart_none];exact aE ⟨af,H,I,.none,h⟩
theorem QZ(h:PE X e f):PO X (aa e) (NH f):=by intro p s a H Q I o;rw[evalPart_some];refine aT (h p s a H _ I o) λu w ⟨x,v,r,b,l⟩=>?_;obtain⟨i,rfl,q⟩:=l;obtain⟨t,rfl⟩:=b;exact⟨aa i,v,r,.int i t,q⟩
def nr(X:Cx)(r:V->Option Int->Option Int->Hp->VK->Prop):Prop :=
 ∀(l:List (ae×Obj)) (s:ao) (a:St) (H:Hp) (x:V) (v h b:ai) (c d:Option Int) (i:ae) (Q:VK),Inv X l a H s->RelV x v->s.heap.IsSliceOf i h b .none->nP h c->nP b d->r x c d H Q ->
  ∃T o,typeLookup (.type T) "__getitem__"=pure (aa (.builtin o))/\s.TypeIs v T/\ar X.zz X.A (qN v (.ref i)) (EP X l a Q) X.xe s
theorem nr.or(h:nr X r)(A:nr X p):nr X (λx c d H Q=>r x c d H Q\/p x c d H Q):=by
 intro z s a H x v i b c d l Q I o y w u q;rcases q with q|q
 .exact h z s a H x v i b c d l Q I o y w u q
 .exact A z s a H x v i b c d l Q I o y w u q
noncomputable def Sl(r:V->Option Int->Option Int->Hp->VK->Prop)(f:TE)(g j:TO):TE:=λa H Q=>f a H λx i=>g a i λl h=>j a h λu b=>r x l u b Q
theorem Qc(M:nr X r)(P:PE X e f)(N:PO X c g)(J:PO X d j):PE X (.Subscript e (.Slice c d af m) n) (Sl r f g j):=by intro o s i H Q I h;refine Subscript_ (aT (P o s i H _ I h) λv A ⟨x,H1,I1,B,E⟩=>?_);refine wpAny_Slice (aT (N o A i H1 _ I1 E) λw z ⟨l,H2,Z,G,D⟩=>aT (J o z i H2 _ Z D) λp a ⟨u,y,Y,F,C⟩=>?_);rw[evalPart_none];refine aE ?_;have W:Inv X o i y {a with heap:=a.heap.push {cls:=.type "slice",data:=.fields #[w,p,.none]}}:=Y.kept (t':=a.toks) λb ob q=>bL _ q;obtain⟨T,id,S,L,O⟩:=M o {a with heap:=a.heap.push {cls:=.type "slice",data:=.fields #[w,p,.none]}} i y x v w p l u a.heap.objs.size Q W B (Heap.IsSliceOf.new ..) G F C;show ar X.zz X.A (subscriptTail e (.Slice c d af m) v (.ref a.heap.objs.size)) (EP X o i Q) X.xe {a with heap:=a.heap.push {cls:=.type "slice",data:=.fields #[w,p,.none]}};exact tail_any (ops:=[.ref a.heap.objs.size,v]) L S O (by rfl)
def oF(xs:List V)(c d:Option Int):List V:=(xs.drop (HT.sIx xs.length 0 c)).take (HT.sIx xs.length xs.length d-HT.sIx xs.length 0 c)
theorem Fh(xs:List V)(c d:Option Int):(oF xs c d).length<=xs.length:=by unfold oF;rw[wm,zC];lia
def HH(K:ax):V->Option Int->Option Int->Hp->VK->Prop:=λx c d H Q=>∃a xs,x=.ref a/\cn K H a xs /\
 ¬(HT.sIx xs.length 0 c=0/\HT.sIx xs.length xs.length d=xs.length)/\∀p,H p=af->Q (.ref p) (upd H p (.tup (oF xs c d)))
theorem Oz:nr X (HH X.K):=by
 intro L s C H x v E D c d F Q I u B y w h;obtain⟨a,xs,rfl,A,J,q⟩:=h;cases u;obtain⟨i,r,p,z⟩:=I.tuple A;have l:i.toArray.size=xs.length:=by rw[gi];exact r.length.symm
 refine⟨"tuple",_,PyProof.Rows.slot_tuple_getitem.lookup,p.typeIs,?_⟩;refine HT.getItem_tuple_cut p B y w (by rw[l];trivial) ?_ (by rw[l];trivial);rw[l];refine⟨.ref s.heap.objs.size,_,I.laid (t':=s.toks) (o:=.tup (oF xs c d)) (λb G q=>bL _ q) (bn _) ?_,rfl,q _ (I.hok.fresh (bn _))⟩;exact⟨cV (Fh xs c d) z,_,(r.drop (HT.sIx xs.length 0 c)).take (HT.sIx xs.length xs.length d-HT.sIx xs.length 0 c),Jv.new _ _⟩
def FV(K:ax):R2:=λx y H Q=>∃a b xs h,x=.ref a/\y=.ref b/\cn K H a xs/\cn K H b h/\xs≠[]/\xs.length+h.length<=bq /\
 (h=[]->Q (.ref a) H)/\(h≠[]->∀p,H p=af->Q (.ref p) (upd H p (.tup (xs++h))))
theorem bC.nil_iff(r:bC xs a):a=[]↔xs=[]:=by
 cases r with
 |nil=>simp
 |cons _ _=>simp
theorem VQ:b_ X (ji .Add) (FV X.K):=by
 intro P s M H x y v u Q I B A h;obtain⟨a,b,xs,r,rfl,rfl,L,J,G,O,D,C⟩:=h;cases B;cases A;obtain⟨F,l,E,_⟩:=I.tuple L;obtain⟨p,i,m,_⟩:=I.tuple J;refine HT.cat_tup E m (λz=>G (l.nil_iff.mp z)) (λz=>⟨.ref a,H,I,rfl,D (i.nil_iff.mp z)⟩) (λz=>?_) (by rw[<-l.length,<-i.length];trivial);refine⟨.ref s.heap.objs.size,_,I.laid (t':=s.toks) (o:=.tup (xs++r)) (λb N q=>bL _ q) (bn _) ?_,rfl,C (λw=>z (i.nil_iff.mpr w)) _ (I.hok.fresh (bn _))⟩;exact⟨by rw[jk];trivial,_,l.append i,Jv.new _ _⟩
end
noncomputable def ie(n:Nat)(i:Int):Option Nat:=if 0<=i then(if i<n then aa i.toNat else af)else if -(n:Int)<=i then aa (i+n).toNat else af
def fE{a:Type}(xs:List a)(i:Int):Option a:=(ie xs.length i).bind λj=>xs[j]?
theorem AW(h:ie n i=aa j):seqIndex? i n=aa j/\j<n/\-(n:Int)<=i/\i<n:=by
 unfold ie at h;by_cases b:0<=i
 .rw[if_pos b]at h;by_cases a:i<n
  .rw[if_pos a]at h;have e:i.toNat=j:=fe h;exact⟨by rw[seqIndex_of b a,e],∅,∅,a⟩
  .rw[if_neg a]at h;cases h
 .rw[if_neg b]at h;by_cases a:-(n:Int)<=i
  .rw[if_pos a]at h;have e:(i+n).toNat=j:=fe h;exact⟨by rw[seqIndex_neg ⋯ a,e],∅,a,∅⟩
  .rw[if_neg a]at h;cases h
theorem AG{v:a}(h:fE xs i=aa v):∃j,seqIndex? i xs.length=aa j/\xs[j]?=aa v/\j<xs.length/\-(xs.length:Int)<=i/\i<xs.length:=by
 unfold fE at h;cases e:ie xs.length i with
 |none=>rw[e]at h;cases h
 |some j=>rw[e]at h;obtain⟨f,d,c,b⟩:=AW e;exact⟨j,f,h,d,c,b⟩
theorem SA{j:Nat}{v:a}(h:xs[j]?=aa v):fE xs (j:Int)=aa v:=by
 have b:j<xs.length:=(cJ.mp h).1;have e:ie xs.length (j:Int)=aa j:=by unfold ie;rw[if_pos (by simp),if_pos ⋯];rfl
 unfold fE;rw[e];exact h
def BL(b:aC):Prop:=∀o i,C_ b ak o i=operate [o,i] (qN o i)
def m_(X:Cx)(r:R2):Prop :=
 ∀(b a:aC) (d:List (ae×Obj)) (s:ao) (c:St) (H:Hp) (x y:V) (v u:ai) (Q:VK),Inv X d c H s->RelV x v->RelV y u->r x y H Q ->
  C_ a ak v u=operate [v,u] (qN v u)->ar X.zz X.A (subscriptTail b a v u) (EP X d c Q) X.xe s
def v_(X:Cx)(d:String)(r:V->List V->Hp->VK->Prop):Prop :=
 ∀(c:List (ae×Obj)) (s:ao) (a:St) (H:Hp) (x:V) (xs:List V) (v:ai) (b:List ai) (Q:VK),Inv X c a H s->RelV x v->bC xs b->r x xs H Q ->
  ar X.zz X.A (call (.builtin d) (v::b)) (EP X c a Q) X.xe s
section
variable{X:Cx}{a b:aC}{G F:TE}{E:Pos}
theorem m_.or(h:m_ X r)(n:m_ X j):m_ X (λx y H Q=>r x y H Q\/j x y H Q):=by
 intro c d m s f H x y v u Q I i g q l;rcases q with q|q
 .exact h c d m s f H x y v u Q I i g q l
 .exact n c d m s f H x y v u Q I i g q l
theorem Gx(j:m_ X r)(m:PE X a G)(l:PE X b F)(i:BL b):PE X (.Subscript a b E) (xT r G F):=by intro n s c H Q I h;exact Subscript_ (CB m l I h λv u d x y p o g f q=>j a b n d c p x y v u Q o g f q (i _ _))
noncomputable def Hw(K:ax):R2:=λx y H Q=>∃p xs i v,x=.ref p/\y=.int i/\cA K H p xs/\fE xs i=aa v/\Q v H
noncomputable def EJ(K:ax):R2:=λx y H Q=>∃p xs i v,x=.ref p/\y=.int i/\cn K H p xs/\fE xs i=aa v/\Q v H
noncomputable def EZ:R2:=λx y H Q=>∃z i c,x=.str z/\y=.int i/\z.length<=bq/\fE z.cps.toList i=aa c/\Q (.str ⟨#[c]⟩) H
theorem VT:m_ X (Hw X.K):=by
 intro d f J s A H x y v u Q I N M h B;obtain⟨p,xs,i,z,rfl,rfl,O,S,q⟩:=h;cases N;obtain⟨t,rfl⟩:=M;obtain⟨m,r,l,Z⟩:=I.list O;obtain⟨j,o,Y,h3,W,T⟩:=AG S;obtain⟨w,D,g⟩:=r.get Y;have P:=r.length;have hn:=sy;have c:EP X J A Q w s:=⟨z,H,I,g,q⟩
 by_cases C:0<=i
 .have n:i.toNat=j:=by
   rw[seqIndex_of C T]at o;lia
  exact item_listR l.isList C ∅ (by rw[n];simpa using D) c B
 .have n:(i+(m.toArray.size:Int)).toNat=j:=by
   rw[seqIndex_neg ⋯ W]at o;rw[gi,<-P];exact fe o
  exact subscriptTail_builtinR (x:=w) l.isList.typeIs slot_list_getitem.lookup
   (wpAny_getItem_list_neg (Q:=λr L=>r=w/\EP X J A Q r L) l.isList ⋯ (by rw[gi] <;> simp_all) ∅ (by rw[n];simpa using D) ⟨rfl,c⟩) B
theorem VY:m_ X (EJ X.K):=by
 intro c d n s l H x y v u Q I B A h D;obtain⟨p,xs,i,z,rfl,rfl,J,M,q⟩:=h;cases B;obtain⟨t,rfl⟩:=A;obtain⟨C,r,m,P⟩:=I.tuple J;obtain⟨j,Z,N,Y,W,T⟩:=AG M;obtain⟨w,O,f⟩:=r.get N;have L:=r.length;have S:=sy;have g:EP X n l Q w s:=⟨z,H,I,f,q⟩
 exact subscriptTail_builtinR (x:=w) m.typeIs slot_tuple_getitem.lookup
  (getItem_tuple (j:=j) (Q:=λr o=>r=w/\EP X n l Q r o) m ∅ ∅ (by rw[gi,<-L];trivial) (~~~O) ⟨rfl,g⟩) D
theorem P7:m_ X EZ:=by
 intro d f M s B H x y v u Q I m l h n;obtain⟨z,i,c,rfl,rfl,D,p,q⟩:=h;obtain⟨t,rfl⟩:=m;obtain⟨C,rfl⟩:=l;obtain⟨j,g,A,L,w,r⟩:=AG p;have o:z.cps.toList.length=z.length:=by rfl
 rw[o]at g w r;have J:=sy;exact tail_any (typeIs_str s z t) slot_str_getitem.lookup (getItem_str (c:=c) (by lia) (by rw[g];simpa using A) ⟨.str ⟨#[c]⟩,H,I.tok _,⟨_,rfl⟩,q⟩) n
def Ij(K:ax):R2:=λx y H Q=>Hw K x y H Q\/EJ K x y H Q\/EZ x y H Q
theorem et:m_ X (Ij X.K):=VT.or (VY.or P7)
theorem Np(c:List ai)(n j:Nat)(u:ai):kC (·.setIfInBounds j u) {cls:=.type "list",data:=.seq c.toArray n}={cls:=.type "list",data:=.seq (c.set j u).toArray n}:=by simp[kC]
theorem Inv.lst{s:ao}{p:ae}{xs:List V}(I:Inv X d c H s)(h:H p=aa (.lst xs)):∃(its:List ai) (n:Nat),bC xs its/\s.heap.get? p=aa {cls:=.type "list",data:=.seq its.toArray n}/\xs.length<=bq:=by obtain⟨z,its,n,r,e⟩:=I.hok p _ h;exact⟨its,n,r,e,z⟩
theorem Inv.lstUpd{d c:List ai}(I:Inv X m j H s)(h:H p=aa (.lst xs))(v:s.heap.get? p=aa {cls:=.type "list",data:=.seq d.toArray n}) (l:f {cls:=.type "list",data:=.seq d.toArray n}={cls:=.type "list",data:=.seq c.toArray i}) (r:bC g c) (o:g.length<=bq) (t:Nat):Inv X m j (upd H p (.lst g)) {s with heap:=s.heap.update p f,toks:=t}:=by
 have e:(s.heap.update p f).get? p=aa {cls:=.type "list",data:=.seq c.toArray i}:=by rw[mE f v (by rw[l] <;> rfl),l]
 refine I.write (x:=p) (e:=p) (by rw[h];trivial) (.inl rfl) (λb u w q=>(o9 _ _ (c0 w)).trans q) ⟨_,e⟩ ?_;exact⟨o,c,i,r,e⟩
def Mf:V->V->V->Hp->(Hp->Prop)->Prop:=λo i v H Q=>∃p xs k j,o=.ref p/\i=.int k/\H p=aa (.lst xs)/\ie xs.length k=aa j/\Q (upd H p (.lst (xs.set j v)))
theorem IN:HA X Mf:=by
 intro L s y H o i v M N u Q I A B z h;obtain⟨p,xs,k,j,rfl,rfl,g,C,q⟩:=h;cases A;obtain⟨t,rfl⟩:=B;obtain⟨c,n,r,d,O⟩:=I.lst g;obtain⟨m,S,J,D⟩:=AW C;have l:=r.length;have P:=sy;have x:Inv X L y (upd H p (.lst (xs.set j v))) {s with heap:=s.heap.update p (kC (·.setIfInBounds j u))} :=I.lstUpd g d (Np c n j u) (r.set z j) (by rw[fZ];trivial) s.toks;by_cases w:0<=k
 .have f:k.toNat=j:=by
   rw[seqIndex_of w D]at m;lia
  exact PySem.W.ki_setAt d w ∅ (by rw[gi,<-l];trivial) (by rw[f];exact⟨_,x,q⟩)
 .have f:(k+(c.toArray.size:Int)).toNat=j:=by
   rw[seqIndex_neg ⋯ J]at m;simp_all
  exact PySem.W.ki_setBack d ⋯ (by rw[gi,<-l];trivial) ∅ (by rw[f];exact⟨_,x,q⟩)
theorem Q8(c d:Option Int)(n:Nat):(zD c d af n).1=((HT.sIx n 0 c:Nat):Int)/\(zD c d af n).2.1=((HT.sIx n n d:Nat):Int)/\(zD c d af n).2.2=1:=by
 refine⟨?_,?_,rfl⟩
 .cases c with
  |none=>rfl
  |some i=>
   simp only[zD,HT.sIx,JL,show(1:Int) > 0 by decide,if_true];by_cases h:i<0
   .simp only[h,if_true] <;> lia
   .simp only[h,if_false] <;> lia
 .cases d with
  |none=>rfl
  |some i=>
   simp only[zD,HT.sIx,JL,show(1:Int) > 0 by decide,if_true];by_cases h:i<0
   .simp only[h,if_true] <;> lia
   .simp only[h,if_false] <;> lia
theorem Mh(c:List ai)(d f:Option Int):slicePick c.toArray d f af=((c.drop (HT.sIx c.length 0 d)).take (HT.sIx c.length c.length f-HT.sIx c.length 0 d)).toArray:=by obtain⟨i,h,g⟩:=Q8 d f c.toArray.size;unfold slicePick;rw[i,h,g];simp only[sliceRange_one,pick_run,gi] <;> rfl
def Gs(K:ax):V->Option Int->Option Int->Hp->VK->Prop:=λx c d H Q=>∃a xs,x=.ref a/\cA K H a xs/\∀p,H p=af->Q (.ref p) (upd H p (.lst (oF xs c d)))
theorem VL:nr X (Gs X.K):=by
 intro C s w H x v z y c d A Q I g p j i h;obtain⟨a,xs,rfl,n,q⟩:=h;cases g;obtain⟨l,r,f,m⟩:=I.list n;have u:=r.length;refine⟨"list",_,slot_list_getitem.lookup,f.isList.typeIs,?_⟩;refine wpAny_getItem_list_slice f.isList p j i .none (by simp) ?_ ⋯;rw[Mh,<-u];refine⟨.ref s.heap.objs.size,_,I.laid (t':=s.toks) (o:=.lst (oF xs c d)) (λb B q=>bL _ q) (bn _) ?_,rfl,q _ (I.hok.fresh (bn _))⟩;exact⟨cV (Fh xs c d) m,_,0,(r.drop (HT.sIx xs.length 0 c)).take (HT.sIx xs.length xs.length d-HT.sIx xs.length 0 c),cP _ rfl⟩
def gh:V->Bool
 |.non=>ah
 |.bl _=>ah
 |.int _=>ah
 |.str _=>ah
 |_=>ak
noncomputable def eP:V->V->Bool
 |.non,.non=>ah
 |.bl a,.bl b=>a == b
 |.bl a,.int b=>(if a then 1 else 0) == b
 |.int a,.bl b=>a == (if b then 1 else 0)
 |.int a,.int b=>a == b
 |.str a,.str b=>a == b
 |_,_=>ak
theorem Gv(f:RelV y u)(c:RelV x v)(g:gh y=ah)(h:gh x=ah):wp A s u v (eP y x):=by
 cases y with
 |non=>
  cases f;cases x with
  |non=>cases c;exact SeqAt.EqAt.same _
  |bl b=>cases c;exact SeqAt.EqAt.none_bool b
  |int b=>obtain⟨t,rfl⟩:=c;exact SeqAt.EqAt.none_int b t
  |str b=>obtain⟨t,rfl⟩:=c;exact SeqAt.EqAt.none_str b t
  |_=>trivial
 |bl a=>
  cases f;cases x with
  |non=>cases c;exact SeqAt.EqAt.bool_none a
  |bl b=>cases c;exact SeqAt.EqAt.bool_bool a b
  |int b=>obtain⟨t,rfl⟩:=c;exact SeqAt.EqAt.bool_int a b t
  |str b=>obtain⟨t,rfl⟩:=c;exact SeqAt.EqAt.bool_str a b t
  |_=>trivial
 |int a=>
  obtain⟨d,rfl⟩:=f;cases x with
  |non=>cases c;exact SeqAt.EqAt.int_none a d
  |bl b=>cases c;exact SeqAt.EqAt.int_bool a d b
  |int b=>obtain⟨t,rfl⟩:=c;exact JM a d b t
  |str b=>obtain⟨t,rfl⟩:=c;exact SeqAt.EqAt.int_str a d b t
  |_=>trivial
 |str a=>
  obtain⟨d,rfl⟩:=f;cases x with
  |non=>cases c;exact SeqAt.EqAt.str_none a d
  |bl b=>cases c;exact SeqAt.EqAt.str_bool a d b
  |int b=>obtain⟨t,rfl⟩:=c;exact SeqAt.EqAt.str_int a d b t
  |str b=>obtain⟨t,rfl⟩:=c;exact JN a d b t
  |_=>trivial
 |_=>trivial
def j0(x:V)(u:ai):Bool:=match u with
 |.none=>eP .non x
 |.bool b=>eP (.bl b) x
 |.int i _=>eP (.int i) x
 |.str z _=>eP (.str z) x
 |_=>ak
theorem ya(r:RelV y u)(f:gh y=ah):j0 x u=eP y x:=by
 cases y with
 |non=>cases r;rfl
 |bl b=>cases r;rfl
 |int i=>obtain⟨t,rfl⟩:=r;rfl
 |str z=>obtain⟨t,rfl⟩:=r;rfl
 |_=>trivial
theorem GQ{x:V}{xs:List V}{c:List ai}(r:bC xs c)(f:xs.all gh=ah):c.any (j0 x)=xs.any λy=>eP y x:=by
 unfold bC at r
 induction r with
 |nil=>rfl
 |cons r _ g=>rw[qO,g9]at f;rw[o_,o_,ya r f.1,g f.2]
theorem uT{A:aV}{s:ao}{x:V}{v:ai}(i:RelV x v)(j:gh x=ah){xs:List V}{d:List ai}(r:bC xs d)(f:xs.all gh=ah):∀u∈d,wp A s u v (j0 x u):=by
 unfold bC at r
 induction r with
 |nil=>exact λu c=>by cases c
 |cons r _ g=>
  intro h c;rw[qO,g9]at f;rcases bZ.mp c with rfl|c
  .rw[ya r f.1];exact Gv r i f.1 j
  .exact g f.2 h c
def oO(x:V)(xs:List V):Bool:=xs.any λy=>eP y x
def Bw(K:ax)(c:Bool):R2:=λx y H Q=>∃p xs,y=.ref p/\(cA K H p xs\/cn K H p xs)/\gh x=ah/\xs.all gh=ah/\Q (.bl (if c then !oO x xs else oO x xs)) H
theorem TB:b_ X (eC .In) (Bw X.K ak):=by
 intro o s n H x y v u Q I i l h;obtain⟨p,xs,rfl,d,j,fs,q⟩:=h;cases l;rcases d with d|d
 .obtain⟨c,r,f,m⟩:=I.list d;refine SeqAt.in_listAt (j0 x) f.isList (λw g=>uT i j r fs w (~~~g)) ⟨.bl _,H,I,rfl,?_⟩;rw[show c.toArray.any (j0 x)=c.any (j0 x) by simp,GQ r fs];exact q
 .obtain⟨c,r,f,m⟩:=I.tuple d;refine SeqAt.in_tupleAt (j0 x) f (λw g=>uT i j r fs w (~~~g)) ⟨.bl _,H,I,rfl,?_⟩;rw[show c.toArray.any (j0 x)=c.any (j0 x) by simp,GQ r fs];exact q
theorem eF.or(h:eF X f r)(l:eF X f i):eF X f (λxs H Q=>r xs H Q\/i xs H Q):=by
 intro j s c H xs d Q I g q;rcases q with q|q
 .exact h j s c H xs d Q I g q
 .exact l j s c H xs d Q I g q
theorem Jj:eF X (.type "list") (λxs H Q=>∃p f,xs=[.ref p]/\(cA X.K H p f\/cn X.K H p f)/\∀l,H l=af->Q (.ref l) (upd H l (.lst f))):=by
 intro L s C H xs M Q I r h;obtain⟨p,f,rfl,v,q⟩:=h;obtain⟨u,rfl,D⟩:=vals1 r;cases D;have w:∀(c:List ai),bC f c->f.length<=bq->∀(d:aB) (i:Nat),(∀b B,s.heap.get? b=aa B->d.get? b=aa B) ->
   d.get? s.heap.objs.size=aa {cls:=.type "list",dict:=af,data:=.seq c.toArray i,slots:=#[]}->EP X L C Q (.ref s.heap.objs.size) {s with heap:=d}:=λc g m d i j e=>
  ⟨.ref s.heap.objs.size,_,I.laid (t':=s.toks) j (bn _) (show cc X.prog X.w _ d _ (.lst f)from⟨m,c,i,g,e⟩),rfl,q _ (I.hok.fresh (bn _))⟩
 rcases v with v|v
 .obtain⟨c,g,x,m⟩:=I.list v;have J:=g.length;obtain⟨o,y,A,n,z⟩:=x.isList;exact call_list_seq p (.inl rfl) y A z (λd i j e=>w c g m d i j e) (by simp only[gi] <;> simp_all)
 .obtain⟨c,g,x,m⟩:=I.tuple v;have J:=g.length;obtain⟨o,y,A,n,z⟩:=x;exact call_list_seq p (.inr rfl) y A z (λd i j e=>w c g m d i j e) (by simp only[gi] <;> simp_all)
theorem sY:eF X (.type "tuple") (λxs H Q=>∃p d,xs=[.ref p]/\((cA X.K H p d/\∀l,H l=af->Q (.ref l) (upd H l (.tup d)))\/(cn X.K H p d/\Q (.ref p) H))):=by
 intro n s j H xs z Q I r h;obtain⟨p,d,rfl,h⟩:=h;obtain⟨u,rfl,w⟩:=vals1 r;cases w;rcases h with⟨hq,q⟩|⟨hq,q⟩
 .obtain⟨c,g,i,m⟩:=I.list hq;have A:=g.length;refine call_tuple_list i.isList (λf x=>?_) (by simp only[gi] <;> simp_all);have v:Inv X n j H {s with heap:=f}:=I.kept (t':=s.toks) x;have y:Inv X n j (upd H f.objs.size (.tup d)) {s with heap:=f.push {cls:=.type "tuple",data:=.seq c.toArray}} :=v.laid (t':=s.toks) (λb o e=>bL _ e) (bn _) (show cc X.prog X.w _ _ _ (.tup d)from⟨m,c,g,Jv.new _ _⟩);exact⟨.ref f.objs.size,_,y,rfl,q _ (v.hok.fresh (bn _))⟩
 .obtain⟨c,g,i,m⟩:=I.tuple hq;exact call_tuple_same i ⟨.ref p,H,I,rfl,q⟩
def Ja(K:ax)(T:String)(x:V)(H:Hp):Prop:=match x with
 |.str _=>T = "str"
 |.int _=>T = "int"
 |.ref p=>(T = "list"/\∃xs,cA K H p xs)\/(T = "tuple"/\∃o,K.lookup p=aa o/\o.cls=.type "tuple"/\o.dict=af) \/
   (T = "dict"/\((∃c,H p=aa (.dK c))\/∃c,H p=aa (.dT c)))\/(T = "set"/\∃S n,H p=aa (.set S n))
 |_=>False
theorem NT{s:ao}{T:String}{x:V}{v:ai}(I:Inv X q l H s)(r:RelV x v)(ty:Ja X.K T x H):s.TypeIs v T/\∀a,v=.ref a->∃j,s.heap.get? a=aa j/\j.dict=af:=by
 cases x with
 |str z=>
  obtain⟨t,rfl⟩:=r;cases (show T = "str" from ty);exact⟨typeIs_str s z t,λ_ e=>nomatch e⟩
 |int i=>
  obtain⟨t,rfl⟩:=r;cases (show T = "int" from ty);exact⟨typeIs_int s i t,λ_ e=>nomatch e⟩
 |ref p=>
  cases r;rcases ty with⟨rfl,xs,hq⟩|⟨rfl,o,hk,hc,f⟩|⟨rfl,hk⟩|⟨rfl,S,n,hk⟩
  .obtain⟨m,_,h,_⟩:=I.list hq;refine⟨h.isList.typeIs,λa e=>?_⟩;cases e;obtain⟨o,n,e,c,f,_⟩:=h;exact⟨o,e,f⟩
  .refine⟨⟨o,I.kIn p o hk,hc⟩,λa e=>?_⟩;cases e;exact⟨o,I.kIn _ o hk,f⟩
  .have z:∃o,s.heap.get? p=aa o/\o.ExactDict:=by
    rcases hk with⟨kvs,hk⟩|⟨kvs,hk⟩
    .obtain⟨_,_,_,_,o,_,_,e,d,_⟩:=I.hok p _ hk;exact⟨o,e,d⟩
    .obtain⟨_,_,_,_,o,_,_,e,d,_⟩:=I.hok p _ hk;exact⟨o,e,d⟩
   obtain⟨o,e,d⟩:=z;refine⟨⟨o,e,d.1⟩,λa g=>?_⟩;cases g;exact⟨o,e,d.2.1⟩
  .obtain⟨o,_,_,_,e,d,_⟩:=I.hok p _ hk;refine⟨⟨o,e,d.1⟩,λa g=>?_⟩;cases g;exact⟨o,e,d.2.1⟩
 |_=>exact False.elim ty
def NA(K:ax)(T:String)(r:V->List V->Hp->VK->Prop)(C:TE)(t:TA):TE:=λc H Q=>C c H λx d=>Ja K T x d/\t c d λxs f=>r x xs f Q
variable{o e:aC}{es:List aC}{C:TE}{t:TA}{m:Str}{B d:Pos}{T D:String}{r:V->List V->Hp->VK->Prop}
theorem vU(N:PlainAttrs T)(c:Slot T m D)(M:typeOf (.builtin D)=pure (.type "method_descriptor"))(S:v_ X D r)(P:PE X o C)(W:PA X (e::es) t)(A:(nQ o m X.env (a8 o X.env)=a8 o X.env)^0)(q:(((dr d (aX (e::es) X.env)).all (λx=>!x.1)&&(qP d (qQ [] X.env)).all (λx=>x.1.isSome)&&decide ((e::es).length+([]:List jF).length+(if([]:List jF).isEmpty then 0 else 1)<30))=ah)^0)(y:((B.endLine == d.line)=ah)^0) (O:(aX (e::es) X.env=(ak,a8 e X.env)::aX es X.env)^0) (Ee:((dr d (aX es X.env)).any (·.1)=ak)^0):PE X (.Call (.Attribute o m B) (e::es) [] d) (NA X.K T r C t):=by intro g s f H Q I h;refine wpAny_Call_method_late A q y rfl (aT (P g s f H _ I h) λv w ⟨x,H1,l,i,ty,L⟩=>?_);obtain⟨Z,Y⟩:=NT l i ty;refine⟨T,D,N,c,M,Z,Y,?_⟩;have j:=W d g w f H1 _ l L;rw[O]at j ⊢;refine JO (by trivial) (Da ?_);exact aT j λp u ⟨n,H2,I2,z,J⟩=>S g u f H2 x n v p Q I2 i z J
end
def v9(X:Cx)(d:String)(r:V->List V->Hp->VK->Prop):Prop :=
 ∀(c:List (ae×Obj)) (s:ao) (a:St) (H:Hp) (x:V) (xs:List V) (v:ai) (b:List ai) (Q:VK),Inv X c a H s->RelV x v->bC xs b->r x xs H Q ->
  ar X.zz X.A (call (.builtin d) (v::b)) (EP X c a Q) X.xe s
theorem bC.one{x:V}{a:List ai}(h:bC [x] a):∃u,a=[u]/\RelV x u:=by
 cases h with
 |cons r t=>cases t;exact⟨_,rfl,r⟩
section
variable{X:Cx}{d:List (ae×Obj)}{a:St}{H:Hp}{s:ao}{l b:ae}{g c i:List V}
theorem Inv.lset{h its':List ai}(I:Inv X d a H s)(w:H l=aa (.lst g))(e:s.heap.get? l=aa {cls:=.type "list",data:=.seq h.toArray n}) (r:f h.toArray=its'.toArray) (o:bC c its') (m:c.length<=bq):Inv X d a (upd H l (.lst c)) {s with heap:=s.heap.update l (kC f),toks:=j}:=by have q:=PySem.IsL.update e f;rw[r]at q;refine I.write (x:=l) (e:=l) (by rw[w];trivial) (.inl rfl) (λy u v p=>(o9 s.heap (kC f) (c0 v)).trans p) ⟨_,q⟩ ?_;exact⟨m,its',_,o,q⟩
theorem Inv.lnew(I:Inv X d a H s)(h:bC c its)(f:c.length<=bq):Inv X d a (upd H s.heap.objs.size (.lst c)) {s with heap:=s.heap.push {cls:=.type "list",data:=.seq its.toArray},toks:=t'} :=I.laid (λ_ _ q=>bL _ q) (bn _) ⟨f,its,0,h,cP _ rfl⟩
theorem Inv.fresh(I:Inv X d a H s):H s.heap.objs.size=af:=I.hok.fresh (bn _)
theorem Inv.lstM(I:Inv X d a H s)(h:H l=aa (.lst g)):g.length<=bq/\∃(f:List ai) (n:Nat),bC g f/\g.length=f.length/\s.heap.get? l=aa {cls:=.type "list",data:=.seq f.toArray n}:=by obtain⟨z,f,n,r,e⟩:=I.hok l _ h;exact⟨z,f,n,r,r.length,e⟩
theorem SW(h:n<=bq):JP n=ak:=by unfold JP;simp_all
end
section
variable{X:Cx}
def QM:V->List V->Hp->VK->Prop:=λx a H Q=>∃l xs y,x=.ref l/\a=[y]/\H l=aa (.lst xs)/\xs.length<bq/\Q .non (upd H l (.lst (xs++[y])))
theorem Hb:v9 X "list.append" QM:=by
 intro o s f H x g v i Q I b c h;obtain⟨l,xs,y,rfl,rfl,a,j,q⟩:=h;cases b;obtain⟨u,rfl,d⟩:=c.one;obtain⟨z,its,n,r,m,e⟩:=I.lstM a;refine zE F.slot_list_append ⟨_,e,rfl⟩ F.entry_list_append (F.args_list_append_2 _ _) (PySem.list_append l its.toArray n u ⋯) ⟨e,?_⟩;refine⟨.non,_,I.lset (its':=its++[u]) a e (by simp) (r.append (.cons d .nil)) ?_,rfl,q⟩
 grind
theorem Qf{a:Type}(xs:List a)(k:Nat):(dQ k xs).flatten.length=k*xs.length:=by simp
end
section
variable{κ:Type}[DecidableEq κ]
def jX(a:List (κ×V))(k:κ):Option V:=(a.find? λb=>decide (b.1=k)).map (·.2)
noncomputable def fV(a:List (κ×V))(k:κ)(v:V):List (κ×V) :=if(a.any λb=>decide (b.1=k))=ah then a.map (λb=>if b.1=k then(b.1,v)else b)else a++[(k,v)]
theorem yT{p:κ×V}(e:p.1=k):jX (p::r) k=aa p.2:=by simp[jX,lP,e]
theorem yk{p:κ×V}(e:¬p.1=k):jX (p::r) k=jX r k:=by simp[jX,lP,e]
theorem FO(k:κ):∀a:List (κ×V),(a.any λb=>decide (b.1=k))=(jX a k).isSome
 |[]=>rfl
 |p::r=>by
  rw[o_];by_cases e:p.1=k
  .simp only[yT e,decide_eq_true e,Bool.true_or,Option.isSome_some]
  .rw[yk e,decide_eq_false e,Bool.false_or];exact FO k r
theorem CP(a:List (κ×V))(k:κ)(v:V):(fV a k v).length<=a.length+1:=by
 unfold fV
 grind
theorem oZ.isSome_eq(r:oZ o u):o.isSome=u.isSome:=by
 cases o with
 |none=>cases u with
  |none=>rfl
  |some _=>trivial
 |some _=>cases u with
  |none=>trivial
  |some _=>rfl
theorem oZ.getD(r:oZ o u)(rd:RelV d a):RelV (o.getD d) (u.getD a):=by
 cases o with
 |none=>cases u with
  |none=>trivial
  |some _=>trivial
 |some _=>cases u with
  |none=>trivial
  |some _=>exact r
theorem KV.val(r:KV a d)(k:κ):oZ (jX a k) (tO d k):=by
 unfold KV at r
 induction r with
 |nil=>trivial
 |@cons p q ps qs h t ih=>
  obtain⟨f,g⟩:=h;by_cases e:p.1=k
  .have c:q.1=k:=f.symm.trans e;have b:tO (q::qs) k=aa q.2:=by simp[tO,lP,c]
   rw[yT e,b];trivial
  .have c:¬q.1=k:=λz=>e (f.trans z);have b:tO (q::qs) k=tO qs k:=by simp[tO,lP,c]
   rw[yk e,b];trivial
theorem KV.any(r:KV a c)(k:κ):(a.any λb=>decide (b.1=k))=c.any λb=>decide (b.1=k):=by
 unfold KV at r
 induction r with
 |nil=>rfl
 |cons h t d=>rw[o_,o_,d,h.1]
theorem KV.repl(r:KV b c)(k:κ)(d:RelV y u):KV (b.map λa=>if a.1=k then(a.1,y)else a) (c.map λa=>if a.1=k then(a.1,u)else a):=by
 unfold KV at r ⊢
 induction r with
 |nil=>exact .nil
 |@cons p q ps qs h t ih=>rw[cp,cp];refine .cons ?_ ih;lia
theorem KV.put(r:KV a b)(k:κ)(c:RelV y u):KV (fV a k y) (stored b k u):=by
 unfold fV stored;rw[r.any k];by_cases e:(b.any λd=>decide (d.1=k))=ah
 .rw[if_pos e,if_pos e];exact r.repl k c
 .rw[if_neg e,if_neg e];exact zF r ⟨rfl,c⟩
theorem KV.length{a:List (κ×ai)}(r:KV kvs a):kvs.length=a.length:=qE r
end
theorem tG(r:RelV (kV k) u):(gU P w).is k u=ah:=by
 cases k with
 |inl i=>obtain⟨t,e⟩:=(show ∃t,u=Value.int i t from r);subst e;exact Lz P w i t
 |inr x=>obtain⟨t,e⟩:=(show ∃t,u=Value.str x t from r);subst e;exact NS P w x t
theorem FF:∀{ks:List aK}{a:List ai},bC (ks.map kV) a->ItemsAre (gU P w) ks a
 |[],_,r=>by rw[zG]at r;cases r;exact .nil
 |k::ks,_,r=>by
  rw[cp]at r;cases r with
  |cons h t=>exact .cons (tG h) (FF t)
abbrev KT(H:Hp):List (List aK×V)->List (List aK×ae×ai)->Prop:=eT λp q=>p.1=q.1/\H q.2.1=aa (.tup (p.1.map kV))/\RelV p.2 q.2.2
theorem KT.val(r:KT H a xs)(k:List aK):oZ (jX a k) ((atKey xs k).map (·.2)):=by
 induction r with
 |nil=>trivial
 |@cons p q ps qs h t ih=>
  obtain⟨d,_,f⟩:=h;by_cases e:p.1=k
  .have c:q.1=k:=d.symm.trans e;have b:atKey (q::qs) k=aa q.2:=by simp[atKey,lP,c]
   rw[yT e,b];trivial
  .have c:¬q.1=k:=λz=>e (d.trans z);have b:atKey (q::qs) k=atKey qs k:=by simp[atKey,lP,c]
   rw[yk e,b];trivial
theorem KT.repl(r:KT H a xs)(k:List aK)(c:RelV y u):KT H (a.map λb=>if b.1=k then(b.1,y)else b) (xs.map (putAt k u)):=by
 induction r with
 |nil=>exact .nil
 |@cons p q ps qs h t ih=>rw[cp,cp];refine .cons ?_ ih;obtain⟨g,f,d⟩:=h;unfold putAt;lia
theorem KT.put(r:KT H a xs)(k:List aK)(f:H b=aa (.tup (k.map kV)))(c:RelV y u):KT H (fV a k y) (storedH xs k b u):=by
 have e:(a.any λd=>decide (d.1=k))=(atKey xs k).isSome:=by rw[FO,(r.val k).isSome_eq,JQ]
 unfold fV storedH;rw[e];by_cases q:(atKey xs k).isSome=ah
 .rw[if_pos q,if_pos q];exact r.repl k c
 .rw[if_neg q,if_neg q];exact zF r ⟨rfl,f,c⟩
theorem KT.keeps(r:KT H a xs)(f:∀b c,H b=aa (.tup c)->d b=aa (.tup c)):KT d a xs :=Paired.mapP r λ_ _ z=>⟨z.1,f _ _ z.2.1,z.2.2⟩
section
variable{P:aP}{w:aI}{H:Hp}{h:aB}{a:ae}
theorem HS(ok:c9 P w H h)(e:Rd H a u):cc P w H h a u:=e.ok ok
theorem qC(ok:c9 P w H h)(e:Rd H a (.dK b)):b.length<=bq/\(a == jE)=ak/\∃c,KV b c/\h.DictOf (gU P w) a c :=show cc P w H h a (.dK b)from HS ok e
theorem B0(ok:c9 P w H h)(e:H a=aa (.dK kvs)):kvs.length<=bq/\(a == jE)=ak/\∃b,KV kvs b/\h.DictOf (gU P w) a b:=qC ok (.inl e)
theorem sR{ks:List aK}(ok:c9 P w H h)(e:H a=aa (.tup (ks.map kV))):(tJ (gU P w)).is h ks a:=by
 obtain⟨_,b,r,⟨o,f,d,n,c⟩,_⟩:=(show cc P w H h a (.tup (ks.map kV))from ok a _ e)
 exact⟨o,b.toArray,n,f,d,c,by simpa using FF r⟩
theorem tm(ok:c9 P w H h)(e:Rd H a (.dT b)):b.length<=bq/\(a == jE)=ak /\ ∃xs,KT H b xs/\h.DictOfH (tJ (gU P w)) a xs:=by
 obtain⟨z,y,xs,r,o,n,s,j,i,g,f,d⟩:=(show cc P w H h a (.dT b)from HS ok e)
 refine⟨z,y,xs,r,o,n,s,j,i,g,f,λx c=>?_,d⟩;have all:∀{l:List (List aK×V)}{m:List (List aK×ae×ai)},KT H l m->∀x∈m,(tJ (gU P w)).is h x.1 x.2.1:=by
  intro l m q
  induction q with
  |nil=>simp
  |@cons p q ps qs hq t ih=>
   intro x c;rcases bZ.mp c with e|c
   .subst e;exact sR ok (by rw[<-hq.1];exact hq.2.1)
   .exact ih x c
 exact all r x c
theorem E6(ok:c9 P w H h)(e:H a=aa (.dT b)):b.length<=bq/\(a == jE)=ak /\ ∃xs,KT H b xs/\h.DictOfH (tJ (gU P w)) a xs:=tm ok (.inl e)
end
def ni(H:Hp)(a:ae)(y:V)(r:Option V):Prop :=(∃c k,Rd H a (.dK c)/\y=kV k/\r=jX c k)\/∃c k b,Rd H a (.dT c)/\y=.ref b/\H b=aa (.tup (k.map kV))/\r=jX c k
def zw(H:Hp)(a:ae)(y v:V)(d:Hp):Prop :=
 (∃c k,H a=aa (.dK c)/\y=kV k/\c.length<bq/\d=upd H a (.dK (fV c k v))) \/
 ∃c k b,H a=aa (.dT c)/\y=.ref b/\H b=aa (.tup (k.map kV))/\c.length<bq/\d=upd H a (.dT (fV c k v))
theorem ni.k{k:aK}(e:H a=aa (.dK kvs)):ni H a (kV k) (jX kvs k):=.inl ⟨kvs,k,.inl e,rfl,rfl⟩
theorem zw.k{k:aK}{v:V}(e:H a=aa (.dK kvs))(b:kvs.length<bq):zw H a (kV k) v (upd H a (.dK (fV kvs k v))):=.inl ⟨kvs,k,e,rfl,b,rfl⟩
theorem zw.t{c:List (List aK×V)}{k:List aK}{v:V}(e:H a=aa (.dT c))(f:H b=aa (.tup (k.map kV)))(d:c.length<bq):zw H a (.ref b) v (upd H a (.dT (fV c k v))):=.inr ⟨c,k,b,e,rfl,f,d,rfl⟩
section
variable{X:Cx}{f:List (ae×Obj)}{d:St}{H:Hp}{s:ao}{a:ae}{y v:V}{u r:ai}{o:Option V}{A:aV}{E:ai->ao->Prop}
theorem Inv.big(I:Inv X f d H s):jE<s.heap.objs.size:=by have h:cb<s.heap.objs.size:=(I.mod.glob.keeps I.bk).lt;exact tP (by decide) h
theorem PJ(B:A.units+1<cLine)(I:Inv X f d H s)(g:ni H a y (aa v))(w:RelV y u)(h:∀j q,Inv X f d H q->RelV v j->Q j q):ar X.zz A (qN (.ref a) u) Q E s:=by
 rcases g with⟨kvs,k,e,ey,l⟩|⟨kvs,k,b,e,ey,eb,l⟩
 .subst ey;obtain⟨z,D,x,i,n⟩:=qC I.hok e;obtain⟨j,m,c⟩:=oZ.some_of (v:=v) (o:=tO x k) (by rw[l];exact i.val k);exact wpAny_getItem_of (tG w) n.mapOf m (h j _ (I.tok _) c)
 .subst ey;cases (show u=Value.ref b from w);obtain⟨z,D,xs,i,n⟩:=tm I.hok e;obtain⟨j,m,c⟩:=oZ.some_of (v:=v) (o:=(atKey xs k).map (·.2)) (by rw[l];exact i.val k);obtain⟨p,C,F⟩:=mF.mp m;refine wpAny_getItem_heap (Db B) (sR I.hok eb) n C ?_;rw[F];exact h j _ (I.tok _) c
theorem UU(p:A.units+1<cLine)(I:Inv X f d H s)(g:ni H a y o)(n:RelV y u)(h:∀m,Inv X f d H m->Q (.bool o.isSome) m):ar X.zz A (eC .In u (.ref a)) Q E s:=by
 rcases g with⟨kvs,k,e,ey,l⟩|⟨kvs,k,b,e,ey,eb,l⟩
 .subst ey;obtain⟨z,i,w,c,j⟩:=qC I.hok e;refine wpAny_in_of (tG n) i j.mapOf ?_;rw[<-(c.val k).isSome_eq,<-l];exact h _ (I.tok _)
 .subst ey;cases (show u=Value.ref b from n);obtain⟨z,i,xs,c,j⟩:=tm I.hok e;refine wpAny_in_heap (Db p) (sR I.hok eb) i j ?_;have q:=(c.val k).isSome_eq;rw[JQ]at q;rw[<-q,<-l];exact h _ (I.tok _)
theorem xL(I:Inv X f d H s)(g:vd (H a))(h:j4 a s.heap h')(i:∃q,h'.get? a=aa q)(new:cc X.prog X.w (upd H a c) h' a c):Inv X f d (upd H a c) {s with heap:=h',toks:=t'} :=I.write (x:=a) (e:=a) g (.inl rfl) (λb q j z=>(h.2 b j).trans z) i new
theorem E7{h':aB}{b:List (aK×V)}{c:List (aK×ai)}(z:b.length<=bq)(h:(a == jE)=ak)(g:KV b c)(i:h'.DictOf (gU P w) a c):cc P w j h' a (.dK b):=⟨z,h,c,g,i⟩
theorem N5{J:Hp}(M:A.units+1<cLine)(I:Inv X f d H s)(g:zw H a y v J)(D:RelV y u)(F:RelV v r)(h:∀C,Inv X f d J C->Q () C):ar X.zz A (setItem (.ref a) u r) Q E s:=by
 rcases g with⟨kvs,k,e,ey,l,eH⟩|⟨kvs,k,b,e,ey,eb,l,eH⟩
 .subst ey eH;obtain⟨z,x,L,i,B⟩:=B0 I.hok e;have n:L.length<=bq:=by rw[<-i.length];exact z
  have w:(fV kvs k v).length<=bq:=by have:=CP kvs k v;ac_rfl
  refine wpAny_setItem_pairs (hsz:=n) (tG D) B λG j p=>h _ ?_;have N:∃q,G.get? a=aa q:=let ⟨q,_,_,m,_⟩:=j;⟨q,m⟩
  exact xL I (by rw[e];trivial) p N (E7 w x (i.put k F) j)
 .subst ey eH;cases (show u=Value.ref b from D);obtain⟨z,x,xs,i,B⟩:=E6 I.hok e;have n:xs.length<=bq:=by rw[<-qE i];exact z
  have w:(fV kvs k v).length<=bq:=by have:=CP kvs k v;ac_rfl
  refine wpAny_setItem_heap (hsz:=n) (Db M) (sR I.hok eb) B λG j p=>h _ ?_;obtain⟨q,W,Y,m,T,S,P,_,O⟩:=j;refine xL I (by rw[e];trivial) p ⟨q,m⟩ ⟨w,x,_,(i.put k eb F).keeps λc ys Z=>?_,q,W,Y,m,T,S,P,O⟩;rw[a6 (xI Z e (λz=>nomatch z))];trivial
end
section
variable{X:Cx}{d:List (ae×Obj)}{c:St}{H:Hp}{s:ao}{a:ae}{b:List (aK×V)}{k:aK}{u:ai}{A:aV}{E:ai->ao->Prop}
theorem TH(I:Inv X d c H s)(e:Rd H a (.dK b))(h:∀t g,Inv X d c H g->Q (.int b.length t) g):ar X.zz A (call (.builtin "len") [.ref a]) Q E s:=by obtain⟨z,i,l,f,j⟩:=qC I.hok e;refine call_len_dict i j (by rw[<-f.length];rw[C4]at z;lia) ?_;rw[<-f.length];exact h _ _ (I.tok _)
end
def BH(i:aC):Prop:=∀a b,C_ i ak a b=operate [a,b] (qN a b)
theorem Uz{E:ai->ao->Prop}{s:ao}{m:Env}{c b:aC}{q:Pos}{T v:String}{Q:ai->ao->Prop}(z:typeLookup (.type T) "__getitem__"=pure (aa (.builtin v))) (y:BH b)(h:ar (aw a w) A (a8 c m) (λo j=>ar (aw a w) A (a8 b m) (λi d=>d.TypeIs o T/\ar (aw a w) A (qN o i) Q E d) E j) E s):ar (aw a w) A (a8 (.Subscript c b q) m) Q E s:=by
 refine Subscript_ (ff h (λo j p=>ff p (λi d f=>?_) λ_ _ x=>x) λ_ _ x=>x);obtain⟨u,f⟩:=f;unfold subscriptTail;refine aq ?_;rw[getitemInPython_of_ne u.not_modules];refine aq (wq u z ?_);have l:ar (aw a w) A (C_ b ak o i) (λr g=>ar (aw a w) A (letTemporaryGo c o r >>= λ_=>pure r) Q E g) E d:=by rw[y o i];exact wpAny_operating (ff f (λr g n=>aq (wpAny_letTemporaryGo (aE n))) λ_ _ x=>x)
 first
  |exact aE (aq l)
  |exact aq (aE (aq l))
  |exact aq l
theorem Pq{H:Hp}{s:ao}{a:ae}{y:V}{o:Option V}(I:Inv X f d H s)(g:ni H a y o):s.TypeIs (.ref a) "dict":=by
 rcases g with⟨kvs,k,e,_,_⟩|⟨kvs,k,b,e,_,_,_⟩
 .obtain⟨_,_,h,_,c⟩:=qC I.hok e;exact c.typeIs
 .obtain⟨_,_,xs,_,c⟩:=tm I.hok e;exact c.typeIs
noncomputable def NB(d ty:TE):TE:=λb H Q=>d b H λx f=>ty b f λy c=>∃a v,x=.ref a/\ni c a y (aa v)/\Q v c
noncomputable def Ut(ty d:TE):TE:=λb H Q=>ty b H λy f=>d b f λx c=>∃a o,x=.ref a/\ni c a y o/\Q (.bl o.isSome) c
noncomputable def Nr(f ty d:TE):TS:=λD b H=>d b H λv i=>f b i λx h=>ty b h λy g=>∃a c,x=.ref a/\zw g a y v c/\D.nx b c
section
variable{X:Cx}{o i e b:aC}{d c l:Pos}{f ty j:TE}
theorem Lc(C:X.A.units+1<cLine)(E:PE X o f)(F:PE X i ty)(D:BH i):PE X (.Subscript o i d) (NB f ty):=by intro p s n H Q I h;refine Uz PySem.F.slot_dict_getitem.lookup D (aT (E p s n H _ I h) λu r ⟨x,N,L,z,B⟩=>aT (F p r n N _ L B) λT S ⟨y,M,q,w,a,v,G,g,A⟩=>?_);subst G;obtain rfl:u=Value.ref a:=z;exact⟨Pq q g,PJ C q g w λO P J m=>⟨v,M,J,m,A⟩⟩
theorem P9(A:X.A.units+1<cLine)(C:PE X i ty)(B:PE X o f):PC X .In i o (Ut ty f):=by intro n s m H Q I h;refine aT (C n s m H _ I h) λO p ⟨y,L,G,q,w⟩=>aT (B n p m L _ G w) λu N ⟨x,J,F,r,a,z,D,g,v⟩=>?_;subst D;obtain rfl:u=Value.ref a:=r;exact UU A F g q λM E=>⟨.bl z.isSome,J,E,rfl,v⟩
theorem Fw(G:X.A.units+1<cLine)(L:PE X o f)(M:PE X i ty)(F:PE X b j)(J:jg b (aa (.Subscript o i c)) d.line X.env=pure ak):PS X (.Assign [.Subscript o i c] b d) (Nr f ty j):=by intro n s m H D I h;refine wpAny_Assign_Subscript (aT (F n s m H _ I h) λr q ⟨v,Y,S,A,E⟩=>aT (L n q m Y _ S E) λu p ⟨x,W,Q,z,C⟩=>aT (M n p m W _ Q C) λiv s3 ⟨y,H3,P,w,a,T,N,g,B⟩=>?_) J;subst N;obtain rfl:u=Value.ref a:=z;exact N5 G P g w A λZ O=>⟨m,T,O,B⟩
end
theorem F_(h:aB)(a:jE<h.objs.size):cc P w H (h.push {cls:=.type "dict",data:=.dict #[]}) h.objs.size (.dK []) :=⟨jG _,beq_eq_false_iff_ne.mpr (c0 (dq a)),[],.nil,Heap.DictOf.new h⟩
theorem G3(h:aB)(a:jE<h.objs.size):cc P w H (h.push {cls:=.type "dict",data:=.dict #[]}) h.objs.size (.dT []) :=⟨jG _,beq_eq_false_iff_ne.mpr (c0 (dq a)),[],.nil,_,#[],0,cP _ rfl,⟨rfl,rfl,rfl⟩,rfl,rfl,tQ⟩
def Rx:TE:=λ_ H Q=>∀p,H p=af->Q (.ref p) (upd H p (.dK []))
def O5:TE:=λ_ H Q=>∀p,H p=af->Q (.ref p) (upd H p (.dT []))
section
variable{X:Cx}{b:Pos}
theorem NU:PE X (.Dict [] [] b) Rx:=λd s c H Q I h=>wpAny_Dict_empty ⟨.ref s.heap.objs.size,_,I.laid (a:=s.heap.objs.size) (o:=.dK []) (t':=s.toks) (λ_ _ q=>bL _ q) (bn _) (F_ s.heap I.big),rfl,h _ (I.hok.fresh (bn _))⟩
theorem Ub:PE X (.Dict [] [] b) O5:=λd s c H Q I h=>wpAny_Dict_empty ⟨.ref s.heap.objs.size,_,I.laid (a:=s.heap.objs.size) (o:=.dT []) (t':=s.toks) (λ_ _ q=>bL _ q) (bn _) (G3 s.heap I.big),rfl,h _ (I.hok.fresh (bn _))⟩
end
def yr:List (TE×TE)->St->Hp->(List (V×V)->Hp->Prop)->Prop
 |[],_,H,Q=>Q [] H
 | (c,b)::r,a,H,Q=>c a H λx h=>b a h λy g=>yr r a g λd f=>Q ((x,y)::d) f
abbrev VV:List (V×V)->List (ai×ai)->Prop:=eT λp q=>RelV p.1 q.1/\RelV p.2 q.2
def sS(X:Cx)(d:Pos)(keys:List (Option aC))(a:List aC)(c:List (TE×TE)):Prop :=
 ∀(g:List (ae×Obj)) (s:ao) (b:St) (H:Hp) (Q:List (V×V)->Hp->Prop),Inv X g b H s->yr c b H Q ->
  ar X.zz X.A (evalPairs (pairTrees keys a X.env d)) (λi j=>∃f h,Inv X g b h j/\VV f i/\Q f h) X.xe s
theorem IC:sS X a [] [] []:=λc s b H Q I h=>pairTrees_nil_walk ⟨[],H,I,.nil,h⟩
theorem G5{v:aC}{ks:List (Option aC)}{g:List aC}{j i:TE}{a:List (TE×TE)}(B:PE X k j)(z:PE X v i)(A:sS X b ks g a):sS X b (aa k::ks) (v::g) ((j,i)::a):=λf s c H Q I h=>pairTrees_cons_walk (aT (B f s c H _ I h) λu m ⟨x,J,E,o,r⟩=>aT (z f m c J _ E r) λM l ⟨y,G,D,n,q⟩=>aT (A f l c G _ D q) λL N ⟨w,F,C,d,p⟩=>⟨(x,y)::w,F,C,.cons ⟨o,n⟩ d,p⟩)
def tF(a more:List (aK×V)):List (aK×V):=more.foldl (λc b=>fV c b.1 b.2) a
theorem KV.merge:∀{more:List (aK×V)}{c:List (aK×ai)}{a:List (aK×V)}{b:List (aK×ai)},KV more c->KV a b->KV (tF a more) (merged b c):=by
 intro more c a b r;unfold KV at r
 induction r generalizing a b with
 |nil=>intro q;exact q
 |@cons p q ps qs h t ih=>
  intro d;have e:KV (fV a p.1 p.2) (stored b q.1 q.2):=by have:=d.put p.1 h.2;rw[<-h.1];trivial
  exact ih e
theorem HR:∀(more a:List (aK×V)),(tF a more).length<=a.length+more.length
 |[],a=>by show a.length<=a.length+0;simp
 |p::r,a=>by
  have c:=HR r (fV a p.1 p.2);have b:=CP a p.1 p.2;show(tF (fV a p.1 p.2) r).length<=_
  grind
theorem Ff:∀{d:List (aK×V)}{g:List (ai×ai)},VV (d.map λi=>(kV i.1,i.2)) g->∃f,Carries (gU P w) g f/\KV d f
 |[],_,r=>by rw[zG]at r;cases r;exact⟨[],True.intro,.nil⟩
 |p::d,_,r=>by
  rw[cp]at r;cases r with
  |@cons a b as bs h t=>obtain⟨f,c,q⟩:=Ff (P:=P) (w:=w) t;obtain⟨b1,b2⟩:=b;exact⟨(p.1,b2)::f,⟨tG h.1,rfl,c⟩,.cons ⟨rfl,h.2⟩ q⟩
def UM(b:List (TE×TE)):TE:=λf H Q=>∀p,H p=af->yr b f (upd H p (.dK [])) λg d=>d p=aa (.dK [])/\∃a:List (aK×V),g=a.map (λc=>(kV c.1,c.2))/\a.length<=15/\Q (.ref p) (upd d p (.dK (tF [] a)))
theorem Mq{b:List aC}{d:List (TE×TE)}(h:sS X f keys b d)(L:keys.all (·.isSome)=ah)(C:keys.length=b.length)(G:keys≠[])(l:keys.length<=15):PE X (.Dict keys b f) (UM d):=by
 intro N s n H Q I q;have B:=I.hok.fresh (bn s.heap.objs.size);have O:=I.laid (a:=s.heap.objs.size) (o:=.dK []) (h':=s.heap.push {cls:=.type "dict",data:=.dict #[]}) (t':=s.toks) (λ_ _ q=>bL _ q) (bn _) (F_ s.heap I.big);refine wpAny_Dict_walk (knd:=gU X.prog X.w) L C G l (aT (h N _ n _ _ O (q _ B)) λS T ⟨W,Z,m,j,e,g,J,Y,x⟩=>?_);subst J;obtain⟨r,c,u⟩:=Ff (P:=X.prog) (w:=X.w) j;obtain⟨z,E,p,v,M⟩:=B0 m.hok e;cases v;refine⟨r,c,M,λh' i A=>⟨.ref s.heap.objs.size,_,?_,rfl,x⟩⟩;have y:(tF [] g).length<=bq:=by have F:=HR g [];rw[tR]at F;rw[C4];lia
 have D:∃q,h'.get? s.heap.objs.size=aa q:=let ⟨q,_,_,hq,_⟩:=i;⟨q,hq⟩
 exact xL m (by rw[e];trivial) A D (E7 y E (u.merge .nil) i)
structure M2(X:Cx)(o:aC)(m:Str)(apos:Pos)(e f:aC)(cpos:Pos):Prop where
 base:nQ o m X.env (a8 o X.env)=a8 o X.env
 few:((dr cpos (aX [e,f] X.env)).all (λx=>!x.1)&&(qP cpos (qQ [] X.env)).all (λx=>x.1.isSome)&&decide (([e,f]:List aC).length+([]:List jF).length+(if([]:List jF).isEmpty then 0 else 1)<30))=ah
 line:(apos.endLine == cpos.line)=ah
 trees:dr cpos (aX [e,f] X.env)=[(ak,a8 e X.env),(ak,a8 f X.env)]
def FC(H:Hp)(a:ae):Prop:=(∃b,Rd H a (.dK b))\/∃b,Rd H a (.dT b)
theorem Q2{H:Hp}{s:ao}{a:ae}(I:Inv X l j H s)(d:FC H a):s.TypeIs (.ref a) "dict"/\(∀b,Value.ref a=.ref b->∃c,s.heap.get? b=aa c/\c.dict=af)/\(a == jE)=ak:=by
 rcases d with⟨kvs,e⟩|⟨kvs,e⟩
 .obtain⟨_,g,m,_,f⟩:=qC I.hok e;refine⟨f.typeIs,λb q=>?_,g⟩;cases q;obtain⟨c,_,_,i,h,_⟩:=f;exact⟨c,i,h.2.1⟩
 .obtain⟨_,g,xs,_,f⟩:=tm I.hok e;refine⟨f.typeIs,λb q=>?_,g⟩;cases q;obtain⟨c,_,_,i,h,_⟩:=f;exact⟨c,i,h.2.1⟩
section
variable{X:Cx}{f:List (ae×Obj)}{c:St}{H:Hp}{s:ao}{a:ae}{y d:V}{u r:ai}{o:Option V}{A:aV}{E:ai->ao->Prop}
theorem Nj(v:A.units+1<cLine)(I:Inv X f c H s)(g:ni H a y o)(q:RelV y u)(rd:RelV d r)(h:∀n p,Inv X f c H p->RelV (o.getD d) n->Q n p):ar X.zz A (call (.builtin "dict.get") [.ref a,u,r]) Q E s:=by
 rcases g with⟨kvs,k,e,ey,l⟩|⟨kvs,k,b,e,ey,eb,l⟩
 .subst ey;obtain⟨z,m,w,i,j⟩:=qC I.hok e;refine call_meetsIn JR j.typeIs PySem.F.entry_dict_get (PySem.F.args_dict_get_3 _ _ _) (meets_dict_get_default (gU X.prog X.w) a (tG q) m r) ⟨_,j.mapOf,h _ _ (I.tok _) ?_⟩;rw[l];exact(i.val k).getD rd
 .subst ey;cases (show u=Value.ref b from q);obtain⟨z,m,xs,i,j⟩:=tm I.hok e;refine call_meetsIn JR j.typeIs PySem.F.entry_dict_get (PySem.F.args_dict_get_3 _ _ _) (meetsH_dict_get_default (tJ (gU X.prog X.w)) a b m r) ⟨Db v,k,xs,sR I.hok eb,j,h _ _ (I.tok _) ?_⟩;rw[l];exact(i.val k).getD rd
end
def SD(g ty f:TE):TE:=λb H Q=>g b H λx d=>∃a,x=.ref a/\FC d a/\ty b d λy h=>f b h λz c=>∃o,ni c a y o/\Q (o.getD z) c
section
variable{X:Cx}{o e f:aC}{c b:Pos}{j ty i:TE}
theorem N2(J:X.A.units+1<cLine)(L:PE X o j)(N:PE X e ty)(M:PE X f i)(m:M2 X o "get" c e f b):PE X (.Call (.Attribute o "get" c) [e,f] [] b) (SD j ty i):=by intro p s l H Q I h;refine wpAny_Call_method m.base m.few m.line PySem.F.plainAttrs_dict JR PySem.F.type_dict_get (aT (L p s l H _ I h) λu A ⟨x,Z,q,D,a,O,d,G⟩=>?_);subst O;obtain rfl:u=Value.ref a:=D;obtain⟨v,r,_⟩:=Q2 q d;refine⟨v,r,?_⟩;rw[m.trees];refine JO rfl (Da (C5 (aT (N p A l Z _ q G) λiv w ⟨y,Y,T,C,F⟩=>C5 (aT (M p w l Y _ T F) λfv s3 ⟨z,W,S,B,ov,g,E⟩=>JD ?_))));exact Nj J S g C B λw' s4 P n=>⟨_,W,P,n,E⟩
end
end L2
namespace Att
open PySem PySem.W PySem.Calls PyProof.Rows
theorem TJ:∀(c:List Int) (d:List ai),WellAll P h d (c.map WData.int)->IntsAre d c:=by
 intro c
 induction c with
 |nil=>
  intro d w;rw[zG]at w;cases w;exact .nil
 |cons n c f=>
  intro d w;rw[cp]at w;cases w with
  |cons a b=>
   cases a;exact .cons _ _ (f _ b)
theorem UQ{l:OpenLaw}(u:l.most=aa n)(j:l.row.toRowW.claim.pre args=ah) (f:WellAll P h b args):∃a m c,b=[Value.ref a]/\args=[WData.list (c.map WData.int)]/\h.get? a=aa {cls:=.type "list",data:=.seq m.toArray}/\IntsAre m c/\c.length<=n:=by
 have g:WShape.hasAll [] args [.list .int]=ah:=(pre_splitW j).1;have o:l.pre.holds [] {args:=args}=ah:=(pre_splitW j).2;obtain⟨d,r,rfl,x,w⟩:=hasAllW_cons g;obtain rfl:=hasAllW_nil w;obtain⟨xs,rfl,v⟩:=hasW_list x;obtain⟨c,rfl⟩:=items_int v;have z:c.length<=n:=by
  unfold OpenLaw.pre at o;have i:(WTm.not (.lt (.lit (.int (n:Int))) (.len (.arg 0)))).holds [] {args:=[.list (c.map .int)]}=ah:=by have i:=(holds_andW o).1;rw[u]at i;trivial
  have A:=condW_of i (w_not (w_lt w_lit (w_len_list (w_arg rfl))));simp_all
 cases f with
 |cons q p=>
  cases p;cases q with
  |list s y=>exact⟨_,_,c,rfl,rfl,s,TJ c _ y,z⟩
theorem QQ(l:OpenLaw)(args:List WData):l.row.toRowW.claim.post args (.bool ah) args=ah :=
 postW_of (r:=l.row.toRowW) (X:=(ah == ah))
  (show WShape.has [] (.bool ah) .bool=ah by rfl)
  (show(WTm.eq .res (.lit (.bool ah))).value [] {args:=args,res:=aa (.bool ah),after:=args}=aa (.bool (ah == ah))from w_eq_bool (w_res rfl) w_lit) rfl
theorem attach_call{l:OpenLaw}{d:DefRec}(M:l.most=aa n) (H:d.params.defaults=[])(call:∀(w:aI) (c b:ao) (s x:Str->Option ai) (j:ae) (o:Obj) (v u h:ai) (a:ae) (i:List ai) (p:List Int),Ground q g [] XP w c s x b.heap->D w b.heap -> b.heap.get? j=aa o->o.data=.func (docDef d.name d.params d.body d.scope v u h)->b.heap.CodeRec u d.name->s d.name=aa (.ref j) -> b.heap.get? a=aa {cls:=.type "list",data:=.seq i.toArray}->IntsAre i p->p.length<=n->b.gens=#[] -> mD (aw l.prog w) tT (.call (.ref j) ⟨[.ref a],[]⟩) (λr m=>r=.ok (.ret (.bool ah))/\OldK b.heap m.heap/\m.os=b.os/\nK m.gens) b):WalkO q g XP D l.row.toRowW d [] (λf i=>PySem.call f i):=by intro w c b s x G Y j o v u h dV kV L Q Z B E P C z as F A I y O;obtain rfl:dV=.none:=Dflts.none B H;obtain rfl:kV=.none:=Dflts.noKw B;obtain⟨a,i,p,rfl,rfl,El,Eg,X⟩:=UQ M F y;refine enter_call (qL (call w c b s x j o v u h a i p G Y L (fd_plain Q) Z E El Eg X P) λr m J=>?_);obtain⟨rfl,W,T,S⟩:=J;exact⟨.inl ⟨.bool ah,.bool ah,[],rfl,λ_=>rfl,.bool ah,QQ l _,λ_=>⟨List.Pairwise.nil,λ_ N=>(nomatch N)⟩⟩,W,T,S⟩
end Att
namespace L2
theorem LH{a:List ai}{b:List Int}(h:IntsAre a b):bC (b.map V.int) a:=by
 induction h with
 |nil=>exact .nil
 |cons n t _ g=>exact .cons ⟨t,rfl⟩ g
def Co(H:Hp):Prop:=∀b,H b=af\/(∃o xs,H b=aa (.frz o (.lst xs)))\/∃q,H b=aa (.tbl q)
noncomputable def kh(K:ax):Hp:=λb=>match qH K "least_ending" with
 |some (_,P)=>if b=P then aa (.tbl "least_ending.<locals>.<lambda>")else af
 |none=>af
theorem p_{K:ax}(h:kh K b=aa u):u=.tbl "least_ending.<locals>.<lambda>"/\∃c,qH K "least_ending"=aa (c,b):=by
 unfold kh at h
 grind
theorem FG{K:ax}(h:qH K "least_ending"=aa (c,P)):kh K P=aa (.tbl "least_ending.<locals>.<lambda>"):=by unfold kh;rw[h];exact if_pos rfl
noncomputable def Fb(K:ax)(h:aB):Prop:=∀c P,qH K "least_ending"=aa (c,P)->PySem.W.codeHdIn K c P=ah/\K.lookup P=af/\h.get? P=aa {cls:=.none,data:=.fields #[]}
theorem QF{K:ax}{J:Str->Option ai}{k:Nat}{fd:g7}{x:Str}{sp:Sp}{f:ao}{I:List ai}{L:List Int}(KX:K.In f.heap) (ug:f.heap.Ns cb J) (i:f.heap.Ns qG mb) (rn:∀x:Str,x≠"__name__"->mb x=fu x) (N:f.heap.NoLimit) (mV:∃D B,J "__builtins__"=aa (.ref D)/\D≠qG/\f.heap.get? D=aa B/\B.cls=.type "module"/\B.dict=aa qG/\B.data=.plain) (A:Fb K f.heap) (hg:f.gens=#[])(G:f.heap.get? a=aa {cls:=.type "list",data:=.seq I.toArray}) (hi:IntsAre I L) (hl:L.length<=bq) (hr:fP k tT)(F:∀p:aB,K.In p->p.Ns cb J->lv P w K J p CX k fa fd [x] sp) (Vt:∀(s:ao) (u:ai),BindsTo s fd ⟨[u],[]⟩ [(x,u)])(gL:∀H:Hp,Co H->cA K H a (L.map V.int)->sp [.ref a] H (λv _=>v=.bl ah) λ_ _ _=>False)(hCX:∀H e l,CX [] H f (λ_ _ _=>False) e l->False):mD (aw P w) tT (.call (.ref fa) ⟨[.ref a],[]⟩) (λr l=>r=.ok (.ret (.bool ah))/\OldK f.heap l.heap/\l.os=f.os/\nK l.gens) f:=by
 have rv:=LH hi;have M:=hi.length;have C:∀H:Hp,Co H->cA K H a (L.map V.int)->c9 P w H f.heap->(∀b,H b≠af->b=a\/∃c,qH K "least_ending"=aa (c,b))->(H a≠af->K.lookup a=af)->xF K H ->
   mD (aw P w) tT (.call (.ref fa) ⟨[.ref a],[]⟩) (λr l=>r=.ok (.ret (.bool ah))/\OldK f.heap l.heap/\l.os=f.os/\nK l.gens) f:=by
  intro H hO hS E T hK hTH;have g:∀{b:ae}{o:Obj},f.heap.get? b=aa o->H b=af->(nt f.heap H).get? b=aa o:=λe n=>Pt e n;have noA:∀{b:ae}{o:Obj}{W:Array tU}{X:Nat},f.heap.get? b=aa o->o.data=.dict W X->H b=af:=λ{b o W X} e d=>by
   cases q:H b with
   |none=>rfl
   |some u=>
    rcases T b (by rw[q];simp)with j|⟨c,j⟩
    .lia
    .rw[(A c b j).2.2]at e;lia
  have y:∀{b:ae}{m:Str->Option ai},f.heap.Ns b m->(nt f.heap H).Ns b m:=λ{b m} ⟨o,W,X,e,d,r⟩=>⟨o,W,X,g e (noA e d),d,r⟩
  have O:K.In (nt f.heap H):=λb o e=>g (KX b o e) (by
   cases q:H b with
   |none=>rfl
   |some u=>
    rcases T b (by rw[q];simp)with j|⟨c,j⟩
    .lia
    .rw[(A c b j).2.1]at e;cases e)
  have hM:Mod K J (nt f.heap H):=⟨O,y ug,⟨mb,y i,rn⟩,(let ⟨mc,h1,h2⟩:=N;⟨mc,y h1,h2⟩),by
   obtain⟨D,B,b1,b2,b3,b4,b5,b6⟩:=mV;refine⟨D,B,b1,b2,g b3 ?_,b4,b5,b6⟩;cases q:H D with
   |none=>rfl
   |some u=>
    rcases T D (by rw[q];simp)with j|⟨c,j⟩
    .lia
    .rw[(A c D j).2.2]at b3;lia⟩
  have e0:sj P w K J (nt f.heap H) tT [] f H:=⟨rfl,hM,λb o e=>Vb e,tW (K8 _ _),trivial,λb i=>absurd (show b∈([]:List ae)from i) (by simp),E,.of_eq hg,hTH⟩
  refine qL ((F _ O (y ug)).run tT [] f H ⟨[.ref a],[]⟩ [.ref a] [.ref a] _ _ hr e0 (Vt f (.ref a)) (.cons rfl .nil) (gL H hO hS)) λr l h=>?_;cases r with
  |error e=>exact(hCX H e l h).elim
  |ok fl=>
   cases fl with
   |next=>trivial
   |brk=>trivial
   |cont=>trivial
   |ret u=>
    obtain⟨v,H',os,S,un,KM,r',q⟩:=h;have q':v=.bl ah:=q;subst q';obtain rfl:u=Value.bool ah:=r';refine⟨rfl,⟨λb o e=>?_,λb o e=>un.there b o e (by simp)⟩,os,S⟩;cases q:H b with
    |none=>exact .inl (un.keep b o e q (by intro z;trivial) (by simp))
    |some u=>
     rcases hO b with z|⟨B,xs,z⟩|⟨qn,z⟩
     .lia
     .have z2:=un.frzs b B _ z;obtain⟨Q,_⟩:=E b _ z;obtain⟨e2,_⟩:=KM b _ z2;rw[e]at Q;cases Q;exact .inl e2
     .rcases T b (by rw[q];simp)with j|⟨c,j⟩
      .subst j;obtain⟨ps,Q,_⟩:=E b _ z;lia
      .obtain⟨k1,k2,k3⟩:=A c b j;rw[k3]at e;cases e;obtain⟨oc,Y,_,_,_,_,_,_,_,f1,f2,f3,f4,_⟩:=PySem.W.codeHd_of_K KX k1;obtain⟨ps,Q,_⟩:=KM b _ (un.tbls b _ z).1;exact .inr (.inl ⟨⟨c,oc,Y,f1,f2,f3,f4⟩,rfl,#[],ps,rfl,by rw[Q];simp⟩)
 cases hk:K.lookup a with
 |some o=>
  have e:=KX a o hk;rw[G]at e;cases e;have tH:∀b u,kh K b=aa u->cc P w (kh K) f.heap b u:=λb u z=>by
   obtain⟨rfl,c,e⟩:=p_ z;exact⟨#[],(A c b e).2.2,trivial,λZ cv h=>by cases h⟩
  refine C (kh K) (λb=>?_) (.inr ⟨_,I.toArray,_,hk,rfl,rfl,rfl,by rw[gi,M];trivial,by trivial⟩) tH (λb z=>?_) (λz=>?_) λx hx c P e=>?_
  .cases q:kh K b with
   |none=>exact .inl rfl
   |some u=>exact .inr (.inr ⟨_,congrArg aa (p_ q).1⟩)
  .cases q:kh K b with
   |none=>trivial
   |some u=>exact .inr (p_ q).2
  .cases q:kh K a with
   |none=>trivial
   |some u=>
    obtain⟨_,c,j⟩:=p_ q;rw[(A c a j).2.2]at G;cases G
  .obtain rfl:x = "least_ending":=by simpa[CK]using hx
   exact FG e
 |none=>
  have ta:∀c P,qH K "least_ending"=aa (c,P)->P≠a:=λc P e z=>by subst z;rw[(A c P e).2.2]at G;cases G
  refine C (λb=>if b=a then aa (.frz {cls:=.type "list",data:=.seq I.toArray} (.lst (L.map V.int)))else kh K b) (λb=>?_) (.inl (.inr ⟨{cls:=.type "list",data:=.seq I.toArray},if_pos rfl⟩)) (λb u z=>?_) (λb z=>?_) (λ_=>hk) λx hx c P e=>?_
  .by_cases i:b=a
   .exact .inr (.inl ⟨_,_,if_pos i⟩)
   .cases q:kh K b with
    |none=>exact .inl ((if_neg i).trans q)
    |some u=>exact .inr (.inr ⟨_,(if_neg i).trans (q.trans (congrArg aa (p_ q).1))⟩)
  .by_cases i:b=a
   .have z':=(if_pos i).symm.trans z;cases z';subst i;exact⟨G,by rw[cG];trivial,I,_,rv,G⟩
   .obtain⟨rfl,c,e⟩:=p_ ((if_neg i).symm.trans z);exact⟨#[],(A c b e).2.2,trivial,λZ cv h=>by cases h⟩
  .by_cases i:b=a
   .exact .inl i
   .cases q:kh K b with
    |none=>exact absurd ((if_neg i).trans q) z
    |some u=>exact .inr (p_ q).2
  .obtain rfl:x = "least_ending":=by simpa[CK]using hx
   exact(if_neg (ta c P e)).trans (FG e)
theorem V8{l:Dc}{XP:(Str->Option ai)->aB->Prop}{E:aI->aB->Prop}{d:DefRec}{K:Params->ax}{CX:aI->gx}{sp:aI->Sp}{x:Str}(N:l.most=aa n) (r:n<=bq) (L:d.params.defaults=[]) (M:fP k tT)(C:∀(w:aI) (h:aB),E w h->(K w.params).In h/\Fb (K w.params) h)(F:∀(w:aI) (g:Str->Option ai) (m:ae) (h:aB),(K w.params).In h->h.Ns cb g->g d.name=aa (.ref m) -> ∃z:g7,(∀(s:ao) (u:ai),BindsTo s z ⟨[u],[]⟩ [(x,u)]) /\ ∀b:aB,(K w.params).In b->b.Ns cb g->lv l.prog w (K w.params) g b (CX w) k m z [x] (sp w))(W:∀(w:aI) (H:Hp) (a:ae) (j:List Int),j.length<=n->Co H->cA (K w.params) H a (j.map V.int)->sp w [.ref a] H (λv _=>v=.bl ah) λ_ _ _=>False)(y:∀(w:aI) (H:Hp) (s:ao) (e:ai) (p:ao),CX w [] H s (λ_ _ _=>False) e p->False):PySem.W.WalkO q c XP E l.row.toRowW d [] (λf A=>PySem.call f A):=by refine Att.attach_call N L λw B i g mb m o pm cd X a A j G Y ho hd bt J Z Eg D O=>?_;have I:=(C w _ Y).1;obtain⟨z,P,T⟩:=F w g m _ I G.T.g J;exact QF I G.T.g G.T.b G.T.builtins G.T.nolimit G.T.bmain (C w _ Y).2 O Z Eg (cV D r) M T P (λH S Q=>W w H a j D S Q) λH e p=>y w H i e p
noncomputable def jV(s:bf):Arguments:=match s with
 |.FunctionDef _ a _ _ _ _ _ _ _ _=>a
 |_=>{posonlyargs:=[],args:=[],vararg:=af,kwonlyargs:=[],kw_defaults:=[],kwarg:=af,defaults:=[]}
def fW(s:bf):List bf:=match s with
 |.FunctionDef _ _ b _ _ _ _ _ _ _=>b
 |_=>[]
noncomputable def bp(s:bf):dP:=match s with
 |.FunctionDef _ _ _ _ _ _ a _ _ _=>a
 |_=>{kind:=.function,names:=[],isGenerator:=ak,isCoroutine:=ak}
abbrev Be:gx:=λ_ _ _ _ _ _=>False
abbrev E0:XK:=λ_ _ _=>False
inductive SJ(K:ax)(x qual:Str)(st:bf)(f:ae)(fd:g7):Prop
 |mk (oc:ai) (od:Option ae) (kV doc pm:ai) (an:Option ae) (aQ ct:ai) (osl:Array (Option ai)) (z0:fd=iK x qual (jV st) (fW st) (bp st) .none kV doc pm an aQ ct) (z1:K.lookup f=aa ⟨oc,od,.func fd,osl⟩) (z2:wl K aQ qual=ah)
structure pV(K:ax)(x qual:Str)(st:bf)(f:ae)(fd:g7):Prop where
 ex:SJ K x qual st f fd
 kp:qM K (.ref f)=ah
section
variable{P:aP}{w:aI}{K:ax}{b:Str->Option ai}{a:aB}
theorem pV.binds{g:bf}{p:g7}{j:List Str}(F:pV K x c g f p)(h:∀(kV d l:ai) (n:Option ae) (o m:ai) (i:List ai),i.length=j.length->gn (iK x c (jV g) (fW g) (bp g) .none kV d l n o m) ⟨i,[]⟩=pure (j.zip i)):Binds K p j []:=by obtain⟨oc,r,kV,d,l,n,o,m,q,rfl,s,u⟩:=F.ex;exact .all (h kV d l n o m)
theorem H_{g:bf}{oc:ai}{p o:Option ae}{i:Array (Option ai)}{kV h m j n:ai}(l:K.lookup f=aa ⟨oc,p,.func (iK x d (jV g) (fW g) (bp g) .none kV h m o j n),i⟩)(c:wl K j d=ah) (k:qM K (.ref f)=ah):pV K x d g f (iK x d (jV g) (fW g) (bp g) .none kV h m o j n):=⟨⟨oc,p,kV,h,m,o,j,n,i,rfl,l,c⟩,k⟩
end
theorem HL(h:n<=1000):n<bq:=zH h (by decide)
section
variable{X:Cx}
theorem pv(i:Nat)(d:(X.N[i]?=aa x)^0)(b:d8 X.env.scope x^2)(c:av x^1)(f:a4 x^1):PE X (.Name x a) (IA i):=eY d b c f
theorem NP:eF X (.builtin "len") (λxs H Q=>∃a b,xs=[V.ref a]/\H a=aa (.dK b)/\Q (.int b.length) H):=by
 intro l s g H xs i Q I r h;obtain⟨a,b,rfl,d,q⟩:=h;obtain⟨u,rfl,c⟩:=vals1 r;cases c;exact TH I (.inl d) λt j f=>⟨.int b.length,H,f,⟨t,rfl⟩,q⟩
end
theorem nj{B:Prop}(h:B):if ak=ah then A else B:=∅
theorem nB{B:Prop}(h:A):if ah=ah then A else B:=∅
def Same(H a:Hp):Prop:=∀b o,H b=aa o->a b=aa o
theorem Same.refl(H:Hp):Same H H:=λ_ _ h=>h
theorem Same.trans(a:Same H f)(b:Same f d):Same H d:=λc o h=>b c o (a c o h)
theorem Same.free(e:Same H a)(h:a l=Option.none):H l=Option.none:=by
 cases q:H l with
 |none=>rfl
 |some o=>
  rw[e l o q]at h;cases h
end L2
set_option maxHeartbeats 4000000
namespace L2
inductive Uh(Y:Cx)(k:Nat)(tl:St)(tn:Nat->aB->Prop)(fp:List ae)(W:Nat->Nat->List V->Hp->Prop)(n:Nat)(s:ao):Prop
 |mk (i:Nat) (ys:List V) (σ:St) (H:Hp) (pre:St) (hp:pre.length=k+1) (e:σ=pre++tl) (I:Inv Y [] σ H s) (t:tn i s.heap) (f:∀b∈fp,H b=af) (w:W i n ys H)
noncomputable def ix(a:Env):List (Str×g8)->List (Str×ae)->List (Str×ae)
 |[],b=>b
 | (n,k)::r,b=>if k == .free then ix a r ((n,(a.cells.lookup n).getD 0)::b)else ix a r b
theorem T0{d:Env}(b:List (Str×g8))(f:List (Str×ae))(l:∀x∈b,x.2=.free->∃c,d.cells.lookup x.1=aa c)(h:(ix d b f).lookup y=aa c):f.lookup y=aa c\/d.cells.lookup y=aa c:=by
 induction b generalizing f with
 |nil=>exact .inl h
 |cons a r i=>
  obtain⟨n,k⟩:=a;unfold ix at h;have j:∀x∈r,x.2=.free->∃c,d.cells.lookup x.1=aa c:=λx m=>l x (gZ _ m);split at h
  .rename_i o;obtain⟨s,g⟩:=l (n,k) (j3 ..) (~~~o);rcases i _ j h with q|q
   .rw[lQ]at q;split at q
    .rename_i p;have e:y=n:= ~~~p
     subst e;rw[g]at q;exact .inr (by rw[g];exact q)
    .exact .inl q
   .exact .inr q
  .exact i _ j h
theorem HN{a:Type}{v:a}{l:List (Str×a)}:((n,v)::l).lookup n=aa v:=by simp
theorem G8{a:Type}{v:a}{l:List (Str×a)}(h:∃c,l.lookup y=aa c):∃c,((n,v)::l).lookup y=aa c:=by
 rw[lQ];split
 .exact⟨_,rfl⟩
 .exact h
theorem B3:∀(a:List (Str×g8)) (b:List (Str×ae)),(∃c,b.lookup y=aa c)->∃c,(ix d a b).lookup y=aa c
 |[],b,h=>h
 | (n,k)::r,b,h=>by
  unfold ix;split
  .exact B3 r _ (G8 h)
  .exact B3 r _ h
theorem Ak:∀(a:List (Str×g8)) (i:List (Str×ae)),(∃x∈a,x.1=y/\x.2=.free)->∃c,(ix g a i).lookup y=aa c
 |[],i,⟨_,h,_⟩=>by simp at h
 | (n,k)::r,i,⟨x,b,f,d⟩=>by
  unfold ix;rcases bZ.mp b with e|b
  .subst e;simp only at f d;subst f d;simp only[beq_self_eq_true,if_true];exact B3 r _ ⟨_,HN⟩
  .split
   .exact Ak r _ ⟨x,b,f,d⟩
   .exact Ak r _ ⟨x,b,f,d⟩
theorem Cm{b:Env}:∀(a:List (Str×g8)) (g:List (Str×ae)),(∀x∈a,x.2=.free->∃c,b.cells.lookup x.1=aa c) -> (forIn (m:=Sem) a g λx r=>match x with | (d,f)=>if(f == NameKind.free)=ah then do let c <-cellOf b d;pure (ForInStep.yield ((d,c)::r))else pure (ForInStep.yield r))=pure (ix b a g)
 |[],g,_=>rfl
 | (n,k)::r,g,h=>by
  have j:∀x∈r,x.2=.free->∃c,b.cells.lookup x.1=aa c:=λx o=>h x (gZ _ o);rw[List.forIn_cons];unfold ix;by_cases i:(k == NameKind.free)=ah
  .obtain⟨c,l⟩:=h (n,k) (j3 ..) (~~~i);simp only[i,if_true];have e:cellOf b n=pure c:=by unfold cellOf;rw[l]
   rw[e];simp only[pure_bind];rw[Cm r _ j,l];rfl
  .simp only[i,if_false,pure_bind];exact Cm r _ j
theorem Ur{a:dP}{b:Env}(h:∀x∈a.names,x.2=.free->∃c,b.cells.lookup x.1=aa c):closureFor a b=pure (ix b a.names []):=by unfold closureFor;have q:=Cm a.names [] h;simp only[bind_pure_comp]at q ⊢;rw[q];rfl
theorem zi(b:n+1<=c)(a:c<n):False:=∅
theorem Az:∀(c:List (Str×g8)) (n:Nat) (a b:List (Str×ae)),fY n c (a++b)=fY n c a++b
 |[],_,_,_=>rfl
 | (x,k)::r,n,a,b=>by
  unfold fY;split
  .exact Az r (n+1) ((x,n)::a) b
  .exact Az r n a b
theorem xS:∀(b:List (Str×g8)) (n:Nat) (a:List (Str×ae)),(y,c)∈fY n b a->(y,c)∈a\/(y,.cell)∈b
 |[],_,_,h=>.inl h
 | (x,k)::r,n,a,h=>by
  unfold fY at h;split at h
  .rename_i d;rcases xS r _ _ h with z|z
   all_goals grind
  .rcases xS r _ _ h with z|z
   all_goals simp_all
theorem CH:∀(b:List (Str×g8)) (n:Nat) (a:List (Str×ae)),(∃c,a.lookup y=aa c)->∃c,(fY n b a).lookup y=aa c
 |[],_,_,h=>h
 | (x,k)::r,n,a,h=>by
  unfold fY;split
  .exact CH r _ _ (G8 h)
  .exact CH r _ _ h
theorem zv:∀(b:List (Str×g8)) (n:Nat) (a:List (Str×ae)),(y,.cell)∈b->∃c,(fY n b a).lookup y=aa c
 | (x,k)::r,n,a,h=>by
  unfold fY;rcases bZ.mp h with e|h
  .cases e;exact CH r _ _ ⟨_,HN⟩
  .split
   .exact zv r _ _ h
   .exact zv r _ _ h
def ma(X:Cx)(a:dP)(C:ae):List (Str×ae):=fY (C+1) a.names (ix X.env a.names [])
theorem BU(X:Cx)(a:dP)(C:ae):ma X a C=fY (C+1) a.names []++ix X.env a.names []:=Az a.names (C+1) [] _
theorem Qj{s:ao}(j:Q (newEnv a s.heap.objs.size b (fY (s.heap.objs.size+1) a.names i) c af .none (aa d) qG) {s with heap:=pushCells (s.heap.push {cls:=.type "dict",data:=.dict #[]}) a.names}):ar M A (newFunctionEnv a b i [] c af .none (aa d)) Q E s:=by simp only[newFunctionEnv,Option.isSome_some,if_true];refine aq (wpAny_alloc ?_);refine aq (wpAny_layCells _ (λg h f=>∅) _ _ _ _ ?_);rw[show({s with heap:=s.heap.push {cls:=.type "dict",data:=.dict #[]}}:ao).heap.objs.size=s.heap.objs.size+1 from Dd ..];refine aq ?_;rw[List.forIn_nil];exact aE (aE j)
theorem F6{s:ao}(h:(y,c)∈fY (s.heap.objs.size+1) a []):(pushCells (s.heap.push {cls:=.type "dict",data:=.dict #[]}) a).IsCell c af/\s.heap.objs.size+1<=c/\∀z,(z,c)∈fY (s.heap.objs.size+1) a []->y=z:=by have ok:=cellsFrom_ok a (s.heap.push {cls:=.type "dict",data:=.dict #[]}) (s.heap.objs.size+1) [] ⟨λ_ _ d=>(nomatch d),List.Pairwise.nil⟩ (by simp);rw[Dd]at ok;exact⟨(ok.empty y c h).1,(ok.empty y c h).2,λz b=>name_of_addr ok.apart h b⟩
def bz(X:Cx)(a:dP)(b:List Str)(C:ae)(s₀:ao)(H₀:Hp)(ex:List ae)(pn:List (ae×Obj)):Cx where
 prog:=X.prog
 w:=X.w
 K:=X.K
 mg:=X.mg
 base:=X.base
 A:=X.A
 N:=b
 s₀:=s₀
 H₀:=H₀
 env:=compEnvC a (ma X a C) C X.env
 outer:=X.stack
 stack:=X.stack
 ex:=ex
 fn:=λy=>a.names.lookup y == aa .cell
 calm:=X.calm
 pn:=X.pn++pn
 xe:=λ_ _=>False
def eZ(b:St)(a:List Nat):St:=a.map λi=>(b[i]?).join
structure iu(X:Cx)(scope:dP)(x:Str)(N':List Str)(cap:List Nat):Prop where
 kind:scope.kind=.function
 cells:∀y∈scope.names,y.2=.cell->scope.names.lookup y.1=aa .cell
 names:∀y∈scope.names,y.2=.local->scope.names.lookup y.1=aa .local
 loc:scope.names.lookup x=aa .local\/scope.names.lookup x=aa .cell
 free:∀y∈scope.names,y.2=.free->X.env.kindOf y.1=aa .cell\/X.env.kindOf y.1=aa .free
 nd:N'.Nodup
 hd:N'.head?=aa x
 len:N'.length=cap.length+1
 caps:∀i j y,N'[i+1]?=aa y->cap[i]?=aa j->(X.N[j]?=aa y/\scope.names.lookup y=aa .free)\/(X.N.length<=j/\scope.names.lookup y=aa .local)
theorem QY{a:List (Str×g8)}(h:a.lookup y=aa k):∃x∈a,x.1=y/\x.2=k:=⟨(y,k),lN h,rfl,rfl⟩
theorem Bv{a:Env}:∀{b:List (Str×g8)}{k:g8}, (b.map λ(n,k)=>if(k == NameKind.free&&a.scope.kind == .function&&a.kindOf n == aa .cell)then(n,NameKind.cell)else(n,k)).lookup x=aa k -> ∃d,b.lookup x=aa d/\(k=d\/(d=.free/\k=.cell))
 |[],_,h=>by trivial
 | (n,c)::r,k,h=>by
  change De x ((if(c == NameKind.free&&a.scope.kind == .function&&a.kindOf n == aa .cell)=ah then(n,NameKind.cell)else(n,c))::_)=_ at h;rw[lQ];by_cases f:(c == NameKind.free&&a.scope.kind == .function&&a.kindOf n == aa .cell)=ah
  .rw[if_pos f,lQ]at h;split at h
   .simp_all
   .exact Bv h
  .rw[if_neg f,lQ]at h;split at h
   .simp_all
   .exact Bv h
theorem CL{a:Env}:∀{b:List (Str×g8)},b.lookup x=aa .free -> let q:=(b.map λ(n,k)=>if(k == NameKind.free&&a.scope.kind == .function&&a.kindOf n == aa .cell)then(n,NameKind.cell)else(n,k)).lookup x
  q=aa .cell\/q=aa .free
 |[],h=>by trivial
 | (n,c)::r,h=>by
  show De x ((if(c == NameKind.free&&a.scope.kind == .function&&a.kindOf n == aa .cell)=ah then(n,NameKind.cell)else(n,c))::_)=_\/De x ((if(c == NameKind.free&&a.scope.kind == .function&&a.kindOf n == aa .cell)=ah then(n,NameKind.cell)else(n,c))::_)=_;rw[lQ]at h;by_cases f:(c == NameKind.free&&a.scope.kind == .function&&a.kindOf n == aa .cell)=ah
  .rw[if_pos f,lQ];cases d:x == n with
   |true=>exact .inl rfl
   |false=>rw[d]at h;exact CL h
  .rw[if_neg f,lQ];cases d:x == n with
   |true=>simp_all
   |false=>rw[d]at h;exact CL h
theorem yn{a:Env}:∀{b:List (Str×g8)},b.lookup x=aa .cell -> (b.map λ(n,k)=>if(k == NameKind.free&&a.scope.kind == .function&&a.kindOf n == aa .cell)then(n,NameKind.cell)else(n,k)).lookup x=aa .cell
 |[],h=>by trivial
 | (n,c)::r,h=>by
  show De x ((if(c == NameKind.free&&a.scope.kind == .function&&a.kindOf n == aa .cell)=ah then(n,NameKind.cell)else(n,c))::_)=_;rw[lQ]at h;by_cases f:(c == NameKind.free&&a.scope.kind == .function&&a.kindOf n == aa .cell)=ah
  .rw[if_pos f,lQ];cases d:x == n with
   |true=>rfl
   |false=>rw[d]at h;exact yn h
  .rw[if_neg f,lQ];cases d:x == n with
   |true=>simp_all
   |false=>rw[d]at h;exact yn h
section
variable{s:ao}{f:dP}
theorem Inv.freeHas(I:Inv X A w H s)(B:iu X f x D g):∀y∈f.names,y.2=.free->∃c,X.env.cells.lookup y.1=aa c:=λy a e=>I.ok.has y.1 (B.free y a e)
theorem Inv.clIn(I:Inv X A w H s)(B:iu X f x D g)(h:(ix X.env f.names []).lookup y=aa c):X.env.cells.lookup y=aa c:=by
 rcases T0 f.names [] (I.freeHas B) h with q|q
 all_goals trivial
theorem Inv.cbIn(I:Inv X A w H s)(B:iu X f x D g)(h:(ma X f C).lookup y=aa c):((y,c)∈fY (C+1) f.names []/\f.names.lookup y=aa .cell)\/((ix X.env f.names []).lookup y=aa c/\X.env.cells.lookup y=aa c):=by
 rw[BU,JS]at h;cases e:(fY (C+1) f.names []).lookup y with
 |none=>rw[e]at h;exact .inr ⟨h,I.clIn B h⟩
 |some a=>
  rw[e]at h;cases h;have m:=lN e;rcases xS _ _ _ m with z|z
  .cases z
  .exact .inl ⟨m,B.cells _ z rfl⟩
theorem Inv.cbOld(I:Inv X A w H s)(B:iu X f x D g)(h:(ix X.env f.names []).lookup y=aa c)(a:f.names.lookup y=aa .free):(ma X f C).lookup y=aa c:=by
 rw[BU,JS];cases e:(fY (C+1) f.names []).lookup y with
 |none=>exact h
 |some b=>
  rcases xS _ _ _ (lN e)with z|z
  .cases z
  .have:=B.cells _ z rfl;rw[a]at this;cases this
theorem Inv.block(hh:E=pushCells (s.heap.push {cls:=.type "dict",data:=.dict #[]}) f.names)(I:Inv X A w H s)(B:iu X f x D g)(W:∀b∈fp,lJ X A H b)(hfo:∀b∈fp,∃o,s.heap.get? b=aa o)(ug:E.Ns s.heap.objs.size m)(F:∀b o,s.heap.get? b=aa o->E.get? b=aa o):Inv (bz X f D s.heap.objs.size s H fp A) [] (af::eZ w g) H {s with heap:=E,toks:=t'}:=by
 have O:∀x c,X.env.cells.lookup x=aa c->c<s.heap.objs.size:=λx c e=>(I.cell x c e).elim λv q=>q.lt;have C:∀{y:Str}{c:ae},(y,c)∈fY (s.heap.objs.size+1) f.names []->E.IsCell c af/\s.heap.objs.size+1<=c/\∀z,(z,c)∈fY (s.heap.objs.size+1) f.names []->y=z:=λh=>by rw[hh];exact F6 h
 have lk:∀y k,(compEnvC f (ma X f s.heap.objs.size) s.heap.objs.size X.env).kindOf y=aa k->∃P,f.names.lookup y=aa P/\(k=P\/(P=.free/\k=.cell)):=λy k h=>Bv h;have J:∀y,f.names.lookup y=aa .free->∃c,(ix X.env f.names []).lookup y=aa c:=λy h=>Ak f.names [] (QY h);have nfs:∀b∈fF X.stack,b≠s.heap.objs.size:=λb G e=>by
  rcases bZ.mp (I.stkSub b G)with z|z
  .exact absurd I.lt ⋯
  .exact I.nofs (tW e.symm) z
 refine⟨⟨I.ok.mod,B.kind,I.ok.glob,I.ok.blt,bn _,λy z c h1 h2=>?_,λy S=>?_,λy c h gc=>?_,I.ok.hd,I.ok.frames,.inl rfl,λb G=>?_,λb o e=>I.bs b o e,cV I.ok.bsz I.sz,λb o e G=>?_,λb G hf=>?_,I.stack,(λb G=>I.stkFree b G),I.tab⟩,rfl,I.bare,Un.kept F,⟨m,ug,λi y v e1 T e3=>?_⟩,λy c h=>?_,I.hok.fresh (bn _),λy c h=>?_,λp hp=>?_,I.hok.kept F,?_⟩
 .-- inj
  rcases I.cbIn B h1 with⟨a1,a2⟩|⟨a1,a2⟩ <;> rcases I.cbIn B h2 with⟨b1,b2⟩|⟨b1,b2⟩
  .exact(C a1).2.2 z b1
  .exact(zi (C a1).2.1 (O _ _ b2)).elim
  .exact(zi (C b1).2.1 (O _ _ a2)).elim
  .exact I.ok.inj y z c a2 b2
 .-- has
  show ∃c,(ma X f s.heap.objs.size).lookup y=aa c;have mW:f.names.lookup y=aa .free->∃c,(ma X f s.heap.objs.size).lookup y=aa c:=λq=>(J y q).imp λc hc=>I.cbOld B hc q;rcases S with S|S
  .obtain⟨P,q,z|⟨z,_⟩⟩:=lk y _ S
   .subst z;exact zv _ _ _ (lN q)
   .subst z;exact mW q
  .obtain⟨P,q,z|⟨_,z⟩⟩:=lk y _ S
   .subst z;exact mW q
   trivial
 .-- cab
  have hk:f.names.lookup y=aa .cell:=by simpa using(show(f.names.lookup y == aa .cell)=ah from h)
  show s.heap.objs.size<=c;rcases I.cbIn B gc with⟨a1,a2⟩|⟨a1,a2⟩
  .have:=(C a1).2.1;ac_rfl
  .obtain⟨c',Q⟩:=zv (n:=s.heap.objs.size+1) (a:=[]) _ (lN hk);have e:(ma X f s.heap.objs.size).lookup y=aa c':=by rw[BU,JS,Q];rfl
   have T:(ma X f s.heap.objs.size).lookup y=aa c:=gc;rw[e]at T;cases T;have:=(C (lN Q)).2.1;ac_rfl
 .-- exf
  obtain⟨f0,f1,f2,f3,f4,f5⟩:=W b G;obtain⟨o,L⟩:=hfo b G;refine⟨λe=>absurd (bG L) (by rw[e];exact mz _),λy c h=>?_⟩;rcases I.cbIn B h with⟨a1,a2⟩|⟨a1,a2⟩
  .rintro rfl;exact zi (C a1).2.1 (bG L)
  .exact f4 y c a2
 .-- noex
  obtain⟨f0,f1,f2,f3,f4,f5⟩:=W b G;rcases f3 with z|z
  .exact I.ok.noex b o e z
  .exact absurd (gK (bG e) (cV I.ok.bsz z)) (mz _)
 .-- exfs
  obtain⟨f0,f1,f2,f3,f4,f5⟩:=W b G;rcases bZ.mp (I.stkSub b hf)with z|z
  all_goals lia
 .-- loc
  cases i with
  |zero=>simp at T
  |succ i=>
   have N:(eZ w g)[i]?=aa (aa v):=by trivial
   unfold eZ at N;rw[dY]at N;cases Z:g[i]? with
   |none=>rw[Z]at N;trivial
   |some j=>
    rw[Z]at N;have e4:(w[j]?).join=aa v:=fe N;have e5:w[j]?=aa (aa v):=by
     cases hq:w[j]? with
     |none=>rw[hq]at e4;trivial
     |some o=>rw[hq]at e4;exact congrArg aa e4
    obtain⟨b1,b2⟩:=(B.caps i j y e1 Z).elim id λz=>by have:=(cJ.mp e5).1;rw[I.len]at this;exact absurd this (Nat.not_lt.mpr z.1)
    obtain⟨mm,hn,hl⟩:=I.loc;have KC:=B.free _ (lN b2) rfl;have Y:d8 X.env.scope y:=by
     rcases KC with z|z
     .exact .inr (.inl z)
     .exact .inr (.inr z)
    obtain⟨u,r,l⟩:=hl j y v b1 e5 Y;refine⟨u,r,.inr ⟨CL b2,?_⟩⟩;rcases l with⟨l,_⟩|⟨_,c,hc,z9⟩
    .simp_all
    .obtain⟨c',Q⟩:=J y b2;have e6:=I.clIn B Q;rw[hc]at e6;cases e6;obtain⟨M,L,hd⟩:=z9;exact⟨c,I.cbOld B Q b2,M,F c M L,hd⟩
 .rcases I.cbIn B h with⟨a1,a2⟩|⟨a1,a2⟩
  .exact⟨af,(C a1).1⟩
  .obtain⟨v,M,L,hd⟩:=I.cell y c a2;exact⟨v,M,F c M L,hd⟩
 .rcases I.cbIn B h with⟨a1,a2⟩|⟨a1,a2⟩
  .exact I.hok.fresh (cV (wt _) (C a1).2.1)
  .exact I.freeC y c a2
 .have c8:p∈X.pn++A:=by simpa[bz]using hp
  obtain⟨e,n,ne,nf,d⟩:=I.pin p c8;refine⟨F _ _ e,n,dq (bG e),λhf=>?_,d⟩;rcases bZ.mp (I.stkSub p.1 hf)with z|z
  all_goals trivial
 .show(af::eZ w g).length=D.length;rw[B.len];simp[eZ]
end
def sN(X:Cx)(b:List aC)(t:TT):Prop :=
 ∀(d:List (ae×Obj)) (s:ao) (a:St) (H:Hp) (Q:Bool->Hp->Prop),Inv X d a H s->t a H Q ->
  ar X.zz X.A (forIn b ah λc r=>if r=ah then do let ok <-nM c X.env (a8 c X.env);pure (ForInStep.yield ok)else pure (ForInStep.yield r)) (TP X d a Q) X.xe s
theorem N1(J:Nat->ao->Prop)(n:∀k o,J k o->ar (aw P w) A (mC u) (λr B=>match r with
   |none=>R (.ok .next) B
   |some v=>ar (aw P w) A (C3 q u v) (λ_ G=>ar (aw P w) A (mB q d v) (λ_ F=>ar (aw P w) A (forIn l ah λc r=>if r=ah then do let ok <-nM c d (a8 c d);pure (ForInStep.yield ok)else pure (ForInStep.yield r)) (λb z=>if b=ah then ar (aw P w) A (a8 m d) (λy E=>ar (aw P w) A (call (.builtin "list.append") [C,y]) (λ_ D=>∃j,j<k/\J j D) (λ_ _=>False) E) (λ_ _=>False) z else ∃j,j<k/\J j z) (λ_ _=>False) F) (λ_ _=>False) G) (λ_ _=>False) B) (λ_ _=>False) o) (k:Nat) (h:J k s) :
  mD (aw P w) A (.compLoop (.ListComp m [⟨q,i,l,0⟩] g p) 0 u C d) R s:=by
 refine codeAny_loop rfl J (λj o L=>?_) k h;show ar _ A (Sem.onRaise (compTurn (.ListComp m [⟨q,i,l,0⟩] g p) 0 u C d) (λx=>do zI x d;theTreesLotGoes x)) _ _ o;refine wpAny_noted ?_;rw[compTurn_list];have no:∀(S:ai->ao->Prop) (a:ai) (b:ao),False->S a b:=λ_ _ _ f=>f.elim;refine aq (wpAny_standAt (aq (ff (n j o L) (λr B I=>?_) (no _))));cases r with
 |none=>exact aE I
 |some v=>
  refine aq (ff I (λ_ G Q=>aq (ff Q (λ_ F O=>aq (ff O (λb z H=>?_) (no _))) (no _))) (no _));cases b with
  |true=>exact aq (aq (ff H (λy E N=>aq (ff N (λ_ D M=>aE (aE ⟨rfl,M⟩)) (no _))) (no _)))
  |false=>exact aE ⟨rfl,H⟩
def Nt:TT:=λ_ H Q=>Q ah H
theorem Gn:sN X [] Nt:=λ_ _ _ H _ I h=>wpAny_tests_nil ⟨H,I,h⟩
theorem U7(h:PT X c t):sN X [c] t:=λd s a H Q I b=>wpAny_tests_one (h d s a H Q I b)
def zt(q:TI)(h:V->Hp->St->Prop)(k:Nat)(r:TT)(s:TE)(d:List Nat):TE:=λg H Q=>q g H λJ p=>∀l,p l=af->∃W:Nat->Nat->List V->Hp->Prop,(∃m,W 0 m [] (upd p l (.lst [])))/\∀i m a H,W i m a H ->
 (J.stop i H/\Q (.ref l) H)\/(J.go i H/\∀v j,J.yld i H v j->∃f,f.length=k+1/\h v j f/\r (f++(eZ g d).drop k) j λb o=>if b=ah then s (f++(eZ g d).drop k) o λy n=>n l=aa (.lst a)/\a.length<bq/\∃c,c<m/\W (i+1) c (a++[y]) (upd n l (.lst (a++[y]))) else ∃c,c<m/\W (i+1) c a o)
def Jq:V->Hp->St->Prop:=λv _ a=>a=[aa v]
abbrev zq(b:TI)(c:TT)(d:TE)(a:List Nat):TE:=zt b Jq 0 c d a
section
theorem Inv.unblock(I:Inv X w A H s)(E:∀b∈p,lJ X w H b)(a:Inv (bz X j l s.heap.objs.size s H p w) [] r i s') (sb:j4 s.heap.objs.size s'.heap h):Inv X w A i {s' with heap:=h}:=by
 have k:∀b o,b≠s.heap.objs.size->s'.heap.get? b=aa o->h.get? b=aa o:=λb o f e=>(sb.2 b f).trans e;have y:∀b o,s.heap.get? b=aa o->b≠s.heap.objs.size:=λb o e=>dq (bG e);have un:Un (fF X.stack) p H i s.heap h:=by
  refine⟨λb o e n f d=>k b o (y b o e) (a.base.keep b o e n f d),λb o e n f d=>?_,λb o e n d=>a.base.free b o e n d,λb o e d=>?_,a.base.tups,a.base.frzs,λb q e=>⟨(a.base.tbls b q e).1,λc o D g=>⟨k c o (λz=>by grind) ((a.base.tbls b q e).2 c o D g).1,((a.base.tbls b q e).2 c o D g).2⟩⟩⟩
  .obtain⟨F,q⟩:=a.base.slot b o e n f d;exact⟨F,k b _ (y b o e) q⟩
  .obtain⟨C,q⟩:=a.base.there b o e d;exact⟨C,k b C (y b o e) q⟩
 have B:c9 X.prog X.w i h:=λb u e=>by have G:i s.heap.objs.size=af:=a.free;refine(a.hok b u e).stay (λc v J q=>k c v ?_ q) (λ_ q=>q) λ_ _ q=>q;lia
 refine I.call' (s':={s' with heap:=h}) (ch:=p) a.os un B a.bare λb f=>?_;obtain⟨N,M,f2,f3,f4,L⟩:=E b f;trivial
theorem Ie(B:iu X j x l m)(hk:k<=m.length)(hc:X.calm=ah)(hi:PI X tg G wi)(dv:∀C F L ex pn,PG (bz X j l C F L ex pn) tg λv σ' H Q=>∃S,S.length=k+1/\σ'.length=l.length/\tgf v H S/\Q (S++σ'.drop (k+1)) H)(ht:∀C F L ex pn,sN (bz X j l C F L ex pn) ifs ts) (he:∀C F L ex pn,PE (bz X j l C F L ex pn) elt te) (hs:∀x,lL G X.env x=pure x) (I:Inv X w A H s) (h:zt wi tgf k ts te m A H Qp)(fin:∀{g s6:ao}{P H5:Hp}{M σ5 a f},Inv X w A P g->(∀b∈M,lJ X w P b)->Inv (bz X j l g.heap.objs.size g P M w) [] σ5 H5 s6->Qp (.ref a) H5->compPost X.zz X.A X.xe use Q (.ref a) g.heap.objs.size (.ok f) s6):ar X.zz X.A (comprehension (.ListComp elt [⟨tg,G,ifs,0⟩] j pos) j X.env pos' (newList []) ak (a8 G X.env) use) Q X.xe s:=by
 refine wpAny_comprehension_free (use:=use) rfl hs (Ur (I.freeHas B)) B.kind B.names (aT (hi w s A H _ I h) λv s1 h1=>aT h1 λitv E h2=>?_);obtain⟨it,M,tn,J,H2,e,I2,T,bK,f2,h2⟩:=h2;subst e;refine j8 ?_;have I3:Inv X w A (upd H2 E.heap.objs.size (.lst [])) {E with heap:=E.heap.push {cls:=.type "list",data:=.seq ([]:List ai).toArray},toks:=E.toks}:=I2.lnew (its:=[]) (t':=E.toks) .nil (jG _);obtain⟨W,⟨m0,w0⟩,turn⟩:=h2 E.heap.objs.size I2.fresh;generalize wV:({E with heap:=E.heap.push {cls:=.type "list",data:=.seq ([]:List ai).toArray},toks:=E.toks}:ao)=g at I3;have hs3':({E with heap:=E.heap.push {cls:=.type "list",data:=.seq ([]:List ai).toArray}}:ao)=g:=wV;generalize hH3:upd H2 E.heap.objs.size (.lst [])=P at I3 w0;have nl:∀b∈M,b≠E.heap.objs.size:=λb D e=>by obtain⟨o,ho,_⟩:=T.obj _ _ bK b D;exact absurd (bG ho) (by rw[e];simp)
 have k3:∀b o,E.heap.get? b=aa o->g.heap.get? b=aa o:=λb o e=>by rw[<-wV];exact bL _ e
 have f3:∀b∈M,lJ X w P b:=λb D=>⟨by rw[<-hH3,a6 (nl b D)];exact(f2 b D).1,(f2 b D).2⟩
 have bF:tn 0 g.heap:=T.keep _ _ _ bK λb _ o e=>k3 b o e;have fo3:∀b∈M,∃o,g.heap.get? b=aa o:=λb D=>(T.obj _ _ bF b D).imp λo q=>q.1;refine Qj ?_;generalize hh:pushCells (g.heap.push {cls:=.type "dict",data:=.dict #[]}) j.names=h₁;have old:∀b o,g.heap.get? b=aa o->h₁.get? b=aa o:=λb o e=>hh ▸ pushCells_keeps _ _ b o (bL _ e);have ug:h₁.Ns g.heap.objs.size (λ_=>af):=hh ▸ (Heap.Ns.new g.heap (.type "dict")).keeps (pushCells_keeps _ _);have I4:=Inv.block (t':=g.toks) hh.symm I3 B f3 fo3 ug old;have fi:tn 0 h₁:=T.keep _ _ _ bF λb _ o e=>old b o e;have N:∀{H':Hp},(∀b∈M,H' b=af)->∀b∈M,lJ (bz X j l g.heap.objs.size g P M w) [] H' b:=λhn b D=>by
  obtain⟨f0,f1,f2',f3',f4,f5⟩:=f3 b D;refine⟨hn b D,λe=>?_,λhf=>?_,.inl D,λy c h=>?_,λp hp=>f5 p (by simpa[bz]using hp)⟩
  .obtain⟨o,ho⟩:=fo3 b D;exact absurd (bG ho) (by rw[show b=g.heap.objs.size from e];simp)
  .rcases bZ.mp (I3.stkSub b hf)with z|z
   all_goals grind
  .rcases I3.cbIn B h with⟨a1,a2⟩|⟨a1,a2⟩
   .rintro rfl;obtain⟨o,ho⟩:=fo3 _ D;exact zi (F6 a1).2.1 (bG ho)
   .exact f4 y c a2
 have Y:mD X.zz X.A (.compLoop (.ListComp elt [⟨tg,G,ifs,0⟩] j pos) 0 (.ref it) (.ref E.heap.objs.size) (compEnvC j (ma X j g.heap.objs.size) g.heap.objs.size X.env))
   (compPost X.zz X.A X.xe use Q (.ref E.heap.objs.size) g.heap.objs.size) {g with heap:=h₁,toks:=g.toks}:=by
  refine N1 (Uh (bz X j l g.heap.objs.size g P M w) k ((eZ A m).drop k) tn M W) ?_ m0
   ⟨0,[],_,P,(af::eZ A m).take (k+1),by simp[eZ];lia,by simp,I4,fi,λb D=>(f3 b D).1,w0⟩
  rintro n s5 ⟨i,ys,σ5,H5,pre,wN,rfl,I5,gb,fr5,w5⟩;rcases turn i n ys H5 w5 with⟨stop,q⟩|⟨go,step⟩
  .refine ff (T.done (bz X j l g.heap.objs.size g P M w) rfl rfl rfl hc i [] s5 _ H5 (λ_ _=>False) I5 (N fr5) gb stop) (λr s6 ⟨hr,I6⟩=>?_) (λ_ _ f=>f.elim);subst hr;exact fin I3 f3 I6 q
  .refine ff (T.item (bz X j l g.heap.objs.size g P M w) rfl rfl rfl hc i [] s5 _ H5 (λ_ _=>False) I5 (N fr5) gb go) (λr s6 ⟨u,hr,h6⟩=>?_) (λ_ _ f=>f.elim);subst hr;refine ff h6 (λ_ s7 ⟨v,H7,I7,r7,y7,Z,fr7⟩=>?_) (λ_ _ f=>f.elim);have I7':=I7.pinned (N fr7) (T.obj _ _ Z);have back:∀{O:St}{H8:Hp}{s8:ao},Inv (bz X j l g.heap.objs.size g P M w) ([]++vR M s7.heap) O H8 s8->tn (i+1) s8.heap/\(∀b∈M,H8 b=af):=λ{O H8 s8} I8=>⟨T.keep _ _ _ Z λb D o e=>(I8.pin (b,o) (j6 _ (j6 _ (yV D e)))).1,λb D=>by obtain⟨o,e,d⟩:=T.obj _ _ Z b D;exact(I8.pin (b,o) (j6 _ (j6 _ (yV D e)))).2.1⟩
   obtain⟨S,eK,htg,step⟩:=step v H7 y7;refine aT (dv _ _ _ _ _ _ s7 _ H7 v u (λO H8=>O=S++(eZ A m).drop k/\H8=H7) I7' r7 ⟨S,eK,I7'.len,htg,⋯,rfl⟩) λ_ s8 ⟨O,H8,I8,e8,e8'⟩=>?_;subst e8 e8';refine aT (ht _ _ _ _ _ _ s8 _ _ _ I8 step) λb s9 ⟨H9,I9,q9⟩=>?_;cases b with
   |false=>
    obtain⟨m',hm,w9⟩:=(show ∃m',m'<n/\W (i+1) m' ys H9 from q9)
    exact⟨m',hm,i+1,ys,_,H9,S,eK,rfl,I9.unpinned,(back I9).1,(back I9).2,w9⟩
   |true=>refine aT (he _ _ _ _ _ _ s9 _ H9 _ I9 q9) λu10 s10 ⟨y,H10,I10,r10,hl10,hz10,m',hm,w10⟩=>?_;refine aT (Hb _ s10 _ H10 (.ref E.heap.objs.size) [y] _ [u10] (λz H11=>H11=upd H10 E.heap.objs.size (.lst (ys++[y]))) I10 rfl (.cons r10 .nil) ⟨_,ys,y,rfl,rfl,hl10,hz10,rfl⟩) λ_ s11 ⟨_,H11,I11,_,e11⟩=>?_;subst e11;exact⟨m',hm,i+1,ys++[y],_,_,S,eK,rfl,I11.unpinned,(back I11).1,(back I11).2,w10⟩
 exact codeAny_compStart_list Y (T.self _ 0 _ _ _ fi Y)
theorem E8(B:iu X j x l m):∀C b c g f,PG (bz X j l C b c g f) (.Name x o) λv d H Q=>∃i,i.length=0+1/\d.length=l.length/\Jq v H i/\Q (i++d.drop (0+1)) H:=by
 intro C b c g f w s d H v u Q I r h;obtain⟨i,_,y,p,q⟩:=h;cases (show i=[aa v] from p);have D:Loc (bz X j l C b c g f).env.scope x:=B.loc.elim (λh=>.inl (wu h)) (λh=>.inr (yn h));have z:(bz X j l C b c g f).fn x=ah\/(bz X j l C b c g f).env.scope.names.lookup x=aa .local:=B.loc.elim (λh=>.inr (wu h)) (λh=>.inl (by show(j.names.lookup x == aa .cell)=ah;rw[h];rfl));have n:(bz X j l C b c g f).N[0]?=aa x:=by show l[0]?=aa x;rw[<-List.head?_eq_getElem?];exact B.hd
 refine qD B.nd n D z w s d H v u Q I r ?_;show Q (d.set 0 (aa v)) H;cases d with
 |nil=>rw[tR,B.len]at y;lia
 |cons a r=>exact q
theorem Px(B:iu X j x l m)(D:X.calm=ah)(y:PI X (.Name x o) b wi)(u:∀C a c n g,sN (bz X j l C a c n g) d ts) (z:∀C a c n g,PE (bz X j l C a c n g) f te) (v:(∀x,lL b X.env x=pure x)^4):PE X (.ListComp f [⟨.Name x o,b,d,0⟩] j pos) (zq wi ts te m):=by intro w s A H Q I h;rw[eval_ListComp];exact Ie (use:=af) B (jG _) D y (E8 B) u z v I h λE f3 p q=>by obtain⟨r,i,_⟩:=p.loc;exact⟨r,i,λF sb=>⟨.ref _,_,E.unblock f3 p sb,rfl,q⟩⟩
end
noncomputable def Walk(J:It)(xs:List V)(R:Hp->Prop):Prop :=
 ∀H,R H->∀i,(∀x,xs[i]?=aa x->J.go i H/\∀y a,J.yld i H y a->a=H/\y=x)/\(i=xs.length->J.stop i H)
theorem QP{K:ax}:Walk (AH K a) xs (λH=>cA K H a xs):=λH h i=>⟨λx b=>⟨⟨xs,x,h,b⟩,λy d z=>⟨z.1,by have:=z.2 xs h;rw[b]at this;exact(fe this).symm⟩⟩,λc=>⟨xs,h,tW c.symm⟩⟩
theorem LR{K:ax}:Walk (B6 K a) xs (λH=>cn K H a xs):=λH h i=>⟨λx b=>⟨⟨xs,x,h,b⟩,λy d z=>⟨z.1,by have:=z.2 xs h;rw[b]at this;exact(fe this).symm⟩⟩,λc=>⟨xs,h,tW c.symm⟩⟩
def sA(a:Int)(n:Nat):List V:=(cF n).map λi=>V.int (a+(i:Nat))
theorem AV(a:Int)(n:Nat):(sA a n).length=n:=by simp[sA]
theorem OK{b:Int}:Walk (yx b n) (sA b n) (λ_=>True):=λH _ i=>by
 refine⟨λx a=>?_,λc=>by rw[AV]at c;exact tW c.symm⟩;have d:i<n:=by have:=(cJ.mp a).1;rw[AV]at this;trivial
 refine⟨d,λy g z=>⟨z.1,?_⟩⟩;unfold sA at a;rw[dY,Df d]at a;have f:V.int (b+(i:Nat))=x:=fe a;rw[z.2,<-f]
noncomputable def sg(c:Nat):V:=.str ⟨#[c]⟩
def v4(z:Str):It:=⟨λi _=>i<z.cps.size,λi H x a=>a=H/\∃c,z.cps[i]?=aa c/\x=sg c,λi _=>i=z.cps.size⟩
theorem Rv:Walk (v4 z) (z.cps.toList.map sg) (λ_=>True):=λH _ i=>by
 refine⟨λx a=>?_,λd=>by show i=z.cps.size;simpa using d⟩;rw[dY]at a;cases e:z.cps.toList[i]? with
 |none=>rw[e]at a;trivial
 |some c=>
  rw[e]at a;have f:i<z.cps.size:=by have:=(cJ.mp e).1;trivial
  refine⟨f,λy h w=>⟨w.1,?_⟩⟩;obtain⟨g,b,rfl⟩:=w.2;have:z.cps[i]?=aa c:= ~~~e
  rw[this]at b;cases b;exact(fe a)
section
variable{X:Cx}
theorem Tb{K:ax}{z:Str}{d:ae}{f:Nat->aB->Prop} (S:∀i h,f i h->∃o n r,h.get? d=aa o/\o.cls=.type n/\o.data=.fields r /\ ["enumerate","zip","dict_itemiterator","dict_reverseitemiterator","odict_iterator","itertools.zip_longest","itertools.pairwise"].contains n=ak)(Vu:∀(A:aV) (i:Nat) (s:ao) (Q:ai->ao->Prop) (E:ai->ao->Prop),f i s.heap->Q (.ref d) s->ar (aw P w) A (nN (.ref d)) Q E s)(C:∀A:aV,A.handled=af->Walks P w A d [d] [d] z.cps.size (SignAt z) f):pX P w K a (v4 z) [d] d f where
 mem:=by simp
 obj:=λi h g b j=>by
  have e:b=d:= ~~~j
  subst e;obtain⟨o,n,r,J,_,G,_⟩:=S i h g;exact⟨o,J,λv q=>by rw[G]at q;cases q⟩
 keep:=λi h m g k=>by exact(C ({}:aV) rfl).frame i h m g k
 item:=by intro X D x F B i T s O H E I p g y;subst D x F;obtain⟨N,M,f2,f3,f4,L⟩:=p d (by simp);refine(C X.A (I.ok.hd B)).item i s _ _ y g λv m l Z W k=>?_;have I1:Inv X T O H {s with heap:=m,toks:=l}:=I.turned (t':=l) (λb o j e=>k b o (~~~j) e) N M f3 f4 L;obtain⟨o,n,r,J,h2,G,h4⟩:=S _ _ W;obtain⟨c,u,e1,rfl⟩:=Z;exact⟨_,rfl,uK (s:={s with heap:=m,toks:=l}) J h2 G h4 ⟨sg c,H,I1,⟨u,rfl⟩,⟨rfl,c,e1,rfl⟩,W,λb j=>(p b j).1⟩⟩
 done:=by intro X D x F B i T s O H E I p g y;subst D x F;obtain⟨N,M,f2,f3,f4,L⟩:=p d (by simp);have Y:i=z.cps.size:=y;subst Y;exact(C X.A (I.ok.hd B)).done s _ _ g λm l k=>⟨rfl,I.turned (t':=l) (λb o j e=>k b o (~~~j) e) N M f3 f4 L⟩
 self:=Vu
theorem HF{g:TG}{l:TS}{D:jW}(A:Walk J xs R)(c:Nat->St->Hp->Prop)(B:c 0 b H)(v:∀i b H,i<=xs.length->c i b H->R H)(u:∀i x b H,xs[i]?=aa x->c i b H->g x b H λf j=>l {D with nx:=c (i+1),ct:=c (i+1),bk:=D.nx} f j) (z:∀b H,c xs.length b H->D.nx b H):∃W:Nat->Nat->St->Hp->Prop,(∃m,W 0 m b H)/\∀i m b H,W i m b H -> (J.stop i H/\D.nx b H)\/(J.go i H/\∃N:St->Hp->Prop,(∀h d,N h d->∃n,n<m/\W (i+1) n h d)/\∀x d,J.yld i H x d->g x b d λf j=>l {D with nx:=N,ct:=N,bk:=D.nx} f j):=by
 refine⟨λi m b H=>m=xs.length-i/\i<=xs.length/\c i b H,⟨xs.length,by rfl,jG _,B⟩,?_⟩;rintro i m b H ⟨rfl,w,p⟩;have q:=A H (v i b H w p) i;by_cases E:i<xs.length
 .have o:xs[i]?=aa xs[i]:=by simp
  obtain⟨C,r⟩:=q.1 xs[i] o;refine .inr ⟨C,c (i+1),λh d s=>⟨xs.length-(i+1),∅,rfl,E,s⟩,λx d y=>?_⟩;obtain⟨rfl,rfl⟩:=r x d y;exact u i _ b _ o p
 .have e:i=xs.length:=∅
  subst e;exact .inl ⟨q.2 rfl,z b H p⟩
theorem UC{b:Type}(l:List b)(f:b->Bool)(d:Nat->Bool)(c:∀i x,l[i]?=aa x->d i=f x):(cF l.length).all d=l.all f:=by
 induction l generalizing d with
 |nil=>rfl
 |cons x r g=>rw[fz,JT,qO,zJ,qO,c 0 x rfl];congr 1;exact g _ λi y h=>c (i+1) y (by trivial)
theorem UV{bs:List Bool}(r:bC (bs.map V.bl) b){i:Nat}(h:b.toArray[i]?=aa v):v=.bool (bs.getD i ak):=by
 have d:=r.length;rw[cG]at d;have f:i<b.length:=by have:=(mG.mp h).1;trivial
 have e:(bs.map V.bl)[i]?=aa (.bl (bs.getD i ak)):=by rw[dY,eD ⋯];simp[List.getD,eD (show i<bs.length by simp_all)]
 obtain⟨u,c,g⟩:=r.get e;have:b[i]?=aa v:= ~~~h
 rw[this]at c;cases c;trivial
theorem uC{A:aV}(h:A.handled=af):A.in1.handled=af:=h
theorem ze(j:X.calm=ah):eF X (.builtin "all") (λxs H Q=>∃(p:ae) (bs:List Bool),xs=[.ref p]/\cA X.K H p (bs.map V.bl)/\Q (.bl (bs.all id)) H):=by
 intro N s n H xs P Q I r h;obtain⟨p,bs,rfl,E,q⟩:=h;obtain⟨u,rfl,y⟩:=vals1 r;cases y;obtain⟨d,l,f,T⟩:=I.list E;have m:=l.length;rw[cG]at m;refine call_all_walk (JU f.isList ?_);have M:p≠s.heap.objs.size:=by obtain⟨o,g,_⟩:=f.isList;exact dq (bG g)
 refine⟨s.heap.objs.size,_,_,_,_,_,λi=>bs.getD i ak,rfl,Walks.list (uC (I.ok.hd j)) s.heap.objs.size p M d.toArray,⟨⟨_,cP _ rfl,rfl,rfl⟩,?_⟩,λi v S Y Z D L=>?_,λW w k=>?_⟩
 .obtain⟨o,g,j,G⟩:=f.isList;exact⟨o,bL _ g,j,G⟩
 .rw[UV l D];exact o5 L
 .have e:(cF d.toArray.size).all (λi=>bs.getD i ak)=bs.all id:=by
   rw[gi,<-m];exact UC bs id _ λi x C=>by simp[List.getD,C]
  rw[e];have O:Inv X N n H {s with heap:=s.heap.push {cls:=.type "list_iterator",data:=.fields #[.ref p,.int 0 0]},toks:=s.toks}:=I.kept (t':=s.toks) λb o e=>bL _ e;exact⟨.bl _,H,Inv.turned (t':=w) O (it:=s.heap.objs.size) (λb o J e=>k b o (~~~J) e) I.fresh (tL I.lt) (.inr I.sz) (λx c e z=>by obtain⟨v,A⟩:=I.cell x c e;exact absurd A.lt (by rw[z];simp)) (λB F z=>absurd (bG (I.pin B F).1) (by rw[z];simp)),rfl,q⟩
end
section
def nq(z:Str)(a b:Option Int):Str:=⟨((z.cps.toList.drop (HT.sIx z.length 0 a)).take (HT.sIx z.length z.length b-HT.sIx z.length 0 a)).toArray⟩
theorem Sf(a b:Nat):sliceRange (a:Int) (b:Int) 1=(cF (b-a)).map λk=>a+k:=by
 unfold sliceRange;have e:(if(1:Int) > 0 then(if(a:Int)<(b:Int)then((b:Int)-a+1-1) / 1 else 0)else(if(a:Int) > b then((a:Int)-b-1-1) / (-1)else 0)).toNat=b-a:=by
  rw[if_pos (by decide)];split
  .simp
  .have:b-a=0:=⋯
   rw[this];rfl
 show(cF (if(1:Int) > 0 then(if(a:Int)<(b:Int)then((b:Int)-a+1-1) / 1 else 0)else(if(a:Int) > b then((a:Int)-b-1-1) / (-1)else 0)).toNat).map _=_;rw[e];refine mH λk _=>?_;lia
theorem MA(a b:Option Int)(n:Nat):Builtin.Str.strSliceIndices a b 1 n=(cF (HT.sIx n n b-HT.sIx n 0 a)).map λk=>HT.sIx n 0 a+k:=by
 rw[<-Sf];have p:(1:Int) > 0:=by decide
 cases a <;> cases b <;> (unfold Builtin.Str.strSliceIndices HT.sIx;simp only[p,if_true];congr 1 <;> (try split) <;> lia)
theorem Of{b:Type}(l:List b)(a k:Nat):((cF k).map λj=>a+j).filterMap (λi=>l[i]?)=(l.drop a).take k:=by
 induction k with
 |zero=>rfl
 |succ k c=>rw[qR,tX,List.filterMap_append,c,List.take_succ];congr 1;simp[nL];rfl
theorem N9(z:Str)(t:Tok)(l u:Option (Int×Tok)):∃m,sliceMade z t l u af=m/\(m=.val (.str z t)/\nq z (l.map (·.1)) (u.map (·.1))=z\/m=.str (nq z (l.map (·.1)) (u.map (·.1)))):=by
 refine⟨_,rfl,?_⟩;unfold sliceMade slicePicked;have e:=MA (l.map (·.1)) (u.map (·.1)) z.length;simp only[Option.map_none,JL];rw[e];have d:=Of z.cps.toList (HT.sIx z.length 0 (l.map (·.1))) (HT.sIx z.length z.length (u.map (·.1))-HT.sIx z.length 0 (l.map (·.1)));have b:(((cF (HT.sIx z.length z.length (u.map (·.1))-HT.sIx z.length 0 (l.map (·.1)))).map λk=>HT.sIx z.length 0 (l.map (·.1))+k).filterMap (z.cps[·]?)).toArray=(nq z (l.map (·.1)) (u.map (·.1))).cps:=by unfold nq;rw[<-d];simp
 split
 .rename_i h;left;refine⟨rfl,?_⟩;simp only[beq_self_eq_true,Dg,cG,List.length_range,beq_iff_eq]at h;have g:HT.sIx z.length z.length (u.map (·.1))<=z.length:=HT.sIx_le _ _ (bn _) _;have f:z.cps.toList.length=z.length:=by rfl
  have a:HT.sIx z.length 0 (l.map (·.1))=0\/z.length=0:=∅
  unfold nq;rw[h];rcases a with a|a
  .rw[a,List.drop_zero,pc ∅]
  .have:z.cps.toList=[]:=Dh ∅;rw[this];cases z;rename_i c;simp at this;subst this;rfl
 .right;rw[show(⟨(((cF (HT.sIx z.length z.length (u.map (·.1))-HT.sIx z.length 0 (l.map (·.1)))).map λk=>HT.sIx z.length 0 (l.map (·.1))+k).filterMap (z.cps[·]?)).toArray⟩:Str)=nq z (l.map (·.1)) (u.map (·.1))from by rw[b]]
def GV:V->Option Int->Option Int->Hp->VK->Prop:=λx a b H Q=>∃z,x=.str z/\z.length<=bq/\Q (.str (nq z a b)) H
theorem Ud(z:Str)(a b:Option Int):(nq z a b).length<=z.length:=by unfold nq Str.length;simp;lia
theorem part_of(p:nP v o):∃q:Option (Int×Tok),v=partValue q/\q.map (·.1)=o:=by
 cases p with
 |none=>exact⟨af,rfl,rfl⟩
 |int i t=>exact⟨aa (i,t),rfl,rfl⟩
theorem VH:nr X GV:=by
 intro y s n H x v p o r w a Q I b g d c h;obtain⟨z,rfl,f,q⟩:=h;obtain⟨t,rfl⟩:=b;obtain⟨l,rfl,rfl⟩:=part_of d;obtain⟨u,rfl,rfl⟩:=part_of c;refine⟨"str",_,F.slot_str_getitem.lookup,typeIs_str s z t,?_⟩;obtain⟨m,j,i⟩:=N9 z t l u;refine getItem_meets (typeIs_str s z t) (by rfl) F.slot_str_getitem F.entry_str_getitem (F.args_str_getitem_2 _ _) (meets_str_getitem_slice z t a l u af (by rfl)) ⟨g,?_⟩;rw[j];rcases i with⟨rfl,e⟩|rfl
 .exact⟨.str z,H,I,⟨t,rfl⟩,by rw[e]at q;exact q⟩
 .exact⟨cV (Ud z _ _) f,⟨.str _,H,I.tok _,⟨_,rfl⟩,q⟩⟩
end
section
variable{X:Cx}
def iX(K:ax)(H:Hp)(d:Nat)(x y:V)(k:Bool):Prop :=
 ∀(X:Cx),X.K=K->∀(b:List (ae×Obj)) (a:St) (s:ao) (u v:ai) (A:aV),Inv X b a H s->RelV x u->RelV y v->A.units+d<cLine->wp A s u v k
theorem ME{K:ax}{x y:V}(f:gh x=ah)(c:gh y=ah):iX K H d x y (eP x y):=λ_ _ _ _ _ _ _ _ _ b a _=>Gv b a f c
def gA(e:Nat->Bool)(n m:Nat):Bool:=(cF (min n m)).all e&&n == m
theorem U5{A:aV}:A.in1.units=A.units+1:=rfl
theorem BB{A:aV}(I:Inv X C o H s)(L:cA X.K H a xs)(J:cA X.K H b c)(G:∀(j:Nat) x y,xs[j]?=aa x->c[j]?=aa y->iX X.K H d x y (e j)) (T:A.units+(d+1)<cLine):SeqAt.RcAt A s (.ref a) (.ref b) (gA e xs.length c.length)/\SeqAt.RcNeAt A s (.ref a) (.ref b) (!gA e xs.length c.length):=by
 obtain⟨g,q,m,_⟩:=I.list L;obtain⟨h,p,f,_⟩:=I.list J;have F:=q.length;have S:=p.length;have z:∀j (N:j<g.toArray.size) (M:j<h.toArray.size),wp A.in1 s g.toArray[j] h.toArray[j] (e j):=λj N M=>by
  have P:j<g.length:=by trivial
  have Q:j<h.length:=by trivial
  have i:xs[j]?=aa xs[j]:=eD ⋯;have B:c[j]?=aa c[j]:=eD ⋯;obtain⟨u,w,E⟩:=q.get i;obtain⟨v,r,D⟩:=p.get B;have O:g[j]=u:=by rw[eD P]at w;exact fe w
  have f2:h[j]=v:=by rw[eD Q]at r;exact fe r
  have:=G j xs[j] c[j] i B X rfl C o s u v A.in1 I E D (by lia);simpa[O,f2]using this
 by_cases n:xs.length=c.length
 .have l:g.toArray.size=h.toArray.size:=by simp;simp_all
  have i:gA e xs.length c.length=(cF g.toArray.size).all e:=by unfold gA;simp_all
  rw[i];exact⟨.lists m.isList f.isList l ∅ z,.lists m.isList f.isList l ∅ z⟩
 .have i:gA e xs.length c.length=ak:=by
   unfold gA;rw[beq_false_of_ne n,zK]
  have l:(g.toArray.size != h.toArray.size)=ah:=by simp;simp_all
  rw[i];exact⟨.lists_lengths m.isList f.isList l ∅,.lists_lengths m.isList f.isList l ∅⟩
theorem CM{A:aV}(I:Inv X B m H s)(J:cn X.K H a xs)(G:cn X.K H b c)(F:∀(j:Nat) x y,xs[j]?=aa x->c[j]?=aa y->iX X.K H d x y (e j)) (Q:A.units+(d+1)<cLine):SeqAt.RcAt A s (.ref a) (.ref b) (gA e xs.length c.length)/\SeqAt.RcNeAt A s (.ref a) (.ref b) (!gA e xs.length c.length):=by
 obtain⟨g,o,r,_⟩:=I.tuple J;obtain⟨f,n,h,_⟩:=I.tuple G;have l:=o.length;have E:=n.length;have w:∀j (M:j<g.toArray.size) (L:j<f.toArray.size),wp A.in1 s g.toArray[j] f.toArray[j] (e j):=λj M L=>by
  have O:j<g.length:=by trivial
  have P:j<f.length:=by trivial
  have i:xs[j]?=aa xs[j]:=eD ⋯;have z:c[j]?=aa c[j]:=eD ⋯;obtain⟨u,q,D⟩:=o.get i;obtain⟨v,p,C⟩:=n.get z;have N:g[j]=u:=by rw[eD O]at q;exact fe q
  have f2:f[j]=v:=by rw[eD P]at p;exact fe p
  have:=F j xs[j] c[j] i z X rfl B m s u v A.in1 I D C (by rw[U5];lia);simpa[N,f2]using this
 have i:gA e xs.length c.length=((cF (min g.toArray.size f.toArray.size)).all e&&g.toArray.size == f.toArray.size):=by unfold gA;rw[gi,gi,<-l,<-E]
 rw[i];exact⟨.tuples r h ∅ w,.tuples r h ∅ w⟩
theorem Lk{K:ax}{a b:ae}{xs c:List V}{e:Nat->Bool}(m:cA K H a xs)(l:cA K H b c)(o:a≠b)(i:∀(j:Nat) x y,xs[j]?=aa x->c[j]?=aa y->iX K H d x y (e j)):iX K H (d+1) (.ref a) (.ref b) (gA e xs.length c.length):=λX n q p s u v A I g f h=>by
 subst n;cases g;cases f;exact .of_refs o (BB I m l i h).1
theorem ND{K:ax}{a b:ae}{xs c:List V}{e:Nat->Bool}(m:cn K H a xs)(l:cn K H b c)(o:a≠b)(i:∀(j:Nat) x y,xs[j]?=aa x->c[j]?=aa y->iX K H d x y (e j)):iX K H (d+1) (.ref a) (.ref b) (gA e xs.length c.length):=λX n q p s u v A I g f h=>by
 subst n;cases g;cases f;exact .of_refs o (CM I m l i h).1
theorem Fc{K:ax}{a:ae}:iX K H d (.ref a) (.ref a) ah:=λX h i f s u v A I c b g=>by
 cases c;cases b;exact .same _
def u7(K:ax)(f:Bool):R2:=λx y H Q=>∃a b xs c d e,x=.ref a/\y=.ref b/\((cA K H a xs/\cA K H b c)\/(cn K H a xs/\cn K H b c))/\d<=8 /\
 (∀(j:Nat) x y,xs[j]?=aa x->c[j]?=aa y->iX K H d x y (e j))/\Q (.bl (if f then !gA e xs.length c.length else gA e xs.length c.length)) H
theorem LM(m:X.A.units+64<cLine):b_ X (eC .Eq) (u7 X.K ak):=by
 intro o s j H x y v u Q I g f h;obtain⟨a,b,xs,l,d,e,rfl,rfl,i,n,c,q⟩:=h;cases g;cases f;rcases i with⟨h1,h2⟩|⟨h1,h2⟩
 .exact(BB I h1 h2 c ∅).1 _ _ _ _ ⟨.bl _,H,I,rfl,q⟩
 .exact(CM I h1 h2 c ∅).1 _ _ _ _ ⟨.bl _,H,I,rfl,q⟩
theorem RO(m:X.A.units+64<cLine):b_ X (eC .NotEq) (u7 X.K ah):=by
 intro o s j H x y v u Q I g f h;obtain⟨a,b,xs,l,d,e,rfl,rfl,i,n,c,q⟩:=h;cases g;cases f;rcases i with⟨h1,h2⟩|⟨h1,h2⟩
 .exact(BB I h1 h2 c ∅).2 _ _ _ _ ⟨.bl _,H,I,rfl,q⟩
 .exact(CM I h1 h2 c ∅).2 _ _ _ _ ⟨.bl _,H,I,rfl,q⟩
def Ox(K:ax):V->List V->Hp->VK->Prop:=λx a H Q=>∃(p:ae) (xs:List V) (y:V),x=.ref p/\a=[y]/\H p=aa (.lst xs)/\gh y=ah/\xs.all gh=ah/\Q (.int ((xs.countP λz=>eP z y:Nat):Int)) H
theorem Ip{y:V}{xs:List V}{a:List ai}(r:bC xs a)(f:xs.all gh=ah):a.countP (j0 y)=xs.countP λz=>eP z y:=by
 unfold bC at r
 induction r with
 |nil=>rfl
 |cons r _ g=>rw[qO,g9]at f;rw[List.countP_cons,List.countP_cons,ya r f.1,g f.2]
theorem NY:v9 X "list.count" (Ox X.K):=by
 intro B s l H x m v o Q I c d h;obtain⟨p,xs,y,rfl,rfl,i,j,b,q⟩:=h;cases c;obtain⟨u,rfl,f⟩:=d.one;obtain⟨z,a,n,r,A,e⟩:=I.lstM i;refine zE F.slot_list_count ⟨_,e,rfl⟩ F.entry_list_count (F.args_list_count_2 _ _) (SeqAt.list_countAt p a.toArray n af #[] u (j0 y)) ⟨e,λw g=>uT f j r b w (~~~g),?_⟩;exact⟨.int _,H,I.tok _,⟨_,by rw[JV,Ip r b]⟩,q⟩
def Ol(K:ax):V->List V->Hp->VK->Prop:=λx a H Q=>∃(p:ae) (xs:List V) (y:V),x=.ref p/\a=[y]/\cn K H p xs/\gh y=ah/\xs.all gh=ah/\Q (.int ((xs.countP λz=>eP z y:Nat):Int)) H
theorem K9:v9 X "tuple.count" (Ol X.K):=by
 intro J s C H x D v E Q I i j h;obtain⟨p,xs,y,rfl,rfl,o,z,d,q⟩:=h;cases i;obtain⟨u,rfl,l⟩:=j.one;obtain⟨a,r,⟨⟨B,A,f,g⟩,e,c,n,b⟩,G⟩:=I.tuple o;simp only at c b;subst c b;refine zE F.slot_tuple_count ⟨_,e,rfl⟩ F.entry_tuple_count (F.args_tuple_count_2 _ _) (SeqAt.tuple_countAt p a.toArray n A g u (j0 y)) ⟨e,λw m=>uT l z r d w (~~~m),?_⟩;exact⟨.int _,H,I.tok _,⟨_,by rw[JV,Ip r d]⟩,q⟩
def QC:V->List V->Hp->VK->Prop:=λx a H Q=>∃(p:ae) (xs:List V) (y:V) (j:Nat),x=.ref p/\a=[y]/\H p=aa (.lst xs)/\gh y=ah/\xs.all gh=ah/\j<xs.length /\
 (∀z,xs[j]?=aa z->eP z y=ah)/\(∀(i:Nat) z,i<j->xs[i]?=aa z->eP z y=ak)/\Q (.int j) H
theorem Rm:v9 X "list.index" QC:=by
 intro ag s T H x W v Y Q I o A h;obtain⟨p,xs,y,j,rfl,rfl,L,O,g,hj,N,M,q⟩:=h;cases o;obtain⟨u,rfl,B⟩:=A.one;obtain⟨z,a,n,r,hl,e⟩:=I.lstM L;have Z:=sy;have c:∀(i:Nat) (J:i<a.toArray.size),∃w,xs[i]?=aa w/\j0 y a.toArray[i]=eP w y:=λi J=>by
  have D:i<a.length:=by trivial
  have l:xs[i]?=aa xs[i]:=eD ⋯;obtain⟨w,b,C⟩:=r.get l;have S:a[i]=w:=by rw[eD D]at b;exact fe b
  refine⟨_,l,?_⟩;have P:gh xs[i]=ah:=k9.mp g _ (ww _);rw[<-ya C P];simp[S]
 refine zE F.slot_list_index ⟨_,e,rfl⟩ F.entry_list_index (F.args_list_index_2 _ _) (SeqAt.list_indexAt p a.toArray n af #[] u (j0 y) j (by simp;simp_all) ∅ ?_ ?_) ⟨e,λw E=>uT B O r g w (~~~E),?_⟩
 .obtain⟨w,b,d⟩:=c j (by simp;simp_all);rw[d];exact N w b
 .intro m G f;obtain⟨w,b,d⟩:=c m G;rw[d];exact M m w f b
 .exact⟨.int _,H,I.tok _,⟨_,rfl⟩,q⟩
end
noncomputable abbrev Tx:=List Nat
noncomputable def tS(l:Tx):Str:=⟨l.toArray⟩
def tV(l:Tx):V:=.str (tS l)
def cm(a:List Tx):List V:=a.map tV
theorem lz(l:Tx):(tS l).cps.toList=l:=by rfl
theorem mf(l:Tx):(tS l).length=l.length:=by rfl
theorem vq(z:Str):tS z.cps.toList=z:=by rfl
theorem sv(h:tS a=tS b):a=b:=by rw[<-lz a,h,lz]
theorem OF(h:tV a=tV b):a=b:=sv (V.str.inj h)
theorem y6(a:List Tx):(cm a).length=a.length:=cG _
noncomputable def dj(a b:Tx):Bool:=decide (a<=b)
def aS(ls:List Tx):List Tx:=ls.mergeSort dj
theorem Gi(a b c:Tx)(f:dj a b=ah)(d:dj b c=ah):dj a c=ah:=by simp only[dj,decide_eq_true_eq]at *;exact List.le_trans f d
theorem N7(a b:Tx):(dj a b||dj b a)=ah:=by simp only[dj,Di,decide_eq_true_eq];exact List.le_total a b
theorem R4(d:dj a b=ah)(c:dj b a=ah):a=b:=by simp only[dj,decide_eq_true_eq]at *;exact List.le_antisymm d c
theorem fj(ls:List Tx):(aS ls).Perm ls:=Dj _ _
theorem sV(ls:List Tx):(aS ls).Pairwise (λa b=>dj a b=ah):=JW Gi N7 _
theorem yU(ls:List Tx):(aS ls).length=ls.length:=(fj ls).length_eq
theorem vQ{d:List Tx}(g:d.Perm c)(f:d.Pairwise (λa b=>dj a b=ah)):d=aS c :=JX (le:=λa b=>dj a b=ah) (λ_ _ _ _ i h=>R4 i h) f (sV c) (g.trans (fj c).symm)
theorem qw{ls:List Tx}(c:ls.Pairwise (λa b=>dj a b=ah)):aS ls=ls:=(vQ (tY ls) c).symm
theorem rV{a:List Tx}(c:a.Perm b):aS a=aS b:=vQ ((fj a).trans c) (sV a)
theorem Gh:∀(p:Str) (l:List Str),risingS p l=ah->(p::l).Pairwise (λa b=>dj a.cps.toList b.cps.toList=ah)
 |p,[],_=>List.pairwise_singleton _ _
 |p,x::r,h=>by
  have d:(!ltCps x.cps.toList p.cps.toList&&risingS x r)=ah:=h;rw[g9,ltCps_eq]at d;have q:=Gh x r d.2;have f:dj p.cps.toList x.cps.toList=ah:=by
   simp only[dj,decide_eq_true_eq]
   grind
  refine List.pairwise_cons.mpr ⟨λy c=>?_,q⟩;rcases bZ.mp c with rfl|c
  .trivial
  .exact Gi _ _ _ f (List.rel_of_pairwise_cons q c)
theorem IU(h:sortedS c=ah):(c.map λz=>z.cps.toList).Pairwise (λa b=>dj a b=ah):=by
 rw[pe];cases c with
 |nil=>simp
 |cons x r=>exact Gh x r h
theorem xD{a:List Tx}{b:List ai}(r:bC (cm a) b):cL b (a.map tS):=by
 induction a generalizing b with
 |nil=>cases r;exact .nil
 |cons l a g=>
  cases r with
  |cons e r=>obtain⟨t,rfl⟩:=e;exact .cons _ t (g r)
theorem Hq{b:List Str}{a:List ai}(h:cL a b):bC (cm (b.map λz=>z.cps.toList)) a:=by
 induction h with
 |nil=>exact .nil
 |cons y t _ g=>exact .cons ⟨t,by rw[vq]⟩ g
section
variable{A:aV}
theorem OJ(x:ar (aw P w) A.in1 (collect v) (λd s1=>∃ss:List Str,cL d ss/\d.length<64/\∀(h:aB) (out:Array ai) (f:List Str) (e:Nat),(∀b o,s1.heap.get? b=aa o->h.get? b=aa o) -> h.get? s1.heap.objs.size=aa (f8 "list" out e)->cL out.toList f->f.Perm ss->sortedS f=ah->Q (.ref s1.heap.objs.size) {s1 with heap:=h}) E s):ar (aw P w) A (call (.builtin "sorted") [v]) Q E s:=by refine JY kind_sorted plain_sorted entry_sorted (args_sorted1 _) ?_;unfold JZ;refine aq (m:=checkCount "sorted" 1 1 _) (aE ?_);refine aq (aT x λd s1 ⟨ss,l,p,i⟩=>?_);refine aq (Dk ?_);have g:(s1.heap.push (f8 "list" d.toArray 0)).get? s1.heap.objs.size=aa (f8 "list" d.toArray 0):=cP _ rfl;refine aq (iI (k8 slot_list_sort ⟨_,g,rfl⟩ entry_list_sort (list_sort_treeK strKind_oneLt g l.keysOf (λa b c e=>keyKind_strs (by rw[<-e];trivial)) p λy r q=>⟨_,rfl,?_⟩) (args_list_sort _)));obtain⟨f,C,B,z⟩:=sorted_out_str l r q;obtain⟨e,u⟩:=sortedHeap_at (out:=(arrOf y).map (·.2)) g;refine aE ⟨_,rfl,i _ _ f e (λb o j=>?_) u C B z⟩;have n:b<s1.heap.objs.size:=bG j;rw[sortedHeap_old (dq n) (by rw[lR];exact wx n)];exact bL _ j
end
section
theorem Inv.sorted{a:List Tx}{d:aB}(I:Inv X g f H s1)(i:ss=a.map tS)(p:a.length<64)(k:∀b o,s1.heap.get? b=aa o->d.get? b=aa o) (q:d.get? s1.heap.objs.size=aa (f8 "list" out e)) (n:cL out.toList c) (m:c.Perm ss) (l:sortedS c=ah):Inv X g f (upd H s1.heap.objs.size (.lst (cm (aS a)))) {s1 with heap:=d}:=by
 have j:c.map (λz=>z.cps.toList)=aS a:=by
  refine vQ ?_ (IU l);have:=m.map λz=>z.cps.toList;rw[i,cR]at this;have r:(a.map ((λz:Str=>z.cps.toList) ∘ tS))=a:=by simp[lS,lz]
  simp_all
 have h:bC (cm (aS a)) out.toList:=by rw[<-j];exact Hq n
 refine I.laid (t':=s1.toks) k (bn _) ⟨?_,out.toList,e,h,?_⟩
 .rw[y6,yU];exact kw (HL ∅)
 trivial
theorem Pd(z:Tx)(n:Nat):Txt.mul (tS z) (n:Int)=tS (dQ n z).flatten:=by
 unfold Txt.mul;cases n with
 |zero=>rfl
 |succ n=>
  rw[if_neg ∅];split
  .rename_i h;simp only[Di,beq_iff_eq]at h;rcases h with h|h
   .have:n=0:=∅
    subst this;simp
   .rw[mf]at h;simp_all
  .unfold tS;congr 1;have b:∀(k:Nat) (a:Array Nat),(dQ k z.toArray).foldl (·++·) a=a++(dQ k z).flatten.toArray:=by
    intro k
    induction k with
    |zero=>simp
    |succ k c=>grind
   simp_all
theorem Rc:b_ X (ji .Mult) (λx y H Q=>∃(z:Tx) (n:Nat),x=tV z/\y=.int n/\n<=100/\z.length<=100/\Q (tV (dQ n z).flatten) H):=by
 intro r s j H x y v u Q I c b h;obtain⟨z,n,rfl,rfl,f,d,q⟩:=h;obtain⟨t,rfl⟩:=c;obtain⟨m,rfl⟩:=b;refine SB.mul ?_ λl k=>?_
 .have o:z.length*n<=10000:=cV (Dl d f) (by simp);refine⟨by lia,λi _=>?_,λi _=>?_⟩
  .rw[mf];intro g;have p:(2^63-1:Int) / n ≥ (2^63-1) / 100:=by
    have a:(0:Int)<n:=∅
    apply (Int.le_ediv_iff_mul_le a).mpr;lia
   lia
  .rw[mf,mI];unfold Builtin.Str.tooLong;apply decide_eq_false;have:10000<bq:=by trivial
   lia
 .rw[Pd];exact⟨tV _,H,I.tok _,⟨_,rfl⟩,q⟩
end
theorem Pi(t:cq)(j:Nat):(t.put j).1.led=t.led/\(t.put j).1.plain=t.plain:=⟨rfl,rfl⟩
theorem Lr(t:cq)(n:Nat):(t.orStandIn n).led=t.led/\((t.orStandIn n).plain=t.plain\/(t.orStandIn n).plain=ak):=by
 unfold SetTable.orStandIn;split
 .simp
 .exact⟨rfl,.inr rfl⟩
theorem My(t:cq)(c:Array (Int×ai))(h:Int)(x:ai):(layNew t c h x).2.1.led=t.led/\((layNew t c h x).2.1.plain=t.plain\/(layNew t c h x).2.1.plain=ak):=by
 unfold layNew;split
 .rename_i a b _;have f:=Pi t a;have d:=Lr (t.put a).1 (qS c (t.put a).2 (h,x)).size;ac_rfl
 .exact⟨rfl,.inr rfl⟩
theorem QX(t:cq)(c:Array (Int×ai))(a:Nat)(d:t.plain=ak):(tZ t c a).2.1.led=t.led/\(tZ t c a).2.1.plain=ak:=by
 unfold tZ;split
 .rename_i t' b e;have q:t'.led=t.led/\t'.plain=t.plain:=by
   unfold SetTable.relaid Dm at e;cases q:Do (J0 a-1) (c.map (·.1))with
   |none=>rw[q]at e;cases e
   |some f=>rw[q]at e;cases e;simp
  dsimp only;split
  .exact⟨q.1,q.2.trans d⟩
  trivial
 trivial
noncomputable def ej(w:aI):Bool:=w.params.followText "set-order"
inductive SF(P:aP)(w:aI)(h:aB)(a:ae)(ks:List Str):Prop
 |mk (es:Array (Int×ai)) (ep:Nat) (t:cq) (ss:List Str) (e:h.get? a=aa {cls:=.type "set",dict:=af,data:=.set es ep t}) (hS:cL (es.toList.map (·.2)) ss) (hp:ss.Perm ks) (hel:ElemsOf (f9 P w) es.toList) (hsz:es.size<4090) (hf:t.fits es.size=ah) (hl:t.led=(!ej w)) (hq:ks≠[]->t.plain=ak)
structure k6(P:aP)(w:aI)(h:aB)(a:ae)(ks:List Str):Prop where
 ex:SF P w h a ks
theorem k6.at{h':aB}(S:k6 P w h a ks)(k:∀o,h.get? a=aa o->h'.get? a=aa o):k6 P w h' a ks:=by obtain⟨es,ep,t,ss,e,j,i,g,f,d,c,b⟩:=S.ex;exact⟨es,ep,t,ss,k _ e,j,i,g,f,d,c,b⟩
theorem HC:∀{a:List ai}{b:List Str},cL a b->∀x,x∈b↔∃t,Value.str x t∈a
 |_,_,.nil,x=>by simp
 |_,_,.cons y t h,x=>by
  rw[bZ,HC h x]
  grind
theorem A6:∀{a b:List ai},a.Perm b->∀{c:List Str},cL b c->∃d,cL a d/\d.Perm c:=by intro a b p c h;refine⟨a.map strOf,strsAre_map a λv f=>h.all v (p.mem_iff.mp f),?_⟩;have:=p.map strOf;rwa[h.strs]at this
section
variable{s:ao}
def ko(ks:List Str)(x:Str):List Str:=if x∈ks then ks else ks++[x]
theorem k6.put{h:aB}(e:h.get? a=aa {cls:=.type "set",dict:=af,data:=.set c b t}):(h.update a (Obj.putSet es' t')).get? a=aa {cls:=.type "set",dict:=af,data:=.set es' (b+1) t'}:=by have:=mE (Obj.putSet es' t') e (by rfl);trivial
theorem MI(S:k6 P w s.heap a ks)(hn:ks.length<4000)(h:∀l b,j4 a s.heap l->k6 P w l a (ko ks x)->Q b {s with heap:=l}):ar (aw P w) A (Dp a (.str x g) ((f9 P w).hash x)) Q E s:=by
 obtain⟨m,ep,t,ss,J,M,hp,v,hsz,hf,mT,dw⟩:=S.ex;have isD:∀y t',(f9 P w).is x (.str y t')=decide (y=x):=λy t'=>by rfl
 have lf:(f9 P w).is x (.str x g)=ah:=by rw[isD];simp
 have hb:m.size<scanBound:=tP hsz (by decide);unfold Dp setAddHashedIn;refine iI (aq (lT J rfl hf ?_));dsimp only;rw[byScan_of (knd:=f9 P w) (x:=.str x g) rfl hb v];simp only[if_true];unfold setAddByScan;refine aq (aq (mJ (aq (wpAny_setScan_of lf J rfl hf v ?_))));have D:x∈ks↔∃e∈m.toList,(f9 P w).is x e.2=ah:=by
  rw[<-hp.mem_iff,HC M x];constructor
  .grind
  .rintro⟨e,he,q⟩;obtain⟨y,t',ey⟩:=M.all e.2 (bU.mpr ⟨e,he,rfl⟩)
   grind
 have klen:ks.length=m.size:=by
  have O:=hp.length_eq;have N:ss.length=m.size:=by rw[<-M.strs];simp
  simp_all
 cases hr:List.findIdx? (λe=>(f9 P w).is x e.2) m.toList with
 |some j=>dsimp only;obtain⟨hj,hpj,_⟩:=Vf.mp hr;have hx:x∈ks:=D.mpr ⟨_,ww hj,hpj⟩;refine aE (aE ?_);exact h s.heap _ (J1 a s.heap) (by unfold ko;rw[if_pos hx];exact S)
 |none=>
  dsimp only;have hx:¬x∈ks:=λhm=>by
   grind
  have F:∀(b:Bool) {i:ao}{Q':Unit->ao->Prop},Q' () i->ar (aw P w) A (match b with|ah=>rule "set.scan.the-table-gave-way" |ak=>pure ()) Q' E i :=
   λb i Q' hq=>by cases b <;> first|exact aE hq|exact mJ hq
  have C:=layNew_perm t m ((f9 P w).hash x) (.str x g);have T:=layNew_fits t m ((f9 P w).hash x) (.str x g);have X:=My t m ((f9 P w).hash x) (.str x g);generalize hL:layNew t m ((f9 P w).hash x) (.str x g)=L at C T X ⊢;obtain⟨c,Z,f,gave⟩:=L;dsimp only at C T X ⊢;rw[t4]at C;have p:ElemsOf (f9 P w) c.toList:=(v.push lf rfl).perm C;have En:c.size=m.size+1:=by have:=C.length_eq;simpa using this
  have hS1:∃B,cL (c.toList.map (·.2)) B/\B.Perm (ko ks x):=by
   have p1:=C.map (λe:Int×ai=>e.2);rw[tX]at p1;have q1:cL (m.toList.map (·.2)++[Value.str x g]) (ss++[x]):=by
    have gen:∀{Y:List ai}{W:List Str},cL Y W->cL (Y++[Value.str x g]) (W++[x]):=by
     intro Y W hh
     induction hh with
     |nil=>exact .cons x g .nil
     |cons y t _ ih=>exact .cons y t ih
    exact gen M
   obtain⟨B,I,H⟩:=A6 p1 q1;refine⟨B,I,H.trans ?_⟩;unfold ko;rw[if_neg hx];exact hp.append_right _
  obtain⟨B,I,H⟩:=hS1;have cz:ko ks x≠[]:=by unfold ko;simp_all
  have o:∀d:cq,d.fits c.size=ah->d.led=(!ej w)->d.plain=ak->ar (aw P w) A (do
    storeSet a c d
    if(!f&&d.tooFull)=ah then do
      (match (tZ d c (nR c.size)).2.2 with|ah=>rule "set.scan.the-table-gave-way" |ak=>pure ())
      storeSet a (tZ d c (nR c.size)).1 (tZ d c (nR c.size)).2.1
      pure (aa ah)
     else pure (aa ah)) (λr s'=>∃l,r=aa ah/\s'={s with heap:=l}/\j4 a s.heap l/\k6 P w l a (ko ks x)) E s:=by
   intro d hf2 jK gM;refine aq (Dq J rfl ?_ (Dr (tP (show c.size<4090 by lia) (by decide))));have o1:=k6.put (es':=c) (t':=d) J;have iR:=mK s.heap a (Obj.putSet c d);split
   .have G:=relayAll_perm d c (nR c.size);have u:=relayAll_fits d c (nR c.size);have n:=QX d c (nR c.size) gM;generalize hRl:tZ d c (nR c.size)=Rl at G u n ⊢;obtain⟨z,t3,gave2⟩:=Rl;dsimp only at G u n ⊢;have hsz2:z.size=c.size:=by have:=G.length_eq;trivial
    refine aq (F _ ?_);refine aq (Dq o1 rfl ?_ (Dr (tP (show z.size<4090 by lia) (by decide))));obtain⟨ss2,u1,u2⟩:=A6 (G.map (λe:Int×ai=>e.2)) I;refine aE ⟨_,rfl,rfl,iR.trans (mK _ a _),⟨z,_,t3,ss2,k6.put o1,u1,u2.trans H,p.perm G,∅,u,n.1.trans jK,λ_=>n.2⟩⟩
   .exact aE ⟨_,rfl,rfl,iR,⟨c,_,d,B,o1,I,H,p,∅,hf2,jK,λ_=>gM⟩⟩
  have KD:Z.led=(!ej w):=X.1.trans mT;refine aq (F _ ?_);split
  .refine aq ?_;rw[hashByValue_scannable 8 (x:=.str x g) rfl];refine aE ?_;have hk:plainKind (.str x g)=ak:=rfl;rw[hk];simp only[fg,if_false];refine aT (o {Z with plain:=ak} (SetTable.fits_plain_off T) KD rfl) λr s' ⟨l,O,N,e3,e4⟩=>?_;subst O N;exact aE (h l _ e3 e4)
  .rename_i Eo;refine aq (aE ?_);simp only[if_true];refine aT (o Z T KD (~~~Eo)) λr s' ⟨l,O,N,e3,e4⟩=>?_;subst O N;exact aE (h l _ e3 e4)
end
def met(val:Nat->Str)(i:Nat):List Str:=((cF i).map val).foldl ko []
theorem HB(val:Nat->Str)(i:Nat):met val (i+1)=ko (met val i) (val i):=by unfold met;rw[qR,tX,Ds];rfl
theorem GC(val:Nat->Str):∀{j:Nat},i<=j->(met val i).length<=(met val j).length
 |0,h=>⋯
 |j+1,h=>by
  by_cases e:i=j+1
  .subst e;simp
  .refine cV (GC val (j:=j) ∅) ?_;rw[HB];unfold ko;split
   all_goals simp
section
variable{P:aP}{w:aI}{A:aV}{R:Result->ao->Prop}{I:ae}{c a:List ae}{G:Array GenState->Array GenState->Prop}{n:Nat}{d:Nat->ai->Prop}{St:Nat->ao->Prop}
theorem Gb(W:WalksS P w A.in1 I c a G n d St)(S:ae)(C:S∉c){J:Nat->aB->Prop}(L:∀i h j,J i h->(∀b o,b∉a->h.get? b=aa o->j.get? b=aa o)->J i j)(O:∀(i:Nat) (v:ai) (s:ao) (E:ai->ao->Prop) (Q:Bool->ao->Prop),i<n->d i v->J i s.heap->(∀j r b,s.toks<=r->j4 S s.heap j->J (i+1) j->Q b {s with heap:=j,toks:=r})->ar (aw P w) A.in1 (setAdd S v) Q E s):∀(k i:Nat) (s:ao),n-i=k->i<=n->St i s->J i s.heap -> (∀f,Moved (S::a) G s f->J n f.heap->R (.ok (.ret .none)) f)->mD (aw P w) A (.builtin "set.update.loop" ⟨[.ref S,.ref I],[]⟩) R s:=by
 have Y:S∉a:=λh=>C (W.sub _ h);have F:∀b∈a,b∈S::a:=λb g=>gZ _ g;intro k
 induction k with
 |zero=>
  intro i s T X z x y;obtain rfl:i=n:=∅
  refine wy Vg ?_;rw[zL J2 _];show ar _ A.in1 (mC (.ref I) >>= _) _ _ s;refine aq (W.done s _ _ z λf p=>?_);show ar _ A.in1 (ret Value.none) _ _ f;exact aE (y f (p.mono F) (L _ _ _ x λb o g e=>p.heap b o g e))
 |succ k N=>
  intro i s T X z x y;have B:i<n:=∅
  refine wy Vg ?_;rw[zL J2 _];show ar _ A.in1 (mC (.ref I) >>= _) _ _ s;refine aq (W.item i s _ _ B z λv f Z l p=>?_);show ar _ A.in1 (j5 [v] (setAdd S v) >>= _) _ _ f;refine aq (iI (O i v f _ _ B Z (L _ _ _ x λb o g e=>p.heap b o g e) λj r b D H M=>?_));refine aE ⟨Dt J2 _,N (i+1) _ ∅ B (W.frame _ f _ _ l D λb g o e=>?_) M λu m q=>?_⟩
  .rw[H.2 b (λh:b=S=>C ⋯)];exact e
  .refine y u (Moved.trans W.gtrans ((p.mono F).then_heap D λb o g e=>?_) m) q;rw[H.2 b (λh:b=S=>g ⋯)];exact e
end
section
variable{s:ao}
theorem OR(a:ai) (h:k6 P w (s.heap.push {cls:=.type "set",dict:=af,data:=.set #[] 0 (.fresh 0 0 (!ej w))}) s.heap.objs.size [] -> Q (.ref s.heap.objs.size) {s with heap:=s.heap.push {cls:=.type "set",dict:=af,data:=.set #[] 0 (.fresh 0 0 (!ej w))}}):mD (aw P w) A (.call (.builtin "set.__new__") ⟨[.type "set",a],[]⟩) (wants Q E) s:=by
 refine codeAny_of_tree ?_;show ar _ A.in1 (do J3 "set.__new__" ⟨[.type "set",a],[]⟩;again (.builtin "set.__new__" ⟨[.type "set",a],[]⟩)) _ _ s;refine aq (nU (PySem.F.newCall_set_1 a) (aE ⟨Dt F.plain_set_new _,wy F.entry_set_new ?_⟩));rw[zL F.plain_set_new _];unfold Builtin.«set.__new__» Builtin.Frozenset.newClass;have f:=sub_set_self;obtain⟨j,g,d,c,i⟩:=s;dsimp only
 wp_walk
 refine t5 (aE ?_);dsimp only;simp only[newObj];refine aq (wpAny_alloc (aE ?_));refine aE (h ⟨#[],0,_,[],cP _ rfl,.nil,tY _,λe b=>by simp at b,by decide,rfl,rfl,λh=>absurd rfl h⟩)
end
end L2
set_option maxHeartbeats 8000000
namespace L2
theorem Ln:entryFor table "set.__iter__"=aa Builtin.«frozenset.__iter__»:=entryFor_alias (id':="frozenset.__iter__") (by kernel_rfl) rfl (by decide +kernel) (by kernel_rfl)
theorem FY:Slot "set_iterator" "__next__" "set_iterator.__next__" :=
 .of (owner:="set_iterator") (n:="__next__") (by rw[typeLookup_type,builtinLookup_eq_fast];kernel_rfl) (by decide +kernel) (by decide +kernel) (by decide +kernel) (by first|exact .inl (by decide +kernel)|exact .inr (by decide +kernel)) (by rw[isSubtype_type];kernel_rfl)
theorem O8:entryFor table "set_iterator.__next__"=aa Builtin.«set_iterator.__next__»:=entryFor_of_fast (by kernel_rfl)
theorem Qw(a:ai):argsOk "set_iterator.__next__" ⟨[a],[]⟩:=by unfold argsOk;kernel_rfl
theorem EG:Slot "set_iterator" "__iter__" "set_iterator.__iter__" :=
 .of (owner:="set_iterator") (n:="__iter__") (by rw[typeLookup_type,builtinLookup_eq_fast];kernel_rfl) (by decide +kernel) (by decide +kernel) (by decide +kernel) (by first|exact .inl (by decide +kernel)|exact .inr (by decide +kernel)) (by rw[isSubtype_type];kernel_rfl)
theorem Qu:entryFor table "set_iterator.__iter__"=aa Builtin.«dict_keyiterator.__iter__»:=entryFor_alias (id':="dict_keyiterator.__iter__") (by kernel_rfl) rfl (by decide +kernel) (by kernel_rfl)
theorem K4(a:ai):argsOk "set_iterator.__iter__" ⟨[a],[]⟩:=by unfold argsOk;kernel_rfl
noncomputable def kN(first:ai)(i:Nat)(a:ae)(n b:Nat):Obj:={cls:=.type "set_iterator",data:=.fields #[first,.int i 0,.ref a,.int n 0,.int b 0]}
section
variable{A:aV}{s:ao}
theorem xz(h:s.heap.get? I=aa (kN first i a n d))(c:Q (.ref I) s):ar (aw P w) A (nN (.ref I)) Q E s:=by
 have b:s.TypeIs (.ref I) "set_iterator":=⟨_,h,rfl⟩
 refine J4 b EG (k8 EG b Qu ?_ (K4 _));show ar _ _ (ret (.ref I)) _ _ s;exact aE ⟨_,rfl,"set_iterator",_,b,FY.lookup,c⟩
theorem pY(n:s.heap.get? a=aa {cls:=.type "set",dict:=af,data:=.set f g t})(m:t.fits f.size=ah)(l:s.heap.get? I=aa (kN first i a f.size g))(h:ar (aw P w) A.in1 (if let .int slot _:=first then do
    match <-nV a slot.toNat (i:Int).toNat (g:Int).toNat with
    |some (x,next)=>do
     lU (.ref I) 0 (dH next)
     lU (.ref I) 1 (dH ((i:Int)+1))
     ret x
    |none=>do lU (.ref I) 2 .none;wz (<-qT (.type "StopIteration") [])
   else do
    let aa places <-zM first|lV "internal:set_iterator"
    match places[(i:Int).toNat]? with
    |some (.int d _)=>do
     let x <-setNextDrawn a d.toNat (g:Int).toNat
     lU (.ref I) 1 (dH ((i:Int)+1))
     ret x
    |some _=>lV "internal:set_iterator"
    |none=>do lU (.ref I) 0 (dH 0);lU (.ref I) 2 .none;wz (<-qT (.type "StopIteration") []))
   (λc b=>∃r,c=.done (.ret r)/\Q (aa r) b) (λe b=>ar (aw P w) A (do if <-zN e (.type "StopIteration")then pure af else throw e) Q E b) s) :
  ar (aw P w) A (mC (.ref I)) Q E s:=by
 have j:s.TypeIs (.ref I) "set_iterator":=⟨_,l,rfl⟩
 unfold mC;refine aq (Du (wo (name:=tN "__next__") j FY (k8 FY j O8 ?_ (Qw _))));unfold Builtin.«set_iterator.__next__» slotArgs;refine aq (aE ?_);refine aq (wpAny_fieldsOf l rfl ?_);show ar _ _ (setEntries a >>= _) _ _ s;refine aq (wpAny_setEntries_of n rfl m ?_);have u:(((f.size:Nat):Int) != ((f.size:Nat):Int))=ak:=by simp
 rw[u];simp only[fg,if_false];refine ff ?_ (λc b q=>?_) (λe b q=>q) (Q:=λc b=>∃r,c=.done (.ret r)/\Q (aa r) b) (E:=λe b=>ar (aw P w) A (do if <-zN e (.type "StopIteration")then pure af else throw e) Q E b)
 .exact h
 .obtain⟨r,p,o⟩:=q;exact⟨r,p,aE o⟩
end
theorem CC{a:Type}:∀{l:List a}{i:Nat} (h:i<l.length),(l[i]::l.eraseIdx i).Perm l
 |[],i,h=>by simp at h
 |x::r,0,h=>by rfl
 |x::r,i+1,h=>by have q:=CC (l:=r) (i:=i) (~~~h);simp only[List.getElem_cons_succ,List.eraseIdx_cons_succ];exact(List.Perm.swap x _ _).trans (List.Perm.cons x q)
theorem Gj(next:Nat->Nat):∀(c k:Nat) (a:List d) (b:Array d),c=a.length->(pickOrder.go next c k a b).toList.Perm (b.toList++a)
 |0,k,a,b,h=>by have:a=[]:=Dh h.symm;subst this;simp[pickOrder.go]
 |c+1,k,a,b,h=>by
  have f:next k % a.length<a.length:=nW _ ∅
  unfold pickOrder.go;rw[eD f];dsimp only;have g:=Gj next c (k+1) (a.eraseIdx (next k % a.length)) (b.push a[next k % a.length]) (by grind)
  refine g.trans ?_;rw[t4,jH];exact zO _ (CC f)
theorem Ga(next:Nat->Nat)(xs:Array a):(zP next xs).toList.Perm xs.toList:=by
 have:=Gj next xs.size 0 xs.toList #[] (by rfl)
 trivial
section
variable{A:aV}{s:ao}
theorem RI(b:n≠0)(h:∀k d,k<n->Q k {s with drawn:=d}):ar (aw P w) A (choose a n) Q E s:=λc p hΓ=>by unfold choose;rw[Sem.wp_choose];refine⟨b,?_⟩;exact h _ _ (nW _ (Nat.pos_of_ne_zero b))
theorem Ge:∀(n:Nat) (xs:List b) (s:ao) (Q:List b->ao->Prop),n=xs.length->(∀a d,a.Perm xs->Q a {s with drawn:=d})->ar (aw P w) A (drawOrder n xs) Q E s
 |0,[],s,Q,_,h=>by unfold drawOrder;exact aE (h [] s.drawn (tY _))
 |0,x::xs,s,Q,hn,h=>by simp at hn
 |n+1,[],s,Q,hn,h=>by simp at hn
 |n+1,x::xs,s,Q,hn,h=>by unfold drawOrder;refine aq (RI (by simp) λk d c=>?_);rw[eD c];dsimp only;refine aq (Ge n ((x::xs).eraseIdx k) _ _ (by grind) λa g f=>?_);refine aE (h _ g ?_);exact(List.Perm.cons _ f).trans (CC c)
theorem xJ{Q:Option ai->ao->Prop}{R:Fin->ao->Prop}(f:A.handled=af)(g:∀c,(∀b o,s.heap.get? b=aa o->c.get? b=aa o)->Q af {s with heap:=c}):ar (aw P w) A.in1 (do wz (<-qT (.type "StopIteration") [])) R (λe d=>ar (aw P w) A (do if <-zN e (.type "StopIteration")then pure af else throw e) Q E d) s:=by refine aq ?_;simp only[qT,newTuple];refine aq (j8 ?_ (by size_fits));refine aq (m:=zQ _ _) (nU (a:=Value.none) (by trivial) ?_);refine j8 ?_ (by size_fits);simp only[wz];refine aq (wpAny_handled ?_);rw[show A.in1.handled=af from f];refine aq (aE (wpAny_throw ?_));refine aq (Dv (T:="StopIteration") (b:=ah) ⟨_,cP _ rfl,rfl⟩ isSubtype_stop ?_);exact aE (g _ λb o e=>bL _ (bL _ e))
theorem B8(c:s.heap.get? I=aa (kN first i a n f))(h:∀b,j4 I s.heap b->b.get? I=aa (kN d i a n f)->Q () {s with heap:=b}):ar (aw P w) A (lU (.ref I) 0 d) Q E s:=by refine mL c rfl (by simp) (h _ (mK ..) ?_);rw[mE _ c (by rfl)];rfl
theorem A7(c:s.heap.get? I=aa (kN first i a n d))(h:∀b,j4 I s.heap b->b.get? I=aa (kN first (i+1) a n d)->Q () {s with heap:=b}):ar (aw P w) A (lU (.ref I) 1 (dH ((i:Int)+1))) Q E s:=by refine mL c rfl (by simp) (h _ (mK ..) ?_);rw[mE _ c (by rfl)];rfl
theorem yi(c:s.heap.get? I=aa (kN first i a n d))(h:∀b,j4 I s.heap b->(∃o,b.get? I=aa o)->Q () {s with heap:=b}):ar (aw P w) A (lU (.ref I) 2 .none) Q E s:=by refine mL c rfl (by simp) (h _ (mK ..) ⟨_,mE _ c (by rfl)⟩)
noncomputable abbrev qj(a:Array (Int×ai))(b:Nat)(t:cq):Obj:={cls:=.type "set",dict:=af,data:=.set a b t}
theorem Ri{d:Array (Int×ai)}{f:Nat}{t:cq}(x:a≠I)(n:t.fits d.size=ah)(g:ej w=ah)(B:A.handled=af):Walks P w A I [I,a] [I] d.size (λi v=>((zP (w.params.setOrder a f) d).toList.map (·.2))[i]?=aa v) (λi h=>h.get? I=aa (kN (dH 0) i a d.size f)/\h.get? a=aa (qj d f t)):=by
 have hsz:(zP (w.params.setOrder a f) d).size=d.size:=by have:=(Ga (w.params.setOrder a f) d).length_eq;trivial
 have j:∀(s:ao) (i:Nat) (Q:Option (ai×Nat)->ao->Prop) (E:ai->ao->Prop),s.heap.get? a=aa (qj d f t) ->
   Q (((zP (w.params.setOrder a f) d)[i]?).map λe=>(e.2,0)) s->ar (aw P w) A.in1 (nV a (0:Int).toNat (i:Int).toNat (f:Int).toNat) Q E s:=λs i Q E u F=>by
  unfold nV;refine aq (lT u rfl n ?_);unfold zR;refine aq (aq (t5 (aE ?_)));show ar _ _ (if ej w=ah then _ else _) _ _ s;rw[if_pos g];simp only[mI,bne_self_eq_false,fg,if_false];unfold setWalk;refine aq (aq (lT u rfl n ?_));unfold zR;refine aq (aq (t5 (aE ?_)));show ar _ _ (if ej w=ah then _ else _) _ _ s;rw[if_pos g];refine aq (t5 (aE (aE ?_)));trivial
 refine⟨λb g=>⋯,λi h H c k=>⟨k I (by simp) _ c.1,k a (by simp) _ c.2⟩,λi s Q E G c l=>?_,λs Q E c l=>?_,λi s Q E c l=>xz c.1 l⟩
 .refine pY c.2 n c.1 ?_;refine aq (j s i _ _ c.2 ?_);have y:i<(zP (w.params.setOrder a f) d).size:=⋯
  rw[k_ y];dsimp only[wA];refine aq (B8 c.1 λq m D=>?_);refine aq (A7 (s:={s with heap:=q}) D λp r C=>?_);refine aE ⟨_,rfl,l _ p s.toks ?_ ⟨C,?_⟩ λb o g e=>?_⟩
  .rw[dY];simp[k_ y]
  .exact(r.2 a x).trans ((m.2 a x).trans c.2)
  .exact(r.2 b (~~~g)).trans ((m.2 b (~~~g)).trans e)
 .refine pY c.2 n c.1 ?_;refine aq (j s d.size _ _ c.2 ?_);rw[Array.getElem?_eq_none ∅];dsimp only[Option.map_none];refine aq (yi c.1 λq m _=>?_);exact xJ (s:={s with heap:=q}) B λp z=>l p s.toks λb o g e=>z b o ((m.2 b (~~~g)).trans e)
theorem U6{f:Array (Int×ai)}{J:Nat}{t:cq}{c:List Nat}(cz:a≠I)(hT:T≠I)(B:t.fits f.size=ah)(G:c.Perm (cF f.size))(Z:A.handled=af):Walks P w A I [I,a,T] [I] f.size (λi v=>(c.filterMap λj=>(f[j]?).map (·.2))[i]?=aa v) (λi h=>h.get? I=aa (kN (.ref T) i a f.size J)/\h.get? a=aa (qj f J t)/\h.get? T=aa {cls:=.type "tuple",data:=.seq (c.map λ(k:Nat)=>dH k).toArray}):=by
 have M:c.length=f.size:= ~~~G.length_eq
 have p:∀j∈c,j<f.size:=λj z=>by simpa using G.mem_iff.mp z
 have fm:∀(l:List Nat),(∀j∈l,j<f.size)->∀(i j:Nat),l[i]?=aa j->∃e:Int×ai,f[j]?=aa e/\(l.filterMap λj=>(f[j]?).map (·.2))[i]?=aa e.2:=by
  intro l
  induction l with
  |nil=>intro _ i j h;simp at h
  |cons x r O=>
   intro H i j h;have W:x<f.size:=H x (j3 ..);have D:f[x]?=aa f[x]:=k_ W;cases i with
   |zero=>simp at h;subst h;exact⟨_,D,by rw[nL,D];rfl⟩
   |succ i=>obtain⟨e,y,F⟩:=O (λj z=>H j (gZ _ z)) i j (by trivial);exact⟨e,y,by rw[nL,D];trivial⟩
 have g:∀(s:ao) (Q:Option (Array ai)->ao->Prop) (E:ai->ao->Prop),s.heap.get? T=aa {cls:=.type "tuple",data:=.seq (c.map λ(k:Nat)=>dH k).toArray}->Q (aa (c.map λ(k:Nat)=>dH k).toArray) s->ar (aw P w) A.in1 (zM (.ref T)) Q E s:=λs Q E X Y=>by exact wB X rfl Y
 refine⟨λb m=>by simp at m;simp[m],λi h h' d k=>⟨k I (by simp) _ d.1,k a (by simp) _ d.2.1,k T (by simp) _ d.2.2⟩,λi s Q E hi d q=>?_,λs Q E d q=>?_,λi s Q E d q=>xz d.1 q⟩
 .refine pY d.2.1 B d.1 ?_;refine aq (g s _ _ d.2.2 ?_);have L:i<c.length:=⋯
  have u:((c.map λ(k:Nat)=>dH k).toArray)[(i:Int).toNat]?=aa (dH (c[i]:Nat)):=by simp[L]
  dsimp only;rw[u];obtain⟨e,y,F⟩:=fm c p i c[i] (eD L);show ar _ _ (setNextDrawn a _ _ >>= _) _ _ s;refine aq ?_;unfold setNextDrawn;refine aq (lT d.2.1 rfl B ?_);simp only[mI,bne_self_eq_false,fg,if_false];rw[y];refine aE ?_;refine aq (A7 d.1 λC n e2=>?_);refine aE ⟨_,rfl,q _ C s.toks F ⟨e2,(n.2 a cz).trans d.2.1,(n.2 T hT).trans d.2.2⟩ λb o m e=>(n.2 b (~~~m)).trans e⟩
 .refine pY d.2.1 B d.1 ?_;refine aq (g s _ _ d.2.2 ?_);have u:((c.map λ(k:Nat)=>dH k).toArray)[(f.size:Int).toNat]?=af:=by simp[M]
  dsimp only;rw[u];refine aq (B8 d.1 λh1 S u=>?_);refine aq (yi (s:={s with heap:=h1}) u λC n _=>?_);exact xJ (s:={s with heap:=C}) Z λh3 N=>q h3 s.toks λb o m e=>N b o ((n.2 b (~~~m)).trans ((S.2 b (~~~m)).trans e))
theorem Me(j k:Nat):jI #[j] k=if j<k then 1 else 0:=by unfold jI;simp only[gi,fz,tR];rfl
theorem Mz{g:Array (Int×ai)}{n:Nat}{t:cq}(L:a≠I)(u:t.fits g.size=ah)(f:ej w=ak)(N:t.led=ah)(m:g.size=1)(T:A.handled=af):Walks P w A I [I,a] [I] 1 (λi v=>(g.toList.map (·.2))[i]?=aa v) (λi h=>h.get? I=aa (kN (dH (if i=0 then 0 else((t.place.getD 0 0:Nat):Int)+1)) i a g.size n)/\h.get? a=aa (qj g n t)):=by
 have y:t.place.size=1:=by simp only[SetTable.fits,g9,beq_iff_eq]at u;simp_all
 obtain⟨j,G⟩:=Array.size_eq_one_iff.mp y;have J:((t.place.getD 0 0:Nat):Int)=(j:Int):=by rw[G];rfl
 obtain⟨e,H⟩:=Array.size_eq_one_iff.mp m;have l:∀(s:ao) (d:Nat) (i:Nat) (Q:Option (ai×Nat)->ao->Prop) (E:ai->ao->Prop),s.heap.get? a=aa (qj g n t) ->
   Q (if j<d then af else aa (e.2,j+1)) s->ar (aw P w) A.in1 (nV a d i n) Q E s:=λs d i Q E W r=>by
  unfold nV;refine aq (lT W rfl u ?_);unfold zR;refine aq (aq (t5 (aE ?_)));show ar _ _ (if ej w=ah then _ else _) _ _ s;rw[if_neg (by rw[f];simp)];refine zS (λz=>absurd (show(!t.plain&&decide (g.size > 1))=ah from z) (by rw[m];simp)) (λ_=>?_);refine aq ?_;refine ff (Q:=λ_ D=>D=s) (E:=E) ?_ (λ_ D O=>?_) (λ_ _ x=>x)
  .refine zS (λz=>absurd (show(!t.led&&!g.isEmpty)=ah from z) (by rw[N];simp)) (λ_=>aE rfl)
  .subst O;rw[G,Me,H];by_cases M:j<d
   .rw[if_pos M]at r ⊢;exact aE r
   .rw[if_neg M]at r ⊢;exact aE r
 refine⟨λb f=>by simp at f;simp[f],λi h Z c k=>⟨k I (by simp) _ c.1,k a (by simp) _ c.2⟩,λi s Q E Y c p=>?_,λs Q E c p=>?_,λi s Q E c p=>xz c.1 p⟩
 .obtain rfl:i=0:=⋯
  refine pY c.2 u c.1 ?_;show ar _ _ (nV a (0:Int).toNat ((0:Nat):Int).toNat (n:Int).toNat >>= _) _ _ s;simp only[mI,Int.toNat_zero];refine aq (l s 0 0 _ _ c.2 ?_);rw[if_neg (nX j)];dsimp only;refine aq (B8 c.1 λm q C=>?_);refine aq (A7 (s:={s with heap:=m}) C λB F X=>?_);refine aE ⟨_,rfl,p _ B s.toks ?_ ⟨?_,?_⟩ λb o f e=>?_⟩
  .rw[H];rfl
  .rw[X,if_neg (by decide),J];rfl
  .exact(F.2 a L).trans ((q.2 a L).trans c.2)
  .exact(F.2 b (~~~f)).trans ((q.2 b (~~~f)).trans e)
 .refine pY c.2 u c.1 ?_;rw[if_neg (by simp),J];show ar _ _ (nV a ((j:Int)+1).toNat ((1:Nat):Int).toNat (n:Int).toNat >>= _) _ _ s;have C:((j:Int)+1).toNat=j+1:=by rfl
  rw[C,mI,mI];refine aq (l s (j+1) 1 _ _ c.2 ?_);rw[if_pos (J5 j)];dsimp only;refine aq (yi c.1 λm q _=>?_);exact xJ (s:={s with heap:=m}) T λB S=>p B s.toks λb o f e=>S b o ((q.2 b (~~~f)).trans e)
theorem yG:∀{a:List ai}{b:List Str} (i:Nat) (v:ai),cL a b->a[i]?=aa v->∃t,v=.str (b.getD i k7) t
 |_,_,i,v,.nil,h=>by trivial
 |_,_,0,v,.cons y t _,h=>by grind
 |_,_,i+1,v,.cons y t hr,h=>by simp only[List.getElem?_cons_succ]at h;obtain⟨c,e⟩:=yG i v hr h;exact⟨c,by trivial⟩
theorem Si{h:aB}(x:h.IsTuple l a):(h.push o).IsTuple l a:=let ⟨ob,e,r⟩:=x;⟨ob,bL _ e,r⟩
set_option maxRecDepth 100000 in
theorem Jk(hh:A.handled=af)(y:s.heap.IsList l a\/s.heap.IsTuple l a){J:Nat->aB->Prop}(hJ:∀i h d,J i h->(∀b o,b<=s.heap.objs.size->h.get? b=aa o->d.get? b=aa o)->J i d) (W:J 0 (s.heap.push {cls:=.type "set",dict:=af,data:=.set #[] 0 (.fresh 0 0 (!ej w))}))(iO:∀(i:Nat) (v:ai) (f:ao) (E:ai->ao->Prop) (Q:Bool->ao->Prop),i<a.size->a[i]?=aa v->J i f.heap->(∀d j b,f.toks<=j->j4 s.heap.objs.size f.heap d->J (i+1) d->Q b {f with heap:=d,toks:=j})->ar (aw P w) A.in1.in1.in1 (setAdd s.heap.objs.size v) Q E f)(h:∀(d:aB) (j:Nat),J a.size d->(∀b o,b<s.heap.objs.size->s.heap.get? b=aa o->d.get? b=aa o)->Q (.ref s.heap.objs.size) {s with heap:=d,toks:=j}):ar (aw P w) A (call (.type "set") [.ref l]) Q E s:=by
 obtain⟨c,tl,hmro⟩:=F.called_set.mro;have N:=F.called_set.made;have rg:=F.called_set.sub;refine zz (codeAny_of_tree ?_);show ar _ _ (callAny (.type "set") _) _ _ _;refine aE ⟨Code.quiet_builtin _ (by decide +kernel),wy F.entry_type_call ?_⟩;rw[Around.under_plain (weight_type_call_type "set" [.ref l] []) rfl];have h1:=F.called_set.notType;have h2:=F.called_set.canCreate;have hct:=PySem.F.typeCall_set_1 (.ref l)
 repeat any_goals (first|assumption|wp_step)
 refine qL (OR (P:=P) (w:=w) (.ref l) (E:=E) (Q:=λm f=>m=.ref s.heap.objs.size/\f={s with heap:=s.heap.push {cls:=.type "set",dict:=af,data:=.set #[] 0 (.fresh 0 0 (!ej w))}}/\True) λS0=>⟨rfl,rfl,trivial⟩) λr f M=>?_;cases r with
 |error e=>exact M
 |ok fl=>
  cases fl with
  |ret m=>
   obtain⟨rfl,rfl,S0⟩:=M;have hS:=cP (h:=s.heap) (o:=({cls:=.type "set",dict:=af,data:=.set #[] 0 (.fresh 0 0 (!ej w))}:Obj));have S:(s.heap.push {cls:=.type "set",dict:=af,data:=.set #[] 0 (.fresh 0 0 (!ej w))}).get? s.heap.objs.size=aa {cls:=.type "set",dict:=af,data:=.set #[] 0 (.fresh 0 0 (!ej w))}:=cP _ rfl;have hT:Shared.TypeIs {s with heap:=s.heap.push {cls:=.type "set",dict:=af,data:=.set #[] 0 (.fresh 0 0 (!ej w))}} (.ref s.heap.objs.size) "set":=⟨_,S,rfl⟩
   have hli:=F.called_set.init.lookup;have hbi:=F.called_set.init.bind (.ref s.heap.objs.size)
   repeat any_goals (first|assumption|wp_step)
   refine qL (codeAny_call_builtin (R:=wants (λr s2=>r=.none/\∃d j,s2={s with heap:=d,toks:=j}/\J a.size d /\ (∀b o,b<s.heap.objs.size->s.heap.get? b=aa o->d.get? b=aa o)) E) F.called_set.init.plain F.entry_set_init (check_set_init_1 hT ?_)) λr2 s2 C=>?_
   .rcases y with y|y
    all_goals
     obtain⟨⟨ocls,I,L,q⟩,pB,gc,u,Z⟩:=y;simp only at gc Z;subst gc;subst Z;have B:=bL ({cls:=.type "set",dict:=af,data:=.set #[] 0 (.fresh 0 0 (!ej w))}:Obj) pB;have hsls:=PySem.F.sub_list_set;have hslf:=PySem.F.sub_list_frozenset;have cz:(Value.type "list" == Value.type "dict")=ak:=by decide
     have hsl2:=PySem.F.sub_tuple_set;have hsl3:=PySem.F.sub_tuple_frozenset;have hn2:(Value.type "tuple" == Value.type "dict")=ak:=by decide
     unfold Builtin.«set.__init__» noKeywords Builtin.Frozenset.updateFrom;generalize T:nN=PI
     wp_walk
     subst T
     first|refine JU ⟨_,B,rfl,u,rfl⟩ (aq (wpAny_runValue ?_))|refine zT ⟨_,B,rfl,u,rfl⟩ (aq (wpAny_runValue ?_))
     have n:l<s.heap.objs.size:=bG pB;have p:A.in1.in1.in1.handled=af:=by simp[hh]
     have g:(s.heap.push {cls:=.type "set",dict:=af,data:=.set #[] 0 (.fresh 0 0 (!ej w))}).objs.size=s.heap.objs.size+1:=Dd ..;have KO:l≠(s.heap.push {cls:=.type "set",dict:=af,data:=.set #[] 0 (.fresh 0 0 (!ej w))}).objs.size:=by rw[g];exact dq (wx n)
     have Y:s.heap.objs.size∉[(s.heap.push {cls:=.type "set",dict:=af,data:=.set #[] 0 (.fresh 0 0 (!ej w))}).objs.size,l]:=by rw[g];simp only[bZ,kD,jl,or_false,not_or];exact⟨dq (J5 _),tL n⟩
     first|refine Gb (J:=J) (Walks.list p _ l KO a).toS s.heap.objs.size Y ?_ ?_ (a.size-0) 0 _ ∅ (jG _) ⟨⟨_,cP _ rfl,rfl,rfl⟩,Heap.IsList.push ⟨_,B,rfl,u,rfl⟩ _⟩ ?_ ?_|refine Gb (J:=J) (Walks.tuple p _ l KO a).toS s.heap.objs.size Y ?_ ?_ (a.size-0) 0 _ ∅ (jG _) ⟨⟨_,cP _ rfl,rfl,rfl⟩,Si ⟨_,B,rfl,u,rfl⟩⟩ ?_ ?_
     .exact λi h d O k=>hJ i h d O λb o z e=>k b o (by rw[g];simp only[kD];exact dq (Nat.lt_succ_of_le z)) e
     .exact λi v f E Q hi hv O hq=>iO i v f E Q hi hv O hq
     .exact hJ 0 _ _ W λb o _ e=>bL _ e
     intro s' x H;obtain⟨d,g',d',D,G⟩:=s';obtain rfl:g'=s.gens:=x.gens;obtain rfl:d'=s.drawn:=x.drawn;obtain rfl:G=s.os:=x.os;show ar _ _ _ _ _ _;refine aE ?_;show ar _ _ (ret Value.none) _ _ _;refine aE ⟨rfl,d,D,rfl,H,λb o z e=>x.heap b o ?_ (bL _ (bL _ e))⟩;rw[g];simp only[bZ,kD,jl,or_false,not_or];exact⟨dq z,dq (wx z)⟩
   .cases r2 with
    |error e=>exact C
    |ok X=>
     cases X with
     |ret r=>
      obtain⟨rfl,d,j,rfl,H,lY⟩:=C
      repeat any_goals (first|assumption|wp_step)
      exact h _ _ H lY
     |_=>exact C.elim
  |_=>exact M.elim
theorem PY{Q:ai->ao->Prop}(x:A.handled=af)(r:s.heap.IsList l a\/s.heap.IsTuple l a)(u:cL a.toList c)(z:(met (λi=>c.getD i k7) a.size).length<4000)(h:∀(d:aB) (j:Nat),k6 P w d s.heap.objs.size (met (λi=>c.getD i k7) a.size)->(∀b o,b<s.heap.objs.size->s.heap.get? b=aa o->d.get? b=aa o)->Q (.ref s.heap.objs.size) {s with heap:=d,toks:=j}):ar (aw P w) A (call (.type "set") [.ref l]) Q E s:=by
 refine Jk x r (J:=λi h=>k6 P w h s.heap.objs.size (met (λi=>c.getD i k7) i)) (λi h d S k=>S.at λo e=>k _ o (bn _) e)
  ⟨#[],0,_,[],cP _ rfl,.nil,tY _,λe y=>by simp at y,by decide,rfl,rfl,λh=>absurd rfl h⟩ (λi v f E Q m B S q=>?_) h
 obtain⟨t,rfl⟩:=yG i v u ⋯;unfold setAdd;refine iI ?_;have n:(f9 P w).is (c.getD i k7) (.str (c.getD i k7) t)=ah:=by show wb _ (.str _ t)=ah;simp[wb]
 refine aq ((f9 P w).pyHash (k:=c.getD i k7) n ?_);refine MI (s:={f with toks:=f.toks+1}) S (zH (GC _ (kw m)) z) λd b p g=>?_;rw[<-HB (λi=>c.getD i k7)]at g;exact q d _ b (wt _) p g
end
theorem Iz(h:n<=4096):n<bq:=zH h (by decide)
theorem Su:typeLookup (.type "set") "__len__"=pure (aa (.builtin "set.__len__")):=F.slot_set_len.lookup
section
variable{P:aP}{w:aI}{A:aV}{s:ao}
def su(w:aI)(h:aB)(a:ae)(b:Array (Int×ai)):Prop:=∃(c:Nat) (t:cq),h.get? a=aa {cls:=.type "set",dict:=af,data:=.set b c t}/\b.size<4090/\t.fits b.size=ah/\t.led=(!ej w)/\(b.size≠0->t.plain=ak)
theorem su.at{h':aB}(S:su w h a es)(k:∀o,h.get? a=aa o->h'.get? a=aa o):su w h' a es:=by obtain⟨ep,t,e,r⟩:=S;exact⟨ep,t,k _ e,r⟩
theorem k6.e(S:k6 P w h a ks):∃es ss,su w h a es/\cL (es.toList.map (·.2)) ss/\ss.Perm ks:=by
 obtain⟨es,ep,t,ss,f,c,b,i,hsz,g,d,l⟩:=S.ex;refine⟨es,ss,⟨ep,t,f,hsz,g,d,λj=>l λz=>j ?_⟩,c,b⟩;have n:=b.length_eq;have m:ss.length=es.size:=by rw[<-c.strs];simp
 simp_all
structure Hn(P:aP)(w:aI)(s s':ao)(a I:ae)(es:Array (Int×ai))(fp:List ae)(n:Nat)(Pv:Nat->ai->Prop)(St:Nat->aB->Prop):Prop where
 wk:∀A:aV,A.handled=af->Walks P w A I fp [I] n Pv St
 st:St 0 s'.heap
 old:∀b o,s.heap.get? b=aa o->s'.heap.get? b=aa o
 new:s.heap.objs.size<=I
 lt:∀b∈fp,b<s'.heap.objs.size
 rest:s'={s with heap:=s'.heap,drawn:=s'.drawn}
 ord:∀ay:Array ai,ItemsOf Pv ay n->ay.toList.Perm (es.toList.map (·.2))
 len:n<4090
 fps:∀b∈fp,b=a\/s.heap.objs.size<=b
theorem yE{l:List ai}(b:l.length=n)(h:ItemsOf (λi v=>l[i]?=aa v) a n):a.toList=l:=by
 refine pf λi=>?_;by_cases c:i<n
 .have:i<a.size:=by rw[h.1];trivial
  have q:=h.2 i a[i] (k_ this);rw[q];simp
 .rw[nY (by rw[iH,h.1];ac_rfl),nY ⋯]
theorem M8{d:Array (Int×ai)}{t:cq}(M:a≠I)(r:t.fits d.size=ah)(l:ej w=ak)(n:d.size=0)(F:A.handled=af):Walks P w A I [I,a] [I] 0 (λi v=>(d.toList.map (·.2))[i]?=aa v) (λi h=>h.get? I=aa (kN (dH 0) 0 a d.size g)/\h.get? a=aa (qj d g t)):=by
 have u:d=#[]:=Array.eq_empty_of_size_eq_zero n;have j:∀(s:ao) (f:Nat) (i:Nat) (Q:Option (ai×Nat)->ao->Prop) (E:ai->ao->Prop),s.heap.get? a=aa (qj d g t) ->
   Q af s->ar (aw P w) A.in1 (nV a f i g) Q E s:=λs f i Q E G C=>by
  unfold nV;refine aq (lT G rfl r ?_);unfold zR;refine aq (aq (t5 (aE ?_)));show ar _ _ (if ej w=ah then _ else _) _ _ s;rw[if_neg (by rw[l];simp)];refine zS (λp=>absurd (show(!t.plain&&decide (d.size > 1))=ah from p) (by rw[n];simp)) (λ_=>?_);refine aq ?_;refine ff (Q:=λ_ q=>q=s) (E:=E) ?_ (λ_ q y=>?_) (λ_ _ x=>x)
  .refine zS (λp=>absurd (show(!t.led&&!d.isEmpty)=ah from p) (by rw[u];simp)) (λ_=>aE rfl)
  .subst y;rw[u];have J:∀k:Nat,(#[]:Array (Int×ai))[k]?=af:=λk=>by rfl
   dsimp only;rw[J];exact aE C
 refine⟨λb l=>by grind,λi h L c k=>⟨k I (by simp) _ c.1,k a (by simp) _ c.2⟩,λi s Q E D c m=>absurd D (nX i),λs Q E c m=>?_,λi s Q E c m=>xz c.1 m⟩;refine pY c.2 r c.1 ?_;show ar _ _ (nV a (0:Int).toNat ((0:Nat):Int).toNat (g:Int).toNat >>= _) _ _ s;simp only[mI,Int.toNat_zero];refine aq (j s 0 0 _ _ c.2 ?_);dsimp only;refine aq (yi c.1 λn B _=>?_);exact xJ (s:={s with heap:=n}) F λH z=>m H s.toks λb o l e=>z b o ((B.2 b (~~~l)).trans e)
theorem Pj(S:su w s.heap a c)(h:∀x I B n C St,Hn P w s x a I c B n C St->Q (.ref I) x):ar (aw P w) A (nN (.ref a)) Q E s:=by
 obtain⟨L,t,l,hsz,p,mT,dw⟩:=S;have O:s.TypeIs (.ref a) "set":=⟨_,l,rfl⟩
 have pZ:=bG l;refine J4 O F.slot_set_iter (k8 F.slot_set_iter O Ln ?_ (F.args_set_iter_1 _));unfold Builtin.«frozenset.__iter__» Builtin.Frozenset.slot0 slotArgs Builtin.Frozenset.addrOf Builtin.Frozenset.sizeOf;refine aq (aE ?_);refine aq (aq (wpAny_setEntries_of l rfl p (aE ?_)));unfold setDrawn;refine aq (aq (lT l rfl p ?_));unfold zR;refine aq (aq (t5 (aE ?_)));refine aE ?_;have i:∀(first:ai) (u:ao) (B:List ae) (n:Nat) (C:Nat->ai->Prop) (St:Nat->aB->Prop),u.heap.get? a=aa {cls:=.type "set",dict:=af,data:=.set c L t} ->
   Hn P w s {u with heap:=u.heap.push (kN first 0 a c.size L)} a u.heap.objs.size c B n C St ->
   ar (aw P w) A.in1 (do
    let e <-setEpoch a
    let f <-newFields "set_iterator" [first,dH 0,Value.ref a,dH (c.size:Nat),dH (e:Nat)]
    ret f) (λi x=>∃v,i=Fin.done (Flow.ret v)/\∃X r,x.TypeIs v X/\typeLookup (Value.type X) (tN "__next__")=pure (aa r)/\Q v x) E u:=λfirst u B n C St Z W=>by
  refine aq (wpAny_setEpoch_of Z rfl p ?_);refine aq (j8 ?_);exact aE ⟨_,rfl,"set_iterator",_,⟨_,cP _ rfl,rfl⟩,FY.lookup,h _ _ B n C St W⟩
 refine zS (λH=>?_) (λH=>?_)
 .have Y:(!ej w&&(!t.plain&&decide (c.size > 1)))=ah:=H;refine aq (Ge c.size (cF c.size) s _ (by simp) λD d G=>?_);refine aq (wpAny_newTuple ?_ (hsz:=by rw[cG,G.length_eq,List.length_range];exact kw (Iz ∅)));refine i _ _ _ _ _ _ (bL _ l) ⟨λN q=>U6 (T:=s.heap.objs.size) (dq (by rw[lR];exact wx pZ)) (dq (by simp)) p G q,⟨cP _ rfl,?_,?_⟩,?_,?_,?_,rfl,?_,hsz,?_⟩
  .exact bL _ (bL _ l)
  .exact bL _ (cP _ rfl)
  .exact λb o e=>bL _ (bL _ e)
  .simp
  .intro b g;simp only[bZ,jl,or_false]at g;rw[lR,lR];rcases g with rfl|rfl|rfl
   .simp
   all_goals lia
  .intro M m;have e0:(D.filterMap λj=>(c[j]?).map (·.2))=(D.filterMap λj=>c[j]?).map (·.2):=by rw[J7]
   have y:(D.filterMap λj=>c[j]?).Perm c.toList:=by have:=G.filterMap λj=>c[j]?;rwa[filterMap_getElem?_range]at this
   rw[e0]at m;rw[yE (by rw[cG,y.length_eq];rfl) m];exact y.map _
  simp
 .have Y:¬(!ej w&&(!t.plain&&decide (c.size > 1)))=ah:=H;refine aq (aE ?_);cases g:ej w with
  |true=>
   refine i _ _ _ _ _ _ l ⟨λN q=>Ri (dq pZ) p g q,⟨cP _ rfl,bL _ l⟩,λb o e=>bL _ e,bn _,?_,rfl,?_,hsz,λb g=>?_⟩
   .intro b g;simp only[bZ,jl,or_false]at g;rw[lR];lia
   .intro M m;have y:=Ga (w.params.setOrder a L) c;rw[yE (by rw[cG,y.length_eq];rfl) m];exact y.map _
   grind
  |false=>
   have J:c.size=1\/c.size=0:=by lia
   rcases J with z|z
   .refine i _ _ _ _ _ _ l ⟨λN q=>Mz (dq pZ) p g ⋯ z q,⟨cP _ rfl,bL _ l⟩,λb o e=>bL _ e,bn _,?_,rfl,?_,by simp,λb g=>?_⟩
    .intro b g;simp only[bZ,jl,or_false]at g;rw[lR];lia
    .intro M m;rw[yE (by simp[z]) m]
    grind
   .refine i _ _ _ _ _ _ l ⟨λN q=>M8 (dq pZ) p g z q,⟨cP _ rfl,bL _ l⟩,λb o e=>bL _ e,bn _,?_,rfl,?_,by simp,λb g=>?_⟩
    .intro b g;simp only[bZ,jl,or_false]at g;rw[lR];lia
    .intro M m;rw[yE (by simp[z]) m]
    grind
theorem E2(H:A.handled=af)(S:su w s.heap a m)(h:∀(d:ao) (B:List ai),B.Perm (m.toList.map (·.2))->(∀b o,s.heap.get? b=aa o->d.heap.get? b=aa o)->d.gens=s.gens->d.os=s.os->Q B d):ar (aw P w) A (collect (.ref a)) Q E s:=by
 obtain⟨J,t,G,O,_⟩:=id S;have pZ:=bG G;unfold collect;refine aq (wpAny_runValue (wy F.entry_proto_collect ?_));rw[zL F.plain_proto_collect _];show ar _ A.in1 (newList [] >>= λl=>again (.builtin "list.__iadd__" ⟨[l,.ref a],[]⟩)) _ _ s;refine aq (j8 ?_);refine aE ⟨Dt F.plain_list_iadd _,wy F.entry_list_iadd ?_⟩;rw[zL F.plain_list_iadd _];show ar _ A.in1 (Builtin.List.listExtendWith (.ref s.heap.objs.size) (.ref a) (.ref s.heap.objs.size)) _ _ _;unfold Builtin.List.listExtendWith;have j:∀r:ao,r.heap.get? a=aa {cls:=.type "set",dict:=af,data:=.set m J t}->r.TypeIs (.ref a) "set":=λr e=>⟨_,e,rfl⟩
 have C:(s.heap.push {cls:=.type "list",data:=.seq ([]:List ai).toArray}).get? a=aa {cls:=.type "set",dict:=af,data:=.set m J t}:=bL _ G;refine aq (C8 (j _ C) ?_);have Y:Builtin.List.listSameRef (.ref s.heap.objs.size) (.ref a)=ak:=by have:¬(s.heap.objs.size=a):=tL pZ;simp[Builtin.List.listSameRef,this]
 rw[if_neg (by rw[Y];decide)];refine aq (Pj (S.at λo e=>bL _ e) λp I Z n Pv St W=>?_);have u:=W.old a _ C;refine aq (iI ?_);unfold Builtin.List.listLengthHint;refine aq (wq (j _ u) Su ?_)
 wp_delta
 refine aq (Dv (T:="set") (b:=ah) (j _ u) (by rw[isSubtype_type];rfl) ?_);show ar _ A.in1 (typeOf (Value.ref a) >>= _) _ _ _;refine aq (C8 (T:="set") (j _ u) ?_);refine aE ?_;rw[if_pos (by rfl)];refine aq (mJ ?_);have X:(s.heap.push {cls:=.type "list",data:=.seq ([]:List ai).toArray}).get? s.heap.objs.size=aa {cls:=.type "list",data:=.seq ([]:List ai).toArray}:=cP _ rfl;have i:=W.old _ _ X;unfold Builtin.List.listTouch;refine aq (aq (Dw i rfl ?_ (by simp) (by simp)));have g:=get?_update_seq i (λa:Array ai=>a.push Value.none);refine Dw g rfl ?_ (by trivial) (by simp);have y:=get?_update_seq g (λa:Array ai=>a.pop);have M:s.heap.objs.size∉Z:=λz=>by
  rcases W.fps _ z with q|q
  .simp_all
  .rw[lR]at q;lia
 have D:∀b o,b≠s.heap.objs.size->p.heap.get? b=aa o->(((p.heap.update s.heap.objs.size (kC λa=>a.push Value.none)).update s.heap.objs.size (kC λa=>a.pop))).get? b=aa o:=λb o f e=>by rw[J8 _ _ _ _ f,J8 _ _ _ _ f];exact e
 have fi:St 0 (((p.heap.update s.heap.objs.size (kC λa=>a.push Value.none)).update s.heap.objs.size (kC λa=>a.pop))):=(W.wk A.in1 H).frame 0 _ _ W.st λb f o e=>D b o (λz=>M (z ▸ f)) e;refine aE ⟨Dt F.plain_extend_loop _,codeAny_extend_loopS (W.wk A.in1 H).toS (kw (Iz (by have:=W.len;lia))) _ M _ n 0 _ _ _ rfl (jG _) fi y (ItemsOf.nil _) λd c c' v x N=>?_⟩;show ar _ A (load s.heap.objs.size >>= _) _ _ d;refine aq (wpAny_load x ?_);refine aE (h d c.toList (W.ord c N) (λb o e=>?_) ?_ ?_)
 .have L:=bG e;refine v.heap b o (λf=>?_) (D b o (dq L) (W.old b o (bL _ e)));rcases bZ.mp f with z|z
  .simp_all
  .rw[kD.mp z]at L;have:=W.new;rw[lR]at this;lia
 .rw[v.gens,W.rest]
 .rw[v.os,W.rest]
theorem PX(p:A.handled=af)(S:k6 P w s.heap a ks)(h:∀(c:ao) (d:List ai) (ss:List Str),cL d ss->ss.Perm ks->d.length<4090->(∀b o,s.heap.get? b=aa o->c.heap.get? b=aa o)->c.gens=s.gens->c.os=s.os->Q d c):ar (aw P w) A (collect (.ref a)) Q E s:=by
 obtain⟨r,ss,S,q,n⟩:=S.e;have m:r.size<4090:=by obtain⟨_,_,_,z,_⟩:=S;exact z
 refine E2 p S λc d pv l j i=>?_;obtain⟨u,g,f⟩:=A6 pv q;exact h c d u g (f.trans n) (by have:=pv.length_eq;simp_all) l j i
end
def dU(a:List Tx):List Tx:=a.foldl (λks x=>if x∈ks then ks else ks++[x]) []
theorem Fl(b:List Tx):met (λi=>(b.map tS).getD i k7) b.length=(dU b).map tS:=by
 have d:∀(l:List Tx) (a:List Tx),(l.map tS).foldl ko (a.map tS)=(l.foldl (λks x=>if x∈ks then ks else ks++[x]) a).map tS:=by
  intro l
  induction l with
  |nil=>intro a;rfl
  |cons x r f=>
   intro a;rw[cp,g_,g_];have:ko (a.map tS) (tS x)=(if x∈a then a else a++[x]).map tS:=by
    unfold ko;have j:tS x∈a.map tS↔x∈a:=by rw[bU];exact⟨λ⟨y,g,e⟩=>by rw[<-sv e];trivial,λh=>⟨x,h,rfl⟩⟩
    grind
   rw[this,f]
 have e:(cF b.length).map (λi=>(b.map tS).getD i k7)=b.map tS:=by
  refine pf λi=>?_;rw[dY];by_cases c:i<b.length
  .rw[Df c];simp[c]
  .rw[nY (~~~c),nY (~~~c)];rfl
 unfold met;rw[e];exact d b []
theorem G_(l a:List Tx):(a.Nodup->(l.foldl (λks x=>if x∈ks then ks else ks++[x]) a).Nodup)/\∀x,x∈l.foldl (λks x=>if x∈ks then ks else ks++[x]) a↔x∈a\/x∈l:=by
 induction l generalizing a with
 |nil=>simp
 |cons y r b=>
  rw[g_]
  grind
theorem UH(l:List Tx):(dU l).Nodup:=(G_ l []).1 tQ
theorem Bu(l:List Tx)(x:Tx):x∈dU l↔x∈l:=by rw[dU,(G_ l []).2 x];simp
section
variable{X:Cx}
def pN(X:Cx)(a:ae)(b:List Tx):HO:=.ext λh=>k6 X.prog X.w h a (b.map tS)
end
structure cB(K:ax)(mg:Str->Option ai)(x:Str)(st:bf):Prop where
 ex:∃f fd,mg x=aa (.ref f)/\pV K x x st f fd
theorem Hz(h:H p=af):Same H (upd H p o):=λb u q=>by rw[a6 (kM q h)];exact q
theorem sP{xs:List a}(b:0<=k)(h:k.toNat<xs.length):fE xs k=aa xs[k.toNat]:=by
 have e:((k.toNat:Nat):Int)=k:=∅
 have q:=SA (xs:=xs) (j:=k.toNat) (v:=xs[k.toNat]) (by simp);rwa[e]at q
noncomputable def AZ(N:List Str)(d a:dP)(x:Str)(c:List Str)(b:List Nat):Bool :=
 decide (a.kind=.function)&&a.names.all (λy=>(decide (y.2≠.cell)||decide (a.names.lookup y.1=aa .cell))&&(decide (y.2≠.local)||decide (a.names.lookup y.1=aa .local))&&(decide (y.2≠.free)||decide (d.names.lookup y.1=aa .cell)||decide (d.names.lookup y.1=aa .free)))
 && (decide (a.names.lookup x=aa .local)||decide (a.names.lookup x=aa .cell))&&decide c.Nodup&&decide (c.head?=aa x)&&decide (c.length=b.length+1)&&(b.zip c.tail).all λp=>(decide (N[p.1]?=aa p.2)&&decide (a.names.lookup p.2=aa .free))||(decide (N.length<=p.1)&&decide (a.names.lookup p.2=aa .local))
theorem iu.of{X:Cx}(N:List Str)(d:dP)(l:X.N=N)(c:X.env.scope=d)(h:AZ N d a x N' cap=ah):iu X a x N' cap:=by
 subst l c;simp only[AZ,g9,decide_eq_true_eq,k9,Di]at h;obtain⟨⟨⟨⟨⟨⟨r,f⟩,q⟩,p⟩,o⟩,n⟩,m⟩:=h;refine⟨r,λy b e=>(f y b).1.1.elim (λz=>absurd e z) λz=>z,λy b e=>?_,q,λy b e=>?_,p,o,n,λi j y u s=>?_⟩
 .grind
 .rcases(f y b).2 with(z|z)|z
  .trivial
  .exact .inl z
  .exact .inr z
 .have g:(j,y)∈cap.zip N'.tail:=by
   refine List.mem_iff_getElem?.mpr ⟨i,?_⟩;rw[zU];refine⟨s,?_⟩;rw[<-List.drop_one,Dx,Dy];trivial
  exact m _ g
theorem CO(a b:Tx):eP (tV a) (tV b)=decide (a=b):=by show(tS a == tS b)=_;rw[o6];simp only[beq_iff_eq,decide_eq_true_eq];exact⟨sv,λh=>by rw[h]⟩
theorem M9(a:List Tx)(x:Tx):((cm a).countP λz=>eP z (tV x))=a.count x:=by unfold cm List.count;rw[List.countP_map];refine List.countP_congr λy _=>?_;simp only[Function.comp_apply,CO,decide_eq_true_eq,beq_iff_eq]
end L2
namespace Pu
open L2
abbrev St:=L2.St
inductive PV where
 |non|bl (b:Bool)|int (i:Int)|str (x:Tx)|tup (xs:List PV)|lst (xs:List PV)|raw (v:V)|exc (c:ai)
noncomputable def jy(a:ae)(c:ai):HO:=.ext λh=>∃o b,h.get? a=aa o/\o.cls=c/\o.data=.fields b/\o.dict=af
noncomputable def bB:Nat:=1000000
theorem kP:bB<=bq:=by trivial
noncomputable def eh:HO->Prop
 |.lst _=>True
 |.dK _=>True
 |.dT _=>True
 |.dN _=>True
 |.ins _ _ _=>True
 |.own _=>True
 |_=>False
mutual
def aN(K:ax)(H:Hp)(F:ae->Prop):PV->V->Prop
 |.non,v=>v=.non
 |.bl b,v=>v=.bl b
 |.int i,v=>v=.int i
 |.str x,v=>v=tV x/\x.length<=bB
 |.tup xs,v=>∃a d,v=.ref a/\H a=aa (.tup d)/\aZ K H F xs d
 |.lst xs,v=>∃a d,v=.ref a/\Rd H a (.lst d)/\F a/\aZ K H F xs d
 |.raw u,v=>v=u
 |.exc c,v=>∃a,v=.ref a/\H a=aa (jy a c)
def aZ(K:ax)(H:Hp)(F:ae->Prop):List PV->List V->Prop
 |[],a=>a=[]
 |x::xs,a=>∃v r,a=v::r/\aN K H F x v/\aZ K H F xs r
end
section
variable{K:ax}{H H':Hp}{F b:ae->Prop}
mutual
theorem aN.mono(g:∀a,F a->b a)(f:∀a xs,F a->Rd H a (.lst xs)->Rd H' a (.lst xs))(d:∀a o,H a=aa o->¬eh o->H' a=aa o):∀(x:PV) (v:V),aN K H F x v->aN K H' b x v
 |.non,_,h=>h
 |.bl _,_,h=>h
 |.int _,_,h=>h
 |.str _,_,h=>h
 |.raw _,_,h=>h
 |.exc _,_,⟨a,e,h⟩=>⟨a,e,d a _ h id⟩
 |.tup xs,_,⟨a,c,e,j,i⟩=>⟨a,c,e,d a _ j id,aZ.mono g f d xs c i⟩
 |.lst xs,_,⟨a,c,e,j,l,i⟩=>⟨a,c,e,f a c l j,g a l,aZ.mono g f d xs c i⟩
theorem aZ.mono(g:∀a,F a->b a)(f:∀a xs,F a->Rd H a (.lst xs)->Rd H' a (.lst xs))(d:∀a o,H a=aa o->¬eh o->H' a=aa o):∀(xs:List PV) (c:List V),aZ K H F xs c->aZ K H' b xs c
 |[],_,h=>h
 |x::xs,_,⟨v,r,e,j,i⟩=>⟨v,r,e,aN.mono g f d x v j,aZ.mono g f d xs r i⟩
end
theorem aZ.len:∀{xs:List PV}{a:List V},aZ K H F xs a->a.length=xs.length
 |[],_,h=>by rw[show _=[] from h];rfl
 |_::_,_,⟨_,_,e,_,b⟩=>by rw[e,fz,fz,aZ.len b]
theorem aZ.get:∀{xs:List PV}{c:List V}{i:Nat}{x:PV},aZ K H F xs c->xs[i]?=aa x->∃v,c[i]?=aa v/\aN K H F x v
 |[],_,_,_,_,e=>by trivial
 |x::xs,_,0,y,⟨v,r,e,h1,_⟩,q=>by simp at q;subst q;subst e;exact⟨v,rfl,h1⟩
 |x::xs,_,i+1,y,⟨v,r,e,_,h2⟩,q=>by obtain⟨w,a,b⟩:=aZ.get (i:=i) (x:=y) h2 (by trivial);subst e;exact⟨w,by trivial,b⟩
theorem aZ.back:∀{xs:List PV}{c:List V}{i:Nat}{v:V},aZ K H F xs c->c[i]?=aa v->∃x,xs[i]?=aa x/\aN K H F x v
 |[],_,_,_,h,e=>by rw[show _=[] from h]at e;trivial
 |x::xs,_,0,y,⟨v,r,e,h1,_⟩,q=>by subst e;simp at q;subst q;exact⟨x,rfl,h1⟩
 |x::xs,_,i+1,y,⟨v,r,e,_,h2⟩,q=>by subst e;obtain⟨w,a,b⟩:=aZ.back (i:=i) (v:=y) h2 (by trivial);exact⟨w,by trivial,b⟩
theorem aZ.app:∀{xs a:List PV}{c b:List V},aZ K H F xs c->aZ K H F a b->aZ K H F (xs++a) (c++b)
 |[],_,_,_,h,g=>by rw[show _=[] from h];exact g
 |x::xs,_,_,_,⟨v,r,e,f,d⟩,g=>by subst e;exact⟨v,_,rfl,f,aZ.app d g⟩
theorem aZ.one(h:aN K H F x v):aZ K H F [x] [v]:=⟨v,[],rfl,h,rfl⟩
theorem aZ.drop:∀(n:Nat) {xs:List PV}{a:List V},aZ K H F xs a->aZ K H F (xs.drop n) (a.drop n)
 |0,_,_,h=>h
 |_+1,[],_,h=>by rw[show _=[] from h];rfl
 |n+1,_::_,_,⟨_,_,e,_,h2⟩=>by subst e;exact aZ.drop n h2
theorem aZ.take:∀(n:Nat) {xs:List PV}{a:List V},aZ K H F xs a->aZ K H F (xs.take n) (a.take n)
 |0,_,_,_=>by rfl
 |_+1,[],_,h=>by rw[show _=[] from h];rfl
 |n+1,_::_,_,⟨v,_,e,h1,h2⟩=>by subst e;exact⟨v,_,rfl,h1,aZ.take n h2⟩
theorem aZ.set(b:aN K H F x v):∀(n:Nat) {xs:List PV}{a:List V},aZ K H F xs a->aZ K H F (xs.set n x) (a.set n v)
 |_,[],_,h=>by rw[show _=[] from h];rfl
 |0,_::_,_,⟨_,r,e,_,h2⟩=>by subst e;exact⟨v,r,rfl,b,h2⟩
 |n+1,_::_,_,⟨w,_,e,h1,h2⟩=>by subst e;exact⟨w,_,rfl,h1,aZ.set b n h2⟩
end
structure Grow(O O' F F':ae->Prop)(H H':Hp):Prop where
 fro:∀a,F a->F' a
 keep:∀b o,H b=aa o->¬O b->H' b=aa o
 there:∀b o,H b=aa o->∃o',H' b=aa o'
 fnew:∀a,F' a->F a\/H a=af\/O a
 onew:∀a,O' a->O a\/H a=af
theorem Grow.refl(O F:ae->Prop)(H:Hp):Grow O O F F H H:=⟨λ_ h=>h,λ_ _ h _=>h,λ_ o h=>⟨o,h⟩,λ_ h=>.inl h,λ_ h=>.inl h⟩
theorem Grow.trans(g:Grow O i F m H d)(k:Grow i f m l d j):Grow O f F l H j where
 fro:=λa h=>k.fro a (g.fro a h)
 keep:=λb o h n=>k.keep b o (g.keep b o h n) λz=>(g.onew b z).elim n λq=>by lia
 there:=λb o h=>let ⟨o',c⟩:=g.there b o h;k.there b o' c
 fnew:=λa h=>by
  have back:d a=af->H a=af\/O a:=λz=>by
   cases q:H a with
   |none=>simp
   |some o=>obtain⟨o',c⟩:=g.there a o q;lia
  rcases k.fnew a h with z|z|z
  .exact g.fnew a z
  .exact .inr (back z)
  .exact .inr ((g.onew a z).symm)
 onew:=λa h=>by
  rcases k.onew a h with z|z
  .exact g.onew a z
  .cases q:H a with
   |none=>exact .inr rfl
   |some o=>obtain⟨o',c⟩:=g.there a o q;lia
def Fit(O F:ae->Prop)(H:Hp):Prop:=∀b,O b->¬F b/\∃o,H b=aa o/\eh o
section
variable{K:ax}{O c F b:ae->Prop}{H H':Hp}
theorem Grow.imm(g:Grow O c F b H H')(f:Fit O F H)(h:H a=aa o)(n:¬eh o):H' a=aa o :=
 g.keep _ _ h λz=>by
  obtain⟨_,j,d,i⟩:=f a z;rw[h]at d;cases d;exact n i
theorem Grow.lst(g:Grow O c F b H H')(f:Fit O F H)(d:F a)(h:Rd H a (.lst xs)):Rd H' a (.lst xs):=by
 have no:¬O a:=λz=>(f a z).1 d;rcases h with h|⟨o,h⟩
 .exact .inl (g.keep _ _ h no)
 .exact .inr ⟨o,g.keep _ _ h no⟩
theorem aN.grow(g:Grow O c F b H H')(f:Fit O F H)(h:aN K H F x v):aN K H' b x v:=aN.mono g.fro (λ_ _ a q=>g.lst f a q) (λ_ _ q n=>g.imm f q n) x v h
theorem aZ.grow(g:Grow O c F b H H')(f:Fit O F H)(h:aZ K H F x v):aZ K H' b x v:=aZ.mono g.fro (λ_ _ a q=>g.lst f a q) (λ_ _ q n=>g.imm f q n) x v h
end
theorem _root_.L2.Same.rd(e:Same H b)(h:Rd H a u):Rd b a u:=h.elim (λz=>.inl (e _ _ z)) λ⟨o,z⟩=>.inr ⟨o,e _ _ z⟩
structure Al(F F':ae->Prop)(H H':Hp):Prop where
 fro:∀a,F a->F' a
 same:Same H H'
 fnew:∀a,F' a->F a\/(H a=af/\∃o,H' a=aa o)
theorem Al.refl(F:ae->Prop)(H:Hp):Al F F H H:=⟨λ_ h=>h,Same.refl H,λ_ h=>.inl h⟩
theorem Al.grow(a:Al F d H c):Grow O O F d H c :=⟨a.fro,λb o h _=>a.same b o h,λb o h=>⟨o,a.same b o h⟩,λb h=>(a.fnew b h).imp id λz=>.inl z.1,λ_ h=>.inl h⟩
theorem Al.rep{K:ax}{H b:Hp}(a:Al F c H b){x:PV}{v:V}(h:aN K H F x v):aN K b c x v:=aN.mono a.fro (λ_ _ _ q=>a.same.rd q) (λ_ _ q _=>a.same _ _ q) x v h
theorem Al.reps{K:ax}{H b:Hp}(a:Al F c H b){x:List PV}{v:List V}(h:aZ K H F x v):aZ K b c x v:=aZ.mono a.fro (λ_ _ _ q=>a.same.rd q) (λ_ _ q _=>a.same _ _ q) x v h
theorem Al.trans(a:Al F i H f)(b:Al i g f d):Al F g H d :=
 ⟨λc h=>b.fro c (a.fro c h),a.same.trans b.same,λc h=>by
  rcases b.fnew c h with z|⟨z,w⟩
  .rcases a.fnew c z with y|⟨y,o,q⟩
   .exact .inl y
   .exact .inr ⟨y,o,b.same _ _ q⟩
  .exact .inr ⟨a.same.free z,w⟩⟩
theorem Al.new(h:H l=af):Al F (λa=>F a\/a=l) H (upd H l o) :=⟨λ_ h=>.inl h,Hz h,λa z=>z.imp id λe=>by subst e;exact⟨h,o,upd_same⟩⟩
theorem Al.new0(h:H l=af):Al F F H (upd H l o):=⟨λ_ h=>h,Hz h,λa z=>.inl z⟩
inductive PO where
 |lst (xs:List PV)|dK (kvs:List (aK×PV))|lls (bV:List (List PV))|ins (C:ae) (fs:List (Str×PV))|dT (kvs:List (List aK×PV))|dN (kvs:List ((Tx×List Tx)×PV))|inl (C:ae) (fs:List (Str×PV)) (y:Str) (xs:List PV)|dL (kvs:List (aK×List PV))
def gf:PO->Bool
 |.lls _=>ak
 |.dL _=>ak
 |.inl ..=>ak
 |_=>ah
set_option genInjectivity true in
inductive Slot where
 |none|val (v:PV)|own (o:PO)
noncomputable abbrev aj:=List Slot
def je(K:ax)(H:Hp)(F:ae->Prop)(a:List (aK×PV))(b:List (aK×V)):Prop:=eT (λ(p:aK×PV) (q:aK×V)=>p.1=q.1/\aN K H F p.2 q.2) a b
def vg(K:ax)(H:Hp)(F:ae->Prop)(fs:List (Str×PV))(a:List (Str×V)):Prop:=eT (λ(p:Str×PV) (q:Str×V)=>p.1=q.1/\aN K H F p.2 q.2) fs a
def jD(K:ax)(H:Hp)(F:ae->Prop)(a:List (List aK×PV))(b:List (List aK×V)):Prop:=eT (λ(p:List aK×PV) (q:List aK×V)=>p.1=q.1/\aN K H F p.2 q.2) a b
def nS(k:Tx×List Tx):Str×List Str:=(tS k.1,k.2.map tS)
def yO(K:ax)(H:Hp)(F:ae->Prop)(a:List ((Tx×List Tx)×PV))(b:List ((Str×List Str)×V)):Prop:=eT (λ(p:(Tx×List Tx)×PV) (q:(Str×List Str)×V)=>nS p.1=q.1/\aN K H F p.2 q.2) a b
noncomputable def gJ(K:ax)(H:Hp)(F:ae->Prop)(c:List (List PV))(d:List ae):Prop:=eT (λ(xs:List PV) (b:ae)=>∃a,H b=aa (.lst a)/\aZ K H F xs a) c d
def fo(K:ax)(H:Hp)(F:ae->Prop)(j:PO)(a:ae)(S:ae->Prop):Prop :=
 match j with
 |.lst xs=>(∃h,H a=aa (.lst h)/\aZ K H F xs h)/\∀b,S b↔b=a
 |.dK d=>(∃f,H a=aa (.dK f)/\je K H F d f)/\∀b,S b↔b=a
 |.lls l=>∃g,H a=aa (.lst (g.map .ref))/\gJ K H F l g/\g.Nodup/\a∉g/\∀b,S b↔b=a\/b∈g
 |.dL d=>∃g:List ae,H a=aa (.dK ((d.map (·.1)).zip (g.map V.ref)))/\gJ K H F (d.map (·.2)) g/\g.Nodup/\a∉g/\∀b,S b↔b=a\/b∈g
 |.ins C fs=>(∃i f,H a=aa (.ins C i f)/\vg K H F fs f)/\∀b,S b↔b=a
 |.dT d=>(∃f,H a=aa (.dT f)/\jD K H F d f)/\∀b,S b↔b=a
 |.dN d=>(∃f,H a=aa (.dN f)/\yO K H F d f)/\∀b,S b↔b=a
 |.inl C fs y xs=>∃i f b h,H a=aa (.ins C i (f++[(y,.ref b)]))/\vg K H F fs f/\fs.lookup y=af/\H b=aa (.lst h)/\aZ K H F xs h/\a≠b/\∀c,S c↔c=a\/c=b
structure aL(K:ax)(F:ae->Prop)(S:Nat->ae->Prop)(ε:aj)(σ:St)(H:Hp):Prop where
 len:ε.length=σ.length
 ex:∀a,F a->∃o,H a=aa o
 val:∀(i:Nat) (pv:PV),ε[i]?=aa (.val pv)->∃v,σ[i]?=aa (aa v)/\aN K H F pv v
 own:∀(i:Nat) (po:PO),ε[i]?=aa (.own po)->∃a,σ[i]?=aa (aa (.ref a))/\fo K H F po a (S i)
 foot:∀(i:Nat) (b:ae),S i b->(∃po,ε[i]?=aa (.own po))/\¬F b/\∃o,H b=aa o/\eh o
 dist:∀(i j:Nat) (b:ae),S i b->S j b->i=j
noncomputable def U(S:Nat->ae->Prop)(b:ae):Prop:=∃i,S i b
section
variable{K:ax}{F d:ae->Prop}{S:Nat->ae->Prop}{g:aj}{f:St}{H H':Hp}
theorem aL.fit(r:aL K F S g f H):Fit (U S) F H:=λb ⟨i,h⟩=>(r.foot i b h).2
theorem je.mono(i:∀x v,aN K H F x v->aN K H' d x v)(h:je K H F a b):je K H' d a b:=by
 unfold je at h ⊢
 induction h with
 |nil=>exact .nil
 |cons r _ c=>exact .cons ⟨r.1,i _ _ r.2⟩ c
theorem vg.mono(c:∀x v,aN K H F x v->aN K H' d x v)(h:vg K H F fs a):vg K H' d fs a:=by
 unfold vg at h ⊢
 induction h with
 |nil=>exact .nil
 |cons r _ b=>exact .cons ⟨r.1,c _ _ r.2⟩ b
theorem jD.mono(i:∀x v,aN K H F x v->aN K H' d x v)(h:jD K H F a b):jD K H' d a b:=by
 unfold jD at h ⊢
 induction h with
 |nil=>exact .nil
 |cons r _ c=>exact .cons ⟨r.1,i _ _ r.2⟩ c
theorem yO.mono(i:∀x v,aN K H F x v->aN K H' d x v)(h:yO K H F a b):yO K H' d a b:=by
 unfold yO at h ⊢
 induction h with
 |nil=>exact .nil
 |cons r _ c=>exact .cons ⟨r.1,i _ _ r.2⟩ c
theorem gJ.mono(l:∀x v,aZ K H F x v->aZ K H' d x v)(c:∀b o,b∈a->H b=aa o->H' b=aa o)(h:gJ K H F i a):gJ K H' d i a:=by
 unfold gJ at h ⊢
 induction h with
 |nil=>exact .nil
 |cons r _ m=>obtain⟨j,q,p⟩:=r;exact .cons ⟨j,c _ _ (by simp) q,l _ _ p⟩ (m λb o n=>c b o (by simp[n]))
theorem fo.mono(l:∀x v,aN K H F x v->aN K H' d x v)(m:∀x v,aZ K H F x v->aZ K H' d x v)(c:∀b o,Sa b->H b=aa o->H' b=aa o)(h:fo K H F po a Sa):fo K H' d po a Sa:=by
 cases po with
 |lst xs=>obtain⟨⟨p,e,q⟩,w⟩:=h;exact⟨⟨p,c a _ ((w a).mpr rfl) e,m _ _ q⟩,w⟩
 |dK j=>obtain⟨⟨i,e,q⟩,w⟩:=h;exact⟨⟨i,c a _ ((w a).mpr rfl) e,q.mono l⟩,w⟩
 |lls G=>obtain⟨A,e,q,s,r,w⟩:=h;exact⟨A,c a _ ((w a).mpr (.inl rfl)) e,q.mono m λb o u=>c b o ((w b).mpr (.inr u)),s,r,w⟩
 |dL j=>obtain⟨A,e,q,s,r,w⟩:=h;exact⟨A,c a _ ((w a).mpr (.inl rfl)) e,q.mono m λb o u=>c b o ((w b).mpr (.inr u)),s,r,w⟩
 |ins C fs=>obtain⟨⟨z,i,e,q⟩,w⟩:=h;exact⟨⟨z,i,c a _ ((w a).mpr rfl) e,q.mono l⟩,w⟩
 |dT j=>obtain⟨⟨i,e,q⟩,w⟩:=h;exact⟨⟨i,c a _ ((w a).mpr rfl) e,q.mono l⟩,w⟩
 |dN j=>obtain⟨⟨i,e,q⟩,w⟩:=h;exact⟨⟨i,c a _ ((w a).mpr rfl) e,q.mono l⟩,w⟩
 |inl C fs y xs=>obtain⟨z,i,b,p,e,q,n,E,B,D,w⟩:=h;exact⟨z,i,b,p,c a _ ((w a).mpr (.inl rfl)) e,q.mono l,n,c b _ ((w b).mpr (.inr rfl)) E,m _ _ B,D,w⟩
theorem aL.al(r:aL K F S g f H)(a:Al F d H H'):aL K d S g f H' where
 len:=r.len
 ex:=λb h=>(a.fnew b h).elim (λz=>let ⟨o,q⟩:=r.ex b z;⟨o,a.same _ _ q⟩) λz=>z.2
 val:=λi pv e=>let ⟨v,l,j⟩:=r.val i pv e;⟨v,l,a.rep j⟩
 own:=λi n e=>let ⟨b,l,j⟩:=r.own i n e;⟨b,l,j.mono (λ_ _ q=>a.rep q) (λ_ _ q=>a.reps q) λc o _ q=>a.same _ _ q⟩
 foot:=λi b h=>by
  obtain⟨l,j,o,m,p⟩:=r.foot i b h;refine⟨l,λz=>?_,o,a.same _ _ m,p⟩;rcases a.fnew b z with y|⟨y,_⟩
  .exact j y
  .rw[m]at y;cases y
 dist:=r.dist
end
inductive R(α:Type) where
 |ok (a:α) (ε:aj)|er (c:ai) (ε:aj)|no
abbrev ad(α:Type):=aj->R α
noncomputable def R.bind{d b:Type}(r:R d)(k:d->aj->R b):R b:=match r with
 |.ok a ε=>k a ε
 |.er c ε=>.er c ε
 |.no=>.no
def aR{b:Type}(o:Option b)(ε:aj):R b:=match o with
 |some a=>.ok a ε
 |none=>.no
@[simp] theorem R.bind_ok(a:b)(ε:aj)(k:b->aj->R c):(R.ok a ε).bind k=k a ε:=rfl
@[simp] theorem R.bind_er(c:ai)(a:aj)(k:b->aj->R d):(R.er c a:R b).bind k=.er c a:=rfl
@[simp] theorem R.bind_no(k:a->aj->R b):(R.no:R a).bind k=.no:=rfl
@[simp] theorem bT(a:c)(b:aj):aR (aa a) b=.ok a b:=rfl
@[simp] theorem VX(a:aj):aR (af:Option b) a=.no:=rfl
def Ok(K:ax)(E:XK)(h:St)(F:ae->Prop)(S:Nat->ae->Prop)(H:Hp){i:Type}(r:R i)(C:i->aj->(ae->Prop)->(Nat->ae->Prop)->Hp->Prop):Prop:=match r with
 |.ok a b=>∀g f d,aL K g f b h d->Grow (U S) (U f) F g H d->C a b g f d
 |.er c b=>∀x g f d,aL K g f b h d->Grow (U S) (U f) F g H d->E c x d
 |.no=>False
section
variable{K:ax}{E:XK}{b:St}{F:ae->Prop}{S:Nat->ae->Prop}{H:Hp}{d i:Type}{C C':d->aj->(ae->Prop)->(Nat->ae->Prop)->Hp->Prop}{D:i->aj->(ae->Prop)->(Nat->ae->Prop)->Hp->Prop}
theorem Ok.imp(h:Ok K E b F S H r C)(f:∀a j n l m,aL K n l j b m->Grow (U S) (U l) F n H m->C a j n l m->C' a j n l m):Ok K E b F S H r C':=by
 cases r with
 |ok a j=>exact λn l m r g=>f a j n l m r g (h n l m r g)
 |er c j=>exact h
 |no=>exact h
theorem Ok.from(h:Ok K E b F S H r D)(g:Grow (U S) (U o) F q H p):Ok K E b q o p r D:=by
 cases r with
 |ok a f=>exact λn l m j g'=>h n l m j (g.trans g')
 |er c f=>exact λx n l m j g'=>h x n l m j (g.trans g')
 |no=>exact h
theorem Ok.bind{r:R d}(h:Ok K E b F S H (r.bind k) D):Ok K E b F S H r (λa ε1 m j l=>Ok K E b m j l (k a ε1) D):=by
 cases r with
 |ok a f=>exact λp n o r g=>Ok.from h g
 |er c f=>exact h
 |no=>exact h
end
structure Bx(p:Prop):Prop where
 run:p
def gz(X:Cx)(e:aC):TE:=λa H Q=>Bx (∀b s,Inv X b a H s->ar X.zz X.A (a8 e X.env) (EP X b a Q) X.xe s)
def Av(X:Cx)(e:aC):TT:=λa H Q=>Bx (∀b s,Inv X b a H s->ar X.zz X.A (nM e X.env (a8 e X.env)) (TP X b a Q) X.xe s)
def wpS(X:Cx)(c:bf):TS:=λD b H=>Bx (∀a s,Inv X a b H s->ar X.zz X.A (exec c X.env) (SP X a D) X.xe s)
def oP(X:Cx)(c:List bf):TS:=λD b H=>Bx (∀a s,Inv X a b H s->ar X.zz X.A (execs c X.env) (SP X a D) X.xe s)
section
variable{X:Cx}{b:bf}
theorem bJ:PE X e (gz X e):=λc s _ _ _ I h=>h.run c s I
theorem nv:PT X e (Av X e):=λc s _ _ _ I h=>h.run c s I
theorem F7:PS X b (wpS X b):=λc s _ _ _ I h=>h.run c s I
theorem qu:kZ X a (oP X a):=λc s _ _ _ I h=>h.run c s I
theorem bY(h:PE X e t)(q:t c H Q):gz X e c H Q:=⟨λd s I=>h d s c H Q I q⟩
theorem vZ(h:PT X e t)(q:t c H Q):Av X e c H Q:=⟨λd s I=>h d s c H Q I q⟩
theorem fQ(h:PS X b t)(q:t D c H):wpS X b D c H:=⟨λd s I=>h d s c H D I q⟩
theorem Ci(h:kZ X a t)(q:t D c H):oP X a D c H:=⟨λd s I=>h d s c H D I q⟩
end
def DE(X:Cx)(E:XK)(e:aC)(d:ad PV):Prop :=
 ∀F S b a H Q,aL X.K F S b a H->Ok X.K E a F S H (d b) (λpv _ f _ c=>∀v,aN X.K c f pv v->Q v c)->gz X e a H Q
def DN(X:Cx)(E:XK)(e:aC)(d:ad PO):Prop :=
 ∀F S g c H Q,aL X.K F S g c H->Ok X.K E c F S H (d g) (λj _ i l f=>∀a h,fo X.K f i j a h->(∀b,h b->H b=af/\¬i b/\¬U l b/\∃o,f b=aa o/\eh o)->Q (.ref a) f)->gz X e c H Q
def DT(X:Cx)(E:XK)(e:aC)(d:ad Bool):Prop :=
 ∀F S c a H Q,aL X.K F S c a H->Ok X.K E a F S H (d c) (λb _ _ _ f=>Q b f)->Av X e a H Q
open L2
section
variable{X:Cx}{E:XK}{a b c:aC}{m db A:ad PV}{pos:Pos}
def dC(pv:PV):ad PV:=λε=>.ok pv ε
theorem a_{i j pos}:DE X E (.Constant (.int i) j pos) (dC (.int i)):=λF S f d H Q r h=>bY UA (h F S H r (Grow.refl ..) _ rfl)
theorem ml{i j pos}:DE X E (.Constant (.bool i) j pos) (dC (.bl i)):=λF S f d H Q r h=>bY Q5 (h F S H r (Grow.refl ..) _ rfl)
theorem xE{j pos}:DE X E (.Constant .none j pos) (dC .non):=λF S f d H Q r h=>bY Rk (h F S H r (Grow.refl ..) _ rfl)
theorem gG(l:Tx){j pos}(d:x=tS l:=by decide +kernel)(i:(l.length<=bB)^1):DE X E (.Constant (.str x) j pos) (dC (.str l)):=λF S g f H Q r h=>bY PU (h F S H r (Grow.refl ..) _ (by rw[d];trivial))
def dV(i:Nat):ad PV:=λε=>match ε[i]? with
 |some (.val pv)=>.ok pv ε
 |_=>.no
theorem au(i:Nat)(g:(X.N[i]?=aa x)^0)(d:d8 X.env.scope x^2)(f:av x^1)(n:a4 x^1):DE X E (.Name x pos) (dV i):=λF S q o H Q r h=>by
 unfold dV at h;split at h
 .rename_i p e;obtain⟨v,l,j⟩:=r.val i p e;exact bY (eY g d f n) ⟨v,l,h F S H r (Grow.refl ..) v j⟩
 .exact h.elim
theorem Cy(h:∃t,X.mg x=aa (.int i t))(d:Gl X x^0)(f:av x^1):DE X E (.Name x pos) (dC (.int i)):=λF S j g H Q r q=>by obtain⟨t,e⟩:=h;exact bY (BX (v:=.int i) d e ⟨t,rfl⟩ f) (q F S H r (Grow.refl ..) _ rfl)
theorem tt(h:∃t,X.mg x=aa (.str (tS l) t))(f:Gl X x^0)(d:(l.length<=bB)^1)(g:av x^1):DE X E (.Name x pos) (dC (.str l)):=λF S j i H Q r q=>by obtain⟨t,e⟩:=h;exact bY (BX (v:=tV l) f e ⟨t,rfl⟩ g) (q F S H r (Grow.refl ..) _ ⟨rfl,d⟩)
def aL.frz{K:ax}{F:ae->Prop}{S:Nat->ae->Prop}{p:aj}{s:St}{H:Hp}{i:Nat}{xs:List PV}(r:aL K F S p s H)(e:p[i]?=aa (.own (.lst xs))):∃a w I,aL K w I (p.set i (.val (.lst xs))) s H/\Grow (U S) (U I) F w H H/\s[i]?=aa (aa (.ref a))/\aN K H w (.lst xs) (.ref a):=by
 obtain⟨a,G,⟨J,C,L⟩,D⟩:=r.own i _ e;have B:i<p.length:=(cJ.mp e).1;have g:∀b,F b->F b\/b=a:=λb h=>.inl h;have mono:∀x v,aN K H F x v->aN K H (λb=>F b\/b=a) x v:=aN.mono g (λ_ _ _ q=>q) (λ_ _ q _=>q);have d:∀x v,aZ K H F x v->aZ K H (λb=>F b\/b=a) x v:=aZ.mono g (λ_ _ _ q=>q) (λ_ _ q _=>q);have y:aN K H (λb=>F b\/b=a) (.lst xs) (.ref a):=⟨a,J,rfl,.inl C,.inr rfl,d _ _ L⟩
 refine⟨a,λb=>F b\/b=a,λj b=>S j b/\j≠i,⟨by rw[fZ];exact r.len,λb h=>?_,λj pv q=>?_,λj po q=>?_,λj b h=>?_,λj k b N M=>r.dist j k b N.1 M.1⟩,?_,G,y⟩
 .rcases h with h|rfl
  .exact r.ex b h
  .exact⟨_,C⟩
 .by_cases f:i=j
  .subst f;rw[eB B]at q;cases q;exact⟨_,G,y⟩
  .rw[cK f]at q;obtain⟨v,n,l⟩:=r.val j pv q;exact⟨v,n,mono _ _ l⟩
 .by_cases f:i=j
  .subst f;rw[eB B]at q;cases q
  .rw[cK f]at q;obtain⟨v,n,l⟩:=r.own j po q;refine⟨v,n,?_⟩;have u:=l.mono (H':=H) mono d λ_ _ _ z=>z;have O:(λb=>S j b/\j≠i)=S j:=by funext b;simp[c0 f]
   rw[O];exact u
 .obtain⟨⟨po,n⟩,l,u⟩:=r.foot j b h.1;refine⟨⟨po,by rw[cK (c0 h.2)];exact n⟩,λz=>?_,u⟩;rcases z with z|rfl
  .exact l z
  .exact h.2 (r.dist j i b h.1 ((D b).mpr rfl))
 .refine⟨λ_ h=>.inl h,λb o h _=>h,λb o h=>⟨o,h⟩,λb h=>?_,λb ⟨j,h⟩=>.inl ⟨j,h.1⟩⟩;rcases h with h|rfl
  .exact .inl h
  .exact .inr (.inr ⟨i,(D b).mpr rfl⟩)
noncomputable def dM(i:Nat):ad PV:=λε=>match ε[i]? with
 |some (.own (.lst xs))=>.ok (.lst xs) (ε.set i (.val (.lst xs)))
 |_=>.no
theorem Je(i:Nat)(l:(X.N[i]?=aa x)^0)(f:d8 X.env.scope x^2)(j:av x^1)(q:a4 x^1):DE X E (.Name x pos) (dM i):=λF S w v H Q r h=>by
 unfold dM at h;split at h
 .rename_i p e;obtain⟨a,u,s,d,g,o,n⟩:=r.frz e;exact bY (eY l f j q) ⟨_,o,h u s H d g _ n⟩
 .exact h.elim
def P2(K:ax)(r:R2)(f:PV->PV->Option PV):Prop:=∀(F:ae->Prop) (H:Hp) (x y:PV) (v u:V) (Q:VK) (pv:PV),aN K H F x v->aN K H F y u->f x y=aa pv->(∀w g d,Al F g H d->aN K d g pv w->Q w d)->r v u H Q
def d2(f:PV->PV->Option PV)(m db:ad PV):ad PV:=λε=>(m ε).bind λx ε1=>(db ε1).bind λy d=>aR (f x y) d
theorem zd(I:P2 X.K r f)(L:DE X E a m)(J:DE X E b db)(D:aL X.K F S j d H)(h:Ok X.K E d F S H (d2 f m db j) (λpv _ q _ g=>∀v,aN X.K g q pv v->Q v g)):gz X a d H λx p=>gz X b d p λy o=>r x y o Q:=by
 refine L F S j d H _ D ((Ok.bind h).imp λx i W P p s Y M v B=>?_);refine J W P i d p _ s ((Ok.bind M).imp λy z T O o G N n u C=>?_);cases e:f x y with
 |none=>rw[e]at n;trivial
 |some pv=>rw[e]at n;exact I T o x y v u Q pv (B.grow N s.fit) C e λw q g al l=>n q O g (G.al al) al.grow w l
theorem cS(j:b_ X (ji d) r)(i:P2 X.K r f)(n:DE X E a m)(l:DE X E b db):DE X E (.BinOp a d b pos) (d2 f m db):=λF S p o H Q g h=>bY (K7 j bJ bJ) (zd i n l g h)
theorem nI(j:b_ X (eC d) r)(i:P2 X.K r f)(o:DE X E a m)(n:DE X E b db)(l:qI d b=ak):DE X E (.Compare a [d] [b] pos) (d2 f m db):=λF S q p H Q g h=>bY (SI j bJ bJ l) (zd i o n g h)
def oB:PV->Option Bool
 |.bl b=>aa b
 |_=>af
def dB(d:ad PV):ad Bool:=λε=>(d ε).bind λx ε1=>aR (oB x) ε1
theorem IG{K:ax}{x:PV}{v:V}{k:Bool}(h:aN K H F x v)(e:oB x=aa k):v=.bl k:=by
 cases x <;> simp[oB]at e;subst e;exact h
theorem uL{Q:Bool->Hp->Prop}(h:Ok X.K E i F S H (dB d j) (λk _ _ _ f=>Q k f)):Ok X.K E i F S H (d j) (λpv _ s _ f=>∀v,aN X.K f s pv v->∃k,v=.bl k/\Q k f):=by
 refine(Ok.bind h).imp λx l r p q o u g v n=>?_;cases e:oB x with
 |none=>rw[e]at g;trivial
 |some k=>rw[e]at g;exact⟨k,IG n e,g r p q o (Grow.refl ..)⟩
theorem gy(j:b_ X (eC d) r)(i:P2 X.K r f)(o:DE X E a m)(n:DE X E b db)(l:qI d b=ak):DT X E (.Compare a [d] [b] pos) (dB (d2 f m db)):=λF S s q H Q g h=>vZ (OA j bJ bJ l) (zd (Q:=λx p=>∃k,x=.bl k/\Q k p) i o n g (uL h))
theorem o0(n:DE X E e d)(l:(∀f,nM e X.env f=(do let v <-f;standAt e.pos;j5 [v] (truthy v)))^4):DT X E e (dB d):=λF S i g H Q j h=>vZ (SX bJ l) (n F S i g H _ j (uL h))
def p8(f g:PV->PV->Option PV)(m db A:ad PV):ad PV:=λj=>(m j).bind λx i=>(db i).bind λy d=>(aR ((f x y).bind oB) d).bind λk d=>
 match k with
 |true=>(A d).bind λz h=>aR (g y z) h
 |false=>.ok (.bl ak) d
theorem Iu(hp:P2 X.K r f)(c8:P2 X.K P g)(ha:DE X E a m)(hb:DE X E b db)(hc:DE X E c A)(rl:aL X.K F S s i H)(h:Ok X.K E i F S H (p8 f g m db A s) (λpv _ l _ d=>∀v,aN X.K d l pv v->Q v d)):AO r P (gz X a) (gz X b) (gz X c) i H Q:=by
 refine ha F S s i H _ rl ((Ok.bind h).imp λx q F1 S1 H1 O g1 h1 v rv=>?_);refine hb F1 S1 q i H1 _ O ((Ok.bind h1).imp λy n W M T r2 g2 j u N=>?_);cases e:f x y with
 |none=>rw[e]at j;trivial
 |some pv=>
  rw[e]at j;refine hp W T x y v u _ pv (rv.grow g2 O.fit) N e λw l d al C=>?_;cases L:oB pv with
  |none=>rw[gp,L]at j;trivial
  |some k=>
   rw[gp,L]at j;refine⟨k,IG C L,?_⟩;have G:=r2.al al;cases k with
   |false=>exact nj (Ok.from j al.grow l M d G (Grow.refl ..) _ rfl)
   |true=>
    have h3:Ok X.K E i W M T ((A n).bind λz p=>aR (g y z) p) (λpv _ l _ d=>∀v,aN X.K d l pv v->Q v d):=j;refine nB (hc l M n i d _ G ((Ok.bind (Ok.from h3 al.grow)).imp λz Y F4 S4 H4 r4 g4 I u4 D=>?_));cases J:g y z with
    |none=>rw[J]at I;trivial
    |some pz=>rw[J]at I;exact c8 F4 H4 y z u u4 Q pz ((al.rep N).grow g4 G.fit) D J λZ F5 H5 o B=>I F5 S4 H5 (r4.al o) o.grow Z B
theorem UE(o:b_ X (eC i) r)(v:b_ X (eC d) j)(n:P2 X.K r f)(w:P2 X.K j g)(u:DE X E a m)(s:DE X E b db)(q:DE X E c A)(p:(lastMarks [i,d] [b,c]=ak)^7):DE X E (.Compare a [i,d] [b,c] pos) (p8 f g m db A):=λF S y x H Q l h=>bY (Rf o v bJ bJ bJ p) (Iu n w u s q l h)
theorem MQ(o:b_ X (eC i) r)(v:b_ X (eC d) j)(n:P2 X.K r f)(w:P2 X.K j g)(u:DE X E a m)(s:DE X E b db)(q:DE X E c A)(p:(lastMarks [i,d] [b,c]=ak)^7):DT X E (.Compare a [i,d] [b,c] pos) (dB (p8 f g m db A)):=λF S B z H Q l h=>vZ (RQ o v bJ bJ bJ p) (Iu (Q:=λx y=>∃k,x=.bl k/\Q k y) n w u s q l (uL h))
variable{n B:ad Bool}{rest:List aC}
def DW(X:Cx)(E:XK)(e:aC)(d:ad Bool):Prop:=∀F S g f H Q,aL X.K F S g f H->Ok X.K E f F S H (d g) (λb _ _ _ i=>Q b i)->∀(h:Sem ai) ag s,Inv X ag f H s->ar X.zz X.A (nM e X.env h) (TP X ag f Q) X.xe s
def NI(X:Cx)(e:aC):TT:=λd H Q=>∀(f:Sem ai) ag s,Inv X ag d H s->ar X.zz X.A (nM e X.env f) (TP X ag d Q) X.xe s
theorem Iw:PW X e (NI X e):=λd f s _ _ _ I h=>h d f s I
theorem DW.dt(h:DW X E e d):DT X E e d:=λF S ε f H Q g q=>⟨λi s I=>h F S ε f H Q g q _ i s I⟩
def rW(n B:ad Bool):ad Bool:=λε=>(n ε).bind λk d=>match k with
 |true=>B d
 |false=>.ok ak d
def l6(n B:ad Bool):ad Bool:=λε=>(n ε).bind λk d=>match k with
 |true=>.ok ah d
 |false=>B d
def l8(n:ad Bool):ad Bool:=λf=>(n f).bind λk d=>.ok (!k) d
theorem LF(h:DT X E a n):DW X E (.BoolOp .And [a] pos) n:=λF S f d H Q g q i j s I=>Q4 nv i j s d H Q I (h F S f d H Q g q)
theorem xR(h:DT X E a n):DW X E (.BoolOp .Or [a] pos) n:=λF S f d H Q g q i j s I=>Pk nv i j s d H Q I (h F S f d H Q g q)
theorem OU(u:DT X E a n)(r:DW X E (.BoolOp .And (b::rest) pos) B):DW X E (.BoolOp .And (a::b::rest) pos) (rW n B):=λF S o d H Q p q v w s I=>by
 refine Pa nv Iw v w s d H Q I (u F S o d H _ p ((Ok.bind q).imp λk f l i j g x h=>?_));cases k with
 |true=>exact nB (r l i f d j Q g h)
 |false=>exact nj (h l i j g (Grow.refl ..))
theorem xV(u:DT X E a n)(r:DW X E (.BoolOp .Or (b::rest) pos) B):DW X E (.BoolOp .Or (a::b::rest) pos) (l6 n B):=λF S o d H Q p q v w s I=>by
 refine Re nv Iw v w s d H Q I (u F S o d H _ p ((Ok.bind q).imp λk f l i j g x h=>?_));cases k with
 |true=>exact nB (h l i j g (Grow.refl ..))
 |false=>exact nj (r l i f d j Q g h)
theorem pP(j:DT X E a n):DT X E (.UnaryOp .Not a pos) (l8 n):=λF S g d H Q h q=>vZ (Nk nv) (j F S g d H _ h ((Ok.bind q).imp λk f r o p i s l=>l r o p i (Grow.refl ..)))
def ln(m db:ad PV):ad PV:=λd=>(dB m d).bind λk ε1=>match k with
 |true=>db ε1
 |false=>.ok (.bl ak) ε1
def Hr(m db:ad PV):ad PV:=λf=>(dB m f).bind λk d=>match k with
 |true=>.ok (.bl ah) d
 |false=>db d
def zc(m:ad PV):ad PV:=λf=>(dB m f).bind λk d=>.ok (.bl (!k)) d
theorem Iv{k:Bool->aj->R q}{P:Bool->Hp->Prop}(h:Ok X.K E o F S H ((dB d p).bind k) D) (f:∀c g l j i,aL X.K l j g o i->Grow (U S) (U j) F l H i->Ok X.K E o l j i (k c g) D->P c i):Ok X.K E o F S H (d p) (λpv _ y _ r=>∀v,aN X.K r y pv v->∃c,v=.bl c/\P c r):=by have u:=(Ok.bind h).imp (C':=λc g l j i=>P c i) λc g l j i s x w=>f c g l j i s x w;exact uL u
theorem rM{op}(h:DE X E a d):DE X E (.BoolOp op [a] pos) d:=λF S g f H Q i q=>bY (Om bJ) (h F S g f H Q i q)
theorem qo(s:DE X E a m)(r:DE X E (.BoolOp .And (b::rest) pos) db):DE X E (.BoolOp .And (a::b::rest) pos) (ln m db):=λF S o f H Q p q=>by
 refine bY (Lm bJ bJ) (s F S o f H _ p (Iv q λk d l i j g u h=>?_));cases k with
 |true=>exact nB (r l i d f j Q g h)
 |false=>exact nj (h l i j g (Grow.refl ..) _ rfl)
theorem SQ(j:DE X E a m):DE X E (.UnaryOp .Not a pos) (zc m):=λF S g d H Q h q=>bY (Tn bJ) (j F S g d H _ h (Iv q λk f r o p i s l=>l r o p i (Grow.refl ..) _ rfl))
def cI{d:Type}(t:ad Bool)(m db:ad d):ad d:=λε=>(t ε).bind λk ε1=>match k with
 |true=>m ε1
 |false=>db ε1
theorem BP(r:DT X E c n)(u:DE X E a m)(s:DE X E b db):DE X E (.IfExp c a b pos) (cI n m db):=λF S o f H Q p q=>by
 refine bY (Pe nv bJ bJ) (r F S o f H _ p ((Ok.bind q).imp λk d l i j g v h=>?_));cases k with
 |true=>exact nB (u l i d f j Q g h)
 |false=>exact nj (s l i d f j Q g h)
def P1(K:ax)(r:V->Hp->VK->Prop)(f:PV->Option PV):Prop:=∀(F:ae->Prop) (H:Hp) (x:PV) (v:V) (Q:VK) (pv:PV),aN K H F x v->f x=aa pv->(∀w g d,Al F g H d->aN K d g pv w->Q w d)->r v H Q
def d1(f:PV->Option PV)(m:ad PV):ad PV:=λε=>(m ε).bind λx ε1=>aR (f x) ε1
theorem Ru(z:P1 X.K r f)(C:DE X E a m)(u:aL X.K F S i d H)(h:Ok X.K E d F S H (d1 f m i) (λpv _ p _ g=>∀v,aN X.K g p pv v->Q v g)):gz X a d H λx o=>r x o Q:=by
 refine C F S i d H _ u ((Ok.bind h).imp λx q G D o y I l v s=>?_);cases e:f x with
 |none=>rw[e]at l;trivial
 |some pv=>rw[e]at l;exact z G o x v Q pv s e λw p g al j=>l p D g (y.al al) al.grow w j
theorem qb(j:zu X (unaryOp d) r)(i:P1 X.K r f)(l:DE X E a m):DE X E (.UnaryOp d a pos) (d1 f m):=λF S p o H Q g h=>bY (Td j bJ) (Ru i l g h)
end
def rP(X:Cx)(d:List aC):TA:=λb H Q=>Bx (∀a c s,Inv X c b H s->ar X.zz X.A (spliced (dr a (aX d X.env))) (AP X c b Q) X.xe s)
def DA(X:Cx)(E:XK)(h:List aC)(d:ad (List PV)):Prop :=
 ∀F S c a H Q,aL X.K F S c a H->Ok X.K E a F S H (d c) (λb _ i _ g=>∀f,aZ X.K g i b f->Q f g)->rP X h a H Q
section
variable{X:Cx}{E:XK}{a b c e:aC}{es:List aC}{D d:ad PV}{j:ad (List PV)}{pos:Pos}
theorem i_:PA X es (rP X es):=λpos f s _ _ _ I h=>h.run pos f s I
theorem u8(h:PA X es t)(q:t f H Q):rP X es f H Q:=⟨λpos g s I=>h pos g s f H Q I q⟩
def aF:ad (List PV):=λε=>.ok [] ε
def aA(d:ad PV)(j:ad (List PV)):ad (List PV):=λε=>(d ε).bind λx ε1=>(j ε1).bind λxs f=>.ok (x::xs) f
theorem aY:DA X E [] aF:=λF S i g H Q f h=>u8 jz (h F S H f (Grow.refl ..) _ rfl)
theorem PQ(w:DE X E e d)(u:DA X E es j)(s:(aX (e::es) X.env=(ak,a8 e X.env)::aX es X.env)^0):DA X E (e::es) (aA d j):=λF S m g H Q p h=>by refine u8 (i7 bJ i_ s) (w F S m g H _ p ((Ok.bind h).imp λx f M G J i N z v o=>?_));refine u M G f g J _ i ((Ok.bind z).imp λxs l L C I q A y n r=>?_);exact y L C I q (Grow.refl ..) _ ⟨v,n,rfl,o.grow A i.fit,r⟩
theorem aL.more{K:ax}{N:ae->Prop}{S:Nat->ae->Prop}{n:aj}{m:St}{H:Hp}(r:aL K F S n m H)(p:∀b,N b->¬U S b/\∃o,H b=aa o):aL K (λb=>F b\/N b) S n m H:=by
 have mono:∀x v,aN K H F x v->aN K H (λb=>F b\/N b) x v:=aN.mono (λ_ h=>.inl h) (λ_ _ _ q=>q) (λ_ _ q _=>q);have f:∀x v,aZ K H F x v->aZ K H (λb=>F b\/N b) x v:=aZ.mono (λ_ h=>.inl h) (λ_ _ _ q=>q) (λ_ _ q _=>q);refine⟨r.len,λb h=>h.elim (r.ex b) λz=>(p b z).2,λi pv e=>?_,λi s e=>?_,λi b h=>?_,r.dist⟩
 .obtain⟨v,l,g⟩:=r.val i pv e;exact⟨v,l,mono _ _ g⟩
 .obtain⟨v,l,g⟩:=r.own i s e;exact⟨v,l,g.mono mono f λ_ _ _ z=>z⟩
 .obtain⟨l,g,u⟩:=r.foot i b h;exact⟨l,λz=>z.elim g λw=>(p b w).1 ⟨i,h⟩,u⟩
def AN:PO->Option PV
 |.lst xs=>aa (.lst xs)
 |_=>af
def dF(d:ad PO):ad PV:=λε=>(d ε).bind λf ε1=>aR (AN f) ε1
theorem DN.de{d:ad PO}(h:DN X E e d):DE X E e (dF d):=λF S ε r H Q v q=>by
 unfold dF at q;refine h F S ε r H Q v ?_;cases i:d ε with
 |no=>rw[i]at q;trivial
 |er c s=>rw[i]at q;exact q
 |ok A ε1=>
  rw[i]at q;intro P l m x g a p G n;cases A with
  |dK f=>exact q.elim
  |lls O=>exact q.elim
  |dL O=>exact q.elim
  |ins C fs=>exact q.elim
  |dT f=>exact q.elim
  |dN f=>trivial
  |inl C fs y xs=>exact q.elim
  |lst xs=>
   have M:∀b,p b->¬U l b/\∃o,m b=aa o:=λb z=>let ⟨_,_,x3,o,x4,_⟩:=n b z;⟨x3,o,x4⟩
   obtain⟨⟨u,J,I⟩,L⟩:=G;have N:Grow (U S) (U l) F (λb=>P b\/p b) H m:=⟨λb z=>.inl (g.fro b z),g.keep,g.there,λb z=>z.elim (g.fnew b) λw=>.inr (.inl (n b w).1),g.onew⟩
   exact q _ l m (x.more M) N _ ⟨a,u,rfl,.inl J,.inr ((L a).mpr rfl),aZ.mono (λ_ z=>.inl z) (λ_ _ _ z=>z) (λ_ _ z _=>z) _ _ I⟩
def d9(xs:List PV):Option PV:=if xs.length<=1000 then aa (.tup xs)else af
def cH(xs:List PV):Option PO:=if xs.length<=1000 then aa (.lst xs)else af
def dL{g:Type}(f:List PV->Option g)(j:ad (List PV)):ad g:=λε=>(j ε).bind λxs ε1=>aR (f xs) ε1
def PL(K:ax)(r:List V->Hp->VK->Prop)(f:List PV->Option PV):Prop:=∀(F:ae->Prop) (H:Hp) (xs:List PV) (h:List V) (Q:VK) (pv:PV),aZ K H F xs h->f xs=aa pv->(∀w i g,Al F i H g->aN K g i pv w->Q w g)->r h H Q
def lp(K:ax)(r:List V->Hp->VK->Prop)(f:List PV->Option PO):Prop:=∀(F:ae->Prop) (H:Hp) (xs:List PV) (i:List V) (Q:VK) (l:PO),(∀a,F a->∃o,H a=aa o)->aZ K H F xs i->f xs=aa l ->
 (∀a h g m,Al F h H g->fo K g h l a m->(∀b,m b->H b=af/\¬h b/\∃o,g b=aa o/\eh o)->Q (.ref a) g)->r i H Q
theorem B5(z:PL X.K r f)(A:DA X E es j)(u:aL X.K F S l g H)(h:Ok X.K E g F S H (dL f j l) (λpv _ p _ i=>∀v,aN X.K i p pv v->Q v i)):rP X es g H λxs o=>r xs o Q:=by
 refine A F S l g H _ u ((Ok.bind h).imp λxs q G C o x I n s y=>?_);cases e:f xs with
 |none=>rw[e]at n;trivial
 |some pv=>rw[e]at n;exact z G o xs s Q pv y e λw p i al m=>n p C i (x.al al) al.grow w m
theorem oG{l:ae->Prop}{H f:Hp}(g:Grow O i F l H f){b:ae}(h:f b=af):H b=af:=by
 cases q:H b with
 |none=>rfl
 |some o=>obtain⟨o',e⟩:=g.there b o q;rw[h]at e;cases e
theorem vx(N:lp X.K r f)(O:DA X E es j)(J:aL X.K F S p l H)(h:Ok X.K E l F S H (dL f j p) (λs _ n Y g=>∀a m,fo X.K g n s a m->(∀b,m b->H b=af/\¬n b/\¬U Y b/\∃o,g b=aa o/\eh o)->Q (.ref a) g)):rP X es l H λxs v=>r xs v Q:=by
 refine O F S p l H _ J ((Ok.bind h).imp λxs x Z W v q P u I M=>?_);cases e:f xs with
 |none=>rw[e]at u;trivial
 |some s=>rw[e]at u;refine N Z v xs I Q s q.ex M e λa n g m al L T=>u n W g (q.al al) al.grow a m L λb z=>?_;obtain⟨G,C,o,A,y⟩:=T b z;refine⟨oG P G,C,λ⟨i,w⟩=>?_,o,A,y⟩;obtain⟨_,_,o',w1,_⟩:=q.foot i b w;lia
theorem Bj(h:n<=1000):n<=bq:=kw (HL h)
theorem OI{K:ax}:PL K (λxs H Q=>xs.length<=bq/\∀p,H p=af->Q (.ref p) (upd H p (.tup xs))) d9:=λF H xs h Q pv f e q=>by
 unfold d9 at e;split at e
 .cases e;refine⟨by rw[f.len];exact Bj (by trivial),λp g=>q _ F _ (Al.new0 g) ⟨p,h,rfl,upd_same,(Al.new0 g).reps f⟩⟩
 trivial
theorem vc{K:ax}{l:ae}{xs:List PV}{f:List V}(h:H l=af)(g:aZ K H F xs f):fo K (upd H l (.lst f)) F (.lst xs) l (λb=>b=l):=⟨⟨f,upd_same,(Al.new0 h).reps g⟩,λb=>kE⟩
theorem vp{F:ae->Prop}{o:HO}(g:H l=af)(i:∀a,F a->∃o,H a=aa o)(h:eh o):∀b,b=l->H b=af/\¬F b/\∃f,(upd H l o) b=aa f/\eh f:=λb z=>by
 subst z;exact⟨g,(λw=>by obtain⟨o,q⟩:=i b w;rw[g]at q;cases q),o,upd_same,h⟩
theorem TU{K:ax}:lp K (λxs H Q=>xs.length<=bq/\∀p,H p=af->Q (.ref p) (upd H p (.lst xs))) cH:=λF H xs i Q l h g e q=>by
 unfold cH at e;split at e
 .cases e;exact⟨by rw[g.len];exact Bj (by trivial),λp f=>q p F _ _ (Al.new0 f) (vc f g) (vp f h trivial)⟩
 trivial
theorem kK{x1}(h:DA X E es j):DE X E (.Tuple es x1 pos) (dL d9 j):=λF S i g H Q f q=>bY (Na i_) (B5 OI h f q)
theorem pR(h:DA X E es j):DN X E (.List es pos) (dL cH j):=λF S i g H Q f q=>bY (Ug i_) (vx TU h f q)
theorem jZ(h:DA X E es j):DE X E (.List es pos) (dF (dL cH j)):=(pR h).de
variable{x:Str}{p:Pos}{m:String}{r:List V->Hp->VK->Prop}{f:List PV->Option PV}{A:List PV->Option PO}
theorem cY(v:eF X (.builtin m) r)(l:PL X.K r f)(o:X.mg x=af)(i:fu x=aa (.builtin m))(w:DA X E (e::es) j)(s:Gl X x^0)(n:(x≠"__name__")^1)(h:av x^1)(u:(aX (e::es) X.env=(ak,a8 e X.env)::aX es X.env)^0) (y:((dr pos (aX es X.env)).any (·.1)=ak)^0):DE X E (.Call (.Name x p) (e::es) [] pos) (dL f j):=λF S C z H Q g q=>bY (mx v s o i i_ n h u y) (B5 l w g q)
theorem uW(v:eF X (.builtin m) r)(l:lp X.K r A)(o:X.mg x=af)(i:fu x=aa (.builtin m))(w:DA X E (e::es) j)(s:Gl X x^0)(n:(x≠"__name__")^1)(h:av x^1)(u:(aX (e::es) X.env=(ak,a8 e X.env)::aX es X.env)^0) (y:((dr pos (aX es X.env)).any (·.1)=ak)^0):DN X E (.Call (.Name x p) (e::es) [] pos) (dL A j):=λF S C z H Q g q=>bY (mx v s o i i_ n h u y) (vx l w g q)
theorem tE(v:eF X (.type T) r)(l:PL X.K r f)(o:X.mg x=af)(i:fu x=aa (.type T))(w:DA X E (e::es) j)(s:Gl X x^0)(n:(x≠"__name__")^1)(h:av x^1)(u:(aX (e::es) X.env=(ak,a8 e X.env)::aX es X.env)^0) (y:((dr pos (aX es X.env)).any (·.1)=ak)^0):DE X E (.Call (.Name x p) (e::es) [] pos) (dL f j):=λF S C z H Q g q=>bY (yZ v s o i i_ n h u y) (B5 l w g q)
theorem Br(v:eF X (.type T) r)(l:lp X.K r A)(o:X.mg x=af)(i:fu x=aa (.type T))(w:DA X E (e::es) j)(s:Gl X x^0)(n:(x≠"__name__")^1)(h:av x^1)(u:(aX (e::es) X.env=(ak,a8 e X.env)::aX es X.env)^0) (y:((dr pos (aX es X.env)).any (·.1)=ak)^0):DN X E (.Call (.Name x p) (e::es) [] pos) (dL A j):=λF S C z H Q g q=>bY (yZ v s o i i_ n h u y) (vx l w g q)
theorem eG{r:R2}{f:PV->PV->Option PV}(l:m_ X r)(n:P2 X.K r f)(q:DE X E a B)(o:DE X E b db)(i:BL b:=by exact λ_ _=>rfl):DE X E (.Subscript a b pos) (d2 f B db):=λF S u s H Q g h=>bY (Gx l bJ bJ i) (zd n q o g h)
def B1(X:Cx)(e:Option aC):TO:=λg H Q=>Bx (∀h s,Inv X h g H s->ar X.zz X.A (evalPart e X.env) (λu l=>∃o i,Inv X h g i l/\nP u o/\Q o i) X.xe s)
theorem EX:L2.PO X o (B1 X o):=λg s _ _ _ I h=>h.run g s I
theorem IW(h:L2.PO X o t)(q:t g H Q):B1 X o g H Q:=⟨λi s I=>h i s g H Q I q⟩
def DO(X:Cx)(E:XK)(e:Option aC)(d:ad (Option Int)):Prop:=∀F S h g H Q,aL X.K F S h g H->Ok X.K E g F S H (d h) (λo _ _ _ i=>Q o i)->B1 X e g H Q
def fk:ad (Option Int):=λε=>.ok af ε
def ja:PV->Option Int
 |.int i=>aa i
 |_=>af
def ee(d:ad PV):ad (Option Int):=λε=>(d ε).bind λx ε1=>aR ((ja x).map aa) ε1
theorem mj:DO X E af fk:=λF S l i H Q g h=>IW OS (h F S H g (Grow.refl ..))
theorem kJ(w:DE X E e d):DO X E (aa e) (ee d):=λF S o l H Q s h=>by
 refine IW (QZ bJ) (w F S o l H _ s ((Ok.bind h).imp λx n C y z u G g v q=>?_));cases x <;> first|exact(show False from g).elim|skip
 rename_i i;exact⟨i,q,g C y z u (Grow.refl ..)⟩
def eO{i:Type}(f:PV->Option Int->Option Int->Option i)(d:ad PV)(o n:ad (Option Int)):ad i:=λε=>(d ε).bind λx ε1=>(o ε1).bind λl h=>(n h).bind λu g=>aR (f x l u) g
def G1(K:ax)(r:V->Option Int->Option Int->Hp->VK->Prop)(f:PV->Option Int->Option Int->Option PV):Prop:=∀(F:ae->Prop) (H:Hp) (x:PV) (h i:Option Int) (v:V) (Q:VK) (pv:PV),aN K H F x v->f x h i=aa pv->(∀w l g,Al F l H g->aN K g l pv w->Q w g)->r v h i H Q
theorem lC{r:V->Option Int->Option Int->Hp->VK->Prop}{f:PV->Option Int->Option Int->Option PV}{C G:Option aC}{J I:ad (Option Int)}{W:Pos}(Z:nr X r)(hp:G1 X.K r f)(he:DE X E e d)(hl:DO X E C J)(Y:DO X E G I):DE X E (.Subscript e (.Slice C G af W) pos) (eO f d J I):=λF S M g H Q O h=>by
 refine bY (Qc Z bJ EX EX) (he F S M g H _ O ((Ok.bind h).imp λx n F1 S1 H1 z g1 h1 v N=>?_));refine hl F1 S1 n g H1 _ z ((Ok.bind h1).imp λl i F2 S2 H2 y g2 h2=>?_);refine Y F2 S2 i g H2 _ y ((Ok.bind h2).imp λu L F3 S3 H3 P g3 q=>?_);cases s:f x l u with
 |none=>rw[s]at q;trivial
 |some pv=>rw[s]at q;exact hp F3 H3 x l u v Q pv ((N.grow g2 z.fit).grow g3 y.fit) s λw F' H' al o=>q F' S3 H' (P.al al) al.grow w o
end
inductive aM where
 |next|ret (s:Slot)|brk|cont
def oW(K:ax)(H:Hp)(F:ae->Prop)(s:Slot)(v:V)(c:ae->Prop):Prop:=match s with
 |.val pv=>aN K H F pv v/\∀b,¬c b
 |.own d=>∃a,v=.ref a/\fo K H F d a c
 |.none=>False
def ip(b:List Nat)(c a:St):Prop:=∀i∈b,a[i]?=c[i]?
theorem ip.refl(a:List Nat)(b:St):ip a b b:=λ_ _=>rfl
theorem ip.trans(a:ip c g f)(b:ip c f d):ip c g d:=λi h=>(b i h).trans (a i h)
theorem ip.set(h:i∉a):ip a b (b.set i x):=λj c=>by rw[cK (by rintro rfl;trivial)]
def vX(f:ae->Prop)(c:Nat->ae->Prop)(d:Hp)(a:ae->Prop):Prop:=∀b,a b->¬f b/\¬U c b/\∃o,d b=aa o/\eh o
def gH(K:ax)(E:XK)(i:List Nat)(j:St)(F:ae->Prop)(S:Nat->ae->Prop)(H:Hp)(r:R aM)(D:jW):Prop:=match r with
 |.ok .next f=>∀g h a d,aL K g h f a d->Grow (U S) (U h) F g H d->ip i j a->D.nx a d
 |.ok .brk f=>∀g h a d,aL K g h f a d->Grow (U S) (U h) F g H d->ip i j a->D.bk a d
 |.ok .cont f=>∀g h a d,aL K g h f a d->Grow (U S) (U h) F g H d->ip i j a->D.ct a d
 |.ok (.ret s) f=>∀v g h a d l,aL K g h f a d->Grow (U S) (λb=>U h b\/l b) F g H d->ip i j a->oW K d g s v l->vX g h d l->D.rt v d
 |.er c f=>∀x g h a d,aL K g h f a d->Grow (U S) (U h) F g H d->ip i j a->E c x d
 |.no=>False
def DS(X:Cx)(E:XK)(b:List Nat)(f:bf)(d:ad aM):Prop:=∀F S c a H D,aL X.K F S c a H->gH X.K E b a F S H (d c) D->wpS X f D a H
def gw(X:Cx)(E:XK)(b:List Nat)(f:List bf)(d:ad aM):Prop:=∀F S c a H D,aL X.K F S c a H->gH X.K E b a F S H (d c) D->oP X f D a H
section
variable{K:ax}{E:XK}{b:List Nat}{d i:St}{F m:ae->Prop}{S j:Nat->ae->Prop}{H l:Hp}{D:jW}
theorem gH.from(h:gH K E b d F S H r D)(g:Grow (U S) (U j) F m H l)(p:ip b d i):gH K E b i m j l r D:=by
 cases r with
 |no=>exact h
 |er c y=>exact λx w q a u n g' o=>h x w q a u n (g.trans g') (p.trans o)
 |ok f y=>
  cases f with
  |next=>exact λw q a u n g' o=>h w q a u n (g.trans g') (p.trans o)
  |brk=>exact λw q a u n g' o=>h w q a u n (g.trans g') (p.trans o)
  |cont=>exact λw q a u n g' o=>h w q a u n (g.trans g') (p.trans o)
  |ret s=>exact λv w q a u z n g' o=>h v w q a u z n (g.trans g') (p.trans o)
theorem gH.bindE{r:R o}(h:gH K E b d F S H (r.bind k) D):Ok K E d F S H r (λa f m j l=>gH K E b d m j l (k a f) D):=by
 cases r with
 |no=>exact h
 |er c g=>exact λx u q s p n=>h x u q d s p n (ip.refl _ _)
 |ok a g=>exact λu q s p n=>h.from n (ip.refl _ _)
end
section
variable{X:Cx}{E:XK}{pin:List Nat}{l:bf}{rest:List bf}{d d1 d2:ad aM}{e:aC}{pos:Pos}
def fX:ad aM:=λa=>.ok .next a
theorem jU:gw X E pin [] fX:=λF S c a H D b h=>Ci MN (h F S a H b (Grow.refl ..) (ip.refl _ _))
def aH(d1 d2:ad aM):ad aM:=λε=>match d1 ε with
 |.ok .next ε1=>d2 ε1
 |r=>r
theorem bj(u:DS X E pin l d1)(q:gw X E pin rest d2):gw X E pin (l::rest) (aH d1 d2):=λF S i m H D n h=>by
 refine Ci (LB F7 qu) (u F S i m H {D with nx:=oP X rest D} n ?_);unfold aH at h;split at h
 .rename_i g w;rw[w];exact λz x b y o v p=>q z x g b y D o (h.from v p)
 .rename_i r j;generalize d1 i=r1 at h j;cases r1 with
  |no=>exact h
  |er c a=>exact h
  |ok f a=>
   cases f with
   |next=>exact absurd rfl (j a)
   |brk=>exact h
   |cont=>exact h
   |ret s=>exact h
theorem br(f:DS X E pin l d1):gw X E pin [l] d1:=λF S b a H D c h=>Ci (MH F7) (f F S b a H D c h)
def IS(f:aM):ad aM:=λa=>.ok f a
def ID(d:ad PV):ad aM:=λb=>(d b).bind λ_ a=>.ok .next a
def cu(d:ad PV):ad aM:=λε=>(d ε).bind λx ε1=>.ok (.ret (.val x)) ε1
theorem Grow.cup(g:Grow O c F i H f):Grow O (λb=>c b\/False) F i H f:=⟨g.fro,g.keep,g.there,g.fnew,λa h=>h.elim (g.onew a) False.elim⟩
theorem dX(j:DE X E e de):DS X E pin (.Return (aa e) pos) (cu de):=λF S c a H D g h=>fQ (xY bJ) (j F S c a H _ g (h.bindE.imp λx b p n o i q m v f=>m v p n a o (λ_=>False) i (Grow.refl ..).cup (ip.refl _ _) ⟨f,λ_ z=>z⟩ λ_ z=>z.elim))
def jP(d:ad PO):ad aM:=λε=>(d ε).bind λx ε1=>.ok (.ret (.own x)) ε1
theorem vh(u:DN X E e dn):DS X E pin (.Return (aa e) pos) (jP dn):=λF S j g H D p h=>by
 refine fQ (xY bJ) (u F S j g H _ p ?_);unfold jP at h;cases i:dn j with
 |no=>rw[i]at h;trivial
 |er c o=>rw[i]at h;exact λx J B G r v=>h x J B g G r v (ip.refl _ _)
 |ok L n=>rw[i]at h;intro I A C q f a y s m;exact h _ I A g C y q ⟨f.fro,f.keep,f.there,f.fnew,λb z=>z.elim (f.onew b) λw=>.inr (m b w).1⟩ (ip.refl _ _) ⟨a,rfl,s⟩ λb z=>let ⟨_,x2,x3,x4⟩:=m b z;⟨x2,x3,x4⟩
noncomputable def kT(i:Nat):ad aM:=λa=>match a[i]? with
 |some (.own b)=>.ok (.ret (.own b)) (a.set i .none)
 |_=>.no
theorem aL.drop{K:ax}{c:aj}{f:St}{H:Hp}(r:aL K F S c f H)(i:Nat):aL K F (λj b=>S j b/\j≠i) (c.set i .none) f H:=by
 have no:∀{j s},(c.set i .none)[j]?=aa s->s≠.none->j≠i/\c[j]?=aa s:=λ{j s} e p=>by
  grind
 refine⟨by rw[fZ];exact r.len,r.ex,λj pv e=>r.val j pv (no e (by simp)).2,λj po e=>?_,λj b h=>?_,λj k b m g=>r.dist j k b m.1 g.1⟩
 .obtain⟨q,e⟩:=no e (by simp);obtain⟨a,m,g⟩:=r.own j po e;simp_all
 .obtain⟨⟨po,o⟩,n⟩:=r.foot j b h.1;exact⟨⟨po,by rw[cK (c0 h.2)];trivial⟩,n⟩
theorem yI(i:Nat)(s:(X.N[i]?=aa x)^0)(n:d8 X.env.scope x^2)(r:av x^1)(v:a4 x^1):DS X E pin (.Return (aa (.Name x p)) pos) (kT i):=λF S y f H D c h=>by
 unfold kT at h;split at h
 .rename_i g e;obtain⟨a,u,m⟩:=c.own i g e;refine fQ (xY (eY s n r v)) ⟨_,u,h _ F (λj b=>S j b/\j≠i) f H (S i) (c.drop i) ⟨λ_ z=>z,λ_ _ z _=>z,λ_ o z=>⟨o,z⟩,λ_ z=>.inl z,λb z=>?_⟩ (ip.refl _ _) ⟨a,rfl,m⟩ λb z=>?_⟩
  .rcases z with⟨j,z,_⟩|z
   .exact .inl ⟨j,z⟩
   .exact .inl ⟨i,z⟩
  .exact⟨(c.foot i b z).2.1,λ⟨j,w,q⟩=>q (c.dist j i b w z),(c.foot i b z).2.2⟩
 .exact h.elim
theorem aL.set{K:ax}{ε:aj}{f:St}{H:Hp}{i:Nat}{pv:PV}{v:V}(r:aL K F S ε f H)(h:aN K H F pv v):aL K F (λj b=>S j b/\j≠i) (ε.set i (.val pv)) (f.set i (aa v)) H:=by
 have g:=r.drop i;have len:(ε.set i (.val pv)).length=(f.set i (aa v)).length:=by rw[fZ,fZ];exact r.len
 refine⟨len,r.ex,λj p e=>?_,λj po e=>?_,λj b h=>?_,g.dist⟩
 .by_cases c:i=j
  .subst c;have q:i<ε.length:=by have:=(cJ.mp e).1;rw[fZ]at this;trivial
   rw[eB q]at e;cases e;exact⟨v,eB (by rw[<-r.len];trivial),h⟩
  .rw[cK c]at e;obtain⟨w,s,m⟩:=r.val j p e;exact⟨w,by rw[cK c];trivial,m⟩
 .have c:i≠j:=by
   grind
  rw[cK c]at e;obtain⟨a,s,m⟩:=r.own j po e;have u:(λb=>S j b/\j≠i)=S j:=by funext b;simp[c0 c]
  exact⟨a,by rw[cK c];trivial,by rw[u];trivial⟩
 .obtain⟨⟨po,o⟩,n⟩:=g.foot j b h;refine⟨⟨po,?_⟩,n⟩;rw[cK (c0 h.2)]at o ⊢;trivial
theorem Grow.less(i:Nat):Grow (U S) (U λj b=>S j b/\j≠i) F F H H:=⟨λ_ z=>z,λ_ _ z _=>z,λ_ o z=>⟨o,z⟩,λ_ z=>.inl z,λb ⟨j,z⟩=>.inl ⟨j,z.1⟩⟩
theorem aL.setOwn{K:ax}{n:aj}{s:St}{H:Hp}{i:Nat}{u:PO}{a:ae}{Sa:ae->Prop}(r:aL K F S n s H)(v:i<n.length)(h:fo K H F u a Sa)(o:vX F S H Sa):aL K F (λj b=>(S j b/\j≠i)\/(j=i/\Sa b)) (n.set i (.own u)) (s.set i (aa (.ref a))) H:=by
 have x:=r.drop i;refine⟨by rw[fZ,fZ];exact r.len,r.ex,λj p e=>?_,λj g e=>?_,λj b h=>?_,λj k b f c=>?_⟩
 .have m:i≠j:=by rintro rfl;rw[eB v]at e;cases e
  rw[cK m]at e;obtain⟨w,f,c⟩:=r.val j p e;exact⟨w,by rw[cK m];trivial,c⟩
 .by_cases m:i=j
  .subst m;rw[eB v]at e;cases e;have q:(λb=>(S i b/\i≠i)\/(i=i/\Sa b))=Sa:=by simp
   exact⟨a,eB (by rw[<-r.len];trivial),by rw[q];exact h⟩
  .rw[cK m]at e;obtain⟨A,f,c⟩:=r.own j g e;have q:(λb=>(S j b/\j≠i)\/(j=i/\Sa b))=S j:=by funext b;simp[c0 m]
   exact⟨A,by rw[cK m];trivial,by rw[q];trivial⟩
 .rcases h with h|⟨rfl,h⟩
  .obtain⟨⟨g,z⟩,y⟩:=x.foot j b h;refine⟨⟨g,?_⟩,y⟩;rw[cK (c0 h.2)]at z ⊢;trivial
  .obtain⟨D,C,B⟩:=o b h;simp_all
 .rcases f with f|⟨rfl,f⟩ <;> rcases c with c|⟨rfl,c⟩
  .exact r.dist j k b f.1 c.1
  .exact absurd ⟨j,f.1⟩ (o b c).2.1
  .exact absurd ⟨k,c.1⟩ (o b f).2.1
  rfl
def bw(i:Nat)(d:ad PV):ad aM:=λε=>(d ε).bind λx ε1=>.ok .next (ε1.set i (.val x))
theorem d_(i:Nat)(u:X.N.Nodup)(s:DE X E e de)(o:(i∉pin)^1)(q:(X.N[i]?=aa x)^0)(m:Loc X.env.scope x^6)(n:(jg e (aa (.Name x p)) pos.line X.env=pure ak)^0)(r:az X x^3):DS X E pin (.Assign [.Name x p] e pos) (bw i de):=λF S c a H D g h=>fQ (CI u q m bJ n r) (s F S c a H _ g (h.bindE.imp λx b z B y j A w v f=>w z _ _ y (j.set f) (Grow.less i) (ip.set o)))
def cQ(i:Nat)(d:ad PO):ad aM:=λε=>(d ε).bind λx ε1=>if i<ε1.length then .ok .next (ε1.set i (.own x))else .no
theorem kq(i:Nat){x:Str}(L:X.N.Nodup)(J:DN X E e dn)(C:(i∉pin)^1)(G:(X.N[i]?=aa x)^0)(A:Loc X.env.scope x^6)(B:(jg e (aa (.Name x p)) pos.line X.env=pure ak)^0)(I:az X x^3):DS X E pin (.Assign [.Name x p] e pos) (cQ i dn):=λF S q o H D u h=>by
 refine fQ (CI L G A bJ B I) (J F S q o H _ u ?_);unfold cQ at h;cases n:dn q with
 |no=>rw[n]at h;trivial
 |er c s=>rw[n]at h;exact λx T N P w M=>h x T N o P w M (ip.refl _ _)
 |ok W g=>
  rw[n]at h;simp only[R.bind_ok]at h;intro Q Z O v f a Y y r;by_cases m:i<g.length
  .rw[if_pos m]at h;refine h Q _ _ O (v.setOwn m y λb z=>(r b z).2) ⟨f.fro,f.keep,f.there,f.fnew,λb ⟨j,z⟩=>?_⟩ (ip.set C);rcases z with z|⟨_,z⟩
   .exact f.onew b ⟨j,z.1⟩
   .exact .inr (r b z).1
  .rw[if_neg m]at h;trivial
theorem jY{t:ad Bool}(r:DT X E c t)(u:gw X E pin a d1)(s:gw X E pin b d2):DS X E pin (.If c a b pos) (cI t d1 d2):=λF S p g H D q h=>by
 refine fQ (Uu nv qu qu) (r F S p g H _ q (h.bindE.imp λk f o m n i v j=>?_));cases k with
 |true=>exact nB (u o m f g n D i j)
 |false=>exact nj (s o m f g n D i j)
def dy(r:R aM):R aM:=match r with
 |.er _ _=>.no
 |r=>r
theorem kL(h:DS X.nox E0 pin l d):DS X E pin l (λa=>dy (d a)):=λF S a b H D i q=>Bx.mk λm s I=>by
 have q:gH X.K E pin b F S H (dy (d a)) D:=q;have j:gH X.K E0 pin b F S H (d a) D:=by
  cases e:d a with
  |no=>rw[e]at q;exact q
  |er c g=>rw[e]at q;trivial
  |ok f g=>rw[e]at q;cases f <;> exact q
 exact ff ((h F S a b H D i j).run m s (I.wish _)) (λ_ _ z=>z.unwish) λ_ _ z=>z.elim
def lG(X:Cx)(f a:aC):TI:=λb H h=>Bx (∀c s,Inv X c b H s->ar X.zz X.A (a8 a X.env) (λv g=>ar X.zz X.A (nN v) (xP X c b f h) X.xe g) X.xe s)
theorem v8:PI X b a (lG X b a):=λc s _ _ _ I h=>h.run c s I
theorem N8(h:PI X f a t)(q:t b H c):lG X f a b H c:=⟨λg s I=>h g s b H c I q⟩
def DI(X:Cx)(E:XK)(q a:aC)(d:ad (List PV)):Prop:=∀F S m c H n,aL X.K F S m c H ->
 Ok X.K E c F S H (d m) (λg _ p r i=>∀J f o,aZ X.K i p g f->f.length<=bq->Walk J f o->(∀h j b,Grow (U r) (U h) p j i b->o b)->n J i)->lG X q a c H n
def fc(i:Nat)(db:ad aM):List PV->aj->R aM
 |[],ε=>.ok .next ε
 |x::xs,ε=>match db (ε.set i (.val x))with
  |.ok .next a=>fc i db xs a
  |.ok .cont a=>fc i db xs a
  |.ok .brk a=>.ok .next a
  |r=>r
def b9(i:Nat)(a:ad (List PV))(db:ad aM):ad aM:=λε=>(a ε).bind λxs ε1=>fc i db xs ε1
theorem iY(i:Nat){x:Str}{r:List bf}{di:ad (List PV)}{C:ad aM}(wZ:we X.zz X.A X.env X.xe)(hc:X.calm=ah)(hN:X.N.Nodup)(hi:DI X E (.Name x p) o di)(hb:gw X E pin r C)(hp:(i∉pin)^1) (A:(X.N[i]?=aa x)^0) (P:Loc X.env.scope x^6) (hs:(∀x,lL o X.env x=pure x)^4)(hf:az X x^3):DS X E pin (.For (.Name x p) o r [] pos) (b9 i di C):=λF S ε σ H D rl h=>by
 refine fQ (GW wZ hc v8 (qD hN A P hf) qu hs) (hi F S ε σ H _ rl (h.bindE.imp λxs I F1 S1 H1 Z g1 h1 J vs RR Y hz hw keep=>?_));refine HF hw (λk a n=>∃u w m,aL X.K u w m a n/\Grow (U S1) (U w) F1 u H1 n/\gH X.K E pin a u w n (fc i C (xs.drop k) m) D) ⟨F1,S1,I,Z,Grow.refl ..,h1⟩ (λk a n _ ⟨u,w,m,_,g,_⟩=>keep w u n g) ?_ ?_
 .rintro k v a n hv ⟨u,w,m,N,B,q⟩;obtain⟨x,A,rx⟩:=Y.back hv;have hk:k<xs.length:=(cJ.mp A).1;have ed:xs.drop k=x::xs.drop (k+1):=by rw[wC hk];congr 1;exact(cJ.mp A).2
  rw[ed]at q;have L:=rx.grow B Z.fit;have r2:=N.set (i:=i) L;have Q:Grow (U w) (U λj b=>w j b/\j≠i) u u n n:=Grow.less i;show oP X r _ (a.set i (aa v)) n;refine hb u _ _ _ n _ r2 ?_;unfold fc at q;have q:=q.from Q (ip.set (x:=aa v) hp);cases e:C (m.set i (.val x))with
  |no=>rw[e]at q;exact q
  |er c y=>rw[e]at q;exact q
  |ok f y=>
   rw[e]at q;cases f with
   |next=>exact λW T G H3 M z O=>⟨W,T,y,M,(B.trans Q).trans z,q.from z O⟩
   |cont=>exact λW T G H3 M z O=>⟨W,T,y,M,(B.trans Q).trans z,q.from z O⟩
   |brk=>exact q
   |ret s=>exact q
 .rintro a n ⟨u,w,m,N,B,q⟩;have P:vs.length=xs.length:=Y.len;rw[P,zV]at q;exact q u w a n N (Grow.refl ..) (ip.refl _ _)
def jb(t:ad Bool)(b:ad aM):Nat->aj->R aM
 |0,_=>.no
 |n+1,ε=>(t ε).bind λk ε1=>match k with
  |false=>.ok .next ε1
  |true=>match b ε1 with
   |.ok .next a=>jb t b n a
   |.ok .cont a=>jb t b n a
   |.ok .brk a=>.ok .next a
   |r=>r
theorem PH{j:ad aM}(P:aj->Nat)(Q:we X.zz X.A X.env X.xe)(Y:DT X E c t)(Z:gw X E pin n j):DS X E pin (.While c n [] pos) (λv=>jb t j (P v) v):=λF S v σ H D T h=>by
 refine fQ (TX Q nv qu) ⟨λm b u=>∃y x a,aL X.K y x a b u/\gH X.K E pin b y x u (jb t j m a) D,⟨P v,F,S,v,T,h⟩,?_⟩;rintro m g H1 ⟨F1,S1,A,W,q⟩;cases m with
 |zero=>exact q.elim
 |succ m=>
  refine Y F1 S1 A g H1 _ W (q.bindE.imp λk p N J L O g2 i=>?_);cases k with
  |false=>exact nj (i N J g L O (Grow.refl ..) (ip.refl _ _))
  |true=>
   refine nB ⟨λb u=>∃y x a,aL X.K y x a b u/\gH X.K E pin b y x u (jb t j m a) D,λb u w=>⟨m,J5 m,w⟩,Z N J p g L _ O ?_⟩;have i:gH X.K E pin g N J L (match j p with
    |.ok .next a=>jb t j m a
    |.ok .cont a=>jb t j m a
    |.ok .brk a=>.ok .next a
    |r=>r) D:=i
   cases e:j p with
   |no=>rw[e]at i;exact i
   |er c o=>rw[e]at i;trivial
   |ok f o=>
    rw[e]at i;cases f with
    |next=>exact λM I z H3 B G C=>⟨M,I,o,B,i.from G C⟩
    |cont=>exact λM I z H3 B G C=>⟨M,I,o,B,i.from G C⟩
    |brk=>trivial
    |ret s=>trivial
end
def y9(K:ax)(E:XK)(i:List V)(F:ae->Prop)(S:Nat->ae->Prop)(H:Hp)(r:R Slot)(Q:VK):Prop:=match r with
 |.ok s h=>∀v d f a g,aL K d f h (i.map aa) a->Grow (U S) (λb=>U f b\/g b) F d H a->oW K a d s v g->vX d f a g->(∀b,g b->H b=af)->Q v a
 |.er c h=>∀x d f a,aL K d f h (i.map aa) a->Grow (U S) (U f) F d H a->E c x a
 |.no=>False
noncomputable def fU(K:ax)(g:ad Slot):Sp:=λa H Q E=>∃F S b,aL K F S b (a.map aa) H/\y9 K E a F S H (g b) Q
structure qt(CX:gx)(P:aP)(w:aI)(K:ax)(mg:Str->Option ai)(base:aB)(x:Str)(k:Nat)(ps:List Str)(sp:Sp):Prop where
 ex:∃f fd,mg x=aa (.ref f)/\lv P w K mg base CX k f fd ps sp/\Binds K fd ps []/\qM K (.ref f)=ah
def back:aj->aj->Option aj
 |[],_=>aa []
 |.own _::a,.own c::b=>(back a b).map (.own c::·)
 |.own _::_,_=>af
 |s::a,_::b=>(back a b).map (s::·)
 |_::_,[]=>af
theorem yt:∀{a c b:aj},back a c=aa b->b.length=a.length/\∀(i:Nat) (s:Slot),b[i]?=aa s->(∃f d,a[i]?=aa (.own f)/\c[i]?=aa (.own d)/\s=.own d)\/(a[i]?=aa s/\∀f,s≠.own f)
 |[],_,b,h=>by cases h;exact⟨rfl,λi s e=>by simp at e⟩
 |.own f::a,.own d::c,b,h=>by
  unfold back at h;cases e:back a c with
  |none=>rw[e]at h;cases h
  |some r=>
   rw[e]at h;cases h;obtain⟨l,q⟩:=yt e;refine⟨by simp[l],λi s g=>?_⟩;cases i with
   |zero=>simp at g;subst g;exact .inl ⟨f,d,rfl,rfl,rfl⟩
   |succ i=>simpa using q i s (by trivial)
 |.own f::a,.none::c,b,h=>by cases h
 |.own f::a,.val _::c,b,h=>by cases h
 |.own f::a,[],b,h=>by cases h
 |.none::a,[],b,h=>by cases h
 |.val _::a,[],b,h=>by cases h
 |.none::a,x::c,b,h=>by
  have h:(back a c).map (Slot.none::·)=aa b:=by trivial
  cases e:back a c with
  |none=>rw[e]at h;cases h
  |some r=>
   rw[e]at h;cases h;obtain⟨l,q⟩:=yt e;refine⟨by simp[l],λi s g=>?_⟩;cases i with
   |zero=>simp at g;subst g;exact .inr ⟨rfl,λ_ z=>by cases z⟩
   |succ i=>simpa using q i s (by trivial)
 |.val pv::a,x::c,b,h=>by
  have h:(back a c).map (Slot.val pv::·)=aa b:=by trivial
  cases e:back a c with
  |none=>rw[e]at h;cases h
  |some r=>
   rw[e]at h;cases h;obtain⟨l,q⟩:=yt e;refine⟨by simp[l],λi s g=>?_⟩;cases i with
   |zero=>simp at g;subst g;exact .inr ⟨rfl,λ_ z=>by cases z⟩
   |succ i=>simpa using q i s (by trivial)
def bH(n:Nat)(d:ad aM):ad Slot:=λf=>match d (f++dQ n .none)with
 |.ok (.ret r) a=>(aR (back f a) []).bind λb _=>.ok r b
 |.ok .next a=>(aR (back f a) []).bind λb _=>.ok (.val .non) b
 |.er c a=>(aR (back f a) []).bind λb _=>.er c b
 |_=>.no
section
variable{K:ax}{F x:ae->Prop}{S o:Nat->ae->Prop}{c l m:aj}{f:St}{H u:Hp}{d:List V}
theorem aL.start(r:aL K F S c (d.map aa) H)(n:Nat):aL K F S (c++dQ n .none) (d.map aa++dQ n af) H:=by
 have w:c.length=(d.map aa).length:=r.len;have no:∀{j:Nat}{s:Slot},(c++dQ n Slot.none)[j]?=aa s->s≠.none->c[j]?=aa s:=λ{j s} e y=>by
  grind
 have up:∀{j:Nat}{v:Option V},(d.map aa)[j]?=aa v->(d.map aa++dQ n af)[j]?=aa v:=λ{j v} e=>by rw[wj (cJ.mp e).1];exact e
 refine⟨by simp[w],r.ex,λj pv e=>?_,λj a e=>?_,λj b h=>?_,r.dist⟩
 .obtain⟨v,i,g⟩:=r.val j pv (no e (by simp));exact⟨v,up i,g⟩
 .obtain⟨v,i,g⟩:=r.own j a (no e (by simp));exact⟨v,up i,g⟩
 .obtain⟨⟨a,q⟩,p⟩:=r.foot j b h;exact⟨⟨a,by rw[wj (cJ.mp q).1];exact q⟩,p⟩
theorem F8(h:fo K H F i a j)(p:gf i=ah):∀b,j b↔b=a:=by
 cases i with
 |lst xs=>exact h.2
 |dK g=>exact h.2
 |lls n=>trivial
 |dL n=>trivial
 |ins C fs=>exact h.2
 |dT g=>exact h.2
 |dN g=>exact h.2
 |inl C fs y xs=>trivial
theorem OV(h:fo K H F g a i):i a:=by
 cases g with
 |lst xs=>exact(h.2 a).mpr rfl
 |dK b=>exact(h.2 a).mpr rfl
 |lls j=>obtain⟨n,_,_,_,_,w⟩:=h;simp_all
 |dL j=>obtain⟨n,_,_,_,_,w⟩:=h;simp_all
 |ins C fs=>exact(h.2 a).mpr rfl
 |dT b=>exact(h.2 a).mpr rfl
 |dN b=>exact(h.2 a).mpr rfl
 |inl C fs y xs=>obtain⟨_,_,_,_,_,_,_,_,_,_,w⟩:=h;simp_all
theorem aL.back(C:aL K F S c (d.map aa) H)(r:aL K x o l f u)(g:Grow (U S) X F x H u)(p:ip D (d.map aa++dQ n af) f)(P:∀(i:Nat) (s:PO),c[i]?=aa (.own s)->i∈D)(T:back c l=aa m):∃B,aL K x B m (d.map aa) u/\(∀b,U B b->U o b)/\((∀(i:Nat) (s:PO),c[i]?=aa (.own s)->gf s=ah)->∀b,U S b->U B b):=by
 obtain⟨L,E⟩:=yt T;have inj:∀(i:Nat) (s:PO),c[i]?=aa (.own s)->∃a,(d.map aa)[i]?=aa (aa (.ref a))/\f[i]?=aa (aa (.ref a))/\fo K H F s a (S i):=λi s e=>by obtain⟨a,A,y⟩:=C.own i s e;refine⟨a,A,?_,y⟩;rw[p i (P i s e),wj (cJ.mp A).1];trivial
 have bk:∀(i:Nat) (s:PO),c[i]?=aa (.own s)->∃w,m[i]?=aa (.own w)/\l[i]?=aa (.own w):=λi s e=>by
  have Q:i<m.length:=by rw[L];exact(cJ.mp e).1
  rcases E i m[i] (by simp)with⟨p1,p2,q1,q2,q3⟩|⟨q1,q2⟩
  .exact⟨p2,by rw[eD Q,q3],q2⟩
  .rw[e]at q1;exact absurd (fe q1).symm (q2 s)
 refine⟨λi b=>o i b/\∃s,c[i]?=aa (.own s),⟨by rw[L];exact C.len,r.ex,λi pv e=>?_,λi s e=>?_,λi b h=>?_,λi j b A y=>r.dist i j b A.1 y.1⟩,λb ⟨i,h⟩=>⟨i,h.1⟩,λO b ⟨i,h⟩=>?_⟩
 .rcases E i _ e with⟨_,_,_,_,z⟩|⟨q1,_⟩
  .cases z
  .obtain⟨v,A,y⟩:=C.val i pv q1;exact⟨v,A,y.grow g C.fit⟩
 .rcases E i _ e with⟨p1,p2,q1,q2,q3⟩|⟨_,q2⟩
  .cases q3;obtain⟨a,A,y,N⟩:=inj i p1 q1;obtain⟨W,G,M⟩:=r.own i s q2;simp_all
  .exact absurd rfl (q2 s)
 .obtain⟨s,q⟩:=h.2;obtain⟨w,J,I⟩:=bk i s q;exact⟨⟨w,J⟩,(r.foot i b h.1).2⟩
 .obtain⟨⟨s,q⟩,_⟩:=C.foot i b h;obtain⟨a,A,y,N⟩:=inj i s q;obtain⟨w,J,I⟩:=bk i s q;obtain⟨W,G,M⟩:=r.own i w I;rw[y]at G;cases G;have e:b=a:=(F8 N (O i s q) b).mp h;exact⟨i,e ▸ OV M,s,q⟩
end
theorem y4{K:ax}{F:ae->Prop}{S:Nat->ae->Prop}{H:Hp}{r:R Slot}{Q:VK}(h:y9 K E a F S H r Q):r≠.no:=λz=>by rw[z]at h;exact h
theorem Fe{K:ax}(d:∀a,g a≠.no->a.length=m):∀b H Q E,fU K g b H Q E->b.length=m:=λb H Q E ⟨F,S,a,c,ok⟩=>by
 have:=d a (y4 ok);have f:=c.len
 grind
theorem IZ{s:List bf}{N T:List Str}{n:Nat}{g:ad Slot}{d:ad aM}{A:List Nat}(hn:N.length=T.length+n)(bu:∀a,g a≠.no->a.length=T.length) (kG:∀a,g a≠.no->∀(i:Nat) po,a[i]?=aa (.own po)->i∈A) (rA:∀a p m,g a=.ok p m->(∃pv,p=.val pv)\/∀(i:Nat) po,a[i]?=aa (.own po)->gf po=ah) (hg:∀a,g a≠.no->bH n d a=g a)(hb:gw X E A s d) (gL:fU X.K g u H Q E):oP X s {nx:=λ_ l=>Q .non l,rt:=Q} (L2.start N u) H:=by
 obtain⟨F,S,a,L,ok⟩:=gL;have hl:=bu a (y4 ok);have h2:=L.len;rw[cG]at h2;have es:L2.start N u=u.map aa++dQ n af:=by unfold L2.start;simp_all
 rw[es];refine hb F S _ _ H _ (L.start n) ?_;have Y:=kG a (y4 ok);have Z:=hg a (y4 ok);have O:=rA a;rw[<-Z]at ok O;unfold bH at ok O;generalize d (a++dQ n .none)=r at ok O ⊢;cases r with
 |no=>exact ok
 |er c h=>
  intro x q C j l D f G;have ok:y9 X.K E u F S H ((aR (back a h) []).bind λm _=>.er c m) Q:=ok;cases e:back a h with
  |none=>rw[e]at ok;trivial
  |some m=>rw[e]at ok;obtain⟨B,y,o,_⟩:=L.back D f G Y e;exact ok x q B l y ⟨f.fro,f.keep,f.there,f.fnew,λb z=>f.onew b (o b z)⟩
 |ok fl h=>
  have I:∀(p:Slot),(∀m,back a h=aa m->(∃pv,p=.val pv)\/∀(i:Nat) po,a[i]?=aa (.own po)->gf po=ah)->y9 X.K E u F S H ((aR (back a h) []).bind λm _=>.ok p m) Q->∀(v:V) q C j l J,aL X.K q C h j l->Grow (U S) (λb=>U C b\/J b) F q H l->ip A (u.map aa++dQ n af) j->oW X.K l q p v J->vX q C l J->Q v l:=by
   intro p P ok v q C j l J D f G W M;cases e:back a h with
   |none=>rw[e]at ok;trivial
   |some m=>
    rw[e]at ok;obtain⟨B,y,o,up⟩:=L.back D f G Y e;refine ok v q B l J y ⟨f.fro,f.keep,f.there,f.fnew,λb z=>f.onew b (z.imp (o b) id)⟩ W (λb z=>⟨(M b z).1,λw=>(M b z).2.1 (o b w),(M b z).2.2⟩) λb z=>?_;rcases P m e with⟨pv,rfl⟩|hf
    .exact absurd z (W.2 b)
    rcases f.onew b (.inr z)with w|w
    .exact absurd (o b (up hf b w)) (M b z).2.1
    trivial
  cases fl with
  |brk=>trivial
  |cont=>trivial
  |ret p=>exact I p (λm e=>O p m ⋯) ok
  |next=>exact λq C j l D f G=>I (.val .non) (λ_ _=>.inl ⟨_,rfl⟩) ok .non q C j l (λ_=>False) D ⟨f.fro,f.keep,f.there,f.fnew,λb z=>z.elim (f.onew b) False.elim⟩ G ⟨rfl,λ_ z=>z⟩ λ_ z=>z.elim
theorem L4{P:aP}{w:aI}{K:ax}{v:Str->Option ai}{j:aB}{x b:Str}{h:bf}{N l:List Str}{k n:Nat}{g:ad Slot}{d:ad aM}{m:List Nat}(Z:pV K x b h f p)(Y:cg N l (bp h))(M:N.length=l.length+n)(hb:∀(kV o u:ai) (B:Option ae) (C y:ai) (q:List ai),q.length=l.length->gn (iK x b (jV h) (fW h) (bp h) .none kV o u B C y) ⟨q,[]⟩=pure (l.zip q))(z:∀c,g c≠.no->c.length=l.length) (J:∀c,g c≠.no->∀(i:Nat) po,c[i]?=aa (.own po)->i∈m) (F:∀c r X,g c=.ok r X->(∃pv,r=.val pv)\/∀(i:Nat) po,c[i]?=aa (.own po)->gf po=ah) (O:∀c,g c≠.no->bH n d c=g c)(S:∀(A:aV) (a:List Env) (s:ao) (H:Hp) (E:XK),fP k (A.deeper (jj b (bp h) s.heap.objs.size f p.code))->gw (iZ D P w K v j N b (bp h) f p.code A a s H E) E m (fW h) d):lv P w K v j D (k+1) f p l (fU K g):=by obtain⟨oc,od,kV,o,u,B,C,y,G,rfl,I,W⟩:=Z.ex;exact Lo I W Y (Fe z) λA a s H vs Q E L T=>⟨_,qu,IZ M z J F O (S A a s H E L) T⟩
theorem G0{P:aP}{w:aI}{K:ax}{y:Str->Option ai}{l:aB}{x b:Str}{j:bf}{N m:List Str}{k n:Nat}{g:ad Slot}{d:ad aM}{p:List Nat}(Q:pV K x b j f u)(O:cg N m (bp j))(D:N.length=m.length+n)(G:∀(kV v C:ai) (M:Option ae) (q J:ai) (r:List ai),r.length=m.length->gn (iK x b (jV j) (fW j) (bp j) .none kV v C M q J) ⟨r,[]⟩=pure (m.zip r))(L:∀c,g c≠.no->c.length=m.length) (z:∀c,g c≠.no->∀(i:Nat) o,c[i]?=aa (.own o)->i∈p/\gf o=ah) (F:∀c,g c≠.no->bH n d c=g c)(I:∀(f:ae) (q:ai) (A:aV) (a:List Env) (s:ao) (H:Hp) (E:XK),fP k (A.deeper (jj b (bp j) s.heap.objs.size f q))->gw (iZ B P w K y l N b (bp j) f q A a s H E) E p (fW j) d):lv P w K y l B (k+1) f u m (fU K g):=L4 Q O D G L (λc h i o e=>(z c h i o e).1) (λc S T h=>.inr λi o e=>(z c ⋯ i o e).2) F λA a s H E=>I f u.code A a s H E
theorem U4{K:ax}{p:Str->Option ai}{c:aB}{x:Str}{b:bf}{N j:List Str}{k n:Nat}{g:ad Slot}{d:ad aM}{l:List Nat}(D:cB K p x b)(O:cg N j (bp b))(B:N.length=j.length+n)(u:∀(kV q y:ai) (M:Option ae) (m J:ai) (o:List ai),o.length=j.length->gn (iK x x (jV b) (fW b) (bp b) .none kV q y M m J) ⟨o,[]⟩=pure (j.zip o))(L:∀a,g a≠.no->a.length=j.length) (z:∀a,g a≠.no->∀(i:Nat) po,a[i]?=aa (.own po)->i∈l/\gf po=ah) (F:∀a,g a≠.no->bH n d a=g a)(G:∀(f:ae) (m:ai) (A:aV) (h:List Env) (s:ao) (H:Hp) (E:XK),fP k (A.deeper (jj x (bp b) s.heap.objs.size f m))->gw (iZ v P w K p c N x (bp b) f m A h s H E) E l (fW b) d):qt v P w K p c x (k+1) j (fU K g):=by obtain⟨f,I,C,r⟩:=D.ex;exact⟨f,I,C,G0 r O B u L z F G,r.binds u,r.kp⟩
noncomputable abbrev cW:=Sum PV Nat
def jQ(K:ax)(b:St)(F:ae->Prop)(H:Hp):List cW->List V->Prop
 |[],a=>a=[]
 |.inl pv::c,a=>∃v r,a=v::r/\aN K H F pv v/\jQ K b F H c r
 |.inr i::c,a=>∃v r,a=v::r/\b[i]?=aa (aa v)/\jQ K b F H c r
def DG(X:Cx)(E:XK)(g:List aC)(d:ad (List cW)):Prop :=
 ∀F S b a H Q,aL X.K F S b a H->Ok X.K E a F S H (d b) (λh _ i _ f=>∀c,jQ X.K a i f h c->Q c f)->rP X g a H Q
section
variable{c:ad (List cW)}{f:Pos}
def bS:ad (List cW):=λε=>.ok [] ε
def gV(d:ad PV)(c:ad (List cW)):ad (List cW):=λε=>(d ε).bind λx ε1=>(c ε1).bind λxs a=>.ok (.inl x::xs) a
def gO(i:Nat)(c:ad (List cW)):ad (List cW):=λd=>match d[i]? with
 |some (.own _)=>(c d).bind λxs a=>.ok (.inr i::xs) a
 |_=>.no
theorem b8:DG X E [] bS:=λF S g d H Q a h=>u8 jz (h F S H a (Grow.refl ..) _ rfl)
theorem MR(s:DE X E e de)(r:DG X E b c)(q:(aX (e::b) X.env=(ak,a8 e X.env)::aX b X.env)^0):DG X E (e::b) (gV de c):=λF S j d H Q n h=>by refine u8 (i7 bJ i_ q) (s F S j d H _ n ((Ok.bind h).imp λx a G A C g I w v m=>?_));refine r G A a d C _ g ((Ok.bind w).imp λxs i D z B o y u l p=>?_);exact u D z B o (Grow.refl ..) _ ⟨v,l,rfl,m.grow y g.fit,p⟩
theorem iV(i:Nat)(v:DG X E b c)(y:(X.N[i]?=aa x)^0)(s:d8 X.env.scope x^2)(w:av x^1)(A:a4 x^1) (u:(aX (.Name x p::b) X.env=(ak,a8 (.Name x p) X.env)::aX b X.env)^0):DG X E (.Name x p::b) (gO i c):=λF S m j H Q d h=>by
 unfold gO at h;split at h
 .rename_i q e;obtain⟨a,g,_⟩:=d.own i q e;refine u8 (i7 (eY y s w A) i_ u) ⟨_,g,v F S m j H _ d ((Ok.bind h).imp λxs l D B C o G z n r=>?_)⟩;exact z D B C o (Grow.refl ..) _ ⟨_,n,rfl,g,r⟩
 .exact h.elim
end
def eQ(a:aj):List cW->Option aj
 |[]=>aa []
 |.inl pv::b=>(eQ a b).map (.val pv::·)
 |.inr i::b=>match a[i]? with
  |some (.own c)=>(eQ a b).map (.own c::·)
  |_=>af
def iU:aj->List cW->aj->aj
 |a,.inl _::c,_::b=>iU a c b
 |a,.inr i::c,s::b=>iU (a.set i s) c b
 |a,_,_=>a
def cD:List cW->List Nat
 |[]=>[]
 |.inl _::as=>cD as
 |.inr i::as=>i::cD as
theorem GE:∀{as:List cW}{i:Nat},i∈cD as↔∃k:Nat,as[k]?=aa (.inr i)
 |[],i=>by simp[cD]
 |.inl _::as,i=>by
  unfold cD;rw[GE];constructor
  .rintro⟨k,h⟩;exact⟨k+1,by trivial⟩
  .rintro⟨k,h⟩;cases k with
   |zero=>simp at h
   |succ k=>exact⟨k,by trivial⟩
 |.inr j::as,i=>by
  unfold cD;rw[bZ,GE];constructor
  .rintro(rfl|⟨k,h⟩)
   .exact⟨0,rfl⟩
   .exact⟨k+1,by trivial⟩
  .rintro⟨k,h⟩;cases k with
   |zero=>simp at h;exact .inl h.symm
   |succ k=>exact .inr ⟨k,by trivial⟩
theorem yQ:∀{a:List cW}{b:aj},eQ d a=aa b->b.length=a.length/\∀(k:Nat) (s:Slot),b[k]?=aa s->(∃pv,a[k]?=aa (.inl pv)/\s=.val pv)\/∃i f,a[k]?=aa (.inr i)/\d[i]?=aa (.own f)/\s=.own f
 |[],b,h=>by cases h;exact⟨rfl,λk s e=>by simp at e⟩
 |.inl pv::a,b,h=>by
  unfold eQ at h;cases e:eQ d a with
  |none=>rw[e]at h;cases h
  |some r=>
   rw[e]at h;cases h;obtain⟨l,q⟩:=yQ e;refine⟨by simp[l],λk s c=>?_⟩;cases k with
   |zero=>simp at c;exact .inl ⟨pv,rfl,c.symm⟩
   |succ k=>simpa using q k s (by trivial)
 |.inr i::a,b,h=>by
  unfold eQ at h;split at h
  .rename_i f g;cases e:eQ d a with
   |none=>rw[e]at h;cases h
   |some r=>
    rw[e]at h;cases h;obtain⟨l,q⟩:=yQ e;refine⟨by simp[l],λk s c=>?_⟩;cases k with
    |zero=>simp at c;exact .inr ⟨i,f,rfl,g,c.symm⟩
    |succ k=>simpa using q k s (by trivial)
  trivial
theorem AM:∀(c:List cW) (a b:aj),(iU a c b).length=a.length
 |[],a,b=>by cases b <;> rfl
 |.inl _::c,a,[]=>rfl
 |.inr _::c,a,[]=>rfl
 |.inl _::c,a,s::b=>AM c a b
 |.inr i::c,a,s::b=>by show(iU (a.set i s) c b).length=_;rw[AM,fZ]
theorem tj:∀(a:List cW) (b c:aj) (j:Nat),j∉cD a->(iU b a c)[j]?=b[j]?
 |[],b,c,j,_=>by cases c <;> rfl
 |.inl _::a,b,[],j,_=>rfl
 |.inr _::a,b,[],j,_=>rfl
 |.inl _::a,b,s::c,j,h=>tj a b c j h
 |.inr i::a,b,s::c,j,h=>by
  have d:¬(j=i\/j∈cD a):=by simpa[cD]using h
  show(iU (b.set i s) a c)[j]?=_;rw[tj a _ c j λz=>d (.inr z),cK λz=>d (.inl z.symm)]
theorem uz:∀(a:List cW) (b c:aj) (j k:Nat) (s:Slot),(cD a).Nodup->j<b.length->a[k]?=aa (.inr j)->c[k]?=aa s->(iU b a c)[j]?=aa s
 |[],b,c,j,k,s,_,_,h,_=>by trivial
 |_::a,b,[],j,k,s,_,_,_,h=>by trivial
 |.inl _::a,b,t::c,j,0,s,_,_,h,_=>by simp at h
 |.inl _::a,b,t::c,j,k+1,s,nd,hj,h,g=>uz a b c j k s nd hj (by trivial) (by trivial)
 |.inr i::a,b,t::c,j,0,s,nd,hj,h,g=>by simp at h g;subst h g;have d:i∉cD a:=(kB.mp nd).1;show(iU (b.set i t) a c)[i]?=_;rw[tj a _ c i d,eB hj]
 |.inr i::a,b,t::c,j,k+1,s,nd,hj,h,g=>uz a (b.set i t) c j k s (kB.mp nd).2 (by rw[fZ];trivial) (by trivial) (by trivial)
theorem jQ.len{K:ax}{H:Hp}:∀{a:List cW}{b:List V},jQ K c F H a b->b.length=a.length
 |[],_,h=>by rw[show _=[] from h];rfl
 |.inl _::a,_,⟨v,r,e,_,h⟩=>by rw[e,fz,fz,jQ.len h]
 |.inr _::a,_,⟨v,r,e,_,h⟩=>by rw[e,fz,fz,jQ.len h]
theorem jQ.val{K:ax}{H:Hp}:∀{as:List cW}{c:List V}{k:Nat}{pv:PV},jQ K d F H as c->as[k]?=aa (.inl pv)->∃v,c[k]?=aa v/\aN K H F pv v
 |[],_,k,_,_,e=>by trivial
 |.inl x::as,_,0,pv,⟨v,r,e,h,_⟩,q=>by simp at q;subst q e;exact⟨v,rfl,h⟩
 |.inr _::as,_,0,pv,_,q=>by simp at q
 |.inl x::as,_,k+1,pv,⟨v,r,e,_,h⟩,q=>by obtain⟨w,a,b⟩:=jQ.val (k:=k) h (by trivial);subst e;exact⟨w,by trivial,b⟩
 |.inr x::as,_,k+1,pv,⟨v,r,e,_,h⟩,q=>by obtain⟨w,a,b⟩:=jQ.val (k:=k) h (by trivial);subst e;exact⟨w,by trivial,b⟩
theorem jQ.own{K:ax}{H:Hp}:∀{as:List cW}{d:List V}{k i:Nat},jQ K c F H as d->as[k]?=aa (.inr i)->∃v,d[k]?=aa v/\c[i]?=aa (aa v)
 |[],_,k,_,_,e=>by trivial
 |.inr x::as,_,0,pv,⟨v,r,e,h,_⟩,q=>by simp at q;subst q e;exact⟨v,rfl,h⟩
 |.inl _::as,_,0,pv,_,q=>by simp at q
 |.inl x::as,_,k+1,pv,⟨v,r,e,_,h⟩,q=>by obtain⟨w,a,b⟩:=jQ.own (k:=k) h (by trivial);subst e;exact⟨w,by trivial,b⟩
 |.inr x::as,_,k+1,pv,⟨v,r,e,_,h⟩,q=>by obtain⟨w,a,b⟩:=jQ.own (k:=k) h (by trivial);subst e;exact⟨w,by trivial,b⟩
section
variable{K:ax}{F A:ae->Prop}{S m:Nat->ae->Prop}{c s f:aj}{u:St}{H y:Hp}{as:List cW}{d:List V}
def lx(as:List cW)(S:Nat->ae->Prop)(k:Nat)(b:ae):Prop:=∃i,as[k]?=aa (.inr i)/\S i b
theorem yw(b:ae)(h:U (lx as S) b):U S b:=let ⟨_,i,_,h⟩:=h;⟨i,h⟩
theorem zr:∀{as:List cW}{i k l:Nat},(cD as).Nodup->as[k]?=aa (.inr i)->as[l]?=aa (.inr i)->k=l
 |[],_,_,_,_,h,_=>by trivial
 |.inl _::as,i,0,_,_,h,_=>by simp at h
 |.inl _::as,i,_,0,_,_,h=>by simp at h
 |.inl _::as,i,k+1,l+1,nd,h1,h2=>by rw[zr (as:=as) (i:=i) (k:=k) (l:=l) nd (by trivial) (by trivial)]
 |.inr j::as,i,0,0,_,_,_=>rfl
 |.inr j::as,i,0,l+1,nd,h1,h2=>by simp at h1;subst h1;exact absurd (GE.mpr ⟨l,by trivial⟩) (kB.mp nd).1
 |.inr j::as,i,k+1,0,nd,h1,h2=>by simp at h2;subst h2;exact absurd (GE.mpr ⟨k,by trivial⟩) (kB.mp nd).1
 |.inr j::as,i,k+1,l+1,nd,h1,h2=>by rw[zr (as:=as) (i:=i) (k:=k) (l:=l) (kB.mp nd).2 (by trivial) (by trivial)]
theorem aL.cal(r:aL K F S c u H)(C:jQ K u F H as d)(I:eQ c as=aa s)(G:(cD as).Nodup):aL K F (lx as S) s (d.map aa) H:=by
 obtain⟨E,B⟩:=yQ I;have up:∀{k:Nat}{v:V},d[k]?=aa v->(d.map aa)[k]?=aa (aa v):=λ{k v} e=>by rw[dY,e];rfl
 refine⟨by rw[E,cG,C.len],r.ex,λk pv e=>?_,λk D e=>?_,λk b h=>?_,λk l b n x=>?_⟩
 .rcases B k _ e with⟨p,q1,g⟩|⟨_,_,_,_,z⟩
  .cases g;obtain⟨v,w,o⟩:=C.val q1;exact⟨v,up w,o⟩
  trivial
 .rcases B k _ e with⟨_,_,z⟩|⟨i,p,q1,g,q3⟩
  .cases z
  .cases q3;obtain⟨v,w,o⟩:=C.own q1;obtain⟨a,b1,b2⟩:=r.own i D g;rw[o]at b1;cases b1;have L:lx as S k=S i:=by funext b;exact propext ⟨λ⟨j,n,x⟩=>⋯,λh=>⟨i,q1,h⟩⟩
   exact⟨a,up w,by rw[L];trivial⟩
 .obtain⟨i,n,x⟩:=h;obtain⟨⟨D,q⟩,g⟩:=r.foot i b x;have J:k<s.length:=by rw[E];exact(cJ.mp n).1
  refine⟨?_,g⟩;rcases B k s[k] (by simp)with⟨_,z,_⟩|⟨j,p,z1,z2,z3⟩
  .rw[n]at z;cases z
  .exact⟨p,by rw[eD J,z3]⟩
 .obtain⟨i,w,o⟩:=n;obtain⟨j,b1,b2⟩:=x;have:=r.dist i j b o b2;subst this;exact zr G w b1
theorem aL.called{O':ae->Prop}(r:aL K F S c u H)(ha:jQ K u F H as d)(hs:eQ c as=aa s)(P:(cD as).Nodup)(O:aL K A m f (d.map aa) y)(g:Grow (U (lx as S)) O' F A H y)(hO:∀b,U m b->O' b)(M:∀(k:Nat) i,as[k]?=aa (.inr i)->∃D,f[k]?=aa (.own D)):∃X,aL K A X (iU c as f) u y/\Grow (U S) (U X) F A H y/\∀b,U X b->U m b\/U S b:=by
 have up:∀{k:Nat}{v:V},(d.map aa)[k]?=aa (aa v)->d[k]?=aa v:=λ{k v} e=>by
  rw[dY]at e;cases q:d[k]? with
  |none=>rw[q]at e;cases e
  |some x=>rw[q]at e;cases e;rfl
 have fit:Fit (U (lx as S)) F H:=λb h=>r.fit b (yw b h);have L:∀i D,c[i]?=aa (.own D)->i<c.length:=λi D e=>(cJ.mp e).1;have lt:∀(k:Nat) i,as[k]?=aa (.inr i)->i<c.length:=λk i e=>by
  obtain⟨hl,hg⟩:=yQ hs;have E:k<s.length:=by rw[hl];exact(cJ.mp e).1
  rcases hg k s[k] (by simp)with⟨_,z,_⟩|⟨j,p,z1,z2,z3⟩
  .rw[e]at z;cases z
  .rw[e]at z1;cases z1;exact L _ _ z2
 refine⟨λj b=>(∃k:Nat,as[k]?=aa (.inr j)/\m k b)\/(j∉cD as/\S j b),⟨by rw[AM];exact r.len,O.ex,λj pv e=>?_,λj D e=>?_,λj b h=>?_,λi j b B C=>?_⟩,⟨g.fro,λb o e n=>g.keep b o e λz=>n (yw b z),g.there,λa z=>(g.fnew a z).imp id λw=>w.imp id (yw a),λb ⟨j,z⟩=>?_⟩,λb ⟨j,z⟩=>?_⟩
 .by_cases I:j∈cD as
  .obtain⟨k,E⟩:=GE.mp I;obtain⟨D,q⟩:=M k j E;rw[uz as c f j k _ P (lt k j E) E q]at e;cases e
  .rw[tj as c f j I]at e;obtain⟨v,B,C⟩:=r.val j pv e;exact⟨v,B,C.grow g fit⟩
 .by_cases I:j∈cD as
  .obtain⟨k,E⟩:=GE.mp I;obtain⟨po',q⟩:=M k j E;rw[uz as c f j k _ P (lt k j E) E q]at e;cases e;obtain⟨a,B,C⟩:=O.own k D q;obtain⟨v,W,T⟩:=ha.own E;rw[up B]at W;cases W;have Q:(λb=>(∃k:Nat,as[k]?=aa (.inr j)/\m k b)\/(j∉cD as/\S j b))=m k:=by
    funext b;refine propext ⟨λz=>?_,λz=>.inl ⟨k,E,z⟩⟩;rcases z with⟨l,z1,z2⟩|⟨z,_⟩
    .rw[zr P E z1];trivial
    lia
   exact⟨a,T,by rw[Q];trivial⟩
  .rw[tj as c f j I]at e;obtain⟨a,B,C⟩:=r.own j D e;have Q:(λb=>(∃k:Nat,as[k]?=aa (.inr j)/\m k b)\/(j∉cD as/\S j b))=S j:=by
    funext b;refine propext ⟨λz=>?_,λz=>.inr ⟨I,z⟩⟩;rcases z with⟨l,z1,z2⟩|⟨_,z⟩
    .exact absurd (GE.mpr ⟨l,z1⟩) I
    trivial
   have h3:fo K y A D a (S j):=by refine C.mono (λ_ _ q=>q.grow g fit) (λ_ _ q=>q.grow g fit) λb o z q=>g.keep b o q λ⟨l,i,N,J⟩=>?_;have:=r.dist i j b J z;subst this;exact I (GE.mpr ⟨l,N⟩)
   exact⟨a,B,by rw[Q];trivial⟩
 .rcases h with⟨k,B,C⟩|⟨B,C⟩
  .obtain⟨⟨D,q⟩,q2⟩:=O.foot k b C;exact⟨⟨D,uz as c f j k _ P (lt k j B) B q⟩,q2⟩
  .obtain⟨⟨D,q⟩,q2,o,Z,q4⟩:=r.foot j b C;have no:¬U (lx as S) b:=λ⟨l,i,N,J⟩=>by have:=r.dist i j b J C;subst this;exact B (GE.mpr ⟨l,N⟩)
   refine⟨⟨D,by rw[tj as c f j B];exact q⟩,λz=>?_,o,g.keep b o Z no,q4⟩;rcases g.fnew b z with w|w|w
   all_goals simp_all
 .have G:∀{i j:Nat}{b:ae},(∃k:Nat,as[k]?=aa (.inr i)/\m k b)->(j∉cD as/\S j b)->False:=λ{i j b} ⟨k,N,J⟩ ⟨w3,Y⟩=>by
   obtain⟨_,_,o,Z,_⟩:=r.foot j b Y;rcases g.onew b (hO b ⟨k,J⟩)with⟨l,i',z1,z2⟩|z
   .have:=r.dist i' j b z2 Y;subst this;exact w3 (GE.mpr ⟨l,z1⟩)
   lia
  rcases B with B|B <;> rcases C with C|C
  .obtain⟨k,W,T⟩:=B;obtain⟨l,b1,b2⟩:=C;have:=O.dist k l b T b2;simp_all
  .exact(G B C).elim
  .exact(G C B).elim
  .exact r.dist i j b B.2 C.2
 .rcases z with⟨k,_,z⟩|⟨_,z⟩
  .rcases g.onew b (hO b ⟨k,z⟩)with w|w
   .exact .inl (yw b w)
   .exact .inr w
  .exact .inl ⟨j,z⟩
 .rcases z with⟨k,_,z⟩|⟨_,z⟩
  .exact .inl ⟨k,z⟩
  .exact .inr ⟨j,z⟩
end
def DR(X:Cx)(E:XK)(e:aC)(d:ad Slot):Prop :=
 ∀F S f a H Q,aL X.K F S f a H->Ok X.K E a F S H (d f) (λs _ h i c=>∀v g,oW X.K c h s v g->(∀b,g b->H b=af/\¬h b/\¬U i b/\∃o,c b=aa o/\eh o)->Q v c)->gz X e a H Q
def gF:List cW->aj->Bool
 |[],_=>ah
 |.inl _::as,_::ss=>gF as ss
 |.inr _::as,.own _::ss=>gF as ss
 |_,_=>ak
theorem nu:∀{as:List cW}{ss:aj},gF as ss=ah->∀(k:Nat) i,as[k]?=aa (.inr i)->∃a,ss[k]?=aa (.own a)
 |[],_,_,k,i,h=>by trivial
 |.inl _::as,s::ss,q,0,i,h=>by simp at h
 |.inl _::as,s::ss,q,k+1,i,h=>by simpa using nu (as:=as) (ss:=ss) (by trivial) k i (by trivial)
 |.inr _::as,.own a::ss,q,0,i,h=>⟨a,rfl⟩
 |.inr _::as,.own a::ss,q,k+1,i,h=>by simpa using nu (as:=as) (ss:=ss) (by trivial) k i (by trivial)
 |.inr _::as,.val _::ss,q,k,i,h=>by cases q
 |.inr _::as,.none::ss,q,k,i,h=>by cases q
 |.inl _::as,[],q,k,i,h=>by cases q
 |.inr _::as,[],q,k,i,h=>by cases q
def fN{f:Type}(d:aj)(b:List cW)(r:R f):R f:=match r with
 |.ok s a=>if gF b a then .ok s (iU d b a)else .no
 |.er c a=>if gF b a then .er c (iU d b a)else .no
 |.no=>.no
def bg(g:ad Slot)(c:ad (List cW)):ad Slot:=λε=>(c ε).bind λa ε1=>(aR (if(cD a).Nodup then eQ ε1 a else af) ε1).bind λb ε1=>fN ε1 a (g b)
section
variable{X:Cx}{E:XK}{es:List aC}{pos:Pos}{g:ad Slot}{d:ad Slot}
theorem HV{K:ax}{S0 C:Nat->ae->Prop}{a:aj}{G:St}{H n:Hp}{c:List cW}{Y:List V}{Q:VK}(A:aL K r C a G n)(g1:Grow (U S0) (U C) F0 r H n)(P:jQ K G r n c Y)(q:Ok K E G r C n ((aR (if(cD c).Nodup then eQ a c else af) a).bind λD a=>fN a c (g D)) λs _ u W h=>∀v F,oW K h u s v F->(∀b,F b->H b=af/\¬u b/\¬U W b/\∃o,h b=aa o/\eh o)->Q v h):fU K g Y n Q E:=by
 have q:=Ok.bind q;by_cases B:(cD c).Nodup
 .rw[if_pos B]at q;cases es:eQ a c with
  |none=>rw[es]at q;trivial
  |some D=>
   rw[es]at q;have q:=q r C n A (Grow.refl ..);dsimp only at q;refine⟨r,lx c C,D,A.cal P es B,?_⟩;cases O:g D with
   |no=>rw[O]at q;trivial
   |er cv S=>
    rw[O]at q;intro y u W h J N;unfold fN at q;dsimp only at q;by_cases f:gF c S=ah
    .rw[if_pos f]at q;obtain⟨T,I,M,_⟩:=A.called P es B J N (λ_ z=>z) (nu f);exact q y u T h I M
    .rw[if_neg f]at q;trivial
   |ok s S=>
    rw[O]at q;intro v u W h F J N rv L fr;unfold fN at q;dsimp only at q;by_cases f:gF c S=ah
    .rw[if_pos f]at q;obtain⟨T,I,M,Z⟩:=A.called P es B J N (λ_ z=>.inl z) (nu f);refine q u T h I M v F rv λb z=>⟨oG g1 (fr b z),(L b z).1,λw=>?_,(L b z).2.2⟩
     rcases Z b w with w|⟨i,w⟩
     .exact(L b z).2.1 w
     .obtain⟨_,_,o,y1,_⟩:=A.foot i b w
      grind
    .rw[if_neg f]at q;trivial
 .rw[if_neg B]at q;trivial
theorem TQ(c:qt l X.prog X.w X.K X.mg X.base x k m (fU X.K g))(s:fP k X.A)(r:sJ l X E)(A:DG X E (e::es) j)(w:Gl X x^0)(y:av x^1) (C:(aX (e::es) X.env=(ak,a8 e X.env)::aX es X.env)^0) (B:((dr pos (aX es X.env)).any (·.1)=ak)^0):DR X E (.Call (.Name x p) (e::es) [] pos) (bg g j):=λF S i a H Q n h=>by obtain⟨f,L,u,I,z,v⟩:=c.ex;refine bY (NK I s w u v z .nil r i_ y C B) (A F S i a H _ n ((Ok.bind h).imp λM b P N O o D q J G=>?_));rw[ik];exact HV o D G q
def zf:Slot->Option PV
 |.val pv=>aa pv
 |.own (.lst xs)=>aa (.lst xs)
 |_=>af
def bv(d:ad Slot):ad PV:=λε=>(d ε).bind λs ε1=>aR (zf s) ε1
def yP:Slot->Option PO
 |.own a=>aa a
 |_=>af
def kl(d:ad Slot):ad PO:=λε=>(d ε).bind λs a=>aR (yP s) a
theorem DR.dn(h:DR X E e d):DN X E e (kl d):=λF S f i H Q u q=>by
 unfold kl at q;refine h F S f i H Q u ?_;cases b:d f with
 |no=>rw[b]at q;trivial
 |er c o=>rw[b]at q;exact q
 |ok s n=>
  rw[b]at q;cases s with
  |none=>trivial
  |val pv=>exact q.elim
  |own I=>intro G C D w z v B r A;obtain⟨a,rfl,y⟩:=r;exact q G C D w z a B y A
theorem DR.de(h:DR X E e d):DE X E e (bv d):=λF S ε f H Q i q=>by
 unfold bv at q;cases b:d ε with
 |no=>rw[b]at q;exact q.elim
 |er c n=>refine h F S ε f H Q i ?_;rw[b]at q ⊢;exact q
 |ok s ε1=>
  cases s with
  |none=>rw[b]at q;exact q.elim
  |val pv=>refine h F S ε f H Q i ?_;rw[b]at q ⊢;exact λD A B r w v I o G=>q D A B r w v o.1
  |own u=>
   refine h.dn.de F S ε f H Q i ?_;unfold dF kl;rw[b]at q ⊢;cases u with
   |lst xs=>exact q
   |dK a=>exact q
   |lls z=>exact q
   |dL z=>exact q
   |ins C fs=>exact q
   |dT a=>exact q
   |dN a=>exact q
   |inl C fs y xs=>exact q
def pM(d:ad Slot):ad aM:=λb=>(d b).bind λs a=>.ok (.ret s) a
theorem As(C:DR X E e d):DS X E pin (.Return (aa e) pos) (pM d):=λF S n f H D y h=>by
 refine fQ (xY bJ) (C F S n f H _ y ?_);unfold pM at h;cases i:d n with
 |no=>rw[i]at h;trivial
 |er c r=>rw[i]at h;exact λx P L N B G=>h x P L f N B G (ip.refl _ _)
 |ok s q=>rw[i]at h;intro O J M A a v I u o;exact h v O J f M I A ⟨a.fro,a.keep,a.there,a.fnew,λb z=>z.elim (a.onew b) λw=>.inr (o b w).1⟩ (ip.refl _ _) u λb z=>(o b z).2
def v6(d:ad Slot):ad aM:=λb=>(d b).bind λ_ a=>.ok .next a
theorem EQ(o:DR X E e d)(n:(jg e af pos.line X.env=pure ak)^0):DS X E pin (.Expr e pos) (v6 d):=λF S c a H D f h=>fQ (BM bJ n) (o F S c a H _ f (h.bindE.imp λx b u r s i y q v A w z=>q u r a s i (Grow.refl ..) (ip.refl _ _)))
end
inductive GX(K:ax)(σ:St)(F1:ae->Prop)(S1:Nat->ae->Prop)(H1:Hp)(l:ae)(n:Nat)(O:aj->List PV->Prop)(i m:Nat)(ys:List V)(H:Hp):Prop
 |mk (e:m=n-i) (hi:i<=n) (F:ae->Prop) (S:Nat->ae->Prop) (ε:aj) (ay:List PV) (r:aL K F S ε σ H) (g:Grow (U S1) (U S) F1 F H1 H) (el:H l=aa (.lst ys)) (nF:¬F l) (nS:¬U S l) (racc:aZ K H F ay ys) (hl:ys.length<=i) (q:O ε ay)
inductive Ul(K:ax)(σ:St)(F1:ae->Prop)(S1:Nat->ae->Prop)(H1:Hp)(l:ae)(n:Nat)(H0:Hp)(O:aj->List (List PV)->Prop)(i m:Nat)(ys:List V)(H:Hp):Prop
 |mk (e:m=n-i) (hi:i<=n) (F:ae->Prop) (S:Nat->ae->Prop) (ε:aj) (ay:List (List PV)) (as:List ae) (r:aL K F S ε σ H) (g:Grow (U S1) (U S) F1 F H1 H) (ey:ys=as.map .ref) (el:H l=aa (.lst ys)) (nF:¬F l) (nS:¬U S l) (lacc:gJ K H F ay as) (nd:as.Nodup) (nl:l∉as) (out:∀b∈as,H0 b=af/\¬F b/\¬U S b) (hl:as.length<=i) (q:O ε ay)
end Pu
namespace L2
section
variable{m:List (ae×Obj)}{s:ao}
theorem GO{G:Pos}(B:iu X d x l i)(hk:k<=i.length)(hc:X.calm=ah)(hi:PI X P r wi)(dv:∀C w A W S,PG (bz X d l C w A W S) P λv O H Q=>∃vs,vs.length=k+1/\O.length=l.length/\tgf v H vs/\Q (vs++O.drop (k+1)) H)(ht:∀C w A W S,sN (bz X d l C w A W S) E ts) (he:∀C w A W S,PE (bz X d l C w A W S) F te) (hN:X.N.Nodup) (oj:X.N[J]?=aa y) (hxy:Loc X.env.scope y) (om:jg (.ListComp F [⟨P,r,E,0⟩] d L) (aa (.Name y py)) G.line X.env=pure ah) (hf:X.fn y=ah\/X.env.scope.names.lookup y=aa .local) (hs:∀x,lL r X.env x=pure x):PS X (.Assign [.Name y py] (.ListComp F [⟨P,r,E,0⟩] d L) G) (λD j H=>zt wi tgf k ts te i j H λv H'=>D.nx (j.set J (aa v)) H'):=by
 intro m s j H D I h;rw[exec_Assign_Name_used _ _ _ _ om];refine aq (wpAny_standAt (aq ?_));show ar _ X.A (do let _ <-comprehension (.ListComp F [⟨P,r,E,0⟩] d L) d X.env _ (newList []) ak (a8 r X.env) (aa (mB (.Name y py) X.env))) _ _ s;refine aq (ff (?_:ar _ X.A _ (λ_ s'=>SP X m D .next s') X.xe s) (λ_ s' hq=>aE (aE hq)) λ_ _ e=>e);refine Ie (use:=aa (mB (.Name y py) X.env)) B hk hc hi dv ht he hs I h λ{M s6 H3 H5 fp σ5 a f} Z f3 I6 q=>?_;obtain⟨mm,hn6,_⟩:=I6.loc;have J6:Inv X m j _ _:=Z.unblock f3 I6 (J1 _ _);have nlc:M.heap.objs.size≠X.env.locals:=λe=>absurd Z.lt (by rw[<-e];simp);have T:∀z c,X.env.cells.lookup z=aa c->c≠M.heap.objs.size:=λz c e Y=>by obtain⟨vv,oo,ho,_⟩:=Z.cell z c e;exact absurd (bG ho) (by rw[Y];simp)
 refine wpAny_assign_Name (HW (v:=.ref a) J6 hN oj hxy rfl (λs7 I7 ⟨a7,sb7,ha7⟩=>?_) hf);have na7:M.heap.objs.size≠a7:=by
  rcases ha7 with z|z
  .rw[z];trivial
  .exact(T _ _ z).symm
 refine⟨mm,hn6.sameBut sb7 na7,λmY sb=>⟨_,_,?_,q⟩⟩;have hC5:H5 M.heap.objs.size=af:=I6.free;refine I7.call' (s':={s7 with heap:=mY}) (ch:=[M.heap.objs.size]) rfl ⟨λb o e n hb N=>?_,λb o e n hb N=>?_,λb o e n N=>n,λb o e N=>?_,λb xs e=>e,λb o u e=>e,λb ps e=>⟨e,λc o Y g=>⟨(sb.2 c (λz=>by lia)).trans g,Y⟩⟩⟩ ?_ I7.bare λb hb=>?_
 .exact(sb.2 b (~~~N)).trans e
 .exact⟨o.slots,(sb.2 b (~~~N)).trans (by trivial)⟩
 .exact⟨o,(sb.2 b (~~~N)).trans e⟩
 .intro b u e;refine(I7.hok b u e).stay (λc v hc q=>(sb.2 c ?_).trans q) (λ_ q=>q) λ_ _ q=>q;lia
 .have e:b=M.heap.objs.size:= ~~~hb
  subst e;refine⟨.inr Z.sz,nlc,T,λp hp Y=>?_⟩;obtain⟨e3,_⟩:=Z.pin p hp;exact absurd (bG e3) (by rw[Y];simp)
theorem IL{f:Pos}(B:iu X d x l i)(L:X.calm=ah)(G:PI X (.Name x p) a wi)(E:∀C b c u q,sN (bz X d l C b c u q) h ts) (J:∀C b c u q,PE (bz X d l C b c u q) n te) (M:X.N.Nodup) (A:X.N[g]?=aa y) (r:Loc X.env.scope y) (z:jg (.ListComp n [⟨.Name x p,a,h,0⟩] d o) (aa (.Name y w)) f.line X.env=pure ah) (I:X.fn y=ah\/X.env.scope.names.lookup y=aa .local) (F:∀x,lL a X.env x=pure x):PS X (.Assign [.Name y w] (.ListComp n [⟨.Name x p,a,h,0⟩] d o) f) (λD j H=>zq wi ts te i j H λv N=>D.nx (j.set g (aa v)) N):=GO B (jG _) L G (E8 B) E J M A r z I F
end
end L2
namespace Pu
open L2
def dI(ε:aj):List Nat->Option (List cW)
 |[]=>aa []
 |j::cap=>match ε[j]? with
  |some (.val pv)=>(dI ε cap).map (.inl pv::·)
  |some (.own _)=>(dI ε cap).map (.inr j::·)
  |_=>af
def c_{b:Type}(cap:List Nat)(d:ad b)(x:PV):ad b:=λε=>(aR (dI ε cap) ε).bind λa _=>(aR (if(cD a).Nodup then eQ ε (.inl x::a)else af) ε).bind λc _=>fN ε (.inl x::a) (d c)
def bM{a:Type}(r:R a):R a:=match r with
 |.er _ _=>.no
 |r=>r
def iB(cap:List Nat)(dt:ad Bool)(de:ad PV):List PV->List PV->aj->R (List PV)
 |[],b,ε=>.ok b ε
 |x::xs,b,ε=>(bM (c_ cap dt x ε)).bind λk a=>match k with
  |true=>(bM (c_ cap de x a)).bind λy c=>iB cap dt de xs (b++[y]) c
  |false=>iB cap dt de xs b a
def bD(cap:List Nat)(c:ad (List PV))(dt:ad Bool)(de:ad PV):ad PO:=λε=>(c ε).bind λxs ε1=>(iB cap dt de xs [] ε1).bind λb a=>.ok (.lst b) a
theorem uF{K:ax}{f:aj}{d:St}{H:Hp}(r:aL K F S f d H):∀{b:List Nat}{i:List cW},dI f b=aa i->∃c,jQ K d F H i c/\eZ d b=c.map aa
 |[],i,h=>by cases h;exact⟨[],rfl,rfl⟩
 |j::b,i,h=>by
  unfold dI at h;split at h
  .rename_i pv e;cases q:dI f b with
   |none=>rw[q]at h;cases h
   |some bs=>
    rw[q]at h;cases h;obtain⟨c,m,l⟩:=uF r q;obtain⟨v,g,n⟩:=r.val j pv e;refine⟨v::c,⟨v,c,rfl,n,m⟩,?_⟩;show(d[j]?).join::eZ d b=_;rw[g,l];rfl
  .rename_i o e;cases q:dI f b with
   |none=>rw[q]at h;cases h
   |some bs=>
    rw[q]at h;cases h;obtain⟨c,m,l⟩:=uF r q;obtain⟨a,g,n⟩:=r.own j o e;refine⟨.ref a::c,⟨_,c,rfl,g,m⟩,?_⟩;show(d[j]?).join::eZ d b=_;rw[g,l];rfl
  trivial
theorem Fg{K:ax}{S:Nat->ae->Prop}{s:aj}{f:St}{H:Hp}{I:Type}{b:List Nat}{d:ad I}{x:PV}{v:V}{C:I->aj->(ae->Prop)->(Nat->ae->Prop)->Hp->Prop}(r:aL K F S s f H) (O:aN K H F x v) (h:Ok K E f F S H (bM (c_ b d x s)) C):∃M l,aL K F M l (aa v::eZ f b) H/\Ok K E0 (aa v::eZ f b) F M H (d l) (λa _ q _ p=>∃j w,aL K q w j f p/\Grow (U S) (U w) F q H p/\C a j q w p):=by
 unfold c_ at h;cases D:dI s b with
 |none=>rw[D]at h;trivial
 |some g=>
  rw[D]at h;simp only[bT,R.bind_ok]at h;by_cases A:(cD g).Nodup
  .rw[if_pos A]at h;cases u:eQ s (.inl x::g)with
   |none=>rw[u]at h;trivial
   |some l=>
    rw[u]at h;simp only[bT,R.bind_ok]at h;obtain⟨y,W,T⟩:=uF r D;have o:jQ K f F H (.inl x::g) (v::y):=⟨v,y,rfl,O,W⟩
    have n:aa v::eZ f b=(v::y).map aa:=by rw[T];rfl
    have m:(cD (.inl x::g)).Nodup:=A;refine⟨lx (.inl x::g) S,l,by rw[n];exact r.cal o u m,?_⟩;rw[n];cases B:d l with
    |no=>rw[B]at h;trivial
    |er c G=>
     rw[B]at h;unfold fN at h;dsimp only at h;by_cases i:gF (.inl x::g) G=ah
     .rw[if_pos i]at h;trivial
     .rw[if_neg i]at h;trivial
    |ok a G=>
     rw[B]at h;intro q w p P Q;unfold fN at h;dsimp only at h;by_cases i:gF (.inl x::g) G=ah
     .rw[if_pos i]at h;obtain⟨N,J,L,_⟩:=r.called o u m P Q (λ_ z=>z) (nu i);exact⟨_,N,J,L,h q N p J L⟩
     .rw[if_neg i]at h;trivial
  .rw[if_neg A]at h;trivial
def nz(X:Cx)(a:List aC):TT:=λb H Q=>Bx (∀d s,Inv X d b H s->ar X.zz X.A (forIn a ah λc r=>if r=ah then do let ok <-nM c X.env (a8 c X.env);pure (ForInStep.yield ok)else pure (ForInStep.yield r)) (TP X d b Q) X.xe s)
def DF(X:Cx)(E:XK)(c:List aC)(d:ad Bool):Prop:=∀F S f a H Q,aL X.K F S f a H->Ok X.K E a F S H (d f) (λb _ _ _ g=>Q b g)->nz X c a H Q
def cO:ad Bool:=λε=>.ok ah ε
theorem Fx:DF X E [] cO:=λF S d a H Q b h=>⟨λc s I=>Gn c s a H Q I (h F S H b (Grow.refl ..))⟩
theorem ny(h:DT X E c d):DF X E [c] d:=λF S b a H Q f q=>⟨λg s I=>U7 nv g s a H Q I (h F S b a H Q f q)⟩
theorem Ok.bindB{K:ax}{F s:ae->Prop}{S n:Nat->ae->Prop}{H p:Hp}{j i:Type}{D:i->aj->(ae->Prop)->(Nat->ae->Prop)->Hp->Prop}{r:R j}{k:j->aj->R i}(h:Ok K E b F S H (r.bind k) D)(g:Grow (U S) (U n) F s H p):Ok K E b s n p r (λa d _ _ _=>Ok K E b F S H (k a d) D):=by
 cases r with
 |no=>exact h
 |er c f=>exact λx u o q l m=>h x u o q l (g.trans m)
 |ok a f=>exact λu o q l m=>h
section
theorem Grow.stay(g:Grow O a F h H b)(e:H l=aa o)(n:¬O l)(i:¬F l):b l=aa o/\¬h l/\¬a l :=
 ⟨g.keep l o e n,λz=>(g.fnew l z).elim i λw=>w.elim (λq=>by rw[e]at q;cases q) n,λz=>(g.onew l z).elim n λq=>by lia⟩
theorem aL.lay{K:ax}{p:aj}{m:St}{H:Hp}{l:ae}{o o':HO}(r:aL K F S p m H)(A:H l=aa o)(no:eh o)(y:¬F l)(nS:¬U S l):Grow (λb=>U S b\/b=l) (U S) F F H (L2.upd H l o')/\Fit (λb=>U S b\/b=l) F H/\aL K F S p m (L2.upd H l o'):=by
 have h:Grow (λb=>U S b\/b=l) (U S) F F H (L2.upd H l o'):=⟨λ_ z=>z,λb o e n=>by rw[a6 λz=>n (.inr z)];exact e,λb o e=>by
  by_cases s:b=l
  .subst s;exact⟨_,upd_same⟩
  .exact⟨o,by rw[a6 s];exact e⟩,λ_ z=>.inl z,λ_ z=>.inl (.inl z)⟩
 have i:Fit (λb=>U S b\/b=l) F H:=λb z=>by
  rcases z with z|rfl
  .exact r.fit b z
  .exact⟨y,_,A,no⟩
 refine⟨h,i,r.len,λb z=>let ⟨o,q⟩:=r.ex b z;h.there b o q,λj pv e=>?_,λj v e=>?_,λj b z=>?_,r.dist⟩
 .obtain⟨w,g,a⟩:=r.val j pv e;exact⟨w,g,a.grow h i⟩
 .obtain⟨w,g,a⟩:=r.own j v e;refine⟨w,g,a.mono (λ_ _ q=>q.grow h i) (λ_ _ q=>q.grow h i) λb o z q=>?_⟩;rw[a6 (by rintro rfl;exact nS ⟨j,z⟩)];exact q
 .obtain⟨g,a,o,B,u⟩:=r.foot j b z;exact⟨g,a,o,by rw[a6 (by rintro rfl;exact nS ⟨j,z⟩)];trivial,u⟩
theorem Grow.lay(g:Grow O a F i H h)(m:H l=af):Grow O a F i H (L2.upd h l o'):=by
 refine⟨g.fro,λb o e n=>?_,λb o e=>?_,g.fnew,g.onew⟩
 .rw[a6 (by lia)];exact g.keep b o e n
 .obtain⟨j,q⟩:=g.there b o e;exact⟨j,by rw[a6 (by rintro rfl;rw[m]at e;cases e)];exact q⟩
theorem GP{elt:aC}{ifs:List aC}{di:ad (List PV)}{dt:ad Bool}{de:ad PV}(hi:DI X E (.Name x px) B di)(ht:∀C g j s r,DF (bz X c f C g j s r) E0 ifs dt) (he:∀C g j s r,DE (bz X c f C g j s r) E0 elt de){F:ae->Prop}{S:Nat->ae->Prop}{ε:aj}{n:St}{H:Hp}{Q:VK} (rl:aL X.K F S ε n H) (h:Ok X.K E n F S H (bD d di dt de ε) (λpo _ F' S' w=>∀a Sa,fo X.K w F' po a Sa->(∀b,Sa b->H b=af/\¬F' b/\¬U S' b/\∃o,w b=aa o/\eh o)->Q (.ref a) w)):zq (lG X (.Name x px) B) (λn H Q=>∀C g j s r,nz (bz X c f C g j s r) ifs n H Q) (λn H Q=>∀C g j s r,gz (bz X c f C g j s r) elt n H Q) d n H Q:=by
 refine hi F S ε n H _ rl ((Ok.bind h).imp λxs ε1 N S1 H1 r1 g1 h1 J vs RR rs hz hw keep l hl=>?_);have h1:=h1.bind;have hvl:vs.length=xs.length:=rs.len;have a0:Al N N H1 (upd H1 l (.lst [])):=Al.new0 hl;have nF1:¬N l:=λz=>by obtain⟨o,q⟩:=r1.ex l z;lia
 have nS1:¬U S1 l:=λ⟨i,z⟩=>by obtain⟨_,_,o,q,_⟩:=r1.foot i l z;lia
 have hH:H l=af:=oG g1 hl;refine⟨λi=>GX X.K n N S1 H1 l xs.length (λε' ay=>Ok X.K E n N S1 H1 (iB d dt de (xs.drop i) ay ε') (λys' A P S2 M=>Ok X.K E n P S2 M (R.ok (PO.lst ys') A) (λpo _ F' S' w=>∀a Sa,fo X.K w F' po a Sa->(∀b,Sa b->H b=af/\¬F' b/\¬U S' b/\∃o,w b=aa o/\eh o)->Q (.ref a) w))) i,⟨_,rfl,jG _,N,S1,ε1,[],r1.al a0,a0.grow,upd_same,nF1,nS1,rfl,bn _,h1⟩,?_⟩;rintro i m ys M ⟨rfl,hi,P,S2,A,ay,O,L,el,nF2,nS2,p,hyl,q2⟩;have RH:=keep S2 P M L;by_cases bo:i<xs.length
 .obtain⟨v,hv⟩:∃v,vs[i]?=aa v:=⟨_,eD ⋯⟩
  obtain⟨go,yl⟩:=(hw M RH i).1 v hv;refine .inr ⟨go,λv' w y=>⟨[aa v'],rfl,rfl,?_⟩⟩;obtain⟨e1,e2⟩:=yl v' w y;subst e1 e2;obtain⟨Y,hx,rx⟩:=rs.back hv;have ed:xs.drop i=Y::xs.drop (i+1):=by rw[wC bo];congr 1;exact(cJ.mp hx).2
  rw[ed]at q2;have W:=rx.grow L r1.fit;have q3:=Ok.bindB q2 L;obtain⟨Sb,ss,rb,okb⟩:=Fg O W q3;intro C g j s r;refine ht C g j s r P Sb ss _ w _ rb (okb.imp λb _ F3 _ H3 _ _ ⟨T,S3,r3,I,q4⟩=>?_);obtain⟨el3,nF3,nS3⟩:=I.stay el nS2 nF2;cases b with
  |false=>exact nj ⟨_,nofun,rfl,bo,F3,S3,T,ay,r3,L.trans I,el3,nF3,nS3,p.grow I O.fit,∅,q4⟩
  |true=>refine nB ?_;have q5:Ok X.K E n N S1 H1 ((bM (c_ d de Y T)).bind λy A=>iB d dt de (xs.drop (i+1)) (ay++[y]) A) _:=q4;obtain⟨Sc,sc,rc,okc⟩:=Fg r3 (W.grow I O.fit) (Ok.bindB q5 (L.trans I));intro C g j s r;refine he C g j s r F3 Sc sc _ H3 _ rc (okc.imp λy _ F4 _ H4 _ _ ⟨ε4,S4,r4,g4,q6⟩ u ru=>?_);obtain⟨el4,nF4,Z⟩:=g4.stay el3 nS3 nF3;have G:=(p.grow I O.fit).grow g4 r3.fit;obtain⟨gl,D,r5⟩:=r4.lay (o':=.lst (ys++[u])) el4 trivial nF4 Z;have g5:=((L.trans I).trans g4).lay (o':=.lst (ys++[u])) hl;refine⟨el4,?_,_,nofun,rfl,bo,F4,S4,ε4,ay++[y],r5,g5,upd_same,nF4,Z,(G.grow gl D).app (.one (ru.grow gl D)),by simp;omega,q6⟩;lia
 .have e:i=xs.length:=∅
  subst e;refine .inl ⟨(hw M RH _).2 hvl.symm,?_⟩;rw[zV]at q2;exact q2 P S2 M O L P S2 M O (Grow.refl ..) l (λb=>b=l) ⟨⟨ys,el,p⟩,λb=>kE⟩ λb z=>by subst z;exact⟨hH,nF2,nS2,_,el,trivial⟩
theorem io(B:iu X c x f d)(z:X.calm=ah)(w:DI X E (.Name x o) g q)(u:∀C a b j i,DF (bz X c f C a b j i) E0 l dt) (y:∀C a b j i,DE (bz X c f C a b j i) E0 m de) (v:(∀x,lL g X.env x=pure x)^4):DN X E (.ListComp m [⟨.Name x o,g,l,0⟩] c pos) (bD d q dt de):=λF S A n H Q r h=>bY (Px (wi:=lG X (.Name x o) g) (ts:=λn H Q=>∀C a b j i,nz (bz X c f C a b j i) l n H Q) (te:=λn H Q=>∀C a b j i,gz (bz X c f C a b j i) m n H Q) (pos:=pos) B z v8 (λC a b j i p s n H Q I h=>(h C a b j i).run p s I) (λC a b j i p s n H Q I h=>(h C a b j i).run p s I) v) (GP w u y r h)
end
theorem Nn(x y:Tx):tS x++tS y=tS (x++y):=by
 show(⟨x.toArray++y.toArray⟩:Str)=⟨(x++y).toArray⟩
 simp
def bi:PV->PV->Option PV
 |.int i,.int j=>aa (.int (i+j))
 |.str x,.str y=>if(x++y).length<=bB then aa (.str (x++y))else af
 |.tup xs,.tup a=>if xs≠[]/\a≠[]/\xs.length+a.length<=1000 then aa (.tup (xs++a))else af
 |.lst xs,.lst a=>if xs.length+a.length<=bB then aa (.lst (xs++a))else af
 |_,_=>af
def lB:PV->PV->Option PV
 |.int i,.int j=>aa (.int (i-j))
 |_,_=>af
noncomputable def zg(i:Int):Bool:=decide (-(2^64)<i/\i<2^64)
def mq:PV->PV->Option PV
 |.int i,.int j=>if zg i||zg j then aa (.int (i*j))else af
 |.str x,.int j=>if 0<=j/\j<=100/\x.length<=100 then aa (.str (dQ j.toNat x).flatten)else af
 |_,_=>af
noncomputable def iW:PV->PV->Option PV
 |.int i,.int j=>if 0<j then aa (.int (i % j))else af
 |_,_=>af
noncomputable def vf:PV->PV->Option PV
 |.int i,.int j=>if 0<=j/\j<=1000000/\i.natAbs<2^64 then aa (.int (i^j.toNat))else af
 |_,_=>af
def ig:PV->Option PV
 |.int i=>aa (.int (-i))
 |_=>af
def Hd:R2:=λx y H Q=>∃l b xs a,x=.ref l/\y=.ref b/\Rd H l (.lst xs)/\Rd H b (.lst a)/\xs.length+a.length<=bq/\∀p,H p=af->Q (.ref p) (upd H p (.lst (xs++a)))
def yh(K:ax):R2:=λx y H Q=>((l9 λi j=>V.int (i+j)) x y H Q\/∃i j,x=.str i/\y=.str j/\i.length+j.length<=bq/\Q (.str (i++j)) H)\/(FV K x y H Q\/Hd x y H Q)
def Hs:R2:=λx y H Q=>rI B2 (λi j=>.int (i*j)) x y H Q\/∃(z:Tx) (n:Nat),x=tV z/\y=.int n/\n<=100/\z.length<=100/\Q (tV (dQ n z).flatten) H
section
variable{X:Cx}{K:ax}
theorem xK:P2 K (l9 λi j=>.int (i-j)) lB:=λF H x y v u Q pv b a e q=>by
 unfold lB at e;split at e
 .cases e;exact⟨_,_,b,a,q _ F H (Al.refl ..) rfl⟩
 trivial
theorem tI:P2 K (rI (λ_ j=>0<j) λi j=>.int (i % j)) iW:=λF H x y v u Q pv b a e q=>by
 unfold iW at e;split at e
 .split at e
  .cases e;exact⟨_,_,b,a,by trivial,q _ F H (Al.refl ..) rfl⟩
  trivial
 trivial
theorem U8:P2 K (rI Gg λi j=>.int (i^j.toNat)) vf:=λF H x y v u Q pv b a e q=>by
 unfold vf at e;split at e
 .split at e
  .cases e;exact⟨_,_,b,a,by trivial,q _ F H (Al.refl ..) rfl⟩
  trivial
 trivial
theorem qA:P1 K (rU λi=>.int (-i)) ig:=λF H x v Q pv a e q=>by
 unfold ig at e;split at e
 .cases e;exact⟨_,a,q _ F H (Al.refl ..) rfl⟩
 trivial
theorem Ck(I:Inv X c b H s)(h:Rd H l (.lst xs)):∃(a:List ai) (n:Nat),bC xs a/\s.heap.get? l=aa {cls:=.type "list",data:=.seq a.toArray n}/\xs.length<=bq:=by obtain⟨z,a,n,r,e⟩:=h.ok I.hok;exact⟨a,n,r,e,z⟩
theorem Ob:b_ X (ji .Add) Hd:=by
 intro C s p H x y v u Q I i g h;obtain⟨l,b,xs,w,rfl,rfl,f,j,B,q⟩:=h;cases i;cases g;obtain⟨c,n,r,e,_⟩:=Ck I f;obtain⟨a,z,d,o,_⟩:=Ck I j;have f:=r.length;have A:=d.length;refine PySem.P.add_list e o ?_ ⋯;have m:c.toArray++a.toArray=(c++a).toArray:=by simp
 rw[m];exact⟨.ref _,_,I.lnew (t':=s.toks) (r.append d) (by rw[jk];omega),rfl,q _ I.fresh⟩
theorem fR:b_ X (ji .Add) (yh X.K):=(VW.or NZ).or (VQ.or Ob)
theorem fO:P2 K (yh K) bi:=λF H x y v u Q pv i h e q=>by
 unfold bi at e;split at e
 .cases e;exact .inl (.inl ⟨_,_,i,h,q _ F H (Al.refl ..) rfl⟩)
 .rename_i x y;split at e
  .rename_i c;cases e;refine .inl (.inr ⟨_,_,i.1,h.1,?_,?_⟩)
   .rw[mf,mf];rw[jk]at c;exact cV c kP
   .exact q _ F H (Al.refl ..) ⟨by rw[Nn];rfl,c⟩
  trivial
 .rename_i xs s;split at e
  .rename_i c;cases e;obtain⟨a,l,rfl,r,f⟩:=i;obtain⟨b,j,rfl,o,d⟩:=h;have n:=f.len;have m:=d.len;refine .inr (.inl ⟨a,b,l,j,rfl,rfl,cn.of r,cn.of o,λz=>c.1 (by grind),by rw[n,m];exact Bj c.2.2,λz=>absurd (by grind) c.2.1,λ_ p g=>?_⟩);exact q _ F _ (Al.new0 g) ⟨p,_,rfl,upd_same,(Al.new0 g).reps (f.app d)⟩
  trivial
 .rename_i xs s;split at e
  .rename_i c;cases e;obtain⟨a,l,rfl,r,A,f⟩:=i;obtain⟨b,j,rfl,o,w,d⟩:=h;have n:=f.len;have m:=d.len;refine .inr (.inr ⟨a,b,l,j,rfl,rfl,r,o,by rw[n,m];exact cV c kP,λp g=>?_⟩);exact q _ _ _ (Al.new g) ⟨p,_,rfl,.inl upd_same,.inr rfl,(Al.new g).reps (f.app d)⟩
  trivial
 trivial
theorem Bz:b_ X (ji .Mult) Hs:=VI.or Rc
theorem A9:P2 K Hs mq:=λF H x y v u Q pv b a e q=>by
 unfold mq at e;split at e
 .rename_i i j;split at e
  .rename_i h;cases e;refine .inl ⟨_,_,b,a,?_,q _ F H (Al.refl ..) rfl⟩;rw[Di]at h;exact h.imp of_decide_eq_true of_decide_eq_true
  trivial
 .rename_i x j;split at e
  .rename_i h;cases e;refine .inr ⟨x,j.toNat,b.1,?_,⋯,h.2.2,q _ F H (Al.refl ..) ⟨rfl,?_⟩⟩
   .rw[show u=V.int j from a];congr 1;lia
   .rw[Qf];have c:j.toNat<=100:=⋯
    exact cV (Dl c h.2.2) (by decide)
  trivial
 trivial
noncomputable def dS(f:Int->Int->Bool):PV->PV->Option PV
 |.int i,.int j=>aa (.bl (f i j))
 |_,_=>af
theorem kr:P2 K (l9 λi j=>.bl (f i j)) (dS f):=λF H x y v u Q pv b a e q=>by
 unfold dS at e;split at e
 .cases e;exact⟨_,_,b,a,q _ F H (Al.refl ..) rfl⟩
 trivial
def dA:PV->Option V
 |.non=>aa .non
 |.bl b=>aa (.bl b)
 |.int i=>aa (.int i)
 |.str x=>aa (tV x)
 |_=>af
theorem jR(r:aN K H F x v)(e:dA x=aa w):v=w:=by
 cases x <;> simp[dA]at e <;> subst e
 .exact r
 .exact r
 .exact r
 .exact r.1
theorem rJ(e:dA x=aa w):gh w=ah:=by
 cases x <;> simp[dA]at e <;> subst e <;> rfl
mutual
def dW:PV->PV->Option Bool
 |.tup xs,y=>match y with
  |.tup a=>gC xs a
  |_=>af
 |.lst xs,y=>match y with
  |.lst a=>gC xs a
  |_=>af
 |.non,y=>(dA y).map (eP .non)
 |.bl b,y=>(dA y).map (eP (.bl b))
 |.int i,y=>(dA y).map (eP (.int i))
 |.str x,y=>(dA y).map (eP (tV x))
 |.raw _,_=>af
 |.exc _,_=>af
def gC:List PV->List PV->Option Bool
 |[],c=>aa c.isEmpty
 |x::xs,c=>match c with
  |[]=>aa ak
  |y::c=>(dW x y).bind λa=>(gC xs c).map λb=>a&&b
end
mutual
noncomputable def gE:PV->Nat
 |.tup xs=>fJ xs+1
 |.lst xs=>fJ xs+1
 |_=>0
noncomputable def fJ:List PV->Nat
 |[]=>0
 |x::xs=>max (gE x) (fJ xs)
end
theorem Jp(h:iX K H d x y k)(l:d<=a):iX K H a x y k:=λX g i b s u v A I f c j=>h X g i b s u v A I f c ∅
theorem yC(b:gh w=ah)(e:(dA y).map (eP w)=aa k)(a:aN K H F y u):iX K H d w u k:=by
 cases q:dA y with
 |none=>simp_all
 |some z=>
  rw[q]at e;cases e;rw[jR a q];exact ME b (rJ q)
theorem Ma(h:Rd H a (.lst xs))(g:Rd H a (.lst b)):xs=b:=by
 rcases h with h|⟨o,h⟩ <;> rcases g with g|⟨c,g⟩ <;> rw[h]at g <;> cases g <;> rfl
theorem UW:gA (λj=>if j=0 then a else e (j-1)) (n+1) (m+1)=(a&&gA e n m):=by unfold gA;rw[show min (n+1) (m+1)=min n m+1 by simp,JT,qO,zJ,if_pos rfl,Bool.and_assoc];congr 1;congr 1;simp
mutual
theorem Bg:∀(x y:PV) {v:V}{k:Bool},dW x y=aa k->aN K H F x v->aN K H F y v->k=ah
 |.tup xs,y,v,k,e,d,c=>by
  unfold dW at e;split at e
  .obtain⟨a,m,rfl,i,f⟩:=d;obtain⟨b,l,j,g,h⟩:=c;cases j;rw[i]at g;cases g;exact Ca xs _ e f h
  .cases e
 |.lst xs,y,v,k,e,d,c=>by
  unfold dW at e;split at e
  .obtain⟨a,m,rfl,i,_,f⟩:=d;obtain⟨b,l,j,g,_,h⟩:=c;cases j;rw[Ma i g]at f;exact Ca xs _ e f h
  .cases e
 |.non,y,v,k,e,d,c=>by
  unfold dW at e;cases q:dA y with
  |none=>rw[q]at e;cases e
  |some z=>rw[q]at e;cases e;rw[<-jR c q,show v=V.non from d];rfl
 |.bl b,y,v,k,e,d,c=>by
  unfold dW at e;cases q:dA y with
  |none=>rw[q]at e;cases e
  |some z=>rw[q]at e;cases e;rw[<-jR c q,show v=V.bl b from d];exact beq_self_eq_true b
 |.int b,y,v,k,e,d,c=>by
  unfold dW at e;cases q:dA y with
  |none=>rw[q]at e;cases e
  |some z=>rw[q]at e;cases e;rw[<-jR c q,show v=V.int b from d];exact beq_self_eq_true b
 |.str b,y,v,k,e,d,c=>by
  unfold dW at e;cases q:dA y with
  |none=>rw[q]at e;cases e
  |some z=>rw[q]at e;cases e;rw[<-jR c q,show v=tV b from d.1];exact beq_self_eq_true (tS b)
 |.raw _,_,_,_,e,_,_=>by unfold dW at e;cases e
 |.exc _,_,_,_,e,_,_=>by unfold dW at e;cases e
theorem Ca:∀(xs c:List PV) {d:List V}{k:Bool},gC xs c=aa k->aZ K H F xs d->aZ K H F c d->k=ah
 |[],c,d,k,e,h,f=>by
  unfold gC at e;rw[show d=[] from h]at f;have:=f.len;cases c with
  |nil=>cases e;rfl
  |cons=>simp at this
 |x::xs,c,d,k,e,h,f=>by
  unfold gC at e;obtain⟨v,r,rfl,l,j⟩:=h;cases c with
  |nil=>have:=f.len;simp at this
  |cons y c=>
   obtain⟨p,q,o,n,m⟩:=f;cases o;simp only at e;cases g:dW x y with
   |none=>rw[g]at e;cases e
   |some a=>
    cases i:gC xs c with
    |none=>rw[g,i]at e;cases e
    |some b=>
     rw[g,i]at e;cases e;rw[Bg x y g l n,Ca xs c i j m];rfl
end
mutual
theorem U_:∀(x y:PV) {v u:V}{k:Bool},dW x y=aa k->aN K H F x v->aN K H F y u->iX K H (gE x) v u k
 |.tup xs,y,v,u,k,e,d,c=>by
  have o:=e;unfold dW at e;split at e
  .rename_i h;obtain⟨a,q,rfl,n,j⟩:=id d;obtain⟨b,p,rfl,m,i⟩:=id c;by_cases g:a=b
   .subst g;rw[Bg _ _ o d c];exact Fc
   .obtain⟨f,l,rfl⟩:=vD xs h e j i;unfold gE;exact ND (cn.of n) (cn.of m) g l
  .cases e
 |.lst xs,y,v,u,k,e,d,c=>by
  have o:=e;unfold dW at e;split at e
  .rename_i h;obtain⟨a,q,rfl,n,_,j⟩:=id d;obtain⟨b,p,rfl,m,_,i⟩:=id c;by_cases g:a=b
   .subst g;rw[Bg _ _ o d c];exact Fc
   .obtain⟨f,l,rfl⟩:=vD xs h e j i;unfold gE;exact Lk (.inl n) (.inl m) g l
  .cases e
 |.non,y,v,u,k,e,d,c=>by unfold dW at e;rw[show v=V.non from d];exact yC rfl e c
 |.bl b,y,v,u,k,e,d,c=>by unfold dW at e;rw[show v=V.bl b from d];exact yC rfl e c
 |.int b,y,v,u,k,e,d,c=>by unfold dW at e;rw[show v=V.int b from d];exact yC rfl e c
 |.str b,y,v,u,k,e,d,c=>by unfold dW at e;rw[show v=tV b from d.1];exact yC rfl e c
 |.raw _,_,_,_,_,e,_,_=>by unfold dW at e;cases e
 |.exc _,_,_,_,_,e,_,_=>by unfold dW at e;cases e
theorem vD:∀(xs c:List PV) {d g:List V}{k:Bool},gC xs c=aa k->aZ K H F xs d->aZ K H F c g -> ∃f:Nat->Bool,(∀(j:Nat) x y,d[j]?=aa x->g[j]?=aa y->iX K H (fJ xs) x y (f j))/\k=gA f d.length g.length
 |[],c,d,g,k,e,m,i=>by
  unfold gC at e;rw[show d=[] from m];refine⟨λ_=>ah,λj x y h=>by simp at h,?_⟩;have:=i.len;cases e;unfold gA;cases c with
  |nil=>simp at this;simp[this]
  |cons=>rw[this];simp
 |x::xs,c,d,g,k,e,m,i=>by
  unfold gC at e;obtain⟨v,r,rfl,A,z⟩:=m;cases c with
  |nil=>
   cases e;rw[show g=[] from i];exact⟨λ_=>ah,λj x y _ h=>by simp at h,by simp[gA]⟩
  |cons y c=>
   obtain⟨u,D,rfl,C,B⟩:=i;simp only at e;cases l:dW x y with
   |none=>rw[l]at e;cases e
   |some a=>
    cases n:gC xs c with
    |none=>rw[l,n]at e;cases e
    |some b=>
     rw[l,n]at e;cases e;obtain⟨f,w,rfl⟩:=vD xs c n z B;refine⟨λj=>if j=0 then a else f (j-1),λj p q s o=>?_,by rw[fz,fz,UW]⟩;cases j with
     |zero=>simp at s o;subst s o;show iX K H _ _ _ (if(0:Nat)=0 then a else f (0-1));rw[if_pos rfl];exact Jp (U_ x y l A C) (by unfold fJ;exact Nat.le_max_left _ _)
     |succ j=>show iX K H _ _ _ (if j+1=0 then a else f (j+1-1));rw[if_neg ∅];exact Jp (w j p q (~~~s) (~~~o)) (show fJ xs<=max (gE x) (fJ xs)from Nat.le_max_right _ _)
end
def eqT(neg:Bool)(x y:PV):Option PV:=match dA x,dA y with
 |some v,aa u=>if qg v u then aa (.bl (neg^^decide (v=u)))else af
 |none,af=>if gE x<=8 then(dW x y).map λk=>.bl (neg^^k)else af
 |_,_=>af
def Iq(K:ax):R2:=λx y H Q=>Hi x y H Q\/u7 K ak x y H Q
def E_(K:ax):R2:=λx y H Q=>Go x y H Q\/u7 K ah x y H Q
theorem lD(a:X.A.units+64<cLine):b_ X (eC .Eq) (Iq X.K):=VR.or (LM a)
theorem xU(a:X.A.units+64<cLine):b_ X (eC .NotEq) (E_ X.K):=V7.or (RO a)
theorem Ir(A:dA x=af)(e:dW x y=aa k)(w:gE x<=8)(s:aN K H F x v)(r:aN K H F y u)(q:Q (.bl (neg^^k)) H):u7 K neg v u H Q:=by
 have c:∀{d:Bool},k=d->Q (.bl (if neg=ah then !d else d)) H:=λ{d} z=>by subst z;cases neg <;> simpa using q
 cases x with
 |tup xs=>
  unfold dW at e;split at e
  .rename_i g;obtain⟨a,i,rfl,o,l⟩:=s;obtain⟨b,h,rfl,n,j⟩:=r;obtain⟨f,m,p⟩:=vD xs g e l j;unfold gE at w;exact⟨a,b,i,h,fJ xs,f,rfl,rfl,.inr ⟨cn.of o,cn.of n⟩,∅,m,c p⟩
  trivial
 |lst xs=>
  unfold dW at e;split at e
  .rename_i g;obtain⟨a,i,rfl,o,_,l⟩:=s;obtain⟨b,h,rfl,n,_,j⟩:=r;obtain⟨f,m,p⟩:=vD xs g e l j;unfold gE at w;exact⟨a,b,i,h,fJ xs,f,rfl,rfl,.inl ⟨.inl o,.inl n⟩,∅,m,c p⟩
  trivial
 |raw _=>trivial
 |exc _=>trivial
 |non=>trivial
 |bl _=>trivial
 |int _=>trivial
 |str _=>trivial
theorem lu:P2 K (Iq K) (eqT ak):=λF H x y v u Q pv g f e q=>by
 unfold eqT at e;split at e
 .rename_i a b d h;split at e
  .rename_i i;cases e;rw[jR g d,jR f h];refine .inl ⟨i,?_⟩;have:=q (.bl (decide (a=b))) F H (Al.refl ..) (by simp[aN]);trivial
  trivial
 .rename_i d h;split at e
  .rename_i j;cases c:dW x y with
   |none=>rw[c]at e;cases e
   |some k=>
    rw[c]at e;cases e;exact .inr (Ir (neg:=ak) d c j g f (q _ F H (Al.refl ..) rfl))
  trivial
 trivial
theorem yM:P2 K (E_ K) (eqT ah):=λF H x y v u Q pv g f e q=>by
 unfold eqT at e;split at e
 .rename_i a b d h;split at e
  .rename_i i;cases e;rw[jR g d,jR f h];refine .inl ⟨i,?_⟩;have:=q (.bl (!decide (a=b))) F H (Al.refl ..) (by simp[aN]);trivial
  trivial
 .rename_i d h;split at e
  .rename_i j;cases c:dW x y with
   |none=>rw[c]at e;cases e
   |some k=>
    rw[c]at e;cases e;exact .inr (Ir (neg:=ah) d c j g f (q _ F H (Al.refl ..) rfl))
  trivial
 trivial
end
open L2
section
variable{X:Cx}{K:ax}
def xC(i j:Tx):Bool:=!(JB (tS j) (tS i) 0 (tS j).length 1).isEmpty
def iC:List PV->Option (List V)
 |[]=>aa []
 |x::xs=>(dA x).bind λv=>(iC xs).map λr=>v::r
theorem uP:∀{xs:List PV}{c a:List V},aZ K H F xs c->iC xs=aa a->c=a/\a.all gh=ah
 |[],_,_,r,e=>by cases e;trivial
 |x::xs,_,a,⟨v,r,rfl,f,d⟩,e=>by
  unfold iC at e;cases q:dA x with
  |none=>simp_all
  |some w=>
   cases b:iC xs with
   |none=>rw[q,b]at e;cases e
   |some i=>
    rw[q,b]at e;cases e;obtain⟨h,g⟩:=uP d b;exact⟨by rw[jR f q,h],by rw[qO,rJ q,g];rfl⟩
def iq(neg:Bool):PV->PV->Option PV
 |.str x,.str y=>aa (.bl (neg^^xC x y))
 |x,.lst a=>(dA x).bind λv=>(iC a).map λb=>.bl (neg^^oO v b)
 |x,.tup a=>(dA x).bind λv=>(iC a).map λb=>.bl (neg^^oO v b)
 |_,_=>af
def IQ(K:ax):R2:=λx y H Q=>(∃i j,x=.str i/\y=.str j/\Q (.bl (!(JB j i 0 j.length 1).isEmpty)) H)\/Bw K ak x y H Q
theorem Cv:b_ X (eC .In) (IQ X.K):=VN.or TB
theorem FX{c:List PV}{v:V}{p:ae}{b:List V}{Q:VK}{neg:Bool}{pv:PV}(g:aN K H F x v)(i:cA K H p b\/cn K H p b)(h:aZ K H F c b)(e:((dA x).bind λv=>(iC c).map λf=>PV.bl (neg^^oO v f))=aa pv) (q:∀w,aN K H F pv w->Q w H):Bw K neg v (.ref p) H Q:=by
 cases a:dA x with
 |none=>rw[a]at e;cases e
 |some w=>
  cases d:iC c with
  |none=>rw[a,d]at e;cases e
  |some f=>
   rw[a,d]at e;cases e;obtain⟨rfl,j⟩:=uP h d;rw[jR g a];refine⟨p,b,rfl,i,rJ a,j,?_⟩;have:=q _ rfl;cases neg <;> simpa using this
theorem Ao:P2 K (IQ K) (iq ak):=λF H x y v u Q pv d c e q=>by
 unfold iq at e;split at e
 .cases e;exact .inl ⟨_,_,d.1,c.1,by have:=q _ F H (Al.refl ..) rfl;simpa[xC]using this⟩
 .obtain⟨a,h,rfl,g,_,f⟩:=c;exact .inr (FX (neg:=ak) d (.inl (.inl g)) f e λw b=>q w F H (Al.refl ..) b)
 .obtain⟨a,h,rfl,g,f⟩:=c;exact .inr (FX (neg:=ak) d (.inr (cn.of g)) f e λw b=>q w F H (Al.refl ..) b)
 trivial
noncomputable def nk(a:Bool):PV->PV->Option PV
 |x,.non=>match x with
  |.non=>aa (.bl (a^^ah))
  |.raw _=>af
  |_=>aa (.bl (a^^ak))
 |_,_=>af
theorem LG(r:aN K H F x v)(h:x≠.non)(c:∀w,x≠.raw w):decide (v=V.non)=ak:=by
 refine decide_eq_false λz=>?_;subst z;cases x with
 |non=>trivial
 |raw w=>exact c w rfl
 |bl _=>cases r
 |int _=>cases r
 |str _=>cases r.1
 |tup _=>obtain⟨a,b,e,_⟩:=r;cases e
 |lst _=>obtain⟨a,b,e,_⟩:=r;cases e
 |exc _=>obtain⟨a,e,_⟩:=r;cases e
theorem Lu{y:PV}{v u:V}{Q:VK}{pv:PV}{a:Bool}(c:aN K H F x v)(f:aN K H F y u)(e:nk a x y=aa pv)(q:∀w d b,Al F d H b->aN K b d pv w->Q w b):u=.non/\Q (.bl (a^^decide (v=V.non))) H:=by
 unfold nk at e;split at e
 .refine⟨f,?_⟩;split at e
  .cases e;rw[show v=V.non from c];exact q _ F H (Al.refl ..) rfl
  .cases e
  .rename_i h g;cases e;rw[LG c (λz=>h z) (λw z=>g w z)];exact q _ F H (Al.refl ..) rfl
 trivial
theorem Io:P2 K (λx y H Q=>y=.non/\Q (.bl (decide (x=.non))) H) (nk ak):=λF H x y v u Q pv b a e q=>by have:=Lu b a e q;simpa using this
noncomputable def bW:List PV->Option PV
 |[.str x]=>aa (.int x.length)
 |[.lst xs]=>aa (.int xs.length)
 |[.tup xs]=>aa (.int xs.length)
 |_=>af
theorem gB(r:aZ K H F [x] a):∃v,a=[v]/\aN K H F x v:=by obtain⟨v,b,rfl,d,c⟩:=r;rw[show b=[] from c];exact⟨v,rfl,d⟩
theorem jd:PL K (λxs H Q=>∃x n,xs=[x]/\FL K x H n/\Q (.int n) H) bW:=λF H xs h Q pv c e q=>by
 unfold bW at e;split at e
 .cases e;obtain⟨v,rfl,g⟩:=gB c;rw[g.1];exact⟨_,_,rfl,⟨by rw[mf];exact cV g.2 kP,rfl⟩,by rw[mf];exact q _ F H (Al.refl ..) rfl⟩
 .cases e;obtain⟨v,rfl,a,b,rfl,f,_,d⟩:=gB c;exact⟨_,_,rfl,.inl ⟨b,.inl f,rfl⟩,by rw[d.len];exact q _ F H (Al.refl ..) rfl⟩
 .cases e;obtain⟨v,rfl,a,b,rfl,f,d⟩:=gB c;exact⟨_,_,rfl,.inr ⟨b,cn.of f,rfl⟩,by rw[d.len];exact q _ F H (Al.refl ..) rfl⟩
 trivial
def sK:List PV->Option PO
 |[.lst xs]=>aa (.lst xs)
 |[.tup xs]=>aa (.lst xs)
 |_=>af
theorem Hh:lp K (λxs H Q=>∃p c,xs=[.ref p]/\(cA K H p c\/cn K H p c)/\∀l,H l=af->Q (.ref l) (upd H l (.lst c))) sK:=λF H xs j Q m i h e q=>by
 unfold sK at e;split at e
 .cases e;obtain⟨v,rfl,a,d,rfl,g,_,f⟩:=gB h;exact⟨a,d,rfl,.inl (.inl g),λl b=>q l F _ _ (Al.new0 b) (vc b f) (vp b i trivial)⟩
 .cases e;obtain⟨v,rfl,a,d,rfl,g,f⟩:=gB h;exact⟨a,d,rfl,.inr (cn.of g),λl b=>q l F _ _ (Al.new0 b) (vc b f) (vp b i trivial)⟩
 trivial
def iz:List PV->Option PV
 |[.lst xs]=>aa (.tup xs)
 |[.tup xs]=>aa (.tup xs)
 |_=>af
theorem s_:PL K (λxs H Q=>∃p d,xs=[.ref p]/\((cA K H p d/\∀l,H l=af->Q (.ref l) (upd H l (.tup d)))\/(cn K H p d/\Q (.ref p) H))) iz:=λF H xs i Q pv g e q=>by
 unfold iz at e;split at e
 .cases e;obtain⟨v,rfl,a,b,rfl,c,_,f⟩:=gB g;exact⟨a,b,rfl,.inl ⟨.inl c,λl h=>q _ F _ (Al.new0 h) ⟨l,b,rfl,upd_same,(Al.new0 h).reps f⟩⟩⟩
 .cases e;obtain⟨v,rfl,a,b,rfl,c,f⟩:=gB g;exact⟨a,b,rfl,.inr ⟨cn.of c,q _ F H (Al.refl ..) ⟨a,b,rfl,c,f⟩⟩⟩
 trivial
def fS:List PV->Option (List Tx)
 |[]=>aa []
 |.str x::xs=>(fS xs).map (x::·)
 |_=>af
noncomputable def am(ls:List Tx):List PV:=ls.map .str
theorem oD(a:List Tx):fS (am a)=aa a:=by
 induction a with
 |nil=>rfl
 |cons x a b=>show(fS (am a)).map (x::·)=_;rw[b];rfl
theorem uE:∀{xs:List PV}{a:List Tx},fS xs=aa a->xs=am a
 |[],a,e=>by cases e;rfl
 |.str x::xs,a,e=>by
  unfold fS at e;cases q:fS xs with
  |none=>simp_all
  |some r=>rw[q]at e;cases e;rw[uE q];rfl
 |.non::_,_,e=>by cases e
 |.bl _::_,_,e=>by cases e
 |.int _::_,_,e=>by cases e
 |.tup _::_,_,e=>by cases e
 |.lst _::_,_,e=>by cases e
 |.raw _::_,_,e=>by cases e
 |.exc _::_,_,e=>by cases e
theorem VJ:∀{a:List Tx}{b:List V},aZ K H F (am a) b↔b=cm a/\∀x∈a,x.length<=bB
 |[],b=>by simp[am,aZ,cm]
 |x::a,b=>by
  show(∃v r,b=v::r/\(v=tV x/\x.length<=bB)/\aZ K H F (am a) r)↔_;constructor
  .rintro⟨v,r,rfl,⟨rfl,f⟩,h2⟩;obtain⟨rfl,d⟩:=VJ.mp h2;exact⟨rfl,λy c=>by
    rcases bZ.mp c with rfl|c
    .exact f
    .exact d y c⟩
  .rintro⟨rfl,h⟩;exact⟨tV x,cm a,rfl,⟨rfl,h x (by simp)⟩,VJ.mpr ⟨rfl,λy c=>h y (by simp[c])⟩⟩
noncomputable def nc:List PV->Option (List Bool)
 |[]=>aa []
 |.bl b::xs=>(nc xs).map (b::·)
 |_=>af
theorem GR:∀{xs:List PV}{a:List V}{bs:List Bool},aZ K H F xs a->nc xs=aa bs->a=bs.map V.bl
 |[],_,_,r,e=>by cases e;exact r
 |.bl b::xs,_,bs,⟨v,r,rfl,d,c⟩,e=>by
  unfold nc at e;cases q:nc xs with
  |none=>simp_all
  |some f=>rw[q]at e;cases e;rw[GR c q,show v=V.bl b from d];rfl
 |.non::_,_,_,_,e=>by cases e
 |.str _::_,_,_,_,e=>by cases e
 |.int _::_,_,_,_,e=>by cases e
 |.tup _::_,_,_,_,e=>by cases e
 |.lst _::_,_,_,_,e=>by cases e
 |.raw _::_,_,_,_,e=>by cases e
 |.exc _::_,_,_,_,e=>by cases e
def qf:List PV->Option PV
 |[.lst xs]=>(nc xs).map λbs=>.bl (bs.all id)
 |_=>af
theorem zx:PL K (λxs H Q=>∃(p:ae) (bs:List Bool),xs=[.ref p]/\cA K H p (bs.map V.bl)/\Q (.bl (bs.all id)) H) qf:=λF H xs h Q pv f e q=>by
 unfold qf at e;split at e
 .rename_i d;cases b:nc d with
  |none=>rw[b]at e;cases e
  |some bs=>
   rw[b]at e;cases e;obtain⟨v,rfl,a,i,rfl,c,_,g⟩:=gB f;rw[GR g b]at c;exact⟨a,bs,rfl,.inl c,q _ F H (Al.refl ..) rfl⟩
 trivial
noncomputable def v5:PV->Option String
 |.non=>aa "NoneType"
 |.bl _=>aa "bool"
 |.int _=>aa "int"
 |.str _=>aa "str"
 |.tup _=>aa "tuple"
 |.lst _=>aa "list"
 |_=>af
def kt:List PV->Option PV
 |[x,.raw (.ty T)]=>(v5 x).bind λt=>(iJ [] (.type t) (.type T)).map λb=>.bl b
 |_=>af
theorem rR:eF X (.builtin "isinstance") (λxs H Q=>∃x t T b,xs=[x,.ty T]/\jf X.K H x (.type t)/\iJ X.K (.type t) (.type T)=aa b/\Q (.bl b) H):=by
 intro l s g H xs i Q I r h;obtain⟨x,t,T,b,rfl,ty,e,q⟩:=h;cases r with
 |cons f d=>
  cases d with
  |cons c a=>
   cases a;cases c;exact OE I f ty e λj=>⟨.bl b,H,I.tok _,rfl,q⟩
theorem Ph(r:aN K H F x v)(e:v5 x=aa t):jf K H v (.type t):=by
 cases x with
 |non=>cases e;rw[show v=V.non from r];exact .non
 |bl b=>cases e;rw[show v=V.bl b from r];exact .bl b
 |int b=>cases e;rw[show v=V.int b from r];exact .int b
 |str b=>cases e;rw[show v=tV b from r.1];exact .str _
 |tup xs=>cases e;obtain⟨a,d,rfl,c,_⟩:=r;exact .tup c
 |lst xs=>
  cases e;obtain⟨a,d,rfl,c,_⟩:=r;rcases c with c|⟨o,c⟩
  .exact .lst c
  .exact .frz c
 |raw _=>cases e
 |exc _=>cases e
theorem sF:PL K (λxs H Q=>∃x t T b,xs=[x,.ty T]/\jf K H x (.type t)/\iJ K (.type t) (.type T)=aa b/\Q (.bl b) H) kt:=λF H xs i Q pv d e q=>by
 unfold kt at e;split at e
 .rename_i x T;cases a:v5 x with
  |none=>rw[a]at e;cases e
  |some t=>
   cases c:iJ [] (.type t) (.type T)with
   |none=>rw[a,gp,c]at e;cases e
   |some b=>
    rw[a,gp,c]at e;cases e;obtain⟨v,j,rfl,h,g⟩:=d;obtain⟨u,rfl,f⟩:=gB g;rw[show u=V.ty T from f];exact⟨v,t,T,b,rfl,Ph h a,c,q _ F H (Al.refl ..) rfl⟩
 trivial
theorem rX(c:X.mg x=af)(a:fu x=aa (.type T))(d:Gl X x^0)(b:(x≠"__name__")^1)(g:av x^1):DE X E (.Name x f) (dC (.raw (.ty T))):=λF S i h H Q r q=>bY (O_ (v:=.ty T) d c a rfl b g) (q F S H r (Grow.refl ..) _ rfl)
def ba:PV->PV->Option PV
 |.lst xs,.int i=>fE xs i
 |.tup xs,.int i=>fE xs i
 |.str x,.int i=>(fE x i).map λc=>.str [c]
 |_,_=>af
theorem Fj(r:aZ K H F xs a)(e:fE xs i=aa x):∃v,fE a i=aa v/\aN K H F x v:=by
 unfold fE at e ⊢;rw[r.len];cases q:ie xs.length i with
 |none=>rw[q]at e;cases e
 |some j=>rw[q]at e;exact r.get e
theorem eI:P2 K (Ij K) ba:=λF H x y v u Q pv b f e q=>by
 unfold ba at e;split at e
 .rename_i xs i;obtain⟨a,d,rfl,h,_,g⟩:=b;obtain⟨w,l,j⟩:=Fj g e;exact .inl ⟨a,d,i,w,rfl,f,.inl h,l,q _ F H (Al.refl ..) j⟩
 .rename_i xs i;obtain⟨a,d,rfl,h,g⟩:=b;obtain⟨w,l,j⟩:=Fj g e;exact .inr (.inl ⟨a,d,i,w,rfl,f,cn.of h,l,q _ F H (Al.refl ..) j⟩)
 .rename_i x i;cases m:fE x i with
  |none=>simp_all
  |some c=>
   rw[m]at e;cases e;rw[b.1];exact .inr (.inr ⟨_,i,c,rfl,f,by rw[mf];exact cV b.2 kP,by trivial,q _ F H (Al.refl ..) ⟨rfl,by show 1<=bB;decide⟩⟩)
 trivial
def iD{a:Type}(xs:List a)(b c:Option Int):List a:=(xs.drop (HT.sIx xs.length 0 b)).take (HT.sIx xs.length xs.length c-HT.sIx xs.length 0 b)
theorem QR(xs:List a)(b c:Option Int):(iD xs b c).length<=xs.length:=by unfold iD;rw[wm,zC];lia
def fH:PV->Option Int->Option Int->Option PV
 |.str x,a,b=>aa (.str (iD x a b))
 |.lst xs,a,b=>aa (.lst (iD xs a b))
 |.tup xs,a,b=>if HT.sIx xs.length 0 a=0/\HT.sIx xs.length xs.length b=xs.length then af else aa (.tup (iD xs a b))
 |_,_,_=>af
def GD(K:ax):V->Option Int->Option Int->Hp->VK->Prop:=λx a b H Q=>GV x a b H Q\/(Gs K x a b H Q\/HH K x a b H Q)
theorem lI:nr X (GD X.K):=VH.or (VL.or Oz)
theorem FH(r:aZ K H F xs a)(b c:Option Int):aZ K H F (iD xs b c) (oF a b c):=by unfold iD oF;rw[r.len];exact(r.drop _).take _
theorem lE:G1 K (GD K) fH:=λF H x h i v Q pv b e q=>by
 unfold fH at e;split at e
 .cases e;rw[b.1];refine .inl ⟨_,rfl,by rw[mf];exact cV b.2 kP,?_⟩;refine q _ F H (Al.refl ..) ⟨?_,cV (QR ..) b.2⟩;rfl
 .cases e;obtain⟨a,f,rfl,g,_,d⟩:=b;exact .inr (.inl ⟨a,f,rfl,.inl g,λp c=>q _ _ _ (Al.new c) ⟨p,_,rfl,.inl upd_same,.inr rfl,(Al.new c).reps (FH d h i)⟩⟩)
 .split at e
  .cases e
  .rename_i j;cases e;obtain⟨a,f,rfl,g,d⟩:=b;exact .inr (.inr ⟨a,f,rfl,cn.of g,by rw[d.len];trivial,λp c=>q _ _ _ (Al.new0 c) ⟨p,_,rfl,upd_same,(Al.new0 c).reps (FH d h i)⟩⟩)
 trivial
variable{d:ad PV}
noncomputable def dz:PV->Option (List PV)
 |.lst xs=>aa xs
 |.tup xs=>aa xs
 |.str x=>aa (x.map λc=>.str [c])
 |_=>af
def aU(d:ad PV):ad (List PV):=λε=>(d ε).bind λx ε1=>aR (dz x) ε1
theorem A_:∀(x:Tx),aZ K H F (x.map λc=>PV.str [c]) (x.map sg)
 |[]=>rfl
 |c::x=>⟨sg c,x.map sg,rfl,⟨rfl,by show 1<=bB;decide⟩,A_ x⟩
theorem dO(he:DE X E l d):DI X E g l (aU d):=λF S ε Z H Rr rl h=>Bx.mk λag s I=>by
 have w:=he F S ε Z H (λv r=>∃B D u x,aL X.K B D u Z r/\aN X.K r B x v/\Ok X.K E Z B D r (aR (dz x) u) (λpvs _ F' S' H'=>∀J L RR,aZ X.K H' F' pvs L->L.length<=bq->Walk J L RR->(∀S'' F'' Y,Grow (U S') (U S'') F' F'' H' Y->RR Y)->Rr J H')) rl
  ((Ok.bind h).imp λx u B D r G g1 q v N=>⟨B,D,u,x,G,N,q⟩)
 refine aT (w.run ag s I) λv c ⟨x,r,y,rx,B,D,u,pv,G,N,q⟩=>?_;cases pv with
 |lst xs=>
  obtain⟨a,M,rfl,C,hF,ra⟩:=N;cases rx;obtain⟨O,rr,pp,P⟩:=y.list (.inl C);refine JU pp.isList ?_;refine⟨c.heap.objs.size,[c.heap.objs.size],_,_,r,rfl,y.kept (t':=c.toks) λb o e=>bL _ e,Qz a _,⟨_,cP _ rfl,rfl,rfl⟩,λb T=>?_,q B D r G (Grow.refl ..) (AH X.K a) M (λH=>cA X.K H a M) ra P QP λS2 F2 H2 g2=>.inl (g2.lst G.fit hF C)⟩;have e:b=c.heap.objs.size:= ~~~T
  subst e;exact y.fpOk (bn _) (y.hok.fresh (bn _))
 |tup xs=>
  obtain⟨a,M,rfl,C,ra⟩:=N;cases rx;obtain⟨O,rr,pp,P⟩:=y.tuple (cn.of C);refine zT (show c.heap.IsTuple a O.toArray from pp) ?_;refine⟨c.heap.objs.size,[c.heap.objs.size],_,_,r,rfl,y.kept (t':=c.toks) λb o e=>bL _ e,Tq a _,⟨_,cP _ rfl,rfl,rfl⟩,λb T=>?_,q B D r G (Grow.refl ..) (B6 X.K a) M (λH=>cn X.K H a M) ra P LR λS2 F2 H2 g2=>cn.of (g2.imm G.fit C id)⟩;have e:b=c.heap.objs.size:= ~~~T
  subst e;exact y.fpOk (bn _) (y.hok.fresh (bn _))
 |str z=>
  obtain⟨rfl,P⟩:=N;obtain⟨t,rfl⟩:=rx;have qq:Rr (v4 (tS z)) r:=q B D r G (Grow.refl ..) (v4 (tS z)) (z.map sg) (λ_=>True) (A_ z) (by rw[cG];exact cV P kP) (by have:=Rv (z:=tS z);trivial) λ_ _ _ _=>trivial;have W:∀(n:String) (j:Nat->aB->Prop),(∀i h,j i h->∃o n L,h.get? c.heap.objs.size=aa o/\o.cls=.type n/\o.data=.fields L /\ ["enumerate","zip","dict_itemiterator","dict_reverseitemiterator","odict_iterator","itertools.zip_longest","itertools.pairwise"].contains n=ak) ->
    (∀(A:aV) (i:Nat) (s:ao) (Q:ai->ao->Prop) (E:ai->ao->Prop),j i s.heap->Q (.ref c.heap.objs.size) s->ar X.zz A (nN (.ref c.heap.objs.size)) Q E s) ->
    (∀A:aV,A.handled=af->Walks X.prog X.w A c.heap.objs.size [c.heap.objs.size] [c.heap.objs.size] (tS z).cps.size (SignAt (tS z)) j) ->
    j 0 (c.heap.push {cls:=.type n,data:=.fields #[.str (tS z) t,.int 0 0]}) ->
    xP X ag Z g Rr (.ref c.heap.objs.size) {c with heap:=c.heap.push {cls:=.type n,data:=.fields #[.str (tS z) t,.int 0 0]}}:=λn j q h2 h3 h4=>by
   refine⟨c.heap.objs.size,[c.heap.objs.size],j,v4 (tS z),r,rfl,y.kept (t':=c.toks) λb o e=>bL _ e,Tb q h2 h3,h4,λb T=>?_,qq⟩;have e:b=c.heap.objs.size:= ~~~T
   subst e;exact y.fpOk (bn _) (y.hok.fresh (bn _))
  cases C:(tS z).cps.all (· < 128)
  .refine wpAny_pyIter_wide C (W "str_iterator" (λi h=>h.IsStrIter c.heap.objs.size "str_iterator" (tS z) t i) (λi h ⟨o,e1,e2,e3⟩=>⟨o,_,_,e1,e2,e3,by rfl⟩) (λA i s Q E st h=>wpAny_pyIter_striter_wide st h) (λA' hA=>Walks.strWide hA _ (tS z) t) ⟨_,cP _ rfl,rfl,rfl⟩)
  .refine wpAny_pyIter_ascii C (W "str_ascii_iterator" (λi h=>h.IsStrIter c.heap.objs.size "str_ascii_iterator" (tS z) t i) (λi h ⟨o,e1,e2,e3⟩=>⟨o,_,_,e1,e2,e3,by rfl⟩) (λA i s Q E st h=>wpAny_pyIter_striter_ascii st h) (λA' hA=>Walks.strAscii hA _ (tS z) t) ⟨_,cP _ rfl,rfl,rfl⟩)
 |non=>exact(show False from q).elim
 |bl _=>exact(show False from q).elim
 |int _=>exact(show False from q).elim
 |raw _=>exact(show False from q).elim
 |exc _=>exact(show False from q).elim
noncomputable def eN(c:Int)(n:Nat):List PV:=(cF n).map λi=>PV.int (c+(i:Nat))
theorem MB(c:Int)(n:Nat):aZ K H F (eN c n) (sA c n):=by
 unfold eN sA
 induction (cF n)with
 |nil=>rfl
 |cons x xs h=>exact⟨_,_,rfl,rfl,h⟩
def kn:List PV->Option (List PV)
 |[.int j]=>if j<=1000000/\-1000000<=j then aa (eN 0 j.toNat)else af
 |_=>af
theorem uV(x:X.mg "range"=af)(z:DA X E [a] m)(y:Gl X "range"^0)(w:(aX [a] X.env=[(ak,a8 a X.env)])^0):DI X E g (.Call (.Name "range" p) [a] [] f) (dL kn m):=λF S o i H J r h=>by
 refine N8 (UR y x i_ w) (z F S o i H _ r ((Ok.bind h).imp λxs n C A B s I c D u=>?_));unfold kn at c;split at c
 .rename_i j;split at c
  .rename_i G;obtain⟨v,rfl,q⟩:=gB u;refine⟨j,by rw[show v=V.int j from q],∅,∅,c C A B s (Grow.refl ..) _ _ _ (MB 0 j.toNat) (by rw[AV,C4];lia) OK λ_ _ _ _=>trivial⟩
  trivial
 trivial
end
section
variable{K:ax}{F:ae->Prop}{S:Nat->ae->Prop}{f:aj}{l:St}{H:Hp}{i:Nat}{p m:List PV}{d:List V}{a:ae}
theorem aL.lstAt(r:aL K F S f l H)(e:f[i]?=aa (.own (.lst p))):∃a c,l[i]?=aa (aa (.ref a))/\H a=aa (.lst c)/\aZ K H F p c/\S i a/\∀b,S i b->b=a:=by obtain⟨a,o,⟨c,n,j⟩,g⟩:=r.own i _ e;exact⟨a,c,o,n,j,(g a).mpr rfl,λb h=>(g b).mp h⟩
theorem aL.upd(r:aL K F S f l H)(e:f[i]?=aa (.own (.lst p)))(D:l[i]?=aa (aa (.ref a)))(h:aZ K H F m d):aL K F S (f.set i (.own (.lst m))) l (upd H a (.lst d))/\Grow (U S) (U S) F F H (upd H a (.lst d)):=by
 obtain⟨N,I,E,M,L,B,A⟩:=r.lstAt e;rw[D]at E;cases E;have y:i<f.length:=(cJ.mp e).1;have g:Grow (U S) (U S) F F H (L2.upd H a (.lst d)):=⟨λ_ z=>z,λb o q n=>by rw[a6 (by rintro rfl;exact n ⟨i,B⟩)];exact q,λb o q=>by
  by_cases C:b=a
  .subst C;exact⟨_,upd_same⟩
  .exact⟨o,by rw[a6 C];exact q⟩,λ_ z=>.inl z,λ_ z=>.inl z⟩
 refine⟨⟨by rw[fZ];exact r.len,λb z=>let ⟨o,q⟩:=r.ex b z;g.there b o q,λj pv q=>?_,λj po q=>?_,λj b z=>?_,r.dist⟩,g⟩
 .have s:i≠j:=by rintro rfl;rw[eB y]at q;cases q
  rw[cK s]at q;obtain⟨v,x,u⟩:=r.val j pv q;exact⟨v,x,u.grow g r.fit⟩
 .by_cases s:i=j
  .subst s;rw[eB y]at q;cases q;exact⟨a,D,⟨d,upd_same,h.grow g r.fit⟩,λb=>⟨A b,λz=>by rw[z];trivial⟩⟩
  .rw[cK s]at q;obtain⟨c,x,u⟩:=r.own j po q;refine⟨c,x,u.mono (λ_ _ z=>z.grow g r.fit) (λ_ _ z=>z.grow g r.fit) λb o z w=>?_⟩;rw[a6 (by rintro rfl;exact s (r.dist i j b B z))];exact w
 .obtain⟨⟨po,x⟩,u,o,J,G⟩:=r.foot j b z;by_cases s:i=j
  .subst s;rw[A b z];exact⟨⟨_,eB y⟩,by rw[<-A b z];trivial,_,upd_same,trivial⟩
  .exact⟨⟨po,by rw[cK s];trivial⟩,u,o,by rw[a6 (by rintro rfl;exact s (r.dist i j b B z))];trivial,G⟩
end
section
variable{X:Cx}{E:XK}{pin:List Nat}{e b:aC}{de db:ad PV}{d:Pos}
noncomputable def eW(a:aj)(i:Nat):Option (List PV):=match a[i]? with
 |some (.own (.lst xs))=>aa xs
 |_=>af
theorem jC(h:eW a i=aa xs):a[i]?=aa (.own (.lst xs)):=by
 unfold eW at h;split at h
 .cases h;trivial
 trivial
def vn(i:Nat)(de:ad PV):ad aM:=λc=>(aR (eW c i) c).bind λ_ c=>(de c).bind λy a=>(aR (eW a i) a).bind λxs a=>if xs.length<bB then .ok .next (a.set i (.own (.lst (xs++[y]))))else .no
theorem QH(i:Nat){f:Pos}(O:DE X E e de)(T:(X.N[i]?=aa x)^0)(L:d8 X.env.scope x^2)(P:av x^1)(bt:a4 x^1) (h1:(nQ (.Name x p) "append" X.env (a8 (.Name x p) X.env)=a8 (.Name x p) X.env)^0)(Z:(((dr c (aX [e] X.env)).all (λx=>!x.1)&&(qP c (qQ [] X.env)).all (λx=>x.1.isSome)&&decide ([e].length+([]:List jF).length+(if([]:List jF).isEmpty then 0 else 1)<30))=ah)^0)(Y:((f.endLine == c.line)=ah)^0) (z:(aX [e] X.env=(ak,a8 e X.env)::aX [] X.env)^0) (W:((dr c (aX [] X.env)).any (·.1)=ak)^0)(M:(jg (.Call (.Attribute (.Name x p) "append" f) [e] [] c) af d.line X.env=pure ak)^0):DS X E pin (.Expr (.Call (.Attribute (.Name x p) "append" f) [e] [] c) d) (vn i de):=λF S r o H D s h=>by
 unfold vn at h;cases n:eW r i with
 |none=>rw[n]at h;exact h.elim
 |some A=>
  rw[n]at h;simp only[bT,R.bind_ok]at h;obtain⟨a,B,m,Q,_,_,_⟩:=s.lstAt (jC n);refine fQ (BM (vU Dz PySem.F.slot_list_append PySem.F.type_list_append Hb (eY T L P bt) (i7 bJ jz z) h1 Z Y z W) M) ⟨.ref a,m,.inl ⟨rfl,_,cA.of Q⟩,?_⟩;refine O F S r o H _ s (h.bindE.imp λy l F1 S1 H1 w g1 q v G=>?_);cases j:eW l i with
  |none=>rw[j]at q;trivial
  |some xs=>
   rw[j]at q;simp only[bT,R.bind_ok]at q;obtain⟨a',C,g,J,u,_,_⟩:=w.lstAt (jC j);rw[m]at g;cases g;split at q
   .rename_i N;obtain⟨I,g2⟩:=w.upd (jC j) m (u.app (.one G));exact⟨a,C,v,rfl,rfl,J,by rw[u.len];exact gK N kP,q F1 S1 o _ I g2 (ip.refl _ _)⟩
   trivial
def Qt:V->List V->Hp->VK->Prop:=λx c H Q=>∃l b xs a,x=.ref l/\c=[.ref b]/\H l=aa (.lst xs)/\Rd H b (.lst a)/\xs.length+a.length<=bq/\Q .non (L2.upd H l (.lst (xs++a)))
theorem Q1:v9 X "list.extend" Qt:=by
 intro N s B H x D v G Q I j m h;obtain⟨l,b,xs,C,rfl,rfl,i,w,L,q⟩:=h;cases j;obtain⟨u,rfl,o⟩:=m.one;cases o;obtain⟨z,c,n,r,M,e⟩:=I.lstM i;obtain⟨a,p,g,y,_⟩:=Ck I w;have J:=g.length;have f:c.toArray.size+a.toArray.size<=bq:=⋯
 have A:¬(!c.toArray.isEmpty&&JP (c.toArray.size+a.toArray.size))=ah:=by rw[SW f,zK];lia
 refine zE F.slot_list_extend ⟨_,e,rfl⟩ F.entry_list_extend (F.args_list_extend_2 _ _)
  (AutoSeq1.list_extend_list_list_0 l c.toArray n b a.toArray p A ⋯ ∅) ⟨e,y,?_⟩
 refine⟨.non,_,I.lset (its':=c++a) i e (by simp) (r.append g) ?_,rfl,q⟩;rw[jk];omega
def gD(i:Nat)(de:ad PV):ad aM:=λε=>(aR (eW ε i) ε).bind λ_ ε=>(de ε).bind λy ε1=>(aR (eW ε1 i) ε1).bind λxs ε1=>match y with
 |.lst a=>if xs.length+a.length<=bB then .ok .next (ε1.set i (.own (.lst (xs++a))))else .no
 |_=>.no
theorem sB(i:Nat){g:Pos}(T:DE X E e de)(hN:(X.N[i]?=aa x)^0)(O:d8 X.env.scope x^2)(W:av x^1)(bt:a4 x^1) (h1:(nQ (.Name x p) "extend" X.env (a8 (.Name x p) X.env)=a8 (.Name x p) X.env)^0)(h2:(((dr f (aX [e] X.env)).all (λx=>!x.1)&&(qP f (qQ [] X.env)).all (λx=>x.1.isSome)&&decide ([e].length+([]:List jF).length+(if([]:List jF).isEmpty then 0 else 1)<30))=ah)^0)(h3:((g.endLine == f.line)=ah)^0) (B:(aX [e] X.env=(ak,a8 e X.env)::aX [] X.env)^0) (h5:((dr f (aX [] X.env)).any (·.1)=ak)^0)(P:(jg (.Call (.Attribute (.Name x p) "extend" g) [e] [] f) af d.line X.env=pure ak)^0):DS X E pin (.Expr (.Call (.Attribute (.Name x p) "extend" g) [e] [] f) d) (gD i de):=λF S s r H D u h=>by
 unfold gD at h;cases o:eW s i with
 |none=>rw[o]at h;exact h.elim
 |some C=>
  rw[o]at h;simp only[bT,R.bind_ok]at h;obtain⟨a,G,n,Z,_,_,_⟩:=u.lstAt (jC o);refine fQ (BM (vU Dz PySem.F.slot_list_extend PySem.F.type_list_extend Q1 (eY hN O W bt) (i7 bJ jz B) h1 h2 h3 B h5) P) ⟨.ref a,n,.inl ⟨rfl,_,cA.of Z⟩,?_⟩;refine T F S s r H _ u (h.bindE.imp λy m F1 S1 H1 A g1 q v L=>?_);cases l:eW m i with
  |none=>rw[l]at q;trivial
  |some xs=>
   rw[l]at q;simp only[bT,R.bind_ok]at q;obtain⟨a',I,j,N,z,_,_⟩:=A.lstAt (jC l);rw[n]at j;cases j;split at q
   .rename_i ys;split at q
    .rename_i Q;obtain⟨c,J,rfl,Y,_,w⟩:=L;obtain⟨M,g2⟩:=A.upd (jC l) n (z.app w);exact⟨a,c,I,J,rfl,rfl,N,Y,by rw[z.len,w.len];exact cV Q kP,q F1 S1 r _ M g2 (ip.refl _ _)⟩
    trivial
   trivial
def zk(i:Nat)(db de:ad PV):ad aM:=λf=>(de f).bind λy c=>(aR (eW c i) c).bind λ_ c=>(db c).bind λk a=>(aR (eW a i) a).bind λxs a=>match k with
 |.int k=>match ie xs.length k with
  |some j=>.ok .next (a.set i (.own (.lst (xs.set j y))))
  |none=>.no
 |_=>.no
theorem Ro(i:Nat)(Z:DE X E b db)(W:DE X E e de)(hN:(X.N[i]?=aa x)^0)(Q:d8 X.env.scope x^2)(Y:av x^1)(bt:a4 x^1) (ha:(∀v,mB (.Subscript (.Name x p) b c) X.env v=(do
   let ov <-j5 [v] (a8 (.Name x p) X.env)
   let iv <-j5 [v,ov] (a8 b X.env)
   standAt c
   j5 [v,ov,iv] (setItem ov iv v)
   release [v,ov,iv] []))^4) (T:(C0 [.Subscript (.Name x p) b c] e d.line X.env=pure ak)^0) (P:(C1 [.Subscript (.Name x p) b c] e X.env=pure af)^0)
  (h1:((qJ [.Subscript (.Name x p) b c] X.env).map (·.2)=[mB (.Subscript (.Name x p) b c) X.env])^0):DS X E pin (.Assign [.Subscript (.Name x p) b c] e d) (zk i db de):=λF S B n H D M h=>by
 refine fQ (Bn bJ (Ex (eY hN Q Y bt) bJ IN ha) T P h1) (W F S B n H _ M (h.bindE.imp λy g F1 S1 H1 r g1 q v J=>?_));cases w:eW g i with
 |none=>rw[w]at q;trivial
 |some C=>
  rw[w]at q;simp only[bT,R.bind_ok]at q;obtain⟨a,G,s,ha0,_,_,_⟩:=r.lstAt (jC w);refine⟨.ref a,s,Z F1 S1 g n H1 _ r (q.bindE.imp λk o F2 S2 H2 A g2 f u L=>?_)⟩;cases m:eW o i with
  |none=>rw[m]at f;trivial
  |some xs=>
   rw[m]at f;simp only[bT,R.bind_ok]at f;obtain⟨a',I,l,O,z,_,_⟩:=A.lstAt (jC m);rw[s]at l;cases l;split at f
   .rename_i k;split at f
    .rename_i j hj;obtain⟨N,g3⟩:=A.upd (jC m) s (z.set (J.grow g2 r.fit) j);exact⟨a,I,k,j,rfl,L,O,by rw[z.len];trivial,f F2 S2 n _ N g3 (ip.refl _ _)⟩
    trivial
   trivial
end
mutual
noncomputable def imm:PV->Bool
 |.lst _=>ak
 |.tup xs=>oK xs
 |_=>ah
noncomputable def oK:List PV->Bool
 |[]=>ah
 |x::xs=>imm x&&oK xs
end
mutual
theorem aN.imm{K:ax}{g:ae->Prop}:∀(x:PV) {v:V},imm x=ah->aN K H F x v->aN K H g x v
 |.non,_,_,h=>h
 |.bl _,_,_,h=>h
 |.int _,_,_,h=>h
 |.str _,_,_,h=>h
 |.raw _,_,_,h=>h
 |.exc _,_,_,h=>h
 |.lst _,_,e,_=>by simp[Pu.imm]at e
 |.tup xs,_,e,⟨a,b,f,d,c⟩=>⟨a,b,f,d,aZ.imm xs (by simpa[Pu.imm]using e) c⟩
theorem aZ.imm{K:ax}{g:ae->Prop}:∀(xs:List PV) {a:List V},oK xs=ah->aZ K H F xs a->aZ K H g xs a
 |[],_,_,h=>h
 |x::xs,_,e,⟨v,r,f,d,c⟩=>by
  have b:imm x=ah/\oK xs=ah:=by simpa[oK]using e
  exact⟨v,r,f,aN.imm x b.1 d,aZ.imm xs b.2 c⟩
end
section
variable{K:ax}{F:ae->Prop}{S:Nat->ae->Prop}{d:aj}{c:St}{H:Hp}{i:Nat}{f:List PV}
theorem aL.look(r:aL K F S d c H)(e:d[i]?=aa (.own (.lst f))):∃a,c[i]?=aa (aa (.ref a))/\¬F a/\aN K H (λb=>F b\/b=a) (.lst f) (.ref a)/\(∀b,F b\/b=a->∃o,H b=aa o) /\ (∀{h g},Al (λb=>F b\/b=a) h H g->Al F (λb=>h b/\b≠a) H g):=by
 obtain⟨a,l,q,j,p,n,s⟩:=r.lstAt e;have m:¬F a:=(r.foot i a n).2.1;refine⟨a,q,m,⟨a,l,rfl,.inl j,.inr rfl,aZ.mono (λ_ z=>.inl z) (λ_ _ _ z=>z) (λ_ _ z _=>z) _ _ p⟩,λb z=>z.elim (r.ex b) λz=>by rw[z];exact⟨_,j⟩,λ{h g} al=>⟨λb z=>⟨al.fro b (.inl z),by lia⟩,al.same,λb z=>?_⟩⟩;rcases al.fnew b z.1 with(w|w)|w
 .exact .inl w
 .exact absurd w z.2
 .exact .inr w
end
section
variable{X:Cx}{E:XK}{e b:aC}{de db:ad PV}{d p:Pos}{x y:Str}{l:String}{r:List V->Hp->VK->Prop}{f:List PV->Option PV}{g:List PV->Option PO}
def pT(o:Option PV):Option PV:=o.bind λv=>if imm v then aa v else af
theorem Ls(h:pT o=aa v):o=aa v/\imm v=ah:=by
 cases o with
 |none=>cases h
 |some w=>have h:(if imm w then aa w else af)=aa v:=h;lia
def Ia:PO->Bool
 |.lst xs=>oK xs
 |_=>ak
def kU{c:Type}(f:List PV->Option c)(i:Nat):ad c:=λa=>(aR (eW a i) a).bind λxs a=>aR (f [.lst xs]) a
theorem UP(B:PL X.K r f)(s:aL X.K F S m j H)(h:Ok X.K E j F S H (kU (λxs=>pT (f xs)) i m) (λpv _ z _ c=>∀v,aN X.K c z pv v->Q v c)):∃a,j[i]?=aa (aa (.ref a))/\r [.ref a] H Q:=by
 unfold kU at h;cases q:eW m i with
 |none=>rw[q]at h;trivial
 |some xs=>
  rw[q]at h;simp only[bT,R.bind_ok]at h;obtain⟨a,D,J,A,C,u⟩:=s.look (jC q);refine⟨a,D,?_⟩;cases o:pT (f [.lst xs])with
  |none=>rw[o]at h;trivial
  |some pv=>rw[o]at h;obtain⟨I,G⟩:=Ls o;exact B _ H [.lst xs] [.ref a] Q pv (.one A) I λw z c al n=>h _ S c (s.al (u al)) (u al).grow w (aN.imm pv G n)
theorem HD(i:Nat)(A:eF X (.builtin l) r)(s:PL X.K r f)(v:X.mg x=af)(n:fu x=aa (.builtin l))(B:(X.N[i]?=aa y)^0)(D:d8 X.env.scope y^2)(z:av y^1) (I:a4 y^1) (w:Gl X x^0) (u:(x≠"__name__")^1) (m:av x^1)(h:(aX [.Name y c] X.env=(ak,a8 (.Name y c) X.env)::aX [] X.env)^0) (G:((dr d (aX [] X.env)).any (·.1)=ak)^0):DE X E (.Call (.Name x p) [.Name y c] [] d) (kU (λxs=>pT (f xs)) i):=λF S L J H Q j q=>by obtain⟨a,C,o⟩:=UP s j q;exact bY (mx A w v n (i7 (eY B D z I) jz h) u m h G) ⟨_,C,o⟩
def vO(o:Option PO):Option PO:=o.bind λv=>if Ia v then aa v else af
theorem Tg(hp:lp X.K r g)(A:aL X.K F S s q H)(h:Ok X.K E q F S H (kU (λxs=>vO (g xs)) i s) (λB _ J S' n=>∀a u,fo X.K n J B a u->(∀b,u b->H b=af/\¬J b/\¬U S' b/\∃o,n b=aa o/\eh o)->Q (.ref a) n)):∃a,q[i]?=aa (aa (.ref a))/\r [.ref a] H Q:=by
 unfold kU at h;cases I:eW s i with
 |none=>rw[I]at h;trivial
 |some xs=>
  rw[I]at h;simp only[bT,R.bind_ok]at h;obtain⟨a,ea,nF,Y,D,L⟩:=A.look (jC I);refine⟨a,ea,?_⟩;cases G:g [.lst xs]with
  |none=>rw[G]at h;trivial
  |some B=>
   rw[G]at h;cases B with
   |dK m=>exact h.elim
   |lls bV=>exact h.elim
   |dL bV=>exact h.elim
   |ins C fs=>exact h.elim
   |dT m=>exact h.elim
   |dN m=>trivial
   |inl C fs y xs=>exact h.elim
   |lst v=>
    have h:Ok X.K E q F S H (aR (if oK v then aa (PO.lst v)else af) s) _:=h;split at h
    .rename_i hi;refine hp _ H [.lst xs] [.ref a] Q _ D (.one Y) G λc J n u al Z fr=>h _ S n (A.al (L al)) (L al).grow c u ?_ λb z=>?_
     .obtain⟨⟨W,o1,o2⟩,o3⟩:=Z;exact⟨⟨W,o1,aZ.imm v hi o2⟩,o3⟩
     .obtain⟨P,O,o,N,M⟩:=fr b z;refine⟨P,λw=>O w.1,λ⟨j,w⟩=>?_,o,N,M⟩;obtain⟨_,_,o',w1,_⟩:=A.foot j b w;lia
    trivial
theorem Ry(i:Nat)(A:eF X (.builtin l) r)(s:lp X.K r g)(v:X.mg x=af)(n:fu x=aa (.builtin l))(B:(X.N[i]?=aa y)^0)(D:d8 X.env.scope y^2)(z:av y^1) (I:a4 y^1) (w:Gl X x^0) (u:(x≠"__name__")^1) (m:av x^1)(h:(aX [.Name y c] X.env=(ak,a8 (.Name y c) X.env)::aX [] X.env)^0) (G:((dr d (aX [] X.env)).any (·.1)=ak)^0):DN X E (.Call (.Name x p) [.Name y c] [] d) (kU (λxs=>vO (g xs)) i):=λF S L J H Q j q=>by obtain⟨a,C,o⟩:=Tg s j q;exact bY (mx A w v n (i7 (eY B D z I) jz h) u m h G) ⟨_,C,o⟩
end
open L2
noncomputable def lw(h:aB)(e T:ae)(c g:ai):Prop:=∃a b f d,h.get? e=aa a/\a.cls=c/\(a.data=.fields b/\a.dict=af)/\b[1]?=aa (.ref T)/\T≠e/\h.get? T=aa f/\f.data=.fields d/\d[3]?=aa g
noncomputable def Made(h:aB)(e:ae)(c:ai):Prop:=∃a b,h.get? e=aa a/\a.cls=c/\(a.data=.fields b/\a.dict=af)/\b[1]?=aa .none
structure Kp(fs:List ae)(X:ae->Prop)(h h':aB):Prop where
 keep:∀b o,h.get? b=aa o->b∉fs->¬X b->h'.get? b=aa o
 slot:∀b o,h.get? b=aa o->b∈fs->¬X b->∃sl,h'.get? b=aa {o with slots:=sl}
 there:∀b o,h.get? b=aa o->∃o',h'.get? b=aa o'
theorem Kp.trans(a:Kp fs X h g)(b:Kp fs Y g f):Kp fs (λc=>X c\/Y c) h f where
 keep:=λc o e n x=>b.keep c o (a.keep c o e n λz=>x (.inl z)) n λz=>x (.inr z)
 slot:=λc o e n x=>by obtain⟨l,j⟩:=a.slot c o e n λz=>x (.inl z);obtain⟨d,i⟩:=b.slot c _ j n λz=>x (.inr z);exact⟨d,i⟩
 there:=λc o e=>let ⟨o',e'⟩:=a.there c o e;b.there c o' e'
theorem Kp.imp(a:Kp fs X h j)(f:∀b,b∈fs->b∈d)(g:∀b o,h.get? b=aa o->X b->Y b):Kp d Y h j where
 keep:=λc o e n x=>a.keep c o e (λz=>n (f c z)) λz=>x (g c o e z)
 slot:=λc o e n x=>by
  by_cases i:c∈fs
  .exact a.slot c o e i λz=>x (g c o e z)
  .exact⟨o.slots,a.keep c o e i λz=>x (g c o e z)⟩
 there:=a.there
theorem OD(f:Array ai->Array ai)(o:Obj):(mM f o).dict=o.dict:=by
 obtain⟨c,d,dt,a⟩:=o;cases dt <;> rfl
section
variable{A:aV}{s:ao}
theorem F9(Z:A.frames=aa (l::g)) (S:s.heap.FunFrames z (l::g)) (hf:l.frame=aa L) (W:s.heap.get? e=aa w) (I:w.data=.fields G) (uj:w.dict=af) (v:1<G.size)(h:∀N T,Kp (fF (l::g)) (λb=>b=e) s.heap N->lw N e T w.cls .none->s.heap.objs.size<=T->Q () {s with heap:=N}):ar M A (do let a <-frameOf l;let r <-entryPlaceOf L Vo;let b <-EntryCells.newEntry F a .none (dH L) .none r;lU (.ref e) 1 b) (λ_ Y=>ar M A (wD (.ref e) af) Q E Y) E s:=by
 have y:e∉(l::g).filterMap (·.frame):=λhm=>by obtain⟨_,o,D,X⟩:=S.mem hm;rw[W]at D;injection D with D;subst D;exact X G I
 refine aq (wpAny_frameOf_fun Z S hf λc d=>?_);refine aq (wpAny_entryPlaceOf λr dw=>?_);unfold EntryCells.newEntry newFields;refine aq (j8 ?_ (dw.sizeOk5 _ _ _ _ _));have n:c.get? e=aa w:=(d.2.1 e y).trans W;have m:=bL (h:=c) {cls:=.type "traceback",dict:=af,data:=.fields ([F,.ref L,.none,dH L,.none]++(if r.isEmpty then dQ 6 Value.none else r)).toArray} n;refine mL m I v ?_;have C:c.objs.size≠e:=tL (bG n);have j:=nZ I (·.setIfInBounds 1 (Value.ref c.objs.size));have i:=mE (mM (·.setIfInBounds 1 (Value.ref c.objs.size))) m (wE j);have p:=(o9 (c.push {cls:=.type "traceback",dict:=af,data:=.fields ([F,.ref L,.none,dH L,.none]++(if r.isEmpty then dQ 6 Value.none else r)).toArray}) (mM (·.setIfInBounds 1 (Value.ref c.objs.size))) (c0 C)).trans (cP c rfl);unfold wD;refine aq (lO i j (x:=.ref c.objs.size) (by simp[v]) ?_);rw[if_pos (show(Value.ref c.objs.size != Value.none)=ah from by rfl)];refine mL p rfl (by simp) (h _ c.objs.size ?_ ?_ ?_)
 .have keep:∀b o,b≠e->c.get? b=aa o ->
    (((c.push {cls:=.type "traceback",dict:=af,data:=.fields ([F,.ref L,.none,dH L,.none]++(if r.isEmpty then dQ 6 Value.none else r)).toArray}).update e (mM (·.setIfInBounds 1 (Value.ref c.objs.size)))).update c.objs.size (mM (·.setIfInBounds 3 ((af:Option ae).elim Value.none λf=>dH f)))).get? b=aa o:=λb o B u=>by
   have J:c.objs.size≠b:=tL (bG u);rw[o9 _ _ J,o9 _ _ (c0 B)];exact bL _ u
  refine⟨λb o u P H=>keep b o H ((d.2.1 b P).trans u),λb o u P H=>?_,λb o u=>?_⟩
  .obtain⟨O,q⟩:=d.2.2 b o u;exact⟨O,keep b _ H q⟩
  .by_cases B:b=e
   .subst B;exact⟨_,(o9 _ _ C).trans i⟩
   .obtain⟨O,q⟩:=d.2.2 b o u;exact⟨_,keep b _ B q⟩
 .refine⟨_,_,_,_,(o9 _ _ C).trans i,J9 _ _,⟨j,by rw[OD];trivial⟩,by simp[v],C,mE _ p (wE (nZ rfl _)),nZ rfl _,by rfl⟩
 .exact tW d.1.symm
theorem RC(o:A.frames=aa (d::a))(q:s.heap.FunFrames f (d::a))(i:d.frame=aa L)(p:Made s.heap e c)(h:∀g T,Kp (fF (d::a)) (λb=>b=e) s.heap g->lw g e T c .none->s.heap.objs.size<=T->Q () {s with heap:=g}):ar M A (leaving d (.ref e)) Q E s:=by obtain⟨v,u,j,r,⟨l,n⟩,m⟩:=p;subst r;unfold leaving zI;simp only[i];refine aq (aq (lO j l m ?_));rw[if_neg (by decide)];exact F9 o q i j l n (mG.mp m).1 h
theorem Ho(H:A.frames=aa (g::outer))(N:s.heap.FunFrames l (g::outer))(u:g.frame=aa L)(J:lw s.heap e T c .none)(h:∀j T',Kp (fF (g::outer)) (λb=>b=e\/b=T) s.heap j->lw j e T' c .none->s.heap.objs.size<=T'->Q () {s with heap:=j}):ar M A (zI (.ref e) g) (λ_ D=>ar M A (wD (.ref e) af) Q E D) E s:=by
 obtain⟨P,r,S,C,v,G,⟨w,B⟩,y,F,n,m,x⟩:=J;subst G;unfold zI;simp only[u];refine aq (lO v w y ?_);rw[if_pos (show(Value.ref T != Value.none)=ah from by rfl)];refine aq (lO n m x ?_);rw[if_neg (show ¬((Value.none == dH L)=ah)from by simp[dH])];refine aq (mL n m (mG.mp x).1 ?_);have a:∀b,b≠T->(s.heap.update T (mM (·.setIfInBounds 3 Value.none))).get? b=s.heap.get? b:=λb d=>o9 _ _ (c0 d);have f:∀b o,s.heap.get? b=aa o->(∀r,o.data≠.fields r)->b≠T:=λb o d p q=>by rw[q,n]at d;injection d with d;subst d;exact p C m
 refine F9 H (N.of_keeps λb o d p=>⟨o,(a b (f b o d p)).trans d,rfl⟩) u ((a e (c0 F)).trans v) w B (mG.mp y).1 λj T' k O W=>?_;have I:Kp (fF (g::outer)) (λb=>b=T) s.heap (s.heap.update T (mM (·.setIfInBounds 3 Value.none))):=by
  refine⟨λb o d _ i=>(a b i).trans d,λb o d _ i=>⟨o.slots,(a b i).trans d⟩,λb o d=>?_⟩;by_cases i:b=T
  .subst i;exact⟨_,mE _ n (wE (nZ m _))⟩
  .exact⟨o,(a b i).trans d⟩
 refine h j T' ((I.trans k).imp (λ_ z=>z) λb o _ z=>z.symm) O ?_;simp_all
theorem TR(j:A.frames=aa (d::a))(m:s.heap.FunFrames f (d::a))(n:d.frame=aa L)(l:lw s.heap e T c .none)(h:∀g i,Kp (fF (d::a)) (λb=>b=e\/b=T) s.heap g->lw g e i c .none->s.heap.objs.size<=i->Q () {s with heap:=g}):ar M A (leaving d (.ref e)) Q E s:=by unfold leaving;exact aq (Ho j m n l h)
theorem To(B:lw s.heap e T c D)(h:∀l,Kp [] (λb=>b=T) s.heap l->lw l e T c .none->Q () {s with heap:=l}):ar M A (wD (.ref e) af) Q E s:=by
 obtain⟨y,v,F,x,n,z,⟨p,w⟩,r,m,q,j,C⟩:=B;have u:3<x.size:=(mG.mp C).1;have a:∀b,b≠T->(s.heap.update T (mM (·.setIfInBounds 3 ((af:Option ae).elim Value.none λf=>dH f)))).get? b=s.heap.get? b:=λb g=>o9 _ _ (c0 g);have d:=mE (mM (·.setIfInBounds 3 ((af:Option ae).elim Value.none λf=>dH f))) q (wE (nZ j _));unfold wD;refine aq (lO n p r ?_);rw[if_pos (show(Value.ref T != Value.none)=ah from by rfl)];refine mL q j u (h _ ⟨λb o g _ i=>(a b i).trans g,λb o g _ i=>⟨o.slots,(a b i).trans g⟩,λb o g=>?_⟩ ⟨y,v,_,_,(a e (c0 m)).trans n,z,⟨p,w⟩,r,m,d,nZ j _,by simp[u]⟩);by_cases i:b=T
 .subst i;exact⟨_,d⟩
 .exact⟨o,(a b i).trans g⟩
end
def lq(P:aP)(w:aI):gx:=λb H s E e s'=>∃(a T:ae) (c:ai) (d:Hp),e=.ref a/\s'.os=s.os/\nK s'.gens/\Un (fF b) [] H d s.heap s'.heap/\c9 P w d s'.heap/\lw s'.heap a T c .none /\
 (s.heap.get? a=af/\s.heap.get? T=af/\d a=af/\d T=af)/\E c af d
theorem Lj(x:cc P w H h a o):∃u,h.get? a=aa u:=by
 cases o with
 |lst xs=>obtain⟨_,_,_,_,e⟩:=x;exact⟨_,e⟩
 |tup xs=>obtain⟨_,_,_,⟨o,e,_⟩,_⟩:=x;exact⟨_,e⟩
 |dK b=>obtain⟨_,_,_,_,o,_,_,e,_⟩:=x;exact⟨_,e⟩
 |dT b=>obtain⟨_,_,_,_,o,_,_,e,_⟩:=x;exact⟨_,e⟩
 |dN b=>obtain⟨_,_,_,_,o,_,_,e,_⟩:=x;exact⟨_,e⟩
 |set S n=>obtain⟨o,_,_,_,e,_⟩:=x;exact⟨_,e⟩
 |ins C l fs=>obtain⟨_,_,_,e,_⟩:=x;exact⟨_,e⟩
 |own y=>exact x
 |xd fs=>obtain⟨_,⟨_,_,_,e,_⟩,_⟩:=x;exact⟨_,e⟩
 |rng i j=>obtain⟨_,_,_,e⟩:=x;exact⟨_,e⟩
 |frz g u=>obtain⟨e,_⟩:=x;exact⟨_,e⟩
 |tbl d=>obtain⟨_,e,_⟩:=x;exact⟨_,e⟩
 |met f y=>exact⟨_,x⟩
 |ext c=>obtain⟨_,e,_⟩:=x;exact e
theorem NO(x:c9 P w H h)(e:h.get? a=af):H a=af:=by
 cases q:H a with
 |none=>rfl
 |some u=>obtain⟨o,z⟩:=Lj (x a u q);rw[e]at z;cases z
theorem tq(u:Un fs [] H c h b)(e:b.get? a=af):h.get? a=af:=by
 cases q:h.get? a with
 |none=>rfl
 |some o=>obtain⟨d,z⟩:=u.there a o q (by simp);rw[e]at z;cases z
theorem Cu(u:Un fs [] H p h v)(k:Kp a X v s)(x:∀b o,h.get? b=aa o->b∈a->b∈fs)(j:∀b o,h.get? b=aa o->¬X b)(y:∀b∈a,p b=af):Un fs [] H p h s where
 keep:=λb o e n i d=>k.keep b o (u.keep b o e n i d) (λz=>i (x b o e z)) (j b o e)
 slot:=λb o e n i d=>by
  obtain⟨w,m⟩:=u.slot b o e n i d;by_cases r:b∈a
  .obtain⟨l,f⟩:=k.slot b _ m r (j b o e);exact⟨l,f⟩
  .exact⟨w,k.keep b _ m r (j b o e)⟩
 free:=u.free
 there:=λb o e d=>let ⟨o',e'⟩:=u.there b o e d;k.there b o' e'
 tups:=u.tups
 frzs:=u.frzs
 tbls:=λb q e=>⟨(u.tbls b q e).1,λc o f g=>⟨k.keep c o ((u.tbls b q e).2 c o f g).1 (λz=>by have m:=((u.tbls b q e).2 c o f g).2;simp_all) (j c o g),((u.tbls b q e).2 c o f g).2⟩⟩
theorem BA(x:c9 P w H h)(k:Kp fs X h a)(d:∀b∈fs,H b=af)(g:∀b,X b->H b=af):c9 P w H a:=λb u e=>
 (x b u e).stay (λc v f q=>k.keep c v q (λz=>by
   simp_all) λz=>by
   simp_all) (λ_ q=>q) λ_ _ q=>q
section
variable{P:aP}{w:aI}{K:ax}{n:Str->Option ai}{l:aB}{N:List Str}{j:Str}{g:dP}{f:ae}{p:ai}{A:aV}{i:List Env}{d:ao}{m:Hp}{E:XK}
theorem d7:sJ (lq P w) (iZ (lq P w) P w K n l N j g f p A i d m E) E:=λag Y H s e s' I h=>by
 obtain⟨a,T,c,X,rfl,G,J,un,y,O,⟨Q,W,F,Z⟩,M⟩:=h;have r:=I.call' (s':=s') (ch:=[]) G un y J (λb z=>absurd z (by simp));refine TR (L:=d.heap.objs.size) I.ok.frames r.stack rfl O λmY D k B x=>?_;have Ps:(iZ (lq P w) P w K n l N j g f p A i d m E).ex=[]:=rfl;have C:d.heap.get? a=af:=tq I.base Q;have S:d.heap.get? T=af:=tq I.base W;have v:d.heap.get? D=af:=tq r.base (CZ x);have u:∀b o,d.heap.get? b=aa o->b≠a/\b≠T:=λb o e=>⟨(by lia),(by lia)⟩
 refine⟨a,D,c,X,rfl,r.os,r.bare,Cu r.base k (λb o e z=>?_) (λb o e z=>z.elim (u b o e).1 (u b o e).2) r.stkFree,BA r.hok k r.stkFree (λb z=>by lia),B,⟨C,v,F,r.hok.fresh x⟩,M⟩;rcases bZ.mp (I.stkSub b z)with q|q
 .exact absurd (bG e) (by rw[q];exact mz _)
 trivial
end
section
variable{X:Cx}{E:XK}{de:ad PV}
def EA(X:Cx)(E:XK):Prop:=∀(p:List (ae×Obj)) (m:St) (H:Hp) (s:ao) (a:ae) (c:ai) (h:aB),Inv X p m H s->(∀b o,s.heap.get? b=aa o->h.get? b=aa o)->Made h a c->s.heap.get? a=af->(E c af H)->X.xe (.ref a) {s with heap:=h}
def uY(c:ai)(de:ad PV):ad aM:=λb=>(de b).bind λ_ a=>.er c a
theorem QU{a:ai}{b:List ai}(m:Heap.MadeExcOf h c e a b):Made c e a:=by obtain⟨t,o,_,_⟩:=m.there;exact⟨_,_,o,rfl,⟨rfl,rfl⟩,rfl⟩
theorem BN(hx:EA X E)(hc:X.calm=ah)(O:OwnCls x C j d X.mg X.base)(Y:ExcBaseFacts B d g j)(he:DE X.nox E0 e de)(hg:Gl X x^0)(hd:av x^1)(Q:(aX [e] X.env=[(ak,a8 e X.env)])^0):DS X E f (.Raise (aa (.Call (.Name x n) [e] [] i)) af l) (uY (.ref C) (λy=>bM (de y))):=λF S y o H D rl q=>Bx.mk λW s I=>by
 obtain⟨Z,N,nm,qn,bs,hdct,sn,sub,ab,col,dd,k0,k1,k2,k3,k5,mN,hC,hN,L,T⟩:=O.obj;refine wpAny_Raise_call_subT (C:=C) (nm:=nm) (q:=qn) (N:=N) (bs:=bs) (bm:=Z) (hdct:=hdct) (sn:=sn) (sub:=sub) (ab:=ab) (col:=col) (dd:=dd) (k0:=k0) (k1:=k1) (k2:=k2) (k3:=k3) (k5:=k5)
  Y (mN:=mN) (T.hasType Y.hasBase) (I.ok.hd hc) (by rw[Q];rfl) L (tD I hg O.bound ⟨rfl,?_⟩ hd)
 have q2:Ok X.K E0 o F S H (de y) (λ_ b w p r=>gH X.K E f o w p r (.er (.ref C) b) D):=by
  have q:gH X.K E f o F S H ((bM (de y)).bind λ_ b=>.er (.ref C) b) D:=q;cases M:de y with
  |no=>rw[M]at q;trivial
  |er c G=>rw[M]at q;trivial
  |ok v G=>rw[M]at q;exact λF' S' H' r' g'=>q.from g' (ip.refl _ _)
 rw[Q];refine Da (ff (C5 (ff ((he F S y o H (λv r=>∃w p b,aL X.K w p b o r/\gH X.K E f o w p r (.er (.ref C) b) D) rl (q2.imp λv b w p r P g1 h v' rv=>⟨w,p,b,P,h⟩)).run W s (I.wish _)) (λu s1 ⟨v,r,A,P,w,p,b,J,ok⟩=>?_) λ_ _ z=>z.elim)) (λ_ _ z=>z) λ_ _ z=>z);have A:=A.unwish;refine JD ⟨rfl,(by show 1<=bq;decide),A.bk _ _ hC,hN.keeps A.bk,T.keeps A.bk,λh' a m=>?_⟩;exact hx W o r s1 a (.ref C) h' A m.keeps (QU m) m.new (ok af w p o r J (Grow.refl ..) (ip.refl _ _))
end
section
variable{P:aP}{w:aI}{K:ax}{m:Str->Option ai}{j:aB}{N:List Str}{i:Str}{g:dP}{f:ae}{n:ai}{A:aV}{h:List Env}{d:ao}{l:Hp}{E:XK}
theorem AF:EA (iZ (lq P w) P w K m j N i g f n A h d l E) E:=λM C H s a c y I G F new J=>by
 have p:Inv _ M C H {s with heap:=y}:=I.kept (t':=s.toks) G;refine RC (s:={s with heap:=y}) (L:=d.heap.objs.size) I.ok.frames p.stack rfl F λO B k v u=>?_;have x:d.heap.get? a=af:=tq I.base new;have r:d.heap.get? B=af:=tq p.base (CZ u);have D:H a=af:=NO I.hok new;refine⟨a,B,c,H,rfl,p.os,p.bare,Cu p.base k (λb o e z=>?_) (λb o e z=>by lia) p.stkFree,BA p.hok k p.stkFree (λb z=>by lia),v,⟨x,r,D,p.hok.fresh u⟩,J⟩;rcases bZ.mp (I.stkSub b z)with q|q
 .exact absurd (bG e) (by rw[q];exact mz _)
 trivial
end
section
theorem N4(I:Inv X f a H s)(hN:X.N.Nodup)(Y:X.N[i]?=aa x)(W:X.env.scope.names.lookup x=aa .local)(P:a[i]?=aa (aa v))(h:∀s',Inv X f (a.set i af) H s'->Q () s'):ar M A (unbindName X.env x) Q E s:=by
 obtain⟨m,S,T⟩:=id I.loc;have n_:(X.env.scope.kind == .class||(X.env.scope.kind == .module&&X.env.locals != X.env.globals))=ak:=by rw[I.ok.kind];rfl
 have C:i<a.length:=(cJ.mp P).1;obtain⟨u,_,lk⟩:=T i x v Y P (.inl W);have hm:m x=aa u:=by
  rcases lk with⟨_,z⟩|⟨z,_⟩
  .exact z
  .have z:X.env.scope.names.lookup x=aa .cell\/X.env.scope.names.lookup x=aa .free:=z;simp_all
 refine wpAny_unbindName_local W S hm n_ λh' u' F r=>?_;obtain⟨oL,_,_,j_,_⟩:=id S;have up:∀b o,X.s₀.heap.get? b=aa o->h'.get? b=s.heap.get? b:=λb o e=>r.2 b (dq (gK (bG e) I.ok.above));refine h _ ⟨I.ok,I.os,I.bare,⟨λb o e n L B=>(up b o e).trans (I.base.keep b o e n L B),λb o e n L B=>?_,I.base.free,λb o e B=>?_,I.base.tups,I.base.frzs,λb q e=>⟨(I.base.tbls b q e).1,λc o l g=>⟨(r.2 c (λz=>by have D:=((I.base.tbls b q e).2 c o l g).2;rw[z,I.free]at D;trivial)).trans ((I.base.tbls b q e).2 c o l g).1,((I.base.tbls b q e).2 c o l g).2⟩⟩⟩,⟨_,F,λj y Z D l e3=>?_⟩,λy c e=>?_,I.free,I.freeC,λp hp=>?_,λb ob e=>?_,by rw[fZ];exact I.len⟩
 .obtain⟨sl,q⟩:=I.base.slot b o e n L B;exact⟨sl,(up b o e).trans q⟩
 .obtain⟨o',q⟩:=I.base.there b o e B;exact⟨o',(up b o e).trans q⟩
 .by_cases G:j=i
  .subst G;rw[eB C]at l;cases l
  .rw[cK (c0 G)]at l;obtain⟨w,r',q⟩:=T j y Z D l e3;refine⟨w,r',?_⟩;rcases q with⟨k,e⟩|⟨k,c,e,z⟩
   .have:y≠x:=λe=>G (AE hN D (e ▸ Y));exact .inl ⟨k,by simp[this,e]⟩
   .exact .inr ⟨k,c,e,z.sameBut r (I.cne y c e)⟩
 .obtain⟨N,z⟩:=I.cell y c e;exact⟨N,z.sameBut r (I.cne y c e)⟩
 .obtain⟨e,n,O,nf,d⟩:=I.pin p hp;exact⟨(r.2 p.1 O).trans e,n,O,nf,d⟩
 .refine(I.hok b ob e).stay (λc N J q=>(r.2 c ?_).trans q) (λ_ q=>q) λ_ _ q=>q;rintro rfl;rcases J with rfl|J
  .rw[I.free]at e;cases e
  .rw[I.free]at J;trivial
end
noncomputable def XP(X:Cx)(f:List (ae×Obj))(d:St)(g:ai->Hp->Prop)(e:ai)(s':ao):Prop:=∃a b,Inv X f d b a/\lq X.prog X.w X.stack b a (λc _ h=>g c h) e s'
def DX(X:Cx)(e:aC)(d:ad Slot):Prop :=
 ∀F S h a H Q (i:ai->Hp->Prop),aL X.K F S h a H->Ok X.K (λc _ f=>i c f) a F S H (d h) (λs _ l m f=>∀v j,oW X.K f l s v j->(∀b,j b->H b=af/\¬l b/\¬U m b/\∃o,f b=aa o/\eh o)->Q v f) ->
  ∀g s,Inv X g a H s->ar X.zz X.A (a8 e X.env) (EP X g a Q) (XP X g a i) s
section
variable{X:Cx}{l:ad (List cW)}{g:ad Slot}{d:ad Slot}
def sL(g:ad Slot)(l:ad (List cW)):ad Slot:=λc=>(bM (l c)).bind λb ε1=>(aR (if(cD b).Nodup then eQ ε1 b else af) ε1).bind λf ε1=>fN ε1 b (g f)
theorem MX(c:qt (lq X.prog X.w) X.prog X.w X.K X.mg X.base x k m (fU X.K g))(hr:fP k X.A)(ha:DG X.nox E0 (e::a) l)(hg:Gl X x^0)(hd:av x^1) (h1:(aX (e::a) X.env=(ak,a8 e X.env)::aX a X.env)^0) (h2:((dr j (aX a X.env)).any (·.1)=ak)^0):DX X (.Call (.Name x p) (e::a) [] j) (sL g l):=λF S ε O H Q XE rl h ag s I=>by
 obtain⟨f,fd,hm,Fn,hb,hk⟩:=c.ex;have q0:Ok X.K E0 O F S H (l ε) (λA n D E C=>Ok X.K (λc _ B=>XE c B) O D E C ((aR (if(cD A).Nodup then eQ n A else af) n).bind λP n=>fN n A (g P)) (λs _ G Z B=>∀v M,oW X.K B G s v M->(∀b,M b->H b=af/\¬G b/\¬U Z b/\∃o,B b=aa o/\eh o)->Q v B)):=by
  unfold sL at h;cases e0:l ε with
  |no=>rw[e0]at h;trivial
  |er c ε'=>rw[e0]at h;trivial
  |ok A n=>rw[e0]at h;exact λD E C J g1=>Ok.from h g1
 refine zA (tD I hg hm ?_ hd);have wa:=(ha F S ε O H (λT C=>∃D E n A,aL X.K D E n O C/\jQ X.K O D C A T/\(∀b,C b=af->H b=af)/\Ok X.K (λc _ B=>XE c B) O D E C ((aR (if(cD A).Nodup then eQ n A else af) n).bind λP n=>fN n A (g P)) (λs _ G Z B=>∀v M,oW X.K B G s v M->(∀b,M b->H b=af/\¬G b/\¬U Z b/\∃o,B b=aa o/\eh o)->Q v B)) rl (q0.imp λA n D E C J g1 q T Y=>⟨D,E,n,A,J,Y,λb z=>oG g1 z,q⟩)).run j ag s (I.wish _);refine JE (h₀:=X.base) I.ok.mod.kin hk (ff wa (λus s1 ⟨T,C,N,r,D,E,n,A,J,Y,fb,q⟩=>⟨N.unwish.kIn,?_⟩) λ_ _ z=>z.elim) h1 h2;have N:=N.unwish;have q:=Ok.bind q;by_cases W:(cD A).Nodup
 .rw[if_pos W]at q;cases a:eQ n A with
  |none=>rw[a]at q;exact q.elim
  |some P=>
   rw[a]at q;have q:=q D E C J (Grow.refl ..);dsimp only at q;have gL:fU X.K g T C Q (λc _ B=>XE c B):=by
    refine⟨D,lx A E,P,J.cal Y a W,?_⟩;cases eg:g P with
    |no=>rw[eg]at q;trivial
    |er cv aO=>
     rw[eg]at q;intro y G Z B r' g';unfold fN at q;dsimp only at q;by_cases L:gF A aO=ah
     .rw[if_pos L]at q;obtain⟨S2,r2,g2,_⟩:=J.called Y a W r' g' (λ_ z=>z) (nu L);exact q af G S2 B r2 g2
     .rw[if_neg L]at q;trivial
    |ok sl aO=>
     rw[eg]at q;intro v G Z B M r' g' rv lo fr;unfold fN at q;dsimp only at q;by_cases L:gF A aO=ah
     .rw[if_pos L]at q;obtain⟨S2,r2,g2,u2⟩:=J.called Y a W r' g' (λ_ z=>.inl z) (nu L);refine q G S2 B r2 g2 v M rv λb z=>⟨fb b (fr b z),(lo b z).1,λw=>?_,(lo b z).2.2⟩
      rcases u2 b w with w|⟨i,w⟩
      .exact(lo b z).2.1 w
      .obtain⟨_,_,o,y1,_⟩:=J.foot i b w;simp_all
     .rw[if_neg L]at q;trivial
   have hl:us.length=m.length:=by rw[<-r.length];exact Fn.len _ _ _ _ gL
   refine zz (qL (Fn.run X.A X.stack s1 C ⟨us,[]⟩ us T Q _ hr N.env0 (by have:=hb s1 us N.kIn ⋯;rwa[ik]at this) r gL) λrr s' hq=>?_);cases rr with
   |error er=>exact⟨s1,C,N,hq⟩
   |ok fl=>
    cases fl with
    |ret u=>exact N.after hq
    |next=>trivial
    |brk=>trivial
    |cont=>trivial
 .rw[if_neg W]at q;exact q.elim
end
abbrev hand(X:Cx)(a:ae):Cx:={X with A:=X.A.mark (aa (.ref a)),calm:=ak,xe:=λ_ _=>False}
section
theorem Inv.hand(I:Inv X c b H s)(d:((X.A.mark (aa (.ref a))).frames=X.A.frames)^0):Inv (Pu.hand X a) c b H s :=
 ⟨⟨I.ok.mod,I.ok.kind,I.ok.glob,I.ok.blt,I.ok.above,I.ok.inj,I.ok.has,I.ok.cab,(λz=>by cases z),d.trans I.ok.frames,I.ok.stk,I.ok.exf,I.ok.bs,I.ok.bsz,I.ok.noex,I.ok.exfs,I.ok.funs,I.ok.frf,I.ok.tab⟩,I.os,I.bare,I.base,I.loc,I.cell,I.free,I.freeC,I.pin,I.hok,I.len⟩
theorem Inv.unhand(I:Inv (Pu.hand X a) c b H s)(ok:X.Ok):Inv X c b H s:=⟨ok,I.os,I.bare,I.base,I.loc,I.cell,I.free,I.freeC,I.pin,I.hok,I.len⟩
end
inductive Under(h:aB)(D:ae)(c:ai):Prop
 |mk (C) (bm) (N) (nm) (q) (bs) (hdct) (sn) (sub) (ab) (col) (dd) (k0) (k1) (k2) (k3) (k5) (newId) (e:c=.ref C) (g:h.get? C=aa (excClassObj nm q C N bs bm hdct sn sub ab col dd k0 k1 k2 k3 k5 newId)) (m:(Value.ref C::bm).contains (.ref D)=ah)
inductive qy(h:aB)(D:ae):Prop
 |mk (bm) (N) (nm) (q) (bs) (hdct) (sn) (sub) (ab) (col) (dd) (k0) (k1) (k2) (k3) (k5) (newId) (g:h.get? D=aa (excClassObj nm q D N bs bm hdct sn sub ab col dd k0 k1 k2 k3 k5 newId)) (m:bm.contains (.type "BaseException")=ah)
theorem Under.keeps{d:aB}(x:Under h D c)(k:∀b o,h.get? b=aa o->d.get? b=aa o):Under d D c:=by obtain⟨C,bm,N,nm,q,bs,hdct,sn,sub,ab,col,dd,k0,k1,k2,k3,k5,a,e,g,f⟩:=x;exact⟨C,bm,N,nm,q,bs,hdct,sn,sub,ab,col,dd,k0,k1,k2,k3,k5,a,e,k _ _ g,f⟩
theorem qy.keeps{c:aB}(x:qy h D)(k:∀b o,h.get? b=aa o->c.get? b=aa o):qy c D:=by obtain⟨bm,N,nm,q,bs,hdct,sn,sub,ab,col,dd,k0,k1,k2,k3,k5,a,f,d⟩:=x;exact⟨bm,N,nm,q,bs,hdct,sn,sub,ab,col,dd,k0,k1,k2,k3,k5,a,k _ _ f,d⟩
theorem Mi{s:ao}(J:Under s.heap D c)(b:qy s.heap D)(O:s.heap.get? e=aa o)(y:o.cls=c)(L:Q ah s):ar M A (excMatches (.ref e) (.ref D)) Q E s:=by
 obtain⟨C,bm,N,nm,q,bs,p,X,v,ab,S,dd,k0,k1,k2,k3,k5,i,rfl,r,I⟩:=J;obtain⟨m,N',x,Y,T,j,w,n,W,u,P,H,G,F,B,z,a,b,hb⟩:=b;obtain⟨h,g,d,t,Z⟩:=s;have l:(Value.ref D::m).contains (.type "BaseException")=ah:=∅
 have f:=tc_notTuple;unfold excMatches
 repeat (first | (with_reducible refine J_ O ?_;rw[y])|with_reducible refine J_ r ?_|with_reducible refine J_ b ?_ | (with_reducible refine wpAny_isSubtype_exc r ?_;rw[I]) | (with_reducible refine wpAny_isSubtype_exc b ?_;rw[l])|wp_step)
 exact L
section
variable{X:Cx}{l:List bf}{g:ai->Bool}
theorem aL.unset{K:ax}{c:aj}{f:St}{H:Hp}{i:Nat}(r:aL K F S c f H):aL K F (λj b=>S j b/\j≠i) (c.set i .none) (f.set i af) H:=by
 have a:=r.drop i;have h:∀{j:Nat}{s:Slot},(c.set i .none)[j]?=aa s->s≠.none->j≠i:=λ{j s} e u z=>by
  grind
 refine⟨by rw[fZ,fZ];exact r.len,r.ex,λj pv e=>?_,λj o e=>?_,a.foot,a.dist⟩
 .obtain⟨v,q,d⟩:=a.val j pv e;exact⟨v,by rw[cK (c0 (h e (by simp)))];trivial,d⟩
 .obtain⟨v,q,d⟩:=a.own j o e;exact⟨v,by rw[cK (c0 (h e (by simp)))];trivial,d⟩
theorem TV(ok:c9 P w H h)(j:H a=af)(f:lw h a T c M):c9 P w (upd H a (jy a c)) h:=λb u q=>by
 by_cases s:b=a
 .subst s;rw[upd_same]at q;cases q;obtain⟨i,F,_,_,r,L,J,_⟩:=f;exact⟨⟨i,F,r,L,J⟩,⟨i,r⟩,λW S ⟨o,v,Q,O,N⟩ k=>⟨o,v,k o Q,O,N⟩⟩
 .rw[a6 s]at q;exact(ok b u q).stay (λ_ _ _ z=>z) (λd z=>by rw[a6 (kM z j)];exact z) λd xs z=>by rw[a6 (kM z j)];exact z
end
structure kR(k:Nat)(A:aV):Prop where
 dp:A.depth+3*k+5<recursionLimit
 un:A.units+16*k+200<cLine
theorem fP.hand(r:fP k A):kR k (A.mark v):=⟨r.dp,r.un⟩
theorem kR.mono(r:kR k A)(h:j<=k):kR j A:=⟨by have:=r.dp;lia,by have:=r.un;lia⟩
theorem kR.deeper(r:kR (k+1) A)(a:Env):kR k (A.deeper a) :=⟨by have:=r.dp;show A.depth+1+3*k+5<_;lia,by have:=r.un;show A.units+3+16*k+200<_;lia⟩
theorem kR.units(r:kR k A):A.units+64<cLine:=by have:=r.un;lia
def v3(P:aP)(w:aI)(K:ax)(g:Str->Option ai)(d:aB)(N:List Str)(c:Str)(a:dP)(f:ae)(h:ai)(A:aV)(b:List Env)(s:ao)(H:Hp):Cx :=
 {(iZ Be P w K g d N c a f h A b s H E0)with calm:=ak,xe:=λ_ _=>False}
structure AQ(P:aP)(w:aI)(K:ax)(mg:Str->Option ai)(base:aB)(k:Nat)(f:ae)(fd:g7)(ps:List Str)(sp:Sp):Prop where
 len:∀vs H Q E,sp vs H Q E->vs.length=ps.length
 run:∀(A:aV) (outer:List Env) (s:ao) (H:Hp) (args:Args) (us:List ai) (vs:List V) (Q:VK),kR k A->sj P w K mg base A outer s H->BindsTo s fd args (ps.zip us)->bC vs us->sp vs H Q E0 ->
  mD (aw P w) A (.call (.ref f) args) (CR Be outer P w H s Q E0) s
structure yc(P:aP)(w:aI)(K:ax)(mg:Str->Option ai)(base:aB)(x:Str)(k:Nat)(ps:List Str)(sp:Sp):Prop where
 ex:∃f fd,mg x=aa (.ref f)/\AQ P w K mg base k f fd ps sp/\Binds K fd ps []/\qM K (.ref f)=ah
theorem N_{K:ax}{g:Str}{i:Arguments}{l:List bf}{a:dP}{dV kV M pm C ct oc:ai}{an od:Option ae}{Z:Array (Option ai)}{N O:List Str}{T:Sp} (lk:K.lookup f=aa ⟨oc,od,.func (iK B g i l a dV kV M pm an C ct),Z⟩) (bt:wl K C g=ah) (S:cg N O a)(len:∀p H Q E,T p H Q E->p.length=O.length)(hG:∀(A:aV) (c:List Env) (s:ao) (H:Hp) (p:List V) (Q:VK),kR k (A.deeper (jj g a s.heap.objs.size f C))->T p H Q E0 -> oP (v3 P w K F h N g a f C A c s H) l {nx:=λ_ D=>Q .non D,rt:=Q} (L2.start N p) H):AQ P w K F h (k+1) f (iK B g i l a dV kV M pm an C ct) O T:=by
 refine⟨len,λA c s H args us p Q hr j hb r gL=>?_⟩;have hl:=len _ _ _ _ gL;have KX:K.In s.heap:=j.mod.kin.keeps λb o e=>(j.bs b o e).1;have lim:s.heap.NoLimit:=j.mod.nolimit.keeps λb o e=>(j.bs b o e).1;have Ef:∀y∈O.zip us,a.names.lookup y.1=aa .local\/(a.names.lookup y.1=aa .cell/\((fY (s.heap.objs.size+1) a.names []).lookup y.1).isSome=ah):=λ⟨n,v⟩ hy=>(S.par n (wg hy).1).imp id λq=>⟨q,JF _ _ _ (.inl q)⟩
 refine codeAny_call_function (by have:=hr.dp;lia) (KX _ _ lk) rfl S.co S.gen rfl (PySem.W.codeRec_of KX bt) (hb _ _ _ _ ?_);refine wpAny_newFunctionEnv_cells S.kind Ef λenv he W x=>?_;subst he;refine⟨lim.keeps x.toInCall.keep,codeAny_func ?_⟩;have e1:sj P w K F h {A with handled:=af} c s H:=⟨j.frames,j.mod,j.bs,j.bsz,j.funs,j.frf,j.hok,j.bare,j.tab⟩
 have d:Inv (iZ Be P w K F h N g a f C {A with handled:=af} c s H E0) [] (L2.start N p) H W:=GM S rfl e1 hl r x;have I:Inv (v3 P w K F h N g a f C A c s H) [] (L2.start N p) H W :=
  ⟨⟨d.ok.mod,d.ok.kind,d.ok.glob,d.ok.blt,d.ok.above,d.ok.inj,d.ok.has,d.ok.cab,(λz=>by cases z),Around.frames_deeper j.frames,d.ok.stk,d.ok.exf,d.ok.bs,d.ok.bsz,d.ok.noex,d.ok.exfs,d.ok.funs,d.ok.frf,d.ok.tab⟩,d.os,d.bare,d.base,d.loc,d.cell,d.free,d.freeC,d.pin,d.hok,d.len⟩
 refine ff ((hG A c s H p Q (hr.deeper _) gL).run [] W I) (λfl X G=>?_) λe X G=>G.elim;have L:∀{m:St}{D:Hp}{v:V}{u:ai},Inv (v3 P w K F h N g a f C A c s H) [] m D X->RelV v u->Q v D->CE c P w H s Q u X:=λ{m D v u} J Y q=>⟨v,D,J.os,J.bare,J.base,J.hok,Y,q⟩
 cases fl with
 |ret u=>obtain⟨v,m,D,J,Y,q⟩:=G;exact L J Y q
 |next=>obtain⟨m,D,J,q⟩:=G;exact L (v:=V.non) (u:=Value.none) J rfl q
 |brk=>obtain⟨_,_,_,q⟩:=G;trivial
 |cont=>obtain⟨_,_,_,q⟩:=G;trivial
theorem K3{K:ax}{u:Str->Option ai}{j:aB}{x:Str}{c:bf}{N l:List Str}{k n:Nat}{g:ad Slot}{d:ad aM}{p:List Nat}(D:cB K u x c)(Y:cg N l (bp c))(J:N.length=l.length+n)(O:∀(kV q y:ai) (E:Option ae) (o B:ai) (r:List ai),r.length=l.length->gn (iK x x (jV c) (fW c) (bp c) .none kV q y E o B) ⟨r,[]⟩=pure (l.zip r))(C:∀b,g b≠.no->b.length=l.length) (z:∀b,g b≠.no->∀(i:Nat) m,b[i]?=aa (.own m)->i∈p/\gf m=ah) (M:∀b,g b≠.no->bH n d b=g b)(S:∀(f:ae) (o:ai) (A:aV) (a:List Env) (s:ao) (H:Hp),kR k (A.deeper (jj x (bp c) s.heap.objs.size f o))->gw (v3 P w K u j N x (bp c) f o A a s H) E0 p (fW c) d):yc P w K u j x (k+1) l (fU K g):=by obtain⟨f,W,L,v⟩:=D.ex;refine⟨f,W,L,?_,v.binds O,v.kp⟩;obtain⟨oc,od,kV,q,y,E,o,B,F,rfl,G,X⟩:=v.ex;exact N_ G X Y (Fe C) λA a s H Z Q I T=>IZ J C (λb h i m e=>(z b h i m e).1) (λb rs aO h=>.inr λi m e=>(z b ⋯ i m e).2) M (S f o A a s H I) T
section
variable{X:Cx}
theorem RN(y:AQ X.prog X.w X.K X.mg X.base k f w i o)(A:kR k X.A)(F:Gl X x)(C:X.mg x=aa (.ref f))(D:qM X.K (.ref f)=ah)(L:Binds X.K w i [])(M:PA X (e::d) t) (J:av x) (G:aX (e::d) X.env=(ak,a8 e X.env)::aX d X.env) (O:(dr b (aX d X.env)).any (·.1)=ak):PE X (.Call (.Name x p) (e::d) [] b) (λl H Q=>t l H λm n=>o m n Q E0):=λP s l H Q I h=>by
 refine zA (tD I F C ?_ J);refine JE (h₀:=X.base) I.ok.mod.kin D (aT (M b P s l H _ I h) λa v ⟨m,n,c,r,q⟩=>⟨c.kIn,?_⟩) G O;have T:a.length=i.length:=by rw[<-r.length];exact y.len _ _ _ _ q
 refine zz (qL (y.run X.A X.stack v n ⟨a,[]⟩ a m Q A c.env0 (by have:=L v a c.kIn ⋯;rwa[ik]at this) r q) λz S B=>?_);cases z with
 |error er=>trivial
 |ok N=>
  cases N with
  |ret u=>exact c.after B
  |next=>trivial
  |brk=>trivial
  |cont=>trivial
theorem K2{K:ax}{E o:XK}{c:St}{F:ae->Prop}{S:Nat->ae->Prop}{H:Hp}{C:m->aj->(ae->Prop)->(Nat->ae->Prop)->Hp->Prop}{r:R n}{f:n->aj->R m}(h:Ok K E c F S H (bM (r.bind f)) C):Ok K E c F S H r λa l F S H=>Ok K o c F S H (f a l) C:=by
 cases r with
 |ok a l=>
  intro w u v s q;have h:Ok K E c F S H (bM (f a l)) C:=h;cases e:f a l with
  |ok=>rw[e]at h;exact Ok.from (E:=o) h q
  |_=>rw[e]at h;trivial
 |_=>exact h.elim
theorem QB(c:yc X.prog X.w X.K X.mg X.base x k i (fU X.K g))(r:kR k X.A)(z:DG X E (e::d) j)(v:Gl X x^0)(w:av x^1) (B:(aX (e::d) X.env=(ak,a8 e X.env)::aX d X.env)^0) (A:((dr b (aX d X.env)).any (·.1)=ak)^0):DR X E (.Call (.Name x p) (e::d) [] b) (λa=>bM (bg g j a)):=λF S a l H Q n h=>by obtain⟨f,J,s,G,y,u⟩:=c.ex;exact bY (RN G r v s u y i_ w B A) (z F S a l H _ n ((K2 h).imp λL m O M N o C q I D=>HV o C D q))
end
structure oR(K:ax)(C:ae):Prop where
 ga:qK K (.ref C) "__getattribute__"=aa (aa (.builtin "BaseException.__getattribute__"))
 gt:qK K (.ref C) "__getattr__"=aa af
 cl:qK K (.ref C) "__class__"=aa (aa (.builtin "object.__class__"))
 gs:JC K (.builtin "object.__class__") "__get__"=aa (aa (.builtin "getset_descriptor.__get__"))
 tk:PySem.W.takesIn K (.builtin "object.__class__")=aa ah
 ob:zy K C (.type "object")=aa ah
 be:zy K C (.type "BaseException")=aa ah
 cs:(DB K C).isSome=ah
section
variable{b:aP}{w:aI}{A:aV}{E:ai->ao->Prop}{K:ax}{h:aB}{g:Array GenState}{d:Drawn}{t:Nat}{c:OsState}{a C:ae}{o:Obj}
theorem Tk(X:K.In h)(k:oR K C)(I:wf h a o C af)(j:Q () ⟨h,g,d,t,c⟩):ar M A (J3 "BaseException.__getattribute__" ⟨[.ref a,f],[]⟩) Q E ⟨h,g,d,t,c⟩:=by
 have l:builtinKind "BaseException.__getattribute__"=aa .slot:=by decide +kernel
 have m:splitId "BaseException.__getattribute__"=aa ("BaseException","__getattribute__"):=by rfl
 have p:=F.args_bexc_ga (.ref a) f;have n:=I.type (M:=M);have i:=PySem.W.looks_mroIn (M:=M) X k.be;simp only[J3,l,m];refine aq ?_
 .unfold zN
  repeat (first|with_reducible refine aq (n.at ?_)|with_reducible refine i.at ?_|with_reducible refine aq (i.at ?_)|wp_step)
  exact j
theorem Rz(X:K.In h)(k:oR K C)(I:wf h a o C af)(j:Q (.done (.ret (.ref C))) ⟨h,g,d,t,c⟩):ar (aw b w) A (Builtin.«object.__getattribute__» ⟨[.ref a,.str "__class__" i],[]⟩) Q E ⟨h,g,d,t,c⟩:=by
 have q:=I.type (M:=aw b w);have l:PySem.W.findObj K C af "__class__"=aa (.bind (.builtin "getset_descriptor.__get__") (.builtin "object.__class__")):=by obtain⟨u,m⟩:=C6.mp k.cs;unfold PySem.W.findObj;rw[m,gp,k.cl,gp];simp[k.gs,k.tk]
 have p:=PySem.W.looks_find (M:=aw b w) X I l;have n:mD (aw b w) A (.call (.builtin "getset_descriptor.__get__") ⟨[.builtin "object.__class__",.ref a,.ref C],[]⟩) (λr f=>r=.ok (.ret (.ref C))/\f=⟨h,g,d,t,c⟩) ⟨h,g,d,t,c⟩:=PySem.W.class_get (s:=⟨h,g,d,t,c⟩) X I k.ob ⟨rfl,rfl⟩;refine aq (aE (aq (aE (aq (q.at (aq (p.at ?_)))))));show ar _ _ (do ret (<-j5 [Value.builtin "object.__class__"] (call (.builtin "getset_descriptor.__get__") [.builtin "object.__class__",.ref a,.ref C]))) _ _ _;refine aq (iI (zz (qL n λr f z=>?_)));obtain⟨rfl,rfl⟩:=z;exact aE j
theorem LU(X:K.In h)(k:oR K C)(I:wf h a o C af)(q:Q (.ref C) ⟨h,g,d,t,c⟩):ar (aw b w) A (getAttrBy (.ref a) (.str "__class__" j) ak) Q E ⟨h,g,d,t,c⟩:=by
 have n:=I.type (M:=aw b w);have m:=PySem.W.looks_findIn (M:=aw b w) X k.ga;have f:=PySem.W.looks_findIn (M:=aw b w) X k.gt;have p:(Value.builtin "BaseException.__getattribute__" == Value.builtin "object.__getattribute__")=ak:=by rfl
 have i:(onTheHeap (Value.ref C)&&Value.builtin "BaseException.__getattribute__" == Value.builtin "object.__getattribute__")=ak:=by rfl
 unfold getAttrBy;refine iI (aq (n.at (aq (m.at ?_))));dsimp only;rw[i];rw[if_neg (by decide)];have f3:=F.attr_ValueError.ga.bind (.ref a);have l:(ak&&onTheHeap (Value.builtin "BaseException.__getattribute__"))=ak:=rfl
 repeat (any_goals (first|assumption|with_reducible refine f.at ?_|with_reducible refine aq (f.at ?_)|wp_step))
 refine codeAny_call_builtin F.attr_ValueError.ga.plain F.entry_bexc_ga (Tk X k I (Rz X k I ?_))
 repeat (any_goals (first|assumption|wp_step))
theorem K5(X:K.In h)(k:oR K C)(I:wf h a o C af)(f:Q (aa (.ref C)) ⟨h,g,d,t+1,c⟩):ar (aw b w) A (getAttr? (.ref a) "__class__") Q E ⟨h,g,d,t,c⟩:=by
 unfold getAttr? getAttrBy?
 repeat (any_goals (first|assumption|with_reducible apply LU X k I|wp_step))
theorem N3(k:oR K C):PySem.W.KitX K (.ref a) (.ref C) (λh=>∃o,wf h a o C af) where
 ty:=λ_ _ _ ⟨o,I⟩=>I.type
 it:=λ_ _ X _=>by
  obtain⟨x,f⟩:=C6.mp k.cs;unfold DB at f;split at f
  .rename_i y v m i l;intro J G H D r q;unfold isType loadHead;exact aq (wpAny_loadPart (r _ _ (X _ _ l)) (aE q))
  trivial
 ne:=λh p F u n B X j=>by
  obtain⟨x,f⟩:=C6.mp k.cs;refine DC.mpr λq=>?_;have e:C=p:=Value.ref.inj (beq_iff_eq.mp q);subst e;unfold DB at f;split at f
  .rename_i y v m i l;have z:=(X _ _ l).symm.trans j;cases z
  trivial
 ca:=λ{_ _ _ _ _ s} X I q=>by obtain⟨o,I⟩:=I;obtain⟨h,g,d,t,c⟩:=s;exact K5 X k I q
end
def yK:V->Option ai
 |.ref D=>aa (.ref D)
 |.ty T=>aa (.type T)
 |_=>af
theorem Mg(e:yK v=aa u)(r:RelV v a):a=u:=by
 cases v <;> simp[yK]at e <;> subst e <;> exact r
section
variable{X:Cx}{K:ax}
def Ju(K:ax):List V->Hp->VK->Prop:=λxs H Q=>∃a C D u b,xs=[.ref a,D]/\H a=aa (jy a (.ref C))/\oR K C/\yK D=aa u/\iJ K (.ref C) u=aa b/\Q (.bl b) H
theorem VG:eF X (.builtin "isinstance") (Ju X.K):=by
 intro A s w H xs y Q I r h;obtain⟨a,C,D,u,b,rfl,j,k,i,e,q⟩:=h;cases r with
 |cons g f=>
  cases f with
  |cons d c=>
   cases c;cases g;have v:=Mg i d;subst v;obtain⟨⟨o,x,p,n,m,l⟩,_,_⟩:=I.hok a _ j;refine lM (N3 (a:=a) k) I.kIn ⟨o,p,n,?_,?_⟩ e (by simp) λz=>⟨.bl b,H,I.tok _,rfl,q⟩
   .unfold PySem.W.notCls;rw[m]
   .rw[l];simp
def jS(tab:ai->V->Option Bool):List PV->Option PV
 |[.exc c,.raw D]=>(tab c D).map .bl
 |xs=>kt xs
def GL(K:ax):List V->Hp->VK->Prop:=λxs H Q=>Ju K xs H Q\/∃x t T b,xs=[x,.ty T]/\jf K H x (.type t)/\iJ K (.type t) (.type T)=aa b/\Q (.bl b) H
theorem kW:eF X (.builtin "isinstance") (GL X.K):=VG.or rR
noncomputable def Bb(K:ax)(tab:ai->V->Option Bool):Prop:=∀c D b,tab c D=aa b->∃C u,c=.ref C/\oR K C/\yK D=aa u/\iJ K (.ref C) u=aa b
theorem kQ(j:Bb K tab):PL K (GL K) (jS tab):=λF H xs g Q pv d e q=>by
 unfold jS at e;split at e
 .rename_i c D;cases f:tab c D with
  |none=>simp_all
  |some b=>
   rw[f]at e;cases e;obtain⟨C,u,rfl,k,i,l⟩:=j c D b f;obtain⟨v,p,rfl,⟨a,rfl,m⟩,o⟩:=d;obtain⟨h,rfl,n⟩:=gB o;rw[show h=D from n];exact .inl ⟨a,C,D,u,b,rfl,m,k,i,l,q _ F H (Al.refl ..) rfl⟩
 .exact .inr (sF F H _ g Q pv d e q)
theorem ly(a:X.mg x=aa (.ref D))(b:Gl X x^0)(c:av x^1):DE X E (.Name x d) (dC (.raw (.ref D))):=λF S g f H Q r q=>bY (BX (v:=.ref D) b a rfl c) (q F S H r (Grow.refl ..) _ rfl)
variable{de:ad PV}{d:Pos}{y:Str}
def mi(xs:List PV)(y:PV):Option PV:=(dA y).bind λv=>(iC xs).map λa=>.int (a.countP λz=>eP z v)
def Cd(xs:List PV)(y:PV):Option PV:=(dA y).bind λv=>(iC xs).bind λa=>(a.findIdx? λz=>eP z v).map λj=>.int j
def sG(f:List PV->PV->Option PV)(i:Nat)(de:ad PV):ad PV:=λb=>(aR (eW b i) b).bind λ_ b=>(de b).bind λk a=>(aR (eW a i) a).bind λxs a=>aR (f xs k) a
theorem NJ(i:Nat){c:Pos}(N:DE X E e de)(T:(X.N[i]?=aa y)^0)(L:d8 X.env.scope y^2)(O:av y^1)(bt:a4 y^1) (h1:(nQ (.Name y p) "count" X.env (a8 (.Name y p) X.env)=a8 (.Name y p) X.env)^0)(Z:(((dr b (aX [e] X.env)).all (λx=>!x.1)&&(qP b (qQ [] X.env)).all (λx=>x.1.isSome)&&decide ([e].length+([]:List jF).length+(if([]:List jF).isEmpty then 0 else 1)<30))=ah)^0)(Y:((c.endLine == b.line)=ah)^0) (u:(aX [e] X.env=(ak,a8 e X.env)::aX [] X.env)^0) (W:((dr b (aX [] X.env)).any (·.1)=ak)^0):DE X E (.Call (.Attribute (.Name y p) "count" c) [e] [] b) (sG mi i de):=λF S o A H Q r h=>by
 unfold sG at h;cases n:eW o i with
 |none=>rw[n]at h;exact h.elim
 |some B=>
  rw[n]at h;simp only[bT,R.bind_ok]at h;obtain⟨a,C,z,P,_,_,_⟩:=r.lstAt (jC n);refine bY (vU Dz PySem.F.slot_list_count PySem.F.type_list_count NY (eY T L O bt) (i7 bJ jz u) h1 Z Y u W) ⟨.ref a,z,.inl ⟨rfl,_,cA.of P⟩,?_⟩;refine N F S o A H _ r ((Ok.bind h).imp λk j F1 S1 H1 s g1 q v G=>?_);cases m:eW j i with
  |none=>rw[m]at q;trivial
  |some xs=>
   rw[m]at q;simp only[bT,R.bind_ok]at q;obtain⟨a',D,g,J,I,_,_⟩:=s.lstAt (jC m);rw[z]at g;cases g;unfold mi at q;cases f:dA k with
   |none=>rw[f]at q;trivial
   |some w=>
    cases l:iC xs with
    |none=>rw[f,l]at q;trivial
    |some ws=>rw[f,l]at q;obtain⟨rfl,M⟩:=uP I l;rw[jR G f];exact⟨a,D,w,rfl,rfl,J,rJ f,M,q F1 S1 H1 s (Grow.refl ..) _ rfl⟩
theorem L9(i:Nat){c:Pos}(he:DE X E e de)(hN:(X.N[i]?=aa y)^0)(Y:d8 X.env.scope y^2)(hd:av y^1)(bt:a4 y^1) (h1:(nQ (.Name y p) "index" X.env (a8 (.Name y p) X.env)=a8 (.Name y p) X.env)^0)(h2:(((dr b (aX [e] X.env)).all (λx=>!x.1)&&(qP b (qQ [] X.env)).all (λx=>x.1.isSome)&&decide ([e].length+([]:List jF).length+(if([]:List jF).isEmpty then 0 else 1)<30))=ah)^0)(h3:((c.endLine == b.line)=ah)^0) (G:(aX [e] X.env=(ak,a8 e X.env)::aX [] X.env)^0) (h5:((dr b (aX [] X.env)).any (·.1)=ak)^0):DE X E (.Call (.Attribute (.Name y p) "index" c) [e] [] b) (sG Cd i de):=λF S A J H Q B h=>by
 unfold sG at h;cases u:eW A i with
 |none=>rw[u]at h;exact h.elim
 |some L=>
  rw[u]at h;simp only[bT,R.bind_ok]at h;obtain⟨a,N,I,ha,_,_,_⟩:=B.lstAt (jC u);refine bY (vU Dz PySem.F.slot_list_index PySem.F.type_list_index Rm (eY hN Y hd bt) (i7 bJ jz G) h1 h2 h3 G h5) ⟨.ref a,I,.inl ⟨rfl,_,cA.of ha⟩,?_⟩;refine he F S A J H _ B ((Ok.bind h).imp λk r F1 S1 H1 C g1 q v P=>?_);cases s:eW r i with
  |none=>rw[s]at q;trivial
  |some xs=>
   rw[s]at q;simp only[bT,R.bind_ok]at q;obtain⟨a',O,l,W,T,_,_⟩:=C.lstAt (jC s);rw[I]at l;cases l;unfold Cd at q;cases f:dA k with
   |none=>rw[f]at q;trivial
   |some w=>
    cases o:iC xs with
    |none=>rw[f,o]at q;trivial
    |some M=>
     cases n:M.findIdx? λz=>eP z w with
     |none=>rw[f,o]at q;simp only[gp]at q;rw[n]at q;trivial
     |some j=>
      rw[f,o]at q;simp only[gp]at q;rw[n]at q;obtain⟨rfl,hf⟩:=uP T o;rw[jR P f];rw[Vf]at n;obtain⟨D,h6,h7⟩:=n;refine⟨a,O,w,j,rfl,rfl,W,rJ f,hf,D,λz g=>?_,λm z Z g=>?_,q F1 S1 H1 C (Grow.refl ..) _ rfl⟩
      .rw[eD D]at g;cases g;trivial
      .have:=h7 m Z;rw[eD ∅]at g;cases g;simpa using this
end
def gR(g:Tx):List Tx->Tx
 |[]=>[]
 |[x]=>x
 |x::y::r=>x++g++gR g (y::r)
theorem EN(a b:Tx):tS (a++b)=tS a++tS b:=by apply Str.ext';simp[tS,Str.cps_append]
theorem Hl(g:Tx):∀a:List Tx,Str.join (tS g) (a.map tS)=tS (gR g a)
 |[]=>rfl
 |[x]=>rfl
 |x::y::r=>by show tS x++tS g++Str.join (tS g) ((y::r).map tS)=tS (x++g++gR g (y::r));rw[Hl g (y::r),EN,EN]
theorem HK(g:Tx)(a:List Tx):Txt.join (tS g) (a.map tS)=tS (gR g a):=by unfold Txt.join;rw[StrLaws.glued_eq_join,Hl]
theorem EO(c:Nat):∀l:List Nat,PyProof.Rows.cnt c l=(l.count c:Nat)
 |[]=>rfl
 |a::l=>by
  rw[PyProof.Rows.cnt_cons,EO c l,List.count_cons];by_cases h:a=c
  .simp[h];lia
  .simp[h]
theorem NF(c:Nat)(x:Tx):Txt.count (tS x) (tS [c])=(x.count c:Nat):=by have:=PyProof.Rows.count_cnt (tS x) c;rw[lz,EO]at this;trivial
theorem Mn(c:Nat)(x:Tx):xC [c] x=x.contains c:=by unfold xC;have:=StrLaws.found_one (tS x) c;rw[lz]at this;rw[show(tS [c])=⟨#[c]⟩from rfl,this];simp
theorem CG:∀{b:List Tx}{a:List ai},bC (cm b) a->cL a (b.map tS)
 |[],_,r=>by cases r;exact .nil
 |x::b,_,r=>by
  cases r with
  |cons d c=>obtain⟨t,rfl⟩:=d;exact .cons _ t (CG c)
section
variable{X:Cx}{K:ax}
def iF(g:Tx)(ls:List Tx):Nat:=(ls.map o7).sum+ls.length*g.length
theorem G4(g:Tx):∀a,(gR g a).length<=iF g a
 |[]=>jG _
 |[x]=>by simp[gR,iF]
 |x::y::r=>by have h:=G4 g (y::r);show(x++g++gR g (y::r)).length<=_;generalize gR g (y::r)=z at h;unfold iF at *;simp only[jk,cp,jJ,fz,DD]at *;lia
def A8(K:ax):V->List V->Hp->VK->Prop:=λx xs H Q=>∃g p a,x=tV g/\xs=[.ref p]/\(cA K H p (cm a)\/cn K H p (cm a))/\iF g a<=bB/\Q (tV (gR g a)) H
theorem FK:v_ X "str.join" (A8 X.K):=by
 intro z s w H x xs v y Q I l n h;obtain⟨g,p,a,rfl,rfl,c,r,q⟩:=h;obtain⟨t,rfl⟩:=l;obtain⟨u,rfl,m⟩:=vals1 n;cases m;have b:((a.map tS).map (·.length)).sum+(a.map tS).length*(tS g).length<=16777216:=by
  have e:((a.map tS).map (·.length))=a.map o7:=by rw[cR];rfl
  rw[e,cG,mf];unfold iF bB at r;lia
 rcases c with c|c
 .obtain⟨j,f,i,o⟩:=I.list c;exact join_list i.isList (by simpa using CG f) b λd k=>⟨tV (gR g a),H,I.tok _,(by rw[HK];exact⟨d,rfl⟩),q⟩
 .obtain⟨j,f,i,o⟩:=I.tuple c;exact join_tuple i (by simpa using CG f) b λd k=>⟨tV (gR g a),H,I.tok _,(by rw[HK];exact⟨d,rfl⟩),q⟩
def FT:V->List V->Hp->VK->Prop:=λx xs H Q=>∃y c,x=tV y/\xs=[tV [c]]/\Q (.int (y.count c:Nat)) H
theorem Rb:v_ X "str.count" FT:=by intro i s d H x xs v f Q I a b h;obtain⟨y,c,rfl,rfl,q⟩:=h;obtain⟨t,rfl⟩:=a;obtain⟨u,rfl,g,rfl⟩:=vals1 b;exact SC.count ⟨.int _,H,I.tok _,⟨_,by rw[NF]⟩,q⟩
def PM(K:ax)(r:V->List V->Hp->VK->Prop)(f:Tx->List PV->Option PV):Prop:=∀(F:ae->Prop) (H:Hp) (x:Tx) (xs:List PV) (b:List V) (Q:VK) (pv:PV),x.length<=bB->aZ K H F xs b->f x xs=aa pv->(∀w c a,Al F c H a->aN K a c pv w->Q w a)->r (tV x) b H Q
def yN:PV->Option Tx
 |.str x=>aa x
 |_=>af
def mh(f:Tx->List PV->Option PV)(d:ad PV)(B:ad (List PV)):ad PV:=λc=>(d c).bind λx a=>(aR (yN x) a).bind λy a=>(B a).bind λg b=>aR (f y g) b
variable{E:XK}{o e:aC}{A:List aC}{d:ad PV}{B:ad (List PV)}{i:Str}{m b:Pos}{C:String}{r:V->List V->Hp->VK->Prop}{f:Tx->List PV->Option PV}
theorem Bm(g:PySem.Slot "str" i C)(T:typeOf (.builtin C)=pure (.type "method_descriptor"))(hm:v_ X C r)(hp:PM X.K r f)(ho:DE X E o d)(ha:DA X E (e::A) B)(P:(nQ o i X.env (a8 o X.env)=a8 o X.env)^0)(I:(((dr b (aX (e::A) X.env)).all (λx=>!x.1)&&(qP b (qQ [] X.env)).all (λx=>x.1.isSome)&&decide ((e::A).length+([]:List jF).length+(if([]:List jF).isEmpty then 0 else 1)<30))=ah)^0)(M:((m.endLine == b.line)=ah)^0) (Z:(aX (e::A) X.env=(ak,a8 e X.env)::aX A X.env)^0) (Ee:((dr b (aX A X.env)).any (·.1)=ak)^0):DE X E (.Call (.Attribute o i m) (e::A) [] b) (mh f d B):=λF S z l H Q L h=>by
 refine bY (vU PySem.F.plainAttrs_str g T hm bJ i_ P I M Z Ee) (ho F S z l H _ L ((Ok.bind h).imp λx c u q s O g1 j v J=>?_));cases x <;> first|exact(show False from j).elim|skip
 rename_i y;obtain⟨rfl,Y⟩:=J;refine⟨rfl,?_⟩;have j:Ok X.K E l u q s ((B c).bind λD a=>aR (f y D) a) _:=j;refine ha u q c l s _ O ((Ok.bind j).imp λxs a F2 S2 H2 N g2 p G W=>?_);cases e:f y xs with
 |none=>rw[e]at p;trivial
 |some pv=>rw[e]at p;exact hp F2 H2 y xs G Q pv Y W e λw F' H' al n=>p F' S2 H' (N.al al) al.grow w n
def nh(g:Tx):List PV->Option PV
 |[.lst xs]=>(fS xs).bind λa=>if iF g a<=bB then aa (.str (gR g a))else af
 |[.tup xs]=>(fS xs).bind λa=>if iF g a<=bB then aa (.str (gR g a))else af
 |_=>af
theorem G6:PM K (A8 K) nh:=λF H g xs D Q pv G w e q=>by
 have l:∀(n:List PV) (p:ae) (c:List V),aZ K H F n c->(cA K H p c\/cn K H p c)->((fS n).bind λj=>if iF g j<=bB then aa (PV.str (gR g j))else af)=aa pv->A8 K (tV g) [.ref p] H Q:=λn p c h z e=>by
  cases s:fS n with
  |none=>rw[s]at e;cases e
  |some j=>
   rw[s,gp]at e;split at e
   .rename_i x;cases e;have y:=(VJ.mp (uE s ▸ h)).1;subst y;exact⟨g,p,j,rfl,rfl,z,x,q _ F H (Al.refl ..) ⟨rfl,cV (G4 g j) x⟩⟩
   trivial
 unfold nh at e;split at e
 .obtain⟨v,rfl,a,c,rfl,u,_,h⟩:=gB w;exact l _ a c h (.inl (.inl u)) e
 .obtain⟨v,rfl,a,c,rfl,u,h⟩:=gB w;exact l _ a c h (.inr (cn.of u)) e
 trivial
def xX(y:Tx):List PV->Option PV
 |[.str [c]]=>aa (.int (y.count c:Nat))
 |_=>af
theorem Sj:PM K FT xX:=λF H y xs g Q pv h a e q=>by
 unfold xX at e;split at e
 .rename_i c;cases e;obtain⟨v,rfl,rfl,_⟩:=gB a;exact⟨y,c,rfl,rfl,q _ F H (Al.refl ..) rfl⟩
 trivial
theorem SN(J:X.calm=ah):eF X (.type "list") (λxs H Q=>∃y:Tx,xs=[tV y]/\y.length<=bB/\∀l,H l=af->Q (.ref l) (upd H l (.lst (y.map sg)))):=by
 intro ag s σ H xs us Q I r h;obtain⟨y,rfl,F,q⟩:=h;obtain⟨u,rfl,t,rfl⟩:=vals1 r;have G:(tS y).cps.size=y.length:=by rfl
 refine PySem.call_list_str (I.ok.hd J) (tS y) t (hn:=by rw[G];exact cV F kP) λZ S a O Y hS T=>?_;refine⟨.ref s.heap.objs.size,_,I.laid (t':=S) Y (bn _) (show cc X.prog X.w _ Z _ (.lst (y.map sg))from⟨by rw[cG];exact cV F kP,a.toList,O,?_,by trivial⟩),rfl,q _ (I.hok.fresh (bn _))⟩;obtain⟨p,w⟩:=T;rw[G]at p;have N:∀j v,a.toList[j]?=aa v->SignAt (tS y) j v:=λj v e=>w j v (~~~e);have M:a.toList.length=y.length:=by trivial
 generalize a.toList=L at N M;have x:∀(g:Tx) (L:List ai) (n:Nat),L.length=g.length->(∀(j:Nat) (v:ai),L[j]?=aa v->∃t,∀c,g[j]?=aa c->v=Value.str (tS [c]) t)->bC (g.map sg) L:=by
  intro g
  induction g with
  |nil=>intro L n p _;have:L=[]:=Dh p;subst this;exact .nil
  |cons c g W=>
   intro L n p w;cases L with
   |nil=>trivial
   |cons v L=>obtain⟨t,e⟩:=w 0 v rfl;have e:=e c rfl;subst e;exact .cons ⟨t,rfl⟩ (W L (n+1) (~~~p) λj v e=>by obtain⟨t,z⟩:=w (j+1) v (by trivial);exact⟨t,λc J=>z c (by trivial)⟩)
 refine x y L 0 M λj v e=>?_;obtain⟨c,u,P,z2⟩:=N j v e;refine⟨u,λO D=>?_⟩;have e5:y[j]?=aa c:=by simpa[tS]using P
 rw[e5]at D;cases D;trivial
end
section
variable{K:ax}{F u:ae->Prop}{S B:Nat->ae->Prop}{ε A:aj}{y:St}{H H':Hp}{i:Nat}{po:PO}
theorem aL.hide(r:aL K F S ε y H)(i:Nat):aL K F (λj b=>S j b/\j≠i) (ε.set i .none) y H:=by
 have d:∀(j:Nat) (s:Slot),s≠.none->(ε.set i .none)[j]?=aa s->ε[j]?=aa s/\j≠i:=λj s m e=>by
  by_cases c:i=j
  .subst c;rw[List.getElem?_set]at e;simp only[if_true]at e;split at e
   .exact absurd (fe e).symm m
   trivial
  .rw[cK c]at e;exact⟨e,c0 c⟩
 refine⟨by rw[fZ];exact r.len,r.ex,λj pv e=>r.val j pv (d j _ (by simp) e).1,λj po e=>?_,λj b h=>?_,λj k b g f=>r.dist j k b g.1 f.1⟩
 .obtain⟨n,c⟩:=d j _ (by simp) e;obtain⟨a,g,f⟩:=r.own j po n;simp_all
 .obtain⟨⟨po,q⟩,l⟩:=r.foot j b h.1;exact⟨⟨po,by rw[cK (c0 h.2)];exact q⟩,l⟩
theorem _root_.Pu.Grow.wide(g:Grow O a F u H H')(h:∀b,O b->P b):Grow P a F u H H' :=⟨g.fro,λb o q n=>g.keep b o q λz=>n (h b z),g.there,λb z=>(g.fnew b z).imp id λw=>w.imp id (h b),λb z=>(g.onew b z).imp (h b) id⟩
theorem aL.unhide(r:aL K F S ε y H)(e:ε[i]?=aa (.own po))(m:aL K u B A y H')(g:Grow (U λj b=>S j b/\j≠i) (U B) F u H H')(M:A[i]?=aa .none):∃v,v i=S i/\aL K u v (A.set i (.own po)) y H'/\Grow (U S) (U v) F u H H'/\(∀b o,S i b->H b=aa o->H' b=aa o):=by
 have G:i<A.length:=(cJ.mp M).1;have D:∀b,S i b->¬U (λj b=>S j b/\j≠i) b:=λb h ⟨j,z,c⟩=>c (r.dist j i b z h);have E:∀b o,S i b->H b=aa o->H' b=aa o:=λb o h q=>g.keep b o q (D b h);have J:∀b,B i b->False:=λb h=>by obtain⟨⟨po,q⟩,_⟩:=m.foot i b h;lia
 have l:Fit (U λj b=>S j b/\j≠i) F H:=λb ⟨j,z,_⟩=>(r.foot j b z).2;have s:∀b,S i b->¬u b/\¬U B b:=λb h=>by
  obtain⟨_,d,o,C,_⟩:=r.foot i b h;refine⟨λz=>?_,λz=>?_⟩
  .rcases g.fnew b z with w|w|w
   .trivial
   .rw[C]at w;cases w
   .exact D b h w
  .rcases g.onew b z with w|w
   .exact D b h w
   .rw[C]at w;cases w
 refine⟨λj b=>if j=i then S i b else B j b,by simp,⟨by rw[fZ];exact m.len,m.ex,λj pv q=>?_,λj p q=>?_,λj b h=>?_,λj k b f d=>?_⟩,⟨g.fro,λb o q n=>g.keep b o q λ⟨j,z⟩=>n ⟨j,z.1⟩,g.there,λb z=>(g.fnew b z).imp id λw=>w.imp id λ⟨j,w⟩=>⟨j,w.1⟩,λb ⟨j,z⟩=>?_⟩,E⟩
 .have c:i≠j:=by rintro rfl;rw[eB G]at q;cases q
  rw[cK c]at q;exact m.val j pv q
 .by_cases c:i=j
  .subst c;rw[eB G]at q;cases q;obtain⟨a,f,d⟩:=r.own i _ e;refine⟨a,f,?_⟩;simp only[if_true];exact d.mono (λ_ _ z=>z.grow g l) (λ_ _ z=>z.grow g l) λb o z w=>E b o z w
  .rw[cK c]at q;obtain⟨a,f,d⟩:=m.own j p q;exact⟨a,f,by simp only[if_neg (c0 c)];trivial⟩
 .by_cases c:j=i
  .subst c;simp only[if_true]at h;obtain⟨_,d,o,C,L⟩:=r.foot j b h;exact⟨⟨po,eB G⟩,(s b h).1,o,E b o h C,L⟩
  .simp only[if_neg c]at h;obtain⟨⟨p,q⟩,I⟩:=m.foot j b h;exact⟨⟨p,by rw[cK (c0 c)];exact q⟩,I⟩
 .by_cases c:j=i
  .by_cases x:k=i
   .rw[c,x]
   .simp only[if_pos c]at f;simp only[if_neg x]at d;exact absurd ⟨k,d⟩ (s b f).2
  .by_cases x:k=i
   .simp only[if_neg c]at f;simp only[if_pos x]at d;exact absurd ⟨j,f⟩ (s b d).2
   .simp only[if_neg c]at f;simp only[if_neg x]at d;exact m.dist j k b f d
 .by_cases c:j=i
  .simp only[if_pos c]at z;exact .inl ⟨i,z⟩
  .simp only[if_neg c]at z;exact(g.onew b ⟨j,z⟩).imp (λ⟨k,w⟩=>⟨k,w.1⟩) id
variable{a b:ae}{m:List (List PV)}{f:List ae}{j:Nat}{C:List PV}{l:List V}
theorem gJ.len(h:gJ K H F m f):f.length=m.length:=by
 unfold gJ at h
 induction h with
 |nil=>rfl
 |cons _ _ c=>simp[c]
theorem gJ.get(h:gJ K H F m f)(e:m[j]?=aa C):∃b l,f[j]?=aa b/\H b=aa (.lst l)/\aZ K H F C l:=by
 unfold gJ at h
 induction h generalizing j with
 |nil=>trivial
 |cons r _ c=>
  cases j with
  |zero=>simp at e;subst e;obtain⟨l,g,d⟩:=r;exact⟨_,l,rfl,g,d⟩
  |succ j=>obtain⟨b,l,q⟩:=c (j:=j) (by trivial);exact⟨b,l,by trivial⟩
theorem gJ.set(h:gJ K H F m f)(z:f.Nodup)(e:f[j]?=aa b)(s:∀x v,aZ K H F x v->aZ K H' F x v)(p:∀c o,c∈f->c≠b->H c=aa o->H' c=aa o)(G:∃g,H' b=aa (.lst g)/\aZ K H' F C g):gJ K H' F (m.set j C) f:=by
 unfold gJ at h ⊢
 induction h generalizing j with
 |nil=>exact .nil
 |cons r E D=>
  rename_i x c m f;have n:=kB.mp z;cases j with
  |zero=>simp at e;subst e;refine .cons G ?_;exact gJ.mono (K:=K) s (λd o q=>p d o (by simp[q]) (by lia)) E
  |succ j=>
   have w:f[j]?=aa b:=by trivial
   have L:b∈f:=j7 w;obtain⟨l,J,I⟩:=r;exact .cons ⟨l,p c _ (by simp) (by lia) J,s _ _ I⟩ (D n.2 w λd o q=>p d o (by simp[q]))
theorem aL.updL(r:aL K F S ε y H)(e:ε[i]?=aa (.own (.lls m)))(X:y[i]?=aa (aa (.ref a)))(Z:H a=aa (.lst (f.map .ref)))(T:gJ K H F m f)(L:f.Nodup)(P:a∉f)(N:∀b,S i b↔b=a\/b∈f)(M:f[j]?=aa b)(h:aZ K H F C l):aL K F S (ε.set i (.own (.lls (m.set j C)))) y (L2.upd H b (.lst l))/\Grow (U S) (U S) F F H (L2.upd H b (.lst l)):=by
 have Q:b∈f:=j7 M;have D:S i b:=(N b).mpr (.inr Q);have W:a≠b:=by lia
 have G:i<ε.length:=(cJ.mp e).1;have g:Grow (U S) (U S) F F H (L2.upd H b (.lst l)):=⟨λ_ z=>z,λc o q n=>by rw[a6 (by rintro rfl;exact n ⟨i,D⟩)];exact q,λc o q=>by
  by_cases s:c=b
  .subst s;exact⟨_,upd_same⟩
  .exact⟨o,by rw[a6 s];exact q⟩,λ_ z=>.inl z,λ_ z=>.inl z⟩
 refine⟨⟨by rw[fZ];exact r.len,λb z=>let ⟨o,q⟩:=r.ex b z;g.there b o q,λk pv q=>?_,λk po q=>?_,λk c z=>?_,r.dist⟩,g⟩
 .have p:i≠k:=by rintro rfl;rw[eB G]at q;cases q
  rw[cK p]at q;obtain⟨v,E,x⟩:=r.val k pv q;exact⟨v,E,x.grow g r.fit⟩
 .by_cases p:i=k
  .subst p;rw[eB G]at q;cases q;exact⟨a,X,f,by rw[a6 W];trivial,T.set L M (λ_ _ z=>z.grow g r.fit) (λc o _ s w=>by rw[a6 s];exact w) ⟨l,upd_same,h.grow g r.fit⟩,L,P,N⟩
  .rw[cK p]at q;obtain⟨c,E,x⟩:=r.own k po q;refine⟨c,E,x.mono (λ_ _ z=>z.grow g r.fit) (λ_ _ z=>z.grow g r.fit) λd o z w=>?_⟩;rw[a6 (by rintro rfl;exact p (r.dist i k d D z))];exact w
 .obtain⟨⟨po,E⟩,x,o,Y,O⟩:=r.foot k c z;have I:∃J,(L2.upd H b (.lst l)) c=aa J/\eh J:=by
   by_cases s:c=b
   .subst s;exact⟨_,upd_same,trivial⟩
   .exact⟨o,by rw[a6 s];trivial,O⟩
  by_cases p:i=k
  .subst p;exact⟨⟨_,eB G⟩,x,I⟩
  .exact⟨⟨po,by rw[cK p];trivial⟩,x,I⟩
theorem gJ.frz(h:gJ K H F m f)(c:∀b∈f,F b):aZ K H F (m.map .lst) (f.map .ref):=by
 unfold gJ at h
 induction h with
 |nil=>rfl
 |cons r _ d=>obtain⟨l,o,n⟩:=r;exact⟨_,_,rfl,⟨_,l,rfl,.inl o,c _ (by simp),n⟩,d λb g=>c b (by simp[g])⟩
theorem aL.frzL(r:aL K F S ε y H)(e:ε[i]?=aa (.own (.lls m))):∃a u B,aL K u B (ε.set i (.val (.lst (m.map .lst)))) y H/\Grow (U S) (U B) F u H H/\y[i]?=aa (aa (.ref a))/\aN K H u (.lst (m.map .lst)) (.ref a):=by
 obtain⟨a,G,f,L,I,P,Q,E⟩:=r.own i _ e;have D:i<ε.length:=(cJ.mp e).1;have g:∀b,F b->F b\/S i b:=λb h=>.inl h;have mono:∀x v,aN K H F x v->aN K H (λb=>F b\/S i b) x v:=aN.mono g (λ_ _ _ q=>q) (λ_ _ q _=>q);have c:∀x v,aZ K H F x v->aZ K H (λb=>F b\/S i b) x v:=aZ.mono g (λ_ _ _ q=>q) (λ_ _ q _=>q);have s:aN K H (λb=>F b\/S i b) (.lst (m.map .lst)) (.ref a):=⟨a,_,rfl,.inl L,.inr ((E a).mpr (.inl rfl)),(I.mono c λ_ _ _ z=>z).frz λb J=>.inr ((E b).mpr (.inr J))⟩
 refine⟨a,λb=>F b\/S i b,λj b=>S j b/\j≠i,⟨by rw[fZ];exact r.len,λb h=>?_,λj pv q=>?_,λj po q=>?_,λj b h=>?_,λj k b N M=>r.dist j k b N.1 M.1⟩,?_,G,s⟩
 .rcases h with h|h
  .exact r.ex b h
  .obtain⟨_,_,o,q,_⟩:=r.foot i b h;exact⟨o,q⟩
 .by_cases d:i=j
  .subst d;rw[eB D]at q;cases q;exact⟨_,G,s⟩
  .rw[cK d]at q;obtain⟨v,p,n⟩:=r.val j pv q;exact⟨v,p,mono _ _ n⟩
 .by_cases d:i=j
  .subst d;rw[eB D]at q;cases q
  .rw[cK d]at q;obtain⟨v,p,n⟩:=r.own j po q;refine⟨v,p,?_⟩;have w:=n.mono (H':=H) mono c λ_ _ _ z=>z;have O:(λb=>S j b/\j≠i)=S j:=by funext b;simp[c0 d]
   rw[O];trivial
 .obtain⟨⟨po,p⟩,n,w⟩:=r.foot j b h.1;refine⟨⟨po,by rw[cK (c0 h.2)];trivial⟩,λz=>?_,w⟩;rcases z with z|z
  .trivial
  .exact h.2 (r.dist j i b h.1 z)
 .refine⟨λ_ h=>.inl h,λb o h _=>h,λb o h=>⟨o,h⟩,λb h=>?_,λb ⟨j,h⟩=>.inl ⟨j,h.1⟩⟩;rcases h with h|h
  .exact .inl h
  .exact .inr (.inr ⟨i,h⟩)
end
section
variable{X:Cx}{E:XK}{f:List Nat}{e b b1:aC}{de db d1:ad PV}{d:Pos}
noncomputable def kY(a:aj)(i:Nat):Option (List (List PV)):=match a[i]? with
 |some (.own (.lls c))=>aa c
 |_=>af
theorem vF(h:kY a i=aa c):a[i]?=aa (.own (.lls c)):=by
 unfold kY at h;split at h
 .cases h;trivial
 trivial
def za(i:Nat):ad PV:=λa=>(aR (kY a i) a).bind λc a=>.ok (.lst (c.map .lst)) (a.set i (.val (.lst (c.map .lst))))
theorem La(i:Nat)(o:(X.N[i]?=aa x)^0)(m:d8 X.env.scope x^2)(n:av x^1)(s:a4 x^1):DE X E (.Name x d) (za i):=λF S j w H Q r h=>by
 unfold za at h;cases c:kY j i with
 |none=>rw[c]at h;exact h.elim
 |some y=>rw[c]at h;obtain⟨a,v,u,l,g,q,p⟩:=r.frzL (vF c);exact bY (eY o m n s) ⟨_,q,h v u H l g _ p⟩
def uN(i:Nat):ad PV:=λa=>(aR (kY a i) a).bind λc a=>.ok (.int (c.length:Nat)) a
theorem Se(i:Nat)(n:X.mg "len"=af)(u:(X.N[i]?=aa y)^0)(v:d8 X.env.scope y^2)(q:av y^1) (z:a4 y^1) (o:Gl X "len"^0)(j:(aX [.Name y c] X.env=(ak,a8 (.Name y c) X.env)::aX [] X.env)^0) (x:((dr d (aX [] X.env)).any (·.1)=ak)^0):DE X E (.Call (.Name "len" p) [.Name y c] [] d) (uN i):=λF S l B H Q r h=>by
 unfold uN at h;cases g:kY l i with
 |none=>rw[g]at h;exact h.elim
 |some A=>rw[g]at h;obtain⟨a,w,I,s,m,C,D,G⟩:=r.own i _ (vF g);refine bY (mx iE o n rfl (i7 (eY u v q z) jz j) (by decide) (by rfl) j x) ⟨_,w,.ref a,A.length,rfl,.inl ⟨_,cA.of s,?_⟩,h F S H r (Grow.refl ..) _ rfl⟩;rw[cG,m.len]
def yW(i:Nat)(d1 db de:ad PV):ad aM:=λl=>(de l).bind λy g=>(aR (kY g i) g).bind λ_ g=>(d1 g).bind λn a=>(aR (kY a i) a).bind λh a=>(aR ((ja n).bind (ie h.length)) a).bind λj a=>
 (db (a.set i .none)).bind λm c=>match c[i]?,h[j]? with
  |some .none,aa xs=>(aR ((ja m).bind (ie xs.length)) c).bind λo c=>.ok .next (c.set i (.own (.lls (h.set j (xs.set o y)))))
  |_,_=>.no
theorem Jr{K:ax}{x:PV}{v:V}{k:Int}(h:aN K H F x v)(e:ja x=aa k):v=.int k:=by
 cases x <;> simp[ja]at e;subst e;exact h
theorem U3(i:Nat)(h1:DE X E b1 d1)(hb:DE X E b db)(he:DE X E e de)(hN:(X.N[i]?=aa x)^0)(hv:d8 X.env.scope x^2)(hd:av x^1)(bt:a4 x^1) (hpx:BL b1:=by exact λ_ _=>rfl) (ha:(∀v,mB (.Subscript (.Subscript (.Name x p) b1 m) b g) X.env v=(do
   let ov <-j5 [v] (a8 (.Subscript (.Name x p) b1 m) X.env)
   let iv <-j5 [v,ov] (a8 b X.env)
   standAt g
   j5 [v,ov,iv] (setItem ov iv v)
   release [v,ov,iv] []))^4) (hs:(C0 [.Subscript (.Subscript (.Name x p) b1 m) b g] e d.line X.env=pure ak)^0) (hw:(C1 [.Subscript (.Subscript (.Name x p) b1 m) b g] e X.env=pure af)^0)
  (ho:((qJ [.Subscript (.Subscript (.Name x p) b1 m) b g] X.env).map (·.2)=[mB (.Subscript (.Subscript (.Name x p) b1 m) b g) X.env])^0):DS X E f (.Assign [.Subscript (.Subscript (.Name x p) b1 m) b g] e d) (yW i d1 db de):=λF S ε s H D rl h=>by
 refine fQ (Bn bJ (Ex (Gx et (eY hN hv hd bt) bJ hpx) bJ IN ha) hs hw ho) (he F S ε s H _ rl (h.bindE.imp λy B F1 S1 H1 Q g1 q v rv=>?_));cases e0:kY B i with
 |none=>rw[e0]at q;trivial
 |some xss0=>
  rw[e0]at q;simp only[bT,R.bind_ok]at q;obtain⟨a,ea,_⟩:=Q.own i _ (vF e0);refine⟨.ref a,ea,h1 F1 S1 B s H1 _ Q (q.bindE.imp λk1 A F2 S2 H2 n g2 l u1 O=>?_)⟩;cases L:kY A i with
  |none=>rw[L]at l;trivial
  |some bV=>
   rw[L]at l;simp only[bT,R.bind_ok]at l;obtain⟨a',G,as,lj,W,nd,na,hS⟩:=n.own i _ (vF L);rw[ea]at G;cases G;cases r:(ja k1).bind (ie bV.length)with
   |none=>rw[r]at l;trivial
   |some j1=>
    rw[r]at l;simp only[bT,R.bind_ok]at l;cases e3:ja k1 with
    |none=>rw[e3]at r;trivial
    |some i1=>
     rw[e3,gp]at r;have hj1:=(AW r).2.1;obtain⟨xs,C⟩:∃xs,bV[j1]?=aa xs:=⟨_,eD hj1⟩
     obtain⟨c,vs,hc,gc,hr⟩:=W.get C;refine .inl ⟨a,_,i1,.ref c,rfl,Jr O e3,cA.of lj,?_,?_⟩
     .unfold fE;rw[cG,W.len,r,gp,dY,hc];rfl
     .have P:=n.hide i;refine hb F2 _ _ s H2 _ P ?_;cases e4:db (A.set i .none)with
      |no=>rw[e4]at l;trivial
      |er c ε'=>rw[e4]at l;exact λx F' S' H' r' g'=>l x F' S' s H' r' (g'.wide λb ⟨j,z⟩=>⟨j,z.1⟩) (ip.refl _ _)
      |ok k2 u=>
       rw[e4]at l;intro F3 S3 H3 r3 g3 u2 N;simp only[R.bind_ok]at l;rw[C]at l;cases J:u[i]? with
       |none=>rw[J]at l;trivial
       |some sl=>
        rw[J]at l;cases sl with
        |val _=>exact l.elim
        |own _=>trivial
        |none=>
         dsimp only at l;cases e6:ja k2 with
         |none=>rw[e6]at l;trivial
         |some i2=>
          rw[e6,gp]at l;cases e7:ie xs.length i2 with
          |none=>rw[e7]at l;trivial
          |some j2=>
           rw[e7]at l;simp only[bT,R.bind_ok]at l;obtain⟨S4,eS,r4,I,Y⟩:=n.unhide (vF L) r3 g3 J;have hi:i<u.length:=(cJ.mp J).1;have hS4:∀b,S4 i b↔b=a\/b∈as:=by rw[eS];trivial
           have hcS:S2 i c:=(hS c).mpr (.inr (j7 hc));have T:gJ X.K H3 F3 bV as:=W.mono (λ_ _ z=>z.grow I n.fit) λb o hb w=>Y b o ((hS b).mpr (.inr hb)) w;have ha4:=Y a _ ((hS a).mpr (.inl rfl)) lj;have Z:=hr.grow I n.fit;have M:=(rv.grow g2 Q.fit).grow I n.fit;obtain⟨r5,g5⟩:=r4.updL (i:=i) (eB hi) ea ha4 T nd na hS4 hc (Z.set M j2);rw[List.set_set]at r5;exact⟨c,vs,i2,j2,rfl,Jr N e6,Y c _ hcS gc,by rw[hr.len];trivial,l F3 S4 s _ r5 (I.trans g5) (ip.refl _ _)⟩
end
def pO(a:List Nat)(de:ad PO):List PV->List (List PV)->aj->R (List (List PV))
 |[],d,c=>.ok d c
 |x::xs,d,c=>(bM (c_ a de x c)).bind λy b=>match y with
  |.lst f=>pO a de xs (d++[f]) b
  |_=>.no
def yX(c:List Nat)(g:ad (List PV))(de:ad PO):ad PO:=λd=>(g d).bind λxs b=>(pO c de xs [] b).bind λf a=>.ok (.lls f) a
theorem Pn{K:ax}{S:Nat->ae->Prop}{w:aj}{g:St}{H:Hp}{J:Type}{f:List Nat}{d:ad J}{x:PV}{v:V}{C:J->aj->(ae->Prop)->(Nat->ae->Prop)->Hp->Prop}(r:aL K F S w g H) (Q:aN K H F x v) (h:Ok K E g F S H (bM (c_ f d x w)) C):∃N m,aL K F N m (aa v::eZ g f) H/\Ok K E0 (aa v::eZ g f) F N H (d m) (λa _ u Z s=>∃l q,aL K u q l g s/\Grow (U S) (U q) F u H s/\(∀b,U q b->U Z b\/U S b)/\C a l u q s):=by
 unfold c_ at h;cases G:dI w f with
 |none=>rw[G]at h;trivial
 |some i=>
  rw[G]at h;simp only[bT,R.bind_ok]at h;by_cases B:(cD i).Nodup
  .rw[if_pos B]at h;cases y:eQ w (.inl x::i)with
   |none=>rw[y]at h;trivial
   |some m=>
    rw[y]at h;simp only[bT,R.bind_ok]at h;obtain⟨A,Y,X⟩:=uF r G;have p:jQ K g F H (.inl x::i) (v::A):=⟨v,A,rfl,Q,Y⟩
    have o:aa v::eZ g f=(v::A).map aa:=by rw[X];rfl
    have n:(cD (.inl x::i)).Nodup:=B;refine⟨lx (.inl x::i) S,m,by rw[o];exact r.cal p y n,?_⟩;rw[o];cases D:d m with
    |no=>rw[D]at h;trivial
    |er c I=>
     rw[D]at h;unfold fN at h;dsimp only at h;by_cases j:gF (.inl x::i) I=ah
     .rw[if_pos j]at h;trivial
     .rw[if_neg j]at h;trivial
    |ok a I=>
     rw[D]at h;intro u q s T W;unfold fN at h;dsimp only at h;by_cases j:gF (.inl x::i) I=ah
     .rw[if_pos j]at h;obtain⟨O,L,M,P⟩:=r.called p y n T W (λ_ z=>z) (nu j);exact⟨_,O,L,M,P,h u O s L M⟩
     .rw[if_neg j]at h;trivial
  .rw[if_neg B]at h;trivial
theorem gJ.snoc{K:ax}{c:List (List PV)}{d:List ae}{xs:List PV}{b:ae}{a:List V}(h:gJ K H F c d)(g:H b=aa (.lst a))(f:aZ K H F xs a):gJ K H F (c++[xs]) (d++[b]):=zF h ⟨a,g,f⟩
section
variable{X:Cx}{E:XK}{n:dP}{x:Str}{N':List Str}{cap:List Nat}
theorem UO(hi:DI X E (.Name x px) O di)(he:∀C d f L G,DN (bz X n N' C d f L G) E0 elt de) (rl:aL X.K F S ε A H) (h:Ok X.K E A F S H (yX cap di de ε) (λpo _ F' S' u=>∀a Sa,fo X.K u F' po a Sa->(∀b,Sa b->H b=af/\¬F' b/\¬U S' b/\∃o,u b=aa o/\eh o)->Q (.ref a) u)):zq (lG X (.Name x px) O) (λA H Q=>∀C d f L G,nz (bz X n N' C d f L G) [] A H Q) (λA H Q=>∀C d f L G,gz (bz X n N' C d f L G) elt A H Q) cap A H Q:=by
 refine hi F S ε A H _ rl ((Ok.bind h).imp λxs ε1 Z S1 H1 r1 g1 h1 J vs RR rs hz hw keep l hl=>?_);have h1:=h1.bind;have hvl:vs.length=xs.length:=rs.len;have a0:Al Z Z H1 (upd H1 l (.lst [])):=Al.new0 hl;have nF1:¬Z l:=λz=>by obtain⟨o,q⟩:=r1.ex l z;lia
 have nS1:¬U S1 l:=λ⟨i,z⟩=>by obtain⟨_,_,o,q,_⟩:=r1.foot i l z;lia
 have hH:H l=af:=oG g1 hl;refine⟨λi=>Ul X.K A Z S1 H1 l xs.length H (λε' W=>Ok X.K E A Z S1 H1 (pO cap de (xs.drop i) W ε') (λys' B F2 S2 Y=>Ok X.K E A F2 S2 Y (R.ok (PO.lls ys') B) (λpo _ F' S' u=>∀a Sa,fo X.K u F' po a Sa->(∀b,Sa b->H b=af/\¬F' b/\¬U S' b/\∃o,u b=aa o/\eh o)->Q (.ref a) u))) i,⟨_,rfl,jG _,Z,S1,ε1,[],[],r1.al a0,a0.grow,rfl,upd_same,nF1,nS1,Paired.nil,tQ,(by simp),(by simp),bn _,h1⟩,?_⟩;rintro i m ys Y ⟨rfl,hi,F2,S2,B,W,M,r2,g2,rfl,el,nF2,nS2,p,nd,nl,r,hyl,q2⟩;have RH:=keep S2 F2 Y g2;by_cases bo:i<xs.length
 .obtain⟨v,hv⟩:∃v,vs[i]?=aa v:=⟨_,eD ⋯⟩
  obtain⟨go,yl⟩:=(hw Y RH i).1 v hv;refine .inr ⟨go,λv' u y=>⟨[aa v'],rfl,rfl,?_⟩⟩;obtain⟨e1,e2⟩:=yl v' u y;subst e1 e2;obtain⟨px',hx,rx⟩:=rs.back hv;have ed:xs.drop i=px'::xs.drop (i+1):=by rw[wC bo];congr 1;exact(cJ.mp hx).2
  rw[ed]at q2;have rx2:=rx.grow g2 r1.fit;intro C d f L G;have e0:=Fx (X:=bz X n N' C d f L G) (E:=E0);refine Bx.mk λag s I=>?_;refine Gn ag s _ u _ I ?_;simp only[if_true];have q5:Ok X.K E A Z S1 H1 ((bM (c_ cap de px' B)).bind λy B=>match y with
   |.lst ys=>pO cap de (xs.drop (i+1)) (W++[ys]) B
   |_=>.no) _:=q2
  obtain⟨Sc,sc,rc,okc⟩:=Pn r2 rx2 (Ok.bindB q5 g2);intro C d f L G;refine he C d f L G F2 Sc sc _ u _ rc (okc.imp λy _ F4 S4b H4 _ _ ⟨ε4,S4,r4,g4,u4,N⟩ a Sa ow fr=>?_);obtain⟨el4,nF4,nS4⟩:=g4.stay el nS2 nF2;cases y with
  |dK _=>exact N.elim
  |lls _=>exact N.elim
  |dL _=>exact N.elim
  |ins _ _=>exact N.elim
  |dT _=>exact N.elim
  |dN _=>exact N.elim
  |inl _ _ _ _=>exact N.elim
  |lst ys=>
   obtain⟨⟨us,hA,hR⟩,mZ⟩:=ow;obtain⟨f1,f2,f3,o,f4,f5⟩:=fr a ((mZ a).mpr rfl);have nS4a:¬U S4 a:=λz=>(u4 a z).elim f3 λ⟨j,w⟩=>by obtain⟨_,_,o',w1,_⟩:=r2.foot j a w;rw[f1]at w1;trivial
   have gP:a≠l:=by rintro rfl;rw[el]at f1;trivial
   have kpA:∀b o,b∈M->u b=aa o->H4 b=aa o/\¬F4 b/\¬U S4 b:=λb o g w=>g4.stay w (r b g).2.2 (r b g).2.1;have inA:∀b∈M,∃vs,u b=aa (.lst vs):=λb g=>by
    obtain⟨j,hj⟩:=Ka g;obtain⟨xs',Ep⟩:∃z,W[j]?=aa z:=by have:=(cJ.mp hj).1;rw[p.len]at this;exact⟨_,eD this⟩
    obtain⟨b',D,k1,k2,_⟩:=p.get Ep;rw[hj]at k1;cases k1;exact⟨D,k2⟩
   have T:gJ X.K H4 F4 W M:=p.mono (λ_ _ z=>z.grow g4 r2.fit) λb o g w=>(kpA b o g w).1;have haas:a∉M:=λz=>by obtain⟨D,w⟩:=inA a z;rw[f1]at w;cases w
   obtain⟨gl,P,r5⟩:=r4.lay (o':=.lst (M.map .ref++[.ref a])) el4 trivial nF4 nS4;have g5:=(g2.trans g4).lay (o':=.lst (M.map .ref++[.ref a])) hl;have hHa:H a=af:=oG g1 (oG g2 f1);refine⟨el4,?_,_,nofun,rfl,bo,F4,S4,ε4,W++[ys],M++[a],r5,g5,by simp,upd_same,nF4,nS4,?_,?_,?_,?_,by simp;omega,N⟩
   .rw[cG];omega
   .exact gJ.snoc (T.mono (λ_ _ z=>z.grow gl P) λb o g w=>by rw[a6 (by rintro rfl;trivial)];exact w) (by rw[a6 gP];exact hA) (hR.grow gl P)
   .rw[zW];refine⟨nd,by simp,λb g c hc=>?_⟩;simp at hc;subst hc;rintro rfl;exact haas g
   .simp only[kA,kD,not_or];exact⟨nl,c0 gP⟩
   .intro b g;simp only[kA,kD]at g;rcases g with g|rfl
    .obtain⟨D,w⟩:=inA b g;exact⟨(r b g).1,(kpA b _ g w).2⟩
    .exact⟨hHa,f2,nS4a⟩
 .have e:i=xs.length:=∅
  subst e;refine .inl ⟨(hw Y RH _).2 hvl.symm,?_⟩;rw[zV]at q2;refine q2 F2 S2 Y r2 g2 F2 S2 Y r2 (Grow.refl ..) l (λb=>b=l\/b∈M) ⟨M,el,p,nd,nl,λb=>kE⟩ λb z=>?_;rcases z with rfl|g
  .exact⟨hH,nF2,nS2,_,el,trivial⟩
  .obtain⟨j,hj⟩:=Ka g;obtain⟨xs',Ep⟩:∃z,W[j]?=aa z:=by have:=(cJ.mp hj).1;rw[p.len]at this;simp_all
   obtain⟨b',D,k1,k2,_⟩:=p.get Ep;rw[hj]at k1;cases k1;exact⟨(r b g).1,(r b g).2.1,(r b g).2.2,_,k2,trivial⟩
variable{pin:List Nat}
theorem Rs(G:i∉pin)(M:aL X.K F S l d H)(h:gH X.K E pin d F S H (cQ i dn l) D):Ok X.K E d F S H (dn l) (λv _ m u g=>∀a s,fo X.K g m v a s->(∀b,s b->H b=af/\¬m b/\¬U u b/\∃o,g b=aa o/\eh o)->D.nx (d.set i (aa (.ref a))) g):=by
 unfold cQ at h;cases r:dn l with
 |no=>rw[r]at h;trivial
 |er c y=>rw[r]at h;exact λx m u g B I=>h x m u d g B I (ip.refl _ _)
 |ok v p=>
  rw[r]at h;simp only[R.bind_ok]at h;intro L N J A f a s C w;by_cases q:i<p.length
  .rw[if_pos q]at h;refine h L _ _ J (A.setOwn q C λb z=>(w b z).2) ⟨f.fro,f.keep,f.there,f.fnew,λb ⟨j,z⟩=>?_⟩ (ip.set G);rcases z with z|⟨_,z⟩
   .exact f.onew b ⟨j,z.1⟩
   .exact .inr (w b z).1
  .rw[if_neg q]at h;trivial
theorem Fs(Q:i∉pin)(rl:aL X.K F S m f H)(h:gH X.K E pin f F S H (bw i (dF dn) m) D):Ok X.K E f F S H (dn m) (λr _ q u l=>∀a d,fo X.K l q r a d->(∀b,d b->H b=af/\¬q b/\¬U u b/\∃o,l b=aa o/\eh o)->D.nx (f.set i (aa (.ref a))) l):=by
 unfold bw dF at h;cases s:dn m with
 |no=>rw[s]at h;trivial
 |er c I=>rw[s]at h;exact λx q u l N g'=>h x q u f l N g' (ip.refl _ _)
 |ok r G=>
  rw[s]at h;intro B A p M j a d O v;cases r with
  |dK g=>exact h.elim
  |lls bV=>exact h.elim
  |dL bV=>exact h.elim
  |ins C fs=>exact h.elim
  |dT g=>exact h.elim
  |dN g=>exact h.elim
  |inl C fs y xs=>exact h.elim
  |lst xs=>
   have Y:∀b,d b->¬U A b/\∃o,p b=aa o:=λb z=>let ⟨_,_,x3,o,x4,_⟩:=v b z;⟨x3,o,x4⟩
   obtain⟨⟨J,T,P⟩,W⟩:=O;have Z:Grow (U S) (U A) F (λb=>B b\/d b) H p:=⟨λb z=>.inl (j.fro b z),j.keep,j.there,λb z=>z.elim (j.fnew b) λw=>.inr (.inl (v b w).1),j.onew⟩
   have L:aN X.K p (λb=>B b\/d b) (.lst xs) (.ref a):=⟨a,J,rfl,.inl T,.inr ((W a).mpr rfl),aZ.mono (λ_ z=>.inl z) (λ_ _ _ z=>z) (λ_ _ z _=>z) _ _ P⟩
   exact h _ _ _ p ((M.more Y).set L) (Z.trans (Grow.less i)) (ip.set Q)
section
variable{b a:aC}{y:Str}{g j d c:Pos}{l:ad (List PV)}{m:ad PO}
theorem ES(i:Nat)(W:X.N.Nodup)(B:iu X n x N' cap)(T:X.calm=ah)(N:DI X E (.Name x g) a l)(J:∀C o p r q,DF (bz X n N' C o p r q) E0 f dt) (P:∀C o p r q,DE (bz X n N' C o p r q) E0 b de)(M:(i∉pin)^1) (A:(X.N[i]?=aa y)^0) (G:Loc X.env.scope y^6) (z:(jg (.ListComp b [⟨.Name x g,a,f,0⟩] n d) (aa (.Name y j)) c.line X.env=pure ah)^0)(O:az X y^3) (L:(∀x,lL a X.env x=pure x)^4):DS X E pin (.Assign [.Name y j] (.ListComp b [⟨.Name x g,a,f,0⟩] n d) c) (bw i (dF (bD cap l dt de))):=λF S Y u H D w h=>fQ (IL (wi:=lG X (.Name x g) a) (ts:=λu H Q=>∀C o p r q,nz (bz X n N' C o p r q) f u H Q) (te:=λu H Q=>∀C o p r q,gz (bz X n N' C o p r q) b u H Q) B T v8 (λC o p r q v s u H Q I h=>(h C o p r q).run v s I) (λC o p r q v s u H Q I h=>(h C o p r q).run v s I) W A G z O L) (GP N J P w (Fs M w h))
theorem QI(i:Nat)(T:X.N.Nodup)(B:iu X n x N' cap)(P:X.calm=ah)(M:DI X E (.Name x g) a l)(O:∀C o p r q,DN (bz X n N' C o p r q) E0 b m)(L:(i∉pin)^1) (A:(X.N[i]?=aa y)^0) (G:Loc X.env.scope y^6) (z:(jg (.ListComp b [⟨.Name x g,a,[],0⟩] n d) (aa (.Name y j)) c.line X.env=pure ah)^0)(N:az X y^3) (J:(∀x,lL a X.env x=pure x)^4):DS X E pin (.Assign [.Name y j] (.ListComp b [⟨.Name x g,a,[],0⟩] n d) c) (cQ i (yX cap l m)):=λF S W u H D w h=>fQ (IL (wi:=lG X (.Name x g) a) (ts:=λu H Q=>∀C o p r q,nz (bz X n N' C o p r q) [] u H Q) (te:=λu H Q=>∀C o p r q,gz (bz X n N' C o p r q) b u H Q) B P v8 (λC o p r q v s u H Q I h=>(h C o p r q).run v s I) (λC o p r q v s u H Q I h=>(h C o p r q).run v s I) T A G z N J) (UO M O w (Rs L w h))
end
def uI:List PV->Option PO
 |[.str y]=>aa (.lst (y.map λc=>.str [c]))
 |_=>af
theorem Q9{K:ax}:lp K (λxs H Q=>∃y:Tx,xs=[tV y]/\y.length<=bB/\∀l,H l=af->Q (.ref l) (upd H l (.lst (y.map sg)))) uI:=λF H xs f Q g d b e q=>by
 unfold uI at e;split at e
 .cases e;obtain⟨v,rfl,rfl,c⟩:=gB b;exact⟨_,rfl,c,λl a=>q l F _ _ (Al.new0 a) (vc a (A_ _)) (vp a d trivial)⟩
 trivial
end
def gT(a:List Nat):Nat->aj->Bool
 |_,[]=>ah
 |i,.own c::b=>a.contains i&&gf c&&gT a (i+1) b
 |i,_::b=>gT a (i+1) b
theorem r9:∀{b:aj}{k:Nat},gT c k b=ah->∀(i:Nat) a,b[i]?=aa (.own a)->k+i∈c/\gf a=ah
 |[],_,_,i,a,e=>by trivial
 |.own q::b,k,h,0,a,e=>by simp only[List.getElem?_cons_zero,Option.some.injEq,Slot.own.injEq]at e;subst e;simp only[gT,g9]at h;exact⟨~~~h.1.1,h.1.2⟩
 |.own q::b,k,h,i+1,a,e=>by simp only[gT,g9]at h;have:=r9 (k:=k+1) h.2 i a (by trivial);lia
 |.val q::b,k,h,0,a,e=>by simp at e
 |.none::b,k,h,0,a,e=>by simp at e
 |.val q::b,k,h,i+1,a,e=>by have:=r9 (k:=k+1) (by trivial) i a (by trivial);lia
 |.none::b,k,h,i+1,a,e=>by have:=r9 (k:=k+1) (by trivial) i a (by trivial);lia
noncomputable def bI(len:Nat)(b:List Nat)(g:ad Slot):ad Slot:=λa=>if a.length=len/\gT b 0 a=ah then g a else .no
theorem MY{K:ax}{p:Str->Option ai}{g:aB}{x:Str}{b:bf}{N c:List Str}{k n:Nat}{d:ad aM}{a:List Nat}(D:cB K p x b)(G:cg N c (bp b))(y:N.length=c.length+n)(z:∀(kV q v:ai) (F:Option ae) (m C:ai) (o:List ai),o.length=c.length->gn (iK x x (jV b) (fW b) (bp b) .none kV q v F m C) ⟨o,[]⟩=pure (c.zip o))(B:∀(f:ae) (m:ai) (A:aV) (l:List Env) (s:ao) (H:Hp) (E:XK),fP k (A.deeper (jj x (bp b) s.heap.objs.size f m))->gw (iZ r P w K p g N x (bp b) f m A l s H E) E a (fW b) d):qt r P w K p g x (k+1) c (fU K (bI c.length a (bH n d))):=by
 have no:∀{j},bI c.length a (bH n d) j≠.no->j.length=c.length/\gT a 0 j=ah:=λ{j} h=>by unfold bI at h;simp_all
 exact U4 D G y z (λj h=>(no h).1) (λj h i u e=>by have:=r9 (no h).2 i u e;rwa[mO]at this) (λj h=>by unfold bI;rw[if_pos (no h)]) B
theorem OT{P:aP}{w:aI}{K:ax}{q:Str->Option ai}{g:aB}{x a:Str}{b:bf}{N c:List Str}{k n:Nat}{d:ad aM}{pin:List Nat}(I:pV K x a b f r)(G:cg N c (bp b))(z:N.length=c.length+n)(B:∀(kV p y:ai) (F:Option ae) (m D:ai) (o:List ai),o.length=c.length->gn (iK x a (jV b) (fW b) (bp b) .none kV p y F m D) ⟨o,[]⟩=pure (c.zip o))(C:∀(f:ae) (m:ai) (A:aV) (l:List Env) (s:ao) (H:Hp) (E:XK),fP k (A.deeper (jj a (bp b) s.heap.objs.size f m))->gw (iZ u P w K q g N a (bp b) f m A l s H E) E pin (fW b) d):lv P w K q g u (k+1) f r c (fU K (bI c.length pin (bH n d))):=by
 have no:∀{j},bI c.length pin (bH n d) j≠.no->j.length=c.length/\gT pin 0 j=ah:=λ{j} h=>by unfold bI at h;simp_all
 exact G0 I G z B (λj h=>(no h).1) (λj h i v e=>by have:=r9 (no h).2 i v e;rwa[mO]at this) (λj h=>by unfold bI;rw[if_pos (no h)]) C
theorem Ng{K:ax}{o:Str->Option ai}{c:aB}{x:Str}{a:bf}{N b:List Str}{k n:Nat}{d:ad aM}{pin:List Nat}(D:cB K o x a)(C:cg N b (bp a))(u:N.length=b.length+n)(v:∀(kV p r:ai) (B:Option ae) (l z:ai) (m:List ai),m.length=b.length->gn (iK x x (jV a) (fW a) (bp a) .none kV p r B l z) ⟨m,[]⟩=pure (b.zip m))(y:∀(f:ae) (l:ai) (A:aV) (j:List Env) (s:ao) (H:Hp),kR k (A.deeper (jj x (bp a) s.heap.objs.size f l))->gw (v3 P w K o c N x (bp a) f l A j s H) E0 pin (fW a) d):yc P w K o c x (k+1) b (fU K (bI b.length pin (bH n d))):=by
 have no:∀{g},bI b.length pin (bH n d) g≠.no->g.length=b.length/\gT pin 0 g=ah:=λ{g} h=>by unfold bI at h;simp_all
 exact K3 D C u v (λg h=>(no h).1) (λg h i q e=>by have:=r9 (no h).2 i q e;rwa[mO]at this) (λg h=>by unfold bI;rw[if_pos (no h)]) y
theorem IE{P:List ai->Prop}(h:∀a,P [a])(b:List ai)(c:b.length=1):P b:=by
 cases b with
 |nil=>trivial
 |cons a r=>simp_all
theorem Jb{P:List ai->Prop}(h:∀a b,P [a,b])(c:List ai)(d:c.length=2):P c:=by
 cases c with
 |nil=>trivial
 |cons a r=>exact IE (P:=λr=>P (a::r)) (h a) r (zX d)
theorem FU{P:List ai->Prop}(h:∀a b c,P [a,b,c])(d:List ai)(f:d.length=3):P d:=by
 cases d with
 |nil=>trivial
 |cons a r=>exact Jb (P:=λr=>P (a::r)) (h a) r (zX f)
theorem Ua{P:List ai->Prop}(h:∀a b c d,P [a,b,c,d])(f:List ai)(g:f.length=4):P f:=by
 cases f with
 |nil=>trivial
 |cons a r=>exact FU (P:=λr=>P (a::r)) (h a) r (zX g)
theorem PF{d:g7}{c:List Str}(h:∀a,gn d ⟨[a],[]⟩=pure (c.zip [a]))(b:List ai)(f:b.length=1):gn d ⟨b,[]⟩=pure (c.zip b):=IE (P:=λb=>gn d ⟨b,[]⟩=pure (c.zip b)) h b f
theorem Ll{f:g7}{d:List Str}(h:∀a b,gn f ⟨[a,b],[]⟩=pure (d.zip [a,b]))(c:List ai)(g:c.length=2):gn f ⟨c,[]⟩=pure (d.zip c):=Jb (P:=λc=>gn f ⟨c,[]⟩=pure (d.zip c)) h c g
theorem Oy{g:g7}{f:List Str}(h:∀a b c,gn g ⟨[a,b,c],[]⟩=pure (f.zip [a,b,c]))(d:List ai)(i:d.length=3):gn g ⟨d,[]⟩=pure (f.zip d):=FU (P:=λd=>gn g ⟨d,[]⟩=pure (f.zip d)) h d i
theorem T3{i:g7}{g:List Str}(h:∀a b c d,gn i ⟨[a,b,c,d],[]⟩=pure (g.zip [a,b,c,d]))(f:List ai)(j:f.length=4):gn i ⟨f,[]⟩=pure (g.zip f):=Ua (P:=λf=>gn i ⟨f,[]⟩=pure (g.zip f)) h f j
theorem jc:sJ (lq P w) X E0:=λ_ _ _ _ _ _ _ h=>by obtain⟨a,T,c,b,_,_,_,_,_,_,_,z⟩:=h;trivial
theorem i6:fu "len"=aa (.builtin "len"):=by decide +kernel
theorem zp:fu "all"=aa (.builtin "all"):=by decide +kernel
theorem mn:fu "sorted"=aa (.builtin "sorted"):=by decide +kernel
theorem iA:fu "isinstance"=aa (.builtin "isinstance"):=by decide +kernel
theorem Rn:fu "int"=aa (.type "int"):=by decide +kernel
theorem Ra:fu "bool"=aa (.type "bool"):=by decide +kernel
theorem Po:fu "str"=aa (.type "str"):=by decide +kernel
theorem AT:fu "list"=aa (.type "list"):=by decide +kernel
theorem oJ:fu "tuple"=aa (.type "tuple"):=by decide +kernel
theorem GF:fu "set"=aa (.type "set"):=by decide +kernel
theorem SZ:fu "ValueError"=aa (.type "ValueError"):=by decide +kernel
def oU:aC->Bool
 |.Starred _ _=>ah
 |_=>ak
theorem js(h:oU e=ak):aX (e::es) env=(ak,a8 e env)::aX es env:=by
 cases e <;> first|rfl|cases h
section
theorem aG(g:DE X E e d)(f:DA X E a b)(h:(oU e=ak)^0):DA X E (e::a) (aA d b):=PQ g f (js h)
theorem a9(g:DE X E e d)(f:DG X E a c)(h:(oU e=ak)^0):DG X E (e::a) (gV d c):=MR g f (js h)
end
noncomputable def vz:List ai:=[.type "ValueError",.type "Exception",.type "BaseException",.type "object"]
theorem CA{K:ax}(X:K.In h)(q:ph K C B nw=ah):∃i N w p bs E j a G c F D A z y x g,h.get? C=aa (excClassObj w p C N bs i E j a G c F D A z y x nw)/\h.Ns N g/\g "__init__"=af/\OwnTail h B i:=by
 unfold ph at q;split at q
 case h_2=>cases q
 case h_1 d0 cdata slots look=>
  split at q
  case h_2=>cases q
  case h_1 C2 tl s0 s1 s2 s3 nn s5 em es=>
   rw[g9,g9,g9,g9,g9]at q;obtain⟨⟨⟨⟨⟨v,u⟩,f⟩,s⟩,b⟩,r⟩:=q;have o:=beq_iff_eq.mp v;have n:=beq_iff_eq.mp u;have d:=beq_iff_eq.mp r;subst o n;cases cdata;dsimp only at em f b d;subst em;have m:=Kb _ |>.mp f
   subst m;have l:slots=#[s0,s1,s2,s3,aa (.builtin nn),s5]:=by cases slots;exact congrArg Array.mk es
   subst l;exact⟨tl,_,_,_,_,_,_,_,_,_,d0,s0,s1,s2,s3,s5,_,X _ _ look,Heap.Ns.of_isNs (PySem.W.isNs_of_in X b),PySem.W.nsMap_none_of_in X b d,PySem.W.tail_of_in X s⟩
theorem M0{K:ax}(X:K.In h)(e:a x=aa (.ref C))(q:ph K C B nw=ah):OwnCls x C B nw a h:=⟨e,CA X q⟩
theorem Tz{K:ax}(X:K.In h)(q:ph K C vz nw=ah):qy h C:=by obtain⟨p,N,f,d,bs,n,c,a,r,b,o,m,l,j,i,g,s,e,_,_,t⟩:=CA X q;exact⟨p,N,f,d,bs,n,c,a,r,b,o,m,l,j,i,g,nw,e,t.hasType rfl⟩
noncomputable def subB(K:ax)(D C:ae):Bool:=match K.lookup C with
 |some ⟨_,_,.cls a,_⟩=>a.mro.contains (.ref D)
 |_=>ak
theorem NG{K:ax}(X:K.In h)(q:ph K C B nw=ah)(s:subB K D C=ah):Under h D (.ref C):=by
 obtain⟨p,N,f,d,bs,n,c,a,r,b,o,m,l,j,i,g,x,e,_⟩:=CA X q;refine⟨C,p,N,f,d,bs,n,c,a,r,b,o,m,l,j,i,g,nw,rfl,e,?_⟩;unfold subB at s;split at s
 .rename_i w v z u look;have y:=X _ _ look;lia
 trivial
noncomputable def yu(K:ax)(C:ae):Bool :=
 qK K (.ref C) "__getattribute__" == aa (aa (.builtin "BaseException.__getattribute__"))&&qK K (.ref C) "__getattr__" == aa af&&qK K (.ref C) "__class__" == aa (aa (.builtin "object.__class__")) &&
 JC K (.builtin "object.__class__") "__get__" == aa (aa (.builtin "getset_descriptor.__get__"))&&PySem.W.takesIn K (.builtin "object.__class__") == aa ah&&zy K C (.type "object") == aa ah&&zy K C (.type "BaseException") == aa ah&&(DB K C).isSome
theorem FZ{K:ax}(h:yu K C=ah):oR K C:=by simp only[yu,g9,beq_iff_eq]at h;obtain⟨⟨⟨⟨⟨⟨⟨j,i⟩,g⟩,f⟩,d⟩,c⟩,b⟩,a⟩:=h;exact⟨j,i,g,f,d,c,b,a⟩
def Aj(K:ax):Bool:=K.all λp=>match p.2.cls with
 |.type t=>t != "list"
 |_=>ah
theorem Ih:∀{K:ax},K.lookup a=aa o->(a,o)∈K
 |[],e=>by cases e
 | (b,u)::K,e=>by
  rw[lQ]at e;cases q:a == b with
  |true=>simp_all
  |false=>rw[q]at e;exact gZ _ (Ih e)
theorem GS{K:ax}:∀a:List Int,aZ K H F (a.map .int) (a.map V.int)
 |[]=>rfl
 |x::a=>⟨.int x,a.map V.int,rfl,rfl,GS a⟩
theorem Tc{K:ax}{xs:List V}(h:Aj K=ah)(s:cA K H a xs):Rd H a (.lst xs):=by
 rcases s with s|⟨o,c,n,b,d,_⟩
 .exact s
 .have:=k9.mp h _ (Ih b);rw[d]at this;trivial
theorem T8{K:ax}{a:ae}{c:List Int}{E:XK}(d:Rd H a (.lst (c.map V.int)))(h:g [.val (.lst (c.map .int))]=.ok (.val (.bl ah)) [.val (.lst (c.map .int))]):fU K g [.ref a] H (λv _=>v=.bl ah) E:=by
 refine⟨λb=>b=a,λ_ _=>False,[.val (.lst (c.map .int))],⟨rfl,λb e=>?_,λi pv e=>?_,λi l e=>?_,λi b z=>z.elim,λi j b z=>z.elim⟩,?_⟩
 .subst e;rcases d with d|⟨o,d⟩ <;> exact⟨_,d⟩
 .cases i with
  |zero=>cases e;exact⟨_,rfl,a,_,rfl,d,rfl,GS c⟩
  |succ i=>trivial
 .cases i with
  |zero=>cases e
  |succ i=>trivial
 .rw[h];exact λv q n p m _ _ f _ _=>f.1
theorem V0{K:ax}{t:Tok}(e:c7 K cb x=aa (aa (.int i t))):∃t,c7 K cb x=aa (aa (.int i t)):=⟨t,e⟩
theorem VU{K:ax}{t:Tok}(e:c7 K cb x=aa (aa (.str (tS l) t))):∃t,c7 K cb x=aa (aa (.str (tS l) t)):=⟨t,e⟩
def cU(K:ax)(x:Str)(a:bf):Prop:=∃f oc g kV h d j b i c,c7 K cb x=aa (aa (.ref f))/\K.lookup f=aa ⟨oc,g,.func (iK x x (jV a) (fW a) (bp a) .none kV h d j b i),c⟩/\wl K b x=ah/\qM K (.ref f)=ah
theorem VF{K:ax}{b:bf}{f:ae}{oc kV j h d m:ai}{i n:Option ae}{g:Array (Option ai)}(a:c7 K cb x=aa (aa (.ref f)))(l:K.lookup f=aa ⟨oc,i,.func (iK x x (jV b) (fW b) (bp b) .none kV j h n d m),g⟩)(c:wl K d x=ah) (k:qM K (.ref f)=ah):cU K x b:=⟨f,oc,i,kV,j,h,n,d,m,g,a,l,c,k⟩
theorem cU.at{K:ax}{x:Str}{st:bf}(d:cU K x st)(X:K.In h)(G:h.Ns cb b):cB K b x st:=by obtain⟨f,oc,j,kV,m,i,o,n,ct,g,a,l,c,k⟩:=d;exact⟨f,_,zY X G a,H_ l c k⟩
def jv(a:List (aK×PV))(k:aK):Option PV:=(a.find? λb=>decide (b.1=k)).map (·.2)
noncomputable def oE(a:List (aK×PV))(k:aK)(v:PV):List (aK×PV):=if(a.any λb=>decide (b.1=k))=ah then a.map (λb=>if b.1=k then(b.1,v)else b)else a++[(k,v)]
def jx:PV->Option aK
 |.int i=>aa (.inl i)
 |.str x=>aa (.inr (tS x))
 |_=>af
section
variable{K:ax}{F:ae->Prop}{S:Nat->ae->Prop}{ε:aj}{l:St}{H:Hp}{i:Nat}{d:List (aK×PV)}{f:List (aK×V)}{a:ae}
theorem sZ(r:aN K H F x v)(e:jx x=aa k):v=kV k:=by
 cases x <;> simp[jx]at e
 .subst e;exact r
 .subst e;exact r.1
theorem je.len(h:je K H F d f):f.length=d.length:=by
 unfold je at h
 induction h with
 |nil=>rfl
 |cons _ _ b=>simp[b]
theorem je.val(h:je K H F d f)(k:aK):(∃x v,jv d k=aa x/\jX f k=aa v/\aN K H F x v)\/(jv d k=af/\jX f k=af):=by
 unfold je at h
 induction h with
 |nil=>exact .inr ⟨rfl,rfl⟩
 |@cons p q ps qs r _ ih=>
  by_cases e:p.1=k
  .refine .inl ⟨p.2,q.2,by simp[jv,lP,e],?_,r.2⟩;rw[yT (by rw[<-r.1];exact e)]
  .have b:¬q.1=k:=by rw[<-r.1];exact e
   rw[yk b];have:jv (p::ps) k=jv ps k:=by simp[jv,lP,e]
   rw[this];trivial
theorem je.any(h:je K H F d f)(k:aK):(d.any λb=>decide (b.1=k))=f.any λb=>decide (b.1=k):=by
 unfold je at h
 induction h with
 |nil=>rfl
 |cons r _ c=>rw[o_,o_,c,r.1]
theorem je.put(h:je K H F d f)(k:aK)(r:aN K H F x v):je K H F (oE d k x) (fV f k v):=by
 unfold oE fV;rw[h.any k];split
 .rename_i b;clear b;unfold je at h ⊢
  induction h with
  |nil=>exact .nil
  |@cons p q ps qs r1 _ ih=>
   refine .cons ?_ ih;dsimp only;by_cases e:p.1=k
   .rw[if_pos e,if_pos (by rw[<-r1.1];exact e)];exact⟨r1.1,r⟩
   .rw[if_neg e,if_neg (by rw[<-r1.1];exact e)];exact r1
 .exact zF h ⟨rfl,r⟩
theorem aL.dkAt(r:aL K F S ε l H)(e:ε[i]?=aa (.own (.dK d))):∃a f,l[i]?=aa (aa (.ref a))/\H a=aa (.dK f)/\je K H F d f/\S i a/\∀b,S i b->b=a:=by obtain⟨a,n,⟨g,m,j⟩,c⟩:=r.own i _ e;exact⟨a,g,n,m,j,(c a).mpr rfl,λb h=>(c b).mp h⟩
theorem aL.updO(r:aL K F S ε l H)(e:ε[i]?=aa (.own p))(O:gf p=ah)(G:l[i]?=aa (aa (.ref a)))(N:eh o')(h:∀A,(∀x v,aN K H F x v->aN K A F x v)->(∀x v,aZ K H F x v->aZ K A F x v)->A a=aa o'->∀J:ae->Prop,(∀b,J b↔b=a)->fo K A F po' a J):aL K F S (ε.set i (.own po')) l (L2.upd H a o')/\Grow (U S) (U S) F F H (L2.upd H a o'):=by
 obtain⟨Q,I,M⟩:=r.own i p e;rw[G]at I;cases I;have s:=F8 M O;have C:S i a:=(s a).mpr rfl;have E:∀b,S i b->b=a:=λb z=>(s b).mp z;have B:i<ε.length:=(cJ.mp e).1;have g:Grow (U S) (U S) F F H (L2.upd H a o'):=⟨λ_ z=>z,λb o q n=>by rw[a6 (by rintro rfl;exact n ⟨i,C⟩)];exact q,λb o q=>by
  by_cases D:b=a
  .subst D;exact⟨_,upd_same⟩
  .exact⟨o,by rw[a6 D];exact q⟩,λ_ z=>.inl z,λ_ z=>.inl z⟩
 refine⟨⟨by rw[fZ];exact r.len,λb z=>let ⟨o,q⟩:=r.ex b z;g.there b o q,λj pv q=>?_,λj p q=>?_,λj b z=>?_,r.dist⟩,g⟩
 .have m:i≠j:=by rintro rfl;rw[eB B]at q;cases q
  rw[cK m]at q;obtain⟨v,y,u⟩:=r.val j pv q;exact⟨v,y,u.grow g r.fit⟩
 .by_cases m:i=j
  .subst m;rw[eB B]at q;cases q;exact⟨a,G,h _ (λ_ _ z=>z.grow g r.fit) (λ_ _ z=>z.grow g r.fit) upd_same _ s⟩
  .rw[cK m]at q;obtain⟨c,y,u⟩:=r.own j p q;refine⟨c,y,u.mono (λ_ _ z=>z.grow g r.fit) (λ_ _ z=>z.grow g r.fit) λb o z w=>?_⟩;rw[a6 (by rintro rfl;exact m (r.dist i j b C z))];exact w
 .obtain⟨⟨p,y⟩,u,o,P,L⟩:=r.foot j b z;by_cases m:i=j
  .subst m;rw[E b z];exact⟨⟨_,eB B⟩,by rw[<-E b z];trivial,_,upd_same,N⟩
  .exact⟨⟨p,by rw[cK m];trivial⟩,u,o,by rw[a6 (by rintro rfl;exact m (r.dist i j b C z))];trivial,L⟩
end
noncomputable def eA(b:aj)(i:Nat):Option (List (aK×PV)):=match b[i]? with
 |some (.own (.dK a))=>aa a
 |_=>af
theorem mr(h:eA b i=aa a):b[i]?=aa (.own (.dK a)):=by
 unfold eA at h;split at h
 .cases h;trivial
 trivial
section
variable{X:Cx}{E:XK}{g:List Nat}{e b c:aC}{de db f:ad PV}{d:Pos}
def yj:ad PO:=λa=>.ok (.dK []) a
theorem M3:DN X E (.Dict [] [] d) yj:=λF S m l H Q a h=>bY NU λp i=>by
 have al:Al F F H (upd H p (.dK [])):=Al.new0 i;refine h F S _ (a.al al) al.grow p (λb=>b=p) ⟨⟨[],upd_same,.nil⟩,λb=>kE⟩ λb z=>?_;subst z;refine⟨i,λz=>?_,λ⟨j,z⟩=>?_,_,upd_same,trivial⟩
 .obtain⟨o,q⟩:=a.ex b z;lia
 .obtain⟨_,_,o,q,_⟩:=a.foot j b z;rw[i]at q;cases q
def kX(i:Nat)(db:ad PV):ad PV:=λε=>(aR (eA ε i) ε).bind λ_ ε=>(db ε).bind λk ε1=>(aR (eA ε1 i) ε1).bind λa ε1=>aR ((jx k).bind λk=>jv a k) ε1
theorem Gu(i:Nat)(hu:X.A.units+64<cLine)(N:DE X E b db)(P:(X.N[i]?=aa y)^0)(T:d8 X.env.scope y^2)(M:av y^1) (W:a4 y^1) (J:BH b:=by exact λ_ _=>rfl):DE X E (.Subscript (.Name y B) b d) (kX i db):=λF S p A H Q r h=>by
 unfold kX at h;cases o:eA p i with
 |none=>rw[o]at h;exact h.elim
 |some w=>
  rw[o]at h;simp only[bT,R.bind_ok]at h;obtain⟨a,C,z,_⟩:=r.dkAt (mr o);refine bY (Lc ∅ (eY P T M W) bJ J) ⟨.ref a,z,N F S p A H _ r ((Ok.bind h).imp λk l F1 Y Z s g1 q u D=>?_)⟩;cases n:eA l i with
  |none=>rw[n]at q;trivial
  |some I=>
   rw[n]at q;simp only[bT,R.bind_ok]at q;obtain⟨a',ws,j,O,L,_⟩:=s.dkAt (mr n);rw[z]at j;cases j;cases m:jx k with
   |none=>rw[m]at q;trivial
   |some G=>
    rw[m,gp]at q;rw[sZ D m];rcases L.val G with⟨x,v,h1,h2,h3⟩|⟨h1,h2⟩
    .rw[h1]at q;exact⟨a,v,rfl,by rw[<-h2];exact ni.k O,q F1 Y Z s (Grow.refl ..) v h3⟩
    .rw[h1]at q;trivial
def mo(i:Nat)(db f:ad PV):ad PV:=λh=>(aR (eA h i) h).bind λ_ h=>(db h).bind λk j=>(f j).bind λz a=>(aR (eA a i) a).bind λl a=>aR ((jx k).map λk=>(jv l k).getD z) a
theorem HQ(i:Nat){j:Pos}(hu:X.A.units+64<cLine)(hb:DE X E b db)(hc:DE X E c f)(hN:(X.N[i]?=aa y)^0)(eK:d8 X.env.scope y^2)(hd:av y^1) (bt:a4 y^1)(n:(nQ (.Name y l) "get" X.env (a8 (.Name y l) X.env)=a8 (.Name y l) X.env)^0) (C:((j.endLine == d.line)=ah)^0) (s1:(oU b=ak)^0) (s2:(oU c=ak)^0):DE X E (.Call (.Attribute (.Name y l) "get" j) [b,c] [] d) (mo i db f):=λF S L J H Q N h=>by
 have M:aX [b,c] X.env=[(ak,a8 b X.env),(ak,a8 c X.env)]:=by rw[js s1,js s2];rfl
 have m:M2 X (.Name y l) "get" j b c d:=⟨n,by rw[M];rfl,C,by rw[M];rfl⟩
 unfold mo at h;cases I:eA L i with
 |none=>rw[I]at h;exact h.elim
 |some O=>
  rw[I]at h;simp only[bT,R.bind_ok]at h;obtain⟨a,ws0,T,B,_⟩:=N.dkAt (mr I);refine bY (N2 ∅ (eY hN eK hd bt) bJ bJ m) ⟨.ref a,T,a,rfl,.inl ⟨_,.inl B⟩,hb F S L J H _ N ((Ok.bind h).imp λk r F1 S1 H1 r1 g1 q u ru=>?_)⟩;refine hc F1 S1 r J H1 _ r1 ((Ok.bind q).imp λz p Z W Y A g2 q w s=>?_);cases G:eA p i with
  |none=>rw[G]at q;trivial
  |some kvs=>
   rw[G]at q;simp only[bT,R.bind_ok]at q;obtain⟨a',ws,o,P,hk,_⟩:=A.dkAt (mr G);rw[T]at o;cases o;cases D:jx k with
   |none=>rw[D]at q;trivial
   |some ky=>
    rw[D,wA]at q;rw[sZ ru D];rcases hk.val ky with⟨x,v,n,h2,C⟩|⟨n,h2⟩
    .rw[n]at q;exact⟨aa v,by rw[<-h2];exact ni.k P,q Z W Y A (Grow.refl ..) v C⟩
    .rw[n]at q;exact⟨af,by rw[<-h2];exact ni.k P,q Z W Y A (Grow.refl ..) w s⟩
def jO(i:Nat)(db de:ad PV):ad aM:=λl=>(de l).bind λy h=>(aR (eA h i) h).bind λ_ h=>(db h).bind λk a=>(aR (eA a i) a).bind λj a=>(aR (jx k) a).bind λk a=>if j.length<bB then .ok .next (a.set i (.own (.dK (oE j k y))))else .no
theorem zm(i:Nat)(hu:X.A.units+64<cLine)(hb:DE X E b db)(he:DE X E e de)(hN:(X.N[i]?=aa y)^0)(eK:d8 X.env.scope y^2)(hd:av y^1) (bt:a4 y^1) (hs:(jg e (aa (.Subscript (.Name y G) b j)) d.line X.env=pure ak)^0):DS X E g (.Assign [.Subscript (.Name y G) b j] e d) (jO i db de):=λF S M p H D T h=>by
 refine fQ (Fw ∅ (eY hN eK hd bt) bJ bJ hs) (he F S M p H _ T (h.bindE.imp λy m F1 S1 H1 s g1 q v P=>?_));cases C:eA m i with
 |none=>rw[C]at q;trivial
 |some J=>
  rw[C]at q;simp only[bT,R.bind_ok]at q;obtain⟨a,N,A,ha0,_⟩:=s.dkAt (mr C);refine⟨.ref a,A,hb F1 S1 m p H1 _ s (q.bindE.imp λk r F2 S2 H2 I g2 l u Q=>?_)⟩;cases o:eA r i with
  |none=>rw[o]at l;trivial
  |some x=>
   rw[o]at l;simp only[bT,R.bind_ok]at l;obtain⟨a',O,n,ha,L,_⟩:=I.dkAt (mr o);rw[A]at n;cases n;cases B:jx k with
   |none=>rw[B]at l;trivial
   |some w=>
    rw[B]at l;simp only[bT,R.bind_ok]at l;split at l
    .rename_i hl;rw[sZ Q B];have eU:=L.put w (P.grow g2 s.fit);obtain⟨W,g3⟩:=I.updO (po':=.dK (oE x w y)) (o':=.dK (fV O w v)) (mr o) rfl A trivial λH' Z m2 z Sa Y=>⟨⟨_,z,eU.mono Z⟩,Y⟩
     exact⟨a,_,rfl,zw.k ha (by rw[L.len];exact gK hl kP),l F2 S2 p _ W g3 (ip.refl _ _)⟩
    trivial
end
section
variable{X:Cx}
theorem KV.at(r:KV kvs a){i:Nat}{k:aK}{u:ai}(h:a[i]?=aa (k,u)):∃v,kvs[i]?=aa (k,v)/\RelV v u:=by
 unfold KV at r
 induction r generalizing i with
 |nil=>trivial
 |@cons p q ps qs r1 _ ih=>
  cases i with
  |zero=>simp at h;subst h;exact⟨p.2,by simp[show k=p.1 from r1.1.symm],r1.2⟩
  |succ i=>exact ih (by trivial)
end
section
variable{X:Cx}{e b c:aC}{de u d:ad PV}{l p:Pos}
def BQ(i j:Nat)(d:ad PV):ad aM:=λε=>(d ε).bind λx ε1=>match x with
 |.tup [a,b]=>.ok .next ((ε1.set i (.val a)).set j (.val b))
 |_=>.no
theorem UF(i j:Nat)(hc:X.calm=ah)(A:X.N.Nodup)(he:DE X E e de)(hp:(i∉g)^1)(gM:(j∉g)^1)(hi:(X.N[i]?=aa x)^0)(hj:(X.N[j]?=aa y)^0)(Y:Loc X.env.scope x^6) (W:Loc X.env.scope y^6)(hf:az X x^3) (w:az X y^3)(hs:(C0 [.Tuple [.Name x s,.Name y r] k f] e l.line X.env=pure ak)^0) (Z:(C1 [.Tuple [.Name x s,.Name y r] k f] e X.env=pure af)^0):DS X E g (.Assign [.Tuple [.Name x s,.Name y r] k f] e l) (BQ i j de):=λF S I C H D O h=>by
 refine fQ (Bn bJ (HP hc (zo (qD A hi Y hf) (zo (qD A hj W w) HI))) hs Z rfl) (he F S I C H _ O (h.bindE.imp λz G F1 S1 H1 T g1 B v M=>?_));split at B
 .rename_i a b;obtain⟨p,us,rfl,c8,N⟩:=M;obtain⟨L,ra,rfl,Q,J,rb,rfl,P,rfl⟩:=N;refine⟨p,_,rfl,cn.of c8,rfl,L,_,rfl,J,_,rfl,rfl,?_⟩;exact B F1 _ _ H1 ((T.set Q).set P) ((Grow.less i).trans (Grow.less j)) ((ip.set hp).trans (ip.set gM))
 trivial
noncomputable def Ow(K:ax)(r:V->List V->Hp->VK->Prop)(h:TE)(t:TA):TE:=λa H Q=>h a H λx f=>(∃p xs,x=.ref p/\f p=aa (.tup xs))/\t a f λxs i=>r x xs i Q
theorem LN{y:String}{C:TE}{t:TA}{j f:Pos}{es:List aC}(w:PySem.Slot "tuple" i y)(pt:typeOf (.builtin y)=pure (.type "method_descriptor"))(hm:v_ X y r)(ho:PE X o C)(ha:PA X (e::es) t)(W:(nQ o i X.env (a8 o X.env)=a8 o X.env)^0)(N:(((dr f (aX (e::es) X.env)).all (λx=>!x.1)&&(qP f (qQ [] X.env)).all (λx=>x.1.isSome)&&decide ((e::es).length+([]:List jF).length+(if([]:List jF).isEmpty then 0 else 1)<30))=ah)^0)(P:((j.endLine == f.line)=ah)^0) (hs:(aX (e::es) X.env=(ak,a8 e X.env)::aX es X.env)^0) (Ee:((dr f (aX es X.env)).any (·.1)=ak)^0):PE X (.Call (.Attribute o i j) (e::es) [] f) (Ow X.K r C t):=by
 intro B s A H Q I h;refine wpAny_Call_method_late W N P rfl (aT (ho B s A H _ I h) λv D h'=>?_);obtain⟨x,J,G,T,⟨p,xs,rfl,hp⟩,Z⟩:=h';cases T;obtain⟨_,its,_,⟨ob,e1,e2,_⟩,o2,e3,e4⟩:=(show cc X.prog X.w J D.heap p (.tup xs)from G.hok p _ hp)
 refine⟨"tuple",y,PySem.F.plainAttrs_tuple,w,pt,⟨ob,e1,e2⟩,λa z=>?_,?_⟩
 .grind
 have F:=ha f B D A J _ G Z;rw[hs]at F ⊢;refine JO (by trivial) (Da ?_);exact aT F λM O h2=>by obtain⟨L,H2,I2,S,Y⟩:=h2;exact hm B O A H2 (.ref p) L (.ref p) M Q I2 rfl S Y
def sd(f:List PV->PV->Option PV)(d de:ad PV):ad PV:=λε=>(d ε).bind λx h=>match x with
 |.tup xs=>(de h).bind λk a=>aR (f xs k) a
 |_=>.no
theorem Ha{f a:Pos}(Y:DE X E o d)(he:DE X E e de)(W:(nQ o "count" X.env (a8 o X.env)=a8 o X.env)^0)(P:((f.endLine == a.line)=ah)^0) (dv:(oU e=ak)^0):DE X E (.Call (.Attribute o "count" f) [e] [] a) (sd mi d de):=λF S L B H Q O h=>by
 have A:=js (es:=[]) (env:=X.env) dv;refine bY (LN PySem.F.slot_tuple_count PySem.F.type_tuple_count K9 bJ (i7 bJ jz A) W (by rw[A];rfl) P A rfl) (Y F S L B H _ O ((Ok.bind h).imp λx j F1 S1 H1 s g1 G v M=>?_));split at G
 .rename_i xs;obtain⟨p,C,rfl,D,N⟩:=M;refine⟨⟨p,C,rfl,D⟩,he F1 S1 j B H1 _ s ((Ok.bind G).imp λk J F2 S2 H2 T I q w r=>?_)⟩;unfold mi at q;cases i:dA k with
  |none=>rw[i]at q;trivial
  |some z=>
   cases y:iC xs with
   |none=>rw[i,y]at q;trivial
   |some ws=>rw[i,y]at q;obtain⟨rfl,Z⟩:=uP (N.grow I s.fit) y;rw[jR r i];exact⟨p,C,z,rfl,rfl,cn.of (I.imm s.fit D id),rJ i,Z,q F2 S2 H2 T (Grow.refl ..) _ rfl⟩
 trivial
end
section
variable{X:Cx}
theorem Gf:∀(a:List ai) (ss:List Str),a.length=ss.length->(∀(i:Nat) v x,a[i]?=aa v->ss[i]?=aa x->∃t,v=.str x t)->cL a ss
 |[],[],_,_=>.nil
 |v::a,x::ss,b,h=>by obtain⟨t,rfl⟩:=h 0 v x rfl rfl;exact .cons x t (Gf a ss (zX b) λi v x d c=>h (i+1) v x (by trivial) (by trivial))
 |[],_::_,b,_=>by trivial
 |_::_,[],b,_=>by trivial
theorem US(S:X.calm=ah):eF X (.builtin "sorted") (λxs H Q=>∃(d:ae) (kvs:List (aK×V)) (a:List Tx),xs=[.ref d]/\H d=aa (.dK kvs)/\kvs.map (·.1)=a.map (λx=>Sum.inr (tS x))/\a.length<64/\∀l,H l=af->Q (.ref l) (upd H l (.lst (cm (aS a))))):=by
 intro ag s D H xs us Q I r h;obtain⟨d,kvs,a,rfl,P,o,M,q⟩:=h;obtain⟨u,rfl,F⟩:=vals1 r;cases F;obtain⟨z,N,n,b,Z⟩:=B0 I.hok P;obtain⟨ep,E⟩:=Z.dictAt;have B:n.length=a.length:=by have p:=congrArg o7 o;simp only[cG]at p;rw[<-b.length];trivial
 refine OJ (PySem.W.kdu_collect (PySem.W.kdl_dict (knd:=gU X.prog X.w) (kvs:=n) (ep:=ep) N) (uC (I.ok.hd S)) E (by rw[<-b.length];exact z) λw g ay k j=>?_);have c:cL ay.toList (a.map tS):=by
  refine Gf _ _ (by rw[cG,iH,j.1,B]) λi v x p f=>?_;obtain⟨J,y,Y,W⟩:=j.2 i v (by rw[<-qU];trivial);obtain⟨wv,T,_⟩:=KV.at b Y;have m:(kvs.map (·.1))[i]?=aa J:=by rw[dY,T];rfl
  rw[o,dY]at m;rw[dY]at f;cases A:a[i]? with
  |none=>rw[A]at f;trivial
  |some l=>
   rw[A]at m f;cases m;cases f;exact Value.isStrOf_shape W
 have C:Inv X ag D H {s with heap:=w,toks:=g}:=I.kept (t':=g) k;refine⟨a.map tS,c,by rw[iH,j.1,B];trivial,λf G aO e L O b1 b2 b3=>?_⟩;exact⟨.ref _,_,Inv.sorted (s1:={s with heap:=w,toks:=g}) (ss:=a.map tS) C rfl M L O b1 b2 b3,rfl,q _ C.fresh⟩
def qm:List (aK×PV)->Option (List Tx)
 |[]=>aa []
 | (.inr k,_)::r=>(qm r).map (k.cps.toList::·)
 |_=>af
theorem HE:∀{a:List (aK×PV)}{b:List Tx},qm a=aa b->a.map (·.1)=b.map (λx=>Sum.inr (tS x))
 |[],b,h=>by cases h;rfl
 | (.inr k,_)::r,b,h=>by simp only[qm,mF]at h;obtain⟨l,c,rfl⟩:=h;rw[cp,cp,HE c,vq]
 | (.inl _,_)::_,_,h=>by cases h
def yg(b:List (aK×PV)):Option PO:=(qm b).bind λa=>if a.length<64/\(∀x∈a,x.length<=bB)then aa (.lst (am (aS a)))else af
def oY(i:Nat):ad PO:=λε=>(aR (eA ε i) ε).bind λa ε=>aR (yg a) ε
theorem je.keys{K:ax}{a:List (aK×PV)}{b:List (aK×V)}(h:je K H F a b):b.map (·.1)=a.map (·.1):=by
 unfold je at h
 induction h with
 |nil=>rfl
 |cons r _ c=>simp_all
theorem PP{E:XK}(i:Nat){p f:Pos}(J:X.calm=ah)(C:X.mg "sorted"=af)(M:(X.N[i]?=aa y)^0)(O:d8 X.env.scope y^2)(I:av y^1) (P:a4 y^1) (G:Gl X "sorted"^0):DN X E (.Call (.Name "sorted" p) [.Name y v] [] f) (oY i):=λF S u T H Q d h=>by
 unfold oY at h;cases n:eA u i with
 |none=>rw[n]at h;exact h.elim
 |some g=>
  rw[n]at h;simp only[bT,R.bind_ok]at h;obtain⟨a,A,N,L,D,W,_⟩:=d.dkAt (mr n);unfold yg at h;cases m:qm g with
  |none=>rw[m]at h;exact h.elim
  |some q=>
   rw[m,gp]at h;split at h
   .rename_i s;refine bY (mx (US J) G C mn (i7 (eY M O I P) jz (js rfl)) (by decide) (by rfl) (js rfl) rfl) ⟨.ref a,N,a,A,q,rfl,L,by rw[D.keys];exact HE m,s.1,λl r=>?_⟩;have al:Al F F H (L2.upd H l (.lst (cm (aS q)))):=Al.new0 r;refine h F S _ (d.al al) al.grow l (λc=>c=l) ⟨⟨_,upd_same,VJ.mpr ⟨rfl,λx B=>s.2 x ((fj _).mem_iff.mp B)⟩⟩,λc=>kE⟩ λb z=>?_;subst z;exact⟨r,λz=>wF (d.ex _ z) (λo w=>by lia),λ⟨j,z⟩=>wF (d.foot j b z).2.2 (λo w=>by lia),_,upd_same,trivial⟩
   .exact h.elim
end
end Pu
namespace L2
inductive l_{ζ:Type}(st t:bA)(c:Option ζ×Nat×Nat)(P:Nat->Nat->Prop):Prop
 |mk (e:t=st) (l o:Nat) (f:c=(af,l,o)) (p:P l o)
noncomputable def yv:Bool->Keyed->Array Keyed->Nat->Nat->Nat->StateT bA Sem (Option Nat):=sortPriv% PySem.Builtin.gallop
noncomputable def HJ:Array Keyed->Array Keyed->StateT bA Sem (Array Keyed):=sortPriv% PySem.Builtin.mergeLo
noncomputable def HM:Array Keyed->Array Keyed->StateT bA Sem (Array Keyed):=sortPriv% PySem.Builtin.mergeHi
noncomputable def kO(κ:KeyKind)(p:Keyed):κ.α:=(κ.keyOf p.1).getD κ.dflt
noncomputable def h_(b:KeyKind)(p:Keyed):Prop:=∃a,b.keyOf p.1=aa a
theorem h_.k(h:h_ κ p):κ.keyOf p.1=aa (kO κ p):=by obtain⟨a,e⟩:=h;unfold kO;rw[e];rfl
noncomputable def ij(κ:KeyKind)(kz:gq)(c:aP)(w:aI)(A:aV)(s:ao):Prop :=
 ∀(E:ai->ao->Prop) (x y:ai) (a b:κ.α) {Q:Bool->ao->Prop},κ.keyOf x=aa a->κ.keyOf y=aa b->Q (κ.blt a b) s->ar (aw c w) A (keyLt' kz x y) Q E s
theorem OneLt.ok{κ:KeyKind}(f:κ.OneLt):ij κ oneType' prog w A s:=λE x y a b _ d c h=>by rw[keyLt'_oneType];exact f prog w A E s x y a b d c h
structure SB(kz:gq)(st:bA):Prop where
 kind:kindOf st=kz
 failed:failedOf st=af
section
variable{d:KeyKind}
theorem v7(j:ij d f a w A s){b:bA}{Q:Option Bool->bA->Prop}(i:SB f b)(g:h_ d x)(c:h_ d y)(h:Q (aa (d.blt (kO d x) (kO d y))) b):wpS (aw a w) A E s (lt' x y) Q b:=by rw[lt'_eq];refine aW (n0 ?_);rw[i.kind];exact aW (t6 (Du (j _ x.1 y.1 _ _ g.k c.k ⟨rfl,bd h⟩)))
theorem fG{c:bA}{b:Array Keyed}(g:i<b.size)(h:Q b[i] c):wpS (aw a w) A E s (elem' b i) Q c:=by rw[elem'_eq,getElem?_pos b i g];exact bd h
noncomputable def EK(c:Bool)(g:Keyed)(j:Array Keyed)(h i:Nat):StateT bA Sem (Option Bool) :=elem' j (h+i) >>= λx=>if c=ah then lt' x g else lt' g x >>= λb=>pure (b.map (!·))
def me(d:KeyKind)(b:Bool)(c x:Keyed):Bool:=if b=ah then d.blt (kO d x) (kO d c)else !d.blt (kO d c) (kO d x)
theorem OO(p:ij d f a w A s){l:bA}{g:Array Keyed}{b i:Nat}{Q:Option Bool->bA->Prop}(o:SB f l)(n:h_ d j)(q:b+i<g.size)(m:h_ d g[b+i])(h:Q (aa (me d c j g[b+i])) l):wpS (aw a w) A E s (EK c j g b i) Q l:=by
 refine aW (fG q ?_);cases c
 .rw[if_neg (by simp)];exact aW (v7 p o n m (bd h))
 .rw[if_pos rfl];exact v7 p o m n h
theorem HX(hO:ij d f a w A s){L:bA}(hk:SB f L){z:Array Keyed}{u n b:Nat}{Q:Option Nat->bA->Prop}(lf:h_ d M)(hn:u+n<=z.size)(hA:∀i (g:i<z.size),h_ d z[i]) (B:Nat->Bool) (hB:∀i (g:i<n),B i=me d G M (z[u+i]'∅))(mono:∀i j,i<=j->j<n->B j=ah->B i=ah) (hh:b<n)(h:∀r,r<=n->(∀i,i<r->B i=ah)->(∀i,r<=i->i<n->B i=ak)->Q (aa r) L):wpS (aw a w) A E s (yv G M z u n b) Q L:=by
 have P:∀{i:Nat}{Q:Option Bool->bA->Prop},i<n->Q (aa (B i)) L->wpS (aw a w) A E s (EK G M z u i) Q L:=λ{i Q} g q=>OO hO hk lf nofun (hA _ _) (by rw[<-hB i g];exact q);have dn:∀{i j:Nat},i<=j->j<n->B i=ak->B j=ak:=λ{i j} bN hj hf=>by
  cases e:B j with
  |false=>rfl
  |true=>rw[mono i j bN hj e]at hf;trivial
 unfold yv;refine aW (P hh ?_);cases hr:B b with
 |true=>
  dsimp only;rw[if_pos rfl];refine aW (iL (iM (I:=λx c m=>l_ L m c λl o=>l<o/\x<o/\l<n-b/\B (b+l)=ah) (Q:=λc m=>l_ L m c λl o=>l<o/\l<n-b/\B (b+l)=ah/\(n-b<=o\/(o<n-b/\B (b+o)=ak))) ?_ ?_ ?_) ?_)
  .rintro x c m _ S ⟨rfl,l,o,rfl,J,T,H,p⟩;dsimp only;by_cases v:o ≥ n-b
   .rw[if_pos v];exact bd ⟨rfl,l,o,rfl,J,H,p,.inl v⟩
   .rw[if_neg v];refine aW (P nofun ?_);cases e:B (b+o)with
    |true=>exact bd ⟨rfl,o,2*o+1,rfl,∅,∅,∅,e⟩
    |false=>exact bd ⟨rfl,l,o,rfl,J,H,p,.inr ⟨∅,e⟩⟩
  .rintro c m ⟨rfl,l,o,rfl,J,T,H,p⟩;exact⟨rfl,l,o,rfl,J,H,p,.inl ∅⟩
  .exact⟨rfl,0,1,rfl,by simp,by simp,nofun,hr⟩
  rintro c m ⟨rfl,l,o,rfl,J,H,p,N⟩;dsimp only;have Z:b+l+1<=b+min o (n-b):=nofun
  have Y:b+min o (n-b)<=n:=nofun
  have X:∀i,i<b+l+1->B i=ah:=λi g=>mono i (b+l) ∅ ∅ p;have W:∀i,b+min o (n-b)<=i->i<n->B i=ak:=by
   intro i g O;rcases N with N|⟨N,h6⟩
   .omega
   grind
  clear N;generalize b+l+1=lo at *;generalize b+min o (n-b)=g at *;refine aW (iL (iM (I:=λx c y=>l_ m y c λl r=>l<=r/\r<=n/\r-l<=n-x/\(∀i,i<l->B i=ah)/\(∀i,r<=i->i<n->B i=ak)) (Q:=λc y=>l_ m y c λl r=>r<=n/\(∀i,i<r->B i=ah)/\(∀i,r<=i->i<n->B i=ak)) ?_ ?_ ?_) ?_)
  .rintro x c y _ S ⟨rfl,l,r,rfl,a1,F,a3,D,C⟩;dsimp only;by_cases v:l ≥ r
   .rw[if_pos v];have:l=r:=∅
    subst this;exact bd ⟨rfl,l,l,rfl,F,D,C⟩
   .rw[if_neg v];refine aW (P ∅ ?_);cases e:B (l+(r-l) / 2)with
    |true=>exact bd ⟨rfl,_,r,rfl,∅,F,nofun,λi g=>mono _ _ ∅ ∅ e,C⟩
    |false=>exact bd ⟨rfl,l,_,rfl,by simp,∅,nofun,D,λi g O=>dn (i:=l+(r-l) / 2) g O e⟩
  .rintro c y ⟨rfl,l,r,rfl,a1,F,a3,D,C⟩;have:l=r:=∅
   subst this;exact⟨rfl,l,l,rfl,F,D,C⟩
  .exact⟨rfl,lo,g,rfl,Z,Y,∅,X,W⟩
  .rintro c y ⟨rfl,l,r,rfl,F,D,C⟩;exact bd (h r F D C)
 |false=>
  dsimp only;rw[if_neg (by simp)];refine aW (iL (iM (I:=λx c m=>l_ L m c λl o=>l<o/\x<o/\l<=b/\B (b-l)=ak) (Q:=λc m=>l_ L m c λl o=>l<o/\l<=b/\B (b-l)=ak/\(b+1<=o\/(o<=b/\B (b-o)=ah))) ?_ ?_ ?_) ?_)
  .rintro x c m _ S ⟨rfl,l,o,rfl,J,T,H,p⟩;dsimp only;by_cases v:o ≥ b+1
   .rw[if_pos v];exact bd ⟨rfl,l,o,rfl,J,H,p,.inl v⟩
   .rw[if_neg v];refine aW (P nofun ?_);cases e:B (b-o)with
    |false=>exact bd ⟨rfl,o,2*o+1,rfl,∅,∅,∅,e⟩
    |true=>exact bd ⟨rfl,l,o,rfl,J,H,p,.inr ⟨∅,e⟩⟩
  .rintro c m ⟨rfl,l,o,rfl,J,T,H,p⟩;exact⟨rfl,l,o,rfl,J,H,p,.inl ∅⟩
  .exact⟨rfl,0,1,rfl,by simp,by simp,by simp,hr⟩
  rintro c m ⟨rfl,l,o,rfl,J,H,p,N⟩;dsimp only;have Z:b+1-min o (b+1)<=b-l:=nofun
  have Y:b-l<=n:=∅
  have X:∀i,i<b+1-min o (b+1)->B i=ah:=by
   intro i g;rcases N with N|⟨N,h6⟩
   .simp_all
   grind
  have W:∀i,b-l<=i->i<n->B i=ak:=λi g O=>dn (i:=b-l) ∅ O p;clear N p;generalize b+1-min o (b+1)=lo at *;generalize b-l=g at *;refine aW (iL (iM (I:=λx c y=>l_ m y c λl r=>l<=r/\r<=n/\r-l<=n-x/\(∀i,i<l->B i=ah)/\(∀i,r<=i->i<n->B i=ak)) (Q:=λc y=>l_ m y c λl r=>r<=n/\(∀i,i<r->B i=ah)/\(∀i,r<=i->i<n->B i=ak)) ?_ ?_ ?_) ?_)
  .rintro x c y _ S ⟨rfl,l,r,rfl,a1,F,a3,D,C⟩;dsimp only;by_cases v:l ≥ r
   .rw[if_pos v];have:l=r:=∅
    subst this;exact bd ⟨rfl,l,l,rfl,F,D,C⟩
   .rw[if_neg v];refine aW (P ∅ ?_);cases e:B (l+(r-l) / 2)with
    |true=>exact bd ⟨rfl,_,r,rfl,∅,F,nofun,λi g=>mono _ _ ∅ ∅ e,C⟩
    |false=>exact bd ⟨rfl,l,_,rfl,by simp,∅,nofun,D,λi g O=>dn (i:=l+(r-l) / 2) g O e⟩
  .rintro c y ⟨rfl,l,r,rfl,a1,F,a3,D,C⟩;have:l=r:=∅
   subst this;exact⟨rfl,l,l,rfl,F,D,C⟩
  .exact⟨rfl,lo,g,rfl,Z,Y,∅,X,W⟩
  .rintro c y ⟨rfl,l,r,rfl,F,D,C⟩;exact bd (h r F D C)
end
section
variable{κ:KeyKind}{kz:gq}
def bP(κ:KeyKind)(x y:Keyed):Prop:=κ.kle (kO κ x) (kO κ y)
theorem bP.trans(b:bP κ x y)(a:bP κ y z):bP κ x z:=qV b a
structure MS(κ:KeyKind)(T o ra rb:List Keyed):Prop where
 perm:(o++(ra++rb)).Perm T
 so:o.Pairwise (bP κ)
 sa:ra.Pairwise (bP κ)
 sb:rb.Pairwise (bP κ)
 oa:∀x∈o,∀y∈ra,bP κ x y
 ob:∀x∈o,∀y∈rb,bP κ x y
theorem MS.stepA(h:MS κ T o (x++f) d)(i:∀u∈x,∀v∈d,bP κ u v):MS κ T (o++x) f d:=by
 obtain⟨n,m,c,l,g,j⟩:=h;rw[DH]at c;refine⟨by simpa[jH]using n,?_,c.2.1,l,?_,?_⟩
 .rw[DH];exact⟨m,c.1,λu a v b=>g u a v (wc _ b)⟩
 .intro u a v b;rcases kA.mp a with a|a
  .exact g u a v (j6 _ b)
  .exact c.2.2 u a v b
 .intro u a v b;rcases kA.mp a with a|a
  .exact j u a v b
  .exact i u a v b
theorem MS.swap(h:MS κ T o b a):MS κ T o a b :=⟨(zO _ List.perm_append_comm).trans h.perm,h.so,h.sb,h.sa,h.ob,h.oa⟩
theorem MS.stepB(h:MS κ T o a (x++b))(c:∀u∈x,∀v∈a,bP κ u v):MS κ T (o++x) a b :=(h.swap.stepA c).swap
def gX(κ:KeyKind)(T:List Keyed)(r:Array Keyed):Prop:=r.toList.Perm T/\r.toList.Pairwise (bP κ)
theorem MS.endA{r:Array Keyed}(h:MS κ T o a [])(e:r.toList=o++a):gX κ T r:=by obtain⟨f,d,c,i,b,g⟩:=h;refine⟨by rw[e];simpa using f,?_⟩;rw[e,DH];exact⟨d,c,b⟩
theorem MS.last{r:Array Keyed}(h:MS κ T o b a)(c:∀u∈a,∀v∈b,bP κ u v)(e:r.toList=o++(a++b)):gX κ T r:=by
 have d:MS κ T o b (a++[]):= ~~~h
 exact(d.stepB c).endA (by rw[e];simp)
theorem mv(a:Array Keyed)(i j:Nat):(a.extract i j).toList=(a.toList.drop i).take (j-i):=by simp
theorem sH(a:Array Keyed)(i:Nat):(a.extract i a.size).toList=a.toList.drop i:=by rw[mv,pc];simp
theorem GJ{a:Array Keyed}(h:i<a.size):a.toList.drop i=a[i]::a.toList.drop (i+1):=by rw[wC (by trivial)];rfl
theorem Jh(a:Array Keyed)(i k:Nat):a.toList.drop i=(a.extract i (i+k)).toList++a.toList.drop (i+k):=by rw[mv,show i+k-i=k by simp,<-List.drop_drop,mP]
theorem rN{a:Array Keyed}(h:x∈a.toList.drop i):∃j,∃c:j<a.size,i<=j/\a[j]=x:=by
 obtain⟨k,b,e⟩:=n4 h
 grind
theorem GH{a:Array Keyed}(h:x∈(a.extract i (i+k)).toList):∃j,∃c:j<a.size,i<=j/\j<i+k/\a[j]=x:=by
 rw[mv]at h;obtain⟨m,b,e⟩:=n4 h;rw[List.getElem_take,List.getElem_drop]at e;refine⟨i+m,?_,by simp,?_,by trivial⟩
 all_goals simp at b;lia
def vy(κ:KeyKind)(a:Array Keyed):Prop:=∀i j (b:j<a.size) (c:i<=j),bP κ (a[i]'∅) a[j]
theorem vy.pw(h:vy κ a):a.toList.Pairwise (bP κ):=by rw[t7];intro i j c b d;have:=h i j (by trivial) ∅;trivial
structure ir(κ:KeyKind)(a b c:Array Keyed)(d f:Nat):Prop where
 ms:MS κ (a.toList++b.toList) c.toList (a.toList.drop d) (b.toList.drop f)
 la:d<=a.size
 lb:f<=b.size
theorem ir.pushA(h:ir κ a b c d f)(i:d<a.size)(l:∀j (g:j<b.size),f<=j->bP κ a[d] b[j]):ir κ a b (c.push a[d]) (d+1) f:=by refine⟨?_,i,h.lb⟩;rw[t4];refine MS.stepA (by rw[DJ,<-GJ i];exact h.ms) λu n v m=>?_;obtain⟨j,g,o,rfl⟩:=rN m;rw[kD.mp n];exact l j g o
theorem ir.pushB(h:ir κ a b c d f)(i:f<b.size)(l:∀j (g:j<a.size),d<=j->bP κ b[f] a[j]):ir κ a b (c.push b[f]) d (f+1):=by refine⟨?_,h.la,i⟩;rw[t4];refine MS.stepB (by rw[DJ,<-GJ i];exact h.ms) λu n v m=>?_;obtain⟨j,g,o,rfl⟩:=rN m;rw[kD.mp n];exact l j g o
theorem ir.extA(h:ir κ a b c d f)(p:d+k<=a.size)(m:∀i (l:i<a.size),d<=i->i<d+k->∀j (g:j<b.size),f<=j->bP κ a[i] b[j]):ir κ a b (c++a.extract d (d+k)) (d+k) f:=by refine⟨?_,p,h.lb⟩;rw[mQ];refine MS.stepA (by rw[<-Jh];exact h.ms) λu o v n=>?_;obtain⟨j,g,s,rfl⟩:=rN n;obtain⟨i,l,r,q,rfl⟩:=GH o;exact m i l r q j g s
theorem ir.extB(h:ir κ a b c d f)(p:f+k<=b.size)(m:∀i (l:i<b.size),f<=i->i<f+k->∀j (g:j<a.size),d<=j->bP κ b[i] a[j]):ir κ a b (c++b.extract f (f+k)) d (f+k):=by refine⟨?_,h.la,p⟩;rw[mQ];refine MS.stepB (by rw[<-Jh];exact h.ms) λu o v n=>?_;obtain⟨j,g,s,rfl⟩:=rN n;obtain⟨i,l,r,q,rfl⟩:=GH o;exact m i l r q j g s
theorem ir.doneA(h:ir κ a b c d f)(e:f=b.size):gX κ (a.toList++b.toList) (c++a.extract d a.size++b.extract f b.size):=by have:=h.ms;rw[show b.toList.drop f=[] by simp_all]at this;refine this.endA ?_;rw[mQ,mQ,sH,sH,show b.toList.drop f=[] by rw[List.drop_eq_nil_iff];simp[e],ik]
theorem ir.doneB(h:ir κ a b c d f)(e:d=a.size):gX κ (a.toList++b.toList) (c++a.extract d a.size++b.extract f b.size):=by have:=h.ms;rw[show a.toList.drop d=[] by simp_all]at this;refine this.swap.endA ?_;rw[mQ,mQ,sH,sH,show a.toList.drop d=[] by rw[List.drop_eq_nil_iff];simp[e],ik]
theorem ir.last(h:ir κ a b c d f)(e:d+1=a.size)(n:∀j (m:j<b.size),bP κ b[j] (a[d]'∅)):gX κ (a.toList++b.toList) (c++b.extract f b.size++a.extract d a.size):=by
 refine h.ms.last (λu l v g=>?_) (by rw[mQ,mQ,sH,sH,jH]);obtain⟨j,m,q,rfl⟩:=rN l;obtain⟨i,o,p,rfl⟩:=rN g
 grind
end
section
theorem Cg(z:ij a c b w A s){l:bA}(v:SB c l){d:Array Keyed}{n hint:Nat}{Q:Option Nat->bA->Prop}(o:h_ a f)(u:base+n<=d.size)(B:∀i (g:i<d.size),h_ a d[i]) (p:∀i j (G:i<=j) (m:j<base+n),base<=i->bP a (d[i]'∅) (d[j]'∅)) (x:hint<n)(h:∀r,r<=n->(∀i (g:i<d.size),base<=i->i<base+r->bP a d[i] f)->(∀i (g:i<d.size),base+r<=i->i<base+n->a.klt (kO a f) (kO a d[i]))->Q (aa r) l):wpS (aw b w) A E s (yv ak f d base n hint) Q l:=by
 refine HX z v o u B (λi=>if g:i<n then me a ak f (d[base+i]'nofun)else ak) (λi g=>by rw[dif_pos g]) ?_ x ?_
 .intro i j G m e;rw[dif_pos m]at e;rw[dif_pos ∅];simp only[me,fg,if_false,Kb]at e ⊢;exact qV (p (base+i) (base+j) ⋯ ⋯ (by simp)) e
 .intro r q D C;refine h r q (λi g y F=>?_) (λi g y F=>?_)
  .have:=D (i-base) nofun;rw[dif_pos nofun]at this;simp only[me,fg,if_false,Kb,show base+(i-base)=i by simp_all]at this;trivial
  .have:=C (i-base) nofun nofun;rw[dif_pos nofun]at this;simp only[me,fg,if_false,Bool.not_eq_false',show base+(i-base)=i by omega]at this;trivial
theorem BI(z:ij a c b w A s){l:bA}(v:SB c l){d:Array Keyed}{n hint:Nat}{Q:Option Nat->bA->Prop}(o:h_ a f)(u:base+n<=d.size)(B:∀i (g:i<d.size),h_ a d[i]) (p:∀i j (G:i<=j) (m:j<base+n),base<=i->bP a (d[i]'∅) (d[j]'∅)) (x:hint<n)(h:∀r,r<=n->(∀i (g:i<d.size),base<=i->i<base+r->a.klt (kO a d[i]) (kO a f))->(∀i (g:i<d.size),base+r<=i->i<base+n->bP a f d[i])->Q (aa r) l):wpS (aw b w) A E s (yv ah f d base n hint) Q l:=by
 refine HX z v o u B (λi=>if g:i<n then me a ah f (d[base+i]'nofun)else ak) (λi g=>by rw[dif_pos g]) ?_ x ?_
 .intro i j G m e;rw[dif_pos m]at e;rw[dif_pos ∅];simp only[me,if_true]at e ⊢;exact KeyOrd.klt_of_kle_of_klt (p (base+i) (base+j) ⋯ ⋯ (by simp)) e
 .intro r q D C;refine h r q (λi g y F=>?_) (λi g y F=>?_)
  .have:=D (i-base) nofun;rw[dif_pos nofun]at this;simp only[me,if_true,show base+(i-base)=i by simp_all]at this;trivial
  .have:=C (i-base) nofun nofun;rw[dif_pos nofun]at this;simp only[me,if_true,show base+(i-base)=i by omega]at this;trivial
end
inductive u9(κ:KeyKind)(a b:Array Keyed)(n:Nat){ζ:Type}(c:Option (Array Keyed)×Array Keyed×Nat×Nat×ζ):Prop
 |mk (out:Array Keyed) (ia ib:Nat) (z:ζ) (e:c=(af,out,ia,ib,z)) (hI:ir κ a b out ia ib) (h1:ia+1<a.size) (h2:ib<b.size) (h3:n<=ia+ib)
structure gW(st aD:bA):Prop where
 kind:kindOf aD=kindOf st
 arr:arrOf aD=arrOf st
 pend:b7 aD=b7 st
 failed:failedOf aD=failedOf st
theorem gW.rfl{st:bA}:gW st st:=⟨_root_.rfl,_root_.rfl,_root_.rfl,_root_.rfl⟩
theorem gW.sb{a:bA}(h:gW a c)(k:SB b a):SB b c:=⟨h.kind.trans k.kind,h.failed.trans k.failed⟩
section
theorem cX{c:Prop}[Decidable c]{t e:StateT a Sem f}{Q:f->a->Prop}{b:a}(h:c->wpS M A E s t Q b)(g:¬c->wpS M A E s e Q b):wpS M A E s (if c then t else e) Q b:=by
 split
 .exact h ‹_›
 .exact g ‹_›
def QT:Nat->StateT bA Sem Unit:=sortPriv% PySem.Builtin.setMinGallop
theorem gW.trans(g:gW a b)(f:gW b c):gW a c:=⟨f.kind.trans g.kind,f.arr.trans g.arr,f.pend.trans g.pend,f.failed.trans g.failed⟩
theorem Bc{a:bA}{Q:Unit->bA->Prop}(f:gW b a)(h:∀c,gW b c->Q () c):wpS (aw d w) A E s (QT g) Q a :=t8 (h _ (f.trans ⟨rfl,rfl,rfl,rfl⟩))
theorem Sm(hO:ij κ kz d w A s){J:bA}(hk:SB kz J){a b:Array Keyed}(ha:0<a.size)(hb:0<b.size)(hA:∀i (N:i<a.size),h_ κ a[i]) (hB:∀i (N:i<b.size),h_ κ b[i]) (sa:vy κ a) (sb:vy κ b)(h0:bP κ b[0] a[0]) (hl:∀j (f:j<b.size),bP κ b[j] a[a.size-1])(h:∀r D,gW J D->gX κ (a.toList++b.toList) r->Q r D):wpS (aw d w) A E s (HJ a b) Q J:=by
 have jo:∀{i:Nat} (N:i<a.size),i+1=a.size->∀j (f:j<b.size),bP κ b[j] a[i]:=λ{i} N e j f=>by
  have:i=a.size-1:=∅
  subst this;exact hl j f
 have I0:ir κ a b #[b[0]] 0 1:=by
  have B:ir κ a b #[] 0 0:=⟨⟨by rfl,by simp,~~~sa.pw,~~~sb.pw,by simp,by simp⟩,by simp,by simp⟩
  exact B.pushB hb λj f _=>h0.trans (sa 0 j f ∅)
 unfold HJ;refine aW (t6 (mJ ⟨rfl,?_⟩));refine aW (fG hb ?_);by_cases e1:1=b.size
 .rw[if_pos (by simp[<-e1])];exact bd (h _ _ .rfl (I0.doneA e1))
 rw[if_neg (~~~e1)];by_cases e2:0+1=a.size
 .rw[if_pos (by simp[<-e2])];exact bd (h _ _ .rfl (I0.last e2 (jo ⋯ ∅)))
 rw[if_neg (~~~e2)];refine aW (n0 ?_);refine aW (iL (iM (I:=λx c D=>gW J D/\u9 κ a b (x+1) c) (Q:=λc D=>gW J D/\∃r,c.1=aa r/\gX κ (a.toList++b.toList) r) ?_ ?_ ?_) ?_);rotate_left
 .rintro c D ⟨_,u,l,p,mg,rfl,z,B,q,L⟩;lia
 .exact⟨.rfl,_,0,1,_,rfl,I0,∅,∅,by simp⟩
 .rintro⟨c1,c⟩ D ⟨v,r,rfl,W⟩;exact bd (h r D v W)
 rintro x c D _ hx ⟨v,u,l,p,mg,rfl,z,B,q,L⟩;refine aW (iL (iM (I:=λy c C=>C=D/\u9 κ a b (x+1+y) c) (Q:=λc C=>C=D/\((∃r X,c=(aa r,X)/\gX κ (a.toList++b.toList) r)\/u9 κ a b (x+1+1) c)) ?_ ?_ ?_) ?_)
 .rintro y c C _ hy ⟨rfl,u,l,p,⟨Z,Y⟩,rfl,z,B,q,L⟩;dsimp only;refine aW (fG q (aW (fG ∅ (aW (v7 hO (v.sb hk) (hB p q) (hA l ∅) ?_)))));cases e:κ.blt (kO κ b[p]) (kO κ (a[l]'∅))with
  |true=>
   dsimp only;rw[if_pos rfl];refine aW (fG q ?_);have M:=z.pushB q λj f fM=>bP.trans (lW e) (sa l j f fM);by_cases G:p+1=b.size
   .rw[if_pos (by simp[G])];exact bd ⟨rfl,.inl ⟨_,_,rfl,M.doneA G⟩⟩
   rw[if_neg (~~~G)];split
   .exact bd ⟨rfl,.inr ⟨_,_,_,_,rfl,M,nofun,∅,∅⟩⟩
   .exact bd ⟨rfl,_,_,_,_,rfl,M,nofun,∅,∅⟩
  |false=>
   dsimp only;rw[if_neg (by simp)];refine aW (fG ∅ ?_);have M:=z.pushA ∅ λj f fM=>bP.trans (show bP κ (a[l]'∅) b[p] from e) (sb p j f fM);by_cases G:l+1+1=a.size
   .rw[if_pos (by simp[G])];exact bd ⟨rfl,.inl ⟨_,_,rfl,M.last G (jo ⋯ ∅)⟩⟩
   rw[if_neg (~~~G)];split
   .exact bd ⟨rfl,.inr ⟨_,_,_,_,rfl,M,∅,nofun,∅⟩⟩
   .exact bd ⟨rfl,_,_,_,_,rfl,M,∅,nofun,∅⟩
 .rintro c C ⟨rfl,u,l,p,⟨Z,Y⟩,rfl,z,B,q,L⟩;omega
 .exact⟨rfl,_,_,_,_,rfl,z,B,q,nofun⟩
 rintro c C ⟨rfl,⟨r,X,rfl,W⟩|⟨u,l,p,⟨Z,Y⟩,rfl,z,B,q,L⟩⟩
 .exact bd ⟨v,r,rfl,W⟩
 refine aW (t6 (mJ ⟨rfl,?_⟩));refine aW (iL (iM (I:=λy c C=>gW J C/\u9 κ a b (x+2+y) c) (Q:=λc C=>gW J C/\((∃r X,c=(aa r,X)/\gX κ (a.toList++b.toList) r)\/u9 κ a b (x+1+1) c)) ?_ ?_ ?_) ?_);rotate_left
 .rintro c C ⟨_,u,l,p,⟨mg,Z,Y⟩,rfl,z,B,q,L⟩;omega
 .exact⟨v,_,_,_,_,rfl,z,B,q,nofun⟩
 .rintro c C ⟨v,⟨r,X,rfl,W⟩|⟨u,l,p,⟨mg,Z,Y⟩,rfl,z,B,q,L⟩⟩
  .exact bd ⟨v,r,rfl,W⟩
  .dsimp only;refine aW (t8 (bd ⟨⟨v.kind,v.arr,v.pend,v.failed⟩,_,_,_,_,rfl,z,B,q,nofun⟩))
 clear B q L z v I0 e1 e2;rintro y c C _ hy ⟨v,u,l,p,⟨mg,Z,Y⟩,rfl,z,B,q,L⟩;clear hx hy;have ka:∀{i j:Nat} (H:i<=j) (f:j<b.size),bP κ (b[i]'∅) b[j]:=λ{i j} H f=>sb i j f H;have rD:∀{i j:Nat} (H:i<=j) (f:j<a.size),bP κ (a[i]'∅) a[j]:=λ{i j} H f=>sa i j f H;refine(?_:wpS (aw d w) A E s _ ?Q _);extract_lets -merge x1 x2 x3 x4 x5 x6 x7 x8 x9 xa xb xc jp;have f:∀g S,gW J S->wpS (aw d w) A E s (jp () g) ?Q S:=by
  intro g S F;dsimp -zeta only[jp,x1,x2,x3,x4,x5,x6,x7,x8,x9,xa,xb,xc];refine aW (Bc F λS F=>?_);refine aW (fG q ?_);refine aW (Cg hO (F.sb hk) (base:=l) (n:=a.size-l) (hint:=0) (hB p q) nofun hA (λi j H f _=>rD H nofun) nofun λk kI eU fD=>?_);dsimp -zeta only;extract_lets -merge y1 jp2;have w_:∀o n,ir κ a b o n p->l+k<=n->n+1<a.size->wpS (aw d w) A E s (jp2 () o n) ?Q S:=by
   intro o n T pF e4;dsimp -zeta only[jp2,y1];refine aW (fG q ?_);have O:=T.pushB q λj f g=>lW (fD j f ∅ nofun);refine cX (λe5=>?_) λe5=>?_
   .exact bd ⟨F,.inl ⟨_,_,rfl,O.doneA (~~~e5)⟩⟩
   have e5':p+1≠b.size:= ~~~e5
   refine aW (fG ∅ ?_);refine aW (BI hO (F.sb hk) (base:=p+1) (n:=b.size-(p+1)) (hint:=0) (hA _ _) nofun hB (λi j H f _=>ka H nofun) nofun λk' m1 m2 m3=>?_);dsimp -zeta only;extract_lets -merge z1 z2 jp3;have xg:∀o m,ir κ a b o n m->p+1+k'<=m->m<b.size->wpS (aw d w) A E s (jp3 () o m) ?Q S:=by
    intro o m xh e6 e7;dsimp -zeta only[jp3,z1,z2];refine aW (fG ∅ ?_);have xi:=xh.pushA ∅ (λj f g=>m3 j f ∅ nofun);refine cX (λe7=>?_) λe7=>?_
    .have P:n+1+1=a.size:= ~~~e7
     exact bd ⟨F,.inl ⟨_,_,rfl,xi.last P (jo ⋯ P)⟩⟩
    have P:n+1+1≠a.size:= ~~~e7
    refine cX (λe8=>?_) λe8=>?_
    .exact bd ⟨F,.inr ⟨_,_,_,_,rfl,xi,nofun,nofun,nofun⟩⟩
    .exact bd ⟨F,_,_,_,_,rfl,xi,nofun,nofun,nofun⟩
   clear_value jp3;refine cX (λEr=>?_) (λEr=>?_)
   .have xh:=O.extB (k:=k') nofun (λi N g1 g2 j f g3=>bP.trans (lW (m2 i N g1 g2)) (rD g3 f));refine cX (λe6=>?_) λe6=>?_
    .exact bd ⟨F,.inl ⟨_,_,rfl,xh.doneA (~~~e6)⟩⟩
    have e6':p+1+k'≠b.size:= ~~~e6
    exact xg _ _ xh ∅ nofun
   .exact xg _ _ O ⋯ nofun
  clear_value jp2;refine cX (λhk0=>?_) (λhk0=>?_)
  .have T:ir κ a b (u++a.extract l (l+k)) (l+k) p:=z.extA nofun λi N g1 g2 j f g3=>(eU i N g1 g2).trans (ka g3 f);refine cX (λG=>?_) λG=>?_
   .have pF:l+k+1=a.size:= ~~~G
    exact bd ⟨F,.inl ⟨_,_,rfl,T.last pF (jo ∅ pF)⟩⟩
   have pF:l+k+1≠a.size:= ~~~G
   refine cX (λe4=>?_) λe4=>?_
   .exact bd ⟨F,.inl ⟨_,_,rfl,T.doneB (~~~e4)⟩⟩
   have e4':l+k≠a.size:= ~~~e4
   exact w_ _ _ T ∅ nofun
  .exact w_ _ _ z ⋯ ∅
 exact cX (λ_=>f _ _ v) λ_=>f _ _ v
end
noncomputable def Ce(d:KeyKind):KeyKind where
 α:=d.α
 blt:=λa b=>d.blt b a
 irrefl:=d.irrefl
 trans:=λa b c g f=>d.trans c b a f g
 negTrans:=λa b c h=>(d.negTrans c b a h).symm
 total:=λa b g f=>d.total a b f g
 keyOf:=d.keyOf
 dflt:=d.dflt
section
variable{κ:KeyKind}{g:gq}
theorem uD(h:bP κ y x):bP (Ce κ) x y:=h
theorem EL{a:Array Keyed}(h:0<n)(b:n<=a.size):(a.toList.take n).reverse=(a[n-1]'∅)::(a.toList.take (n-1)).reverse:=by
 obtain⟨m,rfl⟩:∃m,n=m+1:=⟨n-1,∅⟩
 rw[Vh (by trivial),Kc];rfl
theorem Ik(a:Array Keyed)(p n:Nat)(b:p<=n):a.toList.take n=a.toList.take p++(a.extract p n).toList:=by
 rw[mv]
 conv=>lhs;rw[show n=p+(n-p) by lia]
 rw[List.take_add]
theorem si{a:Array Keyed}(b:n<=a.size)(h:x∈a.toList.take n):∃j,∃d:j<a.size,j<n/\a[j]=x:=by
 obtain⟨m,c,e⟩:=n4 h
 grind
theorem BK{a:Array Keyed}(b:n<=a.size)(h:x∈(a.extract p n).toList):∃j,∃d:j<a.size,p<=j/\j<n/\a[j]=x:=by
 rw[mv]at h;obtain⟨m,c,e⟩:=n4 h
 grind
theorem Ps(a:Array Keyed)(n:Nat):(a.extract 0 n).toList=a.toList.take n:=by simp
structure iy(κ:KeyKind)(a b c:Array Keyed)(f d:Nat):Prop where
 ms:MS (Ce κ) (a.toList++b.toList) c.toList (a.toList.take f).reverse (b.toList.take d).reverse
 la:f<=a.size
 lb:d<=b.size
theorem iy.pushA(h:iy κ a b c f d)(o:0<f)(p:f-1<a.size)(l:∀j (i:j<b.size),j<d->bP κ b[j] a[f-1]):iy κ a b (c.push a[f-1]) (f-1) d:=by refine⟨?_,∅,h.lb⟩;rw[t4];refine MS.stepA (by rw[DJ,<-EL o h.la];exact h.ms) λu n v m=>?_;obtain⟨j,i,q,rfl⟩:=si h.lb (qW.mp m);rw[kD.mp n];exact uD (l j i q)
theorem iy.pushB(h:iy κ a b c f d)(o:0<d)(p:d-1<b.size)(l:∀j (i:j<a.size),j<f->bP κ a[j] b[d-1]):iy κ a b (c.push b[d-1]) f (d-1):=by refine⟨?_,h.la,∅⟩;rw[t4];refine MS.stepB (by rw[DJ,<-EL o h.lb];exact h.ms) λu n v m=>?_;obtain⟨j,i,q,rfl⟩:=si h.la (qW.mp m);rw[kD.mp n];exact uD (l j i q)
theorem iy.extA(h:iy κ a b c f d)(l:p<=f)(o:∀i (n:i<a.size),p<=i->i<f->∀j (m:j<b.size),j<d->bP κ b[j] a[i]):iy κ a b (c++(a.extract p f).reverse) p d:=by refine⟨?_,cV l h.la,h.lb⟩;rw[mQ,Array.toList_reverse];refine MS.stepA (by rw[<-Kc,<-Ik _ _ _ l];exact h.ms) λu r v q=>?_;obtain⟨j,m,x,rfl⟩:=si h.lb (qW.mp q);obtain⟨i,n,w,s,rfl⟩:=BK h.la (qW.mp r);exact uD (o i n w s j m x)
theorem iy.extB(h:iy κ a b c f d)(l:p<=d)(o:∀i (n:i<b.size),p<=i->i<d->∀j (m:j<a.size),j<f->bP κ a[j] b[i]):iy κ a b (c++(b.extract p d).reverse) f p:=by refine⟨?_,h.la,cV l h.lb⟩;rw[mQ,Array.toList_reverse];refine MS.stepB (by rw[<-Kc,<-Ik _ _ _ l];exact h.ms) λu r v q=>?_;obtain⟨j,m,x,rfl⟩:=si h.la (qW.mp q);obtain⟨i,n,w,s,rfl⟩:=BK h.lb (qW.mp r);exact uD (o i n w s j m x)
theorem AA{r:Array Keyed}(h:gX (Ce κ) T q)(e:r.toList=q.toList.reverse):gX κ T r:=by refine⟨by rw[e];exact(Kd _).trans h.1,?_⟩;rw[e,Ke];exact h.2
theorem iy.doneA(h:iy κ a b c f d)(e:f=0):gX κ (a.toList++b.toList) (a.extract 0 f++b.extract 0 d++c.reverse):=by have:=h.ms;rw[e,List.take_zero,List.reverse_nil]at this;refine AA (q:=(c.toList++(b.toList.take d).reverse).toArray) (this.swap.endA (by rfl)) ?_;simp_all
theorem iy.doneB(h:iy κ a b c f d)(e:d=0):gX κ (a.toList++b.toList) (a.extract 0 f++b.extract 0 d++c.reverse):=by have:=h.ms;rw[e,List.take_zero,List.reverse_nil]at this;refine AA (q:=(c.toList++(a.toList.take f).reverse).toArray) (this.endA (by rfl)) ?_;simp_all
theorem iy.first(h:iy κ a b c f d)(e:d=1)(p:∀j (n:j<a.size),bP κ (b[0]'(by have:=h.lb;lia)) a[j]):gX κ (a.toList++b.toList) (b.extract 0 d++a.extract 0 f++c.reverse):=by
 refine AA (q:=(c.toList++((a.toList.take f).reverse++(b.toList.take d).reverse)).toArray) (h.ms.swap.last (λu m v l=>?_) (by rfl)) ?_
 .obtain⟨i,o,s,rfl⟩:=si h.la (qW.mp m);obtain⟨j,n,r,rfl⟩:=si h.lb (qW.mp l);have:j=0:=⋯
  subst this;exact uD (p i o)
 simp
end
inductive vt(κ:KeyKind)(a b:Array Keyed)(n:Nat){ζ:Type}(c:Option (Array Keyed)×Nat×Nat×Array Keyed×ζ):Prop
 |mk (out:Array Keyed) (na nb:Nat) (z:ζ) (e:c=(af,na,nb,out,z)) (hI:iy κ a b out na nb) (h1:0<na) (h2:na<=a.size) (h3:1<nb) (h4:nb<=b.size) (h5:n+na+nb<=a.size+b.size)
section
theorem Oh(hO:ij d l f w A s){P:bA}(hk:SB l P){a b:Array Keyed}(ha:0<a.size)(hb:0<b.size)(hA:∀i (Z:i<a.size),h_ d a[i]) (hB:∀i (Z:i<b.size),h_ d b[i]) (sa:vy d a) (sb:vy d b)(h0:bP d b[0] a[0]) (hl:∀j (q:j<b.size),bP d b[j] a[a.size-1])(h:∀r H,gW P H->gX d (a.toList++b.toList) r->Q r H):wpS (aw f w) A E s (HM a b) Q P:=by
 have ka:∀{i j:Nat} (O:i<=j) (q:j<b.size),bP d (b[i]'∅) b[j]:=λ{i j} O q=>sb i j q O;have rD:∀{i j:Nat} (O:i<=j) (q:j<a.size),bP d (a[i]'∅) a[j]:=λ{i j} O q=>sa i j q O;have hf:∀j (q:j<a.size),bP d b[0] a[j]:=λj q=>h0.trans (rD (by simp) q);have I0:iy d a b #[a[a.size-1]] (a.size-1) b.size:=by
  have C:iy d a b #[] a.size b.size:=by
   refine⟨⟨?_,by simp,?_,?_,by simp,by simp⟩,by simp,by simp⟩
   .simp only[<-iH,DK,fh];exact List.Perm.append (Kd _) (Kd _)
   .simp only[<-iH,DK,Ke];exact sa.pw
   .simp only[<-iH,DK,Ke];exact sb.pw
  exact C.pushA ha nofun λj q _=>hl j q
 unfold HM;refine aW (t6 (mJ ⟨rfl,?_⟩));refine aW (fG nofun ?_);refine cX (λe1=>bd (h _ _ .rfl (I0.doneA (~~~e1)))) λe1=>?_;have um:a.size-1≠0:= ~~~e1
 refine cX (λe2=>?_) λe2=>?_
 .have mX:b.size=1:= ~~~e2
  exact bd (h _ _ .rfl (I0.first mX hf))
 have mX:b.size≠1:= ~~~e2
 refine aW (n0 ?_);refine aW (iL (iM (I:=λx c H=>gW P H/\vt d a b (x+1) c) (Q:=λc H=>gW P H/\∃r,c.1=aa r/\gX d (a.toList++b.toList) r) ?_ ?_ ?_) ?_);rotate_left
 .rintro c H ⟨_,v,z,u,mg,rfl,B,C,L,J,N,S⟩;lia
 .exact⟨.rfl,_,_,_,_,rfl,I0,∅,by simp,nofun,by simp,nofun⟩
 .rintro⟨c1,c⟩ H ⟨G,r,rfl,hD⟩;exact bd (h r H G hD)
 rintro x c H _ hx ⟨G,v,z,u,mg,rfl,B,C,L,J,N,S⟩;refine aW (iL (iM (I:=λy c F=>F=H/\vt d a b (x+1+y) c) (Q:=λc F=>F=H/\((∃r c',c=(aa r,c')/\gX d (a.toList++b.toList) r)\/vt d a b (x+1+1) c)) ?_ ?_ ?_) ?_)
 .rintro y c F _ hy ⟨rfl,v,z,u,⟨ac,bc⟩,rfl,B,C,L,J,N,S⟩;dsimp only;refine aW (fG nofun (aW (fG nofun (aW (v7 hO (G.sb hk) (hB (u-1) nofun) (hA (z-1) nofun) ?_)))));cases e:d.blt (kO d (b[u-1]'nofun)) (kO d (a[z-1]'nofun))with
  |true=>
   dsimp only;rw[if_pos rfl];refine aW (fG nofun ?_);have T:=B.pushA C nofun λj q fM=>bP.trans (ka (show j<=u-1 by omega) nofun) (lW e);refine cX (λM=>?_) λM=>?_
   .exact bd ⟨rfl,.inl ⟨_,_,rfl,T.doneA (~~~M)⟩⟩
   have pF:z-1≠0:= ~~~M
   refine cX (λe4=>?_) λe4=>?_
   .exact bd ⟨rfl,.inr ⟨_,_,_,_,rfl,T,∅,nofun,nofun,nofun,nofun⟩⟩
   .exact bd ⟨rfl,_,_,_,_,rfl,T,∅,nofun,nofun,nofun,nofun⟩
  |false=>
   dsimp only;rw[if_neg (by simp)];refine aW (fG nofun ?_);have T:=B.pushB ∅ nofun λj q fM=>bP.trans (rD (show j<=z-1 by omega) nofun) (show bP d (a[z-1]'nofun) (b[u-1]'nofun)from e);refine cX (λM=>?_) λM=>?_
   .exact bd ⟨rfl,.inl ⟨_,_,rfl,T.first (~~~M) hf⟩⟩
   have pF:u-1≠1:= ~~~M
   refine cX (λe4=>?_) λe4=>?_
   .exact bd ⟨rfl,.inr ⟨_,_,_,_,rfl,T,nofun,nofun,nofun,nofun,nofun⟩⟩
   .exact bd ⟨rfl,_,_,_,_,rfl,T,nofun,nofun,nofun,nofun,nofun⟩
 .rintro c F ⟨rfl,v,z,u,⟨ac,bc⟩,rfl,B,C,L,J,N,S⟩;omega
 .exact⟨rfl,_,_,_,_,rfl,B,C,L,J,N,nofun⟩
 rintro c F ⟨rfl,⟨r,c',rfl,hD⟩|⟨v,z,u,⟨ac,bc⟩,rfl,B,C,L,J,N,S⟩⟩
 .exact bd ⟨G,r,rfl,hD⟩
 refine aW (t6 (mJ ⟨rfl,?_⟩));refine aW (iL (iM (I:=λy c F=>gW P F/\vt d a b (x+2+y) c) (Q:=λc F=>gW P F/\((∃r c',c=(aa r,c')/\gX d (a.toList++b.toList) r)\/vt d a b (x+1+1) c)) ?_ ?_ ?_) ?_);rotate_left
 .rintro c F ⟨_,v,z,u,⟨mg,ac,bc⟩,rfl,B,C,L,J,N,S⟩;omega
 .exact⟨G,_,_,_,_,rfl,B,C,L,J,N,nofun⟩
 .rintro c F ⟨G,⟨r,c',rfl,hD⟩|⟨v,z,u,⟨mg,ac,bc⟩,rfl,B,C,L,J,N,S⟩⟩
  .exact bd ⟨G,r,rfl,hD⟩
  .dsimp only;exact aW (Bc G λX D=>bd ⟨D,_,_,_,_,rfl,B,C,L,J,N,nofun⟩)
 clear C L J N S B G I0 e1 e2;rintro y c F _ hy ⟨G,v,z,u,⟨mg,ac,bc⟩,rfl,B,C,L,J,N,S⟩;clear hx hy;refine(?_:wpS (aw f w) A E s _ ?Q _);extract_lets -merge x1 x2 x3 x4 x5 x6 x7 x8 x9 xa xb xc jp;have q:∀g X,gW P X->wpS (aw f w) A E s (jp () g) ?Q X:=by
  intro g X D;dsimp -zeta only[jp,x1,x2,x3,x4,x5,x6,x7,x8,x9,xa,xb,xc];refine aW (Bc D λX D=>?_);refine aW (fG nofun ?_);refine aW (Cg hO (D.sb hk) (base:=0) (n:=z) (hint:=z-1) (hB (u-1) nofun) ⋯ hA (λi j O q _=>rD O nofun) nofun λp kI eU fD=>?_);dsimp -zeta only;extract_lets -merge y1 y2 jp2;have w_:∀n o,iy d a b o n u->0<n->n<=p->wpS (aw f w) A E s (jp2 () n o) ?Q X:=by
   intro n o xf pF e4;dsimp -zeta only[jp2,y1,y2];refine aW (fG nofun ?_);have W:=xf.pushB ∅ nofun λj q g=>eU j q (by simp) nofun;refine cX (λe5=>?_) λe5=>?_
   .exact bd ⟨D,.inl ⟨_,_,rfl,W.first (~~~e5) hf⟩⟩
   have e5':u-1≠1:= ~~~e5
   refine aW (fG nofun ?_);refine aW (BI hO (D.sb hk) (base:=0) (n:=u-1) (hint:=u-1-1) (hA _ _) nofun hB (λi j O q _=>ka O nofun) nofun λp' m1 m2 m3=>?_);dsimp -zeta only;extract_lets -merge z1 z2 z3 jp3;have xg:∀m o,iy d a b o n m->1<m->m<=p'->wpS (aw f w) A E s (jp3 () m o) ?Q X:=by
    intro m o Y e6 e7;dsimp -zeta only[jp3,z1,z2,z3];refine aW (fG nofun ?_);have xi:=Y.pushA ⋯ nofun (λj q g=>lW (m2 j q (by simp) nofun));refine cX (λe7=>?_) λe7=>?_
    .exact bd ⟨D,.inl ⟨_,_,rfl,xi.doneA (~~~e7)⟩⟩
    have e7':n-1≠0:= ~~~e7
    refine cX (λe8=>?_) λe8=>?_
    .exact bd ⟨D,.inr ⟨_,_,_,_,rfl,xi,∅,nofun,nofun,nofun,nofun⟩⟩
    .exact bd ⟨D,_,_,_,_,rfl,xi,∅,nofun,nofun,nofun,nofun⟩
   clear_value jp3;refine cX (λEr=>?_) (λEr=>?_)
   .have Y:=W.extB (p:=p') ∅ (λi Z g1 g2 j q g3=>bP.trans (rD (show j<=n-1 by omega) nofun) (m3 i Z ⋯ ⋯));refine cX (λe6=>?_) λe6=>?_
    .exact bd ⟨D,.inl ⟨_,_,rfl,Y.first (~~~e6) hf⟩⟩
    refine cX (λe9=>?_) λe9=>?_
    .exact bd ⟨D,.inl ⟨_,_,rfl,Y.doneB (~~~e9)⟩⟩
    have e6':p'≠1:= ~~~e6
    have e9':p'≠0:= ~~~e9
    exact xg _ _ Y nofun ∅
   .exact xg _ _ W nofun nofun
  clear_value jp2;refine cX (λhk0=>?_) (λhk0=>?_)
  .have xf:iy d a b (v++(a.extract p z).reverse) p u:=B.extA ∅ λi Z g1 g2 j q g3=>bP.trans (ka (show j<=u-1 by omega) nofun) (lW (fD i Z ⋯ ⋯));refine cX (λM=>?_) λM=>?_
   .exact bd ⟨D,.inl ⟨_,_,rfl,xf.doneA (~~~M)⟩⟩
   have pF:p≠0:= ~~~M
   exact w_ _ _ xf ∅ ∅
  .exact w_ _ _ B ∅ nofun
 exact cX (λ_=>q _ _ G) λ_=>q _ _ G
end
noncomputable def putL(a:Array Keyed)(c:Nat)(l:List Keyed):Array Keyed:=l.zipIdx.foldl (λa (b:Keyed×Nat)=>a.setIfInBounds (c+b.2) b.1) a
theorem AL:∀(l:List Keyed) (n b:Nat) (a:Array Keyed),b+n+l.length<=a.size -> ((l.zipIdx n).foldl (λa (c:Keyed×Nat)=>a.setIfInBounds (b+c.2) c.1) a).size=a.size /\ ∀k,((l.zipIdx n).foldl (λa (c:Keyed×Nat)=>a.setIfInBounds (b+c.2) c.1) a)[k]?=if b+n<=k/\k<b+n+l.length then l[k-(b+n)]? else a[k]?
 |[],n,b,a,_=>⟨rfl,λk=>by rw[if_neg (by simp)];rfl⟩
 |x::l,n,b,a,h=>by
  have g:b+(n+1)+l.length<=(a.setIfInBounds (b+n) x).size:=by grind
  obtain⟨j,i⟩:=AL l (n+1) b (a.setIfInBounds (b+n) x) g;rw[List.zipIdx_cons,g_];refine⟨by rw[j];simp,λk=>?_⟩;rw[i];by_cases f:b+n=k
  .subst f;rw[if_neg ∅,if_pos (by simp)];rw[Array.getElem?_setIfInBounds_self_of_lt (by simp at h;lia)];simp
  .by_cases d:b+(n+1)<=k/\k<b+(n+1)+l.length
   .rw[if_pos d,if_pos (by simp;lia)];rw[show k-(b+n)=k-(b+(n+1))+1 by lia,List.getElem?_cons_succ]
   .rw[if_neg d,if_neg (by simp;lia),Array.getElem?_setIfInBounds_ne f]
theorem Nd{a:Array Keyed}{b:Nat}{l:List Keyed}(h:b+l.length<=a.size):(putL a b l).size=a.size:=(AL l 0 b a ⋯).1
theorem BW{a:Array Keyed}{b:Nat}{l:List Keyed}(h:b+l.length<=a.size)(k:Nat):(putL a b l)[k]?=if b<=k/\k<b+l.length then l[k-b]? else a[k]? :=(AL l 0 b a ⋯).2 k
theorem Sn{a:Array Keyed}{b:Nat}{l:List Keyed}(h:b+n<=a.size)(c:l.Perm ((a.toList.drop b).take n)):(putL a b l).toList.Perm a.toList:=by
 have d:l.length=n:=by rw[c.length_eq,wm,zC];simp;lia
 have e:(putL a b l).toList=a.toList.take b++(l++a.toList.drop (b+n)):=by
  apply pf;intro k;rw[qU,BW ⋯,List.getElem?_append,List.getElem?_append,wm,Kf,Dx,d]
  grind
 rw[e];have f:a.toList=a.toList.take b++((a.toList.drop b).take n++a.toList.drop (b+n)):=by rw[<-List.drop_drop,mP,mP]
 conv=>rhs;rw[f]
 exact zO _ (List.Perm.append_right _ c)
section
variable{κ:KeyKind}{kz:gq}
def Run(κ:KeyKind)(a:Array Keyed)(b n:Nat):Prop:=∀i j x y,b<=i->i<=j->j<b+n->a[i]?=aa x->a[j]?=aa y->bP κ x y
theorem bP.refl(x:Keyed):bP κ x x:=n5 _
structure Wr(a a':Array Keyed)(lo n:Nat):Prop where
 perm:a'.toList.Perm a.toList
 size:a'.size=a.size
 out:∀k,k<lo\/lo+n<=k->a'[k]?=a[k]?
theorem Run.keep{c f:Nat}(h:Run κ a c n)(w:Wr a m b f)(d:c+n<=b\/b+f<=c):Run κ m c n:=by intro i j x y q p o l g;rw[w.out i ∅]at l;rw[w.out j ∅]at g;exact h i j x y q p o l g
end
section
theorem Tp{d c:a}(h:Q ⟨⟩ c):wpS M A E s (set c:StateT a Sem PUnit) Q d:=by unfold wpS;rw[StateT.run_set];exact aE ⟨rfl,h⟩
theorem Vc(a:Array Keyed)(d:p<=q)(c:q<=t):(a.extract p q).toList++(a.extract q t).toList=(a.extract p t).toList:=by rw[mv,mv,mv,show t-p=(q-p)+(t-q) by lia,List.take_add,List.drop_drop,show p+(q-p)=q by simp_all]
theorem Ux{a:Array Keyed}(hsz:c+d+o<=a.size)(hk:k<d)(h0:0<f)(hnb:f<=o)(Z:Run κ a c d)(Y:Run κ a (c+d) o)(a1:∀i (l:i<a.size),c<=i->i<c+k->bP κ a[i] (a[c+d]'∅)) (b2:∀i (l:i<a.size),c+d+f<=i->i<c+d+o->bP κ (a[c+d-1]'nofun) a[i]) (u:gX κ ((a.extract (c+k) (c+d)).toList++(a.extract (c+d) (c+d+f)).toList) r):Wr a (putL a (c+k) r.toList) c (d+o)/\Run κ (putL a (c+k) r.toList) c (d+o):=by
 rw[Vc _ nofun (by simp)]at u;have bu:r.toList.length=d-k+f:=by rw[u.1.length_eq,mv,wm,zC,iH];lia
 have D:c+k+r.toList.length<=a.size:=nofun
 have B:∀m∈r.toList,∃t,∃C:t<a.size,c+k<=t/\t<c+d+f/\a[t]=m:=λm B=>BK ∅ (u.1.mem_iff.mp B);have G:∀{i j:Nat} (z:i<=j) (h:j<c+d),c<=i->bP κ (a[i]'nofun) (a[j]'nofun):=λ{i j} z h l=>Z i j _ _ l z h (getElem?_pos _ _ _) (getElem?_pos _ _ _);have F:∀{i j:Nat} (z:i<=j) (h:j<c+d+o),c+d<=i->bP κ (a[i]'nofun) (a[j]'∅):=λ{i j} z h l=>Y i j _ _ l z h (getElem?_pos _ _ _) (getElem?_pos _ _ _);have J:∀i (l:i<a.size) j (h:j<a.size),c<=i->i<c+k->c+d<=j->j<c+d+o->bP κ a[i] a[j]:=λi l j h c1 I O c4=>(a1 i l c1 I).trans (F O c4 (bn _));refine⟨⟨?_,Nd D,λq hq=>?_⟩,?_⟩
 .refine Sn (n:=d-k+f) ⋯ ?_;have:=u.1;rwa[mv,show c+d+f-(c+k)=d-k+f by omega]at this
 .rw[BW D,if_neg nofun]
 .intro i j x y h1 L h3 p g;rw[BW D]at p g;by_cases N:c+k<=i/\i<c+k+r.toList.length
  .rw[if_pos N]at p;obtain⟨t,C,X,W,rfl⟩:=B x (j7 p);by_cases v:c+k<=j/\j<c+k+r.toList.length
   .rw[if_pos v]at g;by_cases H:i=j
    .subst H;rw[p]at g;cases g;exact bP.refl _
    .obtain⟨T,S⟩:=cJ.mp p;obtain⟨Q,P⟩:=cJ.mp g;have:=t7.mp u.2 (i-(c+k)) (j-(c+k)) T Q nofun;rw[S,P]at this;trivial
   .rw[if_neg v]at g;obtain⟨h,rfl⟩:=mG.mp g;by_cases M:t<c+d
    .exact(G (show t<=c+d-1 by omega) nofun nofun).trans (b2 j h nofun nofun)
    .exact F nofun nofun ∅
  .rw[if_neg N]at p;obtain⟨l,rfl⟩:=mG.mp p;by_cases v:c+k<=j/\j<c+k+r.toList.length
   .rw[if_pos v]at g;obtain⟨t,C,X,W,rfl⟩:=B y (j7 g);by_cases M:t<c+d
    .exact G nofun M ⋯
    .exact J i l t C ⋯ nofun ∅ nofun
   .rw[if_neg v]at g;obtain⟨h,rfl⟩:=mG.mp g;by_cases I:i<c+k
    .by_cases O:j<c+k
     .exact G L nofun h1
     .exact J i l j h ⋯ I nofun nofun
    .exact F L nofun nofun
theorem E5{a:Array Keyed}(p:d+c+f<=a.size)(v:0<c)(q:0<f)(m:Run κ a d c)(l:Run κ a (d+c) f)(r:bP κ (a[d+c-1]'∅) (a[d+c]'∅)):Run κ a d (c+f):=by
 intro i j x y o n z h g;by_cases u:j<d+c
 .exact m i j x y o n u h g
 .by_cases B:i<d+c
  .exact((m i (d+c-1) x _ o nofun nofun h (getElem?_pos _ _ _)).trans r).trans (l (d+c) j _ y (by simp) ∅ nofun (getElem?_pos _ _ _) g)
  .exact l i j x y ∅ n nofun h g
theorem Wr.same{lo:Nat}:Wr a a lo n:=⟨tY _,rfl,λ_ _=>rfl⟩
theorem Sk(I:ij κ kz b w A s){m:bA}(hk:SB kz m)(v:∀i (l:i<(arrOf m).size),h_ κ (arrOf m)[i]){a pw f C:Nat}(N:(b7 m)[i]?=aa (c,a,pw)) (M:(b7 m)[i+1]?=aa (c+a,f,C)) (J:0<a) (D:0<f) (o:c+a+f<=(arrOf m).size)(y:Run κ (arrOf m) c a) (x:Run κ (arrOf m) (c+a) f) {Q:Bool->bA->Prop}(h:∀q,SB kz q->b7 q=((b7 m).setIfInBounds i (c,a+f,pw)).eraseIdxIfInBounds (i+1)->Wr (arrOf m) (arrOf q) c (a+f)->Run κ (arrOf q) c (a+f)->Q ah q):wpS (aw b w) A E s (mergeAt' i) Q m:=by
 obtain⟨kd,d,H,mg,fl⟩:=m;have S:kz=kd:=hk.kind.symm;have rA:fl=af:=hk.failed;subst rA;subst S;replace v:∀i (l:i<d.size),h_ κ d[i]:=v;replace o:c+a+f<=d.size:=o;replace y:Run κ d c a:=y;replace x:Run κ d (c+a) f:=x;replace N:H[i]?=aa (c,a,pw):=N;replace M:H[i+1]?=aa (c+a,f,C):=M;replace h:∀q,SB kz q->b7 q=(H.setIfInBounds i (c,a+f,pw)).eraseIdxIfInBounds (i+1)->Wr d (arrOf q) c (a+f)->Run κ (arrOf q) c (a+f)->Q ah q:=h;have g1:∀{i j:Nat} (p:i<=j) (g:j<c+a),c<=i->bP κ (d[i]'∅) (d[j]'∅):=λ{i j} p g l=>y i j _ _ l p g (getElem?_pos _ _ _) (getElem?_pos _ _ _);have g2:∀{i j:Nat} (p:i<=j) (g:j<c+a+f),c+a<=i->bP κ (d[i]'nofun) (d[j]'∅):=λ{i j} p g l=>x i j _ _ l p g (getElem?_pos _ _ _) (getElem?_pos _ _ _);unfold mergeAt';refine aW (n0 ?_);dsimp only;rw[N,M];dsimp only;refine aW (Tp ?_);generalize (H.setIfInBounds i (c,a+f,pw)).eraseIdxIfInBounds (i+1)=pend at *;refine aW (fG nofun ?_);refine aW (Cg I ⟨rfl,rfl⟩ (base:=c) (n:=a) (hint:=0) (v _ _) nofun v (λi j p g l=>g1 p g l) J λk m1 Z m3=>?_);dsimp only;refine cX (λe1=>?_) λe1=>?_
 .have X:a<=k:=by have:a-k=0:=(~~~e1);omega
  refine bd (h _ ⟨rfl,rfl⟩ rfl Wr.same (E5 o J D y x (Z _ _ nofun nofun)))
 have X:k<a:=by lia
 refine aW (fG nofun ?_);refine aW (BI I ⟨rfl,rfl⟩ (base:=c+a) (n:=f) (hint:=f-1) (v _ _) ⋯ v (λi j p g l=>g2 p g l) nofun λu n1 Y O=>?_);dsimp only;have F:c+k+(a-k)-1=c+a-1:=nofun
 simp only[F]at Y O;refine cX (λW=>?_) λW=>?_
 .have mX:u=0:= ~~~W
  refine bd (h _ ⟨rfl,rfl⟩ rfl Wr.same (E5 o J D y x (O _ _ ⋯ ⋯)))
 have mX:u≠0:= ~~~W
 have xs:(d.extract (c+k) (c+a)).size=a-k:=by simp;omega
 have ys:(d.extract (c+a) (c+a+u)).size=u:=by simp;omega
 refine cX (λ_=>?_) λ_=>?_
 all_goals
  first
   |refine aW (Sm I ⟨rfl,rfl⟩ ∅ ∅ ?_ ?_ ?_ ?_ ?_ ?_ ?_)
   |refine aW (Oh I ⟨rfl,rfl⟩ ∅ ∅ ?_ ?_ ?_ ?_ ?_ ?_ ?_)
  .intro j g;rw[n6];exact v _ _
  .intro j g;rw[n6];exact v _ _
  .intro i j g p;rw[n6,n6];exact g1 ⋯ nofun nofun
  .intro i j g p;rw[n6,n6];exact g2 ⋯ nofun ∅
  .rw[n6,n6];exact lW (m3 _ _ ∅ ⋯)
  .intro j g;rw[n6,n6];have:=Y (c+a+j) nofun ∅ ⋯;have e:c+k+((d.extract (c+k) (c+a)).size-1)=c+a-1:=nofun
   simp only[e];exact lW this
  .rintro r ⟨P,G,L,mg',T⟩ ⟨B,z,c3,c4⟩ hD;change P=kz at B;change G=d at z;change L=pend at c3;change T=af at c4;subst B z c3 c4;refine aW (t8 ?_);refine aW (n0 ?_);obtain⟨w1,w2⟩:=Ux o X ∅ n1 y x (λi l B z=>Z i l B z) (λi l B z=>O i l B z) hD;exact bd (h _ ⟨rfl,rfl⟩ rfl w1 w2)
end
section
variable{κ:KeyKind}{kz:gq}
theorem A2(h:a[i]?=aa x):KK κ a i=kO κ x:=by unfold KK kO;rw[h]
theorem sQ{a:Array Keyed}(h:i<a.size):KK κ a i=kO κ a[i]:=A2 (getElem?_pos _ _ _)
noncomputable def ju(κ:KeyKind)(a:Array Keyed)(lo n:Nat):Prop:=∀i j,lo<=i->i<=j->j<lo+n->κ.kle (KK κ a i) (KK κ a j)
noncomputable def oC(κ:KeyKind)(a:Array Keyed)(lo n:Nat):Prop:=∀i j,lo<=i->i<=j->j<lo+n->κ.kle (KK κ a j) (KK κ a i)
theorem ju.run{b:Nat}(h:ju κ a b n):Run κ a b n:=by intro i j x y l g f d c;have:=h i j l g f;rw[A2 d,A2 c]at this;trivial
theorem Wr.trans{d:Nat}(g:Wr a b d n)(f:Wr b c d n):Wr a c d n :=⟨f.perm.trans g.perm,f.size.trans g.size,λk h=>(f.out k h).trans (g.out k h)⟩
theorem Wr.mono{d f:Nat}(h:Wr a b d n)(j:c<=d)(i:d+n<=c+f):Wr a b c f :=⟨h.perm,h.size,λk g=>h.out k ∅⟩
theorem Lh{a:Array Keyed}(b:j<=a.size)(d:i<=j):Wr a (mirror a i j ((j-i) / 2)) i (j-i) :=⟨DL.mp (mirror_perm _ _ _ _),mirror_size _ _ _ _,λk c=>by rw[getElem?_mirror_all b,if_neg ∅]⟩
theorem P8{a:Array Keyed}(c:b<a.size)(f:d<=b):Wr a (bubble a b d) (b-d) (d+1) :=⟨DL.mp (bubble_perm _ _ _),bubble_size _ _ _,λk g=>by rw[getElem?_bubble c d f,if_neg ∅,if_neg ∅]⟩
def AllK(κ:KeyKind)(a:Array Keyed):Prop:=∀i (b:i<a.size),h_ κ a[i]
theorem AllK.of{b:Array Keyed}(h:AllK κ a)(p:b.toList.Perm a.toList):AllK κ b:=by intro i f;have c:b[i]∈a.toList:=p.mem_iff.mp (by simp);obtain⟨j,d,e⟩:=n4 c;rw[<-e];simpa using h j (by trivial)
end
section
theorem se(m:ij κ f d w A s){a:bA}(l:SB f a)(g:AllK κ (arrOf a)){Q:Option Bool->bA->Prop}(c:i<(arrOf a).size)(b:j<(arrOf a).size)(h:Q (aa (κ.blt (KK κ (arrOf a) i) (KK κ (arrOf a) j))) a):wpS (aw d w) A E s (ltAt' i j) Q a:=by rw[sQ c,sQ b]at h;rw[ltAt'_eq];refine aW (n0 ?_);exact aW (fG c (aW (fG b (v7 m l (g i c) (g j b) h))))
theorem yz{b a:bA}{lo n i j:Nat}{Q:Unit->bA->Prop}(m:SB f a)(o:b7 a=b7 b)(l:Wr (arrOf b) (arrOf a) lo n)(q:i<=j)(r:j<=(arrOf b).size)(p:lo<=i)(u:j<=lo+n)(h:∀c,SB f c->b7 c=b7 b->Wr (arrOf b) (arrOf c) lo n->(∀k,KK κ (arrOf c) k=if i<=k/\k<j then KK κ (arrOf a) (i+j-1-k)else KK κ (arrOf a) k)->Q () c):wpS (aw d w) A E s (reverseSlice' i j) Q a:=by
 have g:j<=(arrOf a).size:=by rw[l.size];trivial
 exact wpS_reverse (h _ ⟨m.kind,m.failed⟩ o (l.trans ((Lh g q).mono p ⋯)) λk=>KK_mirror g k)
theorem Js[Decidable c]{i:StateT bA Sem h}{Q:h->bA->Prop}{g:bA}{J:bA->Prop}(l:¬c->J g)(a:∀b,J b->wpS (aw d w) A E s i Q b)(m:c->(∀b,J b->wpS (aw d w) A E s i Q b)->wpS (aw d w) A E s j Q g):wpS (aw d w) A E s (if c then j else i) Q g :=cX (λe=>m e a) λe=>a g (l e)
theorem G7{lo:Nat}(b:ju κ a lo x)(h:1<=x)(e:κ.kle (KK κ a (lo+x-1)) (KK κ a (lo+x))):ju κ a lo (x+1):=λi j c n o=>by
 by_cases l:j<lo+x
 .exact b i j c n l
 .have g:j=lo+x:=∅
  subst g;by_cases m:i=lo+x
  .subst m;exact n5 _
  .exact qV (b i (lo+x-1) c ∅ ∅) e
theorem EU{lo:Nat}(b:oC κ a lo x)(h:1<=x)(e:κ.kle (KK κ a (lo+x)) (KK κ a (lo+x-1))):oC κ a lo (x+1):=λi j c n o=>by
 by_cases l:j<lo+x
 .exact b i j c n l
 .have g:j=lo+x:=∅
  subst g;by_cases m:i=lo+x
  .subst m;exact n5 _
  .exact qV e (b i (lo+x-1) c ∅ ∅)
theorem OX{lo:Nat}(c:∀i,lo+x-(b+1)<=i->i<lo+x->KK κ a i=KK κ a (lo+x-1))(g:KK κ a (lo+x)=KK κ a (lo+x-1)):∀i,lo+(x+1)-(b+1+1)<=i->i<lo+(x+1)->KK κ a i=KK κ a (lo+(x+1)-1):=λi j h=>by
 grind
theorem FD(c:∀k,KK κ b k=if i<=k/\k<j then KK κ a (i+j-1-k)else KK κ a k)(g:∀k,i<=k->k<j->KK κ a k=KK κ a n):∀k,KK κ b k=KK κ a k:=λk=>by
 grind
theorem Mo(Z:ij κ f d w A s){p:bA}(P:SB f p)(hA:AllK κ (arrOf p)){lo g:Nat}(h1:1<=g)(hsz:lo+g<=(arrOf p).size){Q:Option Nat->bA->Prop}(h:∀n b,SB f b->b7 b=b7 p->Wr (arrOf p) (arrOf b) lo g->1<=n->n<=g->ju κ (arrOf b) lo n->Q (aa n) b):wpS (aw d w) A E s (countRun' lo g) Q p:=by
 have one:ju κ (arrOf p) lo 1:=λi j o y H=>by
  have:i=j:=∅
  subst this;exact n5 _
 have go:∀{D:bA},Wr (arrOf p) (arrOf D) lo g->(arrOf D).size=(arrOf p).size:=λw=>w.size;unfold countRun';refine aW (iL (iM (I:=λx c r=>r=p/\c=(af,x)/\ju κ (arrOf p) lo x) (Q:=λc r=>r=p/\∃n,c=(af,n)/\1<=n/\n<=g/\ju κ (arrOf p) lo n/\(n=g\/κ.klt (KK κ (arrOf p) (lo+n)) (KK κ (arrOf p) (lo+n-1)))) ?_ ?_ ?_) ?_)
 .rintro x c r Y w8 ⟨rfl,rfl,z⟩;dsimp only;refine aW (se Z P hA ∅ ∅ ?_);cases e:κ.blt (KK κ (arrOf r) (lo+x)) (KK κ (arrOf r) (lo+x-1))with
  |true=>exact bd ⟨rfl,x,rfl,nofun,∅,z,.inr e⟩
  |false=>exact bd ⟨rfl,rfl,G7 z ⋯ e⟩
 .simp_all
 .trivial
 rintro c b ⟨rfl,n,rfl,n1,n2,z,hn⟩;dsimp only;refine cX (λe1=>bd (h n b P rfl Wr.same n1 n2 z)) λe1=>?_;have um:n≠g:= ~~~e1
 replace hn:κ.klt (KK κ (arrOf b) (lo+n)) (KK κ (arrOf b) (lo+n-1)):=hn.resolve_left um;refine Js (J:=λF=>SB f F/\b7 F=b7 b/\Wr (arrOf b) (arrOf F) lo g/\oC κ (arrOf F) lo (n+1)) (λen=>⟨P,rfl,Wr.same,λi j o y H=>?_⟩) (λF ⟨eU,gM,xj,hD⟩=>?_) λen L=>?_
 .have en':n=1:=∅
  by_cases hi:i=j
  .subst hi;exact n5 _
  .have e1:i=lo+n-1:=∅
   have e2:j=lo+n:=∅
   rw[e1,e2];exact lW hn
 .refine aW (t6 (mJ ⟨rfl,?_⟩));refine aW (iL (iM (I:=λx c l=>∃a,c=(af,x,a)/\SB f l/\b7 l=b7 b/\Wr (arrOf b) (arrOf l) lo g/\oC κ (arrOf l) lo x/\a+1<=x/\(∀i,lo+x-(a+1)<=i->i<lo+x->KK κ (arrOf l) i=KK κ (arrOf l) (lo+x-1))) (Q:=λc l=>∃m a,c=(af,m,a)/\SB f l/\b7 l=b7 b/\Wr (arrOf b) (arrOf l) lo g/\1<=m/\m<=g/\oC κ (arrOf l) lo m/\a+1<=m/\(∀i,lo+m-(a+1)<=i->i<lo+m->KK κ (arrOf l) i=KK κ (arrOf l) (lo+m-1))) ?_ ?_ ?_) ?_)
  .rintro x c l Y w8 ⟨a,rfl,v,C,u,B,O,G⟩;have sz3:=u.size;dsimp only;refine aW (se Z v (hA.of u.perm) ∅ ∅ ?_);cases e3:κ.blt (KK κ (arrOf l) (lo+x)) (KK κ (arrOf l) (lo+x-1))with
   |true=>
    have rh:oC κ (arrOf l) lo (x+1):=EU B ∅ (lW e3);dsimp only;rw[if_pos rfl];refine cX (λKR=>?_) λKR=>?_
    .refine aW (yz (κ:=κ) (lo:=lo) (n:=g) v C u (by simp) ∅ ∅ ∅ λN X W T Es=>?_);have S:=FD Es G;exact bd ⟨0,rfl,X,W,T,λi j o y H=>by rw[S,S];exact rh i j o y H,∅,λi o y=>by congr 1;lia⟩
    .exact bd ⟨0,rfl,v,C,u,rh,∅,λi o y=>by congr 1;lia⟩
   |false=>
    dsimp only;rw[if_neg (by simp)];refine aW (se Z v (hA.of u.perm) ∅ ∅ ?_);cases e4:κ.blt (KK κ (arrOf l) (lo+x-1)) (KK κ (arrOf l) (lo+x))with
    |true=>exact bd ⟨x,a,rfl,v,C,u,∅,∅,B,O,G⟩
    |false=>have ex:KK κ (arrOf l) (lo+x)=KK κ (arrOf l) (lo+x-1):=KeyOrd.kle_antisymm e4 e3;exact bd ⟨a+1,rfl,v,C,u,EU B ∅ (by trivial),∅,OX G ex⟩
  .rintro c l ⟨a,rfl,v,C,u,B,O,G⟩;rw[show max (n+1) g=g by lia]at B O G ⊢;exact⟨g,a,rfl,v,C,u,nofun,by simp,B,O,G⟩
  .grind
  rintro c l ⟨m,a,rfl,v,C,u,m1,m2,B,O,G⟩;dsimp only;refine Js (J:=λN=>SB f N/\b7 N=b7 b/\Wr (arrOf b) (arrOf N) lo g/\oC κ (arrOf N) lo m) (λ_=>⟨v,C,u,B⟩) (λN ⟨X,W,T,hd4⟩=>?_) λKR L=>?_;rotate_left
  .refine aW (yz (κ:=κ) (lo:=lo) (n:=g) v C u (by simp) ∅ ∅ ⋯ λN X W T Es=>?_);have S:=FD Es G;exact L _ ⟨X,W,T,λi j o y H=>by rw[S,S];exact B i j o y H⟩
  clear v C u B O G;refine aW (yz (κ:=κ) (lo:=lo) (n:=g) X W T (by simp) ∅ (by simp) ⋯ λD ur hp5 M KS=>?_);have hr5:ju κ (arrOf D) lo m:=λi j o y H=>by rw[KS,KS,if_pos ⟨o,∅⟩,if_pos ⟨∅,H⟩];exact hd4 _ _ nofun nofun nofun
  have sz5:=M.size;refine aW (iL (iM (I:=λx c r=>r=D/\c=(af,x)/\ju κ (arrOf D) lo x) (Q:=λc r=>r=D/\∃n,c=(af,n)/\1<=n/\n<=g/\ju κ (arrOf D) lo n/\(n=g\/κ.klt (KK κ (arrOf D) (lo+n)) (KK κ (arrOf D) (lo+n-1)))) ?_ ?_ ?_) ?_)
  .rintro x c r Y w8 ⟨rfl,rfl,z⟩;dsimp only;refine aW (se Z ur (hA.of M.perm) ∅ ∅ ?_);cases e:κ.blt (KK κ (arrOf r) (lo+x)) (KK κ (arrOf r) (lo+x-1))with
   |true=>exact bd ⟨rfl,x,rfl,∅,∅,z,.inr e⟩
   |false=>exact bd ⟨rfl,rfl,G7 z ∅ e⟩
  .simp_all
  .trivial
  rintro c r ⟨rfl,q,rfl,q1,q2,hrq,_⟩;exact bd (h q r ur hp5 M q1 q2 hrq)
 .refine aW (se Z P hA nofun nofun ?_);cases e2:κ.blt (KK κ (arrOf b) lo) (KK κ (arrOf b) (lo+n-1))with
  |true=>exact bd (h n b P rfl Wr.same n1 n2 z)
  |false=>
   dsimp only;rw[if_neg (by simp)];have eJ:∀i,lo<=i->i<lo+n->KK κ (arrOf b) i=KK κ (arrOf b) lo:=λi o y=>KeyOrd.kle_antisymm (qV (z i (lo+n-1) o nofun nofun) e2) (z lo i (bn _) o y);refine aW (yz (κ:=κ) (lo:=lo) (n:=g) P rfl Wr.same (by simp) nofun (by simp) nofun λF eU gM xj pG=>?_);have hD:oC κ (arrOf F) lo (n+1):=by
    have hv:∀i,lo<=i->i<lo+n->KK κ (arrOf F) i=KK κ (arrOf b) lo:=λi o y=>by
     grind
    have hl:κ.klt (KK κ (arrOf F) (lo+n)) (KK κ (arrOf b) lo):=by
     grind
    intro i j o y H;by_cases hj:j<lo+n
    .rw[hv i o ∅,hv j ∅ hj];exact n5 _
    .have im:j=lo+n:=∅
     subst im;by_cases hi:i=lo+n
     .subst hi;exact n5 _
     .rw[hv i o ∅];exact lW hl
   exact L F ⟨eU,gM,xj,hD⟩
theorem Rp{c:bA}{lo n a b:Nat}{Q:Unit->bA->Prop}(m:SB f c)(o:b7 c=b7 g)(l:Wr (arrOf g) (arrOf c) lo n)(u:b<=a)(p:a<(arrOf g).size)(r:lo<=b)(q:a<lo+n)(h:∀i,SB f i->b7 i=b7 g->Wr (arrOf g) (arrOf i) lo n->(∀k,KK κ (arrOf i) k=if k=b then KK κ (arrOf c) a else if b<k/\k<=a then KK κ (arrOf c) (k-1)else KK κ (arrOf c) k)->Q () i):wpS (aw d w) A E s (moveDown' a b) Q c:=by
 have j:a<(arrOf c).size:=by rw[l.size];trivial
 rw[moveDown'_eq];refine t8 (h _ ⟨m.kind,m.failed⟩ o (l.trans ((P8 j (show a-b<=a by simp)).mono ∅ ∅)) λk=>?_);have:=KK_bubble (κ:=κ) j (show a-b<=a by simp) k;rw[show a-(a-b)=b by lia]at this;trivial
theorem LA(S:ij κ f d w A s){b:bA}(O:SB f b)(T:AllK κ (arrOf b)){lo n ok:Nat}(N:ok<=n)(L:lo+n<=(arrOf b).size)(M:ju κ (arrOf b) lo ok){Q:Bool->bA->Prop}(h:∀v,SB f v->b7 v=b7 b->Wr (arrOf b) (arrOf v) lo n->ju κ (arrOf v) lo n->Q ah v):wpS (aw d w) A E s (binarySort' lo n ok) Q b:=by
 unfold binarySort';refine aW (iL (iM (I:=λk c a=>c=(af,())/\SB f a/\b7 a=b7 b/\Wr (arrOf b) (arrOf a) lo n/\ju κ (arrOf a) lo (min k n)) (Q:=λc a=>c=(af,())/\SB f a/\b7 a=b7 b/\Wr (arrOf b) (arrOf a) lo n/\ju κ (arrOf a) lo n) ?_ ?_ ?_) ?_)
 .rintro k c a kI eU ⟨rfl,m,z,g,p⟩;have sz:=g.size;rw[show min k n=k by lia]at p;refine aW (iL (iM (I:=λx c o=>l_ a o c λl r=>l<=r/\r<=k/\r-l<=k-x /\ (∀i,i<l->κ.kle (KK κ (arrOf a) (lo+i)) (KK κ (arrOf a) (lo+k)))/\(∀i,r<=i->i<k->κ.klt (KK κ (arrOf a) (lo+k)) (KK κ (arrOf a) (lo+i)))) (Q:=λc o=>l_ a o c λl r=>l<=k /\ (∀i,i<l->κ.kle (KK κ (arrOf a) (lo+i)) (KK κ (arrOf a) (lo+k)))/\(∀i,l<=i->i<k->κ.klt (KK κ (arrOf a) (lo+k)) (KK κ (arrOf a) (lo+i)))) ?_ ?_ ?_) ?_)
  .rintro x c o _ hx ⟨rfl,l,r,rfl,Z,y,Y,u,q⟩;dsimp only;refine cX (λJ=>?_) λJ=>?_
   .have:l=r:=∅
    subst this;exact bd ⟨rfl,l,l,rfl,y,u,q⟩
   .refine aW (se S m (T.of g.perm) ∅ ∅ ?_);cases e:κ.blt (KK κ (arrOf o) (lo+k)) (KK κ (arrOf o) (lo+(l+r) / 2))with
    |true=>exact bd ⟨rfl,l,(l+r) / 2,rfl,∅,∅,nofun,u,λi C W=>KeyOrd.klt_of_klt_of_kle e (p _ _ (by simp) ⋯ ⋯)⟩
    |false=>exact bd ⟨rfl,(l+r) / 2+1,r,rfl,∅,nofun,nofun,λi C=>qV (p (lo+i) (lo+(l+r) / 2) (by simp) ∅ ∅) e,q⟩
  .rintro c o ⟨rfl,l,r,rfl,Z,y,Y,u,q⟩;have:l=r:=∅
   subst this;exact⟨rfl,l,l,rfl,y,u,q⟩
  .exact⟨rfl,0,k,rfl,by simp,by simp,∅,λi hi=>∅,λi C W=>∅⟩
  .rintro c o ⟨rfl,l,r,rfl,y,u,q⟩;dsimp only;refine aW (Rp (κ:=κ) (lo:=lo) (n:=n) m z g ⋯ ∅ (by simp) ⋯ λbF B P H D=>bd ⟨rfl,B,P,H,?_⟩);rw[show min (k+1) n=k+1 by lia];intro i j G F X;rw[D,D]
   repeat' split
   all_goals first
    | (exfalso;lia)
    |exact n5 _
    | (have:=u (i-lo) ∅;rw[show lo+(i-lo)=i by lia]at this;exact this)
    | (have:=q (j-1-lo) ∅ ∅;rw[show lo+(j-1-lo)=j-1 by lia]at this;exact lW this)
    |exact p _ _ ∅ ∅ ∅
 .lia
 .refine⟨rfl,O,rfl,Wr.same,λi j G F X=>?_⟩;by_cases C:ok=0
  .have:i=j:=∅
   subst this;exact n5 _
  .exact M i j G F ∅
 .rintro c a ⟨rfl,m,z,g,p⟩;exact bd (h a m z g p)
end
theorem NL{M:Model}{A:aV}{E:ai->ao->Prop}{s:ao}{o:Type}{m:Nat}{X Y:Nat->StateT bA Sem o}{Q:o->bA->Prop}{P1 P2 l j i h:Nat->bA->Prop}(K:Nat->bA->Prop)(p:∀n t,K n t->wpS M A E s (Y n) Q t) (q:∀n t,P1 n t->P2 n t->l n t->j n t->i n t->h n t->n<m->(∀n t,K n t->wpS M A E s (Y n) Q t)->wpS M A E s (X n) Q t)(r:∀n t,P1 n t->P2 n t->l n t->j n t->i n t->h n t->¬n<m->K n t):∀n t,P1 n t->P2 n t->l n t->j n t->i n t->h n t->wpS M A E s (if n<m then X n else Y n) Q t:=λn t a b c d e f=>cX (λg=>q n t a b c d e f g p) λg=>p n t (r n t a b c d e f g)
noncomputable def mw:Nat->List (Nat×Nat)->Nat->Prop
 |f,[],t=>f=t
 |f,(a,n)::l,t=>a=f/\0<n/\mw (f+n) l t
theorem mw.app:∀{l1:List (Nat×Nat)}{f t:Nat}{b:List (Nat×Nat)},mw f (l1++b) t↔∃m,mw f l1 m/\mw m b t
 |[],f,t,b=>by simp[mw]
 | (a,n)::l1,f,t,b=>by simp only[qX,mw,mw.app (l1:=l1)];lia
theorem mw.le:∀{l:List (Nat×Nat)}{f t:Nat},mw f l t->f+l.length<=t/\∀e∈l,f<=e.1/\e.1+e.2<=t
 |[],f,t,h=>⟨by cases h;simp,by simp⟩
 | (a,n)::l,f,t,⟨i,g,b⟩=>by
  obtain⟨d,c⟩:=mw.le b
  grind
def PL(a:Array (Nat×Nat×Nat)):List (Nat×Nat):=a.toList.map λe=>(e.1,e.2.1)
structure tf(κ:KeyKind)(arr:Array Keyed)(pd:Array (Nat×Nat×Nat))(lo:Nat):Prop where
 ch:mw 0 (PL pd) lo
 run:∀e∈PL pd,Run κ arr e.1 e.2
theorem yJ(a:Array (Nat×Nat×Nat)):(PL a).length=a.size:=by simp[PL]
theorem xQ(a:Array (Nat×Nat×Nat))(e:Nat×Nat×Nat):PL (a.push e)=PL a++[(e.1,e.2.1)]:=by simp[PL]
theorem GA(a:Array (Nat×Nat×Nat))(k pw:Nat):PL (a.modify k λx=>(x.1,x.2.1,pw))=PL a:=by
 apply pf;intro i;simp only[PL,dY,qU,Array.getElem?_modify];split
 .cases a[i]? <;> rfl
 rfl
theorem Qe{j:Array (Nat×Nat×Nat)}(h:i+1<j.size):∃a f b d g sb c m,j[i]?=aa (b,d,g)/\j[i+1]?=aa (sb,c,m)/\PL j=a++(b,d)::(sb,c)::f /\ PL ((j.setIfInBounds i (b,d+c,g)).eraseIdxIfInBounds (i+1))=a++(b,d+c)::f:=by
 obtain⟨l⟩:=j;simp only[gi]at h;have e:l=l.take i++l[i]::l[i+1]::l.drop (i+2):=by simp
 obtain⟨a,x,y,f,n,p⟩:∃a x y f,a.length=i/\l=a++x::y::f:=⟨l.take i,l[i],l[i+1],l.drop (i+2),by simp;lia,e⟩
 subst n p;obtain⟨b,d,g⟩:=x;obtain⟨sb,c,m⟩:=y;refine⟨a.map λe=>(e.1,e.2.1),f.map λe=>(e.1,e.2.1),b,d,g,sb,c,m,by simp,by simp,by simp[PL],?_⟩;have o:((a++(b,d,g)::(sb,c,m)::f).toArray.setIfInBounds a.length (b,d+c,g)).eraseIdxIfInBounds (a.length+1)=(a++(b,d+c,g)::f).toArray:=by rw[List.setIfInBounds_toArray,List.set_append_right _ _ (bn _),List.eraseIdxIfInBounds_toArray];congr 1;rw[List.eraseIdx_append_of_length_le (by simp)];simp
 rw[o];simp[PL]
section
theorem tf.keep{b:Nat}(h:tf κ a c b)(w:Wr a f b n):tf κ f c b :=⟨h.ch,λe d=>(h.run e d).keep w (.inl (h.ch.le.2 e d).2)⟩
theorem Hy(G:ij κ kz prog w A s){a:bA}(D:SB kz a)(H:AllK κ (arrOf a)){l:Nat}(g:tf κ (arrOf a) (b7 a) l)(C:l<=(arrOf a).size)(F:i+1<(b7 a).size){Q:Bool->bA->Prop}(h:∀c,SB kz c->Wr (arrOf a) (arrOf c) 0 l->tf κ (arrOf c) (b7 c) l->(b7 c).size+1=(b7 a).size->Q ah c):wpS (aw prog w) A E s (mergeAt' i) Q a:=by
 obtain⟨X,W,f,j,T,sb,u,S,J,I,d,p⟩:=Qe F;have v:=g.ch;rw[d]at v;obtain⟨m,x,P,O,N,M,L⟩:=mw.app.mp v;subst P N;have b1:=x.le;have b2:=L.le;have z:Run κ (arrOf a) f j:=g.run (f,j) (by rw[d];simp);have y:Run κ (arrOf a) (f+j) u:=g.run (f+j,u) (by rw[d];simp);refine Sk G D H J I O M ∅ z y λc B n o Y=>h c B (o.mono (by simp) ∅) ⟨?_,?_⟩ ?_
 .rw[n,p];exact mw.app.mpr ⟨f,x,rfl,∅,by lia⟩
 .rw[n,p];intro e b;rcases kA.mp b with b|b
  .exact(g.run e (by rw[d];exact wc _ b)).keep o (.inl (b1.2 e b).2)
  .rcases bZ.mp b with rfl|b
   .trivial
   .exact(g.run e (by rw[d];simp[b])).keep o (.inr (by have:=(b2.2 e b).1;lia))
 .have r:=yJ (b7 c);have q:=yJ (b7 a);rw[n,p]at r;rw[d]at q;rw[n,<-r,<-q];simp;rfl
structure qh(κ:KeyKind)(kz:gq)(st:bA)(size lo:Nat)(t:bA):Prop where
 k:SB kz t
 p:(arrOf t).toList.Perm (arrOf st).toList
 s:(arrOf t).size=size
 P:tf κ (arrOf t) (b7 t) lo
theorem MD(hO:ij κ kz prog w A s){st:bA}(hk:SB kz st)(hA:AllK κ (arrOf st))(hp:b7 st=#[])(h:∀aD,SB kz aD->(arrOf aD).toList.Perm (arrOf st).toList->Run κ (arrOf aD) 0 (arrOf st).size->Q () aD):wpS (aw prog w) A E s sortRuns' Q st:=by
 unfold sortRuns';refine aW (n0 ?_);dsimp only;obtain⟨b,Vw⟩:∃b,b=(arrOf st).size:=⟨_,rfl⟩
 have Vq:((sortPriv% PySem.Builtin.SortState.a) st).size=b:=Vw.symm;simp only[Vq];refine aW (iL (iM (I:=λx c z=>∃f,c=(af,f)/\x<=f/\f<=b/\qh κ kz st b f z) (Q:=λc z=>c=(af,b)/\qh κ kz st b b z) ?_ ?_ ?_) ?_);rotate_left
 .rintro c z ⟨f,rfl,b1,b2,hS⟩;obtain rfl:f=b:=∅
  exact⟨rfl,hS⟩
 .exact⟨0,rfl,by simp,by simp,hk,tY _,Vw.symm,by rw[hp];exact⟨rfl,by simp[PL]⟩⟩
 .rintro c z ⟨rfl,kI,N,v,hP⟩;dsimp only;refine aW (iL (iM (I:=λx c g=>c=(af,())/\(b7 g).size+x<=b+1/\qh κ kz st b b g) (Q:=λc g=>c=(af,())/\(b7 g).size<=1/\qh κ kz st b b g) ?_ ?_ ?_) ?_)
  .rintro x c g _ hx ⟨rfl,hb,r,L,P,C⟩;refine aW (n0 ?_);refine cX (λe1=>bd ⟨rfl,e1,r,L,P,C⟩) λe1=>?_;have um:1<(b7 g).size:=Nat.lt_of_not_le e1;refine aW (Hy hO r (hA.of L) C ∅ ?_ λl M kc q hq=>?_)
   .lia
   .exact bd ⟨rfl,∅,M,kc.perm.trans L,kc.size.trans P,q⟩
  .rintro c g ⟨rfl,hb,r,L,P,C⟩;exact⟨rfl,∅,r,L,P,C⟩
  .have:=hP.ch.le.1;rw[yJ]at this;exact⟨rfl,∅,kI,N,v,hP⟩
  .rintro c g ⟨rfl,hb,r,L,P,C⟩;refine bd (h g r L ?_);rw[<-Vw];have O:=C.ch;have Z:=C.run;have hl:=yJ (b7 g)
   match hq:PL (b7 g),O,Z,hl with
   |[],O,Z,hl=>
    cases O;intro i j x y a1 a2 a3;lia
   |[(a,n)],O,Z,hl=>
    obtain⟨d1,d2,d3⟩:=O;cases d1;have d3':0+n=b:=d3;have:=Z (0,n) (by simp);lia
   |_::_::_,O,Z,hl=>simp at hl;lia
 rintro x c z _ hx ⟨f,rfl,b1,b2,kI,N,v,hP⟩;dsimp only;refine cX (λe1=>?_) λe1=>?_
 .have:f=b:=∅
  subst this;exact bd ⟨rfl,kI,N,v,hP⟩
 refine aW (Mo hO kI (hA.of N) ∅ ∅ ?_);dsimp only;refine NL (λn l=>SB kz l/\b7 l=b7 z/\Wr (arrOf z) (arrOf l) f (b-f)/\0<n/\f+n<=b/\ju κ (arrOf l) f n) (λn l ⟨M,hqq,hw,n1,n2,F⟩=>?_) (λVx g r G S f1 f2 uh e2 J=>?_) λVx g r G S f1 f2 uh e2=>⟨r,G,S,∅,∅,uh⟩
 rotate_left
 .refine aW (t6 (mJ ⟨rfl,?_⟩));refine aW (LA hO r ((hA.of N).of S.perm) ∅ (by rw[S.size];lia) uh λl M hq3 kc F=>?_);rw[if_neg (by simp)];exact J _ _ ⟨M,hq3.trans G,S.trans (kc.mono (by simp) ∅),∅,∅,F⟩
 have q:tf κ (arrOf l) (b7 l) f:=by rw[hqq];exact hP.keep hw
 have hU:(arrOf l).toList.Perm (arrOf st).toList:=hw.perm.trans N;have wV:(arrOf l).size=b:=hw.size.trans v;have hR:Run κ (arrOf l) f n:=F.run;clear hw hqq;refine aW (n0 ?_);obtain⟨kd,arr,pd,mg,fl⟩:=l;dsimp only;cases hbk:pd.back? with
 |none=>
  dsimp only;refine aW (t8 (bd ⟨f+n,rfl,∅,n2,⟨M.kind,M.failed⟩,hU,wV,?_⟩));refine⟨?_,?_⟩
  .show mw 0 (PL (pd.push (f,n,0))) _;rw[xQ];exact mw.app.mpr ⟨f,q.ch,rfl,n1,rfl⟩
  .show ∀e∈PL (pd.push (f,n,0)),_;rw[xQ];intro e o;rcases kA.mp o with o|o
   .exact q.run e o
   .rw[kD.mp o];trivial
 |some bk=>
  obtain⟨s1,m1,q1⟩:=bk;dsimp only;refine aW (iL (iM (I:=λx c m=>c=(af,())/\Run κ (arrOf m) f n/\qh κ kz st b f m) (Q:=λc m=>c=(af,())/\Run κ (arrOf m) f n/\qh κ kz st b f m) ?_ (λ_ _ hh=>hh) ?_) ?_)
  .rintro y c m _ hy ⟨rfl,H,X,W,u,p⟩;refine aW (n0 ?_);have KG:∀{gb:bA},gb=m->((af,()):Option Unit×Unit)=(af,())/\Run κ (arrOf gb) f n/\qh κ kz st b f gb:=λe=>by subst e;exact⟨rfl,H,X,W,u,p⟩
   by_cases hg:1<(b7 m).size
   .obtain⟨Y,B,d,T,fl4⟩:=m;have rq:d.size > 1:=hg;dsimp only;rw[if_pos rq,getElem?_pos d (d.size-2) ∅];obtain⟨u1,u2,u3⟩:=d[d.size-2];dsimp only;refine cX (λ_=>bd (KG rfl)) λ_=>?_;refine aW (Hy hO X (hA.of W) p ∅ (show d.size-2+1<d.size by lia) λgb ur D hP5 _=>?_);exact bd ⟨rfl,H.keep D (.inr (by simp)),ur,D.perm.trans W,D.size.trans u,hP5⟩
   .obtain⟨Y,B,d,T,fl4⟩:=m;have rq:¬d.size > 1:=hg;dsimp only;rw[if_neg rq];exact bd (KG rfl)
  .exact⟨rfl,hR,M,hU,wV,q⟩
  rintro c m ⟨rfl,H,X,W,u,p⟩;obtain⟨Y,B,d,T,fl4⟩:=m;dsimp only;refine aW (t8 (aW (t8 (bd ⟨f+n,rfl,∅,n2,⟨X.kind,X.failed⟩,W,u,?_⟩))));refine⟨?_,?_⟩
  .show mw 0 (PL ((d.modify (d.size-1) λx=>(x.1,x.2.1,_)).push (f,n,0))) _;rw[xQ,GA];exact mw.app.mpr ⟨f,p.ch,rfl,n1,rfl⟩
  .show ∀e∈PL ((d.modify (d.size-1) λx=>(x.1,x.2.1,_)).push (f,n,0)),_;rw[xQ,GA];intro e o;rcases kA.mp o with o|o
   .exact p.run e o
   .rw[kD.mp o];trivial
end
theorem sD(h:n<=1000000):n<bq:=zH h (by decide)
theorem Run.sortedTo(h:Run κ a 0 n)(c:n<=a.size):SortedToK κ a n:=by intro i j b d;have:=h i j _ _ (jG _) b ⋯ (getElem?_pos a i ∅) (getElem?_pos a j ∅);rw[sQ (show i<a.size by lia),sQ (show j<a.size by ac_rfl)];trivial
theorem KeysOf.all(h:KeysOf κ a):AllK κ a:=λi b=>h _ (by simp)
section
variable{s:ao}
theorem Fy{c:List ai}(p:s.heap.get? a=aa (f8 "list" c.toArray n))(J:KeysOf κ (lc c))(z:c.length<=1000000)(C:∀r:aB,(∀b o,b≠a->s.heap.get? b=aa o->r.get? b=aa o)->2<=c.length->ij κ kz P w A {s with heap:=r}/\∀{E:ai->ao->Prop}{Q:gq->ao->Prop},Q kz {s with heap:=r}->ar (aw P w) A (keyKind' c.toArray) Q E {s with heap:=r})(h:∀d:bA,(arrOf d).Perm (lc c)->SortedToK κ (arrOf d) (lc c).size->F (.done (.ret .none)) {s with heap:=sortedHeap s.heap a c ((arrOf d).map (·.2))}):ar (aw P w) A (Builtin.«list.sort» ⟨[.ref a],[]⟩) F E s:=by
 rw[list_sort_plain];have G:a<s.heap.objs.size:=bG p;have B:c.length<=bq:=kw (sD z);refine aq (listItems_at p rfl ?_);refine aq (Dw p rfl ?_);obtain⟨u,y⟩:∃u,(s.heap.update a (kC λ_=>#[])).get? a=aa (f8 "list" #[] u):=⟨_,get?_update_seq p (λ_=>#[])⟩
 refine aq (seqEpoch_at y rfl ?_);refine aq (wpAny_newTuple ?_ (hsz:=nofun));refine aq (Dk ?_);refine iI ?_;have g:(((s.heap.update a (kC λ_=>#[])).push (f8 "tuple" c.toArray 0)).push (f8 "list" #[] 0)).get? a=aa (f8 "list" #[] u):=by rw[Heap.get?_push_ne _ _ _ (by rw[lR,Heap.size_update];lia),Heap.get?_push_ne _ _ _ (by rw[Heap.size_update];exact dq G)];trivial
 have keep:∀b o,b≠a->s.heap.get? b=aa o->(((s.heap.update a (kC λ_=>#[])).push (f8 "tuple" c.toArray 0)).push (f8 "list" #[] 0)).get? b=aa o:=λb o l e=>bL _ (bL _ (by rw[J8 _ _ _ _ l];exact e));show ar (aw P w) A _ F E {s with heap:=((s.heap.update a (kC λ_=>#[])).push (f8 "tuple" c.toArray 0)).push (f8 "list" #[] 0)};dsimp only;have f:∀d:bA,failedOf d=af->(arrOf d).Perm (lc c)->SortedToK κ (arrOf d) (lc c).size ->
   ar (aw P w) A (do
    let touched:=(<-seqEpoch a) != u
    Builtin.List.listUpdate (.ref a) λ_=>(arrOf d).map (·.2)
    if let aa e:=failedOf d then rule "list.sort.comparison-raised";throw e
    if touched then rule "list.sort.modified";raiseError "ValueError" "list modified during sort"
    ret .none) F E {s with heap:=((s.heap.update a (kC λ_=>#[])).push (f8 "tuple" c.toArray 0)).push (f8 "list" #[] 0)}:=λd l m v=>by
  refine aq (seqEpoch_at g rfl ?_);refine aq (Dw g rfl ?_ (hsz2:=by refine cV (tW ((Array.size_map ..).trans (m.size_eq.trans (pairsOf_size _)))) (Nat.le_succ_of_le B)));rw[l];simp only[bne_self_eq_false,fg,if_false];exact aE (h d m v)
 by_cases q:c.toArray.size<2
 .rw[if_pos q,if_pos q];refine aq (aE ?_);refine aq (aE ?_);refine f (SortSt.mk' general' (c.toArray.zip c.toArray) #[] 7 af) rfl (Array.Perm.refl _) λi j O D=>?_;have:i=j:=by rw[pairsOf_size]at D;grind
  subst this;exact n5 _
 .rw[if_neg q,if_neg q];obtain⟨H,I⟩:=C _ keep ∅;refine aq (I ?_);refine aq (ff (MD (κ:=κ) (kz:=kz) H (st:=SortSt.mk' kz (c.toArray.zip c.toArray) #[] 7 af) (Q:=λ_ d=>SB kz d/\(arrOf d).toList.Perm (lc c).toList/\Run κ (arrOf d) 0 (lc c).size) ⟨rfl,rfl⟩ (KeysOf.all J) rfl λd N M L=>⟨N,M,L⟩) ?_ λ_ _ e=>e);rintro⟨⟨⟩,d⟩ s' ⟨rfl,l,m,v⟩;have x:(arrOf d).Perm (lc c):=DL.mpr m;exact f d l.failed x (v.sortedTo (by rw[x.size_eq];simp))
theorem TZ{g:KeyKind}(o:g.OneLt){d:List ai}(m:s.heap.get? a=aa (f8 "list" d.toArray n))(p:KeysOf g (lc d)) (j:∀c b rest,d=c::b::rest->keyKind' (c::b::rest).toArray=pure oneType') (l:d.length<=1000000)(h:∀i:bA,(arrOf i).Perm (lc d)->SortedToK g (arrOf i) (lc d).size->F (.done (.ret .none)) {s with heap:=sortedHeap s.heap a d ((arrOf i).map (·.2))}):ar (aw P w) A (Builtin.«list.sort» ⟨[.ref a],[]⟩) F E s :=
 Fy m p l (λr _ f=>⟨OneLt.ok o,λq=>by
  obtain⟨c,b,rest,rfl⟩:∃c b rest,d=c::b::rest:=by
   match d,f with
   |[],f=>trivial
   |[_],f=>simp at f
   |c::b::rest,_=>lia
  rw[j _ _ _ rfl];exact aE q⟩) h
end
section
variable{A:aV}
theorem GN(x:ar (aw P w) A.in1 (collect v) (λd s1=>∃ss:List Str,cL d ss/\d.length<=1000000/\∀(h:aB) (out:Array ai) (f:List Str) (e:Nat),(∀b o,s1.heap.get? b=aa o->h.get? b=aa o) -> h.get? s1.heap.objs.size=aa (f8 "list" out e)->cL out.toList f->f.Perm ss->sortedS f=ah->Q (.ref s1.heap.objs.size) {s1 with heap:=h}) E s):ar (aw P w) A (call (.builtin "sorted") [v]) Q E s:=by refine JY kind_sorted plain_sorted entry_sorted (args_sorted1 _) ?_;unfold JZ;refine aq (m:=checkCount "sorted" 1 1 _) (aE ?_);refine aq (aT x λd s1 ⟨ss,l,p,i⟩=>?_);refine aq (Dk ?_);have g:(s1.heap.push (f8 "list" d.toArray 0)).get? s1.heap.objs.size=aa (f8 "list" d.toArray 0):=cP _ rfl;refine aq (iI (k8 slot_list_sort ⟨_,g,rfl⟩ entry_list_sort (TZ strKind_oneLt g l.keysOf (λa b c e=>keyKind_strs (by rw[<-e];trivial)) p λy r q=>⟨_,rfl,?_⟩) (args_list_sort _)));obtain⟨f,C,B,z⟩:=sorted_out_str l r q;obtain⟨e,u⟩:=sortedHeap_at (out:=(arrOf y).map (·.2)) g;refine aE ⟨_,rfl,i _ _ f e (λb o j=>?_) u C B z⟩;have n:b<s1.heap.objs.size:=bG j;rw[sortedHeap_old (dq n) (by rw[lR];exact wx n)];exact bL _ j
end
section
theorem Inv.sorted2{c:List Tx}{f:aB}(I:Inv X h g H s1)(j:ss=c.map tS)(q:c.length<=1000000)(k:∀b o,s1.heap.get? b=aa o->f.get? b=aa o) (r:f.get? s1.heap.objs.size=aa (f8 "list" a e)) (p:cL a.toList d) (n:d.Perm ss) (m:sortedS d=ah):Inv X h g (upd H s1.heap.objs.size (.lst (cm (aS c)))) {s1 with heap:=f}:=by
 have l:d.map (λz=>z.cps.toList)=aS c:=by
  refine vQ ?_ (IU m);have:=n.map λz=>z.cps.toList;rw[j,cR]at this;have s:(c.map ((λz:Str=>z.cps.toList) ∘ tS))=c:=by simp[lS,lz]
  simp_all
 have i:bC (cm (aS c)) a.toList:=by rw[<-l];exact Hq p
 refine I.laid (t':=s1.toks) k (bn _) ⟨?_,a.toList,e,i,?_⟩
 .rw[y6,yU];exact kw (sD ⋯)
 trivial
theorem rY:eF X (.builtin "sorted") (λxs H Q=>∃(p:ae) (d:List Tx),xs=[.ref p]/\(cA X.K H p (cm d)\/cn X.K H p (cm d))/\d.length<=1000000/\∀l,H l=af->Q (.ref l) (upd H l (.lst (cm (aS d))))):=by
 intro F s w H xs M Q I r h;obtain⟨p,d,rfl,f,B,q⟩:=h;obtain⟨u,rfl,x⟩:=vals1 r;cases x;have b:∀(T:String) (o:Obj) (a:List ai) (n:Nat),(T = "list"\/T = "tuple")->s.heap.get? p=aa o->o.cls=.type T->o.data=.seq a.toArray n->bC (cm d) a ->
   ar X.zz X.A (call (.builtin "sorted") [Value.ref p]) (EP X F w Q) X.xe s:=λT o a n E j i g c=>by
  have D:=c.length;rw[y6]at D;have m:=sD (n:=a.length) ⋯;refine GN (wpAny_collect_seq p E j i g (λN A=>?_) ∅);have v:=I.kept (t':=s.toks) A;refine⟨_,xD c,by rw[JV];simp_all,λO z P e k j L J G=>?_⟩;exact⟨.ref _,_,Inv.sorted2 v rfl B k j L J G,rfl,q _ v.fresh⟩
 rcases f with f|f
 .obtain⟨a,c,y,C⟩:=I.list f;obtain⟨o,e,i,n,g⟩:=y.isList;exact b "list" o a n (.inl rfl) e i g c
 .obtain⟨a,c,⟨o,e,i,n,g⟩,C⟩:=I.tuple f;exact b "tuple" o a n (.inr rfl) e i g c
end
end L2
namespace Pu
open L2
section
variable{X:Cx}{K:ax}
def i8:List PV->Option PO
 |[.lst xs]=>(fS xs).bind λls=>if ls.length<=1000000 then aa (.lst (am (aS ls)))else af
 |[.tup xs]=>(fS xs).bind λls=>if ls.length<=1000000 then aa (.lst (am (aS ls)))else af
 |_=>af
theorem tu:lp K (λxs H Q=>∃(p:ae) (b:List Tx),xs=[.ref p]/\(cA K H p (cm b)\/cn K H p (cm b))/\b.length<=1000000/\∀l,H l=af->Q (.ref l) (upd H l (.lst (cm (aS b))))) i8:=λF H xs y Q n w m e q=>by
 have f:∀{g:List PV}{c:List V}{a:ae},((fS g).bind λb=>if b.length<=1000000 then aa (PO.lst (am (aS b)))else af)=aa n->aZ K H F g c->(cA K H a c\/cn K H a c) ->
   ∃(p:ae) (b:List Tx),[V.ref a]=[.ref p]/\(cA K H p (cm b)\/cn K H p (cm b))/\b.length<=1000000/\∀l,H l=af->Q (.ref l) (upd H l (.lst (cm (aS b)))):=λ{g c a} e d s=>by
  cases h:fS g with
  |none=>rw[h]at e;cases e
  |some b=>
   rw[h]at e;simp only[gp]at e;split at e
   .rename_i o;cases e;rw[uE h]at d;obtain⟨rfl,u⟩:=VJ.mp d;refine⟨a,b,rfl,s,o,λl i=>q l F _ _ (Al.new0 i) (vc i (VJ.mpr ⟨rfl,λx r=>u x ((fj b).mem_iff.mp r)⟩)) (vp i w trivial)⟩
   trivial
 unfold i8 at e;split at e
 .obtain⟨v,rfl,a,c,rfl,j,_,d⟩:=gB m;exact f e d (.inl (.inl j))
 .obtain⟨v,rfl,a,c,rfl,j,d⟩:=gB m;exact f e d (.inr (cn.of j))
 trivial
end
def sr(j i:Nat)(b:ai->Bool)(h:ad Slot)(l:ad aM):ad aM:=λg=>match h g with
 |.ok (.val pv) a=>.ok .next (a.set j (.val pv))
 |.ok _ _=>.no
 |.er c a=>if b c=ah/\i<a.length then(match l (a.set i (.val (.exc c)))with
  |.ok f d=>(match d[i]? with
   |some (.val _)=>.ok f (d.set i .none)
   |_=>.no)
  |_=>.no)else .no
 |.no=>.no
section
variable{X:Cx}{E:XK}{pin:List Nat}{e:aC}{r:ad aM}{G C A:Pos}{m n:Str}{D:ae}{h:List bf}{l:bf}{d:ai->Bool}
theorem Li(i:Nat)(hN:X.N.Nodup)(hD:X.mg m=aa (.ref D))(hE:qy X.base D)(hcg:∀c,d c=ah->Under X.base D c)(hh:∀a,gw (hand X a) E0 pin (l::h) r)(c8:(i∉pin)^1) (hi:(X.N[i]?=aa n)^0) (hl:(X.env.scope.names.lookup n=aa .local)^0) (hg:Gl X m^0) (hd:av m^1) (dv:(X.stack=X.env::X.outer)^0) (rE:(X.env.frame=aa X.env.locals)^0) (hf:az X n^3)(xp:XP X ag Z (λc y=>∃M P ε',aL X.K M P ε' Z y/\Grow (U S) (U P) F M H y/\d c=ah/\i<ε'.length/\gH X.K E pin Z F S H (match r (ε'.set i (.val (.exc c)))with
  |.ok f ε2=>(match ε2[i]? with
   |some (.val _)=>.ok f (ε2.set i .none)
   |_=>.no)
  |_=>.no) Dn) ev N) :
  ar X.zz X.A (zI ev X.env) (λ_ s₂=>ar X.zz X.A (wD ev af) (λ_ s₃=>ar X.zz X.A (handleBy ev X.env [.ExceptHandler (aa (.Name m C)) (aa n) (l::h) A]) (SP X ag Dn) X.xe s₃) X.xe s₂) X.xe N:=by
 obtain⟨s0,H0,I0,a,T,c,W,rfl,ho,hg1,un,hok,fl,⟨fa,fT,na,nT⟩,F1,S1,ε1,rl1,g1,hcc,bo,I⟩:=xp;have I1:=I0.call' (s':=N) (ch:=[]) ho un hok hg1 (λb z=>absurd z (by simp));have kpI:∀{h2:aB}{Y:ae->Prop}{T':ae},Kp (fF X.stack) Y N.heap h2->(∀b o,s0.heap.get? b=aa o->¬Y b)->(∀b,Y b->W b=af)->lw h2 a T' c .none->∀tk,Inv X ag Z (upd W a (jy a c)) {N with heap:=h2,toks:=tk}:=λ{h2 Y T'} k hY1 hY2 f2 tk=>by
  refine I0.call' (s':={N with heap:=h2,toks:=tk}) (ch:=[]) ho ?_ (TV (BA hok k (λb hb=>I1.stkFree b hb) hY2) na f2) hg1 (λb z=>absurd z (by simp));have u2:=Cu un k (λb o _ z=>z) hY1 (λb hb=>I1.stkFree b hb);have na':∀b o,W b=aa o->b≠a:=λb o e=>kM e na;refine⟨u2.keep,u2.slot,λb o e n hx=>?_,u2.there,λb xs e=>?_,λb o u e=>?_,λb ps e=>?_⟩
  .rw[a6 (by rintro rfl;rw[fa]at e;cases e)];exact u2.free b o e n hx
  .have:=u2.tups b xs e;rw[a6 (na' b _ this)];trivial
  .have:=u2.frzs b o u e;rw[a6 (na' b _ this)];trivial
  .refine⟨by have:=(u2.tbls b ps e).1;rw[a6 (na' b _ this)];trivial,λc' o e2 g=>?_⟩;obtain⟨g1,e1⟩:=(u2.tbls b ps e).2 c' o e2 g;exact⟨g1,by rw[a6 (na' c' _ e1)];trivial⟩
 have H1T:∀b,b=a\/b=T->W b=af:=λb z=>by rcases z with rfl|rfl <;> assumption
 have old1:∀b o,s0.heap.get? b=aa o->¬(b=a\/b=T):=λb o e z=>by
  rcases z with hz|hz
  .rw[hz,fa]at e;cases e
  .rw[hz,fT]at e;cases e
 refine Ho (outer:=X.outer) (by rw[I0.ok.frames,dv]) (by rw[<-dv];exact I1.stack) rE fl λh2 T' k fl2 fT'=>?_;rw[<-dv]at k;have I2:=kpI k old1 H1T fl2 N.toks;refine wpAny_handleBy_cons (codeAny_handlers_test ?_) (by intro z;cases z);have I2h:Inv (hand X a) ag Z (upd W a (jy a c)) {N with heap:=h2}:=Inv.hand I2;refine tD (X:=hand X a) I2h hg hD ?_ hd;obtain⟨oe,vs,oT,ts,ut,Vy,_⟩:=id fl2;refine Mi (s:={N with heap:=h2}) ((hcg c hcc).keeps I2.bk) (hE.keeps I2.bk) ut Vy ?_;show mD _ _ _ _ _;refine codeAny_handlers_suite_as (To (s:={N with heap:=h2}) fl2 λh3 k3 fl3=>?_);have k':Kp (fF X.stack) (λb=>(b=a\/b=T)\/b=T') N.heap h3:=k.trans (k3.imp (λb z=>by simp at z) λb o _ z=>z);have I3:=kpI (T':=T') k' (λb o e z=>by
  rcases z with z|rfl
  .exact old1 b o e z
  .rw[tq un (CZ fT')]at e;cases e) (λb z=>by
  rcases z with z|rfl
  .exact H1T b z
  .exact I1.hok.fresh fT') fl3 N.toks
 have I3h:Inv (hand X a) ag Z (upd W a (jy a c)) {N with heap:=h3}:=Inv.hand I3;refine vI (X:=hand X a) (v:=.ref a) I3h hN hi (.inl hl) rfl (λs4 I4=>?_) hf;have al:Al F1 F1 W (upd W a (jy a c)):=Al.new0 na;have r2:=rl1.al al;have r3:=r2.set (i:=i) (pv:=.exc c) (v:=.ref a) ⟨a,rfl,upd_same⟩;have g3:Grow (U S) (U λj b=>S1 j b/\j≠i) F F1 H (upd W a (jy a c)):=(g1.trans al.grow).trans (Grow.less i);have less:∀{P:Nat->ae->Prop}{M:ae->Prop}{y:Hp},Grow (U P) (U λj b=>P j b/\j≠i) M M y y:=λ{P M y}=>Grow.less i;have pn:∀{q:St},ip pin (Z.set i (aa (.ref a))) q->ip pin Z (q.set i af):=λ{q} p=>((ip.set c8).trans p).trans (ip.set c8);have okd:gH (hand X a).K E0 pin (Z.set i (aa (.ref a))) F1 (λj b=>S1 j b/\j≠i) (upd W a (jy a c)) (r (ε1.set i (.val (.exc c)))) {nx:=λq y=>Dn.nx (q.set i af) y,rt:=Dn.rt,bk:=λq y=>Dn.bk (q.set i af) y,ct:=λq y=>Dn.ct (q.set i af) y}:=by
  cases ed:r (ε1.set i (.val (.exc c)))with
  |no=>rw[ed]at I;trivial
  |er c' ε2=>rw[ed]at I;trivial
  |ok f ε2=>
   rw[ed]at I;dsimp only at I;split at I
   .cases f with
    |next=>exact λM P q y r' g' p'=>I M _ _ y r'.unset ((g3.trans g').trans less) (pn p')
    |brk=>exact λM P q y r' g' p'=>I M _ _ y r'.unset ((g3.trans g').trans less) (pn p')
    |cont=>exact λM P q y r' g' p'=>I M _ _ y r'.unset ((g3.trans g').trans less) (pn p')
    |ret sl=>
     intro v M P q y Sr r' g' p' rv lo;refine I v M _ _ y Sr r'.unset ?_ (pn p') rv λb z=>⟨(lo b z).1,λ⟨j,w⟩=>(lo b z).2.1 ⟨j,w.1⟩,(lo b z).2.2⟩
     have gg:=g3.trans g';exact⟨gg.fro,gg.keep,gg.there,gg.fnew,λb z=>gg.onew b (z.imp (λ⟨j,w⟩=>⟨j,w.1⟩) id)⟩
   trivial
 refine ff ((hh a F1 _ _ _ _ _ r3 okd).run ag s4 I4) (λf s5 sp=>?_) λ_ _ z=>z.elim;have L:∀{J:St}{O:Hp}{Q:Unit->ao->Prop},Inv (hand X a) ag J O s5->(∀s6,Inv X ag (J.set i af) O s6->Q () s6)->ar X.zz X.A (do bindName X.env n .none;unbindBehindTheSuite X.env n A) Q X.xe s5:=λ{J O Q} I5 hQ=>by
  have I5':=Inv.unhand I5 I0.ok;refine aq (wpAny_bindName (vI (v:=.non) I5' hN hi (.inl hl) rfl (λs6 I6=>?_) hf));unfold unbindBehindTheSuite;refine wpAny_onRaise ?_;have hiσ:i<J.length:=by rw[I5'.len];exact(cJ.mp hi).1
  refine N4 I6 hN hi hl (eB hiσ) λs7 I7=>hQ s7 ?_;rw[List.set_set]at I7;trivial
 cases f with
 |next=>obtain⟨J,O,I5,q5⟩:=sp;exact L I5 λs6 I6=>⟨_,O,I6,q5⟩
 |brk=>obtain⟨J,O,I5,q5⟩:=sp;exact L I5 λs6 I6=>⟨_,O,I6,q5⟩
 |cont=>obtain⟨J,O,I5,q5⟩:=sp;exact L I5 λs6 I6=>⟨_,O,I6,q5⟩
 |ret u=>obtain⟨v,J,O,I5,rv,q5⟩:=sp;exact L I5 λs6 I6=>⟨v,_,O,I6,rv,q5⟩
theorem Uw(j i:Nat){ap:Pos}(hN:X.N.Nodup)(hx:DX X e B)(hD:X.mg m=aa (.ref D))(hE:qy X.base D)(T:∀c,d c=ah->Under X.base D c)(hh:∀a,gw (hand X a) E0 pin (l::h) r)(c8:(i∉pin)^1) (hi:(X.N[i]?=aa n)^0) (hl:(X.env.scope.names.lookup n=aa .local)^0) (hg:Gl X m^0) (hd:av m^1) (dv:(X.stack=X.env::X.outer)^0) (rE:(X.env.frame=aa X.env.locals)^0) (hf:az X n^3) (O:(j∉pin)^1) (hj:(X.N[j]?=aa y)^0) (P:Loc X.env.scope y^6)(N:(jg e (aa (.Name y yp)) ap.line X.env=pure ak)^0) (Q:az X y^3):DS X E pin (.Try [.Assign [.Name y yp] e ap] [.ExceptHandler (aa (.Name m C)) (aa n) (l::h) A] [] [] x) (sr j i d B r):=λF S Z J H Dn rl q=>Bx.mk λag s I=>by
 refine wpAny_Try_except ?_;have w:=hx F S Z J H (λv g=>Dn.nx (J.set j (aa v)) g) (λc g=>∃o z b,aL X.K o z b J g/\Grow (U S) (U z) F o H g/\d c=ah/\i<b.length/\gH X.K E pin J F S H (match r (b.set i (.val (.exc c)))with
  |.ok f p=>(match p[i]? with
   |some (.val _)=>.ok f (p.set i .none)
   |_=>.no)
  |_=>.no) Dn) rl (by
  unfold sr at q;cases Y:B Z with
  |no=>rw[Y]at q;trivial
  |ok sl b=>
   rw[Y]at q;intro o z g M W v Sr rv fr;cases sl with
   |none=>exact q.elim
   |val pv=>exact q o _ _ g (M.set rv.1) (W.trans (Grow.less j)) (ip.set O)
   |own po=>exact q.elim
  |er c b=>
   rw[Y]at q;intro y o z g M W;dsimp only at q;by_cases L:d c=ah/\i<b.length
   .rw[if_pos L]at q;exact⟨o,z,b,M,W,L.1,L.2,q⟩
   .rw[if_neg L]at q;trivial) ag s I
 refine Jy (wpAny_Assign_Name (ff w (λu s1 ⟨v,H1,I1,r1,q1⟩=>?_) λev s1 xp=>?_) N)
 .refine vI I1 hN hj P r1 (λs2 I2=>?_) Q;exact wd (wd ⟨_,H1,I2,q1⟩)
 .exact Li i hN hD hE T hh c8 hi hl hg hd dv rE hf xp
end
end Pu
namespace L2
section
variable{X:Cx}
theorem PR(w:X.calm=ah):eF X (.builtin "sorted") (λxs H Q=>∃(p:ae) (a:List Tx),xs=[.ref p]/\H p=aa (pN X p a)/\a.length<4000/\∀l,H l=af->Q (.ref l) (upd H l (.lst (cm (aS a))))):=by
 intro B s f H xs F Q I r h;obtain⟨p,a,rfl,o,G,q⟩:=h;obtain⟨u,rfl,i⟩:=vals1 r;cases i;obtain⟨S,_,_⟩:=(show cc X.prog X.w H s.heap p (pN X p a)from I.hok p _ o)
 refine GN (PX (uC (I.ok.hd w)) S λg E ss D C M k z y=>?_);obtain⟨c,g',d',t',m⟩:=g;obtain rfl:g'=s.gens:=z;obtain rfl:m=s.os:=y;have d:Inv X B f H {s with heap:=c,drawn:=d',toks:=t'}:=by have:=Inv.call (ch:=[]) I (g':=s.gens) (d':=d') (t':=t') (Un.kept (fs:=fF X.stack) (ex:=[]) k) (I.hok.kept k) I.bare (λb x=>absurd x (by simp));trivial
 refine⟨ss,D,∅,λJ j L e n v b1 b2 A=>?_⟩;exact⟨.ref _,_,Inv.sorted2 (s1:={s with heap:=c,drawn:=d',toks:=t'}) (ss:=a.map tS) d rfl ∅ n v b1 (b2.trans C) A,rfl,q _ d.fresh⟩
end
end L2
namespace Pu
open L2
section
variable{X:Cx}{d:List Nat}{e:aC}{j f:ad (List PV)}{p:Pos}
theorem RU(l:List Tx):(dU l).Nodup:=by
 unfold dU;have:∀(l m:List Tx),m.Nodup->(l.foldl (λks x=>if x∈ks then ks else ks++[x]) m).Nodup:=by
  intro l
  induction l with
  |nil=>simp
  |cons x l n=>grind
 exact this l [] tQ
def MZ(X:Cx):List V->Hp->VK->Prop:=λxs H Q=>∃(p:ae) (m:List Tx),xs=[.ref p]/\H p=aa (pN X p m)/\m.length<4000/\∀l,H l=af->Q (.ref l) (upd H l (.lst (cm (aS m))))
end
end Pu
namespace Mx
theorem Ml(p:Nat):∃o,5^(2^p)=1+2^(p+2)*(2*o+1):=by
 induction p with
 |zero=>exact⟨0,by rfl⟩
 |succ p a=>
  obtain⟨o,h⟩:=a;refine⟨o+2^p*(2*o+1)*(2*o+1),?_⟩;rw[show 2^(p+1)=2^p*2 from zZ ..,Nat.pow_mul,h];rw[show(2:Nat)^(p+1+2)=8*2^p from by rw[z6,zZ];lia,show(2:Nat)^(p+2)=4*2^p from by rw[z6];lia];generalize 2^p=q
  grind
def F5:Nat->Nat->Nat
 |0,x=>x
 |n+1,x=>F5 n (5*x+1)
theorem LY(m n x:Nat):F5 (m+n) x=F5 n (F5 m x):=by
 induction m generalizing x with
 |zero=>simp[F5]
 |succ m a=>rw[Kg];exact a _
theorem Mm(n x:Nat):4*F5 n x+1=5^n*(4*x+1):=by
 induction n generalizing x with
 |zero=>simp[F5]
 |succ n a=>show 4*F5 n (5*x+1)+1=_;rw[a,zZ];grind
theorem T6(p x:Nat):∃o,F5 (2^p) x=x+2^p*(2*o+1):=by
 obtain⟨o,h⟩:=Ml p;have c:=Mm (2^p) x;rw[h,show(2:Nat)^(p+2)=4*2^p from by lia]at c;refine⟨o*(4*x+1)+2*x,?_⟩;generalize 2^p=q at c;generalize F5 q x=y at c
 grind
theorem IH(p:Nat):∀x y,y<2^p->∃n,n<2^p/\F5 n x % 2^p=y:=by
 induction p with
 |zero=>lia
 |succ p d=>
  intro x y f;obtain⟨n,s,e⟩:=d x (y % 2^p) (nW _ (Nat.two_pow_pos p));have g:(2:Nat)^(p+1)=2*2^p:=by lia
  obtain⟨o,j⟩:=T6 p (F5 n x);have c:=Nat.two_pow_pos p;by_cases q:F5 n x % 2^(p+1)=y
  .grind
  .refine⟨n+2^p,∅,?_⟩;rw[LY,j];rw[g]at q f ⊢;generalize 2^p=N at *;generalize F5 n x=z at *;have l:z % (2*N) % N=z % N:=Nat.mod_mod_of_dvd _ ⟨2,∅⟩;have i:(z+N*(2*o+1)) % (2*N)=(z+N) % (2*N):=by rw[show z+N*(2*o+1)=(z+N)+(2*N)*o by grind,Nat.add_mul_mod_self_left]
   rw[i];have r:=nW z (show 2*N > 0 by ac_rfl);have h:(z+N) % (2*N)=(z % (2*N)+N) % (2*N):=by simp
   rw[h];generalize z % (2*N)=u at *;rw[<-l]at e;have a:=Nat.div_add_mod u N;have b:=Nat.div_add_mod y N;have b1:u / N<2:=Nat.div_lt_of_lt_mul (by rw[DM];trivial);have b2:y / N<2:=Nat.div_lt_of_lt_mul (by rw[DM];trivial);rw[e]at a;generalize u / N=uq at a b1;generalize y / N=yq at b b2;have m:=nW y c;rcases(show uq=0\/uq=1 by lia)with c1|c1 <;> rcases(show yq=0\/yq=1 by lia)with c2|c2 <;> subst c1 <;> subst c2 <;> simp only[Nat.mul_zero,Nat.mul_one,mO]at a b
   .exact absurd (a.symm.trans b) q
   .rw[DP ∅];lia
   .rw[show u+N=y+2*N by lia,Nat.add_mod_right,DP ⋯]
   .exact absurd (a.symm.trans b) q
end Mx
namespace L2
open Mx
noncomputable def e_(mask:Nat):Nat->Nat->Nat->Nat×Nat
 |0,i,p=>(i,p)
 |n+1,i,p=>e_ mask n (mR mask i p).1 (mR mask i p).2
theorem AS(mask:Nat):∀(m n i p:Nat),e_ mask (m+n) i p=e_ mask n (e_ mask m i p).1 (e_ mask m i p).2
 |0,n,i,p=>by rw[mO];rfl
 |m+1,n,i,p=>by rw[Kg];exact AS mask m n _ _
theorem BZ(mask:Nat):∀(m i p:Nat),(e_ mask m i p).2=p / 32^m
 |0,i,p=>by simp[e_]
 |m+1,i,p=>by show(e_ mask m _ _).2=_;rw[BZ mask m];show p / 32 / 32^m=_;rw[Nat.div_div_eq_div_mul,zZ,DM]
theorem BR(mask:Nat):∀(n i:Nat),(e_ mask n i 0).1 % (mask+1)=F5 n i % (mask+1)
 |0,i=>rfl
 |n+1,i=>by show(e_ mask n ((i*5+1+0 / 32) % (mask+1)) (0 / 32)).1 % _=F5 n (5*i+1) % _;rw[show 0 / 32=0 from rfl,BR mask n,Nat.add_zero,DM i 5];exact F5_mod n (mask+1) (5*i+1)
where
 F5_mod:∀(n N x:Nat),F5 n (x % N) % N=F5 n x % N
  |0,N,x=>by simp[F5]
  |n+1,N,x=>by show F5 n (5*(x % N)+1) % N=F5 n (5*x+1) % N;rw[<-F5_mod n N (5*(x % N)+1),<-F5_mod n N (5*x+1)];congr 2;rw[Nat.add_mod,Nat.mul_mod,Nat.mod_mod,<-Nat.mul_mod,<-Nat.add_mod]
theorem CD(mask:Nat):∀(n i p:Nat),(e_ mask (n+1) i p).1<mask+1
 |0,i,p=>nW _ (t9 _)
 |n+1,i,p=>CD mask n _ _
theorem Fu{owner:Array (Option Nat)}:∀(a i p:Nat),(∃t,t<a/\(owner.getD (e_ mask t i p).1 (aa 0)).isNone=ah)->∃j,t_ mask owner a i p=aa j/\(owner.getD j (aa 0)).isNone=ah
 |0,i,p,⟨t,h,_⟩=>absurd h (nX _)
 |a+1,i,p,⟨t,h,e⟩=>by
  unfold t_;cases q:(cF (fK mask i+1-i)).find? (λk=>(owner.getD (i+k) (aa 0)).isNone)with
  |some k=>exact⟨i+k,rfl,by have:=List.find?_some q;trivial⟩
  |none=>
   cases t with
   |zero=>have:=Kh.mp q 0 (by rw[o4];unfold fK;split <;> omega);trivial
   |succ t=>exact Fu a _ _ ⟨t,∅,e⟩
theorem L6{owner:Array (Option Nat)}(a:mask+1=2^q)(b:owner.size=mask+1)(m:y<owner.size)(s:owner[y]?=aa af)(i p:Nat)(c:p<2^64):∃j,t_ mask owner (ua mask) i p=aa j/\owner[j]?=aa af:=by
 obtain⟨n,r,e⟩:=IH q (e_ mask 13 i p).1 y (by rw[<-a,<-b];trivial);have f:(e_ mask 13 i p).2=0:=by rw[BZ];exact Nat.div_eq_of_lt (gK c (by simp))
 have l:(e_ mask (13+n) i p).1<mask+1:=by rw[show 13+n=(12+n)+1 by lia];exact CD mask _ _ _
 have u:(e_ mask (13+n) i p).1=y:=by
  have h:(e_ mask (13+n) i p).1 % (mask+1)=y:=by rw[AS,f,BR,a];exact e
  rwa[DP l]at h
 obtain⟨j,g,f2⟩:=Fu (mask:=mask) (owner:=owner) (ua mask) i p ⟨13+n,by unfold ua;lia,by simp_all⟩;refine⟨j,g,?_⟩;rw[DQ]at f2;cases d:owner[j]? with
 |none=>rw[d]at f2;trivial
 |some o=>simp_all
theorem II:∀(l:List (Option Nat)) (j k:Nat),l[j]?=aa af->((l.set j (aa k)).filterMap id).Perm (k::l.filterMap id)
 |[],j,k,h=>by trivial
 |x::l,0,k,h=>by simp at h;subst h;rfl
 |x::l,j+1,k,h=>by
  have a:=II l j k (by trivial);cases x with
  |none=>trivial
  |some v=>simp only[List.set_cons_succ,nL,id];exact(a.cons v).trans (List.Perm.swap ..)
theorem Hx:∀(l:List (Option Nat)),(∀y,y<l.length->l[y]?≠aa af)->(l.filterMap id).length=l.length
 |[],_=>rfl
 |x::l,h=>by
  have a:=Hx l λy b e=>h (y+1) (by simp;omega) (by trivial);cases x with
  |none=>exact absurd rfl (h 0 (by simp))
  |some v=>simp[a]
noncomputable def Laid(b:Nat)(a:Array (Option Nat))(k:Nat):Prop:=a.size=b+1/\(a.toList.filterMap id).Perm (cF k)
theorem UB(g:b+1=2^q)(L:Laid b a k)(n:k<b+1)(h:Int):∃j,t_ b a (ua b) (fA h % (b+1)) (fA h)=aa j/\Laid b (a.setIfInBounds j (aa k)) (k+1):=by
 obtain⟨d,f⟩:=L;have:∃y,y<a.toList.length/\a.toList[y]?=aa af:=by
  by_cases z:∃y,y<a.toList.length/\a.toList[y]?=aa af
  .exact z
  .have:=Hx a.toList λy c e=>z ⟨y,c,e⟩;have:=f.length_eq;simp_all
 obtain⟨y,c,i⟩:=this;have l:fA h<2^64:=by unfold fA;lia
 obtain⟨j,m,f2⟩:=L6 g d (by trivial) (~~~i) (fA h % (b+1)) _ l;refine⟨j,m,~~~d,?_⟩;rw[Array.toList_setIfInBounds,qR];exact(II a.toList j k (~~~f2)).trans ((f.cons k).trans (List.perm_append_singleton ..).symm)
section
theorem Inv.recast(I:Inv X f d H s)(e:H a=aa p)(M:∀xs,p≠.tup xs)(L:∀o u,X.H₀ a≠aa (.frz o u))(J:∀j,p≠.tbl j)(G:∀x,p≠.own x)(new:cc X.prog X.w (upd H a q) s.heap a q):Inv X f d (upd H a q) s:=by
 have i:∀b,H b=af->(upd H a q) b=af:=λb l=>by rw[a6 (by lia)];trivial
 refine⟨I.ok,I.os,I.bare,⟨I.base.keep,I.base.slot,λb o h n y=>i b (I.base.free b o h n y),I.base.there,λb xs h=>?_,λb o u h=>?_,λb j h=>?_⟩,I.loc,I.cell,i _ I.free,λx c h=>i _ (I.freeC x c h),λp A=>?_,λb u l=>?_,I.len⟩
 .have z:=I.base.tups b xs h;rw[a6 (by grind)];exact z
 .have z:=I.base.frzs b o u h;rw[a6 (by grind)];exact z
 .have z:=(I.base.tbls b j h).1;refine⟨by rw[a6 (by grind)];exact z,λc w C g=>?_⟩;obtain⟨B,N⟩:=(I.base.tbls b j h).2 c w C g;exact⟨B,by rw[a6 (by grind)];trivial⟩
 .obtain⟨F,E,D⟩:=I.pin p A;exact⟨F,i _ E,D⟩
 .by_cases m:b=a
  .subst m;rw[upd_same]at l;lia
  .rw[a6 m]at l;refine(I.hok b u l).stay (λc v _ r=>r) (λc r=>?_) λc xs r=>?_
   .rw[a6 (by grind)];exact r
   .rw[a6 (by grind)];exact r
def rO(o:Obj):Nat:=match o.data with
 |.dict _ ep=>ep
 |_=>0
end
end L2
namespace Pu
open L2
section
variable{X:Cx}{f:List Nat}{c:aC}{de db g:ad PV}
def nE(i:Nat):ad PV:=λa=>(aR (eA a i) a).bind λh a=>.ok (.int (h.length:Nat)) a
theorem Il(i:Nat)(s:X.mg "len"=af)(z:(X.N[i]?=aa y)^0)(B:d8 X.env.scope y^2)(w:av y^1) (D:a4 y^1) (v:Gl X "len"^0)(m:(aX [.Name y j] X.env=(ak,a8 (.Name y j) X.env)::aX [] X.env)^0) (C:((dr d (aX [] X.env)).any (·.1)=ak)^0):DE X E (.Call (.Name "len" p) [.Name y j] [] d) (nE i):=λF S n G H Q r h=>by
 unfold nE at h;cases l:eA n i with
 |none=>rw[l]at h;exact h.elim
 |some q=>rw[l]at h;obtain⟨a,o,A,x,u,_⟩:=r.dkAt (mr l);refine bY (mx NP v s rfl (i7 (eY z B w D) jz m) (by decide) (by rfl) m C) ⟨_,A,a,o,rfl,x,?_⟩;rw[u.len];exact h F S H r (Grow.refl ..) _ rfl
def jw(neg:Bool)(i:Nat)(db:ad PV):ad PV:=λε=>(db ε).bind λk ε1=>(aR (eA ε1 i) ε1).bind λa ε1=>aR ((jx k).map λk=>.bl (neg^^(jv a k).isSome)) ε1
theorem Lg(l:Bool){Q:VK}(M:DE X E b db)(I:aL X.K F S p j H)(h:Ok X.K E j F S H (jw l i db p) (λpv _ P _ B=>∀v,aN X.K B P pv v->Q v B)):gz X b j H λy m=>∃x,j[i]?=aa (aa x)/\∃a o,x=.ref a/\ni m a y o/\Q (.bl (l^^o.isSome)) m:=by
 unfold jw at h;refine M F S p j H _ I ((Ok.bind h).imp λk n C A m r T q u G=>?_);cases w:eA n i with
 |none=>rw[w]at q;trivial
 |some J=>
  rw[w]at q;simp only[bT,R.bind_ok]at q;obtain⟨a,D,O,N,L,_⟩:=r.dkAt (mr w);cases s:jx k with
  |none=>rw[s]at q;trivial
  |some z=>
   rw[s,wA]at q;rw[sZ G s];refine⟨.ref a,O,a,jX D z,rfl,ni.k N,?_⟩;rcases L.val z with⟨x,v,h1,h2,h3⟩|⟨h1,h2⟩
   .rw[h1]at q;rw[h2];exact q C A m r (Grow.refl ..) _ rfl
   .rw[h1]at q;rw[h2];exact q C A m r (Grow.refl ..) _ rfl
theorem BE(i:Nat){a:Pos}(w:X.A.units+64<cLine)(n:DE X E b db)(o:(X.N[i]?=aa y)^0)(p:d8 X.env.scope y^2)(m:av y^1) (q:a4 y^1) (l:(qI .In (.Name y a)=ak)^0):DT X E (.Compare b [.In] [.Name y a] d) (dB (jw ak i db)):=λF S u s H Q j h=>by refine vZ (Ts (P9 ∅ bJ (eY o p m q)) l) ?_;have:=Lg (Q:=λv r=>∃k,v=.bl k/\Q k r) ak n j (uL h);simp only[wG]at this;trivial
theorem vq(x:Str):tS x.cps.toList=x:=by rfl
end
section
variable{g:List Nat}{e:aC}{de d a:ad PV}
def uO(d a:ad PV):ad PO:=λj=>(d j).bind λk i=>(a i).bind λy h=>(aR (jx k) h).bind λl h=>.ok (.dK [(l,y)]) h
theorem On(hb:DE X E b d)(hc:DE X E c a):DN X E (.Dict [aa b] [c] f) (uO d a):=λF S T L H Q A h=>by
 refine bY (Mq (G5 bJ bJ IC) rfl rfl (by simp) (by simp)) λp r=>?_;have al:Al F F H (upd H p (.dK [])):=Al.new0 r;have nF:¬F p:=λz=>by obtain⟨o,q⟩:=A.ex p z;lia
 have nS:¬U S p:=λ⟨i,z⟩=>by obtain⟨_,_,o,q,_⟩:=A.foot i p z;rw[r]at q;cases q
 have D:Grow (U S) (U S) F F H (upd H p (.dK [])):=al.grow;refine hb F S T L _ _ (A.al al) ((Ok.bindB h D).imp λk s F1 S1 H1 M I h1 u W=>?_);obtain⟨e1,C,B⟩:=I.stay (upd_same:upd H p (.dK []) p=aa (.dK [])) nS nF;refine hc F1 S1 s L H1 _ M ((Ok.bindB h1 (D.trans I)).imp λy P O S2 H2 Z G n w v=>?_);obtain⟨N,l,j⟩:=G.stay e1 B C;cases J:jx k with
 |none=>rw[J]at n;exact n.elim
 |some m=>
  rw[J]at n;simp only[bT,R.bind_ok]at n;have x:aN X.K H2 O k u:=W.grow G M.fit;refine⟨N,[(m,w)],?_,by simp,?_⟩
  .rw[cp,zG,<-sZ x J]
  .rw[show tF [] [(m,w)]=[(m,w)] from rfl];obtain⟨gl,fit,Y⟩:=Z.lay (o':=.dK [(m,w)]) N trivial l j;have g3:=((D.trans I).trans G).lay (o':=.dK [(m,w)]) r;refine n O S2 _ Y g3 p (λb=>b=p) ⟨⟨_,upd_same,.cons ⟨rfl,v.grow gl fit⟩ .nil⟩,λb=>kE⟩ λb z=>?_;subst z;exact⟨r,l,j,_,upd_same,trivial⟩
end
end Pu
namespace L2
open Mx
theorem perm_mapE{g o:Type}{f:g->o}{l:List o}{m:List g}(h:l.Perm (m.map f)):∃d:List g,l=d.map f/\d.Perm m:=by
 generalize c:m.map f=mm at h
 induction h generalizing m with
 |nil=>simp_all
 |cons x _ w=>
  cases m with
  |nil=>trivial
  |cons y r=>rw[cp]at c;injection c with q n;obtain⟨d,e,p⟩:=w n;exact⟨y::d,⋯,p.cons y⟩
 |swap x y l=>
  match m,c with
  |a::b::r,c=>simp only[cp,mS]at c;obtain⟨q,n,z⟩:=c;exact⟨b::a::r,by simp[q,n,z],.swap ..⟩
 |trans _ _ j i=>obtain⟨C,A,s⟩:=i c;obtain⟨v,B,u⟩:=j A.symm;exact⟨v,B,u.trans s⟩
theorem below_go{xs:Array Nat}(g:xs.toList.Pairwise (· < ·)):∀(f d c:Nat),c-d<=f->d<=c->c<=xs.size -> (∀i (h:i<xs.size),i<d->xs[i]<j)->(∀i (h:i<xs.size),c<=i->j<=xs[i]) -> DV xs j f d c<=xs.size/\(∀i (h:i<xs.size),i<DV xs j f d c->xs[i]<j)/\∀i (h:i<xs.size),DV xs j f d c<=i->j<=xs[i]
 |0,d,c,h,hl,hs,h1,h2=>by
  have:d=c:=∅
  subst this;trivial
 |f+1,d,c,h,hl,hs,h1,h2=>by
  unfold DV;split
  .rename_i u;have s:(d+c) / 2<xs.size:=∅
   have mono:∀a b (r:a<xs.size) (q:b<xs.size),a<b->xs[a]<xs[b]:=λa b r q m=>by have:=t7.mp g a b (by trivial) (by trivial) m;trivial
   have o:xs.getD ((d+c) / 2) j=xs[(d+c) / 2]:=by simp_all
   dsimp only;rw[o];split
   .rename_i p;refine below_go g f _ _ nofun ∅ hs (λi n l=>?_) h2;by_cases e:i=(d+c) / 2
    all_goals grind
   .rename_i p;refine below_go g f _ _ nofun ∅ ∅ h1 (λi n l=>?_);by_cases e:i=(d+c) / 2
    all_goals grind
  grind
theorem below_ok{xs:Array Nat}(a:xs.toList.Pairwise (· < ·))(j:Nat):jI xs j<=xs.size/\(∀i (h:i<xs.size),i<jI xs j->xs[i]<j)/\∀i (h:i<xs.size),jI xs j<=i->j<=xs[i] :=below_go a xs.size 0 xs.size (by simp) (by simp) (bn _) (λi _ h=>absurd h (nX _)) λi h b=>absurd h ∅
structure TOk(t:cq):Prop where
 dm:t.dummies=#[]
 ris:t.place.toList.Pairwise (· < ·)
 le:∀j∈t.place.toList,j<=t.mask
 sz:t.mask∈[7,31,127,511,2047,8191]
 roomy:t.place.size*5<t.mask*3
theorem TOk.pow(h:TOk t):∃q,t.mask+1=2^q:=by
 have:=h.sz;simp only[bZ,jl,or_false]at this;rcases this with e|e|e|e|e|e <;> rw[e]
 .exact⟨3,rfl⟩
 .exact⟨5,rfl⟩
 .exact⟨7,rfl⟩
 .exact⟨9,rfl⟩
 .exact⟨11,rfl⟩
 .exact⟨13,rfl⟩
theorem TOk.most(h:TOk t):t.mask<=8191/\7<=t.mask/\t.mask % 2=1:=by
 have:=h.sz
 grind
theorem slot_of{t:cq}(h:t.dummies=#[])(a:t.place.toList.Pairwise (· < ·))(j:Nat):(j∉t.place.toList/\t.slot j=.empty)\/∃i,t.place[i]?=aa j/\t.slot j=.live i:=by
 obtain⟨o,b1,b2⟩:=below_ok a j;unfold SetTable.slot;dsimp only;by_cases b:t.place[jI t.place j]?=aa j
 .exact .inr ⟨_,b,by rw[b];simp⟩
 .refine .inl ⟨λd=>?_,?_⟩
  .obtain⟨i,l,e⟩:=n4 d;have c:i<t.place.size:=by trivial
   have g:t.place[i]=j:=by trivial
   have n:¬i<jI t.place j:=λz=>by grind
   have f:jI t.place j<t.place.size:=∅
   have m:=b2 _ f (bn _);have:jI t.place j=i:=by
    by_cases q:jI t.place j=i
    .exact q
    .have:=t7.mp a _ i (by trivial) (by trivial) ∅
     grind
   exact b (by rw[this,k_ c,g])
  .rw[if_neg (~~~b),h];rfl
def stp(a i p:Nat):kF:={j:=i,more:=fK a i-i,i:=i,perturb:=p,dummy:=af}
noncomputable def pth(t:cq):Nat->kF->kF
 |0,p=>p
 |n+1,p=>pth t n (t.advance p)
theorem pth_add(t:cq):∀(m n:Nat) (p:kF),pth t (m+n) p=pth t n (pth t m p)
 |0,n,p=>by rw[mO];rfl
 |m+1,n,p=>by rw[Kg];exact pth_add t m n _
theorem pth_succ(t:cq)(n:Nat)(p:kF):pth t (n+1) p=t.advance (pth t n p):=pth_add t n 1 p
theorem adv_dummy(t:cq)(p:kF):(t.advance p).dummy=p.dummy:=by unfold DY;split <;> rfl
theorem pth_dummy(t:cq):∀(n:Nat) (p:kF),(pth t n p).dummy=p.dummy
 |0,p=>rfl
 |n+1,p=>(pth_dummy t n _).trans (adv_dummy t p)
theorem pth_mask{t a:cq}(h:t.mask=a.mask):∀(n:Nat) (p:kF),pth t n p=pth a n p
 |0,p=>rfl
 |n+1,p=>by
  have:t.advance p=a.advance p:=by unfold DY;rw[h]
  show pth t n (t.advance p)=pth a n (a.advance p);rw[this,pth_mask h n]
theorem pth_run(t:cq):∀(k:Nat) (p:kF),k<=p.more->pth t k p={p with j:=p.j+k,more:=p.more-k}
 |0,p,_=>rfl
 |k+1,p,h=>by
  show pth t k (t.advance p)=_;have:t.advance p={p with j:=p.j+1,more:=p.more-1}:=by unfold DY;rw[if_pos ∅]
  rw[this,pth_run t k _ (by dsimp only;lia)];lia
theorem run_le(a i:Nat):fK a i-i<=9:=by unfold fK;split <;> simp
theorem pth_leap(t:cq)(i p:Nat):pth t (fK t.mask i-i+1) (stp t.mask i p)=stp t.mask (mR t.mask i p).1 (mR t.mask i p).2:=by rw[pth_succ,pth_run t (fK t.mask i-i) (stp t.mask i p) (bn _)];exact(if_neg (show ¬(fK t.mask i-i-(fK t.mask i-i) > 0) by simp)).trans rfl
theorem pth_orb(t:cq):∀(m i p:Nat),∃n,n<=10*m/\pth t n (stp t.mask i p)=stp t.mask (e_ t.mask m i p).1 (e_ t.mask m i p).2
 |0,i,p=>⟨0,bn _,rfl⟩
 |m+1,i,p=>by obtain⟨n,b,a⟩:=pth_orb t m (mR t.mask i p).1 (mR t.mask i p).2;refine⟨fK t.mask i-i+1+n,by have:=run_le t.mask i;lia,?_⟩;rw[pth_add,pth_leap];trivial
theorem nat_len_sub:∀{l m:List Nat},l.Nodup->(∀x∈l,x∈m)->l.length<=m.length
 |[],m,_,_=>jG _
 |x::l,m,c,h=>by
  have d:x∈m:=h x (j3 ..);have a:=kB.mp c;have:=nat_len_sub (l:=l) (m:=m.erase x) a.2 λy b=>by have:y≠x:=λe=>a.1 (e ▸ b);exact(List.mem_erase_of_ne this).mpr (h y (gZ _ b))
  grind
theorem bits_lt(h:Int):fA h<2^64:=by unfold fA;lia
theorem pth_empty(ok:TOk t)(h:Int):∃n,n<=10*(t.mask+14)/\(pth t n (t.probeStart h)).j∉t.place.toList:=by
 obtain⟨q,o⟩:=ok.pow;have:∃y,y<t.mask+1/\y∉t.place.toList:=by
  by_cases z:∃y,y<t.mask+1/\y∉t.place.toList
  .exact z
  .have:=nat_len_sub (l:=cF (t.mask+1)) (m:=t.place.toList) List.nodup_range λx i=>by
    simp_all
   have:=ok.roomy
   grind
 obtain⟨y,g,r⟩:=this;obtain⟨n,j,e⟩:=IH q (e_ t.mask 13 (fA h % (t.mask+1)) (fA h)).1 y ⋯;have a:(e_ t.mask 13 (fA h % (t.mask+1)) (fA h)).2=0:=by rw[BZ];exact Nat.div_eq_of_lt (gK (bits_lt h) (by simp))
 have f:(e_ t.mask (13+n) (fA h % (t.mask+1)) (fA h)).1<t.mask+1:=by rw[show 13+n=(12+n)+1 by lia];exact CD t.mask _ _ _
 have d:(e_ t.mask (13+n) (fA h % (t.mask+1)) (fA h)).1=y:=by
  have c:(e_ t.mask (13+n) (fA h % (t.mask+1)) (fA h)).1 % (t.mask+1)=y:=by rw[AS,a,BR];simp_all
  rwa[DP f]at c
 obtain⟨k,p,b⟩:=pth_orb t (13+n) (fA h % (t.mask+1)) (fA h);refine⟨k,∅,?_⟩;show(pth t k (stp t.mask (fA h % (t.mask+1)) (fA h))).j∉_;rw[b];show(e_ t.mask (13+n) _ _).1∉_;rw[d];trivial
theorem least{p:Nat->Prop}:∀(n:Nat),p n->∃m,m<=n/\p m/\∀k,k<m->¬p k
 |0,h=>⟨0,bn _,h,λk d=>absurd d (nX _)⟩
 |n+1,h=>by
  by_cases z:∃m,m<=n/\p m/\∀k,k<m->¬p k
  .obtain⟨m,a,b,c⟩:=z;exact⟨m,∅,b,c⟩
  .refine⟨n+1,bn _,h,λk d f=>z ?_⟩;obtain⟨m,a,b,c⟩:=least k f
   grind
theorem go_met{t:cq}(j:t.dummies=#[])(b:t.place.toList.Pairwise (· < ·))(qY:Nat->Int)(h:Int):∀(d n:Nat) (p:kF),n<d->p.dummy=af->(pth t n p).j∉t.place.toList->(∀k,k<n->(pth t k p).j∈t.place.toList) -> ((wH t qY h d p=aa (.empty (pth t n p).j af)/\∀k i,k<n->t.place[i]?=aa (pth t k p).j->t.slot (pth t k p).j=.live i->qY i≠h) \/ ∃m i,m<n/\t.place[i]?=aa (pth t m p).j/\t.slot (pth t m p).j=.live i/\qY i=h/\wH t qY h d p=aa (.candidate (pth t m p).j i (pth t (m+1) p))/\∀k i,k<m->t.slot (pth t k p).j=.live i->qY i≠h)
 |0,n,p,hf,_,_,_=>absurd hf (nX _)
 |d+1,0,p,hf,hd,he,_=>by
  left;refine⟨?_,λk i c=>absurd c (nX _)⟩;rcases slot_of j b p.j with⟨_,e⟩|⟨i,e,_⟩
  .unfold wH;rw[e,hd];rfl
  .exact absurd (j7 (show t.place.toList[i]?=aa p.j by simpa using e)) he
 |d+1,n+1,p,hf,hd,he,hb=>by
  rcases slot_of j b p.j with⟨e,_⟩|⟨i,e1,e2⟩
  .exact absurd (hb 0 (t9 _)) e
  .unfold wH;rw[e2];dsimp only;by_cases g:qY i=h
   .right;refine⟨0,i,t9 _,e1,e2,g,?_,λk i c=>absurd c (nX _)⟩;rw[if_pos (~~~g)];rfl
   .rw[if_neg (~~~g)];rcases go_met j b qY h d n (t.advance p) ∅ ((adv_dummy t p).trans hd) he (λk c=>hb (k+1) ∅)with⟨g1,g2⟩|⟨m,a,g1,g2,g3,g4,g5,g6⟩
    .refine .inl ⟨g1,λk a c l f=>?_⟩;cases k with
     |zero=>
      have:a=i:=by have o:t.slot p.j=.live a:=f;lia
      lia
     |succ k=>exact g2 k a ∅ l f
    .refine .inr ⟨m+1,a,∅,g2,g3,g4,g5,λk a c f=>?_⟩;cases k with
     |zero=>
      have:a=i:=by have o:t.slot p.j=.live a:=f;lia
      lia
     |succ k=>exact g6 k a ∅ f
theorem ins_list(xs:Array a)(p:Nat)(x:a):(qS xs p x).toList=xs.toList.take p++x::xs.toList.drop p:=by unfold qS;simp[mQ,t4,Array.toList_extract,List.extract,jH];exact pc (by simp)
theorem zip_ins{d c:Type}{a:List d}{b:List c}(h:a.length=b.length)(p:Nat)(x:d)(y:c)(q:d×c):q∈(a.take p++x::a.drop p).zip (b.take p++y::b.drop p)↔q=(x,y)\/q∈a.zip b:=by
 rw[List.zip_append (by simp[h]),kA,DZ,bZ];have:a.zip b=(a.take p).zip (b.take p)++(a.drop p).zip (b.drop p):=by rw[<-List.zip_append (by simp[h]),mP,mP]
 rw[this,kA];constructor
 .rintro(h|h|h)
  .exact .inr (.inl h)
  .exact .inl h
  .exact .inr (.inr h)
 .rintro(h|h|h)
  .exact .inr (.inl h)
  .exact .inl h
  .exact .inr (.inr h)
def Rch(t:cq)(a:List Nat)(j:Nat)(h:Int):Prop:=∃n,(pth t n (t.probeStart h)).j=j/\∀k,k<n->(pth t k (t.probeStart h)).j∈a
structure TPl(t:cq)(hs:List Int):Prop where
 ok:TOk t
 len:t.place.size=hs.length
 rch:∀q∈t.place.toList.zip hs,Rch t t.place.toList q.1 q.2
theorem put_ris{a:Array Nat}(b:a.toList.Pairwise (· < ·))(g:j∉a.toList):(qS a (jI a j) j).toList.Pairwise (· < ·):=by
 obtain⟨h,b1,b2⟩:=below_ok b j;rw[ins_list];have up:∀y∈a.toList.drop (jI a j),j<y:=λy c=>by
  obtain⟨k,f,e⟩:=n4 c
  grind
 have dn:∀x∈a.toList.take (jI a j),x<j:=λx d=>by
  obtain⟨k,f,e⟩:=n4 d
  grind
 refine DH.mpr ⟨b.sublist (List.take_sublist _ _),List.pairwise_cons.mpr ⟨up,b.sublist (List.drop_sublist _ _)⟩,λx d y c=>?_⟩;rcases bZ.mp c with rfl|c
 .exact dn x d
 .exact tP (dn x d) (up y c)
theorem Rch.up{t t':cq}(b:t.mask=t'.mask)(g:∀x∈c,x∈a)(r:Rch t c j h):Rch t' a j h:=by
 obtain⟨n,e,f⟩:=r;have d:t'.probeStart h=t.probeStart h:=by unfold SetTable.probeStart;rw[b]
 exact⟨n,by rw[d,<-pth_mask b];exact e,λk i=>by rw[d,<-pth_mask b];exact g _ (f k i)⟩
theorem put_tp(T:TPl t b)(h:Int)(o:(pth t n (t.probeStart h)).j∉t.place.toList)(p:∀k,k<n->(pth t k (t.probeStart h)).j∈t.place.toList)(s:(pth t n (t.probeStart h)).j<=t.mask):let t':=(t.put (pth t n (t.probeStart h)).j).1
  let d:=b.take (t.put (pth t n (t.probeStart h)).j).2++h::b.drop (t.put (pth t n (t.probeStart h)).j).2
  t'.dummies=#[]/\t'.place.toList.Pairwise (· < ·)/\(∀j∈t'.place.toList,j<=t'.mask)/\t'.mask=t.mask/\t'.place.size=t.place.size+1/\d.length=b.length+1 /\
   ∀q∈t'.place.toList.zip d,Rch t' t'.place.toList q.1 q.2:=by
 intro t' d;have g:t'.place.toList=t.place.toList.take (jI t.place (pth t n (t.probeStart h)).j)++(pth t n (t.probeStart h)).j::t.place.toList.drop (jI t.place (pth t n (t.probeStart h)).j):=ins_list _ _ _;have a:∀x,x∈t'.place.toList↔x=(pth t n (t.probeStart h)).j\/x∈t.place.toList:=λx=>by
  rw[g,kA,bZ];have:=congrArg (x∈·) (mP (jI t.place (pth t n (t.probeStart h)).j) t.place.toList)
  grind
 have i:t'.mask=t.mask:=rfl;have r:t.place.toList.length=b.length:=by have:=T.len;trivial
 refine⟨?_,put_ris T.ok.ris o,λj f=>?_,rfl,?_,?_,λq c=>?_⟩
 .show(if SetTable.has t.dummies _ then _ else t.dummies)=#[];rw[T.ok.dm];rfl
 .rcases(a j).mp f with rfl|f
  .trivial
  .exact T.ok.le j f
 .rw[<-iH,g];simp;lia
 .grind
 .rw[g]at c;rcases(zip_ins r _ _ _ q).mp c with rfl|c
  .exact⟨n,by rw[pth_mask i];rfl,λk m=>by rw[pth_mask i];exact(a _).mpr (.inr (p k m))⟩
  .exact(T.rch q c).up i.symm λx l=>(a x).mpr (.inr l)
theorem adv_le{t:cq}{p:kF}(h:p.j+p.more<=t.mask):(t.advance p).j+(t.advance p).more<=t.mask:=by
 unfold DY;split
 .dsimp only;lia
 .show(mR t.mask p.i p.perturb).1+(fK t.mask (mR t.mask p.i p.perturb).1-(mR t.mask p.i p.perturb).1)<=t.mask;have:(mR t.mask p.i p.perturb).1<t.mask+1:=nW _ (t9 _);generalize (mR t.mask p.i p.perturb).1=i at *;unfold fK;split <;> lia
theorem pth_le{t:cq}:∀(n:Nat) {p:kF},p.j+p.more<=t.mask->(pth t n p).j+(pth t n p).more<=t.mask
 |0,p,h=>h
 |n+1,p,h=>pth_le n (adv_le h)
theorem stp_le(h:i<a+1):(stp a i p).j+(stp a i p).more<=a:=by show i+(fK a i-i)<=a;unfold fK;split <;> lia
theorem start_le(t:cq)(h:Int)(n:Nat):(pth t n (t.probeStart h)).j<=t.mask:=by have:=pth_le (t:=t) n (p:=t.probeStart h) (stp_le (p:=fA h) (nW (fA h) (t9 t.mask)));lia
def Occ(a:Array (Option Nat))(j:Nat):Prop:=∃k,a[j]?=aa (aa k)
theorem free_path(t:cq){a:Array (Option Nat)}(s:a.size=t.mask+1):∀(f i p j:Nat),i<t.mask+1->t_ t.mask a f i p=aa j -> ∃n,(pth t n (stp t.mask i p)).j=j/\∀k,k<n->Occ a (pth t k (stp t.mask i p)).j
 |0,i,p,j,_,h=>by trivial
 |f+1,i,p,j,hi,h=>by
  have c:∀k,k<=fK t.mask i-i->(a.getD (i+k) (aa 0)).isNone=ak->Occ a (i+k):=λk d e=>by
   have r:i+k<a.size:=by have:=stp_le (p:=p) hi;have:i+(fK t.mask i-i)<=t.mask:=this;lia
   rw[DQ,k_ r]at e;unfold Occ;rw[k_ r];cases q:a[i+k]with
   |none=>simp_all
   |some v=>lia
  have b:∀k,k<=fK t.mask i-i->(pth t k (stp t.mask i p)).j=i+k:=λk d=>by rw[pth_run t k (stp t.mask i p) d];rfl
  unfold t_ at h;cases q:(cF (fK t.mask i+1-i)).find? (λk=>(a.getD (i+k) (aa 0)).isNone)with
  |some k=>
   rw[q]at h;cases h;obtain⟨_,g,bs,o,A⟩:=List.find?_eq_some_iff_append.mp q;have d:k<fK t.mask i+1-i:=o4.mp (List.mem_of_find?_eq_some q);refine⟨k,b k nofun,λm w=>?_⟩;rw[b m nofun];refine c m nofun ?_;have:m∈g:=by
    have x:g.length=k:=by have:=congrArg (λl=>l[g.length]?) o;simp only[List.getElem?_append_right (bn _),Nat.sub_self,List.getElem?_cons_zero]at this;rw[cJ]at this;obtain⟨y,e⟩:=this;rw[List.getElem_range]at e;exact e
    have:=congrArg (λl=>l[m]?) o;rw[wj ⋯,Df ∅]at this;exact j7 this.symm
   simp_all
  |none=>
   rw[q]at h;obtain⟨n,z,f2⟩:=free_path t s f _ _ j (nW _ (t9 _)) h;refine⟨fK t.mask i-i+1+n,by rw[pth_add,pth_leap];trivial,λk d=>?_⟩;by_cases u:k<fK t.mask i-i+1
   .rw[b k ∅];refine c k ∅ ?_;have:=Kh.mp q k (o4.mpr (by unfold fK at u ⊢;lia));exact DC.mpr this
   .have e:k=fK t.mask i-i+1+(k-(fK t.mask i-i+1)):=⋯
    rw[e,pth_add,pth_leap];exact f2 _ ∅
def LaidR(t:cq)(a:Array (Option Nat))(b:List Int):Prop:=∀(j k:Nat),a[j]?=aa (aa k)->∃h,b[k]?=aa h/\∃n,(pth t n (t.probeStart h)).j=j/\∀m,m<n->Occ a (pth t m (t.probeStart h)).j
theorem layClean_ok2(t:cq)(w:t.mask+1=2^q)(f:Array Int)(G:f.size<=t.mask):∃a,Do t.mask f=aa a/\Laid t.mask a f.size/\LaidR t a f.toList:=by
 unfold Do;have i:∀(l b:List Int) (a:Array (Option Nat)),Laid t.mask a b.length->LaidR t a b->b.length+l.length<=t.mask+1->∃c,l.foldl (λF h=>do
   let (a,k) <-F
   let j <-t_ t.mask a (ua t.mask) (fA h % (t.mask+1)) (fA h)
   pure (a.setIfInBounds j (aa k),k+1)) (aa (a,b.length))=aa (c,(b++l).length)/\Laid t.mask c (b++l).length/\LaidR t c (b++l):=by
  intro l
  induction l with
  |nil=>intro b a L R _;rw[ik];exact⟨a,rfl,L,R⟩
  |cons h l v=>
   intro b a L R y;simp only[fz]at y;obtain⟨j,B,L2⟩:=UB w L ∅ h;obtain⟨n,p,r⟩:=free_path t L.1 _ _ _ _ (nW _ (t9 _)) B;have z:j<a.size:=by rw[L.1,<-p];exact Nat.lt_succ_of_le (start_le t h n)
   have grow:∀x,Occ a x->Occ (a.setIfInBounds j (aa b.length)) x:=λx ⟨k,e⟩=>by
    unfold Occ;rw[Array.getElem?_setIfInBounds];by_cases d:j=x
    .rw[if_pos d,if_pos ∅];exact⟨_,rfl⟩
    .rw[if_neg d];trivial
   have R2:LaidR t (a.setIfInBounds j (aa b.length)) (b++[h]):=λx k e=>by
    rw[Array.getElem?_setIfInBounds]at e;by_cases d:j=x
    .subst d;rw[if_pos rfl,if_pos ⋯]at e;cases e;exact⟨h,by simp,n,p,λm g=>grow _ (r m g)⟩
    .rw[if_neg d]at e;obtain⟨A,E,s,D,C⟩:=R x k e;have u:k<b.length:=(cJ.mp E).1;exact⟨A,by rw[wj u];trivial,s,D,λm g=>grow _ (C m g)⟩
   have o:Laid t.mask (a.setIfInBounds j (aa b.length)) (b++[h]).length:=by rw[jk];trivial
   obtain⟨c,e,I,H⟩:=v (b++[h]) _ o R2 (by simp;lia);simp_all
 obtain⟨c,e,L,R⟩:=i f.toList [] (Array.replicate (t.mask+1) af) ⟨by simp,by simp⟩ (λj k e=>by
  rw[Array.getElem?_replicate]at e;split at e <;> cases e) (by simp;lia)
 simp_all
theorem laid_tp(finger moves:Nat)(led plain:Bool)(N:mask+1=2^q)(J:mask∈[7,31,127,511,2047,8191])(b:Array (Int×ai))(hn:b.size*5<mask*3):∃t c,Dm mask finger moves led plain (b.map (·.1))=aa (t,c)/\t.led=led/\t.plain=plain/\t.mask=mask/\t.moves=moves/\(c.filterMap (b[·]?)).toList.Perm b.toList/\TPl t ((c.filterMap (b[·]?)).toList.map (·.1)):=by
 let t0:cq:={mask:=mask,place:=#[],dummies:=#[],finger:=finger,led:=led,moves:=moves,plain:=plain}
 obtain⟨a,e,L,R⟩:=layClean_ok2 t0 (q:=q) N (b.map (·.1)) (by grind)
 let live:=(cF (mask+1)).filterMap λj=>(a.getD j af).map (j,·)
 let t:cq:={mask:=mask,place:=(live.map (·.1)).toArray,dummies:=#[],finger:=finger,led:=led,moves:=moves,plain:=plain}
 have S:Dm mask finger moves led plain (b.map (·.1))=aa (t,(live.map (·.2)).toArray):=by unfold Dm;have X:Do mask (b.map (·.1))=aa a:=e;rw[X];rfl
 have g:∀x:Nat×Nat,x∈live↔x.1<mask+1/\a[x.1]?=aa (aa x.2):=λx=>by
  show x∈(cF (mask+1)).filterMap _↔_;rw[JA];constructor
  .rintro⟨j,v,e⟩;have u:j<a.size:=by rw[L.1];exact o4.mp v
   rw[DQ,k_ u]at e;simp only[Option.getD_some,mF]at e;obtain⟨k,W,rfl⟩:=e;exact⟨o4.mp v,by rw[k_ u,W]⟩
  .rintro⟨F,E⟩;exact⟨x.1,o4.mpr F,by simp_all⟩
 have T:live.map (·.2)=a.toList.filterMap id:=by
  show((cF (mask+1)).filterMap _).map _=_;rw[J7];have:a.toList=(cF (mask+1)).map λj=>a.getD j af:=by
   refine pf λi=>?_;rw[dY];by_cases D:i<mask+1
   .rw[Df D];simp[DQ,show i<a.size by rw[L.1];trivial]
   .rw[nY (by rw[iH,L.1];ac_rfl),nY (~~~D)];rfl
  rw[this,zB];refine fm_congr' λj _=>?_;show Option.map (λx=>x.snd) (Option.map (λx=>(j,x)) (a.getD j af))=a.getD j af;cases a.getD j af <;> rfl
 have d:(live.map (·.2)).Perm (cF b.size):=by rw[T];have:=L.2;simpa using this
 have Y:∀k∈live.map (·.2),k<b.size:=λk A=>o4.mp (d.mem_iff.mp A);have s:∀l:List (Nat×Nat),(∀x∈l,x.2<b.size)->((l.map (·.2)).filterMap (b[·]?)).map (·.1)=l.map λx=>((b[x.2]?).map (·.1)).getD 0:=by
  intro l
  induction l with
  |nil=>intro _;rfl
  |cons x r ih=>grind
 have G:∀x∈live,x.2<b.size:=λx f=>Y _ (bU.mpr ⟨x,f,rfl⟩);have o:(((live.map (·.2)).toArray).filterMap (b[·]?)).toList=(live.map (·.2)).filterMap (b[·]?):=by simp
 have Z:((live.map (·.2)).filterMap (b[·]?)).Perm b.toList:=by have:=d.filterMap (b[·]?);rwa[filterMap_getElem?_range]at this
 have p:live.length=b.size:=by have:=d.length_eq;simpa using this
 have z:∀x,Occ a x->x∈t.place.toList:=λx ⟨k,A⟩=>by
  show x∈(live.map (·.1)).toArray.toList;have f:x<mask+1:=by have:=(mG.mp A).1;rw[L.1]at this;trivial
  simp_all
 refine⟨t,_,S,rfl,rfl,rfl,rfl,by rw[o];trivial,⟨⟨rfl,?_,λj v=>?_,J,?_⟩,?_,λx f=>?_⟩⟩
 .show(live.map (·.1)).Pairwise (· < ·);have w:(live.map (·.1)).Sublist (cF (mask+1)):=by show(((cF (mask+1)).filterMap _).map _).Sublist _;rw[J7];refine fm_sub _ λj k e=>?_;simp_all
  exact List.pairwise_lt_range.sublist w
 .have u:j∈live.map (·.1):=v;obtain⟨x,f,rfl⟩:=bU.mp u;exact Nat.le_of_lt_succ ((g x).mp f).1
 .show(live.map (·.1)).toArray.size*5<mask*3;simp[p];trivial
 .rw[o];show(live.map (·.1)).toArray.size=_;rw[s live G];simp
 .rw[o,s live G]at f;have C:x∈(live.map (·.1)).zip (live.map λx=>((b[x.2]?).map (·.1)).getD 0):=f;rw[List.zip_map']at C;obtain⟨y,M,rfl⟩:=bU.mp C;obtain⟨F,E⟩:=(g y).mp M;obtain⟨h,Q,n,P,O⟩:=R _ _ E;have B:((b[y.2]?).map (·.1))=aa h:=by have:(b.map (·.1)).toList[y.2]?=aa h:=Q;simpa using this
  show Rch t t.place.toList y.1 (((b[y.2]?).map (·.1)).getD 0);rw[B];have I:t0.mask=t.mask:=rfl;refine Rch.up (t:=t0) I (λx f=>f) ⟨n,P,λm H=>z _ (O m H)⟩
where
 fm_congr' {α β:Type}{f g:α->Option β}:∀{l:List α},(∀k∈l,f k=g k)->l.filterMap f=l.filterMap g
  |[],_=>rfl
  |x::l,h=>by rw[nL,nL,h x (j3 ..),fm_congr' λk hk=>h k (gZ _ hk)]
 fm_sub {f:Nat->Option Nat}:∀(l:List Nat),(∀j k,f j=aa k->k=j)->(l.filterMap f).Sublist l
  |[],_=>.slnil
  |x::l,h=>by
   rw[nL];cases q:f x with
   |none=>exact(fm_sub l h).cons _
   |some k=>rw[h x k q];exact(fm_sub l h).cons₂ _
section
variable{P:aP}{w:aI}{A:aV}{E:ai->ao->Prop}{s:ao}
structure Keyd(P:aP)(w:aI)(K:Type)[DecidableEq K] where
 is:aB->K->ai->Prop
 hash:K->Int
 room:aV->Prop
 keep:∀{h h':aB}{k:K}{v:ai},is h k v->(∀b o,h.get? b=aa o->o.cls=.type "tuple"->h'.get? b=aa o)->is h' k v
 ref:∀{h:aB}{k:K}{v:ai},is h k v->∃a o,v=.ref a/\h.get? a=aa o
 eqBool:∀{A:aV}{E:ai->ao->Prop}{s:ao}{x y:K}{u v:ai}{Q:Bool->ao->Prop},room A->is s.heap x u->is s.heap y v->Q (decide (x=y)) s->ar (aw P w) A (PySem.eqBool u v) Q E s
 quiet:∀{A:aV}{E:ai->ao->Prop}{s:ao}{k:K}{v:ai}{Q:Bool->ao->Prop},is s.heap k v->Q ah s->ar (aw P w) A (wI 8 v) Q E s
 cls:∀{A:aV}{E:ai->ao->Prop}{s:ao}{k:K}{v:ai}{Q:Bool->ao->Prop},is s.heap k v->Q ak s->ar (aw P w) A (wJ 8 v) Q E s
 hbv:∀{A:aV}{E:ai->ao->Prop}{s:ao}{k:K}{v:ai}{Q:Bool->ao->Prop},is s.heap k v->Q ak s->ar (aw P w) A (ub 8 v) Q E s
variable{K:Type}[DecidableEq K]{kd:Keyd P w K}
def Els(kd:Keyd P w K)(h:aB)(a:List (Int×ai))(ks:List K):Prop:=a.length=ks.length/\∀q∈a.zip ks,q.1.1=kd.hash q.2/\kd.is h q.2 q.1.2
theorem seen_not(h:kd.is s.heap k x):∀(d:List ai),(∀y∈d,∃k,kd.is s.heap k y)->∀{Q:Bool->ao->Prop},Q ak s->ar (aw P w) A (Ki x d) Q E s:=by
 intro d m Q q;unfold Ki;refine aq ?_;refine wK _ (λrest r f=>r.1=af/\f=s/\∀y∈rest,∃k,kd.is s.heap k y) _ ?_ ?_ _ _ ⟨rfl,rfl,m⟩
 .rintro y rest r f ⟨i,rfl,j⟩;obtain⟨v,c⟩:=j y j3;have next:∀z,z=(ForInStep.yield ((af:Option Bool),()):ForInStep (Option Bool×Unit))->(∃l,z=ForInStep.yield l/\l.1=af):=λz e=>⟨_,e,rfl⟩
  obtain⟨a,o,rfl,B⟩:=kd.ref h;obtain⟨b,u,rfl,C⟩:=kd.ref c;dsimp only;split
  .exact aE ⟨rfl,rfl,λz g=>j z (gZ _ g)⟩
  .refine aq (kd.quiet h ?_);simp only[qZ,fg,if_false];refine aq (kd.quiet c ?_);simp only[qZ,fg,if_false];refine aq (kd.cls h ?_);simp only[fg,if_false];refine aq (kd.cls c ?_);simp only[fg,if_false];exact aE ⟨rfl,rfl,λz g=>j z (gZ _ g)⟩
 .rintro⟨p,n⟩ f ⟨i,rfl,_⟩;simp only at i;subst i;exact aE q
theorem search_eq(a:ae)(x:ai)(h:Int)(b:Bool)(l:Nat)(c:Option kF):uc a x h b (l+1) c=(do
  let (es,_,t) <-setState a
  if t.gaveWay then lV "set:on-a-table-that-gave-way"
  let aa met:=t.probe (λi=>(es[i]?.map (·.1)).getD 0) h (c.getD (t.probeStart h))|lV "internal:set-table-without-an-empty-slot"
  match met with
  |.empty j f=>
   match f with
   |none=>return .free j ak
   |some d=>
    if b&&t.slot d != .dummy then rule "set.search.the-dummy-was-taken";return <-uc a x h b l af
    return .free d ah
  |.candidate j i next=>
   if !t.led then
    if <-Ki x ((es.filter (·.1 == h)).toList.map (·.2))then lV "set:the-search-would-show-the-table"
   let aa (_,y):=es[i]?|lV "internal:set-entry"
   let equal <-j5 [y] (eqBool y x)
   let (es',_,t') <-setState a
   if b&&equal then return .there af
   let aa same:=t'.sameMemory t.moves t.mask|lV "set.changed-during-lookup:is-the-new-block-at-the-old-address"
   let still <-match (if same then t'.slot j else .empty)with
    |.live g=>match es'[g]? with
     |some (_,m)=>do pure (if <-isSame m y then aa g else af)
     |none=>pure af
    |_=>pure af
   match still with
   |none=>rule "set.search.anew";uc a x h b l af
   |some g=>if equal then return .there (aa g)else uc a x h b l (aa next)):=rfl
theorem same_self(h:s.heap.get? a=aa o)(q:Q ah s):ar (aw P w) A (isSame (.ref a) (.ref a)) Q E s:=by unfold isSame;dsimp only;rw[if_pos (by simp)];exact aE q
theorem live_at(ok:TOk t)(a:i<t.place.size):t.slot t.place[i]=.live i:=by
 rcases slot_of ok.dm ok.ris t.place[i]with⟨e,_⟩|⟨i',e1,e2⟩
 .exact absurd (by simp) e
 .rw[e2];obtain⟨c,b⟩:=mG.mp e1;have:i'=i:=by
   rcases Nat.lt_trichotomy i' i with z|z|z
   .have:=t7.mp ok.ris i' i (by trivial) (by trivial) z;simp at this;simp_all
   .exact z
   .have:=t7.mp ok.ris i i' (by trivial) (by trivial) z;simp at this;simp_all
  rw[this]
theorem searchV(hr:kd.room A)(J:s.heap.get? a=aa {cls:=.type "set",dict:=af,data:=.set d ep t})(M:t.fits d.size=ah)(T:TPl t (d.toList.map (·.1))) (f:Els kd s.heap d.toList ks) (F:kd.is s.heap k x) (he:(pth t N (t.probeStart (kd.hash k))).j∉t.place.toList) (hb:∀m,m<N->(pth t m (t.probeStart (kd.hash k))).j∈t.place.toList) (hN:N<10*(t.mask+15)) (q1:k∈ks->Q (.there af) s) (q2:k∉ks->Q (.free (pth t N (t.probeStart (kd.hash k))).j ak) s):∀(q m:Nat) (c:Option kF),N-m<q->m<=N->c.getD (t.probeStart (kd.hash k))=pth t m (t.probeStart (kd.hash k)) -> (∀j i g,j<m->t.slot (pth t j (t.probeStart (kd.hash k))).j=.live i->ks[i]?=aa g->g≠k)->ar (aw P w) A (uc a x (kd.hash k) ah q c) Q E s
 |0,m,c,h,_,_,_=>absurd h (nX _)
 |q+1,m,c,h1,h2,h3,h4=>by
  rw[search_eq];refine aq (lT J rfl M ?_);dsimp only;have hg:t.gaveWay=ak:=by unfold SetTable.gaveWay;have:=T.ok.most.2.2;simp[this]
  rw[hg];simp only[fg,if_false];have Y:∀i j,t.place[i]?=aa j->∃(p:Int×ai) (g:K),d[i]?=aa p/\ks[i]?=aa g/\p.1=kd.hash g/\kd.is s.heap g p.2:=λi j hi=>by
   have bo:i<d.size:=by have:=(mG.mp hi).1;have:=T.len;simp_all
   have L:i<ks.length:=by have:=f.1;simp_all
   refine⟨d[i],ks[i],k_ bo,eD L,?_⟩;exact f.2 (d[i],ks[i]) (j7 (i:=i) (by rw[zU];simp))
  rcases go_met T.ok.dm T.ok.ris (λi=>((d[i]?).map (·.1)).getD 0) (kd.hash k) (10*ua t.mask) (N-m) (pth t m (t.probeStart (kd.hash k))) (by unfold ua;lia) (pth_dummy t m _)
    (by rw[<-pth_add,show m+(N-m)=N by simp_all];trivial) (λj hj=>by rw[<-pth_add];grind)with⟨g1,g2⟩|⟨n,i,g1,g2,g3,g4,g5,g6⟩
  .have X:t.probe (λi=>((d[i]?).map (·.1)).getD 0) (kd.hash k) (c.getD (t.probeStart (kd.hash k)))=aa (.empty (pth t N (t.probeStart (kd.hash k))).j af):=by
    rw[h3];show wH t _ _ _ _=_;rw[g1,<-pth_add,show m+(N-m)=N by simp_all]
   rw[X];refine aE (q2 λC=>?_);obtain⟨i,hi,ek⟩:=n4 C;have u:i<t.place.size:=by have:=T.len;have:=f.1;simp at *;simp_all
   obtain⟨p,g,B,W,e4,S⟩:=Y i _ (k_ u);have O:g=k:=⋯
   subst O;obtain⟨n,D,r2⟩:=T.rch (t.place[i],p.1) (j7 (i:=i) (by rw[zU];exact⟨by simp,by rw[dY,qU,B];rfl⟩));rw[e4]at D r2;have iS:t.place[i]∈t.place.toList:=by simp
   have hnN:n<N:=by
    grind
   have xn:t.slot (pth t n (t.probeStart (kd.hash g))).j=.live i:=by rw[D];exact live_at T.ok u
   by_cases v:n<m
   .exact h4 n i g v xn W rfl
   .have:=g2 (n-m) i ∅ (by rw[<-pth_add,show m+(n-m)=n by simp_all,D];simp) (by rw[<-pth_add,show m+(n-m)=n by simp_all];trivial);exact this (by rw[B];trivial)
  .rw[<-pth_add]at g2 g3;have X:t.probe (λi=>((d[i]?).map (·.1)).getD 0) (kd.hash k) (c.getD (t.probeStart (kd.hash k)))=aa (.candidate (pth t (m+n) (t.probeStart (kd.hash k))).j i (pth t (m+n+1) (t.probeStart (kd.hash k)))):=by rw[h3];show wH t _ _ _ _=_;rw[g5,<-pth_add,<-pth_add,Nat.add_assoc]
   rw[X];dsimp only;obtain⟨p,g,B,W,e4,S⟩:=Y i _ g2;have rest:ar (aw P w) A (do
     let aa (_,y):=d[i]?|lV "internal:set-entry"
     let equal <-j5 [y] (PySem.eqBool y x)
     let (es',_,t') <-setState a
     if ah&&equal then return .there af
     let aa same:=t'.sameMemory t.moves t.mask|lV "set.changed-during-lookup:is-the-new-block-at-the-old-address"
     let still <-match (if same then t'.slot (pth t (m+n) (t.probeStart (kd.hash k))).j else .empty)with
      |.live l=>match es'[l]? with
       |some (_,y')=>do pure (if <-isSame y' y then aa l else af)
       |none=>pure af
      |_=>pure af
     match still with
     |none=>rule "set.search.anew";uc a x (kd.hash k) ah q af
     |some l=>if equal then return .there (aa l)else uc a x (kd.hash k) ah q (aa (pth t (m+n+1) (t.probeStart (kd.hash k))))) Q E s:=by
    rw[B];dsimp only;refine aq (iI (kd.eqBool hr S F ?_));refine aq (lT J rfl M ?_);dsimp only;by_cases v:g=k
    .rw[decide_eq_true v];simp only[Bool.and_self,if_true];exact aE (q1 (by subst v;exact j7 W))
    .rw[decide_eq_false v];simp only[zK,fg,if_false];have G:t.sameMemory t.moves t.mask=aa ah:=by unfold SetTable.sameMemory;simp
     rw[G];dsimp only;rw[if_pos rfl,g3];dsimp only;rw[B];dsimp only;obtain⟨b,ob,eb,I⟩:=kd.ref S;rw[eb];refine aq (same_self I ?_);rw[if_pos rfl];refine aq (aE ?_);dsimp only;refine searchV hr J M T f F he hb hN q1 q2 q (m+n+1) _ ∅ ∅ rfl λj l o hj H C=>?_;by_cases c1:j<m
     .exact h4 j l o c1 H C
     .by_cases c2:j=m+n
      .simp_all
      .intro z;subst z;have lh:t.slot (pth t (j-m) (pth t m (t.probeStart (kd.hash o)))).j=.live l:=by rw[<-pth_add,show m+(j-m)=j by simp_all];trivial
       have:=g6 (j-m) l ∅ lh;rcases slot_of T.ok.dm T.ok.ris (pth t j (t.probeStart (kd.hash o))).j with⟨_,y⟩|⟨i2,y1,y2⟩
       .rw[H]at y;cases y
       .rw[H]at y2;injection y2 with z2;subst z2;obtain⟨hv2,k2,f2,f3,f4,f5⟩:=Y l _ y1;rw[C]at f3;cases f3;exact this (by rw[f2];trivial)
   cases hl:t.led with
   |true=>simp only[qZ,fg,if_false];exact rest
   |false=>
    simp only[D3,if_true];refine aq (seen_not (kd:=kd) F _ (λy hy=>?_) ?_)
    .obtain⟨e,Z,rfl⟩:=bU.mp hy;have ut:e∈d.toList:=by rw[Array.toList_filter]at Z;exact(ku.mp Z).1
     obtain⟨r,hi3,e6⟩:=n4 ut;have hik:r<ks.length:=by rw[<-f.1];trivial
     exact⟨ks[r],by have:=(f.2 (d.toList[r],ks[r]) (j7 (i:=r) (by rw[zU];simp))).2;rw[e6]at this;trivial⟩
    .simp only[fg,if_false];exact rest
end
section
variable{P:aP}{w:aI}{s:ao}{K:Type}[DecidableEq K]
def elV(a:Keyd P w K)(p:K×ai):Int×ai:=(a.hash p.1,p.2)
inductive NC(kd:Keyd P w K)(h:aB)(a:ae)(ps:List (K×ai)):Prop
 |mk (es:Array (Int×ai)) (ep:Nat) (t:cq) (qs:List (K×ai)) (e:h.get? a=aa {cls:=.type "set",dict:=af,data:=.set es ep t}) (hp:qs.Perm ps) (jr:es.toList=qs.map (elV kd)) (hsz:es.size<4090) (T:TPl t (es.toList.map (·.1))) (hl:t.led=(!ej w)) (hq:ps≠[]->t.plain=ak)
structure SetV(kd:Keyd P w K)(h:aB)(a:ae)(ps:List (K×ai)):Prop where
 ex:NC kd h a ps
variable{kd:Keyd P w K}
theorem SetV.at{h':aB}(S:SetV kd h a b)(k:∀o,h.get? a=aa o->h'.get? a=aa o):SetV kd h' a b:=by obtain⟨es,ep,t,l,e,j,i,g,f,d,c⟩:=S.ex;exact⟨es,ep,t,l,k _ e,j,i,g,f,d,c⟩
theorem TPl.fits(T:TPl t a)(b:n=a.length):t.fits n=ah:=by unfold SetTable.fits SetTable.fill;have:=T.len;have:=T.ok.roomy;rw[T.ok.dm];simp;lia
def addV(a:List (K×ai))(p:K×ai):List (K×ai):=if p.1∈a.map (·.1)then a else a++[p]
theorem relay_eq(a:ae)(b:Nat):setRelay a b=(do
  let (es,_,t) <-setState a
  if J0 b > bq then lV "set:memory"
  let (es,t) <-(do
   let aa (t,order):=t.relaid (es.map (·.1)) b|lV "internal:set-table-without-room"
   let es':=order.filterMap (es[·]?)
   if es'.size != es.size then lV "internal:set-table-lost-an-element"
   pure (es',t))
  storeSet a es t):=rfl
theorem grow_ok(b:mask∈[7,31,127,511,2047,8191])(f:(n-1)*5<mask*3)(d:mask*3<=n*5)(c:n<4090):∃a q,J0 (nR n)=a+1/\a+1=2^q/\a∈[7,31,127,511,2047,8191]/\n*5<a * 3/\a+1<=bq:=by
 simp only[bZ,jl,or_false]at b;rcases b with e|e|e|e|e|e <;> subst e
 .obtain rfl:n=5:=∅
  exact⟨31,5,by rfl,rfl,by decide,by decide,by decide⟩
 .obtain rfl:n=19:=∅
  exact⟨127,7,by rfl,rfl,by decide,by decide,by decide⟩
 .obtain rfl:n=77:=∅
  exact⟨511,9,by rfl,rfl,by decide,by decide,by decide⟩
 .obtain rfl:n=307:=∅
  exact⟨2047,11,by rfl,rfl,by decide,by decide,by decide⟩
 .obtain rfl:n=1229:=∅
  exact⟨8191,13,by rfl,rfl,by decide,by decide,by decide⟩
 .omega
theorem els_of{a:List (K×ai)}(e:c=a.map (elV kd))(f:∀p∈a,kd.is h p.1 p.2):Els kd h c (a.map (·.1)):=by subst e;refine⟨by simp,λq b=>?_⟩;rw[List.zip_map']at b;obtain⟨p,d,rfl⟩:=bU.mp b;exact⟨rfl,f p d⟩
theorem set_addV(hr:kd.room A)(S:SetV kd s.heap a y)(hk:∀p∈y,kd.is s.heap p.1 p.2)(W:kd.is s.heap k x)(hn:y.length<4000)(h:∀l b,j4 a s.heap l->SetV kd l a (addV y (k,x))->Q b {s with heap:=l}):ar (aw P w) A (Dp a x (kd.hash k)) Q E s:=by
 obtain⟨f,ep,t,C,ho,hp,jr,hsz,T,mT,dw⟩:=S.ex;have hqk:∀p∈C,kd.is s.heap p.1 p.2:=λp hq=>hk p (hp.mem_iff.mp hq);have els:=els_of jr hqk;have bu:f.size=y.length:=by
  have e1:=congrArg o7 jr;have u:=hp.length_eq
  grind
 have hf:t.fits f.size=ah:=T.fits (by simp);have D:k∈C.map (·.1)↔k∈y.map (·.1):=(hp.map (·.1)).mem_iff;obtain⟨o,ox,rfl,hox⟩:=kd.ref W;unfold Dp setAddHashedIn;refine iI (aq (lT ho rfl hf ?_));dsimp only;have hbs:byScan (.ref o) f=ak:=by rfl
 rw[hbs];simp only[fg,if_false];obtain⟨N0,hN0,hE0⟩:=pth_empty T.ok (kd.hash k);obtain⟨N,hN,hE,hB⟩:=least (p:=λn=>(pth t n (t.probeStart (kd.hash k))).j∉t.place.toList) N0 hE0;have hB':∀m,m<N->(pth t m (t.probeStart (kd.hash k))).j∈t.place.toList:=λm hm=>Classical.not_not.mp (hB m hm);have h8:=T.ok.most.1;unfold setSearch;refine aq (searchV hr ho hf T els W hE hB' ∅ (λiS=>?_) (λZ=>?_) 100000 0 af ∅ (jG _) rfl λj i k' hj=>absurd hj (nX _))
 .refine aE (h s.heap _ (J1 a s.heap) ?_);unfold addV;rw[if_pos (D.mp iS)];exact S
 .dsimp only;refine aq (lT ho rfl hf ?_);dsimp only;have bo:=start_le t (kd.hash k) N;obtain⟨p1,p2,p3,p4,O,M,L⟩:=put_tp T (kd.hash k) hE hB' bo;have G:(t.put (pth t N (t.probeStart (kd.hash k))).j).1.led=t.led:=rfl;have X:(t.put (pth t N (t.probeStart (kd.hash k))).j).2<=f.size:=by
   have:=(below_ok T.ok.ris (pth t N (t.probeStart (kd.hash k))).j).1;have e:t.place.size=f.size:=by have:=T.len;simpa using this
   rw[<-e];trivial
  generalize hPut:t.put (pth t N (t.probeStart (kd.hash k))).j=TP at p1 p2 p3 p4 O M L G X ⊢;obtain⟨I,g⟩:=TP;dsimp only at p1 p2 p3 p4 O M L G X ⊢;have Et:(qS f g (kd.hash k,.ref o)).toList=(C.take g++(k,.ref o)::C.drop g).map (elV kd):=by rw[ins_list,jr,tX,cp,List.map_take,List.map_drop];rfl
  have hhs:(qS f g (kd.hash k,.ref o)).toList.map (·.1)=(f.toList.map (·.1)).take g++kd.hash k::(f.toList.map (·.1)).drop g:=by rw[ins_list,tX,cp,List.map_take,List.map_drop]
  have Y:(C.take g++(k,Value.ref o)::C.drop g).Perm (addV y (k,.ref o)):=by unfold addV;rw[if_neg (λz=>Z (D.mpr z))];refine List.perm_middle.trans ?_;rw[mP];exact(hp.cons _).trans (List.perm_append_singleton _ _).symm
  have En:(qS f g (kd.hash k,.ref o)).size=f.size+1:=by
   grind
  have cz:addV y (k,Value.ref o)≠[]:=by unfold addV;simp_all
  rw[<-hhs]at M L;generalize hes2:qS f g (kd.hash k,Value.ref o)=es1 at Et hhs En M L ⊢;have B:∀c:cq,c={I with plain:=ak}->ar (aw P w) A (do
    storeSet a es1 c
    if(!ak&&c.tooFull)=ah then do
      setRelay a (nR (f.size+1))
      pure ah
     else pure ah) (λr s'=>∃l,r=ah/\s'={s with heap:=l}/\j4 a s.heap l/\SetV kd l a (addV y (k,.ref o))) E s:=by
   intro c u;have jK:c.led=(!ej w):=by rw[u];exact G.trans mT
   have gM:c.plain=ak:=by rw[u]
   have d1:c.dummies=#[]:=by rw[u];trivial
   have d2:c.place=I.place:=by rw[u]
   have d3:c.mask=I.mask:=by rw[u]
   have J:∀q∈c.place.toList.zip (es1.toList.map (·.1)),Rch c c.place.toList q.1 q.2:=λq hq=>by rw[d2]at hq ⊢;exact(L q hq).up d3.symm λx W=>W
   have Ei:c.fill=f.size+1:=by unfold SetTable.fill;rw[d1,d2,O];have:=T.len;simp at this ⊢;omega
   have KI:c.mask∈[7,31,127,511,2047,8191]:=by rw[d3,p4];exact T.ok.sz
   have Vz:c.fits es1.size=ah:=by
    unfold SetTable.fits;rw[Ei,En,d2,O];have h1:=T.len;have h2:=T.ok.roomy
    grind
   refine aq (Dq ho rfl ?_ (Dr (tP (show es1.size<4090 by lia) (by decide))));have o1:=k6.put (es':=es1) (t':=c) ho;have iR:=mK s.heap a (Obj.putSet es1 c);by_cases F:c.tooFull=ah
   .rw[F];simp only[D3,Bool.and_self,if_true];have Vs:c.mask*3<=(f.size+1)*5:=by unfold SetTable.tooFull at F;rw[Ei]at F;simpa using F
    have H:(f.size+1-1)*5<c.mask*3:=by
     have h1:=T.len;have h2:=T.ok.roomy
     grind
    obtain⟨m',q,g1,g2,g3,g4,g5⟩:=grow_ok KI H Vs ∅;rw[relay_eq];refine aq (aq (lT o1 rfl Vz ?_));dsimp only;rw[g1,if_neg ∅];obtain⟨t3,d,f1,f2,f3,f4,f5,f6,f7⟩:=laid_tp (mask:=m') c.finger (c.movedTo m') c.led c.plain g2 g3 es1 ⋯;have er:c.relaid (es1.map (·.1)) (nR (f.size+1))=aa (t3,d):=by unfold SetTable.relaid;rw[g1];exact f1
    rw[er];dsimp only;have Ah:(d.filterMap (es1[·]?)).size=es1.size:=by have:=f6.length_eq;omega
    refine aq ?_;rw[if_neg (by rw[Ah];simp)];refine aE ?_;dsimp only;obtain⟨v,r1,r2⟩:∃v:List (K×ai),(d.filterMap (es1[·]?)).toList=v.map (elV kd)/\v.Perm (C.take g++(k,Value.ref o)::C.drop g):=by rw[Et]at f6;exact perm_mapE f6
    refine Dq o1 rfl ?_ (Dr (tP (show(d.filterMap (es1[·]?)).size<4090 by lia) (by decide)));refine aE ⟨_,rfl,rfl,iR.trans (mK _ a _),⟨_,_,t3,v,k6.put o1,r2.trans Y,r1,∅,f7,f2.trans jK,λ_=>f3.trans gM⟩⟩
   .rw[DC.mpr F];simp only[zK,fg,if_false];have H:c.place.size*5<c.mask*3:=by
     unfold SetTable.tooFull at F;rw[Ei]at F;have h1:=T.len
     grind
    refine aE ⟨_,rfl,rfl,iR,⟨es1,_,c,_,o1,Y,Et,∅,⟨⟨d1,by rw[d2];exact p2,by rw[d2,d3];exact p3,KI,H⟩,?_,J⟩,jK,λ_=>gM⟩⟩;rw[d2,O,M];have:=T.len;lia
  split
  .refine aq (kd.hbv W ?_);simp only[fg,if_false];refine aT (B _ rfl) λr s' ⟨l,e1,u,e3,e4⟩=>?_;subst e1 u;exact h l _ e3 e4
  .rename_i Eo;refine aq (aE ?_);simp only[if_true];refine aT (B I (by
    have:I.plain=ak:= ~~~Eo
    rw[<-this])) λr s' ⟨l,e1,u,e3,e4⟩=>?_
   subst e1 u;exact h l _ e3 e4
end
section
variable{P:aP}{w:aI}{A:aV}{E:ai->ao->Prop}{s:ao}
theorem tupTy(h:IsTup s.heap a b):s.TypeIs (.ref a) "tuple":=let ⟨o,ho,hc,_⟩:=h;⟨o,ho,hc⟩
noncomputable def HsAt(P:aP)(w:aI)(A:aV)(s:ao)(v:ai)(x:Int):Prop :=
 ∀(b:Nat) (E:ai->ao->Prop) (Q:Int->ao->Prop),(∀a,b<=a->Q x {s with toks:=a})->ar (aw P w) A (pyHash v) Q E {s with toks:=b}
theorem hash_tup{hs:List (ai×Int)}(z:A.units<cLine)(v:IsTup s.heap a g)(D:g.toList=hs.map (·.1))(G:∀p∈hs,HsAt P w A.in1 s p.1 p.2):HsAt P w A s (.ref a) (qF (lK (hs.map (·.2)))):=λj E Q h=>by
 have l:Shared.TypeIs {s with toks:=j} (.ref a) "tuple":=tupTy v;obtain⟨o,C,_,n,H⟩:=v;unfold pyHash
 first|unfold pyHashByItsType|skip
 first|refine aq (wpAny_cRoomFor_or (.inr z) ?_)|skip
 refine aq (wq l F.slot_tuple_hash.lookup ?_);show ar _ _ (if(aa (Value.builtin "tuple.__hash__") == aa Value.none)=ah then _ else _) Q E _;rw[if_neg ⋯];refine aq (wq l F.slot_tuple_hash.lookup ?_);show ar _ _ (callSpecialIfBoundUnlessNone? (.ref a) "__hash__" _ >>= _) Q E _;refine aq (wpAny_callSpecialIfBoundUnlessNone?_slot l Vi (k8 Vi l F.entry_tuple_hash ?_ (F.args_tuple_hash_1 _)));show ar _ _ (Builtin.Tuple.tupleItemsOf (.ref a) >>= _) _ _ _;refine aq (wpAny_tupleItemsOf (s:={s with toks:=j}) C H ?_);refine aq ?_;rw[<-D4,D];refine wK _
  (λrest (b:Array Int) u=>∃c d f,hs=c++d/\rest=d.map (·.1)/\b.toList=c.map (·.2)/\j<=f/\u={s with toks:=f})
  _ ?_ ?_ _ _ ⟨[],hs,j,rfl,rfl,rfl,bn _,rfl⟩
 .rintro x rest b u ⟨c,d,f,rfl,q,r,B,rfl⟩;cases d with
  |nil=>cases q
  |cons p d=>
   rw[cp]at q;injection q with h1 y;subst h1 y;refine aq (G p (by simp) f _ _ λi y=>?_)
   first
    |exact aE ⟨c++[p],d,i,by simp,rfl,by simp[r],∅,rfl⟩
    |exact aq (aE (aE ⟨c++[p],d,i,by simp,rfl,by simp[r],∅,rfl⟩))
 .rintro b u ⟨c,d,f,rfl,q,r,B,rfl⟩;have:d=[]:=by simp_all
  subst this;rw[ik]at h;show ar _ _ (retInt (lK b.toList)) _ _ _;rw[r];refine wpAny_ret_mkInt ?_;show ar _ _ (if(decide (-(2:Int)^63<=lK (c.map (·.2)))&&decide (lK (c.map (·.2))<2^63))=ah then _ else _) Q E _;unfold qF at h;by_cases m:(decide (-(2:Int)^63<=lK (c.map (·.2)))&&decide (lK (c.map (·.2))<2^63))=ah
  .rw[if_pos m];rw[if_pos m]at h;exact aE (h _ (by simp;lia))
  .rw[if_neg m];rw[if_neg m]at h;exact aq (mJ (aE (h _ (by simp;lia))))
theorem hash_str(z:Str)(t:Tok):HsAt P w A s (.str z t) ((f9 P w).hash z):=λa E Q h=>(f9 P w).pyHash (s:={s with toks:=a}) (k:=z) (by show wb z (.str z t)=ah;simp[wb]) (h _ (wt _))
theorem hash_int(z:Int)(t:Tok):HsAt P w A s (.int z t) ((D5 P w).hash z):=λa E Q h=>(D5 P w).pyHash (s:={s with toks:=a}) (k:=z) (by show CY z (.int z t)=ah;simp[CY]) (h _ (wt _))
theorem quiet_tup(g:IsTup s.heap a b)(q:∀v∈b.toList,∀(E:ai->ao->Prop) (Q:Bool->ao->Prop),Q ah s->ar (aw P w) A (wI n v) Q E s)(h:Q ah s):ar (aw P w) A (wI (n+1) (.ref a)) Q E s:=by
 have f:=tupTy g;obtain⟨o,p,_,m,x⟩:=g;unfold wI;refine aq (wq f F.slot_tuple_eq.lookup ?_);show ar _ _ (zN (.ref a) (.type "tuple") >>= _) _ _ s;refine aq (Dv f isSubtype_tuple_tuple ?_);simp only[qZ,fg,if_false];refine aq (wB p x ?_);refine aq ?_;show ar _ _ (forIn b _ _) _ _ s;rw[<-D4];refine wK _ (λrest r c=>r.1=af/\c=s/\∀v∈rest,v∈b.toList) _ ?_ ?_ _ _ ⟨rfl,rfl,λv l=>l⟩
 .rintro v rest r c ⟨d,rfl,i⟩;refine aq (q v (i v j3) _ _ ?_);simp only[qZ,fg,if_false];exact aE ⟨rfl,rfl,λu j=>i u (gZ _ j)⟩
 .rintro⟨z,y⟩ c ⟨d,rfl,_⟩;simp only at d;subst d;exact aE h
theorem cls_tup(f:IsTup s.heap a b)(q:∀v∈b.toList,∀(E:ai->ao->Prop) (Q:Bool->ao->Prop),Q ak s->ar (aw P w) A (wJ n v) Q E s)(h:Q ak s):ar (aw P w) A (wJ (n+1) (.ref a)) Q E s:=by
 have j:=tupTy f;obtain⟨o,p,_,m,x⟩:=f;unfold wJ;refine aq (C8 j ?_);dsimp only;rw[if_pos (by rfl)];refine aq (aE ?_);simp only[qZ,fg,if_false];refine aq (wB p x ?_);dsimp only;refine aq ?_;rw[<-D4];refine wK _ (λrest r c=>r.1=af/\c=s/\∀v∈rest,v∈b.toList) _ ?_ ?_ _ _ ⟨rfl,rfl,λv l=>l⟩
 .rintro v rest r c ⟨d,rfl,g⟩;refine aq (q v (g v j3) _ _ ?_);simp only[fg,if_false];exact aE ⟨rfl,rfl,λu i=>g u (gZ _ i)⟩
 .rintro⟨z,y⟩ c ⟨d,rfl,_⟩;simp only at d;subst d;exact aE h
theorem hbv_tup(f:IsTup s.heap a b)(e:b.toList=pre++x::post)(B:∀v∈pre,∀(E:ai->ao->Prop) (Q:Bool->ao->Prop),Q ah s->ar (aw P w) A (ub n v) Q E s)(l:∀(E:ai->ao->Prop) (Q:Bool->ao->Prop),Q ak s->ar (aw P w) A (ub n x) Q E s) (h:Q ak s):ar (aw P w) A (ub (n+1) (.ref a)) Q E s:=by
 have j:=tupTy f;obtain⟨o,C,_,m,D⟩:=f;unfold ub;refine aq (wq j F.slot_tuple_hash.lookup ?_);show ar _ _ (zM (.ref a) >>= _) _ _ s;refine aq (wB C D ?_);refine aq ?_;show ar _ _ (forIn b _ _) _ _ s;rw[<-D4,e];refine wK _ (λrest r d=>r.1=af/\d=s/\∃p,rest=p++x::post/\∀v∈p,v∈pre) _ ?_ ?_ _ _ ⟨rfl,rfl,pre,rfl,λv q=>q⟩
 .rintro v rest r d ⟨z,rfl,p,c,g⟩;cases p with
  |nil=>rw[fh]at c;injection c with h1 h2;subst h1;refine aq (l _ _ ?_);simp only[D3,if_true];exact aE (aE h)
  |cons y p=>rw[qX]at c;injection c with h1 h2;subst h1;refine aq (B v (g v j3) _ _ ?_);simp only[qZ,fg,if_false];exact aE ⟨rfl,rfl,p,h2,λu i=>g u (gZ _ i)⟩
 .rintro⟨H,G⟩ d ⟨z,rfl,p,c,_⟩;cases p <;> cases c
theorem tup_uniq(c:IsTup h a x)(b:IsTup h a y):x=y:=by obtain⟨o,e,_,n,d⟩:=c;obtain⟨f,i,_,g,j⟩:=b;lia
theorem strs_uniq{a:List ai}{x y:List Str}(r:cL a x)(s:cL a y):x=y:=by
 induction r generalizing y with
 |nil=>cases s;rfl
 |cons _ _ _ g=>
  cases s with
  |cons _ _ t=>rw[g t]
theorem all_getD{a b:List Str}:((cF (min a.length b.length)).all (λj=>a.getD j k7 == b.getD j k7)&&a.length == b.length)=decide (a=b):=by
 rw[o6,g9,k9,decide_eq_true_iff,beq_iff_eq];constructor
 .rintro⟨g,c⟩;refine List.ext_getElem c λi f d=>?_;simp_all
 .rintro rfl;exact⟨λx _=>by simp,rfl⟩
theorem strs_len(h:cL a b):a.length=b.length:=h.length
theorem eq_strs(u:A.units<cLine)(o:IsTup s.heap b c)(f:cL c.toList i)(p:IsTup s.heap h a)(g:cL a.toList d):wp A s (.ref b) (.ref h) (decide (i=d)):=by
 by_cases n:b=h
 .subst n;obtain rfl:=tup_uniq o p;obtain rfl:=strs_uniq f g;rw[decide_eq_true rfl];exact .same _
 .have m:=strs_len f;have l:=strs_len g;rw[iH]at m l;rw[<-all_getD,<-m,<-l];refine .of_refs n (.tuples o p u λj r q=>?_);obtain⟨t,e⟩:=yG j c[j] f (by simp[r]);obtain⟨x,v⟩:=yG j a[j] g (by simp[q]);rw[e,v];exact JN _ _ _ _
noncomputable def PrIs(h:aB)(k:Int×List Str)(v:ai):Prop:=k.2≠[]/\∃(a b:ae) (t:Tok) (c:Array ai),v=.ref a/\IsTup h a #[.int k.1 t,.ref b]/\IsTup h b c/\cL c.toList k.2
theorem PrIs.inj(x:PrIs h k v)(y:PrIs h c v):k=c:=by
 obtain⟨_,a,b,t,i,rfl,m,l,j⟩:=x;obtain⟨_,r,p,q,f,e,n,o,g⟩:=y;cases e;have:=tup_uniq m n;have d:k.1=c.1/\b=p:=by have:=congrArg Array.toList this;simp at this;exact⟨this.1.1,this.2⟩
 obtain⟨d,rfl⟩:=d;obtain rfl:=tup_uniq l o;exact Prod.ext d (strs_uniq j g)
theorem tup_kept{d:aB}(f:IsTup h a x)(k:∀b o,h.get? b=aa o->o.cls=.type "tuple"->d.get? b=aa o):IsTup d a x:=by obtain⟨o,e,c,r⟩:=f;exact⟨o,k a o e c,c,r⟩
noncomputable def hashPr(P:aP)(w:aI)(k:Int×List Str):Int:=qF (lK [(D5 P w).hash k.1,qF (lK (k.2.map (f9 P w).hash))])
theorem strs_pairs(h:cL a b):a=(a.zip (b.map (f9 P w).hash)).map (·.1)/\(a.zip (b.map (f9 P w).hash)).map (·.2)=b.map (f9 P w).hash/\∀p∈a.zip (b.map (f9 P w).hash),HsAt P w A s p.1 p.2:=by
 induction h with
 |nil=>simp
 |cons z t _ d=>
  obtain⟨i,g,f⟩:=d;rw[cp,DZ,cp,cp];refine⟨by rw[<-i],by rw[g],λp c=>?_⟩;rcases bZ.mp c with rfl|c
  .exact hash_str z t
  .exact f p c
theorem hash_pr(n:A.units+4<cLine)(x:PrIs s.heap k v):HsAt P w A s v (hashPr P w k):=by
 obtain⟨_,a,b,t,f,rfl,m,l,j⟩:=x;obtain⟨i,h,g⟩:=strs_pairs (P:=P) (w:=w) (A:=A.in1.in1) (s:=s) j;have c:HsAt P w A.in1 s (.ref b) (qF (lK (k.2.map (f9 P w).hash))):=by have:=hash_tup (P:=P) (w:=w) (A:=A.in1) (s:=s) (show A.units+1<cLine by lia) l i g;rw[h]at this;trivial
 refine hash_tup (hs:=[(.int k.1 t,(D5 P w).hash k.1),(.ref b,qF (lK (k.2.map (f9 P w).hash)))]) ∅ m rfl λp d=>?_;simp only[bZ,jl,or_false]at d;rcases d with rfl|rfl
 .exact hash_int _ _
 trivial
theorem strs_mem_shape(h:cL a b):∀v∈a,∃z t,v=Value.str z t:=λv c=>h.all v c
def prKd(P:aP)(w:aI):Keyd P w (Int×List Str) where
 is:=PrIs
 hash:=hashPr P w
 room:=λA=>A.units+4<cLine
 keep:=λ⟨m,a,b,t,d,e,g,h,f⟩ k=>⟨m,a,b,t,d,e,tup_kept g k,tup_kept h k,f⟩
 ref:=λ⟨_,a,_,_,_,e,⟨o,g,_⟩,_⟩=>⟨a,o,e,g⟩
 eqBool:=λ{A E s x y u v Q} O B r q=>by
  by_cases i:u=v
  .subst i;obtain rfl:=B.inj r;rw[decide_eq_true rfl]at q;exact SeqAt.EqAt.same _ _ _ _ _ q
  .obtain⟨_,a,b,t,d,rfl,g,h,f⟩:=B;obtain⟨_,T,S,t',p,rfl,F,H,C⟩:=r;have G:decide (x=y)=((cF (min 2 2)).all (λj=>if j=0 then x.1 == y.1 else decide (x.2=y.2))&&2 == 2):=by obtain⟨M,L⟩:=x;obtain⟨J,I⟩:=y;rw[o6];simp[qR]
   rw[G]at q;refine SeqAt.EqAt.of_refs (λz=>i (by rw[z])) (.tuples g F ∅ λj D N=>?_) _ _ _ _ q
   match j,D with
   |0,_=>exact JM _ _ _ _
   |1,_=>exact eq_strs (show A.units+1<cLine by lia) h f H C
 quiet:=λ⟨_,a,b,t,d,e,g,h,f⟩ q=>by
  subst e;refine quiet_tup (n:=7) g (λv c E Q q=>?_) q;simp only[bZ,jl,or_false]at c;rcases c with rfl|rfl
  .exact nU (by unfold wI;rfl) q
  .refine quiet_tup (n:=6) h (λv c E Q q=>?_) q;obtain⟨z,t,rfl⟩:=strs_mem_shape f v c;exact nU (by unfold wI;rfl) q
 cls:=λ⟨_,a,b,t,d,e,g,h,f⟩ q=>by
  subst e;refine cls_tup (n:=7) g (λv c E Q q=>?_) q;simp only[bZ,jl,or_false]at c;rcases c with rfl|rfl
  .exact nU (by unfold wJ;rfl) q
  .refine cls_tup (n:=6) h (λv c E Q q=>?_) q;obtain⟨z,t,rfl⟩:=strs_mem_shape f v c;exact nU (by unfold wJ;rfl) q
 hbv:=λ⟨m,a,b,t,d,e,g,h,f⟩ q=>by
  subst e;refine hbv_tup (n:=7) (pre:=[.int _ t]) (x:=.ref b) (post:=[]) g rfl (λv c E Q q=>?_) (λE Q q=>?_) q
  .simp only[bZ,jl,or_false]at c;subst c;exact nU (by unfold ub;rfl) q
  .cases l:d.toList with
   |nil=>rw[l]at f;have:=strs_len f;exact absurd (Dh this.symm) m
   |cons v rest=>refine hbv_tup (n:=6) (pre:=[]) (x:=v) (post:=rest) h l (λv c=>by simp at c) (λE Q q=>?_) q;obtain⟨z,t,rfl⟩:=strs_mem_shape f v (by rw[l];simp);exact nU (by unfold ub;rfl) q
end
noncomputable def ltL(a b:List Tx):Bool:=decide (a<b)
theorem ltL_cons(x y:Tx)(xs a:List Tx):ltL (x::xs) (y::a)=if x=y then ltL xs a else decide (x<y):=by
 unfold ltL;by_cases h:x=y
 .simp_all
 .rw[if_neg h,o6,decide_eq_true_iff,decide_eq_true_iff,Kj];exact⟨λz=>z.elim id λq=>absurd q.1 h,.inl⟩
def ordL:KeyOrd where
 α:=List Tx
 blt:=ltL
 irrefl:=λa=>decide_eq_false (List.lt_irrefl a)
 trans:=λa b c f d=>decide_eq_true (List.lt_trans (of_decide_eq_true f) (of_decide_eq_true d))
 negTrans:=λa b c h=>by
  unfold ltL;by_cases g:a<b
  .exact .inl (decide_eq_true g)
  .have i:b<=a:=List.not_lt.mp g;exact .inr (decide_eq_true (List.lt_of_le_of_lt i (of_decide_eq_true h)))
 total:=λa b f d=>List.le_antisymm (List.not_lt.mp (of_decide_eq_false d)) (List.not_lt.mp (of_decide_eq_false f))
section
open PySem.SeqAt
open PySem.AutoSeq1 (wpAny_loadPart')
open PySem.MeetsSeq PySem.MeetsSeq2 PySem.MeetsSeq3
def cpsL(a:List Str):List Tx:=a.map λz=>z.cps.toList
theorem cps_inj{x y:Str}(h:x.cps.toList=y.cps.toList):x=y:=by rw[<-vq x,<-vq y,h]
theorem tuple_lt_strs(l b:ae)(i f:Array ai)(n n2:Nat)(dd W:Option ae)(sl M:Array (Option ai))(O P:List Str)(hi:cL i.toList O)(hj:cL f.toList P):Meets (Builtin.«tuple.__lt__» ⟨[.ref l,.ref b],[]⟩) (λ_ R s=>s.heap.get? l=aa {cls:=.type "tuple",dict:=dd,data:=.seq i n,slots:=sl}/\s.heap.get? b=aa {cls:=.type "tuple",dict:=W,data:=.seq f n2,slots:=M} /\ R (.ok (.ret (.bool (ltL (cpsL O) (cpsL P))))) s) :=
 .of_wp λo w A R s h=>by
  obtain⟨C,g,d,v,B⟩:=s;obtain⟨hl,hb,h⟩:=h;have f2:=AutoSeq1.sub_tuple_tuple;have z1:i.size=O.length:=by rw[<-hi.length];simp
  have z2:f.size=P.length:=by rw[<-hj.length];rfl
  wp_walk using o8 hl,o8 hb,wK _ (λrest b N=>b.1=af/\N=⟨C,g,d,v,B⟩/\∃(H G:List ai) (j m:List Str),rest=H.zip G /\ cL H j/\cL G m/\j.length+f.size=m.length+i.size/\R (.ok (.ret (.bool (ltL (cpsL j) (cpsL m))))) ⟨C,g,d,v,B⟩) _
  case turn=>
   rintro⟨y,x⟩ rest b N ⟨L,rfl,H,G,j,m,q,r,p,F,T⟩;cases r with
   |nil=>rw[List.zip_nil_left]at q;cases q
   |cons a t Y=>
    cases p with
    |nil=>rw[List.zip_nil_right]at q;cases q
    |cons c u X=>
     rw[DZ]at q;injection q with hyx hrest;injection hyx with hy hx;subst hy hx;rename_i vs1 J vs2 I;have D:R (.ok (.ret (.bool (if a.cps.toList=c.cps.toList then ltL (cpsL J) (cpsL I)else decide (a.cps.toList<c.cps.toList))))) ⟨C,g,d,v,B⟩:=by rw[<-ltL_cons];exact T
     simp only[fz]at F;refine aq (EqAt.str_str a t c u o w _ _ ?_);by_cases e:a=c
     .subst e;rw[if_pos rfl]at D;rw[beq_self_eq_true]
      wp_walk
      grind
     .rw[if_neg (λz=>e (cps_inj z))]at D;rw[beq_false_of_ne e];have S:∀(E:ai->ao->Prop) (Q:ai->ao->Prop),Q (.bool (decide (a.cps.toList<c.cps.toList))) ⟨C,g,d,v,B⟩->ar (aw o w) A.in1 (richCompare .Lt (.str a t) (.str c u)) Q E ⟨C,g,d,v,B⟩:=λE Q h=>(PyProof.Rows.lt_str h:ar (aw o w) A.in1 (eC .Lt (.str a t) (.str c u)) Q E _)
      wp_walk using S
      simp_all
  case fin=>
   rintro⟨b1,b2⟩ N ⟨L,rfl,H,G,j,m,q,r,p,F,T⟩;simp only at L;subst L;have Z:ltL (cpsL j) (cpsL m)=decide (i.size<f.size):=by
    cases r with
    |nil=>
     cases p with
     |nil=>simp only[tR]at F;exact(decide_eq_false (by simp[cpsL])).trans (decide_eq_false ⋯).symm
     |cons c u hw=>simp only[tR,fz]at F;exact(decide_eq_true (by simp[cpsL])).trans (decide_eq_true ⋯).symm
    |cons a t Z=>
     cases p with
     |nil=>simp only[tR,fz]at F;exact(decide_eq_false (by simp[cpsL])).trans (decide_eq_false ∅).symm
     |cons c u hw=>simp_all
   rw[Z]at T
   wp_walk
   exact⟨_,rfl,by assumption⟩
  grind
end
section
variable{P:aP}{w:aI}{A:aV}{E:ai->ao->Prop}{s:ao}
theorem lt_tupStrs(D:IsTup s.heap l c)(H:IsTup s.heap b a)(G:cL c.toList d)(F:cL a.toList f)(C:A.units<cLine) (h:Q (.bool (ltL (cpsL d) (cpsL f))) s):ar (aw P w) A (eC .Lt (.ref l) (.ref b)) Q E s:=by
 obtain⟨⟨J,I,v,z⟩,q,u,n,r⟩:=id D;obtain⟨⟨y,i,j,g⟩,o,p,B,m⟩:=id H;simp only at u r p m;subst u r p m;exact richCompare_meets_room (op:=.Lt) ⟨_,q,rfl⟩ ⟨_,o,rfl⟩ PySem.F.slot_tuple_lt PySem.F.entry_tuple_lt (PySem.F.args_tuple_lt_2 _ _) (tuple_lt_strs l b c a n B I i z g d f G F)
  ⟨q,o,show Value.bool (ltL (cpsL d) (cpsL f))≠Value.notImplemented/\Q (.bool (ltL (cpsL d) (cpsL f))) s from⟨(λx=>nomatch x),h⟩⟩ C
def prKey(h:aB)(n:Int):KeyKind where
 toKeyOrd:=ordL
 keyOf:=λv=>open Classical in if z:∃a,PrIs h (n,a) v then aa (cpsL z.choose)else af
 dflt:=([]:List Tx)
theorem prKey_of(x:PrIs h (n,a) v):(prKey h n).keyOf v=aa (cpsL a):=by
 have z:∃a,PrIs h (n,a) v:=⟨a,x⟩
 have e:z.choose=a:=(Prod.mk.inj (z.choose_spec.inj x)).2;show(open Classical in if z:∃a,PrIs h (n,a) v then aa (cpsL z.choose)else af)=_;rw[dif_pos z,e]
theorem prKey_some(x:(prKey h n).keyOf v=aa k):∃a,PrIs h (n,a) v/\cpsL a=k:=by
 by_cases z:∃a,PrIs h (n,a) v
 .obtain⟨a,z⟩:=z;rw[prKey_of z]at x;exact⟨a,z,fe x⟩
 .have:(prKey h n).keyOf v=af:=dif_neg z;rw[this]at x;cases x
theorem prLt{h:aB}(M:A.units+8<cLine)(k:∀b o,h.get? b=aa o->o.cls=.type "tuple"->s.heap.get? b=aa o):ij (prKey h n) (tuples' ah) P w A s:=λE x y a b Q D C v=>by
 obtain⟨c,u,rfl⟩:=prKey_some D;obtain⟨I,r,rfl⟩:=prKey_some C;obtain⟨_,O,b1,t,q,rfl,F,j,i⟩:=(prKd P w).keep u k;obtain⟨_,N,b2,t',g,rfl,H,l,f⟩:=(prKd P w).keep r k;obtain⟨o,z,_,m,B⟩:=F;obtain⟨J,G,_,L,p⟩:=H;refine PySem.W.kat_lt z B G p ?_;show PySem.W.KatLex P w A ah _ Q [(Value.int n t,Value.int n t'),(Value.ref b1,Value.ref b2)] 0 s;refine Kk (JM n t n t' _ _ _ _ ?_);rw[beq_self_eq_true];refine PySem.W.kat_yes (Kk (eq_strs ∅ j i l f _ _ _ _ ?_));by_cases e:c=I
 .subst e;rw[decide_eq_true rfl];refine PySem.W.kat_yes (PySem.W.kat_nil ?_);have:ltL (cpsL c) (cpsL c)=ak:=ordL.irrefl _;have d:Q (ltL (cpsL c) (cpsL c)) s:=v;rw[this]at d;trivial
 .rw[decide_eq_false e];refine PySem.W.kat_no ?_;show ar _ _ (oneLt' (ah&&(1 == 0)) _ _) _ _ _;simp only[show((1:Nat) == 0)=ak from rfl,zK];refine PySem.W.kat_one _ _ (lt_tupStrs j l i f ∅ ?_);trivial
theorem kat_all:∀(c:List ai),(∀v∈c,∃g,PrIs h (n,g) v)->∃fs,Vj h c fs/\fs.length=c.length/\∀f∈fs,∃t,f=Value.int n t
 |[],_=>⟨[],PySem.W.KatTups.nil,rfl,λf d=>by simp at d⟩
 |v::c,i=>by
  obtain⟨fs,q,p,l⟩:=kat_all c λu r=>i u (gZ _ r);obtain⟨g,_,a,b,t,j,rfl,⟨o,x,z,m,y⟩,_⟩:=i v j3;refine⟨.int n t::fs,PySem.W.KatTups.cons x z y rfl q,by simp[p],λf d=>?_⟩;rcases bZ.mp d with rfl|d
  .exact⟨t,rfl⟩
  .exact l f d
theorem prKind{a:List ai}(b:∀v∈a,∃c,PrIs s.heap (n,c) v)(i:2<=a.length)(h:Q (tuples' ah) s):ar (aw P w) A (keyKind' a.toArray) Q E s:=by
 obtain⟨fs,f,g,d⟩:=kat_all a b;refine PySem.W.kat_kind (T:=.type "int") f ∅ (λv b=>?_) (by rfl) ?_
 .obtain⟨t,rfl⟩:=d v b;exact .now
 trivial
theorem sorted_genK(hu:A.units+32<cLine)(N:ar (aw P w) A.in1 (collect v) (λa c=>∃(κ:KeyKind) (kz:gq),(∀v∈a,∃k,κ.keyOf v=aa k)/\a.length<=1000000 /\ (∀(B:aV) (d:aB),B.units+8<cLine->(∀b o,c.heap.get? b=aa o->d.get? b=aa o)->2<=a.length->ij κ kz P w B {c with heap:=d}/\∀{E:ai->ao->Prop}{Q:gq->ao->Prop},Q kz {c with heap:=d}->ar (aw P w) B (keyKind' a.toArray) Q E {c with heap:=d}) /\ ∀(d:aB) (out:Array ai) (e:Nat),(∀b o,c.heap.get? b=aa o->d.get? b=aa o) -> d.get? c.heap.objs.size=aa (f8 "list" out e)->out.toList.Perm a->out.toList.Pairwise (λx y=>∀p q,κ.keyOf x=aa p->κ.keyOf y=aa q->κ.blt q p=ak)->Q (.ref c.heap.objs.size) {c with heap:=d}) E s):ar (aw P w) A (call (.builtin "sorted") [v]) Q E s:=by
 refine JY kind_sorted plain_sorted entry_sorted (args_sorted1 _) ?_;unfold JZ;refine aq (m:=checkCount "sorted" 1 1 _) (aE ?_);refine aq (aT N λa c ⟨κ,kz,O,H,n,z⟩=>?_);refine aq (Dk ?_);have r:(c.heap.push (f8 "list" a.toArray 0)).get? c.heap.objs.size=aa (f8 "list" a.toArray 0):=cP _ rfl;refine aq (iI (k8 slot_list_sort ⟨_,r,rfl⟩ entry_list_sort (Fy (κ:=κ) (kz:=kz) r (λp g=>?_) H (λd k S=>n _ d (by simp;lia) (λb o e=>k b o (dq (bG e)) (bL _ e)) S) λf g I=>⟨_,rfl,?_⟩) (args_list_sort _)))
 .have:p.1∈a:=by
   have D:p∈(a.toArray.zip a.toArray).toList:=g;rw[Array.toList_zip]at D;exact wg D |>.1
  exact O _ this
 .obtain⟨e,M⟩:=sortedHeap_at (out:=(arrOf f).map (·.2)) r;have l:(arrOf f).toList.Perm (a.zip a):=by
   have:=DL.mp g;have Y:(lc a).toList=a.zip a:=by show(a.toArray.zip a.toArray).toList=_;simp
   rwa[Y]at this
  have same:∀p∈(arrOf f).toList,p.1=p.2:=λp g=>by have:=l.mem_iff.mp g;rw[<-List.map_id a,List.zip_map']at this;obtain⟨x,_,rfl⟩:=bU.mp this;rfl
  have X:((arrOf f).map (·.2)).toList.Perm a:=by rw[Array.toList_map];have:=l.map (·.2);rwa[Kl (bn _)]at this
  refine aE ⟨_,rfl,z _ _ e (λb o C=>?_) M X ?_⟩
  .have n:b<c.heap.objs.size:=bG C;rw[sortedHeap_old (dq n) (by rw[lR];exact wx n)];exact bL _ C
  .rw[Array.toList_map];refine pe.mpr (t7.mpr λi j L J Z p q hx hy=>?_);have G:j<(lc a).size:=by rw[<-g.size_eq];assumption
   have F:i<(arrOf f).size:=by assumption
   have u:j<(arrOf f).size:=by assumption
   have h:=I i j (kw Z) G;rw[sQ F,sQ u]at h;have f1:=same _ (ww L);have f2:=same _ (ww J);have W:kO κ (arrOf f)[i]=p:=by unfold kO;simp_all
   have T:kO κ (arrOf f)[j]=q:=by unfold kO;simp_all
   rw[W,T]at h;exact h
end
section
variable{X:Cx}
abbrev PrK:=Int×List Tx
def kS(k:PrK):Int×List Str:=(k.1,k.2.map tS)
theorem kS_inj(h:kS a=kS b):a=b:=by obtain⟨g,f⟩:=a;obtain⟨b1,b2⟩:=b;have d:=congrArg Prod.fst h;have c:=congrArg (λx=>cpsL x.2) h;simp only[kS,cpsL,cR,lS,lz,ud]at d c;rw[d,c]
def PrH(H:Hp)(k:PrK)(a:ae):Prop:=k.2≠[]/\∃b,H a=aa (.tup [.int k.1,.ref b])/\H b=aa (.tup (cm k.2))
theorem PrH.is(ok:c9 P w H h)(x:PrH H k a):PrIs h (kS k) (.ref a):=by
 obtain⟨n,b,m,l⟩:=x;obtain⟨_,j,r,p,_⟩:=(show cc P w H h a (.tup [.int k.1,.ref b])from ok a _ m)
 obtain⟨_,c,g,i,_⟩:=(show cc P w H h b (.tup (cm k.2))from ok b _ l)
 obtain⟨u,v,rfl,f,d⟩:=vals2 r;obtain⟨t,rfl⟩:=f;cases d;exact⟨λz=>n (by simpa[kS]using z),a,b,t,c.toArray,rfl,p,i,by have:=xD g;trivial⟩
where
 vals2 {x y:V}{us:List ai} (h:bC [x,y] us):∃u v,us=[u,v]/\RelV x u/\RelV y v:=by
  cases h with
  |cons h1 h=>cases h with
   |cons h2 h=>cases h with
    |nil=>exact⟨_,_,rfl,h1,h2⟩
def toV(q:PrK×ae):(Int×List Str)×ai:=(kS q.1,.ref q.2)
noncomputable def addQ(a:List (PrK×ae))(q:PrK×ae):List (PrK×ae):=if q.1∈a.map (·.1)then a else a++[q]
def uniqQ(a:List (PrK×ae)):List (PrK×ae):=a.foldl addQ []
theorem addV_toV(a:List (PrK×ae))(q:PrK×ae):addV (a.map toV) (toV q)=(addQ a q).map toV:=by
 unfold addV addQ;have c:(toV q).1∈(a.map toV).map (·.1)↔q.1∈a.map (·.1):=by rw[cR,bU,bU];exact⟨λ⟨y,b,e⟩=>⟨y,b,kS_inj e⟩,λ⟨y,b,e⟩=>⟨y,b,by show kS y.1=kS q.1;rw[e]⟩⟩
 by_cases h:q.1∈a.map (·.1)
 .rw[if_pos h,if_pos (c.mpr h)]
 .rw[if_neg h,if_neg λz=>h (c.mp z),tX];rfl
theorem uniqQ_take(a:List (PrK×ae))(i:Nat)(h:i<a.length):uniqQ (a.take (i+1))=addQ (uniqQ (a.take i)) a[i]:=by unfold uniqQ;rw[Vh h,Ds];rfl
theorem addQ_len(a:List (PrK×ae))(q:PrK×ae):a.length<=(addQ a q).length:=by
 unfold addQ;split
 all_goals simp
theorem uniqQ_mono(l a:List (PrK×ae)):a.length<=(l.foldl addQ a).length:=by
 induction l generalizing a with
 |nil=>simp
 |cons x r b=>exact cV (addQ_len a x) (b _)
theorem uniqQ_le(a:List (PrK×ae))(i:Nat):(uniqQ (a.take i)).length<=(uniqQ a).length:=by
 have e:uniqQ a=(a.drop i).foldl addQ (uniqQ (a.take i)):=by unfold uniqQ;rw[<-Ds,mP]
 rw[e];exact uniqQ_mono _ _
theorem uniqQ_mem(l b:List (PrK×ae)):∀x∈l.foldl addQ b,x∈b\/x∈l:=by
 induction l generalizing b with
 |nil=>exact λx a=>.inl a
 |cons y r c=>
  intro x a;rcases c _ x a with z|z
  .unfold addQ at z
   grind
  simp_all
theorem uniqQ_sub(h:x∈uniqQ a):x∈a:=(uniqQ_mem a [] x h).elim (λz=>by simp at z) id
def setPHO(X:Cx)(a:ae)(b:List (PrK×ae)):HO:=.ext λh=>SetV (prKd X.prog X.w) h a (b.map toV)
def refs(a:List (PrK×ae)):List V:=a.map λq=>.ref q.2
theorem refs_vals:∀{a:List (PrK×ae)}{b:List ai},bC (refs a) b->b=a.map λq=>Value.ref q.2
 |[],_,.nil=>rfl
 |q::a,_,.cons r h=>by cases r;rw[refs_vals h];rfl
theorem vals_refs:∀(a:List (PrK×ae)),bC (refs a) (a.map λq=>Value.ref q.2)
 |[]=>.nil
 |q::a=>.cons rfl (vals_refs a)
theorem call_setLP(hu:X.A.units+64<cLine)(hc:X.calm=ah):eF X (.type "set") (λxs H Q=>∃(p:ae) (c:List (PrK×ae)),xs=[.ref p]/\cA X.K H p (refs c)/\(∀q∈c,PrH H q.1 q.2)/\(uniqQ c).length<4000/\∀a,H a=af->Q (.ref a) (upd H a (setPHO X a (uniqQ c)))):=by
 intro ag s σ H xs us Q I r h;obtain⟨p,c,rfl,G,hP,h4,q⟩:=h;obtain⟨u,rfl,N⟩:=vals1 r;cases N;obtain⟨z,M,Y,hz⟩:=I.list G;have bR:=refs_vals M;have C:z.toArray.size=c.length:=⋯
 have f:∀(h:aB),(∀b o,b<s.heap.objs.size->s.heap.get? b=aa o->h.get? b=aa o)->∀x∈c,(prKd X.prog X.w).is h (kS x.1) (.ref x.2):=λh k x A=>(prKd X.prog X.w).keep ((hP x A).is I.hok) λb o e _=>k b o (bG e) e;refine Jk (P:=X.prog) (w:=X.w) (I.ok.hd hc) (.inl Y.isList) (J:=λi h=>SetV (prKd X.prog X.w) h s.heap.objs.size ((uniqQ (c.take i)).map toV)/\∀b o,b<s.heap.objs.size->s.heap.get? b=aa o->h.get? b=aa o)
  (λi h n ⟨S,k⟩ g=>⟨S.at λo e=>g _ o (bn _) e,λb o l e=>g b o (kw l) (k b o l e)⟩) ⟨⟨#[],0,_,[],cP _ rfl,tY _,rfl,by decide,⟨⟨rfl,List.Pairwise.nil,(λj hj=>by trivial),(by show 7∈_;decide),(by show 0*5<7*3;decide)⟩,rfl,(λq G=>by trivial)⟩,rfl,λh=>absurd rfl h⟩,λb o _ e=>bL _ e⟩
  (λi v d E Q hi B ⟨S,k⟩ q=>?_) λn m ⟨S,_⟩ k=>?_
 .have y:i<c.length:=⋯
  obtain rfl:v=.ref c[i].2:=by rw[bR]at B;simp[y]at B;exact B.symm
  have D:=f d.heap k c[i] (ww y);unfold setAdd;refine iI (aq (hash_pr (P:=X.prog) (w:=X.w) (s:=d) (show X.A.units+3+4<cLine by lia) D d.toks _ _ λm O=>?_));refine set_addV (kd:=prKd X.prog X.w) (s:={d with toks:=m}) (k:=kS c[i].1) (show X.A.units+3+4<cLine by lia) S (λp Z=>?_) D (by rw[cG];exact zH (uniqQ_le c i) h4) λn b F og=>?_
  .obtain⟨x,A,rfl⟩:=bU.mp Z;exact f d.heap k x (List.mem_of_mem_take (uniqQ_sub A))
  .refine q n m b O F ⟨?_,λb o l e=>by rw[F.2 b (dq l)];exact k b o l e⟩;rw[uniqQ_take c i y,<-addV_toV];trivial
 .have L:SetV (prKd X.prog X.w) n s.heap.objs.size ((uniqQ c).map toV):=by
   rw[C,DK]at S;exact S
  refine⟨.ref s.heap.objs.size,_,I.laid (t':=m) (o:=setPHO X s.heap.objs.size (uniqQ c)) (λb o e=>k b o (bG e) e) (bn _) ?_,rfl,q _ I.fresh⟩;obtain⟨es,ep,t,ss,e,_⟩:=L.ex;exact⟨L,⟨_,e⟩,λh1 h2 W T=>W.at T⟩
theorem call_sortedSetP(hu:X.A.units+64<cLine)(hc:X.calm=ah):eF X (.builtin "sorted") (λxs H Q=>∃(p:ae) (d:List (PrK×ae)) (n:Int),xs=[.ref p]/\H p=aa (setPHO X p d)/\(∀q∈d,PrH H q.1 q.2/\q.1.1=n)/\d.length<4000 /\ ∀l g,H l=af->Vk g d->g.Pairwise (λx y=>ltL y.1.2 x.1.2=ak)->Q (.ref l) (upd H l (.lst (refs g)))):=by
 intro ag s L H xs us Q I r h;obtain⟨p,d,n,rfl,hq,F,h4,q⟩:=h;obtain⟨u,rfl,N⟩:=vals1 r;cases N;obtain⟨S,_,_⟩:=(show cc X.prog X.w H s.heap p (setPHO X p d)from I.hok p _ hq)
 obtain⟨G,ep,t,ps,ho,hp,Y,B,T,W,dw⟩:=S.ex;have SE:su X.w s.heap p G:=⟨ep,t,ho,B,T.fits (by simp),W,λh0=>dw λz=>h0 (by simp_all)⟩
 have m:(G.toList.map (·.2)).Perm (d.map λq=>Value.ref q.2):=by rw[Y,cR];have:=hp.map (·.2);rwa[cR]at this
 refine sorted_genK ∅ (E2 (uC (I.ok.hd hc)) SE λM vs pv k eg eo=>?_);obtain⟨C,g',d',t',P⟩:=M;obtain rfl:g'=s.gens:=eg;obtain rfl:P=s.os:=eo;have D:Inv X ag L H {s with heap:=C,drawn:=d',toks:=t'}:=by have:=Inv.call (ch:=[]) I (g':=s.gens) (d':=d') (t':=t') (Un.kept (fs:=fF X.stack) (ex:=[]) k) (I.hok.kept k) I.bare (λb hb=>absurd hb (by simp));trivial
 have a:=pv.trans m;have c:∀x∈d,PrIs C (n,x.1.2.map tS) (.ref x.2):=λx f=>by have:=(F x f).1.is D.hok;rw[<-(F x f).2];trivial
 refine⟨prKey C n,tuples' ah,λv A=>?_,by have:=a.length_eq;grind,λA' h2 hA i Z=>⟨prLt hA λb o e _=>i b o e,λ{E Q} O=>prKind (n:=n) (λv A=>?_) Z O⟩,λh2 w e i jn b1 b2=>?_⟩
 .obtain⟨x,f,rfl⟩:=bU.mp (a.mem_iff.mp A);exact⟨_,prKey_of (c x f)⟩
 .obtain⟨x,f,rfl⟩:=bU.mp (a.mem_iff.mp A);exact⟨_,(prKd X.prog X.w).keep (c x f) λb o e _=>i b o e⟩
 .obtain⟨g,J,j⟩:=perm_mapE (b1.trans a);refine⟨.ref _,_,D.laid (t':=t') (o:=.lst (refs g)) i (bn _) ⟨?_,w.toList,e,by rw[J];exact vals_refs g,by trivial⟩,rfl,q _ g D.fresh j ?_⟩
  .unfold refs;rw[cG,j.length_eq];exact kw (sD ∅)
  .rw[J]at b2;refine(pe.mp b2).imp_of_mem λ{x y} f hy hh=>?_;have:ltL _ _=ak:=hh _ _ (prKey_of (c x (j.mem_iff.mp f))) (prKey_of (c y (j.mem_iff.mp hy)));simpa[cpsL,cR,lS,lz]using this
end
end L2
namespace Pu
open L2
section
variable{X:Cx}{e:aC}{p q:Pos}
def pr1:PV->Option PrK
 |.tup [.int n,.tup xs]=>(fS xs).bind λa=>if a≠[] then aa (n,a)else af
 |_=>af
def prs:List PV->Option (List PrK)
 |[]=>aa []
 |x::xs=>(pr1 x).bind λk=>(prs xs).bind λks=>aa (k::ks)
def prV(k:PrK):PV:=.tup [.int k.1,.tup (am k.2)]
def uniqK(ks:List PrK):List PrK:=ks.foldl (λa k=>if k∈a then a else a++[k]) []
def leK2(a b:PrK):Bool:=!ltL b.2 a.2
def sortK(ks:List PrK):List PrK:=ks.mergeSort leK2
def sortSetVP:List PV->Option PO
 |[.lst xs]=>(prs xs).bind λks=>if(uniqK ks).length<4000/\∀k∈ks,k.1=(ks.headD (0,[])).1 then aa (.lst ((sortK (uniqK ks)).map prV))else af
 |_=>af
theorem pr1_eq(h:pr1 x=aa k):x=prV k/\k.2≠[]:=by
 unfold pr1 at h;split at h
 .obtain⟨c,b,a⟩:=ue.mp h;split at a
  .rename_i f;cases a;rw[uE b];trivial
  trivial
 trivial
theorem prs_eq:∀{xs:List PV}{ks:List PrK},prs xs=aa ks->xs=ks.map prV/\∀k∈ks,k.2≠[]
 |[],ks,h=>by cases h;simp
 |x::xs,ks,h=>by
  obtain⟨k,j,f⟩:=ue.mp h;obtain⟨a,c,b⟩:=ue.mp f;cases b;obtain⟨m,l⟩:=prs_eq c;obtain⟨b1,b2⟩:=pr1_eq j
  grind
theorem pr_rep{K:ax}{k:PrK}{v:V}(h:aN K H F (prV k) v)(m:k.2≠[]):∃a,v=.ref a/\PrH H k a:=by obtain⟨a,u,rfl,f,j,x,rfl,r,w,l,rfl,⟨b,s,rfl,c,o⟩,n⟩:=h;rw[show l=[] from n,show j=.int k.1 from r]at f;rw[(VJ.mp o).1]at c;exact⟨a,rfl,m,b,f,c⟩
theorem prs_rep{K:ax}:∀{ks:List PrK}{c:List V},aZ K H F (ks.map prV) c->(∀k∈ks,k.2≠[])->∃b:List (PrK×ae),b.map (·.1)=ks/\c=refs b/\∀q∈b,PrH H q.1 q.2/\aN K H F (prV q.1) (.ref q.2)
 |[],_,h,_=>⟨[],rfl,h,λq f=>by cases f⟩
 |k::ks,_,⟨v,r,e,o,n⟩,j=>by
  obtain⟨a,rfl,w⟩:=pr_rep o (j k j3);obtain⟨b,u,l,s⟩:=prs_rep n λy m=>j y (gZ _ m);refine⟨(k,a)::b,⋯,by rw[e,l];rfl,λq f=>?_⟩
  grind
theorem reps_refs{K:ax}:∀{a:List (PrK×ae)},(∀q∈a,aN K H F (prV q.1) (.ref q.2))->aZ K H F ((a.map (·.1)).map prV) (refs a)
 |[],_=>rfl
 |q::a,h=>⟨_,_,rfl,h q j3,reps_refs λx b=>h x (gZ _ b)⟩
theorem uniqQ_keys(l a:List (PrK×ae)):(l.foldl addQ a).map (·.1)=(l.map (·.1)).foldl (λa k=>if k∈a then a else a++[k]) (a.map (·.1)):=by
 induction l generalizing a with
 |nil=>rfl
 |cons x r b=>
  rw[g_,b,cp,g_];congr 1;unfold addQ;split
  all_goals simp
theorem uniqK_nodup(l a:List PrK)(h:a.Nodup):(l.foldl (λa k=>if k∈a then a else a++[k]) a).Nodup:=by
 induction l generalizing a with
 |nil=>exact h
 |cons x r c=>
  rw[g_];refine c _ ?_;split
  .exact h
  .rename_i j;rw[zW];exact⟨h,by simp,λy f z b e=>by simp at b;subst b;subst e;exact j f⟩
theorem sortK_uniq{l:List PrK}(m:l.Perm ks)(o:∀k∈ks,k.1=n)(r:l.Pairwise (λx y=>ltL y.2 x.2=ak)):l=sortK ks:=by
 refine JX (le:=λa b=>leK2 a b=ah) (λa b u s j f=>?_) (r.imp λh=>by unfold leK2;rw[h];rfl) (JW (λa b c=>?_) (λa b=>?_) ks) (m.trans (Dj ks leK2).symm)
 .have z:=o a (m.mem_iff.mp u);have w:=o b ((Dj ks leK2).mem_iff.mp s);unfold leK2 at j f;have:=ordL.total a.2 b.2 (show ltL a.2 b.2=ak by simpa using f) (show ltL b.2 a.2=ak by simpa using j);exact Prod.ext (z.trans w.symm) this
 .unfold leK2;intro j f;have:=qV (O:=ordL) (a:=a.2) (b:=b.2) (c:=c.2) (show ltL b.2 a.2=ak by simpa using j) (show ltL c.2 b.2=ak by simpa using f);have:ltL c.2 a.2=ak:=this;rw[this];rfl
 .unfold leK2;cases h:ltL b.2 a.2 with
  |false=>rfl
  |true=>
   have:ltL a.2 b.2=ak:=by
    cases v:ltL a.2 b.2 with
    |false=>rfl
    |true=>exact absurd (ordL.trans _ _ _ h v) (by have:ltL b.2 b.2=ak:=ordL.irrefl _;show ¬ltL b.2 b.2=ah;rw[this];simp)
   rw[this];rfl
def rSetThenP(X:Cx)(r:List V->Hp->VK->Prop):List V->Hp->VK->Prop:=λxs H Q=>∃(p:ae) (b:List (PrK×ae)),xs=[.ref p]/\cA X.K H p (refs b)/\(∀q∈b,PrH H q.1 q.2)/\(uniqQ b).length<4000/\∀a,H a=af->r [.ref a] (upd H a (setPHO X a (uniqQ b))) Q
def rSortP(X:Cx):List V->Hp->VK->Prop:=λxs H Q=>∃(p:ae) (a:List (PrK×ae)) (n:Int),xs=[.ref p]/\H p=aa (setPHO X p a)/\(∀q∈a,PrH H q.1 q.2/\q.1.1=n)/\a.length<4000 /\
  ∀l b,H l=af->Vk b a->b.Pairwise (λx y=>ltL y.1.2 x.1.2=ak)->Q (.ref l) (upd H l (.lst (refs b)))
theorem pln_sortSetV:lp X.K (rSetThenP X (rSortP X)) sortSetVP:=λF H xs vs Q po Y O e q=>by
 unfold sortSetVP at e;split at e
 .obtain⟨v,rfl,a,us,rfl,W,_,N⟩:=gB O;obtain⟨ks,e1,M⟩:=ue.mp e;obtain⟨rfl,cz⟩:=prs_eq e1;obtain⟨j,S,rfl,u⟩:=prs_rep N cz;split at M
  .rename_i L;cases M;have J:(uniqQ j).map (·.1)=uniqK ks:=by unfold uniqQ uniqK;rw[uniqQ_keys,S];rfl
   have r:(uniqQ j).length<4000:=by rw[<-cG (f:=(·.1)),J];exact L.1
   have G:∀q∈j,q.1.1=(ks.headD (0,[])).1:=λq m=>L.2 _ (by grind);refine⟨a,j,rfl,.inl W,λq m=>(u q m).1,r,λb C=>⟨b,uniqQ j,(ks.headD (0,[])).1,rfl,upd_same,λq m=>⟨?_,G q (uniqQ_sub m)⟩,r,λl D s I T=>?_⟩⟩
   .obtain⟨h0,c,h1,Z⟩:=(u q (uniqQ_sub m)).1;exact⟨h0,c,by rw[a6 (kM h1 C)];trivial,by rw[a6 (kM Z C)];trivial⟩
   .have A:l≠b:=by rintro rfl;rw[upd_same]at s;trivial
    have B:H l=af:=by rw[a6 A]at s;trivial
    have al:Al F F H (upd (upd H b (setPHO X b (uniqQ j))) l (.lst (refs D))):=(Al.new0 C).trans (Al.new0 s);have ez:D.map (·.1)=sortK (uniqK ks):=by rw[<-J];refine sortK_uniq (n:=(ks.headD (0,[])).1) (I.map _) (λk P=>?_) (pe.mpr T);obtain⟨y,x,rfl⟩:=bU.mp P;exact G y (uniqQ_sub x)
    refine q l F _ (λc=>c=l) al ⟨⟨_,upd_same,?_⟩,λc=>kE⟩ λc z=>?_
    .rw[<-ez];refine reps_refs λy x=>?_;exact aN.mono (λ_ h=>h) (λ_ _ _ h=>al.same.rd h) (λc o h _=>al.same c o h) _ _ (u y (uniqQ_sub (I.mem_iff.mp x))).2
    .subst z;exact⟨B,λz=>wF (Y _ z) (λo w=>by lia),_,upd_same,trivial⟩
  trivial
 trivial
theorem dn_sortSetV(c:X.A.units+64<cLine)(f:X.calm=ah)(n:DA X E [e] i)(l:X.mg "sorted"=af)(a:X.mg "set"=af)(m:Gl X "sorted"^0)(b:Gl X "set"^0)(h:(oU e=ak)^0):DN X E (.Call (.Name "sorted" p) [.Call (.Name "set" q) [e] [] d] [] g) (dL sortSetVP i):=λF S s r H Q j o=>bY (mx (call_sortedSetP c f) m l mn (i7 (yZ (call_setLP c f) b a GF i_ (by decide) (by rfl) (js h) rfl) jz (js rfl)) (by decide) (by rfl) (js rfl) rfl) (vx pln_sortSetV n j o)
end
end Pu
namespace L2
section
variable{X:Cx}{l:List aC}{k:Nat}{j:Pos}
def Cf:V->Hp->St->Prop:=λv H a=>∃p x y,v=.ref p/\H p=aa (.tup [x,y])/\a=[aa x,aa y]
theorem Lq(B:iu X f x g i)(P:X.calm=ah)(E:g[1]?=aa y)(J:f.names.lookup y=aa .local):∀C m o A z,PG (bz X f g C m o A z) (.Tuple [.Name x N,.Name y M] k j) λv w H Q=>∃D,D.length=1+1/\w.length=g.length/\Cf v H D/\Q (D++w.drop (1+1)) H:=by
 intro C m o A z T s w H v u Q I r h;obtain⟨D,_,S,⟨p,a,b,rfl,O,rfl⟩,q⟩:=h;have Y:Loc (bz X f g C m o A z).env.scope x:=B.loc.elim (λh=>.inl (wu h)) (λh=>.inr (yn h));have W:(bz X f g C m o A z).fn x=ah\/(bz X f g C m o A z).env.scope.names.lookup x=aa .local:=B.loc.elim (λh=>.inr (wu h)) (λh=>.inl (by show(f.names.lookup x == aa .cell)=ah;rw[h];rfl));have F:(bz X f g C m o A z).N[0]?=aa x:=by show g[0]?=aa x;rw[<-List.head?_eq_getElem?];exact B.hd
 have L:Q (((w.set 0 (aa a)).set 1 (aa b))) H:=by
  match w,S,q with
  |c::d::t,_,q=>exact q
  |[c],G,_=>rw[nY (by rw[<-G];simp)]at E;trivial
  |[],G,_=>rw[nY (by rw[<-G];simp)]at E;trivial
 refine HP (X:=bz X f g C m o A z) (n:=2) P (zo (qD (X:=bz X f g C m o A z) B.nd F Y W) (zo (qD (X:=bz X f g C m o A z) B.nd (show(bz X f g C m o A z).N[1]?=aa y from E) (.inl (wu J)) (.inr (wu J))) HI)) rfl rfl T s w H _ u Q I r ⟨p,[a,b],rfl,cn.of O,rfl,a,[b],rfl,b,[],rfl,rfl,L⟩
end
end L2
namespace Pu
open L2
def nG{f:Type}(b:List Nat)(d:ad f)(x y:PV):ad f:=λa=>(aR (dI a b) a).bind λc _=>(aR (if(cD c).Nodup then eQ a (.inl x::.inl y::c)else af) a).bind λg _=>fN a (.inl x::.inl y::c) (d g)
def oM(a:List Nat)(dt:ad Bool)(de:ad PV):List (PV×PV)->List PV->aj->R (List PV)
 |[],c,f=>.ok c f
 |x::xs,c,f=>(bM (nG a dt x.1 x.2 f)).bind λk b=>match k with
  |true=>(bM (nG a de x.1 x.2 b)).bind λy d=>oM a dt de xs (c++[y]) d
  |false=>oM a dt de xs c b
def qe(cap:List Nat)(c:ad (List (PV×PV)))(dt:ad Bool)(de:ad PV):ad PO:=λε=>(c ε).bind λxs ε1=>(oM cap dt de xs [] ε1).bind λb a=>.ok (.lst b) a
theorem FM{K:ax}{S:Nat->ae->Prop}{s:aj}{f:St}{H:Hp}{L:Type}{b:List Nat}{d:ad L}{x y:PV}{v w:V}{C:L->aj->(ae->Prop)->(Nat->ae->Prop)->Hp->Prop}(r:aL K F S s f H) (T:aN K H F x v) (Q:aN K H F y w) (h:Ok K E f F S H (bM (nG b d x y s)) C):∃O l,aL K F O l (aa v::aa w::eZ f b) H/\Ok K E0 (aa v::aa w::eZ f b) F O H (d l) (λa _ q _ p=>∃j B,aL K q B j f p/\Grow (U S) (U B) F q H p/\C a j q B p):=by
 unfold nG at h;cases I:dI s b with
 |none=>rw[I]at h;trivial
 |some g=>
  rw[I]at h;simp only[bT,R.bind_ok]at h;by_cases D:(cD g).Nodup
  .rw[if_pos D]at h;cases A:eQ s (.inl x::.inl y::g)with
   |none=>rw[A]at h;trivial
   |some l=>
    rw[A]at h;simp only[bT,R.bind_ok]at h;obtain⟨u,Z,Y⟩:=uF r I;have o:jQ K f F H (.inl x::.inl y::g) (v::w::u):=⟨v,w::u,rfl,T,w,u,rfl,Q,Z⟩
    have n:aa v::aa w::eZ f b=(v::w::u).map aa:=by rw[Y];rfl
    have m:(cD (.inl x::.inl y::g)).Nodup:=D;refine⟨lx (.inl x::.inl y::g) S,l,by rw[n];exact r.cal o A m,?_⟩;rw[n];cases G:d l with
    |no=>rw[G]at h;trivial
    |er c J=>
     rw[G]at h;unfold fN at h;dsimp only at h;by_cases i:gF (.inl x::.inl y::g) J=ah
     .rw[if_pos i]at h;trivial
     .rw[if_neg i]at h;trivial
    |ok a J=>
     rw[G]at h;intro q B p W X;unfold fN at h;dsimp only at h;by_cases i:gF (.inl x::.inl y::g) J=ah
     .rw[if_pos i]at h;obtain⟨P,M,N,_⟩:=r.called o A m W X (λ_ z=>z) (nu i);exact⟨_,P,M,N,h q P p M N⟩
     .rw[if_neg i]at h;trivial
  .rw[if_neg D]at h;trivial
def IB(J:It)(b:List (V×V))(R:Hp->Prop):Prop :=
 ∀H,R H->∀i,(∀x,b[i]?=aa x->J.go i H/\∀v a,J.yld i H v a->∃p,v=.ref p/\a p=aa (.tup [x.1,x.2])/\(a=H\/(H p=af/\a=upd H p (.tup [x.1,x.2]))))/\(i=b.length->J.stop i H)
def sS(K:ax)(H:Hp)(F:ae->Prop)(b:List (PV×PV))(a:List (V×V)):Prop:=aZ K H F (b.map (·.1)) (a.map (·.1))/\aZ K H F (b.map (·.2)) (a.map (·.2))
def BF(X:Cx)(E:XK)(o a:aC)(d:ad (List (PV×PV))):Prop:=∀F S j c H l,aL X.K F S j c H ->
 Ok X.K E c F S H (d j) (λp _ n q h=>∀J f m,sS X.K h n p f->f.length<=bq->IB J f m->(∀g i b,Grow (U q) (U g) n i h b->m b)->l J h)->lG X o a c H l
section
variable{X:Cx}{E:XK}{c:dP}{x y:Str}{d:List Str}{cap:List Nat}
theorem Mt{Y:aC}{W:List aC}{j:Nat}{di:ad (List (PV×PV))}{dt:ad Bool}{de:ad PV}(hi:BF X E tg G di)(ht:∀C f g n r,DF (bz X c d C f g n r) E0 W dt) (he:∀C f g n r,DE (bz X c d C f g n r) E0 Y de){Q:VK} (rl:aL X.K F S ε s H) (h:Ok X.K E s F S H (qe cap di dt de ε) (λpo _ F' S' H'=>∀a Sa,fo X.K H' F' po a Sa->(∀b,Sa b->H b=af/\¬F' b/\¬U S' b/\∃o,H' b=aa o/\eh o)->Q (.ref a) H')):zt (lG X tg G) Cf 1 (λs H Q=>∀C f g n r,nz (bz X c d C f g n r) W s H Q) (λs H Q=>∀C f g n r,gz (bz X c d C f g n r) Y s H Q) (j::cap) s H Q:=by
 refine hi F S ε s H _ rl ((Ok.bind h).imp λxs ε1 N S1 H1 r1 g1 h1 J vs RR rs hz hw keep l hl=>?_);have h1:=h1.bind;have hvl:vs.length=xs.length:=by have:=rs.1.len;simpa using this
 have a0:Al N N H1 (upd H1 l (.lst [])):=Al.new0 hl;have nF1:¬N l:=λz=>by obtain⟨o,q⟩:=r1.ex l z;lia
 have nS1:¬U S1 l:=λ⟨i,z⟩=>by obtain⟨_,_,o,q,_⟩:=r1.foot i l z;lia
 have hH:H l=af:=oG g1 hl;refine⟨λi=>GX X.K s N S1 H1 l xs.length (λε' ay=>Ok X.K E s N S1 H1 (oM cap dt de (xs.drop i) ay ε') (λys' A B S2 M=>Ok X.K E s B S2 M (R.ok (PO.lst ys') A) (λpo _ F' S' H'=>∀a Sa,fo X.K H' F' po a Sa->(∀b,Sa b->H b=af/\¬F' b/\¬U S' b/\∃o,H' b=aa o/\eh o)->Q (.ref a) H'))) i,⟨_,rfl,jG _,N,S1,ε1,[],r1.al a0,a0.grow,upd_same,nF1,nS1,rfl,bn _,h1⟩,?_⟩;rintro i m ys H0 ⟨rfl,hi,B,S2,A,ay,r0,g0,Z,nF2,nS2,w,hyl,q2⟩;have RH:=keep S2 B H0 g0;by_cases bo:i<xs.length
 .obtain⟨v,hv⟩:∃v,vs[i]?=aa v:=⟨_,eD ⋯⟩
  obtain⟨go,yl⟩:=(hw H0 RH i).1 v hv;refine .inr ⟨go,λv' M yy=>?_⟩;obtain⟨p,e1,e2,e3⟩:=yl v' M yy;subst e1;refine⟨[aa v.1,aa v.2],rfl,⟨p,_,_,rfl,e2,rfl⟩,?_⟩;have al:Al B B H0 M:=by
   rcases e3 with rfl|⟨e3,rfl⟩
   .exact Al.refl ..
   .exact Al.new0 e3
  have r2:=r0.al al;have g2:Grow (U S1) (U S2) N B H1 M:=g0.trans al.grow;have el:M l=aa (.lst ys):=al.same _ _ Z;have D:=al.reps w;show ∀C f g n r,nz (bz X c d C f g n r) W (aa v.1::aa v.2::eZ s cap) M _;obtain⟨T,hx,rx⟩:=rs.1.back (show(vs.map (·.1))[i]?=aa v.1 by rw[dY,hv];rfl);obtain⟨P,hy,ry⟩:=rs.2.back (show(vs.map (·.2))[i]?=aa v.2 by rw[dY,hv];rfl);have n:xs[i].1=T:=by rw[dY,eD bo]at hx;exact fe hx
  have ey:xs[i].2=P:=by rw[dY,eD bo]at hy;exact fe hy
  have ed:xs.drop i=(T,P)::xs.drop (i+1):=by rw[wC bo];congr 1;exact Prod.ext n ey
  rw[ed]at q2;have rx2:=rx.grow g2 r1.fit;have ry2:=ry.grow g2 r1.fit;have q3:=Ok.bindB q2 g2;obtain⟨Sb,ss,rb,okb⟩:=FM r2 rx2 ry2 q3;intro C f g n r;refine ht C f g n r B Sb ss _ M _ rb (okb.imp λb _ F3 _ H3 _ _ ⟨ε3,S3,r3,I,q4⟩=>?_);obtain⟨el3,nF3,nS3⟩:=I.stay el nS2 nF2;cases b with
  |false=>exact nj ⟨_,nofun,rfl,bo,F3,S3,ε3,ay,r3,g2.trans I,el3,nF3,nS3,D.grow I r2.fit,∅,q4⟩
  |true=>refine nB ?_;have q5:Ok X.K E s N S1 H1 ((bM (nG cap de T P ε3)).bind λy A=>oM cap dt de (xs.drop (i+1)) (ay++[y]) A) _:=q4;obtain⟨Sc,sc,rc,okc⟩:=FM r3 (rx2.grow I r2.fit) (ry2.grow I r2.fit) (Ok.bindB q5 (g2.trans I));show ∀C f g n r,gz (bz X c d C f g n r) Y (aa v.1::aa v.2::eZ s cap) H3 _;intro C f g n r;refine he C f g n r F3 Sc sc _ H3 _ rc (okc.imp λy _ F4 _ H4 _ _ ⟨ε4,S4,r4,g4,q6⟩ u ru=>?_);obtain⟨el4,nF4,nS4⟩:=g4.stay el3 nS3 nF3;have O:=(D.grow I r2.fit).grow g4 r3.fit;obtain⟨gl,L,r5⟩:=r4.lay (o':=.lst (ys++[u])) el4 trivial nF4 nS4;have g5:=((g2.trans I).trans g4).lay (o':=.lst (ys++[u])) hl;refine⟨el4,?_,_,nofun,rfl,bo,F4,S4,ε4,ay++[y],r5,g5,upd_same,nF4,nS4,(O.grow gl L).app (.one (ru.grow gl L)),by simp;omega,q6⟩;lia
 .have e:i=xs.length:=∅
  subst e;refine .inl ⟨(hw H0 RH _).2 hvl.symm,?_⟩;rw[zV]at q2;exact q2 B S2 H0 r0 g0 B S2 H0 r0 (Grow.refl ..) l (λb=>b=l) ⟨⟨ys,Z,w⟩,λb=>kE⟩ λb z=>by subst z;exact⟨hH,nF2,nS2,_,Z,trivial⟩
noncomputable def jT{b a:Type}(f:Nat->a):Nat->List b->List (a×b)
 |_,[]=>[]
 |n,x::xs=>(f n,x)::jT f (n+1) xs
theorem Ba(f:Nat->a):∀(n:Nat) (xs:List b),(jT f n xs).map (·.2)=xs
 |_,[]=>rfl
 |n,x::xs=>by show x::_=_;rw[Ba f (n+1) xs]
theorem IR(f:Nat->a):∀(n:Nat) (xs:List b) (i:Nat),(jT f n xs)[i]?=(xs[i]?).map λx=>(f (n+i),x)
 |_,[],i=>rfl
 |n,x::xs,0=>rfl
 |n,x::xs,i+1=>by show(jT f (n+1) xs)[i]?=(xs[i]?).map _;rw[IR f (n+1) xs i,show n+1+i=n+(i+1) by lia]
theorem Bh(f:Nat->a):∀(n:Nat) (xs:List b),(jT f n xs).length=xs.length
 |_,[]=>rfl
 |n,x::xs=>by show(jT f (n+1) xs).length+1=_;rw[Bh f (n+1) xs];rfl
def vJ(xs:List PV):List (PV×PV):=jT (λi=>PV.int (i:Nat)) 0 xs
theorem Hj{K:ax}:∀(n:Nat) {xs:List PV}{a:List V},aZ K H F xs a->aZ K H F ((jT (λi=>PV.int (i:Nat)) n xs).map (·.1)) ((jT (λi=>V.int i) n a).map (·.1))
 |_,[],a,h=>by cases h;rfl
 |n,x::xs,a,⟨v,r,e,f,b⟩=>by subst e;exact⟨_,_,rfl,rfl,Hj (n+1) b⟩
end
section
variable{X:Cx}{f:Pos}
theorem Ue(i:Nat)(hN:X.N.Nodup)(B:iu X a x N' (j::cap))(L:X.calm=ah)(hi:BF X E (.Tuple [.Name x o,.Name z n] k m) b q)(T:∀C r u w v,DF (bz X a N' C r u w v) E0 c dt) (he:∀C r u w v,DE (bz X a N' C r u w v) E0 d de) (O:(N'[1]?=aa z)^0) (Z:(a.names.lookup z=aa .local)^0)(Y:(i∉l)^1) (N:(X.N[i]?=aa y)^0) (P:Loc X.env.scope y^6) (M:(jg (.ListComp d [⟨.Tuple [.Name x o,.Name z n] k m,b,c,0⟩] a g) (aa (.Name y p)) f.line X.env=pure ah)^0)(hf:az X y^3) (W:(∀x,lL b X.env x=pure x)^4):DS X E l (.Assign [.Name y p] (.ListComp d [⟨.Tuple [.Name x o,.Name z n] k m,b,c,0⟩] a g) f) (bw i (dF (qe cap q dt de))):=λF S ε A H D J h=>
 fQ (GO (k:=1) (tgf:=Cf) (wi:=lG X (.Tuple [.Name x o,.Name z n] k m) b) (ts:=λA H Q=>∀C r u w v,nz (bz X a N' C r u w v) c A H Q) (te:=λA H Q=>∀C r u w v,gz (bz X a N' C r u w v) d A H Q) B (by simp) L v8 (Lq B L O Z)
  (λC r u w v G s A H Q I h=>(h C r u w v).run G s I) (λC r u w v G s A H Q I h=>(h C r u w v).run G s I) hN N P M hf W) (Mt hi T he J (Fs Y J h))
end
end Pu
namespace PySem
open PySem.AutoSeq1 (wpAny_loadPart')
section
variable{A:aV}{s:ao}
theorem MW{items}(f:s.heap.IsTupleIter a t i)(m:s.heap.IsTuple t items)(l:items[i]?=aa x)(p:∀g,g.IsTupleIter a t (i+1)->j4 a s.heap g->Q x {s with heap:=g}):ar (aw b w) A (D6 (.ref a)) Q E s:=by obtain⟨o,d,n,c⟩:=id f;obtain⟨q,j,_,r,h⟩:=m;unfold D6;refine aq (wo (name:=tN "__next__") f.typeIs D7 (k8 D7 f.typeIs F.entry_tuple_iterator_next ?_ (F.args_tuple_iterator_next_1 _)));show ar _ _ (field (.ref a) 0 >>= _) _ _ s;refine aq (lO d c (x:=.ref t) rfl ?_);show ar _ _ (if(Value.ref t == Value.none)=ah then _ else _) _ _ s;rw[if_neg (show ¬((Value.ref t == Value.none)=ah)from jh)];show ar _ _ (field (.ref a) 1 >>= _) _ _ s;refine aq (lO d c (x:=.int i 0) rfl ?_);show ar _ _ (zM (.ref t) >>= _) _ _ s;refine aq (wB j h ?_);simp only[mI,l];refine aq (mL d c (by simp) (aE ⟨x,rfl,aE (p _ ?_ (mK ..))⟩));exact⟨_,mE _ d (wE (nZ c _)),(J9 ..).trans n,by rw[nZ c];rfl⟩
theorem Op{items}(j:A.handled=af)(d:s.heap.IsTupleIter c t i)(q:s.heap.IsTuple t items)(p:items[i]?=af)(r:∀h e,Heap.ExtBut c s.heap h->(∃o,h.get? e=aa o/\o.cls=.type "StopIteration")->E (.ref e) {s with heap:=h}):ar (aw b w) A (D6 (.ref c)) Q E s:=by
 obtain⟨o,f,y,g⟩:=id d;obtain⟨u,n,_,v,l⟩:=q;unfold D6;refine aq (wo (name:=tN "__next__") d.typeIs D7 (k8 D7 d.typeIs F.entry_tuple_iterator_next ?_ (F.args_tuple_iterator_next_1 _)));show ar _ _ (field (.ref c) 0 >>= _) _ _ s;refine aq (lO f g (x:=.ref t) rfl ?_);show ar _ _ (if(Value.ref t == Value.none)=ah then _ else _) _ _ s;rw[if_neg (show ¬((Value.ref t == Value.none)=ah)from jh)];show ar _ _ (field (.ref c) 1 >>= _) _ _ s;refine aq (lO f g (x:=.int i 0) rfl ?_);show ar _ _ (zM (.ref t) >>= _) _ _ s;refine aq (wB n l ?_);simp only[mI,p];refine aq (mJ (aq (mL f g (by simp) ?_)));show ar _ _ (qT (.type "StopIteration") [] >>= _) _ _ _;refine aq ?_;simp only[qT,newTuple];refine aq (j8 ?_ (by size_fits));refine aq (m:=zQ _ _) (nU (a:=Value.none) (by first|rfl | (simp only[zQ];rfl)) ?_);refine j8 ?_ (by size_fits);simp only[wz];refine aq (wpAny_handled ?_)
 first|rw[show A.in1.handled=af from j]|rw[j]
 refine aq (aE (wpAny_throw ?_));exact r _ _ (((mK ..).extBut.push _).push _) ⟨_,cP _ rfl,rfl⟩
end
theorem Pb(l:ae)(a:Array ai)(n:Nat)(i:Option ae)(o:Array (Option ai)):Meets (Builtin.«enumerate.__new__» ⟨[.type "enumerate",.ref l],[]⟩) (λ_ R s=>s.heap.get? l=aa {cls:=.type "tuple",dict:=i,data:=.seq a n,slots:=o} /\ R (.ok (.ret (.ref (s.heap.push {cls:=.type "tuple_iterator",data:=.fields #[.ref l,.int 0 0]}).objs.size))) {s with heap:=(s.heap.push {cls:=.type "tuple_iterator",data:=.fields #[.ref l,.int 0 0]}).push {cls:=.type "enumerate",data:=.fields #[.none,.bool ak,.ref s.heap.objs.size,dH 0,.none,.none]}}) :=
 .of_wp λj w A R s h=>by
  obtain⟨q,g,d,m,p⟩:=s;obtain⟨b,h⟩:=h;have u:=sub_enumerate;have f:Heap.IsTuple (Shared.heap ⟨q,g,d,m,p⟩) l a:=⟨_,b,rfl,n,rfl⟩
  wp_walk using o8 b
  refine wpAny_stack_any λr=>aE ?_;split
  .rename_i c _ _ _ _ _;cases (c == Value.type "enumerate")
   .wp_walk using o8 b,zT f
    exact⟨_,rfl,h⟩
   .wp_walk using o8 b,zT f
    exact⟨_,rfl,h⟩
  .wp_walk using o8 b,zT f
   exact⟨_,rfl,h⟩
theorem Draws.tuple{A:aV}(g:A.handled=af)(c l:ae)(p:l≠c)(a:Array ai):Draws b w A c [c,l] a.size (λi v=>a[i]?=aa v) (λi h=>h.IsTupleIter c l i/\h.IsTuple l a) where
 live:=λ_ _ st=>let ⟨o,ho,_⟩:=st.1;⟨o,ho⟩
 frame:=λ_ _ _ st f=>⟨let ⟨o,ho,r⟩:=st.1;⟨o,f c (by simp) o ho,r⟩,let ⟨o,ho,r⟩:=st.2;⟨o,f l (by simp) o ho,r⟩⟩
 item:=λi s Q E u st j=>by refine MW st.1 st.2 (x:=a[i]) (by simp) λn q d=>?_;exact j _ n s.toks (by simp) ⟨q,st.2.extBut d.extBut p⟩ d
 done:=λs Q E st m=>Op g st.1 st.2 (by simp) m
section
variable{s:ao}
theorem OB(v:s.heap.IsTuple l d)(h:∀f,IsEnum f (s.heap.objs.size+1) s.heap.objs.size 0 .none->f.IsTupleIter s.heap.objs.size l 0->f.objs.size=s.heap.objs.size+2 -> (∀b o,s.heap.get? b=aa o->f.get? b=aa o)->Q (.ref (s.heap.objs.size+1)) {s with heap:=f}):ar (aw a w) A (call (.type "enumerate") [.ref l]) Q E s:=by
 obtain⟨⟨c,m,dt,r⟩,u,j,n,i⟩:=v;replace j:c=.type "tuple":=j;replace i:dt=.seq d n:=i;subst j i;refine callType_new F.called_enumerate (by rfl) (F.typeCall_enumerate_1 _) (F.newCall_enumerate_1 _) (λg=>F.args_object_init_2 g _) F.entry_enumerate_new
  (Pb l d n m r) ⟨u,?_⟩
 have p:(s.heap.push {cls:=.type "tuple_iterator",data:=.fields #[.ref l,.int 0 0]}).objs.size=s.heap.objs.size+1:=Dd ..;show _/\_;rw[p];have q:IsEnum ((s.heap.push {cls:=.type "tuple_iterator",data:=.fields #[.ref l,.int 0 0]}).push {cls:=.type "enumerate",data:=.fields #[.none,.bool ak,.ref s.heap.objs.size,dH 0,.none,.none]}) (s.heap.objs.size+1) s.heap.objs.size 0 .none:=by
  have:=cP (s.heap.push {cls:=.type "tuple_iterator",data:=.fields #[.ref l,.int 0 0]})
   (o:={cls:=.type "enumerate",data:=.fields #[.none,.bool ak,.ref s.heap.objs.size,dH 0,.none,.none]}) rfl
  rw[p]at this;trivial
 refine⟨⟨_,q,rfl⟩,h _ q ⟨_,bL _ (cP _ rfl),rfl,rfl⟩ (by simp) λb o x=>bL _ (bL _ x)⟩
end
end PySem
namespace L2
def yD(K:ax)(a:ae):It :=⟨λi H=>∃xs x,cn K H a xs/\xs[i]?=aa x,λi H v c=>∃p x,H p=af/\v=.ref p/\c=upd H p (.tup [.int i,x])/\∀b,cn K H a b->b[i]?=aa x,λi H=>∃xs,cn K H a xs/\xs.length=i⟩
theorem OW{K:ax}{es:List aC}{k:Nat}{pos:Pos}(a e j:ae)(cz:e≠j):pX P w K (.Tuple es k pos) (yD K a) [e,j] e (λi h=>(∃l,IsEnum h e j (i:Nat) l)/\h.IsTupleIter j a i) where
 mem:=by simp
 obj:=λi h ⟨⟨l,C⟩,f⟩ b y=>by
  simp only[bZ,jl,or_false]at y;rcases y with rfl|rfl
  .exact⟨_,C,λv z=>by cases z⟩
  .obtain⟨o,e,c,d⟩:=f;simp_all
 keep:=λi h h' ⟨⟨l,C⟩,f⟩ k=>⟨⟨l,k e (by simp) _ C⟩,let ⟨o,ho,r⟩:=f;⟨o,k j (by simp) o ho,r⟩⟩
 item:=by
  intro X S hw hK D i ag s σ H E I Y f hg;subst S hw hK;obtain⟨⟨l,C⟩,f⟩:=f;obtain⟨xs,x,W,hx⟩:=hg;obtain⟨m,rv,p,hz⟩:=I.tuple W;obtain⟨u,hu,ru⟩:=rv.get hx;obtain⟨f0,f1,f2,f3,f4,f5⟩:=Y e (by simp);obtain⟨g0,g1,g2,g3,g4,g5⟩:=Y j (by simp);have G:a≠j:=λz=>by obtain⟨o1,L,c1,_⟩:=p;obtain⟨o2,e2,c2,_⟩:=f;lia
  have hea:e≠a:=λz=>by obtain⟨o1,L,c1,_⟩:=p;lia
  have bo:i<m.toArray.size:=by have:=(cJ.mp hu).1;trivial
  refine wpAny_pyNext_enum_itemD (Draws.tuple (by show X.A.in1.handled=af;exact I.ok.hd D) j a G m.toArray) C ⟨f,p⟩ bo cz (by simp[cz,hea]) λM h' T S uu aD ht hsz kp=>⟨_,rfl,?_⟩
  have eu:M=u:=by
   have B:m[i]?=aa M:= ~~~S
   rw[hu]at B;exact(fe B).symm
  subst eu;replace aD:=aD.1;refine wpAny_letOwnedTupleGo_enum (s:={s with heap:=h',toks:=T+1}) uu λh2 ut sb=>?_;have Q:s.heap.objs.size≠e:=tL (bG C);have O:h2.get? s.heap.objs.size=aa {cls:=.type "tuple",data:=.seq #[.int i T,M]}:=(sb.2 _ Q).trans ht;have A:∀b o,b≠e->b≠j->s.heap.get? b=aa o->h2.get? b=aa o:=λb o B Z q=>(sb.2 b B).trans (kp b o B Z q);have fr:=I.fresh;have J:∀b u,H b=aa u->b≠s.heap.objs.size:=λb u q z=>by lia
  have F:∀b o,s.heap.get? b=aa o->∃o',h2.get? b=aa o':=λb o q=>by
   by_cases B:b=e
   .subst B;exact⟨_,ut⟩
   .by_cases Z:b=j
    .subst Z;obtain⟨oi,L,_⟩:=aD;exact⟨oi,(sb.2 b B).trans L⟩
    .exact⟨o,A b o B Z q⟩
  have I2:Inv X ag σ (upd H s.heap.objs.size (.tup [.int i,x])) {s with heap:=h2,toks:=T+1}:=by
   refine I.call' (ch:=[e,j]) rfl ⟨λb o q n _ N=>A b o (λz=>N (by simp[z])) (λz=>N (by simp[z])) q,λb o q n _ N=>⟨o.slots,A b o (λz=>N (by simp[z])) (λz=>N (by simp[z])) q⟩,λb o q n _=>by rw[a6 (dq (bG q))];exact n,λb o q _=>F b o q,λb ys q=>by rw[a6 (J b _ q)];exact q,λb o u q=>by rw[a6 (J b _ q)];exact q,λb ps q=>⟨by rw[a6 (J b _ q)];exact q,λc o e2 g=>⟨A c o (λz=>by lia) (λz=>by lia) g,by rw[a6 (J c _ e2)];trivial⟩⟩⟩ (λb v q=>?_) I.bare λb y=>?_
   .by_cases y:b=s.heap.objs.size
    .subst y;rw[upd_same]at q;cases q;exact⟨by show 2<=bq;decide,[.int i T,M],.cons ⟨_,rfl⟩ (.cons ru .nil),⟨_,O,rfl,_,rfl⟩,_,O,rfl⟩
    .rw[a6 y]at q;have ne1:∀c,H c≠af->c≠e/\c≠j:=λc D=>⟨λz=>D (by rw[z];trivial),λz=>D (by rw[z];trivial)⟩
     refine(I.hok b v q).stay (λc o D r=>?_) (λc r=>by rw[a6 (J c _ r)];exact r) λc ys r=>by rw[a6 (J c _ r)];exact r
     have:=ne1 c (by rcases D with z|z <;> (first | (rw[<-z,q];simp) | (rw[z,q];simp) | (rw[z];simp)));exact A c o this.1 this.2 r
   .simp only[bZ,jl,or_false]at y;rcases y with rfl|rfl
    .exact⟨f3,f1,f4,f5⟩
    .exact⟨g3,g1,g4,g5⟩
  refine⟨.ref s.heap.objs.size,_,I2,rfl,⟨s.heap.objs.size,x,fr,rfl,rfl,λys hy=>by rw[I.tuple_inj hy W];trivial⟩,⟨⟨M,(show((i+1:Nat):Int)=(i:Int)+1 by rfl) ▸ ut⟩,let ⟨o,ho,r⟩:=aD;⟨o,(sb.2 j cz.symm).trans ho,r⟩⟩,λb y=>?_⟩;simp only[bZ,jl,or_false]at y;rcases y with rfl|rfl
  .rw[a6 (c0 Q)];trivial
  .obtain⟨oi,L,_⟩:=f;rw[a6 (dq (bG L))];trivial
 done:=by
  intro X S hw hK D i ag s σ H E I Y f hg;subst S hw hK;obtain⟨⟨l,C⟩,f⟩:=f;obtain⟨xs,W,hx⟩:=hg;obtain⟨m,rv,p,hz⟩:=I.tuple W;obtain⟨g0,g1,g2,g3,g4,g5⟩:=Y j (by simp);have hl:=rv.length;have G:a≠j:=λz=>by obtain⟨o1,L,c1,_⟩:=p;obtain⟨o2,e2,c2,_⟩:=f;lia
  have hi:i=m.toArray.size:=by simp;lia
  rw[hi]at f;exact wpAny_pyNext_enum_endD (Draws.tuple (by show X.A.in1.handled=af;exact I.ok.hd D) j a G m.toArray) C ⟨f,p⟩ λh' eb=>⟨rfl,I.turned (t':=s.toks) (λb o y e=>eb b o y e) g0 g1 g3 g4 g5⟩
 self:=λ_ _ _ _ _ f h=>wpAny_pyIter_enum f.1.choose_spec h
section
variable{X:Cx}{d:List aC}{k:Nat}{c:Pos}
def UJ(K:ax)(h:TA):TI:=λf H R=>h f H λg b=>∃a xs,g=[.ref a]/\cn K b a xs/\(xs.length<=bq->R (yD K a) b)
theorem Nc{p i:Pos}(L:Gl X "enumerate")(J:X.mg "enumerate"=af)(M:PA X [e] m)(F:(aX [e] X.env=[(ak,a8 e X.env)])^0):PI X (.Tuple d k c) (.Call (.Name "enumerate" p) [e] [] i) (UJ X.K m):=by
 intro v s l H R I h;refine Call_ (vV I L J (show fu "enumerate"=aa (.type "enumerate") by decide +kernel) (Jz (aT (M i v s l H _ I h) λP f ⟨O,w,g,z,A⟩=>?_) F rfl));obtain⟨a,xs,e,G,q⟩:=A;subst e;obtain⟨u,rfl,y⟩:=vals1 z;cases y;obtain⟨j,Q,B,D⟩:=g.tuple G;refine OB (show f.heap.IsTuple a j.toArray from B) λr n x E C=>?_;refine wpAny_pyIter_enum (s:={f with heap:=r}) n ?_;have N:Inv X v l w {f with heap:=r}:=g.kept (t':=f.toks) C;refine⟨f.heap.objs.size+1,[f.heap.objs.size+1,f.heap.objs.size],_,_,w,rfl,N,OW a _ _ (Nat.succ_ne_self _),⟨⟨_,n⟩,x⟩,λb o=>?_,q D⟩;simp only[bZ,jl,or_false]at o;rcases o with rfl|rfl
 .exact g.fpOk (wt _) (g.hok.fresh (wt _))
 .exact g.fpOk (bn _) (g.hok.fresh (bn _))
end
end L2
namespace Pu
open L2
section
variable{X:Cx}
theorem Qv{K:ax}:IB (yD K a) (jT (λi=>V.int i) 0 b) (λH=>cn K H a b):=λH h i=>
 ⟨λx d=>by
  rw[IR,mF]at d;obtain⟨z,c,rfl⟩:=d;refine⟨⟨b,z,h,c⟩,λv n ⟨p,w,m,l,j,g⟩=>?_⟩;have:=g b h;rw[c]at this;cases this;subst l j;rw[mO];exact⟨p,rfl,upd_same,.inr ⟨m,rfl⟩⟩,λf=>⟨b,h,by rw[f,Bh]⟩⟩
def vj(a:ad (List PV)):ad (List (PV×PV)):=λε=>(a ε).bind λx ε1=>match x with
 |[.tup xs]=>.ok (vJ xs) ε1
 |_=>.no
theorem R8(y:X.mg "enumerate"=af)(b:DA X E [a] l)(z:Gl X "enumerate"^0)(x:(aX [a] X.env=[(ak,a8 a X.env)])^0):BF X E (.Tuple B k o) (.Call (.Name "enumerate" p) [a] [] d) (vj l):=λF S n f H G r h=>Bx.mk λC s I=>by
 refine Nc z y i_ x C s f H G I (b F S n f H _ r ((Ok.bind h).imp λxs m L D J g O j M w=>?_));split at j
 .rename_i xs;obtain⟨v,rfl,q⟩:=gB w;obtain⟨a,c,rfl,b,u⟩:=q;refine⟨a,c,rfl,cn.of b,λN=>j L D J g (Grow.refl ..) (yD X.K a) (jT (λi=>V.int i) 0 c) (λH=>cn X.K H a c) ⟨Hj 0 u,by rw[Ba];unfold vJ;rw[Ba];trivial⟩ (by rw[Bh];trivial) Qv λP T Q A=>cn.of (A.imm g.fit b id)⟩
 trivial
end
abbrev eX:=List aK
noncomputable def rL(a:List (eX×PV))(k:eX)(v:PV):List (eX×PV):=if(a.any λb=>decide (b.1=k))=ah then a.map (λb=>if b.1=k then(b.1,v)else b)else a++[(k,v)]
def r8:List PV->Option eX
 |[]=>aa []
 |x::xs=>(jx x).bind λk=>(r8 xs).map (k::·)
def qz:PV->Option eX
 |.tup xs=>r8 xs
 |_=>af
section
variable{K:ax}{F:ae->Prop}{S:Nat->ae->Prop}{ε:aj}{f:St}{H:Hp}{i:Nat}{c:List (eX×PV)}{d:List (eX×V)}{a:ae}
theorem GI:∀{xs:List PV}{b:List V}{k:eX},aZ K H F xs b->r8 xs=aa k->b=k.map kV
 |[],b,k,r,e=>by cases r;cases e;rfl
 |x::xs,b,k,⟨v,r,j,h,g⟩,e=>by simp only[r8,ue,mF]at e;obtain⟨n,m,ks,l,rfl⟩:=e;rw[j,sZ h m,GI g l];rfl
theorem ER(r:aN K H F x v)(e:qz x=aa k):∃b,v=.ref b/\H b=aa (.tup (k.map kV)):=by
 cases x <;> simp[qz]at e;obtain⟨b,j,rfl,h,g⟩:=r;exact⟨b,rfl,by rw[h,GI g e]⟩
theorem jD.len(h:jD K H F c d):d.length=c.length:=by
 unfold jD at h
 induction h with
 |nil=>rfl
 |cons _ _ b=>simp[b]
theorem jD.any(h:jD K H F c d)(k:eX):(c.any λb=>decide (b.1=k))=d.any λb=>decide (b.1=k):=by
 unfold jD at h
 induction h with
 |nil=>rfl
 |cons r _ g=>rw[o_,o_,g,r.1]
theorem jD.put(h:jD K H F c d)(k:eX)(r:aN K H F x v):jD K H F (rL c k x) (fV d k v):=by
 unfold rL fV;rw[h.any k];split
 .rename_i b;clear b;unfold jD at h ⊢
  induction h with
  |nil=>exact .nil
  |@cons p q ps qs r1 _ ih=>
   refine .cons ?_ ih;dsimp only;by_cases e:p.1=k
   .rw[if_pos e,if_pos (by rw[<-r1.1];exact e)];exact⟨r1.1,r⟩
   .rw[if_neg e,if_neg (by rw[<-r1.1];exact e)];exact r1
 .exact zF h ⟨rfl,r⟩
theorem aL.dtAt(r:aL K F S ε f H)(e:ε[i]?=aa (.own (.dT c))):∃a d,f[i]?=aa (aa (.ref a))/\H a=aa (.dT d)/\jD K H F c d/\S i a/\∀b,S i b->b=a:=by obtain⟨a,n,⟨j,m,l⟩,g⟩:=r.own i _ e;exact⟨a,j,n,m,l,(g a).mpr rfl,λb h=>(g b).mp h⟩
end
noncomputable def kg(ε:aj)(i:Nat):Option (List (eX×PV)):=match ε[i]? with
 |some (.own (.dT a))=>aa a
 |_=>af
theorem vi(h:kg b i=aa a):b[i]?=aa (.own (.dT a)):=by
 unfold kg at h;split at h
 .cases h;trivial
 trivial
section
variable{X:Cx}{E:XK}{g:List Nat}{e b c:aC}{de f l:ad PV}{d:Pos}
def ye(i:Nat)(f de:ad PV):ad aM:=λm=>(de m).bind λy h=>(aR (kg h i) h).bind λ_ h=>(f h).bind λk a=>(aR (kg a i) a).bind λj a=>(aR (qz k) a).bind λk a=>if j.length<bB then .ok .next (a.set i (.own (.dT (rL j k y))))else .no
theorem U2(i:Nat)(hu:X.A.units+64<cLine)(hb:DE X E b f)(he:DE X E e de)(hN:(X.N[i]?=aa y)^0)(eK:d8 X.env.scope y^2)(hd:av y^1) (bt:a4 y^1) (hs:(jg e (aa (.Subscript (.Name y I) b j)) d.line X.env=pure ak)^0):DS X E g (.Assign [.Subscript (.Name y I) b j] e d) (ye i f de):=λF S N r H D Y h=>by
 refine fQ (Fw ∅ (eY hN eK hd bt) bJ bJ hs) (he F S N r H _ Y (h.bindE.imp λy n F1 S1 H1 w g1 q v Q=>?_));cases G:kg n i with
 |none=>rw[G]at q;trivial
 |some L=>
  rw[G]at q;simp only[bT,R.bind_ok]at q;obtain⟨a,O,B,ha0,_⟩:=w.dtAt (vi G);refine⟨.ref a,B,hb F1 S1 n r H1 _ w (q.bindE.imp λk s F2 S2 H2 J g2 m u T=>?_)⟩;cases p:kg s i with
  |none=>rw[p]at m;trivial
  |some z=>
   rw[p]at m;simp only[bT,R.bind_ok]at m;obtain⟨a',P,o,ha,M,_⟩:=J.dtAt (vi p);rw[B]at o;cases o;cases C:qz k with
   |none=>rw[C]at m;trivial
   |some x=>
    rw[C]at m;simp only[bT,R.bind_ok]at m;split at m
    .rename_i hl;obtain⟨bb,rfl,W⟩:=ER T C;have eU:=M.put x (Q.grow g2 w.fit);obtain⟨Z,g3⟩:=J.updO (po':=.dT (rL z x y)) (o':=.dT (fV P x v)) (vi p) rfl B trivial λH' m1 m2 A Sa mZ=>⟨⟨_,A,eU.mono m1⟩,mZ⟩
     exact⟨a,_,rfl,zw.t ha W (by rw[M.len];exact gK hl kP),m F2 S2 r _ Z g3 (ip.refl _ _)⟩
    trivial
def Cn:ad PO:=λa=>.ok (.dT []) a
theorem NV:DN X E (.Dict [] [] d) Cn:=λF S n m H Q a h=>bY Ub λp i=>by
 have al:Al F F H (upd H p (.dT [])):=Al.new0 i;refine h F S _ (a.al al) al.grow p (λb=>b=p) ⟨⟨[],upd_same,.nil⟩,λb=>kE⟩ λb z=>?_;subst z;refine⟨i,λz=>?_,λ⟨j,z⟩=>?_,_,upd_same,trivial⟩
 .obtain⟨o,q⟩:=a.ex b z;lia
 .obtain⟨_,_,o,q,_⟩:=a.foot j b z;rw[i]at q;cases q
end
end Pu
namespace L2
noncomputable def lm(h:aB)(d:ae)(a:Array tU)(b:Nat):Prop:=∃o,h.get? d=aa o/\o.ExactDict/\o.data=.dict a b
section
variable{A:aV}{s:ao}{es:Array tU}
theorem lm.ty(r:lm s.heap d es ep):s.TypeIs (.ref d) "dict":=let ⟨o,ho,hc,_⟩:=r;⟨o,ho,hc.1⟩
theorem lm.at{h':aB}(r:lm h d es ep)(k:∀o,h.get? d=aa o->h'.get? d=aa o):lm h' d es ep:=let ⟨o,ho,z⟩:=r;⟨o,k o ho,z⟩
theorem lm.lt(r:lm h d es ep):d<h.objs.size:=let ⟨o,ho,_⟩:=r;bG ho
theorem Gq(f:(d == jE)=ak)(r:lm s.heap d es ep)(q:Q (.ref s.heap.objs.size) {s with heap:=s.heap.push {cls:=.type "dict_keyiterator",data:=.fields #[.ref d,.int 0 0,.int es.size 0,.int ep 0]}}):ar (aw P w) A (nN (.ref d)) Q E s:=by have a:=r.ty;obtain⟨o,c,g,b⟩:=id r;refine J4 a F.slot_dict_iter (k8 F.slot_dict_iter a F.entry_dict_iter ?_ (F.args_dict_iter_1 _));unfold Builtin.«dict.__iter__» Builtin.Dict.dictSlotNone;refine aq (aq (wpAny_notOrdered_dict a ?_));refine aE (show ar _ _ (Builtin.Dict.showsAll d >>= _) _ _ s from ?_);unfold Builtin.Dict.showsAll;rw[if_neg ⋯];refine aq (aE (aq (Km c b (aq (wpAny_dictEpoch c b ?_)))));refine aq (j8 (aE ⟨_,rfl,"dict_keyiterator",_,⟨_,cP _ rfl,rfl⟩,F.slot_dict_keyiterator_next.lookup,?_⟩));trivial
theorem EI(a:s.heap.IsKeyIter it d i es.size ep)(r:lm s.heap d es ep)(m:i<es.size)(q:∀g,g.IsKeyIter it d (i+1) es.size ep->j4 it s.heap g->Q (aa es[i].key) {s with heap:=g}):ar (aw P w) A (mC (.ref it)) Q E s:=by
 obtain⟨n,c,f,b⟩:=id a;obtain⟨o,j,p,h⟩:=id r;unfold mC;refine aq (Du (wo (name:=tN "__next__") a.typeIs D8 (k8 D8 a.typeIs Vl ?_ (Vm _))));refine aq (aE (aq (aq ?_)))
 first|refine aq (D9 a.typeIs (aE ?_))|refine aq (D_ a.typeIs (aE ?_))
 refine aq (wpAny_fieldsOf c b ?_);simp only[show Builtin.Dict_items.ownsTuple "dict_keyiterator"=ak by rfl,fg,if_false];show ar _ _ (if(Value.ref d == Value.none)=ah then _ else _) _ _ s;rw[if_neg (show ¬((Value.ref d == Value.none)=ah)from jh)];refine aq (aE (aq (Km j h ?_)));rw[if_neg (by simp)];refine aq (aE (aq (wpAny_dictEpoch j h ?_)));rw[if_neg (by simp)];refine aE ?_;simp only[show ¬((i:Int)<0)from by simp,if_false,mI,k_ m];refine aq ?_
 first|refine aq (D9 a.typeIs (aE ?_))|refine aq (D_ a.typeIs (aE ?_))
 refine aq (wpAny_isOneOf_keyiter a.typeIs ?_);refine show ar _ _ (lU (.ref it) 1 (dH ((i:Int)+1)) >>= _) _ _ s from aq (mL c b (by simp) ?_)
 have l:(s.heap.update it (mM (·.setIfInBounds 1 (dH ((i:Int)+1))))).IsKeyIter it d (i+1) es.size ep :=⟨_,mE _ c (wE (nZ b _)),(J9 ..).trans f,by rw[nZ b];rfl⟩
 refine aq (iI (aq (wpAny_isOneOf_keyiter (s:={s with heap:=s.heap.update it (mM (·.setIfInBounds 1 (dH ((i:Int)+1))))}) l.typeIs ?_)));exact show ar _ _ (pure es[i].key) _ _ _ from aE (aE ⟨_,rfl,aE (q _ l (mK ..))⟩)
theorem IM(o:A.handled=af)(c:s.heap.IsKeyIter it d i es.size ep)(r:lm s.heap d es ep)(n:es.size<=i)(q:∀l,Heap.ExtBut it s.heap l->Q af {s with heap:=l}):ar (aw P w) A (mC (.ref it)) Q E s:=by
 obtain⟨u,j,p,h⟩:=id c;obtain⟨v,g,x,f⟩:=id r;unfold mC;refine aq (Du (wo (name:=tN "__next__") c.typeIs D8 (k8 D8 c.typeIs Vl ?_ (Vm _))));refine aq (aE (aq (aq ?_)))
 first|refine aq (D9 c.typeIs (aE ?_))|refine aq (D_ c.typeIs (aE ?_))
 refine aq (wpAny_fieldsOf j h ?_);simp only[show Builtin.Dict_items.ownsTuple "dict_keyiterator"=ak by rfl,fg,if_false];show ar _ _ (if(Value.ref d == Value.none)=ah then _ else _) _ _ s;rw[if_neg (show ¬((Value.ref d == Value.none)=ah)from jh)];refine aq (aE (aq (Km g f ?_)));rw[if_neg (by simp)];refine aq (aE (aq (wpAny_dictEpoch g f ?_)));rw[if_neg (by simp)];refine aE ?_;simp only[show ¬((i:Int)<0)from by simp,if_false,mI,Array.getElem?_eq_none n];refine aq ?_
 first|refine aq (D9 c.typeIs (aE ?_))|refine aq (D_ c.typeIs (aE ?_))
 refine show ar _ _ (lU (.ref it) 0 .none >>= _) _ _ s from aq (mL j h (by simp) ?_)
 refine show ar _ _ (qT (.type "StopIteration") [] >>= _) _ _ _ from aq ?_
 simp only[qT,newTuple];refine aq (j8 ?_ (by size_fits));refine aq (m:=zQ _ _) (nU (a:=Value.none) (by first|rfl | (simp only[zQ];rfl)) ?_);refine j8 ?_ (by size_fits);simp only[wz];refine aq (wpAny_handled ?_);rw[show A.in1.handled=af from o];refine aq (aE (wpAny_throw ?_));refine aq (Dv (T:="StopIteration") (b:=ah) ⟨_,cP _ rfl,rfl⟩ isSubtype_stop ?_);exact aE (q _ (((mK ..).extBut.push _).push _))
theorem Og(p:A.handled=af)(I d:ae)(q:d≠I)(es:Array tU)(ep:Nat):Walks P w A I [I,d] [I] es.size (λi v=>∃e,es[i]?=aa e/\v=e.key) (λi h=>h.IsKeyIter I d i es.size ep/\lm h d es ep) where
 sub:=λb f=>⋯
 frame:=λ_ _ _ a l=>⟨a.1.at λo e=>l I (by simp) o e,a.2.at λo e=>l d (by simp) o e⟩
 item:=λi s Q E n a c=>EI a.1 a.2 n λg r j=>c _ g s.toks ⟨es[i],by simp,rfl⟩ ⟨r,a.2.at λo e=>by rw[j.2 d q];exact e⟩ λb o f e=>j.extBut b o (λh=>f (by simp[h])) e
 done:=λs Q E a c=>IM p a.1 a.2 (bn _) λg m=>c g s.toks λb o f e=>m b o (λh=>f (by simp[h])) e
 self:=λ_ _ _ _ a c=>wpAny_pyIter_keyiter a.1 c
theorem Rt(c:(d == jE)=ak):PySem.W.KdlSrc P w "dict" d d es.size (λi v=>∃e,es[i]?=aa e/\v=e.key) (λh=>lm h d es ep) where
 type:=λ_ a=>a.ty
 there:=λ_ a=>⟨a.lt,a.lt⟩
 keep:=λ_ _ a f=>a.at λo e=>f d (.inl rfl) o e
 notList:=by rfl
 notTuple:=by rfl
 hint:=λ_ _ _ _ a b=>PySem.W.kdl_hint_dict a.ty b
 iter:=λ_ _ g a=>⟨_,_,(λ_ _ b=>Gq c a b),Og g _ d (dq a.lt) es ep,⟨⟨_,cP _ rfl,rfl,rfl⟩,a.at λo e=>bL _ e⟩⟩
end
section
variable{a:ae}
theorem Ht{h:aB}(z:h.get? a=aa o)(k:cc P w H h a (.dT c)):(a == jE)=ak/\∃j,lm h a j (rO o)/\j.size=c.length/\(c.map (·.1)).Nodup /\
  ∀(i:Nat) (e:tU),j[i]?=aa e->∃p b,c[i]?=aa p/\e.key=.ref b/\H b=aa (.tup (p.1.map kV)):=by
 obtain⟨u,D,xs,g,M,j,J,C,v,G,y,F⟩:=k;rw[z]at C;cases C;have L:rO o=J:=by unfold rO;rw[G]
 have A:=qE g;refine⟨D,j,⟨o,z,v,by rw[L];trivial⟩,by rw[<-iH,y,cG];exact A.symm,?_,λi e B=>?_⟩
 .have:c.map (·.1)=xs.map (·.1):=by
   clear y F A u
   induction g with
   |nil=>rfl
   |cons r _ n=>simp[n,r.1]
  rw[this];trivial
 .rw[<-qU,y,dY]at B;obtain⟨x,v,rfl⟩:=mF.mp B;have:∀{l:List (List aK×V)}{m:List (List aK×ae×ai)} (i:Nat) (x:List aK×ae×ai),eT (λ(p:List aK×V) (q:List aK×ae×ai)=>p.1=q.1/\H q.2.1=aa (.tup (p.1.map kV))/\RelV p.2 q.2.2) l m->m[i]?=aa x->∃p,l[i]?=aa p/\H x.2.1=aa (.tup (p.1.map kV)):=by
   intro l m i x r
   induction r generalizing i with
   |nil=>intro e;simp at e
   |cons r _ n=>
    intro e;cases i with
    |zero=>simp at e;subst e;exact⟨_,rfl,r.2.1⟩
    |succ i=>exact n i (by trivial)
  obtain⟨p,E,I⟩:=this i x g v;exact⟨p,x.2.1,E,rfl,I⟩
theorem Inv.freezeT(I:Inv X f d H s)(e:H a=aa (.dT c)):∃o,s.heap.get? a=aa o/\Inv X f d (upd H a (.frz o (.dT c))) s:=by
 have k:cc X.prog X.w H s.heap a (.dT c):=I.hok a _ e;obtain⟨z,h,xs,b,o,es,ep,g,r⟩:=id k;refine⟨o,g,I.recast e (λ_ q=>by cases q) (λo u q=>?_) (λ_ q=>by cases q) (λ_ q=>by cases q) ⟨g,z,h,xs,Paired.mapP b λp q z=>⟨z.1,?_,z.2.2⟩,o,es,ep,g,r⟩⟩
 .have:=I.base.frzs a o u q;rw[e]at this;cases this
 .rw[a6 (xI z.2.1 e (λz=>nomatch z))];exact z.2.1
theorem Inv.thawT(I:Inv X f d H s)(e:H a=aa (.frz o (.dT c)))(h:∀o u,X.H₀ a≠aa (.frz o u)):Inv X f d (upd H a (.dT c)) s:=by
 obtain⟨i,z,g,xs,b,r⟩:=(show cc X.prog X.w H s.heap a (.frz o (.dT c))from I.hok a _ e)
 refine I.recast e (λ_ q=>by cases q) h (λ_ q=>by cases q) (λ_ q=>by cases q) ⟨z,g,xs,Paired.mapP b λp q z=>⟨z.1,?_,z.2.2⟩,r⟩;rw[a6 (xI z.2.1 e (λz=>nomatch z))];exact z.2.1
end
noncomputable def gI(o:Obj):List ae:=match o.data with
 |.dict es _=>es.toList.map λe=>match e.key with
  |.ref b=>b
  |_=>0
 |_=>[]
def sO(a:ae)(o:Obj)(c:List (List aK×V)):It :=⟨λi H=>H a=aa (.frz o (.dT c))/\i<c.length,λi H x d=>d=H/\∃b,(gI o)[i]?=aa b/\x=.ref b,λi H=>H a=aa (.frz o (.dT c))/\c.length<=i⟩
def Am(H:Hp)(a:List (List aK×V))(bs:List ae):Prop:=bs.length=a.length/\∀(i:Nat) (b:ae),bs[i]?=aa b->∃p,a[i]?=aa p/\H b=aa (.tup (p.1.map kV))
theorem A0{h:aB}(n:h.get? a=aa o)(k:cc P w H h a (.dT d)):(a == jE)=ak/\∃es,lm h a es (rO o)/\es.size=d.length/\(d.map (·.1)).Nodup/\Am H d (gI o)/\∀(i:Nat) (e:tU),es[i]?=aa e->∃b,(gI o)[i]?=aa b/\e.key=.ref b:=by
 obtain⟨A,es,rd,z,y,m⟩:=Ht n k;have g:gI o=es.toList.map λe=>match e.key with
  |.ref b=>b
  |_=>0:=by
  obtain⟨C,x,_,B⟩:=rd;rw[n]at x;cases x;unfold gI;rw[B]
 have l:∀(i:Nat) (e:tU),es[i]?=aa e->∃b,(gI o)[i]?=aa b/\e.key=.ref b:=λi e j=>by obtain⟨p,b,v,f,u⟩:=m i e j;refine⟨b,?_,f⟩;rw[g,dY,qU,j,wA,f]
 refine⟨A,es,rd,z,y,⟨by rw[g,cG,iH];trivial,λi b q=>?_⟩,l⟩;have j:i<es.size:=by have:=(cJ.mp q).1;rw[g,cG,iH]at this;trivial
 obtain⟨p,c,v,f,u⟩:=m i es[i] (by simp);obtain⟨D,s,r⟩:=l i es[i] (by simp);rw[q]at s;cases s;rw[f]at r;cases r;exact⟨p,v,u⟩
theorem Up{K:ax}{M:aC}(a l:ae)(o:Obj)(g:List (List aK×V)):pX P w K M (sO a o g) [l] l (λi h=>h.IsKeyIter l a i g.length (rO o)) where
 mem:=by simp
 obj:=λi h f b j=>by
  have e:b=l:= ~~~j
  subst e;obtain⟨o,e,c,d⟩:=f;simp_all
 keep:=λi h p f k=>f.at λo e=>k l (by simp) o e
 item:=by
  intro X y q z J i L s G H E I n f x;subst y q z;obtain⟨r,Q⟩:=x;obtain⟨u,v⟩:=(show cc X.prog X.w H s.heap a (.frz o (.dT g))from I.hok a _ r)
  obtain⟨O,D,rd,m,_,_,N⟩:=A0 u v;obtain⟨b,j,Y⟩:=N i D[i] (by simp);obtain⟨C,B,f2,f3,f4,A⟩:=n l (by simp);rw[<-m]at f;refine EI f rd ⋯ λp F sb=>?_;have T:Inv X L G H {s with heap:=p}:=I.turned (t':=s.toks) (λb o j e=>(sb.2 b j).trans e) C B f3 f4 A;rw[m]at F;obtain⟨W,e,c,d⟩:=id F;exact⟨D[i].key,rfl,uK (s:={s with heap:=p}) e c d (by rfl) ⟨.ref b,H,T,by trivial,⟨rfl,b,j,rfl⟩,F,λb j=>(n b j).1⟩⟩
 done:=by
  intro X y q z J i L s G H E I n f x;subst y q z;obtain⟨r,Q⟩:=x;obtain⟨u,v⟩:=(show cc X.prog X.w H s.heap a (.frz o (.dT g))from I.hok a _ r)
  obtain⟨O,D,rd,m,_⟩:=Ht u v;obtain⟨C,B,f2,f3,f4,A⟩:=n l (by simp);rw[<-m]at f;exact IM (I.ok.hd J) f rd ⋯ λp S=>⟨rfl,I.turned (t':=s.toks) (λb o j e=>S b o j e) C B f3 f4 A⟩
 self:=λ_ _ _ _ _ f h=>wpAny_pyIter_keyiter f h
section
variable{X:Cx}{c:aC}
def LC(g:TE):TI:=λf H R=>g f H λx d=>∃a b,x=.ref a/\d a=aa (.dT b)/\∀o,(b.map (·.1)).Nodup->b.length<=bq->Am d b (gI o)->R (sO a o b) (upd d a (.frz o (.dT b)))
theorem Ot(C:PE X d m):PI X c d (LC m):=by
 intro E s p H R I h;refine aT (C E s p H _ I h) λv g ⟨x,n,l,r,u⟩=>?_;obtain⟨a,f,e,i,q⟩:=u;subst e;cases r;obtain⟨o,B,j⟩:=l.freezeT i;obtain⟨A,F,rd,z,w,y,_⟩:=A0 (o:=o) B (show cc X.prog X.w n g.heap a (.dT f)from l.hok a _ i);refine Gq A rd ?_;rw[z];refine⟨g.heap.objs.size,[g.heap.objs.size],_,_,_,rfl,j.kept (t':=g.toks) λb o e=>bL _ e,Up a _ o f,⟨_,cP _ rfl,rfl,rfl⟩,λb D=>?_,q o w (show cc X.prog X.w n g.heap a (.dT f)from l.hok a _ i).1 y⟩;have e:b=g.heap.objs.size:= ~~~D
 subst e;exact j.fpOk (bn _) (j.hok.fresh (bn _))
theorem Lf{d:List (List aK×V)}(l:(gI o).length=d.length):Walk (sO a o d) ((gI o).map .ref) (λH=>H a=aa (.frz o (.dT d))):=λH h i=>⟨λx f=>by rw[dY]at f;obtain⟨b,j,rfl⟩:=mF.mp f;have g:=(cJ.mp j).1;exact⟨⟨h,⋯⟩,λy n z=>⟨z.1,by obtain⟨m,e,rfl⟩:=z.2;lia⟩⟩,λg=>⟨h,⋯⟩⟩
def uX(a:ae)(b:List (List aK×V))(D:jW):St->Hp->Prop:=λd f=>∃o,f a=aa (.frz o (.dT b))/\D.nx d (upd f a (.dT b))
def Mr(j:Nat)(g:TG)(q:TS):TS:=λD l H=>∃a b,l[j]?=aa (aa (.ref a))/\H a=aa (.dT b)/\∀o,(b.map (·.1)).Nodup->b.length<=bq->Am H b (gI o) ->
 ∃W:Nat->Nat->St->Hp->Prop,(∃m,W 0 m l (upd H a (.frz o (.dT b))))/\∀i m d f,W i m d f ->
 ((sO a o b).stop i f/\uX a b D d f)\/((sO a o b).go i f/\∃N:St->Hp->Prop,(∀d f,N d f->∃n,n<m/\W (i+1) n d f)/\∀x p,(sO a o b).yld i f x p->g x d p λh r=>q ⟨N,λ_ _=>False,uX a b D,N⟩ h r)
theorem SS(j:Nat)(w:we X.zz X.A X.env X.xe)(E:X.calm=ah)(G:X.N[j]?=aa y)(r:d8 X.env.scope y)(C:av y)(N:a4 y)(B:PG X c g)(F:kZ X b n)(v:(∀x,lL (.Name y m) X.env x=pure x)^4):PS X (.For c (.Name y m) b [] l) (Mr j g n):=by
 intro O s p H D I h;obtain⟨a,d,J,L,h⟩:=h;have A:∀o u,X.H₀ a≠aa (.frz o u):=λo u z=>by have:=I.base.frzs a o u z;lia
 refine aT (GW w E (Ot (eY G r C N)) B F v O s p H ⟨uX a d D,λ_ _=>False,λ_ _=>False,λ_ _=>False⟩ I ⟨.ref a,J,a,d,rfl,L,λo S T W=>?_⟩) λf Q q=>?_
 .simp_all
 .cases f with
  |next=>obtain⟨i,Y,P,o,M,q⟩:=q;exact⟨i,_,P.thawT M A,q⟩
  |brk=>obtain⟨_,_,_,q⟩:=q;trivial
  |cont=>obtain⟨_,_,_,q⟩:=q;trivial
  |ret u=>obtain⟨_,_,_,_,_,q⟩:=q;trivial
end
section
variable{X:Cx}
def Qm(f d:TE):TE:=λc H Q=>∀p,H p=af->yr [(f,d)] c (upd H p (.dT [])) λg a=>∃x y,g=[(x,y)]/\a p=aa (.dT [])/\∃b k,x=.ref b/\a b=aa (.tup (k.map kV))/\Q (.ref p) (upd a p (.dT [(k,y)]))
theorem Mj(hu:X.A.units+1<cLine)(L:PE X k j)(F:PE X v i):PE X (.Dict [aa k] [v] f) (Qm j i):=by
 intro Z s p H Q I q;have J:=I.hok.fresh (bn s.heap.objs.size);have I1:=I.laid (a:=s.heap.objs.size) (o:=.dT []) (h':=s.heap.push {cls:=.type "dict",data:=.dict #[]}) (t':=s.toks) (λ_ _ q=>bL _ q) (bn _) (G3 s.heap I.big);refine wpAny_Dict_any rfl rfl (by simp) (by simp) (aT ((G5 L F IC) Z _ p _ (λl c=>∃x y,l=[(x,y)]/\c s.heap.objs.size=aa (.dT [])/\∃b k,x=.ref b/\c b=aa (.tup (k.map kV))/\Q (.ref s.heap.objs.size) (upd c s.heap.objs.size (.dT [(k,y)]))) I1 ?_) ?_)
 .exact q _ J
 .rintro ws s2 ⟨l,c,h,d,x,y,rfl,e,b,k,rfl,n,C⟩;cases d with
  |cons B r=>
   cases r;rename_i E;obtain⟨D,p2⟩:=E;obtain⟨A,w⟩:=B;cases (show D=Value.ref b from A);unfold storeAll;rw[List.forIn_cons];obtain⟨z,M,xs,u,Y⟩:=E6 h.hok e;cases u;refine aq (aq (wpAny_dictSet_heap (hsz:=by simp) (show(tJ (gU X.prog X.w)).room X.A from ?_) (sR h.hok n) Y λh' g G=>aE ?_))
   .show X.A.units<cLine;ac_rfl
   .dsimp only;rw[List.forIn_nil];refine aE ⟨.ref s.heap.objs.size,_,?_,rfl,C⟩;obtain⟨q,T,W,m,S,P,O,_,N⟩:=g;refine xL h (by rw[e];trivial) G ⟨q,m⟩ ⟨by size_fits,M,_,.cons ⟨rfl,?_,w⟩ .nil,q,T,W,m,S,P,O,N⟩;rw[a6 (xI n e (λz=>nomatch z))];trivial
end
open Mx
section
variable{P:aP}{w:aI}{A:aV}{E:ai->ao->Prop}{s:ao}
noncomputable def FtIs(h:aB)(c:List Str)(v:ai):Prop:=c≠[]/\∃(a:ae) (b:Array ai),v=.ref a/\IsTup h a b/\cL b.toList c
theorem FtIs.inj(x:FtIs h k v)(y:FtIs h b v):k=b:=by
 obtain⟨_,a,d,rfl,g,f⟩:=x;obtain⟨_,l,c,e,i,j⟩:=y;cases e;obtain rfl:=tup_uniq g i;exact strs_uniq f j
theorem FtIs.keep{c:aB}(x:FtIs h k v)(g:∀b o,h.get? b=aa o->c.get? b=aa o):FtIs c k v:=by obtain⟨n,a,its,rfl,f,d⟩:=x;exact⟨n,a,its,rfl,tup_kept f λb o e _=>g b o e,d⟩
def ftKey(h:aB):KeyKind where
 toKeyOrd:=ordL
 keyOf:=λv=>open Classical in if z:∃a,FtIs h a v then aa (cpsL z.choose)else af
 dflt:=([]:List Tx)
theorem ftKey_of(x:FtIs h a v):(ftKey h).keyOf v=aa (cpsL a):=by
 have z:∃a,FtIs h a v:=⟨a,x⟩
 show(open Classical in if z:∃a,FtIs h a v then aa (cpsL z.choose)else af)=_;rw[dif_pos z,z.choose_spec.inj x]
theorem ftKey_some(x:(ftKey h).keyOf v=aa k):∃a,FtIs h a v/\cpsL a=k:=by
 by_cases z:∃a,FtIs h a v
 .obtain⟨a,z⟩:=z;rw[ftKey_of z]at x;exact⟨a,z,fe x⟩
 .have:(ftKey h).keyOf v=af:=dif_neg z;lia
theorem lex_strs{b:Bool}{Q:Bool->ao->Prop}{m g:List ai}{j f:List Str}(i:Nat){d:Bool}(q:cL m j)(o:cL g f)(l:d=decide (j.length<f.length))(h:Q (ltL (cpsL j) (cpsL f)) s):PySem.W.KatLex P w A b d Q (m.zip g) i s:=by
 induction q generalizing g f i d with
 |nil=>
  rw[List.zip_nil_left];refine PySem.W.kat_nil ?_;rw[l];refine cast (congrArg (λz=>Q z s) ?_) h;cases o with
  |nil=>exact(decide_eq_false (by simp[cpsL])).trans (decide_eq_false (by simp)).symm
  |cons c u n=>exact(decide_eq_true (by simp[cpsL])).trans (decide_eq_true (by simp)).symm
 |cons a t r p=>
  cases o with
  |nil=>rw[List.zip_nil_right];refine PySem.W.kat_nil ?_;rw[l];refine cast (congrArg (λz=>Q z s) ?_) h;exact(decide_eq_false (by simp[cpsL])).trans (decide_eq_false (by simp)).symm
  |cons c u n=>
   rw[DZ];refine Kk (JN a t c u _ _ _ _ ?_);have h:=ltL_cons .. ▸ h;by_cases e:a=c
   .subst e;rw[if_pos rfl]at h;rw[beq_self_eq_true];exact PySem.W.kat_yes (p (i+1) n (by rw[l];simp) h)
   .rw[if_neg (λz=>e (cps_inj z))]at h;rw[beq_false_of_ne e];refine PySem.W.kat_no ?_;cases (b&&i == 0)with
    |true=>exact oneLt_str h
    |false=>exact PySem.W.kat_one _ _ (PyProof.Rows.lt_str h)
theorem ftLt{h j:aB}(J:A.units+8<cLine)(k:∀b o,h.get? b=aa o->j.get? b=aa o):ij (ftKey h) (tuples' ah) P w A {s with heap:=j}:=λE x y a b Q B z r=>by obtain⟨G,q,rfl⟩:=ftKey_some B;obtain⟨L,p,rfl⟩:=ftKey_some z;obtain⟨_,N,n,rfl,C,i⟩:=q.keep k;obtain⟨_,M,g,rfl,F,c⟩:=p.keep k;obtain⟨o,u,_,m,v⟩:=C;obtain⟨H,D,_,I,l⟩:=F;refine PySem.W.kat_lt u v D l (lex_strs 0 i c ?_ r);have f:=strs_len i;have d:=strs_len c;rw[iH]at f d;rw[f,d]
theorem ft_kind{b:List ai}(c:∀v∈b,∃d,FtIs s.heap d v)(H:2<=b.length)(h:Q (tuples' ah) s):ar (aw P w) A (keyKind' b.toArray) Q E s:=by
 have g:∀(b:List ai),(∀v∈b,∃d,FtIs s.heap d v)->∃fs,Vj s.heap b fs/\fs.length=b.length/\∀f∈fs,∃z t,f=Value.str z t:=by
  intro b
  induction b with
  |nil=>intro _;exact⟨[],PySem.W.KatTups.nil,rfl,λf r=>by simp at r⟩
  |cons v b x=>
   intro c;obtain⟨fs,j,q,p⟩:=x λu y=>c u (gZ _ y);obtain⟨d,I,a,i,rfl,⟨o,B,F,m,D⟩,n⟩:=c v j3;cases d with
   |nil=>trivial
   |cons z G=>
    generalize C:i.toList=l at n;cases n with
    |cons _ t n=>
     refine⟨.str z t::fs,PySem.W.KatTups.cons B F D (by rw[<-qU,C];rfl) j,by simp[q],λf r=>?_⟩
     grind
 obtain⟨fs,j,q,p⟩:=g b c;refine PySem.W.kat_kind (T:=.type "str") j ∅ (λv c=>?_) (by rfl) ?_
 .obtain⟨z,t,rfl⟩:=p v c;exact .now
 trivial
end
end L2
namespace Pu
open L2
section
variable{K:ax}{F g:ae->Prop}{S:Nat->ae->Prop}{f:aj}{d:St}{H b:Hp}
mutual
theorem aN.mono2(m:∀a xs,Rd H a (.lst xs)->Rd b a (.lst xs))(l:∀a xs,H a=aa (.tup xs)->b a=aa (.tup xs))(j:∀a c,H a=aa (jy a c)->b a=aa (jy a c)):∀(x:PV) (v:V),aN K H F x v->aN K b F x v
 |.non,_,h=>h
 |.bl _,_,h=>h
 |.int _,_,h=>h
 |.str _,_,h=>h
 |.raw _,_,h=>h
 |.exc _,_,⟨a,e,h⟩=>⟨a,e,j a _ h⟩
 |.tup xs,_,⟨a,i,e,o,n⟩=>⟨a,i,e,l a _ o,aZ.mono2 m l j xs i n⟩
 |.lst xs,_,⟨a,i,e,o,p,n⟩=>⟨a,i,e,m a i o,p,aZ.mono2 m l j xs i n⟩
theorem aZ.mono2(m:∀a xs,Rd H a (.lst xs)->Rd b a (.lst xs))(l:∀a xs,H a=aa (.tup xs)->b a=aa (.tup xs))(j:∀a c,H a=aa (jy a c)->b a=aa (jy a c)):∀(xs:List PV) (i:List V),aZ K H F xs i->aZ K b F xs i
 |[],_,h=>h
 |x::xs,_,⟨v,r,e,o,n⟩=>⟨v,r,e,aN.mono2 m l j x v o,aZ.mono2 m l j xs r n⟩
end
def qd(p:HO):Prop:=(∃a,p=.dT a)\/∃o a,p=.frz o (.dT a)
theorem qd.lst(h:qd p)(xs:List V):p≠.lst xs/\(∀o,p≠.frz o (.lst xs))/\p≠.tup xs:=by
 rcases h with⟨ws,rfl⟩|⟨o,ws,rfl⟩
 all_goals simp
section
variable{a:ae}{p q:HO}
theorem y3(f:H a=aa p)(d:qd p):∀b xs,Rd H b (.lst xs)->Rd (upd H a q) b (.lst xs):=λb xs h=>by
 have c:b≠a:=by
  rintro rfl;rcases h with h|⟨o,h⟩ <;> rw[f]at h
  .exact(d.lst xs).1 (fe h)
  .exact(d.lst xs).2.1 o (fe h)
 rcases h with h|⟨o,h⟩
 .exact .inl (by rw[a6 c];exact h)
 .exact .inr ⟨o,by rw[a6 c];exact h⟩
theorem vP(c:H a=aa p)(d:qd p):∀b xs,H b=aa (.tup xs)->upd H a q b=aa (.tup xs):=λb xs h=>by rw[a6 (by rintro rfl;rw[c]at h;exact(d.lst xs).2.2 (fe h))];exact h
theorem xO(f:H a=aa p)(d:qd p):∀b c,H b=aa (jy b c)->upd H a q b=aa (jy b c):=λb c h=>by
 rw[a6 (by
  rintro rfl;rw[f]at h;cases h;rcases d with⟨ws,z⟩|⟨o,ws,z⟩ <;> cases z)];exact h
theorem aL.recast(r:aL K F S ε σ H)(f:H a=aa p)(d:qd p)(u:¬U S a):aL K F S ε σ (L2.upd H a q):=by
 have n:∀x v,aN K H F x v->aN K (L2.upd H a q) F x v:=aN.mono2 (y3 f d) (vP f d) (xO f d);have l:∀x v,aZ K H F x v->aZ K (L2.upd H a q) F x v:=aZ.mono2 (y3 f d) (vP f d) (xO f d);have s:∀i b,S i b->b≠a:=λi b z e=>u ⟨i,e ▸ z⟩;refine⟨r.len,λb z=>?_,λi pv e=>let ⟨v,j,g⟩:=r.val i pv e;⟨v,j,n _ _ g⟩,λi po e=>let ⟨b,j,g⟩:=r.own i po e;⟨b,j,g.mono n l λc o z w=>by rw[a6 (s i c z)];exact w⟩,λi b z=>?_,r.dist⟩
 .obtain⟨o,h⟩:=r.ex b z;by_cases m:b=a
  .subst m;exact⟨_,upd_same⟩
  .exact⟨o,by rw[a6 m];exact h⟩
 .obtain⟨j,g,o,A,y⟩:=r.foot i b z;exact⟨j,g,o,by rw[a6 (s i b z)];trivial,y⟩
end
theorem aL.putOwn(r:aL K F S ε σ H)(d:j<ε.length)(e:σ[j]?=aa (aa (.ref a)))(h:fo K H F po a Sa)(f:vX F S H Sa):aL K F (λk b=>(S k b/\k≠j)\/(k=j/\Sa b)) (ε.set j (.own po)) σ H:=by
 have:=r.setOwn d h f;have g:σ.set j (aa (.ref a))=σ:=by
  apply pf;intro k;by_cases c:j=k
  .subst c;rw[eB (by rw[<-r.len];trivial),e]
  .rw[cK c]
 rw[g]at this;trivial
end
def EV:aK->PV
 |.inl i=>.int i
 |.inr z=>.str z.cps.toList
def lH(k:eX):PV:=.tup (k.map EV)
def uB:aK->Bool
 |.inl _=>ah
 |.inr z=>decide (z.cps.toList.length<=bB)
def Ai(a:List (eX×PV)):Bool:=a.all λp=>p.1.all uB
section
variable{K:ax}{F:ae->Prop}{H:Hp}
theorem Ay:∀{k:eX},k.all uB=ah->aZ K H F (k.map EV) (k.map kV)
 |[],_=>rfl
 |.inl i::k,h=>⟨_,_,rfl,rfl,Ay ∅⟩
 |.inr z::k,h=>by rw[qO,g9]at h;exact⟨_,_,rfl,⟨by rfl,of_decide_eq_true h.1⟩,Ay h.2⟩
theorem SO{k:eX}(h:k.all uB=ah)(a:H b=aa (.tup (k.map kV))):aN K H F (lH k) (.ref b):=⟨b,_,rfl,a,Ay h⟩
theorem jD.keys(h:jD K H F a b):b.map (·.1)=a.map (·.1):=by
 unfold jD at h
 induction h with
 |nil=>rfl
 |cons r _ c=>simp_all
end
section
variable{X:Cx}{E:XK}{d:List Nat}{e b c:aC}{de db m:ad PV}{l:Pos}
def y8(db m:ad PV):ad PO:=λε=>(db ε).bind λk ε1=>(m ε1).bind λy a=>(aR (qz k) a).bind λf a=>.ok (.dT [(f,y)]) a
theorem Nv(hu:X.A.units+64<cLine)(hb:DE X E b db)(hc:DE X E c m):DN X E (.Dict [aa b] [c] l) (y8 db m):=λF S P J H Q s h=>by
 refine bY (Mj ∅ bJ bJ) λp B=>?_;have al:Al F F H (upd H p (.dT [])):=Al.new0 B;have nF:¬F p:=λz=>by obtain⟨o,q⟩:=s.ex p z;lia
 have nS:¬U S p:=λ⟨i,z⟩=>by obtain⟨_,_,o,q,_⟩:=s.foot i p z;lia
 have C:Grow (U S) (U S) F F H (upd H p (.dT [])):=al.grow;refine hb F S P J _ _ (s.al al) ((Ok.bindB h C).imp λk j F1 S1 H1 L G h1 u T=>?_);obtain⟨e1,x,v⟩:=G.stay (upd_same:upd H p (.dT []) p=aa (.dT [])) nS nF;refine hc F1 S1 j J H1 _ L ((Ok.bindB h1 (C.trans G)).imp λy O N S2 H2 Z D g w n=>?_);obtain⟨M,f,a⟩:=D.stay e1 v x;cases I:qz k with
 |none=>rw[I]at g;trivial
 |some A=>rw[I]at g;simp only[bT,R.bind_ok]at g;have r:aN X.K H2 N k u:=T.grow D L.fit;obtain⟨bb,rfl,W⟩:=ER r I;refine⟨_,_,rfl,M,bb,A,rfl,W,?_⟩;obtain⟨gl,fit,Y⟩:=Z.lay (o':=.dT [(A,w)]) M trivial f a;have g3:=((C.trans G).trans D).lay (o':=.dT [(A,w)]) B;refine g N S2 _ Y g3 p (λb=>b=p) ⟨⟨_,upd_same,.cons ⟨rfl,n.grow gl fit⟩ .nil⟩,λb=>kE⟩ λb z=>?_;subst z;exact⟨B,f,a,_,upd_same,trivial⟩
noncomputable def yY(i j:Nat):ad aM:=λa=>match a[j]? with
 |some (.own f)=>if i<a.length then .ok .next ((a.set j .none).set i (.own f))else .no
 |_=>.no
theorem Nq(i j:Nat)(I:X.N.Nodup)(A:(i∉d)^1)(B:(X.N[i]?=aa x)^0)(u:Loc X.env.scope x^6)(w:(jg (.Name y n) (aa (.Name x p)) l.line X.env=pure ak)^0)(C:az X x^3) (g:(X.N[j]?=aa y)^0) (v:d8 X.env.scope y^2)(G:av y^1) (M:a4 y^1):DS X E d (.Assign [.Name x p] (.Name y n) l) (yY i j):=λF S O N H D f h=>by
 unfold yY at h;split at h
 .rename_i P L;split at h
  .rename_i Q;obtain⟨a,J,s⟩:=f.own j _ L;refine fQ (CI I B u (eY g v G M) w C) ⟨_,J,?_⟩;refine h F _ _ H ((f.drop j).setOwn (Sa:=S j) (by rw[fZ];trivial) s λb z=>⟨(f.foot j b z).2.1,λ⟨k,r,q⟩=>q (f.dist k j b r z),(f.foot j b z).2.2⟩) ⟨λ_ z=>z,λ_ _ z _=>z,λ_ o z=>⟨o,z⟩,λ_ z=>.inl z,λb ⟨k,z⟩=>?_⟩ (ip.set A);rcases z with z|⟨_,z⟩
   .exact .inl ⟨k,z.1.1⟩
   .exact .inl ⟨j,z⟩
  .exact h.elim
 .exact h.elim
def sC(i j:Nat)(db:ad aM):ad aM:=λg=>(aR (kg g j) g).bind λa g=>if Ai a=ah then match fc i db (a.map λp=>lH p.1) (g.set j .none)with
 |.ok .next f=>if j<f.length then .ok .next (f.set j (.own (.dT a)))else .no
 |_=>.no else .no
theorem Nx(i j:Nat){yp:Pos}{N:List bf}{db:ad aM}(wZ:we X.zz X.A X.env X.xe)(hc:X.calm=ah)(hN:X.N.Nodup)(hb:gw X E (j::d) N db)(hp:(i∉j::d)^1) (hx:(X.N[i]?=aa x)^0) (hl:Loc X.env.scope x^6) (hs:(∀x,lL (.Name y yp) X.env x=pure x)^4)(hf:az X x^3) (hNj:(X.N[j]?=aa y)^0) (hv:d8 X.env.scope y^2)(hd:av y^1) (bt:a4 y^1):DS X E d (.For (.Name x p) (.Name y yp) N [] l) (sC i j db):=λF S ε σ H D rl h=>by
 unfold sC at h;cases e0:kg ε j with
 |none=>rw[e0]at h;exact h.elim
 |some L=>
  rw[e0]at h;simp only[bT,R.bind_ok]at h;split at h;rotate_left
  .exact h.elim
  rename_i hok;split at h;rotate_left
  .exact h.elim
  rename_i Q KJ;split at h;rotate_left
  .exact h.elim
  rename_i hje;obtain⟨a,B,ea,Z,hk,mZ,hSo⟩:=rl.dtAt (vi e0);have pG:=hk.keys;refine fQ (SS j wZ hc hNj hv hd bt (qD hN hx hl hf) qu hs) ⟨a,B,ea,Z,λo nd hz l5=>?_⟩;have uv:¬U (λk b=>S k b/\k≠j) a:=λ⟨k,z1,z2⟩=>z2 (rl.dist k j a z1 mZ);have hFa:¬F a:=(rl.foot j a mZ).2.1;have r0:aL X.K F (λk b=>S k b/\k≠j) (ε.set j .none) σ (upd H a (.frz o (.dT B))):=(rl.drop j).recast Z (.inl ⟨_,rfl⟩) uv;have u:∀(n:Nat) (b:ae),(gI o)[n]?=aa b->∃k,(L.map λp=>lH p.1)[n]?=aa (lH k)/\k.all uB=ah/\H b=aa (.tup (k.map kV)):=λn b hb=>by
   obtain⟨p,h1,h2⟩:=l5.2 n b hb;have h3:(B.map (·.1))[n]?=aa p.1:=by rw[dY,h1];rfl
   rw[pG,dY]at h3;obtain⟨q,h4,h5⟩:=mF.mp h3;refine⟨p.1,by rw[dY,h4,wA,h5],?_,h2⟩;have:=k9.mp hok q (j7 h4);lia
  have bu:(gI o).length=(L.map λp=>lH p.1).length:=by rw[cG,l5.1,hk.len]
  generalize hxs:(L.map λp=>lH p.1)=xs at KJ u bu;have fin:∀C J r A,aL X.K C J Q r A->Grow (U λk b=>S k b/\k≠j) (U J) F C (upd H a (.frz o (.dT B))) A->ip (j::d) σ r->uX a B D r A:=by
   intro C J r A r' G O;have xt:A a=aa (.frz o (.dT B)):=G.keep a _ upd_same uv;obtain⟨_,nF',nS'⟩:=G.stay (upd_same:upd H a (.frz o (.dT B)) a=_) uv hFa;have dt:qd (.frz o (.dT B)):=.inr ⟨_,_,rfl⟩;have Y:qd (.dT B):=.inl ⟨_,rfl⟩;have W:aL X.K C J Q r (upd A a (.dT B)):=r'.recast xt dt nS';have lY:jD X.K (upd A a (.dT B)) C L B:=hk.mono λx v z=>aN.mono2 (y3 xt dt) (vP xt dt) (xO xt dt) _ _ ((aN.mono2 (y3 Z Y) (vP Z Y) (xO Z Y) _ _ z:aN X.K (upd H a (.frz o (.dT B))) F x v).grow G r0.fit);have r4:=W.putOwn (po:=.dT L) (Sa:=λb=>b=a) hje (by rw[O j (by simp)];trivial) ⟨⟨B,upd_same,lY⟩,λ_=>kE⟩ λb z=>by subst z;exact⟨nF',nS',_,upd_same,trivial⟩
   refine⟨o,xt,h C _ r _ r4 ⟨G.fro,λb o' e n=>?_,λb o' e=>?_,λb z=>?_,λb ⟨k,z⟩=>?_⟩ λk hk=>O k (by simp[hk])⟩
   .have M:b≠a:=by rintro rfl;exact n ⟨j,mZ⟩
    rw[a6 M];exact G.keep b o' (by rw[a6 M];exact e) λ⟨k,z⟩=>n ⟨k,z.1⟩
   .by_cases M:b=a
    .subst M;exact⟨_,upd_same⟩
    .obtain⟨o2,q⟩:=G.there b o' (by rw[a6 M];exact e);exact⟨o2,by rw[a6 M];exact q⟩
   .rcases G.fnew b z with w|w|⟨k,w⟩
    .exact .inl w
    .refine .inr (.inl ?_);by_cases M:b=a
     .lia
     .rw[a6 M]at w;exact w
    .exact .inr (.inr ⟨k,w.1⟩)
   .rcases z with z|⟨_,z⟩
    .rcases G.onew b ⟨k,z.1⟩with⟨k',w⟩|w
     .exact .inl ⟨k',w.1⟩
     .by_cases M:b=a
      .subst M;rw[upd_same]at w;cases w
      .rw[a6 M]at w;exact .inr w
    .subst z;exact .inl ⟨j,mZ⟩
  refine HF (D:=⟨uX a B D,λ_ _=>False,λ_ _=>False,λ_ _=>False⟩) (Lf l5.1) (λn r A=>∃C J I,aL X.K C J I r A/\Grow (U λk b=>S k b/\k≠j) (U J) F C (upd H a (.frz o (.dT B))) A/\ip (j::d) σ r/\fc i db (xs.drop n) I=.ok .next Q) ⟨F,_,_,r0,Grow.refl ..,ip.refl _ _,KJ⟩ (λn r A _ ⟨C,J,I,_,g,_⟩=>g.keep a _ upd_same uv) ?_ ?_
  .rintro n v r A uw ⟨C,J,I,r',G,O,q⟩;rw[dY]at uw;obtain⟨bb,rn,rfl⟩:=mF.mp uw;obtain⟨k,kI,eU,fD⟩:=u n bb rn;have hn:n<xs.length:=(cJ.mp kI).1;have ed:xs.drop n=lH k::xs.drop (n+1):=by rw[wC hn];congr 1;exact(cJ.mp kI).2
   rw[ed]at q;have l0:upd H a (.frz o (.dT B)) bb=aa (.tup (k.map kV)):=vP Z (.inl ⟨_,rfl⟩) _ _ fD;have ur:A bb=aa (.tup (k.map kV)):=G.imm r0.fit l0 (λz=>z);have r2:=r'.set (i:=i) (SO (K:=X.K) (F:=C) eU ur);have gl:Grow (U J) (U λj b=>J j b/\j≠i) C C A A:=Grow.less i;show oP X N _ (r.set i (aa (.ref bb))) A;refine hb C _ _ _ A _ r2 ?_;unfold fc at q;cases e:db (I.set i (.val (lH k)))with
   |no=>rw[e]at q;cases q
   |er c T=>rw[e]at q;cases q
   |ok f T=>
    rw[e]at q;cases f with
    |next=>exact λF3 S3 P H3 W g3 p3=>⟨F3,S3,T,W,(G.trans gl).trans g3,(O.trans (ip.set hp)).trans p3,q⟩
    |cont=>exact λF3 S3 P H3 W g3 p3=>⟨F3,S3,T,W,(G.trans gl).trans g3,(O.trans (ip.set hp)).trans p3,q⟩
    |brk=>
     cases q;exact λF3 S3 P H3 W g3 p3=>fin F3 S3 P H3 W ((G.trans gl).trans g3) ((O.trans (ip.set hp)).trans p3)
    |ret s=>cases q
  .rintro r A ⟨C,J,I,r',G,O,q⟩;rw[cG,bu,zV]at q;cases q;exact fin C J r A r' G O
end
end Pu
namespace L2
open Mx
def iG(a b:List Tx):Bool:=!ltL b a
def cT(ks:List (List Tx)):List (List Tx):=ks.mergeSort iG
theorem UK(a b:List Tx):(iG a b||iG b a)=ah:=by
 unfold iG;cases h:ltL b a with
 |false=>rfl
 |true=>
  have:ltL a b=ak:=by
   cases c:ltL a b with
   |false=>rfl
   |true=>exact absurd (ordL.trans _ _ _ h c) (by have:ltL b b=ak:=ordL.irrefl _;show ¬ltL b b=ah;rw[this];simp)
  rw[this];rfl
theorem Mw(a b c:List Tx)(f:iG a b=ah)(d:iG b c=ah):iG a c=ah:=by unfold iG at *;have:ltL c a=ak:=qV (O:=ordL) (a:=a) (b:=b) (c:=c) (show ltL b a=ak by simpa using f) (show ltL c b=ak by simpa using d);rw[this];rfl
theorem TK(a b:List Tx)(d:iG a b=ah)(c:iG b a=ah):a=b:=by unfold iG at *;exact ordL.total a b (show ltL a b=ak by simpa using c) (show ltL b a=ak by simpa using d)
theorem nD(ks:List (List Tx)):(cT ks).Perm ks:=Dj ks iG
theorem I_(ks:List (List Tx)):(cT ks).Pairwise (λa b=>iG a b=ah):=JW Mw UK ks
theorem R_{c:List (List Tx)}(f:c.Perm ks)(d:c.Pairwise (λx y=>iG x y=ah)):c=cT ks :=JX (le:=λa b=>iG a b=ah) (λa b _ _=>TK a b) d (I_ ks) (f.trans (nD ks).symm)
def ge(k:List Tx):List aK:=k.map λx=>Sum.inr (tS x)
theorem Md(k:List Tx):(ge k).map kV=cm k:=by simp[ge,cm,kV,tV]
section
variable{X:Cx}
theorem R9(ok:c9 P w H h)(e:H a=aa (.tup (cm k)))(c:k≠[]):FtIs h (k.map tS) (.ref a):=by
 obtain⟨_,b,r,p,_⟩:=(show cc P w H h a (.tup (cm k))from ok a _ e)
 exact⟨λz=>c (~~~z),a,b.toArray,rfl,p,by have:=xD r;omega⟩
theorem Mv(hu:X.A.units+64<cLine)(hc:X.calm=ah):eF X (.builtin "sorted") (λxs H Q=>∃(d:ae) (a:List (List aK×V)) (ks:List (List Tx)),xs=[.ref d]/\H d=aa (.dT a)/\a.map (·.1)=ks.map ge/\(∀k∈ks,k≠[])/\ks.length<=1000000 /\ ∀l (T:List (List Tx×ae)),H l=af->(∀q∈T,H q.2=aa (.tup (cm q.1)))->T.map (·.1)=cT ks->Q (.ref l) (upd H l (.lst (T.map λq=>.ref q.2)))):=by
 intro ag s σ H xs us Q I r h;obtain⟨d,a,ks,rfl,hd,hk,cz,hz,q⟩:=h;obtain⟨u,rfl,ru⟩:=vals1 r;cases ru;obtain⟨o,ho,_⟩:=I.freezeT hd;obtain⟨hs,es,rd,Y,nd,C,ul⟩:=A0 ho (show cc X.prog X.w H s.heap d (.dT a)from I.hok d _ hd);have m:a.length=ks.length:=by have:=congrArg o7 hk;simpa using this
 have ux:∀x∈ks.zip (gI o),H x.2=aa (.tup (cm x.1)):=λx f=>by
  obtain⟨n,J⟩:=Ka f;rw[zU]at J;obtain⟨p,h1,c⟩:=C.2 n _ J.2;have N:(a.map (·.1))[n]?=aa p.1:=by rw[dY,h1];rfl
  rw[hk,dY,J.1,wA]at N;rw[c,<-fe N,Md]
 refine sorted_genK ∅ (PySem.W.kdu_collect (Rt (P:=X.prog) (w:=X.w) (es:=es) (ep:=rO o) hs) (uC (I.ok.hd hc)) rd (by rw[Y,m];exact kw (sD hz)) λj F S k M=>?_);have I1:Inv X ag σ H {s with heap:=j,toks:=F}:=I.kept (t':=F) k;have j9:S.toList=(ks.zip (gI o)).map λx=>Value.ref x.2:=by
  have D:(ks.zip (gI o)).map (λx=>Value.ref x.2)=(gI o).map Value.ref:=by rw[<-Kl (l₁:=ks) (l₂:=gI o) (by rw[C.1,m];simp),cR];simp[Kl,C.1,m]
  rw[D];apply pf;intro n;by_cases J:n<es.size
  .have uo:n<S.size:=by rw[M.1];trivial
   obtain⟨e,h1,c⟩:=M.2 n S[n] (by simp);obtain⟨b,N,h4⟩:=ul n e h1;rw[dY,N,qU,k_ uo,c,h4];rfl
  .rw[nY (by rw[iH,M.1];ac_rfl),nY (by rw[cG,C.1,<-Y];ac_rfl)]
 have g:∀(c:aB),(∀b o,j.get? b=aa o->c.get? b=aa o)->∀x∈ks.zip (gI o),FtIs c (x.1.map tS) (.ref x.2):=λc i x f=>(R9 I1.hok (ux x f) (cz _ (wg f).1)).keep i;have B:∀v∈S.toList,∃x∈ks.zip (gI o),v=.ref x.2:=λv G=>by
  grind
 refine⟨ftKey j,tuples' ah,λv G=>?_,by rw[iH,M.1,Y,m];trivial,λA' c hA i jK=>⟨ftLt hA i,λ{E Q} qq=>ft_kind (s:={s with heap:=c,toks:=F}) (λv G=>?_) jK qq⟩,λc W e i jn b1 b2=>?_⟩
 .obtain⟨x,f,rfl⟩:=B v G;exact⟨_,ftKey_of (g j (λ_ _ z=>z) x f)⟩
 .obtain⟨x,f,rfl⟩:=B v G;exact⟨_,g c i x f⟩
 .rw[j9]at b1;obtain⟨A,D,O⟩:=perm_mapE b1;have L:∀q∈A,q∈ks.zip (gI o):=λq Z=>O.mem_iff.mp Z;refine⟨.ref _,_,I1.laid (t':=F) (o:=.lst (A.map λq=>.ref q.2)) i (bn _) ⟨?_,W.toList,e,?_,by trivial⟩,rfl,q _ A I1.fresh (λq Z=>ux q (L q Z)) ?_⟩
  .rw[cG,O.length_eq,List.length_zip];have:=sD hz;lia
  .rw[D];clear D O L
   induction A with
   |nil=>exact .nil
   |cons q A ih=>exact .cons rfl ih
  .refine R_ ?_ ?_
   .have:=O.map (·.1);rwa[List.map_fst_zip (by rw[C.1,m];simp)]at this
   .rw[D]at b2;refine pe.mpr ((pe.mp b2).imp_of_mem λ{x y} f hy hh=>?_);have:=hh _ _ (ftKey_of (g j (λ_ _ z=>z) x (L x f))) (ftKey_of (g j (λ_ _ z=>z) y (L y hy)));have:ltL (cpsL (y.1.map tS)) (cpsL (x.1.map tS))=ak:=this;simp only[cpsL,cR,lS,lz,ud]at this;unfold iG;rw[this];rfl
end
end L2
namespace Pu
open L2
def pK:eX->Option (List Tx)
 |[]=>aa []
 |.inr z::r=>(pK r).map (z.cps.toList::·)
 |_=>af
def qp:List (eX×PV)->Option (List (List Tx))
 |[]=>aa []
 | (k,_)::r=>(pK k).bind λt=>(qp r).map (t::·)
theorem Fp:∀{k:eX}{t:List Tx},pK k=aa t->k=ge t
 |[],t,h=>by cases h;rfl
 |.inr z::r,t,h=>by simp only[pK,mF]at h;obtain⟨l,a,rfl⟩:=h;rw[Fp a];rfl
 |.inl _::_,_,h=>by cases h
theorem Hg:∀{a:List (eX×PV)}{ks:List (List Tx)},qp a=aa ks->a.map (·.1)=ks.map ge
 |[],ks,h=>by cases h;rfl
 | (k,_)::r,ks,h=>by simp only[qp,ue,mF]at h;obtain⟨t,c,d,b,rfl⟩:=h;rw[cp,cp,Hg b,Fp c]
theorem Bd(t:List Tx):pK (ge t)=aa t:=by
 induction t with
 |nil=>rfl
 |cons x t a=>show pK (Sum.inr (tS x)::ge t)=_;simp[pK,a,lz]
theorem RB(ks:List (List Tx))(v:PV):qp (ks.map λk=>(ge k,v))=aa ks:=by
 induction ks with
 |nil=>rfl
 |cons k ks a=>simp[qp,a,Bd]
def oH(k:List Tx):PV:=.tup (am k)
def yb(a:List (eX×PV)):Option PO:=(qp a).bind λks=>if ks.length<=1000000/\(∀k∈ks,k≠[]/\∀x∈k,x.length<=bB)then aa (.lst ((cT ks).map oH))else af
def vG(i:Nat):ad PO:=λε=>(aR (kg ε i) ε).bind λa ε=>aR (yb a) ε
theorem UD{X:Cx}(i:Nat)(M:X.A.units+64<cLine)(T:X.calm=ah)(N:X.mg "sorted"=af)(Y:(X.N[i]?=aa y)^0)(eK:d8 X.env.scope y^2)(P:av y^1) (bt:a4 y^1) (O:Gl X "sorted"^0):DN X E (.Call (.Name "sorted" p) [.Name y G] [] r) (vG i):=λF S D σ H Q m h=>by
 unfold vG at h;cases B:kg D i with
 |none=>rw[B]at h;exact h.elim
 |some s=>
  rw[B]at h;simp only[bT,R.bind_ok]at h;obtain⟨a,I,ea,W,u,ia,_⟩:=m.dtAt (vi B);unfold yb at h;cases A:qp s with
  |none=>rw[A]at h;exact h.elim
  |some ks=>
   rw[A,gp]at h;split at h
   .rename_i v;refine bY (mx (Mv M T) O N mn (i7 (eY Y eK P bt) jz (js rfl)) (by decide) (by rfl) (js rfl) rfl) ⟨.ref a,ea,a,I,ks,rfl,W,by rw[u.keys];exact Hg A,λk u=>(v.2 k u).1,v.1,λl d C n f=>?_⟩;have al:Al F F H (L2.upd H l (.lst (d.map λq=>.ref q.2))):=Al.new0 C;have reps:∀(d:List (List Tx×ae)),(∀q∈d,H q.2=aa (.tup (cm q.1))/\∀x∈q.1,x.length<=bB)->aZ X.K H F ((d.map (·.1)).map oH) (d.map λq=>.ref q.2):=by
     intro d
     induction d with
     |nil=>intro _;rfl
     |cons q d J=>intro n;obtain⟨h1,Z⟩:=n q j3;exact⟨_,_,rfl,⟨q.2,cm q.1,rfl,h1,VJ.mpr ⟨rfl,Z⟩⟩,J λz L=>n z (gZ _ L)⟩
    refine h F S _ (m.al al) al.grow l (λc=>c=l) ⟨⟨_,upd_same,?_⟩,λc=>kE⟩ λb z=>?_
    .rw[<-f];refine al.reps (reps d λq g=>⟨n q g,?_⟩);have:q.1∈cT ks:=by rw[<-f];exact bU.mpr ⟨q,g,rfl⟩
     exact(v.2 _ ((nD ks).mem_iff.mp this)).2
    .subst z;exact⟨C,λz=>wF (m.ex _ z) (λo w=>by lia),λ⟨j,z⟩=>wF (m.foot j b z).2.2 (λo w=>by lia),_,upd_same,trivial⟩
   .exact h.elim
end Pu
namespace L2
theorem QO{s:ao}{f:List ai}(v:IsTup s.heap t #[])(x:IsTup s.heap b f.toArray)(h:Q (.ref b) s):ar (aw P w) A (ji .Add (.ref t) (.ref b)) Q E s:=by
 obtain⟨⟨z,y,p,r⟩,l,o,n,m⟩:=id v;obtain⟨⟨q,c,d,a⟩,i,j,u,g⟩:=id x;simp only at o m j g;subst o m j g;exact concat_meets ⟨_,l,rfl⟩ ⟨_,i,rfl⟩ JG seq_tuple_add JH JI (JJ _ _)
  (tuple_addW0 t b #[] f.toArray n u y c r a rfl) ⟨l,i,h⟩
noncomputable def Cr(K:ax):R2:=λx y H Q=>∃a b c,x=.ref a/\y=.ref b/\cn K H a []/\cn K H b c/\Q (.ref b) H
theorem V4:b_ X (ji .Add) (Cr X.K):=by
 intro w s o H x y v u Q I f d h;obtain⟨a,b,p,rfl,rfl,n,m,q⟩:=h;cases f;cases d;obtain⟨l,g,j,_⟩:=I.tuple n;obtain⟨c,r,i,_⟩:=I.tuple m;cases g;exact QO j i ⟨.ref b,H,I,rfl,q⟩
end L2
namespace Pu
open L2
def vW:PV->PV->Option PV
 |.tup [],.tup a=>aa (.tup a)
 |x,y=>bi x y
theorem Ms:b_ X (ji .Add) (λx y H Q=>Cr X.K x y H Q\/yh X.K x y H Q):=V4.or fR
theorem Qi{K:ax}:P2 K (λx y H Q=>Cr K x y H Q\/yh K x y H Q) vW:=λF H x y v u Q pv d c e q=>by
 unfold vW at e;split at e
 .cases e;obtain⟨a,h,rfl,f,i⟩:=d;obtain⟨b,g,rfl,j,l⟩:=id c;rw[show h=[] from i]at f;exact .inl ⟨a,b,g,rfl,rfl,cn.of f,cn.of j,q _ F H (Al.refl ..) c⟩
 .exact .inr (fO F H _ _ v u Q pv d c e q)
end Pu
namespace L2
section
variable{X:Cx}
theorem Uq(y:X.calm=ah):eF X (.type "set") (λxs H Q=>∃(p:ae) (c:List Tx),xs=[.ref p]/\cn X.K H p (cm c)/\(dU c).length<4000/\∀a,H a=af->Q (.ref a) (upd H a (pN X a (dU c)))):=by
 intro M s B H xs C Q I r h;obtain⟨p,c,rfl,v,z,q⟩:=h;obtain⟨u,rfl,j⟩:=vals1 r;cases j;obtain⟨d,f,n,E⟩:=I.tuple v;have x:=f.length;rw[y6]at x;refine PY (P:=X.prog) (w:=X.w) (I.ok.hd y) (.inr n) (by simpa using xD f) (by rw[gi,show d.length=c.length by ac_rfl,Fl,cG];trivial) λA i S k=>?_;have g:k6 X.prog X.w A s.heap.objs.size ((dU c).map tS):=by
  have e:d.toArray.size=c.length:=∅
  rw[e,Fl]at S;exact S
 refine⟨.ref s.heap.objs.size,_,I.laid (t':=i) (o:=pN X s.heap.objs.size (dU c)) (λb o e=>k b o (bG e) e) (bn _) ?_,rfl,q _ I.fresh⟩;obtain⟨J,L,t,D,e,_⟩:=g.ex;exact⟨g,⟨_,e⟩,λG F m l=>m.at l⟩
end
end L2
namespace Pu
open L2
section
variable{X:Cx}{p:Pos}
def qr:List PV->Option PO
 |[.tup xs]=>(fS xs).bind λa=>if(dU a).length<4000 then aa (.lst (am (aS (dU a))))else af
 |_=>af
def Nu(X:Cx)(r:List V->Hp->VK->Prop):List V->Hp->VK->Prop:=λxs H Q=>∃(p:ae) (b:List Tx),xs=[.ref p]/\cn X.K H p (cm b)/\(dU b).length<4000/\∀a,H a=af->r [.ref a] (upd H a (pN X a (dU b))) Q
theorem MT:lp X.K (Nu X (MZ X)) qr:=λF H xs I Q L D u e q=>by
 unfold qr at e;split at e
 .obtain⟨v,rfl,a,J,rfl,C,n⟩:=gB u;obtain⟨h,G,s⟩:=ue.mp e;rw[uE G]at n;obtain⟨rfl,A⟩:=VJ.mp n;split at s
  .rename_i r;cases s;refine⟨a,h,rfl,cn.of C,r,λb B=>⟨b,dU h,rfl,upd_same,r,λl i=>?_⟩⟩;have j:l≠b:=by rintro rfl;rw[upd_same]at i;trivial
   have m:H l=af:=by rw[a6 j]at i;trivial
   have al:Al F F H (upd (upd H b (pN X b (dU h))) l (.lst (cm (aS (dU h))))):=(Al.new0 B).trans (Al.new0 i);refine q l F _ (λc=>c=l) al ⟨⟨_,upd_same,VJ.mpr ⟨rfl,λx y=>A x ((Bu _ _).mp ((fj _).mem_iff.mp y))⟩⟩,λc=>kE⟩ λc z=>?_;subst z;exact⟨m,λz=>wF (D _ z) (λo w=>by lia),_,upd_same,trivial⟩
  trivial
 trivial
theorem Fo(c:X.calm=ah)(m:DA X E [e] g)(j:X.mg "sorted"=af)(a:X.mg "set"=af)(l:Gl X "sorted"^0)(b:Gl X "set"^0)(h:(oU e=ak)^0):DN X E (.Call (.Name "sorted" p) [.Call (.Name "set" q) [e] [] d] [] f) (dL qr g):=λF S r o H Q i n=>bY (mx (PR c) l j mn (i7 (yZ (Uq c) b a GF i_ (by decide) (by rfl) (js h) rfl) jz (js rfl)) (by decide) (by rfl) (js rfl) rfl) (vx MT m i n)
end
def sW(d:ad Slot):ad Slot:=λa=>(d a).bind λs ε1=>(aR (zf s) ε1).bind λv ε1=>.ok (.val v) ε1
theorem RL(h:DX X e d):DX X e (sW d):=λF S n x H Q W E q=>by
 unfold sW at q;refine h F S n x H Q W E ?_;cases P:d n with
 |no=>simp_all
 |er c B=>simp_all
 |ok s A=>
  rw[P]at q;intro u i j r f v m p l;cases s with
  |none=>exact q.elim
  |val pv=>exact q u i j r f v m p l
  |own G=>
   obtain⟨a,rfl,I⟩:=p;cases G with
   |dK g=>exact q.elim
   |lls T=>exact q.elim
   |dL T=>exact q.elim
   |ins C fs=>exact q.elim
   |dT g=>exact q.elim
   |dN g=>exact q.elim
   |inl C fs y xs=>exact q.elim
   |lst xs=>
    have N:∀b,m b->¬U i b/\∃o,j b=aa o:=λb z=>let ⟨_,_,x3,o,x4,_⟩:=l b z;⟨x3,o,x4⟩
    obtain⟨⟨D,L,J⟩,M⟩:=I;have O:Grow (U S) (U i) F (λb=>u b\/m b) H j:=⟨λb z=>.inl (f.fro b z),f.keep,f.there,λb z=>z.elim (f.fnew b) λw=>.inr (.inl (l b w).1),f.onew⟩
    exact q _ i j (r.more N) O _ (λ_=>False) ⟨⟨a,D,rfl,.inl L,.inr ((M a).mpr rfl),aZ.mono (λ_ z=>.inl z) (λ_ _ _ z=>z) (λ_ _ z _=>z) _ _ J⟩,λ_ z=>z⟩ λ_ z=>z.elim
end Pu
local macro_rules | `(⇑$x) => `(.val (.int $x))
local macro_rules | `(↥$x) => `(.val (.str $x))
namespace Sh
open L2 Pu
structure Ad where
 SlitError:ae
 NoText:ae
 NoWidth:ae
 NoView:ae
 NoWindow:ae
 Never:ae
 Full:ae
 Nothing:ae
 Unlike:ae
 NoPlace:ae
 NoLetters:ae
 BadText:ae
 Seeker:ae
 Slit:ae
def i9(a:Ad):List ae:=[a.NoText,a.NoWidth,a.NoView,a.NoWindow,a.Never,a.Full,a.Nothing,a.Unlike,a.NoPlace,a.NoLetters,a.BadText]
def pL(a:Ad)(c:ai):Bool:=match c with
 |.ref x=>(i9 a).contains x
 |_=>ak
def jA(a:Ad)(c:ai)(D:V):Option Bool:=match c,D with
 |.ref x,.ref d=>if(i9 a).contains x&&(i9 a).contains d then aa (x == d)else af
 |.ref x,.ty T=>if(i9 a).contains x&&T == "ValueError" then aa ah else af
 |_,_=>af
def yau(a:Ad):ad aM:=cu (dL qf (aA (dF (bD [1] (aU (dV 0)) (cO) (d2 (iq ak) (dV 0) (dV 1)))) (aF)))
def zj(a:Ad):ad Slot:=bI 2 [] (bH 0 (yau a))
def yaz(a:Ad):ad aM:=cu (ln (dL kt (aA (dV 0) (aA (dC (.raw (.ty "int"))) (aF)))) (zc (dL kt (aA (dV 0) (aA (dC (.raw (.ty "bool"))) (aF))))))
def AC(a:Ad):ad Slot:=bI 1 [] (bH 0 (yaz a))
def yaA(a:Ad):ad aM:=cu (ln (bv (bg (AC a) (gV (dV 0) (bS)))) (p8 (dS λi j=>decide (i<=j)) (dS λi j=>decide (i<=j)) (dC (.int 1)) (dV 0) (dC (.int 4))))
def tw(a:Ad):ad Slot:=bI 1 [] (bH 0 (yaA a))
def yaB(a:Ad):ad aM:=cu (ln (dL kt (aA (dV 0) (aA (dC (.raw (.ty "str"))) (aF)))) (ln (d2 (eqT ak) (dL bW (aA (dV 0) (aF))) (dV 1)) (bv (bg (zj a) (gV (dV 0) (gV (dV 2) (bS)))))))
def sT(a:Ad):ad Slot:=bI 3 [] (bH 0 (yaB a))
def yam(a:Ad):ad aM:=aH (cI (l6 (l8 (dB (dL kt (aA (dV 0) (aA (dC (.raw (.ty "tuple"))) (aF)))))) (l8 (dB (p8 (dS λi j=>decide (i<=j)) (dS λi j=>decide (i<=j)) (dC (.int 1)) (dL bW (aA (dV 0) (aF))) (dC (.int 9)))))) (cu (dC (.bl ak))) (fX))
 (aH (cI (l8 (dB (dL qf (aA (dF (bD [1,2] (aU (dV 0)) (cO) (bv (bg (sT a) (gV (dV 0) (gV (dV 1) (gV (dV 2) (bS)))))))) (aF))))) (cu (dC (.bl ak))) (fX))
 (cu (d2 (eqT ak) (dF (dL sK (aA (dV 0) (aF)))) (dF (dL i8 (aA (dV 0) (aF)))))))
def oQ(a:Ad):ad Slot:=bI 3 [] (bH 0 (yam a))
def yay(a:Ad):ad aM:=aH (cI (l6 (l8 (dB (dL kt (aA (dV 0) (aA (dC (.raw (.ty "tuple"))) (aF)))))) (dB (d2 (eqT ah) (dL bW (aA (dV 0) (aF))) (dC (.int 2))))) (cu (dC (.bl ak))) (fX))
 (cu (ln (bv (bg (tw a) (gV (d2 ba (dV 0) (dC (.int 0))) (bS)))) (bv (bg (oQ a) (gV (d2 ba (dV 0) (dC (.int 1))) (gV (d2 ba (dV 0) (dC (.int 0))) (gV (dV 1) (bS))))))))
def oS(a:Ad):ad Slot:=bI 2 [] (bH 0 (yay a))
def yax(a:Ad):ad aM:=pM (bg (oS a) (gV (dV 0) (gV (dC (.str [97,98,99])) (bS))))
def yH(a:Ad):ad Slot:=bI 1 [] (bH 0 (yax a))
def yap(a:Ad):ad aM:=cI (l8 (dB (bv (bg (yH a) (gV (dV 0) (bS)))))) (uY (.ref a.NoView) (λb=>bM ((dC (.str [97,32,118,105,101,119,32,105,115,32,97,32,116,117,112,108,101,32,111,102,32,97,32,119,105,100,116,104,32,97,110,100,32,97,32,114,105,115,105,110,103,32,116,117,112,108,101,32,111,102,32,49,32,116,111,32,57,32,119,105,110,100,111,119,115])) b))) (fX)
def u_(a:Ad):ad Slot:=bI 1 [] (bH 0 (yap a))
def yas(a:Ad):ad aM:=aH (cQ 1 (yj))
 (aH (λb=>dy (b9 2 (aU (dV 0)) (aH (jO 1 (eO fH (dV 2) (fk) (ee (d1 ig (dC (.int 1))))) (d2 bi (mo 1 (eO fH (dV 2) (fk) (ee (d1 ig (dC (.int 1))))) (dC (.int 0))) (dC (.int 1))))
 (jO 1 (eO fH (dV 2) (ee (dC (.int 1))) (fk)) (d2 lB (mo 1 (eO fH (dV 2) (ee (dC (.int 1))) (fk)) (dC (.int 0))) (dC (.int 1))))) b))
 (kT 1))
def rQ(a:Ad):ad Slot:=bI 1 [] (bH 2 (yas a))
def yaR(a:Ad):ad aM:=aH (cQ 1 (uO (eO fH (d2 ba (dV 0) (dC (.int 0))) (fk) (ee (d1 ig (dC (.int 1))))) (dC (.bl ah))))
 (aH (bw 2 (dC (.int 0)))
 (aH (λb=>dy (jb (dB (d2 (dS λi j=>decide (i<j)) (dV 2) (nE 1))) (aH (bw 2 (nE 1))
 (b9 3 (aU (dV 0)) (cI (l6 (dB (jw ak 1 (eO fH (dV 3) (fk) (ee (d1 ig (dC (.int 1))))))) (dB (jw ak 1 (eO fH (dV 3) (ee (dC (.int 1))) (fk))))) (aH (jO 1 (eO fH (dV 3) (fk) (ee (d1 ig (dC (.int 1))))) (dC (.bl ah)))
 (jO 1 (eO fH (dV 3) (ee (dC (.int 1))) (fk)) (dC (.bl ah)))) (fX)))) 1000 b))
 (kT 1)))
def oV(a:Ad):ad Slot:=bI 1 [] (bH 3 (yaR a))
def yaF(a:Ad):ad aM:=aH (cI (dB (d2 (dS λi j=>decide (i<j)) (dV 1) (dL bW (aA (dV 0) (aF))))) (cu (d2 ba (dV 0) (dV 1))) (fX))
 (aH (cI (dB (d2 (eqT ak) (dV 0) (dF (dL cH (aF))))) (cu (dC (.int 0))) (fX))
 (cu (d2 bi (d2 mq (d2 ba (dV 0) (d2 iW (dV 1) (dL bW (aA (dV 0) (aF))))) (dC (.int 31))) (dV 1))))
def sE(a:Ad):ad Slot:=bI 2 [] (bH 0 (yaF a))
def yaI(a:Ad):ad aM:=aH (bw 3 (d2 iW (d2 bi (d2 bi (d2 mq (bv (bg (sE a) (gV (dV 0) (gV (dV 1) (bS))))) (dC (.int 1103515245))) (d2 mq (dC (.int 7919)) (dV 1))) (dC (.int 12345))) (dC (.int 2147483647))))
 (cu (d2 iW (d2 iW (d2 iW (d2 vf (dV 3) (dC (.int 5))) (dC (.int 2147483647))) (dC (.int 999983))) (dV 2)))
def zh(a:Ad):ad Slot:=bI 3 [] (bH 1 (yaI a))
def yaG(a:Ad):ad aM:=aH (vn 1 (dC (.int 0)))
 (pM (bg (zh a) (gV (dV 0) (gV (kU (λxs=>pT (bW xs)) 1) (gV (dV 2) (bS))))))
def gY(a:Ad):ad Slot:=bI 3 [1] (bH 0 (yaG a))
def yaJ(a:Ad):ad aM:=cu (d2 ba (dV 2) (bv (bg (gY a) (gV (dV 0) (gO 1 (gV (dL bW (aA (dV 2) (aF))) (bS)))))))
def vk(a:Ad):ad Slot:=bI 3 [1] (bH 0 (yaJ a))
def yaL(a:Ad):ad aM:=aH (bw 4 (bv (bg (vk a) (gV (dV 0) (gO 1 (gV (dF (dL cH (aA (dC (.int 1)) (aA (dC (.int 2)) (aA (dC (.int 2)) (aA (dC (.int 3)) (aA (dC (.int 3)) (aA (dC (.int 3)) (aF))))))))) (bS)))))))
 (aH (bw 5 (dC (.str [])))
 (aH (λb=>dy (b9 6 (dL kn (aA (d2 bi (dV 2) (bv (bg (gY a) (gV (dV 0) (gO 1 (gV (d2 bi (d2 lB (dV 3) (dV 2)) (dC (.int 1))) (bS))))))) (aF))) (bw 5 (d2 bi (dV 5) (d2 ba (dC (.str [97,98,99])) (bv (bg (gY a) (gV (dV 0) (gO 1 (gV (dV 4) (bS))))))))) b))
 (cu (dV 5))))
def r_(a:Ad):ad Slot:=bI 4 [1] (bH 3 (yaL a))
def yaK(a:Ad):ad aM:=cu (dL iz (aA (dF (dL i8 (aA (dF (bD [0,1] (dL kn (aA (dL bW (aA (dV 0) (aF))) (aF))) (dB (d2 (dS λi j=>decide (i<=j)) (d2 bi (dV 0) (dV 2)) (dL bW (aA (dV 1) (aF))))) (eO fH (dV 1) (ee (dV 0)) (ee (d2 bi (dV 0) (dV 2)))))) (aF)))) (aF)))
def oN(a:Ad):ad Slot:=bI 2 [] (bH 0 (yaK a))
def yaP(a:Ad):ad aM:=aH (bw 4 (cI (dB (d2 (eqT ah) (dV 2) (dC (.int 2)))) (d2 bi (dC (.int 2)) (bv (bg (gY a) (gV (dV 0) (gO 1 (gV (dC (.int 3)) (bS))))))) (d2 bi (dC (.int 1)) (bv (bg (gY a) (gV (dV 0) (gO 1 (gV (dC (.int 4)) (bS)))))))))
 (aH (cQ 5 (dL sK (aA (bv (bg (oN a) (gV (bv (bg (r_ a) (gV (dV 0) (gO 1 (gV (dV 4) (gV (d2 lB (d2 bi (dV 4) (dV 3)) (dC (.int 1))) (bS))))))) (gV (dV 4) (bS))))) (aF))))
 (aH (λb=>dy (b9 6 (dL kn (aA (d2 iW (dV 2) (dC (.int 3))) (aF))) (zk 5 (bv (bg (gY a) (gV (dV 0) (gO 1 (gV (kU (λxs=>pT (bW xs)) 5) (bS)))))) (bv (bg (r_ a) (gV (dV 0) (gO 1 (gV (dV 4) (gV (dV 4) (bS)))))))) b))
 (cu (dL d9 (aA (dV 4) (aA (dL iz (aA (dF (kU (λxs=>vO (i8 xs)) 5)) (aF))) (aF)))))))
def uA(a:Ad):ad Slot:=bI 4 [1] (bH 3 (yaP a))
def yaQ(a:Ad):ad aM:=aH (cQ 1 (dL cH (aA (dL (jS (jA a)) (aA (dV 0) (aA (dC (.raw (.ref a.NoText))) (aF)))) (aA (dL (jS (jA a)) (aA (dV 0) (aA (dC (.raw (.ref a.NoWidth))) (aF)))) (aA (dL (jS (jA a)) (aA (dV 0) (aA (dC (.raw (.ref a.NoView))) (aF)))) (aA (dL (jS (jA a)) (aA (dV 0) (aA (dC (.raw (.ref a.NoWindow))) (aF)))) (aF)))))))
 (aH (gD 1 (dF (dL cH (aA (dL (jS (jA a)) (aA (dV 0) (aA (dC (.raw (.ref a.Never))) (aF)))) (aA (dL (jS (jA a)) (aA (dV 0) (aA (dC (.raw (.ref a.Full))) (aF)))) (aA (dL (jS (jA a)) (aA (dV 0) (aA (dC (.raw (.ref a.Nothing))) (aF)))) (aA (dL (jS (jA a)) (aA (dV 0) (aA (dC (.raw (.ref a.Unlike))) (aF)))) (aF))))))))
 (aH (gD 1 (dF (dL cH (aA (dL (jS (jA a)) (aA (dV 0) (aA (dC (.raw (.ref a.NoPlace))) (aF)))) (aA (dL (jS (jA a)) (aA (dV 0) (aA (dC (.raw (.ref a.NoLetters))) (aF)))) (aA (dL (jS (jA a)) (aA (dV 0) (aA (dC (.raw (.ref a.BadText))) (aF)))) (aF)))))))
 (aH (cI (l6 (dB (d2 (eqT ah) (sG mi 1 (dC (.bl ah))) (dC (.int 1)))) (l8 (dB (dL (jS (jA a)) (aA (dV 0) (aA (dC (.raw (.ty "ValueError"))) (aF))))))) (cu (dL d9 (aA (dC (.str [114,101,102,117,115,101,100])) (aA (d1 ig (dC (.int 1))) (aF))))) (fX))
 (cu (dL d9 (aA (dC (.str [114,101,102,117,115,101,100])) (aA (sG Cd 1 (dC (.bl ah))) (aF))))))))
def vK(a:Ad):ad Slot:=bI 1 [] (bH 1 (yaQ a))
def yaO(a:Ad):ad aM:=aH (bw 3 (bv (bg (oN a) (gV (dV 0) (gV (dV 1) (bS))))))
 (cu (dL qf (aA (dF (bD [3,2] (aU (dV 3)) (cO) (d2 (dS λi j=>decide (i<=j)) (sd mi (dV 1) (dV 0)) (sd mi (dV 2) (dV 0))))) (aF))))
def oX(a:Ad):ad Slot:=bI 3 [] (bH 1 (yaO a))
def yaD(a:Ad):ad aM:=aH (BQ 1 2 (dV 0))
 (aH (bw 3 (dF (dL cH (aA (dC (.str [])) (aF)))))
 (aH (λε=>dy (b9 4 (dL kn (aA (d2 lB (d2 bi (dL bW (aA (dV 2) (aF))) (dV 1)) (dC (.int 1))) (aF))) (aH (cQ 5 (dL cH (aF)))
 (aH (b9 6 (aU (dV 3)) (gD 5 (dF (bD [6,1,2] (aU (dC (.str [97,98,99]))) (dB (bv (bg (oX a) (gV (d2 bi (dV 1) (dV 0)) (gV (dV 2) (gV (dV 3) (bS))))))) (d2 bi (dV 1) (dV 0))))))
 (bw 3 (dM 5)))) ε))
 (jP (bD [1,2] (aU (dV 3)) (dB (d2 (eqT ak) (bv (bg (oN a) (gV (dV 0) (gV (dV 1) (bS))))) (dV 2))) (dV 0)))))
def sq(a:Ad):ad Slot:=bI 1 [] (bH 6 (yaD a))
def yav(a:Ad):ad aM:=cu (ln (bv (bg (oS a) (gV (dV 0) (gV (d2 bi (dC (.str [46])) (dC (.str [97,98,99]))) (bS))))) (d2 (dS λi j=>decide (i<=j)) (mh xX (mh nh (dC (.str [])) (aA (d2 ba (dV 0) (dC (.int 1))) (aF))) (aA (dC (.str [46])) (aF))) (dC (.int 6))))
def oI(a:Ad):ad Slot:=bI 1 [] (bH 0 (yav a))
def yao(a:Ad):ad aM:=cI (l8 (dB (bv (bg (oI a) (gV (dV 0) (bS)))))) (uY (.ref a.NoView) (λb=>bM ((dC (.str [97,32,98,108,117,114,114,101,100,32,118,105,101,119,32,105,115,32,97,32,118,105,101,119,32,111,102,32,119,104,111,115,101,32,108,101,116,116,101,114,115,32,117,112,32,116,111,32,54,32,109,97,121,32,98,101,32,112,111,105,110,116,115])) b))) (fX)
def vH(a:Ad):ad Slot:=bI 1 [] (bH 0 (yao a))
def yaT(a:Ad):ad aM:=aH (bw 1 (dF (dL cH (aA (dC (.str [])) (aF)))))
 (aH (λb=>dy (b9 2 (aU (dV 0)) (aH (bw 3 (cI (dB (d2 (eqT ak) (dV 2) (dC (.str [46])))) (dC (.str [97,98,99])) (dV 2)))
 (aH (cQ 4 (dL cH (aF)))
 (aH (b9 5 (aU (dV 1)) (gD 4 (dF (bD [5] (aU (dV 3)) (cO) (d2 bi (dV 1) (dV 0))))))
 (bw 1 (dM 4))))) b))
 (cu (dV 1)))
def sh(a:Ad):ad Slot:=bI 1 [] (bH 5 (yaT a))
def yar(a:Ad):ad aM:=aH (cQ 1 (y8 (dL d9 (aF)) (dC (.bl ah))))
 (aH (λε=>dy (b9 2 (aU (d2 ba (dV 0) (dC (.int 1)))) (aH (cQ 3 Cn)
 (aH (sC 4 1 (b9 5 (aU (bv (bg (sh a) (gV (dV 2) (bS))))) (ye 3 (dL iz (aA (dF (dL i8 (aA (d2 vW (dV 4) (dL d9 (aA (dV 5) (aF)))) (aF)))) (aF))) (dC (.bl ah)))))
 (yY 1 3))) ε))
 (jP (bD [0] (aU (dF (vG 1))) (cO) (dL d9 (aA (d2 ba (dV 1) (dC (.int 0))) (aA (dV 0) (aF)))))))
def zb(a:Ad):ad Slot:=bI 1 [] (bH 5 (yar a))
def yaE(a:Ad):ad aM:=aH (cQ 4 (yX [] (aU (d2 ba (dV 2) (dC (.int 1)))) (dL uI (aA (dV 0) (aF)))))
 (aH (λb=>dy (b9 5 (dL kn (aA (bv (bg (gY a) (gV (dV 0) (gO 1 (gV (d2 bi (dV 3) (dC (.int 1))) (bS)))))) (aF))) (yW 4 (bv (bg (gY a) (gV (dV 0) (gO 1 (gV (uN 4) (bS)))))) (bv (bg (gY a) (gV (dV 0) (gO 1 (gV (d2 ba (dV 2) (dC (.int 0))) (bS)))))) (dC (.str [46]))) b))
 (cu (dL d9 (aA (d2 ba (dV 2) (dC (.int 0))) (aA (dL iz (aA (dF (dL i8 (aA (dF (bD [] (aU (za 4)) (cO) (mh nh (dC (.str [])) (aA (dV 0) (aF))))) (aF)))) (aF))) (aF))))))
def yF(a:Ad):ad Slot:=bI 4 [1] (bH 2 (yaE a))
def yat(a:Ad):ad aM:=aH (cQ 1 (kl (bg (rQ a) (gV (dV 0) (bS)))))
 (aH (bw 2 (dF (bD [1] (aU (dF (oY 1))) (dB (d2 (dS λi j=>decide (j<i)) (kX 1 (dV 0)) (dC (.int 0)))) (dV 0))))
 (aH (cI (dB (d2 (dS λi j=>decide (j<i)) (dL bW (aA (dV 2) (aF))) (dC (.int 1)))) (cu (dL d9 (aA (dC (.str [116,119,111])) (aA (d2 ba (dV 2) (dC (.int 0))) (aA (d2 ba (dV 2) (dC (.int 1))) (aF)))))) (fX))
 (aH (cI (rW (dB (d2 (eqT ak) (dL bW (aA (dV 2) (aF))) (dC (.int 1)))) (dB (d2 (dS λi j=>decide (j<i)) (kX 1 (d2 ba (dV 2) (dC (.int 0)))) (dC (.int 1))))) (cu (dL d9 (aA (dC (.str [109,111,114,101])) (aA (d2 ba (dV 2) (dC (.int 0))) (aF))))) (fX))
 (aH (cQ 3 (kl (bg (oV a) (gV (dV 0) (bS)))))
 (aH (bw 4 (dF (qe [3] (vj (aA (dV 0) (aF))) (dB (jw ak 2 (eO fH (dV 1) (fk) (ee (d1 ig (dC (.int 1))))))) (dV 0))))
 (aH (cI (dB (d2 (dS λi j=>decide (i<j)) (dL bW (aA (dV 4) (aF))) (dL bW (aA (dV 0) (aF))))) (cu (dL d9 (aA (dC (.str [97,112,97,114,116])) (aA (dL iz (aA (dV 4) (aF))) (aF))))) (fX))
 (cu (dC .non))))))))
def uZ(a:Ad):ad Slot:=bI 1 [] (bH 4 (yat a))
def yan(a:Ad):ad aM:=aH (v6 (bg (u_ a) (gV (dV 0) (bS))))
 (pM (bg (uZ a) (gV (d2 ba (dV 0) (dC (.int 1))) (bS))))
def uQ(a:Ad):ad Slot:=bI 1 [] (bH 0 (yan a))
def yaq(a:Ad):ad aM:=aH (v6 (bg (vH a) (gV (dV 0) (bS))))
 (jP (bD [] (aU (bv (bg (zb a) (gV (dV 0) (bS))))) (dB (d2 (nk ak) (bv (bg (uQ a) (gV (dV 0) (bS)))) (dC .non))) (dV 0)))
def xZ(a:Ad):ad Slot:=bI 1 [] (bH 0 (yaq a))
def yaM(a:Ad):ad aM:=aH (cQ 1 (dL cH (aF)))
 (aH (λb=>dy (b9 2 (aU (dV 0)) (gD 1 (dF (bD [2] (aU (dC (.str [97,98,99]))) (cO) (d2 bi (dV 1) (dV 0))))) b))
 (kT 1))
def vS(a:Ad):ad Slot:=bI 1 [] (bH 2 (yaM a))
def yaN(a:Ad):ad aM:=aH (cQ 2 (dL cH (aF)))
 (aH (λb=>dy (b9 3 (aU (dV 0)) (gD 2 (dF (bD [3] (aU (dV 1)) (cO) (d2 bi (dV 1) (dF (dL cH (aA (dV 0) (aF)))))))) b))
 (kT 2))
def vL(a:Ad):ad Slot:=bI 2 [] (bH 2 (yaN a))
def yaH(a:Ad):ad aM:=aH (bw 1 (dF (dL cH (aA (dF (dL cH (aF))) (aF)))))
 (aH (λε=>dy (b9 2 (aU (d2 ba (dV 0) (dC (.int 1)))) (aH (bw 3 (dF (dL cH (aA (dC (.str [])) (aF)))))
 (aH (b9 4 (aU (dV 2)) (bw 3 (cI (dB (d2 (eqT ak) (dV 4) (dC (.str [46])))) (bv (bg (vS a) (gV (dV 3) (bS)))) (dF (bD [4] (aU (dV 3)) (cO) (d2 bi (dV 0) (dV 1)))))))
 (bw 1 (bv (bg (vL a) (gV (dV 1) (gV (dV 3) (bS)))))))) ε))
 (aH (bw 5 (dF (dL sortSetVP (aA (dF (bD [0] (aU (dV 1)) (cO) (dL d9 (aA (d2 ba (dV 1) (dC (.int 0))) (aA (dL iz (aA (dF (dL i8 (aA (dV 0) (aF)))) (aF))) (aF)))))) (aF)))))
 (jP (bD [] (aU (dV 5)) (dB (d2 (eqT ah) (bv (bg (sq a) (gV (dV 0) (bS)))) (dF (dL cH (aF))))) (dV 0)))))
def yL(a:Ad):ad Slot:=bI 1 [] (bH 5 (yaH a))
def yaw(a:Ad):ad aM:=cu (dL qf (aA (dF (bD [0] (aU (dV 1)) (cO) (d2 (iq ak) (dV 1) (d2 ba (dV 0) (dC (.int 1)))))) (aF)))
def vC(a:Ad):ad Slot:=bI 2 [] (bH 0 (yaw a))
def yaS(a:Ad):ad aM:=aH (bw 1 (bv (bg (xZ a) (gV (dV 0) (bS)))))
 (aH (cI (dB (d2 (eqT ak) (dL bW (aA (dV 1) (aF))) (dC (.int 0)))) (uY (.ref a.Never) (λε=>bM ((dC (.str [110,111,32,116,101,120,116,32,104,97,115,32,97,32,118,105,101,119,32,116,104,97,116,32,99,108,101,97,114,115,32,116,104,105,115,32,111,110,101])) ε))) (fX))
 (jP (bD [1] (aU (dF (dL qr (aA (d2 ba (d2 ba (dV 1) (dC (.int 0))) (dC (.int 1))) (aF))))) (dB (bv (bg (vC a) (gV (dV 0) (gV (dV 1) (bS)))))) (dV 0))))
def qB(a:Ad):ad Slot:=bI 1 [] (bH 1 (yaS a))
end Sh
namespace Pu
open L2
theorem bX{X:Cx}(cap:List Nat)(h:AZ X.N X.env.scope a x (x::cap.map λj=>X.N.getD j "") cap=ah:=by kernel_rfl):iu X a x (x::cap.map λj=>X.N.getD j "") cap:=iu.of _ _ rfl rfl h
theorem ll:∀C b c f d,DF (bz X a g C b c f d) E0 [] cO:=λ_ _ _ _ _=>Fx
abbrev dE(P:aP)(w:aI)(K:ax)(c:Str->Option ai)(a:aB)(x:Str)(k:Nat)(b:List Str)(g:ad Slot):=qt (lq P w) P w K c a x k b (fU K g)
theorem dG{K:ax}{m:Str->Option ai}{c:aB}{x:Str}{b:bf}{N i:List Str}{k n:Nat}{d:ad aM}{j:List Nat}(D:cB K m x b)(B:cg N i (bp b))(v:∀(f:ae) (l:ai) (A:aV) (g:List Env) (s:ao) (H:Hp) (E:XK),fP k (A.deeper (jj x (bp b) s.heap.objs.size f l))->gw (iZ p P w K m c N x (bp b) f l A g s H E) E j (fW b) d) (r:(N.length=i.length+n)^0)(u:∀(kV o q:ai) (z:Option ae) (l y:ai) (a:List ai),a.length=i.length->gn (iK x x (jV b) (fW b) (bp b) .none kV o q z l y) ⟨a,[]⟩=pure (i.zip a):=by
   first|exact λ_ _ _ _ _ _ a h=>PF (λ_=>rfl) a h|exact λ_ _ _ _ _ _ a h=>Ll (λ_ _=>rfl) a h|exact λ_ _ _ _ _ _ a h=>Oy (λ_ _ _=>rfl) a h|exact λ_ _ _ _ _ _ a h=>T3 (λ_ _ _ _=>rfl) a h) :
  qt p P w K m c x (k+1) i (fU K (bI i.length j (bH n d))):=MY D B r u v
section
variable{X:Cx}
theorem cf(c:qt f X.prog X.w X.K X.mg X.base x k h (fU X.K g))(l:fP j X.A)(i:sJ f X E)(q:DG X E (e::b) d)(m:(k<=j)^1)(n:Gl X x^0)(o:av x^1) (s:(aX (e::b) X.env=(ak,a8 e X.env)::aX b X.env)^0) (r:((dr a (aX b X.env)).any (·.1)=ak)^0):DR X E (.Call (.Name x p) (e::b) [] a) (bg g d):=TQ c (l.mono m) i q n o s r
end
end Pu
local macro_rules | `(tactic| simp! [$xs,*]) => `(tactic| simp [Pu.aH, Pu.cI, Pu.dB, Pu.d2, Pu.d1, Pu.dV, Pu.dC, Pu.dL, Pu.dF, Pu.aA, Pu.aF, Pu.cu, Pu.pM, Pu.bw, Pu.cQ, Pu.bg, Pu.gV, Pu.gO, Pu.bS, Pu.fN, Pu.gF, Pu.cD, Pu.eQ, Pu.iU, Pu.R.bind, Pu.aR, Pu.bI, Pu.gT, Pu.bH, Pu.back, Pu.gf, Pu.oB, Pu.ja, Pu.AN, Pu.zf, Pu.yP, Pu.bv, Pu.kl, Pu.cH, Pu.d9, Pu.fX, Pu.IS, Pu.v6, Pu.ID, Pu.l8, Pu.zc, Pu.rW, Pu.l6, Pu.ln, Pu.Hr, Pu.p8, Pu.dS, Pu.eW, Pu.vn, Pu.kU, Pu.pT, Pu.imm, Pu.vO, Pu.oK, dQ, o7, $xs,*])
namespace K10
open L2 Pu Sh
noncomputable def df(i:Nat):bf:=PySem.Challenge.pw_slitview_k10_whole_seen_windows.main.body.getD i (.Pass ⟨0,0,0,0⟩)
abbrev AD:bf:=df 41
abbrev Ap:bf:=df 42
abbrev BC:bf:=df 43
abbrev CJ:bf:=df 44
abbrev Ar:bf:=df 46
abbrev Bk:bf:=df 45
abbrev AR:bf:=df 47
abbrev An:bf:=df 48
abbrev Bt:bf:=df 52
abbrev Cc:bf:=df 51
abbrev CS:bf:=df 49
abbrev AB:bf:=df 50
abbrev BO:bf:=df 53
abbrev A1:bf:=df 20
abbrev CU:bf:=df 21
abbrev AU:bf:=df 19
abbrev Cp:bf:=df 22
abbrev A5:bf:=df 23
abbrev Ch:bf:=df 24
abbrev B4:bf:=df 26
abbrev CN:bf:=df 28
abbrev AY:bf:=df 29
abbrev At:bf:=df 36
abbrev BV:bf:=df 25
abbrev CV:bf:=df 27
abbrev Au:bf:=df 31
abbrev AI:bf:=df 32
abbrev ym:bf:=df 33
abbrev CT:bf:=df 34
abbrev By:bf:=df 37
abbrev Bq:bf:=df 38
abbrev BD:bf:=df 39
abbrev Bf:bf:=df 54
abbrev xA:bf:=df 55
structure cZ(K:ax)(mg:Str->Option ai)(base:aB)(a:Ad):Prop where
 yaF:cB K mg "_law_cell_at" AD
 yaI:cB K mg "_law_mixed" Ap
 yaG:cB K mg "_law_draw" BC
 yaJ:cB K mg "_law_pick" CJ
 yaK:cB K mg "_law_seen" Ar
 yaL:cB K mg "_law_text" Bk
 yaP:cB K mg "_law_view" AR
 yaE:cB K mg "_law_blurred" An
 yaN:cB K mg "_law_times" Bt
 yaM:cB K mg "_law_three" Cc
 yaO:cB K mg "_law_under" CS
 yaD:cB K mg "_law_all" AB
 yaH:cB K mg "_law_filled" BO
 yaz:cB K mg "is_whole_number" A1
 yaA:cB K mg "is_width" CU
 yau:cB K mg "has_only" AU
 yaB:cB K mg "is_window" Cp
 yam:cB K mg "are_windows" A5
 yay:cB K mg "is_view_with" Ch
 yav:cB K mg "is_blurred_view" B4
 yao:cB K mg "check_blurred_view" CN
 yaT:cB K mg "windows_that_fit" AY
 yar:cB K mg "clearing_views" At
 yax:cB K mg "is_view" BV
 yap:cB K mg "check_view" CV
 yas:cB K mg "excesses" Au
 yaR:cB K mg "reached_pieces" AI
 yat:cB K mg "find_bar" ym
 yan:cB K mg "bar" CT
 yaq:cB K mg "cleared" By
 yaw:cB K mg "is_in_all" Bq
 yaS:cB K mg "seen" BD
 yaQ:cB K mg "_law_which" Bf
 yaC:cB K mg "law" xA
 yaU:mg "ValueError"=af
 yaV:mg "all"=af
 yaW:mg "bool"=af
 yaX:mg "enumerate"=af
 yaY:mg "int"=af
 yaZ:mg "isinstance"=af
 ya0:mg "len"=af
 ya1:mg "list"=af
 ya2:mg "range"=af
 ya3:mg "set"=af
 ya4:mg "sorted"=af
 ya5:mg "str"=af
 ya6:mg "tuple"=af
 ya9:∃t,mg "LETTERS"=aa (.str (tS [97,98,99]) t)
 yba:∃t,mg "MOST_POINTS"=aa (.int 6 t)
 ybb:∃t,mg "MOST_WINDOWS"=aa (.int 9 t)
 ybc:∃t,mg "POINT"=aa (.str (tS [46]) t)
 ybd:∃t,mg "WIDEST"=aa (.int 4 t)
 yak:mg "SlitError"=aa (.ref a.SlitError)
 yaf:mg "NoText"=aa (.ref a.NoText)
 yah:mg "NoWidth"=aa (.ref a.NoWidth)
 yag:mg "NoView"=aa (.ref a.NoView)
 yai:mg "NoWindow"=aa (.ref a.NoWindow)
 yac:mg "Never"=aa (.ref a.Never)
 yab:mg "Full"=aa (.ref a.Full)
 yaj:mg "Nothing"=aa (.ref a.Nothing)
 yal:mg "Unlike"=aa (.ref a.Unlike)
 yae:mg "NoPlace"=aa (.ref a.NoPlace)
 yad:mg "NoLetters"=aa (.ref a.NoLetters)
 yaa:mg "BadText"=aa (.ref a.BadText)
 ya8:OwnCls "NoView" a.NoView [.type "ValueError",.type "Exception",.type "BaseException",.type "object"] "ValueError.__new__" mg base
 ya7:OwnCls "Never" a.Never [.type "ValueError",.type "Exception",.type "BaseException",.type "object"] "ValueError.__new__" mg base
 err_SlitError:qy base a.SlitError
 und:∀c,pL a c=ah->Under base a.SlitError c
 tab:Bb K (jA a)
section
variable{P:aP}{w:aI}{K:ax}{c:Str->Option ai}{b:aB}{a:Ad}
theorem R6:cg ["_law_script","_law_k"] ["_law_script","_law_k"] (bp AD):=by ac_nf
theorem Sq(G:cZ K c b a):dE P w K c b "_law_cell_at" 1 ["_law_script","_law_k"] (sE a) :=
 dG G.yaF R6 (λf h A d s H E g=>by exact
  (bj (jY (gy Ct kr (au 1) (cY iE jd G.ya0 i6 (aG (au 0) aY)) rfl) (br (dX (eG et eI (au 0) (au 1)))) jU)
  (bj (jY (gy (lD g.units) lu (au 0) (jZ aY) rfl) (br (dX a_)) jU)
  (br (dX (cS fR fO (cS Bz A9 (eG et eI (au 0) (cS rT tI (au 1) (cY iE jd G.ya0 i6 (aG (au 0) aY)))) a_) (au 1)))))))
theorem Q0:cg ["_law_script","_law_k","_law_many","_law_drawn"] ["_law_script","_law_k","_law_many"] (bp Ap):=by ac_nf
theorem K6(G:cZ K c b a):dE P w K c b "_law_mixed" 2 ["_law_script","_law_k","_law_many"] (zh a) :=
 dG G.yaI Q0 (λf h A d s H E g=>by exact
  (bj (d_ 3 Q0.nd (cS rT tI (cS fR fO (cS fR fO (cS Bz A9 ((cf (Sq G) g d7 (a9 (au 0) (a9 (au 1) b8)))).de a_) (cS Bz A9 a_ (au 1))) a_) a_))
  (br (dX (cS rT tI (cS rT tI (cS rT tI (cS Te U8 (au 3) a_) a_) a_) (au 2))))))
theorem Um:cg ["_law_script","_law_town","_law_many"] ["_law_script","_law_town","_law_many"] (bp BC):=by ac_nf
theorem l7(G:cZ K c b a):dE P w K c b "_law_draw" 3 ["_law_script","_law_town","_law_many"] (gY a) :=
 dG G.yaG Um (λf h A d s H E g=>by exact
  (bj (QH 1 a_)
  (br (As (cf (K6 G) g d7 (a9 (au 0) (a9 (HD 1 iE jd G.ya0 i6) (a9 (au 2) b8))))))))
theorem Q3:cg ["_law_script","_law_town","_law_some"] ["_law_script","_law_town","_law_some"] (bp CJ):=by ac_nf
theorem Ji(G:cZ K c b a):dE P w K c b "_law_pick" 4 ["_law_script","_law_town","_law_some"] (vk a) :=
 dG G.yaJ Q3 (λf h A d s H E g=>by exact
  (br (dX (eG et eI (au 2) ((cf (l7 G) g d7 (a9 (au 0) (iV 1 (a9 (cY iE jd G.ya0 i6 (aG (au 2) aY)) b8))))).de))))
theorem TC:cg ["_law_text_here","_law_width"] ["_law_text_here","_law_width"] (bp Ar):=by ac_nf
theorem Ax(G:cZ K c b a):dE P w K c b "_law_seen" 1 ["_law_text_here","_law_width"] (oN a) :=
 dG G.yaK TC (λf m A h s H E l=>by exact
  (br (dX (tE sY s_ G.ya6 oJ (aG (uW rY tu G.ya4 mn (aG (io (bX [0,1]) rfl (uV G.ya2 (aG (cY iE jd G.ya0 i6 (aG (au 0) aY)) aY)) (λC d g j i=>by exact ny (gy pJ kr (cS fR fO (au 0) (au 2)) (cY iE jd G.ya0 i6 (aG (au 1) aY)) rfl)) (λC d g j i=>by exact(lC lI lE (au 1) (kJ (au 0)) (kJ (cS fR fO (au 0) (au 2)))))).de aY)).de aY)))))
theorem UX:cg ["_law_script","_law_town","_law_low","_law_most","_law_few","_law_made","_law_k"] ["_law_script","_law_town","_law_low","_law_most"] (bp Bk):=by ac_nf
theorem Ft(G:cZ K c b a):dE P w K c b "_law_text" 5 ["_law_script","_law_town","_law_low","_law_most"] (r_ a) :=
 dG G.yaL UX (λf h A d s H E g=>by exact
  (bj (d_ 4 UX.nd ((cf (Ji G) g d7 (a9 (au 0) (iV 1 (a9 (jZ (aG a_ (aG a_ (aG a_ (aG a_ (aG a_ (aG a_ aY))))))) b8))))).de)
  (bj (d_ 5 UX.nd (gG []))
  (bj (kL (iY 6 iN rfl UX.nd (uV G.ya2 (aG (cS fR fO (au 2) ((cf (l7 G) g jc (a9 (au 0) (iV 1 (a9 (cS fR fO (cS xH xK (au 3) (au 2)) a_) b8))))).de) aY)) (br (d_ 5 UX.nd (cS fR fO (au 5) (eG et eI (gG [97,98,99]) ((cf (l7 G) g jc (a9 (au 0) (iV 1 (a9 (au 4) b8))))).de))))))
  (br (dX (au 5)))))))
theorem T7:cg ["_law_script","_law_town","_law_spoil","_law_most","_law_width","_law_windows","_law_k"] ["_law_script","_law_town","_law_spoil","_law_most"] (bp AR):=by ac_nf
theorem S8(G:cZ K c b a):dE P w K c b "_law_view" 6 ["_law_script","_law_town","_law_spoil","_law_most"] (uA a) :=
 dG G.yaP T7 (λf h A g s H E d=>by exact
  (bj (d_ 4 T7.nd (BP (gy (xU d.units) yM (au 2) a_ rfl) (cS fR fO a_ ((cf (l7 G) d d7 (a9 (au 0) (iV 1 (a9 a_ b8))))).de) (cS fR fO a_ ((cf (l7 G) d d7 (a9 (au 0) (iV 1 (a9 a_ b8))))).de)))
  (bj (kq 5 T7.nd (Br Jj Hh G.ya1 AT (aG ((cf (Ax G) d d7 (a9 ((cf (Ft G) d d7 (a9 (au 0) (iV 1 (a9 (au 4) (a9 (cS xH xK (cS fR fO (au 4) (au 3)) a_) b8)))))).de (a9 (au 4) b8)))).de aY)))
  (bj (kL (iY 6 iN rfl T7.nd (uV G.ya2 (aG (cS rT tI (au 2) a_) aY)) (br (Ro 5 ((cf (l7 G) d jc (a9 (au 0) (iV 1 (a9 (HD 5 iE jd G.ya0 i6) b8))))).de ((cf (Ft G) d jc (a9 (au 0) (iV 1 (a9 (au 4) (a9 (au 4) b8)))))).de))))
  (br (dX (kK (aG (au 4) (aG (tE sY s_ G.ya6 oJ (aG (Ry 5 rY tu G.ya4 mn).de aY)) aY)))))))))
theorem Ou:cg ["_law_script","_law_town","_law_asked","_law_most","_law_windows","_law_k"] ["_law_script","_law_town","_law_asked","_law_most"] (bp An):=by ac_nf
theorem SH(G:cZ K c b a):dE P w K c b "_law_blurred" 4 ["_law_script","_law_town","_law_asked","_law_most"] (yF a) :=
 dG G.yaE Ou (λf m A h s H E i=>by exact
  (bj (QI 4 Ou.nd (bX []) rfl (dO (eG et eI (au 2) a_)) (λC d g l j=>by exact Br (SN rfl) Q9 G.ya1 AT (aG (au 0) aY)))
  (bj (kL (iY 5 iN rfl Ou.nd (uV G.ya2 (aG ((cf (l7 G) i jc (a9 (au 0) (iV 1 (a9 (cS fR fO (au 3) a_) b8))))).de aY)) (br (U3 4 ((cf (l7 G) i jc (a9 (au 0) (iV 1 (a9 (Se 4 G.ya0) b8))))).de ((cf (l7 G) i jc (a9 (au 0) (iV 1 (a9 (eG et eI (au 2) a_) b8))))).de (gG [46])))))
  (br (dX (kK (aG (eG et eI (au 2) a_) (aG (tE sY s_ G.ya6 oJ (aG (uW rY tu G.ya4 mn (aG (io (bX []) rfl (dO (La 4)) ll (λC d g l j=>by exact(Bm PySem.F.slot_str_join PySem.F.type_str_join FK G6 (gG []) (aG (au 0) aY)))).de aY)).de aY)) aY))))))))
theorem Oa:cg ["_law_rows","_law_made","_law_longer","_law_row"] ["_law_rows","_law_made"] (bp Bt):=by ac_nf
theorem Mp(G:cZ K c b a):dE P w K c b "_law_times" 1 ["_law_rows","_law_made"] (vL a) :=
 dG G.yaN Oa (λf m A d s H E j=>by exact
  (bj (kq 2 Oa.nd (pR aY))
  (bj (kL (iY 3 iN rfl Oa.nd (dO (au 0)) (br (sB 2 (io (bX [3]) rfl (dO (au 1)) ll (λC g h l i=>by exact(cS fR fO (au 1) (jZ (aG (au 0) aY))))).de))))
  (br (yI 2)))))
theorem Qy:cg ["_law_made","_law_longer","_law_line"] ["_law_made"] (bp Cc):=by ac_nf
theorem Tw(G:cZ K c b a):dE P w K c b "_law_three" 1 ["_law_made"] (vS a) :=
 dG G.yaM Qy (λf m A d s H E j=>by exact
  (bj (kq 1 Qy.nd (pR aY))
  (bj (kL (iY 2 iN rfl Qy.nd (dO (au 0)) (br (sB 1 (io (bX [2]) rfl (dO (gG [97,98,99])) ll (λC g h l i=>by exact(cS fR fO (au 1) (au 0)))).de))))
  (br (yI 1)))))
theorem LP:cg ["_law_text_here","_law_width","_law_windows","_law_made"] ["_law_text_here","_law_width","_law_windows"] (bp CS):=by ac_nf
theorem Qs(G:cZ K c b a):dE P w K c b "_law_under" 2 ["_law_text_here","_law_width","_law_windows"] (oX a) :=
 dG G.yaO LP (λf m A d s H E i=>by exact
  (bj (d_ 3 LP.nd ((cf (Ax G) i d7 (a9 (au 0) (a9 (au 1) b8)))).de)
  (br (dX (cY (ze rfl) zx G.yaV zp (aG (io (bX [3,2]) rfl (dO (au 3)) ll (λC g h l j=>by exact(nI pJ kr (Ha (au 1) (au 0)) (Ha (au 2) (au 0)) rfl))).de aY))))))
theorem NE:cg ["_law_asked","_law_width","_law_windows","_law_rows","_law_k","_law_longer","_law_line"] ["_law_asked"] (bp AB):=by ac_nf
theorem Nf(G:cZ K c b a):dE P w K c b "_law_all" 3 ["_law_asked"] (sq a) :=
 dG G.yaD NE (λf m A i s H E j=>by exact
  (bj (UF 1 2 rfl NE.nd (au 0))
  (bj (d_ 3 NE.nd (jZ (aG (gG []) aY)))
  (bj (kL (iY 4 iN rfl NE.nd (uV G.ya2 (aG (cS xH xK (cS fR fO (cY iE jd G.ya0 i6 (aG (au 2) aY)) (au 1)) a_) aY)) (bj (kq 5 NE.nd (pR aY))
  (bj (iY 6 iN rfl NE.nd (dO (au 3)) (br (sB 5 (io (bX [6,1,2]) rfl (dO (gG [97,98,99])) (λC d g l h=>by exact ny (o0 ((cf (Qs G) j jc (a9 (cS fR fO (au 1) (au 0)) (a9 (au 2) (a9 (au 3) b8))))).de)) (λC d g l h=>by exact(cS fR fO (au 1) (au 0)))).de)))
  (br (d_ 3 NE.nd (Je 5)))))))
  (br (vh (io (bX [1,2]) rfl (dO (au 3)) (λC d g l h=>by exact ny (gy (lD j.units) lu ((cf (Ax G) j jc (a9 (au 0) (a9 (au 1) b8)))).de (au 2) rfl)) (λC d g l h=>by exact(au 0)))))))))
theorem Tf:cg ["_law_blurred_here","_law_rows","_law_other","_law_made","_law_sign","_law_views"] ["_law_blurred_here"] (bp BO):=by ac_nf
theorem Sy(G:cZ K c b a):dE P w K c b "_law_filled" 4 ["_law_blurred_here"] (yL a) :=
 dG G.yaH Tf (λf m A j s H E h=>by exact
  (bj (d_ 1 Tf.nd (jZ (aG (jZ aY) aY)))
  (bj (kL (iY 2 iN rfl Tf.nd (dO (eG et eI (au 0) a_)) (bj (d_ 3 Tf.nd (jZ (aG (gG []) aY)))
  (bj (iY 4 iN rfl Tf.nd (dO (au 2)) (br (d_ 3 Tf.nd (BP (gy (lD h.units) lu (au 4) (gG [46]) rfl) ((cf (Tw G) h jc (a9 (au 3) b8))).de (io (bX [4]) rfl (dO (au 3)) ll (λC d g l i=>by exact(cS fR fO (au 0) (au 1)))).de))))
  (br (d_ 1 Tf.nd ((cf (Mp G) h jc (a9 (au 1) (a9 (au 3) b8)))).de))))))
  (bj (d_ 5 Tf.nd (dn_sortSetV h.units rfl (aG (io (bX [0]) rfl (dO (au 1)) ll (λC d g l i=>by exact(kK (aG (eG et eI (au 1) a_) (aG (tE sY s_ G.ya6 oJ (aG (uW rY tu G.ya4 mn (aG (au 0) aY)).de aY)) aY))))).de aY) G.ya4 G.ya3).de)
  (br (vh (io (bX []) rfl (dO (au 5)) (λC d g l i=>by exact ny (gy (xU h.units) yM ((cf (Nf G) h jc (a9 (au 0) b8))).de (jZ aY) rfl)) (λC d g l i=>by exact(au 0)))))))))
theorem OL:cg ["thing"] ["thing"] (bp A1):=by ac_nf
theorem Mu(G:cZ K c b a):dE P w K c b "is_whole_number" 1 ["thing"] (AC a) :=
 dG G.yaz OL (λf h A d s H E g=>by exact
  (br (dX (qo (cY rR sF G.yaZ iA (aG (au 0) (aG (rX G.yaY Rn) aY))) (rM (SQ (cY rR sF G.yaZ iA (aG (au 0) (aG (rX G.yaW Ra) aY)))))))))
theorem T4:cg ["thing"] ["thing"] (bp CU):=by ac_nf
theorem OH(G:cZ K c b a):dE P w K c b "is_width" 2 ["thing"] (tw a) :=
 dG G.yaA T4 (λf h A d s H E g=>by exact
  (br (dX (qo ((cf (Mu G) g d7 (a9 (au 0) b8))).de (rM (UE pJ pJ kr kr a_ (au 0) (Cy G.ybd)))))))
theorem ML:cg ["text","signs"] ["text","signs"] (bp AU):=by ac_nf
theorem Q7(G:cZ K c b a):dE P w K c b "has_only" 1 ["text","signs"] (zj a) :=
 dG G.yau ML (λf m A d s H E j=>by exact
  (br (dX (cY (ze rfl) zx G.yaV zp (aG (io (bX [1]) rfl (dO (au 0)) ll (λC g h l i=>by exact(nI Cv Ao (au 0) (au 1) rfl))).de aY)))))
theorem MV:cg ["thing","width","signs"] ["thing","width","signs"] (bp Cp):=by ac_nf
theorem Ov(G:cZ K c b a):dE P w K c b "is_window" 2 ["thing","width","signs"] (sT a) :=
 dG G.yaB MV (λf h A d s H E g=>by exact
  (br (dX (qo (cY rR sF G.yaZ iA (aG (au 0) (aG (rX G.ya5 Po) aY))) (qo (nI (lD g.units) lu (cY iE jd G.ya0 i6 (aG (au 0) aY)) (au 1) rfl) (rM ((cf (Q7 G) g d7 (a9 (au 0) (a9 (au 2) b8)))).de))))))
theorem SY:cg ["thing","width","signs"] ["thing","width","signs"] (bp A5):=by ac_nf
theorem Pg(G:cZ K c b a):dE P w K c b "are_windows" 3 ["thing","width","signs"] (oQ a) :=
 dG G.yam SY (λf m A d s H E h=>by exact
  (bj (jY ((xV (pP (o0 (cY rR sF G.yaZ iA (aG (au 0) (aG (rX G.ya6 oJ) aY))))) (xR (pP (MQ pJ pJ kr kr a_ (cY iE jd G.ya0 i6 (aG (au 0) aY)) (Cy G.ybb)))))).dt (br (dX ml)) jU)
  (bj (jY (pP (o0 (cY (ze rfl) zx G.yaV zp (aG (io (bX [1,2]) rfl (dO (au 0)) ll (λC g i l j=>by exact((cf (Ov G) h jc (a9 (au 0) (a9 (au 1) (a9 (au 2) b8))))).de)).de aY)))) (br (dX ml)) jU)
  (br (dX (nI (lD h.units) lu (Br Jj Hh G.ya1 AT (aG (au 0) aY)).de (uW rY tu G.ya4 mn (aG (au 0) aY)).de rfl))))))
theorem Le:cg ["thing","signs"] ["thing","signs"] (bp Ch):=by ac_nf
theorem FA(G:cZ K c b a):dE P w K c b "is_view_with" 4 ["thing","signs"] (oS a) :=
 dG G.yay Le (λf h A d s H E g=>by exact
  (bj (jY ((xV (pP (o0 (cY rR sF G.yaZ iA (aG (au 0) (aG (rX G.ya6 oJ) aY))))) (xR (gy (xU g.units) yM (cY iE jd G.ya0 i6 (aG (au 0) aY)) a_ rfl)))).dt (br (dX ml)) jU)
  (br (dX (qo ((cf (OH G) g d7 (a9 (eG et eI (au 0) a_) b8))).de (rM ((cf (Pg G) g d7 (a9 (eG et eI (au 0) a_) (a9 (eG et eI (au 0) a_) (a9 (au 1) b8))))).de))))))
theorem Od:cg ["thing"] ["thing"] (bp B4):=by ac_nf
theorem LO(G:cZ K c b a):dE P w K c b "is_blurred_view" 5 ["thing"] (oI a) :=
 dG G.yav Od (λf h A d s H E g=>by exact
  (br (dX (qo ((cf (FA G) g d7 (a9 (au 0) (a9 (cS fR fO (tt G.ybc) (tt G.ya9)) b8)))).de (rM (nI pJ kr (Bm PySem.F.slot_str_count PySem.F.type_str_count Rb Sj (Bm PySem.F.slot_str_join PySem.F.type_str_join FK G6 (gG []) (aG (eG et eI (au 0) a_) aY)) (aG (tt G.ybc) aY)) (Cy G.yba) rfl))))))
theorem TN:cg ["thing"] ["thing"] (bp CN):=by ac_nf
theorem Uo(G:cZ K c b a):dE P w K c b "check_blurred_view" 6 ["thing"] (vH a) :=
 dG G.yao TN (λf h A d s H E g=>by exact
  (br (jY (pP (o0 ((cf (LO G) g d7 (a9 (au 0) b8))).de)) (br (BN AF rfl G.ya8 Kn (gG [97,32,98,108,117,114,114,101,100,32,118,105,101,119,32,105,115,32,97,32,118,105,101,119,32,111,102,32,119,104,111,115,101,32,108,101,116,116,101,114,115,32,117,112,32,116,111,32,54,32,109,97,121,32,98,101,32,112,111,105,110,116,115]))) jU)))
theorem Pp:cg ["blurred_window","found","sign","letters","longer","start"] ["blurred_window"] (bp AY):=by ac_nf
theorem Rw(G:cZ K c b a):dE P w K c b "windows_that_fit" 1 ["blurred_window"] (sh a) :=
 dG G.yaT Pp (λf m A d s H E i=>by exact
  (bj (d_ 1 Pp.nd (jZ (aG (gG []) aY)))
  (bj (kL (iY 2 iN rfl Pp.nd (dO (au 0)) (bj (d_ 3 Pp.nd (BP (gy (lD i.units) lu (au 2) (tt G.ybc) rfl) (tt G.ya9) (au 2)))
  (bj (kq 4 Pp.nd (pR aY))
  (bj (iY 5 iN rfl Pp.nd (dO (au 1)) (br (sB 4 (io (bX [5]) rfl (dO (au 3)) ll (λC g h l j=>by exact(cS fR fO (au 1) (au 0)))).de)))
  (br (d_ 1 Pp.nd (Je 4))))))))
  (br (dX (au 1))))))
theorem Lp:cg ["blurred","ways","blurred_window","longer","windows","window"] ["blurred"] (bp At):=by ac_nf
theorem Sw(G:cZ K c b a):dE P w K c b "clearing_views" 2 ["blurred"] (zb a) :=
 dG G.yar Lp (λf m A g s H E d=>by exact
  (bj (kq 1 Lp.nd (Nv d.units (kK aY) ml))
  (bj (kL (iY 2 iN rfl Lp.nd (dO (eG et eI (au 0) a_)) (bj (kq 3 Lp.nd NV)
  (bj (Nx 4 1 iN rfl Lp.nd (br (iY 5 iN rfl Lp.nd (dO ((cf (Rw G) d jc (a9 (au 2) b8))).de) (br (U2 3 d.units (tE sY s_ G.ya6 oJ (aG (uW rY tu G.ya4 mn (aG (cS Ms Qi (au 4) (kK (aG (au 5) aY))) aY)).de aY)) ml)))))
  (br (Nq 1 3 Lp.nd))))))
  (br (vh (io (bX [0]) rfl (dO (UD 1 d.units rfl G.ya4).de) ll (λC h i l j=>by exact(kK (aG (eG et eI (au 1) a_) (aG (au 0) aY))))))))))
theorem Mc:cg ["thing"] ["thing"] (bp BV):=by ac_nf
theorem SU(G:cZ K c b a):dE P w K c b "is_view" 5 ["thing"] (yH a) :=
 dG G.yax Mc (λf h A d s H E g=>by exact
  (br (As (cf (FA G) g d7 (a9 (au 0) (a9 (tt G.ya9) b8))))))
theorem U0:cg ["thing"] ["thing"] (bp CV):=by ac_nf
theorem Ti(G:cZ K c b a):dE P w K c b "check_view" 6 ["thing"] (u_ a) :=
 dG G.yap U0 (λf h A d s H E g=>by exact
  (br (jY (pP (o0 ((cf (SU G) g d7 (a9 (au 0) b8))).de)) (br (BN AF rfl G.ya8 Kn (gG [97,32,118,105,101,119,32,105,115,32,97,32,116,117,112,108,101,32,111,102,32,97,32,119,105,100,116,104,32,97,110,100,32,97,32,114,105,115,105,110,103,32,116,117,112,108,101,32,111,102,32,49,32,116,111,32,57,32,119,105,110,100,111,119,115]))) jU)))
theorem O0:cg ["windows","excess","window"] ["windows"] (bp Au):=by ac_nf
theorem R5(G:cZ K c b a):dE P w K c b "excesses" 1 ["windows"] (rQ a) :=
 dG G.yas O0 (λf h A g s H E d=>by exact
  (bj (kq 1 O0.nd (M3))
  (bj (kL (iY 2 iN rfl O0.nd (dO (au 0)) (bj (zm 1 d.units (lC lI lE (au 2) mj (kJ (qb pW qA a_))) (cS fR fO (HQ 1 d.units (lC lI lE (au 2) mj (kJ (qb pW qA a_))) a_) a_))
  (br (zm 1 d.units (lC lI lE (au 2) (kJ a_) mj) (cS xH xK (HQ 1 d.units (lC lI lE (au 2) (kJ a_) mj) a_) a_))))))
  (br (yI 1)))))
theorem Uk:cg ["windows","reached","known","window"] ["windows"] (bp AI):=by ac_nf
theorem S7(G:cZ K c b a):dE P w K c b "reached_pieces" 1 ["windows"] (oV a) :=
 dG G.yaR Uk (λf h A g s H E d=>by exact
  (bj (kq 1 Uk.nd (On (lC lI lE (eG et eI (au 0) a_) mj (kJ (qb pW qA a_))) ml))
  (bj (d_ 2 Uk.nd a_)
  (bj (kL (PH (λ_=>1000) iN (gy Ct kr (au 2) (Il 1 G.ya0) rfl) (bj (d_ 2 Uk.nd (Il 1 G.ya0))
  (br (iY 3 iN rfl Uk.nd (dO (au 0)) (br (jY ((xV (BE 1 d.units (lC lI lE (au 3) mj (kJ (qb pW qA a_)))) (xR (BE 1 d.units (lC lI lE (au 3) (kJ a_) mj))))).dt (bj (zm 1 d.units (lC lI lE (au 3) mj (kJ (qb pW qA a_))) ml)
  (br (zm 1 d.units (lC lI lE (au 3) (kJ a_) mj) ml))) jU)))))))
  (br (yI 1))))))
theorem Sg:cg ["windows","excess","starts","reached","places"] ["windows"] (bp ym):=by ac_nf
theorem RG(G:cZ K c b a):dE P w K c b "find_bar" 2 ["windows"] (uZ a) :=
 dG G.yat Sg (λf n A l s H E h=>by exact
  (bj (kq 1 Sg.nd (((cf (R5 G) h d7 (a9 (au 0) b8))).dn))
  (bj (ES 2 Sg.nd (bX [1]) rfl (dO (PP 1 rfl G.ya4).de) (λC d g m i=>by exact ny (gy Bi kr (Gu 1 h.units (au 0)) a_ rfl)) (λC d g m i=>by exact(au 0)))
  (bj (jY (gy Bi kr (cY iE jd G.ya0 i6 (aG (au 2) aY)) a_ rfl) (br (dX (kK (aG (gG [116,119,111]) (aG (eG et eI (au 2) a_) (aG (eG et eI (au 2) a_) aY)))))) jU)
  (bj (jY ((OU (gy (lD h.units) lu (cY iE jd G.ya0 i6 (aG (au 2) aY)) a_ rfl) (LF (gy Bi kr (Gu 1 h.units (eG et eI (au 2) a_)) a_ rfl)))).dt (br (dX (kK (aG (gG [109,111,114,101]) (aG (eG et eI (au 2) a_) aY))))) jU)
  (bj (kq 3 Sg.nd (((cf (S7 G) h d7 (a9 (au 0) b8))).dn))
  (bj (Ue 4 Sg.nd (cap:=[3]) (j:=5) (N':=["place","window","reached"]) (iu.of ["windows","excess","starts","reached","places"] (bp ym) rfl rfl (by decide +kernel)) rfl (R8 G.yaX (aG (au 0) aY)) (λC d g m i=>by exact ny (BE 2 h.units (lC lI lE (au 1) mj (kJ (qb pW qA a_))))) (λC d g m i=>by exact(au 0)))
  (bj (jY (gy Ct kr (cY iE jd G.ya0 i6 (aG (au 4) aY)) (cY iE jd G.ya0 i6 (aG (au 0) aY)) rfl) (br (dX (kK (aG (gG [97,112,97,114,116]) (aG (tE sY s_ G.ya6 oJ (aG (au 4) aY)) aY))))) jU)
  (br (dX xE))))))))))
theorem Q6:cg ["view"] ["view"] (bp CT):=by ac_nf
theorem RM(G:cZ K c b a):dE P w K c b "bar" 7 ["view"] (uQ a) :=
 dG G.yan Q6 (λf h A d s H E g=>by exact
  (bj (EQ (cf (Ti G) g d7 (a9 (au 0) b8)))
  (br (As (cf (RG G) g d7 (a9 (eG et eI (au 0) a_) b8))))))
theorem O7:cg ["blurred"] ["blurred"] (bp By):=by ac_nf
theorem LL(G:cZ K c b a):dE P w K c b "cleared" 8 ["blurred"] (xZ a) :=
 dG G.yaq O7 (λf m A h s H E i=>by exact
  (bj (EQ (cf (Uo G) i d7 (a9 (au 0) b8)))
  (br (vh (io (bX []) rfl (dO ((cf (Sw G) i d7 (a9 (au 0) b8))).de) (λC d g l j=>by exact ny (gy EC Io ((cf (RM G) i jc (a9 (au 0) b8))).de xE rfl)) (λC d g l j=>by exact(au 0)))))))
theorem Ly:cg ["window","views"] ["window","views"] (bp Bq):=by ac_nf
theorem S_(G:cZ K c b a):dE P w K c b "is_in_all" 1 ["window","views"] (vC a) :=
 dG G.yaw Ly (λf m A d s H E j=>by exact
  (br (dX (cY (ze rfl) zx G.yaV zp (aG (io (bX [0]) rfl (dO (au 1)) ll (λC g h l i=>by exact(nI Cv Ao (au 1) (eG et eI (au 0) a_) rfl))).de aY)))))
theorem SV:cg ["blurred","views"] ["blurred"] (bp BD):=by ac_nf
theorem S5(G:cZ K c b a):dE P w K c b "seen" 9 ["blurred"] (qB a) :=
 dG G.yaS SV (λf m A h s H E i=>by exact
  (bj (d_ 1 SV.nd ((cf (LL G) i d7 (a9 (au 0) b8))).de)
  (bj (jY (gy (lD i.units) lu (cY iE jd G.ya0 i6 (aG (au 1) aY)) a_ rfl) (br (BN AF rfl G.ya7 Kn (gG [110,111,32,116,101,120,116,32,104,97,115,32,97,32,118,105,101,119,32,116,104,97,116,32,99,108,101,97,114,115,32,116,104,105,115,32,111,110,101]))) jU)
  (br (vh (io (bX [1]) rfl (dO (Fo rfl (aG (eG et eI (eG et eI (au 1) a_) a_) aY) G.ya4 G.ya3).de) (λC d g l j=>by exact ny (o0 ((cf (S_ G) i jc (a9 (au 0) (a9 (au 1) b8)))).de)) (λC d g l j=>by exact(au 0))))))))
theorem M5:cg ["_law_e","_law_own"] ["_law_e"] (bp Bf):=by ac_nf
theorem OM(G:cZ K c b a):yc P w K c b "_law_which" 1 ["_law_e"] (fU K (vK a)) :=
 Ng (k:=0) (pin:=[]) G.yaQ M5 rfl (λ_ _ _ _ _ _ g i=>Pu.PF (λ_=>rfl) g i) (λf j A d s H h=>by exact
  (bj (kq 1 M5.nd (pR (aG (cY kW (kQ G.tab) G.yaZ iA (aG (au 0) (aG (ly G.yaf) aY))) (aG (cY kW (kQ G.tab) G.yaZ iA (aG (au 0) (aG (ly G.yah) aY))) (aG (cY kW (kQ G.tab) G.yaZ iA (aG (au 0) (aG (ly G.yag) aY))) (aG (cY kW (kQ G.tab) G.yaZ iA (aG (au 0) (aG (ly G.yai) aY))) aY))))))
  (bj (sB 1 (jZ (aG (cY kW (kQ G.tab) G.yaZ iA (aG (au 0) (aG (ly G.yac) aY))) (aG (cY kW (kQ G.tab) G.yaZ iA (aG (au 0) (aG (ly G.yab) aY))) (aG (cY kW (kQ G.tab) G.yaZ iA (aG (au 0) (aG (ly G.yaj) aY))) (aG (cY kW (kQ G.tab) G.yaZ iA (aG (au 0) (aG (ly G.yal) aY))) aY))))))
  (bj (sB 1 (jZ (aG (cY kW (kQ G.tab) G.yaZ iA (aG (au 0) (aG (ly G.yae) aY))) (aG (cY kW (kQ G.tab) G.yaZ iA (aG (au 0) (aG (ly G.yad) aY))) (aG (cY kW (kQ G.tab) G.yaZ iA (aG (au 0) (aG (ly G.yaa) aY))) aY)))))
  (bj (jY ((xV (gy (xU h.units) yM (NJ 1 ml) a_ rfl) (xR (pP (o0 (cY kW (kQ G.tab) G.yaZ iA (aG (au 0) (aG (rX G.yaU SZ) aY)))))))).dt (br (dX (kK (aG (gG [114,101,102,117,115,101,100]) (aG (qb pW qA a_) aY))))) jU)
  (br (dX (kK (aG (gG [114,101,102,117,115,101,100]) (aG (L9 1 ml) aY))))))))))
def yaC(a:Ad):ad aM:=aH (cQ 1 (dL cH (aF)))
 (aH (bw 2 (bv (bg (vk a) (gV (dV 0) (gO 1 (gV (dF (dL cH (aA (dC (.int 0)) (aA (dC (.int 0)) (aA (dC (.int 0)) (aA (dC (.int 1)) (aA (dC (.int 2)) (aF)))))))) (bS)))))))
 (aH (bw 3 (bv (bg (gY a) (gV (dV 0) (gO 1 (gV (dC (.int 5)) (bS)))))))
 (aH (bw 4 (bv (bg (uA a) (gV (dV 0) (gO 1 (gV (dV 2) (gV (dC (.int 6)) (bS))))))))
 (aH (bw 5 (bv (bg (yF a) (gV (dV 0) (gO 1 (gV (dV 4) (gV (dV 3) (bS))))))))
 (aH (bw 6 (bv (bg (yL a) (gV (dV 5) (bS)))))
 (aH (bw 7 (dC .non))
 (aH (bw 8 (dF (dL cH (aF))))
 (aH (sr 8 9 (pL a) (sW (sL (qB a) (gV (dV 5) (bS)))) (bw 7 (bv (λd=>bM (bg (vK a) (gV (dV 9) (bS)) d)))))
 (aH (cI (dB (d2 (eqT ak) (dV 6) (dF (dL cH (aF))))) (cu (d2 (eqT ak) (dV 7) (dL d9 (aA (dC (.str [114,101,102,117,115,101,100])) (aA (dC (.int 4)) (aF)))))) (fX))
 (aH (bw 10 (dF (dL qr (aA (d2 ba (d2 ba (dV 6) (dC (.int 0))) (dC (.int 1))) (aF)))))
 (aH (λd=>dy (b9 11 (aU (dV 6)) (bw 10 (dF (bD [11] (aU (dV 10)) (dB (d2 (iq ak) (dV 0) (d2 ba (dV 1) (dC (.int 1))))) (dV 0)))) d))
 (cu (ln (d2 (nk ak) (dV 7) (dC .non)) (d2 (eqT ak) (dV 8) (dV 10)))))))))))))))
def rZ(a:Ad):ad Slot:=bI 1 [] (bH 11 (yaC a))
theorem QG:cg ["_law_script","_law_town","_law_spoil","_law_few","_law_asked","_law_blurred_here","_law_views","_law_caught","_law_made","_law_e","_law_due","_law_some"] ["_law_script"] (bp xA):=by ac_nf
theorem Qn(G:cZ K c b a)(r:pV K "law" "law" xA f m):lv P w K c b (lq P w) 10 f m ["_law_script"] (fU K (rZ a)) :=
 OT (k:=9) (pin:=[]) r QG rfl (λ_ _ _ _ _ _ n p=>Pu.PF (λ_=>rfl) n p) (λf u A i s H E d=>by
  have j:=λl=>fP.hand (v:=aa (.ref l)) d;exact
  (bj (kq 1 QG.nd (pR aY))
  (bj (d_ 2 QG.nd ((cf (Ji G) d d7 (a9 (au 0) (iV 1 (a9 (jZ (aG a_ (aG a_ (aG a_ (aG a_ (aG a_ aY)))))) b8))))).de)
  (bj (d_ 3 QG.nd ((cf (l7 G) d d7 (a9 (au 0) (iV 1 (a9 a_ b8))))).de)
  (bj (d_ 4 QG.nd ((cf (S8 G) d d7 (a9 (au 0) (iV 1 (a9 (au 2) (a9 a_ b8)))))).de)
  (bj (d_ 5 QG.nd ((cf (SH G) d d7 (a9 (au 0) (iV 1 (a9 (au 4) (a9 (au 3) b8)))))).de)
  (bj (d_ 6 QG.nd ((cf (Sy G) d d7 (a9 (au 5) b8))).de)
  (bj (d_ 7 QG.nd xE)
  (bj (d_ 8 QG.nd (jZ aY))
  (bj (Uw 8 9 QG.nd (RL (MX (S5 G) (d.mono (by decide)) (a9 (au 5) b8))) G.yak G.err_SlitError G.und (λl=>by exact(br (d_ 7 QG.nd ((QB (OM G) ((j l).mono (by decide)) (a9 (au 9) b8))).de))))
  (bj (jY (gy (lD d.units) lu (au 6) (jZ aY) rfl) (br (dX (nI (lD d.units) lu (au 7) (kK (aG (gG [114,101,102,117,115,101,100]) (aG a_ aY))) rfl))) jU)
  (bj (d_ 10 QG.nd (Fo rfl (aG (eG et eI (eG et eI (au 6) a_) a_) aY) G.ya4 G.ya3).de)
  (bj (kL (iY 11 iN rfl QG.nd (dO (au 6)) (br (ES 10 QG.nd (bX [11]) rfl (dO (au 10)) (λC g h q o=>by exact ny (gy Cv Ao (au 0) (eG et eI (au 1) a_) rfl)) (λC g h q o=>by exact(au 0))))))
  (br (dX (qo (nI EC Io (au 7) xE rfl) (rM (nI (lD d.units) lu (au 8) (au 10) rfl))))))))))))))))))
end
end K10
namespace Mx
open L2 Pu
noncomputable def cE:Tx:=[97,98,99]
def ef:Nat->List Tx
 |0=>[[]]
 |k+1=>cE.flatMap λc=>(ef k).map (c::·)
theorem nA:∀(k:Nat) (x:Tx),x∈ef k↔x.length=k/\∀c∈x,c∈cE
 |0,x=>by simp only[ef,kD];simp_all
 |k+1,x=>by
  simp only[ef,wL,bU];constructor
  .rintro⟨c,h,y,f,rfl⟩;obtain⟨b,a⟩:=(nA k y).mp f;simp_all
  .rintro⟨b,a⟩;cases x with
   |nil=>trivial
   |cons c y=>exact⟨c,a c (by simp),y,(nA k y).mpr ⟨zX b,λd g=>a d (by simp[g])⟩,rfl⟩
theorem IJ:∀k:Nat,(ef k).length=3^k
 |0=>rfl
 |k+1=>by simp only[ef,cE,q8,List.flatMap_nil,jk,cG,IJ k,tR,zZ];lia
theorem GY(i j:Nat):ef (i+j)=(ef i).flatMap λh=>(ef j).map (h++·):=by
 induction i with
 |zero=>simp[ef]
 |succ i a=>rw[show i+1+j=(i+j)+1 by lia];simp only[ef,a,List.flatMap_assoc,List.map_flatMap,List.flatMap_map,cR,lS,qX]
theorem L5(k:Nat):ef (k+1)=(ef k).flatMap λh=>cE.map λc=>h++[c]:=by rw[GY k 1];rfl
theorem Cs:∀k:Nat,(ef k).Pairwise (λa b=>a<b)
 |0=>by trivial
 |k+1=>by
  simp only[ef];rw[List.pairwise_flatMap];refine⟨λc _=>?_,?_⟩
  .rw[pe];exact(Cs k).imp λh=>Kj.mpr (.inr ⟨rfl,h⟩)
  .have:cE.Pairwise (λa b=>a<b):=by decide
   refine this.imp λh=>?_;intro x f y d;obtain⟨i,_,rfl⟩:=bU.mp f;obtain⟨g,_,rfl⟩:=bU.mp d;exact Kj.mpr (.inl h)
theorem Ld(h:a<b):dj a b=ah:=by simp only[dj,decide_eq_true_eq];exact List.le_of_lt h
theorem LV(k:Nat):(ef k).Pairwise (λa b=>dj a b=ah):=(Cs k).imp Ld
theorem P_(k:Nat):(ef k).Nodup:=(Cs k).imp λh z=>by subst z;exact List.lt_irrefl _ h
noncomputable def bh(z:Tx)(w:Nat):List Tx:=((cF z.length).filter λi=>decide (i+w<=z.length)).map λi=>(z.drop i).take w
theorem Hc(w L:Nat):∀m:Nat,(cF m).filter (λi=>decide (i+w<=L))=cF (min m (L+1-w))
 |0=>by rfl
 |m+1=>by
  rw[qR,List.filter_append,Hc w L m];by_cases h:m+w<=L
  .rw[show min m (L+1-w)=m by lia,show min (m+1) (L+1-w)=m+1 by lia,qR];simp[h]
  grind
theorem qv(z:Tx)(w:Nat)(a:1<=w):bh z w=(cF (z.length+1-w)).map λi=>(z.drop i).take w:=by unfold bh;rw[Hc,show min z.length (z.length+1-w)=z.length+1-w by simp_all]
def nw(w:Nat)(t:Tx):Tx->List Tx
 |[]=>[]
 |c::s=>(t.drop (t.length+1-w)++[c])::nw w (t++[c]) s
theorem Ix(w:Nat)(b:1<=w):∀(s t:Tx),w<=t.length+1->nw w t s=(cF s.length).map λi=>((t++s).drop (t.length+1-w+i)).take w
 |[],t,_=>by rfl
 |c::s,t,h=>by
  rw[nw,Ix w b s (t++[c]) (by simp;lia),fz,JT,cp,cR];congr 1
  .show _=((t++c::s).drop (t.length+1-w)).take w;rw[Vn ⋯,List.take_append];have a:(t.drop (t.length+1-w)).length=w-1:=by grind
   rw[a,pc (by rw[a];simp),show w-(w-1)=1 by lia];rfl
  .refine mH λi _=>?_
   grind
theorem AK(a:1<=w){h:Tx}(b:h.length=w-1):bh (h++s) w=nw w h s:=by rw[qv _ _ a,Ix w a s h ⋯,jk,show h.length+s.length+1-w=s.length by lia];simp_all
theorem Ig(a:1<=w)(t:Tx)(c:Nat):bh (t++[c]) w=bh t w++(if w<=t.length+1 then [((t++[c]).drop (t.length+1-w)).take w] else []):=by
 rw[qv _ _ a,qv _ _ a,jk,List.length_singleton];by_cases h:w<=t.length+1
 .rw[if_pos h,show t.length+1+1-w=(t.length+1-w)+1 by lia,qR,tX];congr 1;refine mH λi b=>?_
  grind
 .rw[if_neg h,show t.length+1+1-w=0 by lia,show t.length+1-w=0 by lia];simp
def sI(w:Nat):Nat->Tx->List Tx->List Tx
 |0,t,_=>[t]
 |r+1,t,q=>cE.flatMap λc=>if t.drop (t.length+1-w)++[c]∈q then sI w r (t++[c]) (q.erase (t.drop (t.length+1-w)++[c]))else []
theorem EW(w:Nat):∀(r:Nat) (t:Tx) (q:List Tx),q.length=r->sI w r t q=((ef r).filter λs=>(nw w t s).isPerm q).map (t++·)
 |0,t,q,hq=>by have:q=[]:=z7.mp hq;subst this;simp[sI,ef,nw,List.isPerm]
 |r+1,t,q,hq=>by
  simp only[sI,ef,Ko,List.map_flatMap];congr 1;funext c;rw[n8,cR];by_cases h:t.drop (t.length+1-w)++[c]∈q
  .rw[if_pos h,EW w r (t++[c]) _ (by rw[List.length_erase_of_mem h,hq];rfl)];have e:((λs=>(nw w t s).isPerm q) ∘ λx=>c::x)=λs=>(nw w (t++[c]) s).isPerm (q.erase (t.drop (t.length+1-w)++[c])):=by funext s;show(q.contains (t.drop (t.length+1-w)++[c])&&(nw w (t++[c]) s).isPerm (q.erase (t.drop (t.length+1-w)++[c])))=_;rw[List.contains_iff_mem.mpr h,Dg]
   simp_all
  .rw[if_neg h];have e:((λs=>(nw w t s).isPerm q) ∘ λx=>c::x)=λ_=>ak:=by funext s;show(q.contains (t.drop (t.length+1-w)++[c])&&(nw w (t++[c]) s).isPerm (q.erase (t.drop (t.length+1-w)++[c])))=_;simp_all
   rw[e];simp
def kj(w:Nat)(ls:List Tx):List Tx:=(aS (dU (ls.map z8))).flatMap λh=>sI w ls.length h ls
theorem G9{a b:Type}{l:List a}{f:a->List b}(p:a->Bool)(h:∀x∈l,p x=ak->f x=[]):l.flatMap f=(l.filter p).flatMap f:=by
 induction l with
 |nil=>rfl
 |cons x l c=>
  rw[q8,c λy d=>h y (by simp[d]),Kq];cases e:p x with
  |true=>simp
  |false=>rw[h x (by simp) e];simp
theorem Cq{a:List Tx}(f:1<=w)(C:1<=a.length)(m:∀x∈a,x.length=w/\∀c∈x,c∈cE):kj w a=(ef (w-1+a.length)).filter λz=>(bh z w).isPerm a:=by
 rw[GY,Ko];have u:(λh=>((ef a.length).map (h++·)).filter λz=>(bh z w).isPerm a)=λh=>((ef a.length).filter λs=>(bh (h++s) w).isPerm a).map (h++·):=by funext h;rw[n8];rfl
 rw[u,G9 (λh=>decide (h∈a.map z8))]
 .have r:(ef (w-1)).filter (λh=>decide (h∈a.map z8))=aS (dU (a.map z8)):=by
   refine vQ ?_ ((LV (w-1)).filter _);refine(List.perm_ext_iff_of_nodup ((P_ (w-1)).filter _) (UH _)).mpr λx=>?_;rw[ku,decide_eq_true_eq,Bu,nA];refine⟨λh=>h.2,λh=>⟨?_,h⟩⟩;obtain⟨y,d,rfl⟩:=bU.mp h;obtain⟨p,o⟩:=m y d;exact⟨by rw[List.length_dropLast,p],λc n=>o c ((List.dropLast_sublist _).mem n)⟩
  rw[r];unfold kj;have:∀l:List Tx,(∀h∈l,h.length=w-1)->l.flatMap (λh=>sI w a.length h a)=l.flatMap λh=>((ef a.length).filter λs=>(bh (h++s) w).isPerm a).map (h++·):=by
   intro l
   induction l with
   |nil=>intro _;rfl
   |cons h l i=>
    intro b;rw[q8,q8,i λy d=>b y (by simp[d]),EW w _ h a rfl];have q:(λs=>(nw w h s).isPerm a)=λs=>(bh (h++s) w).isPerm a:=by funext s;rw[AK f (b h (by simp))]
    rw[q]
  grind
 .intro h b B;have v:=((nA _ h).mp b).1;rw[List.map_eq_nil_iff,List.filter_eq_nil_iff];intro s j g;have A:=((nA _ s).mp j).1;rw[AK f v,List.isPerm_iff]at g;cases s with
  |nil=>grind
  |cons c s=>
   rw[nw,show h.length+1-w=0 by simp_all,List.drop_zero]at g
   grind
def unD(w:Nat)(a:List Tx)(t:Tx):Bool:=(bh t w).all λx=>decide ((bh t w).count x<=a.count x)
theorem Gr:unD w a t=ah↔∀x,(bh t w).count x<=a.count x:=by
 unfold unD;rw[k9];constructor
 .intro h x;by_cases b:x∈bh t w
  .simpa using h x b
  .rw[List.count_eq_zero_of_not_mem b];lia
 .intro h x _;simpa using h x
theorem M4(b:1<=w)(h:unD w a (t++[c])=ah):unD w a t=ah:=by rw[Gr]at h ⊢;intro x;have:=h x;rw[Ig b,List.count_append]at this;lia
def rowsOf(w:Nat)(a:List Tx)(k:Nat):List Tx:=(ef k).filter (unD w a)
theorem Lx(b:1<=w)(a:List Tx):rowsOf w a 0=[[]]:=by rfl
theorem Sz(d:1<=w)(a:List Tx)(k:Nat):rowsOf w a (k+1)=(rowsOf w a k).flatMap λt=>(cE.map λc=>t++[c]).filter (unD w a):=by unfold rowsOf;rw[L5,Ko];refine G9 _ λt _ g=>?_;rw[List.filter_eq_nil_iff];intro z b f;obtain⟨c,_,rfl⟩:=bU.mp b;rw[M4 d f]at g;trivial
theorem UI(w:Nat)(a:List Tx)(k:Nat):(rowsOf w a k).length<=3^k:=by rw[<-IJ k];exact List.length_filter_le _ _
theorem MJ{c:List Tx}(d:c.Pairwise (λa b=>dj a b=ah))(L:Nat):(rowsOf w c L).filter (λz=>decide (aS (bh z w)=c))=(ef L).filter λz=>(bh z w).isPerm c:=by
 unfold rowsOf;rw[List.filter_filter];refine Kr λz _=>?_;rw[o6,g9,decide_eq_true_eq,List.isPerm_iff];constructor
 .rintro⟨h,_⟩;rw[<-h];exact(fj _).symm
 .intro h;refine⟨by rw[rV h,qw d],?_⟩;rw[Gr];intro x;rw[h.count_eq];exact bn _
end Mx
namespace Sh
open L2 Pu Mx
theorem SK{xs:List PV}{v:b}(h:c ε=.ok xs a)(d:f xs=aa v):dL f c ε=.ok v a:=by unfold dL;simp_all
theorem O6(h:d ε=.ok x b)(f:c b=.ok xs a):aA d c ε=.ok (x::xs) a:=by unfold aA;simp_all
theorem Nl:aF ε=.ok [] ε:=rfl
theorem yB(h:c ε=.ok x b)(g:db b=.ok y a)(d:f x y=aa z):d2 f c db ε=.ok z a:=by unfold d2;simp_all
section
theorem Bp{ls:List Tx}(h:ls.length<=1000000):i8 [.lst (am ls)]=aa (.lst (am (aS ls))):=by show(fS (am ls)).bind _=_;rw[oD,gp,if_pos h]
end
section
variable{a:Ad}
abbrev bO(b:List Int):Slot:=.val (.lst (b.map .int))
theorem IP(b:List Int)(k:Int)(c:0<=k)(h:k<b.length):∃v,fE (b.map PV.int) k=aa (.int v):=by
 have d:k.toNat<b.length:=⋯
 refine⟨b[k.toNat],?_⟩;rw[sP c (by rw[cG];trivial)];simp
theorem Oi(b:List Int):Pu.eqT ak (.lst (b.map .int)) (.lst [])=aa (.bl b.isEmpty):=by
 cases b with
 |nil=>rfl
 |cons x xs=>
  have c:∀l:List Int,fJ (l.map .int)=0:=λl=>by induction l with|nil=>rfl|cons y l d=>trivial
  have:fJ ((x::xs).map .int)=0:=c _;simp only[cp]at this;simp[Pu.eqT,dA,dW,gC,gE,this]
theorem vE(b:Bool)(i j:Int):Pu.eqT b (.int i) (.int j)=aa (.bl (b^^decide (i=j))):=by show(if qg (V.int i) (V.int j)then aa (PV.bl (b^^decide (V.int i=V.int j)))else af)=_;have:qg (V.int i) (V.int j)=ah:=rfl;simp_all
theorem Bl(b:Bool)(x y:Tx):Pu.eqT b (.str x) (.str y)=aa (.bl (b^^decide (x=y))):=by show(if qg (tV x) (tV y)then aa (PV.bl (b^^decide (tV x=tV y)))else af)=_;have:qg (tV x) (tV y)=ah:=rfl;rw[if_pos this];have e:(tV x=tV y)=(x=y):=propext ⟨OF,λh=>by rw[h]⟩;simp only[e]
theorem L7(b:List Int)(k:Int)(i:0<=k):∃v,sE a [bO b,⇑k]=.ok (⇑v) [bO b,⇑k]:=by
 by_cases h:k<b.length
 .obtain⟨v,d⟩:=IP b k i h;refine⟨v,?_⟩;simp![sE,yaF,bW,ba,d,h]
 .have e:=Oi b;by_cases f:b=[]
  .subst f;refine⟨0,?_⟩;simp only[zG,List.isEmpty_nil]at e;have j:¬k<0:=nofun
   simp![sE,yaF,bW,ba,e,j]
  .have m:0<b.length:=by grind
   obtain⟨v,d⟩:=IP b (k % b.length) (Int.emod_nonneg _ ⋯) (Kt _ ⋯);refine⟨v*31+k,?_⟩;have l:b.isEmpty=ak:=by grind
   rw[l]at e;have g:iW (.int k) (.int (b.length:Int))=aa (.int (k % b.length)):=by simp[iW];omega
   have c:mq (.int v) (.int 31)=aa (.int (v*31)):=by simp[mq,zg]
   simp![sE,yaF,bW,ba,h,e,g,d,c,bi]
theorem Qq(b:List Int)(k m:Int)(q:0<=k)(i:0<m):∃v,0<=v/\v<m/\zh a [bO b,⇑k,⇑m]=.ok (⇑v) [bO b,⇑k,⇑m]:=by
 obtain⟨c,p⟩:=L7 (a:=a) b k q;have r:0<=(c*1103515245+7919*k+12345) % 2147483647:=Int.emod_nonneg _ (by simp);have d1:(c*1103515245+7919*k+12345) % 2147483647<2147483647:=Kt _ (by simp);have o:mq (.int c) (.int 1103515245)=aa (.int (c*1103515245)):=by simp[mq,zg]
 have n:mq (.int 7919) (.int k)=aa (.int (7919*k)):=by rfl
 have h:iW (.int (c*1103515245+7919*k+12345)) (.int 2147483647)=aa (.int ((c*1103515245+7919*k+12345) % 2147483647)):=by rfl
 generalize (c*1103515245+7919*k+12345) % 2147483647=d at r d1 h;have l:vf (.int d) (.int 5)=aa (.int (d^5)):=by
  have:d.natAbs<2^64:=∅
  simp[vf,this]
 have g:iW (.int (d^5)) (.int 2147483647)=aa (.int (d^5 % 2147483647)):=by rfl
 generalize d^5 % 2147483647=d5 at g;have f:iW (.int d5) (.int 999983)=aa (.int (d5 % 999983)):=by rfl
 generalize d5 % 999983=d6 at f;have j:iW (.int d6) (.int m)=aa (.int (d6 % m)):=by simp[iW,i]
 refine⟨d6 % m,Int.emod_nonneg _ ∅,Kt _ i,?_⟩;simp![zh,yaI,p,o,n,h,l,g,f,j,bi]
theorem my(b:List Int)(xs:List PV)(m:Int)(h:0<m)(i:xs.length<=1000):∃v,0<=v/\v<m/\gY a [bO b,.own (.lst xs),⇑m]=.ok (⇑v) [bO b,.own (.lst (xs++[.int 0])),⇑m]:=by
 obtain⟨v,d,c,g⟩:=Qq (a:=a) b ((xs.length:Int)+1) m ∅ h;refine⟨v,d,c,?_⟩;have f:xs.length<bB:=by unfold bB;lia
 simp![gY,yaG,bW,f,g]
theorem Gd(b:List c)(v:Int)(f:0<=v)(g:v<b.length):∃x∈b,fE b v=aa x:=by
 have d:v.toNat<b.length:=⋯
 exact⟨b[v.toNat],ww _,sP f d⟩
theorem Ic(c:List Int)(xs b:List PV)(h:xs.length<=1000)(l:0<b.length):∃x∈b,vk a [bO c,.own (.lst xs),.val (.lst b)]=.ok (.val x) [bO c,.own (.lst (xs++[.int 0])),.val (.lst b)]:=by obtain⟨v,g,f,i⟩:=my (a:=a) c xs (b.length:Nat) ⋯ h;obtain⟨x,j,d⟩:=Gd b v g f;refine⟨x,j,?_⟩;simp![vk,yaJ,bW,ba,i,d]
theorem vM{n:Nat}(h:n<=1000000):kn [.int n]=aa (eN 0 n):=by show(if(n:Int)<=1000000/\-1000000<=(n:Int)then aa (eN 0 (n:Int).toNat)else af)=_;rw[if_pos ⟨∅,∅⟩];simp
theorem p9{x y:Tx}(h:x.length+y.length<=bB):bi (.str x) (.str y)=aa (.str (x++y)):=by show(if(x++y).length<=bB then aa (PV.str (x++y))else af)=_;rw[if_pos (by rw[jk];exact h)]
theorem cr{d1 d2:ad aM}(h:d1 ε=.ok .next ε1):aH d1 d2 ε=d2 ε1:=by unfold aH;rw[h]
theorem sX(h:d ε=.ok x ε1):bw i d ε=.ok .next (ε1.set i (.val x)):=by unfold bw;rw[h];rfl
theorem u5{I:Nat->aj->Prop}{N:Nat}(step:∀k ε x,k<N->I k ε->∃b,db (ε.set i (.val x))=.ok .next b/\I (k+1) b):∀(xs:List PV) (k:Nat) (ε:aj),k+xs.length<=N->I k ε->∃b,fc i db xs ε=.ok .next b/\I (k+xs.length) b
 |[],k,ε,_,h=>⟨ε,rfl,h⟩
 |x::xs,k,ε,d,h=>by
  simp only[fz]at d;obtain⟨ε1,g,f⟩:=step k ε x ∅ h;obtain⟨c,l,j⟩:=u5 step xs (k+1) ε1 ∅ f;refine⟨c,by unfold fc;rw[g];trivial,?_⟩
  grind
theorem lF{I:List PV->aj->Prop}(step:∀(x:PV) (r:List PV) ε,I (x::r) ε->∃b,db (ε.set i (.val x))=.ok .next b/\I r b):∀(xs:List PV) (ε:aj),I xs ε->∃b,fc i db xs ε=.ok .next b/\I [] b
 |[],ε,h=>⟨ε,rfl,h⟩
 |x::xs,ε,h=>by obtain⟨ε1,g,f⟩:=step x xs ε h;obtain⟨c,j,d⟩:=lF step xs ε1 f;exact⟨c,by unfold fc;rw[g];trivial,d⟩
theorem Hu(h:List Int)(xs:List PV)(b most:Nat)(M:b<=most)(W:most<=100)(T:xs.length<=500):∃(z:Tx) (g:List PV),b<=z.length/\z.length<=most/\(∀c∈z,c∈cE)/\g.length<=xs.length+2+most /\ r_ a [bO h,.own (.lst xs),⇑b,⇑most]=.ok (↥z) [bO h,.own (.lst g),⇑b,⇑most]:=by
 obtain⟨f,s,J⟩:=Ic (a:=a) h xs [.int 1,.int 2,.int 2,.int 3,.int 3,.int 3] ∅ (by simp);obtain⟨few,rfl,O,Z⟩:∃few:Int,f=.int few/\0<few/\few<=3:=by simp only[bZ,jl,or_false]at s;rcases s with rfl|rfl|rfl|rfl|rfl|rfl <;> exact⟨_,rfl,by decide,by decide⟩
 obtain⟨m,S,Q,u⟩:=my (a:=a) h (xs++[.int 0]) ((most:Int)-b+1) ∅ (by simp;lia);obtain⟨n,L⟩:∃n:Nat,(b:Int)+m=n:=⟨(b+m).toNat,∅⟩
 have H:kn [.int ((b:Int)+m)]=aa (eN 0 n):=by rw[L];exact vM ∅
 have bu:(eN 0 n).length=n:=by simp[eN]
 obtain⟨A,w,g,z,j,rfl,r,F,y⟩:=u5 (i:=6) (db:=bw 5 (d2 bi (dV 5) (d2 ba (dC (.str [97,98,99])) (bv (bg (gY a) (gV (dV 0) (gO 1 (gV (dV 4) (Pu.bS)))))))))
  (I:=λk q=>∃g z j,q=[bO h,.own (.lst g),⇑b,⇑most,⇑few,↥z,j]/\z.length=k/\g.length<=xs.length+2+k/\∀c∈z,c∈cE) (N:=n)
  (by
   rintro k q x X ⟨g,z,j,rfl,r,F,y⟩;obtain⟨v,B,P,G⟩:=my (a:=a) h g few O ∅;obtain⟨c,Y,D⟩:=Gd cE v B (by simp[cE];lia);refine⟨[bO h,.own (.lst (g++[.int 0])),⇑b,⇑most,⇑few,↥(z++[c]),.val x],?_,g++[.int 0],z++[c],.val x,rfl,by simp[r],by simp;ac_rfl,λd u=>?_⟩
   .have l:ba (.str [97,98,99]) (.int v)=aa (.str [c]):=by
     show(fE cE v).map _=_;rw[D];rfl
    have E:bi (.str z) (.str [c])=aa (.str (z++[c])):=p9 (by simp[bB];lia);simp![G,l,E]
   grind)
  (eN 0 n) 0 [bO h,.own (.lst (xs++[.int 0]++[.int 0])),⇑b,⇑most,⇑few,.val (.str []),.none] ⋯ ⟨xs++[.int 0]++[.int 0],[],.none,rfl,rfl,by simp,by simp⟩
 refine⟨z,g,∅,∅,y,∅,?_⟩;have C:lB (.int most) (.int b)=aa (.int ((most:Int)-b)):=rfl;have p:bi (.int ((most:Int)-b)) (.int 1)=aa (.int ((most:Int)-b+1)):=rfl;have o:bi (.int b) (.int m)=aa (.int ((b:Int)+m)):=rfl;simp only[jH,qX,fh]at w;simp![r_,yaL,J,C,p,o,u,b9,H,dy,w]
theorem gS(p:PV->Bool)(f:PV->PV):∀(xs:List PV),(∀x∈xs,bM (c_ cap dt x ε)=.ok (p x) ε/\(p x=ah->bM (c_ cap de x ε)=.ok (f x) ε))->∀b,iB cap dt de xs b ε=.ok (b++(xs.filter p).map f) ε
 |[],_,b=>by simp[iB]
 |x::xs,h,b=>by
  have d:=h x (by simp);have g:=gS p f xs (λy c=>h y (by simp[c]));unfold iB;rw[d.1];simp only[R.bind_ok];cases i:p x with
  |false=>simp_all
  |true=>simp_all
theorem PZ{z:Tx}(h:i+w<=z.length):iD z (aa (i:Int)) (aa ((i:Int)+w))=(z.drop i).take w:=by
 unfold iD;have c:HT.sIx z.length 0 (aa (i:Int))=i:=by rw[HT.sIx_nat];lia
 have b:HT.sIx z.length z.length (aa ((i:Int)+w))=i+w:=by rw[show(i:Int)+w=((i+w:Nat):Int) by rfl,HT.sIx_nat];lia
 rw[c,b,Nat.add_sub_cancel_left]
theorem Cj(z:Tx)(w:Nat)(o:z.length<=60):oN a [↥z,⇑w]=.ok (.val (.tup (am (aS (bh z w))))) [↥z,⇑w]:=by
 have g:kn [.int (z.length:Nat)]=aa (eN 0 z.length):=vM ∅;have b:=gS (cap:=[0,1]) (dt:=(dB (d2 (dS λi j=>decide (i<=j)) (d2 bi (dV 0) (dV 2)) (dL bW (aA (dV 1) (aF)))))) (de:=(eO fH (dV 1) (ee (dV 0)) (ee (d2 bi (dV 0) (dV 2)))))
  (ε:=[↥z,⇑w]) (λx=>match x with|.int i=>decide (i+w<=z.length)|_=>ak) (λx=>match x with|.int i=>.str (iD z (aa i) (aa (i+w)))|_=>.non) (eN 0 z.length)
  (by
   intro x d;simp only[eN,bU]at d;obtain⟨i,f,rfl⟩:=d;refine⟨?_,λh=>?_⟩
   all_goals rfl) []
 have l:(bh z w).length<=1000000:=by
  unfold bh
  grind
 have m:(((eN 0 z.length).filter (λx=>match x with|.int i=>decide (i+w<=z.length)|_=>ak)).map (λx=>match x with|.int i=>PV.str (iD z (aa i) (aa (i+w)))|_=>.non))=am (bh z w):=by
  unfold eN bh am;rw[n8,cR,cR];have n:((λx=>match x with|PV.int i=>decide (i+(w:Int)<=(z.length:Nat))|_=>ak) ∘ λ(i:Nat)=>PV.int (0+(i:Nat)))=λi=>decide (i+w<=z.length):=by funext i;simp only[Ea];congr 1;simp;lia
  rw[n];refine mH λi f=>?_;have:=(ku.mp f).2;simp only[decide_eq_true_eq]at this;simp only[Ea,Int.zero_add];rw[PZ this]
 simp only[fh]at b;rw[m]at b;have c:=Bp l;generalize am (aS (bh z w))=T at c;generalize am (bh z w)=B at b c;simp![oN,yaK,bW,g,bD,b,c,iz]
theorem EF:∀x∈bh z w,x.length=w/\∀c∈x,c∈z:=by
 intro x b;simp only[bh,bU,ku,o4,decide_eq_true_eq]at b
 grind
theorem Th{z:Tx}(c:1<=w)(f:w<=z.length)(d:z.length<=w+m):1<=(bh z w).length/\(bh z w).length<=m+1:=by
 unfold bh;rw[cG];have:∀n,((cF n).filter λi=>decide (i+w<=z.length)).length=min n (z.length+1-w):=by
  intro n
  induction n with
  |zero=>rfl
  |succ n b=>
   rw[qR,List.filter_append,jk,b]
   grind
 rw[this];omega
structure Good(l:Tx)(w:Nat)(ls:List Tx):Prop where
 len:∀x∈ls,x.length=w
 abc:∀x∈ls,∀c∈x,c∈l
 some:1<=ls.length
 few:ls.length<=9
theorem Good.perm{b:List Tx}(g:Good l w ls)(p:b.Perm ls):Good l w b:=⟨λx h=>g.len x (p.mem_iff.mp h),λx h=>g.abc x (p.mem_iff.mp h),by rw[p.length_eq];exact g.some,by rw[p.length_eq];exact g.few⟩
theorem Good.put{z:Tx}(g:Good l w ls)(b:z.length=w)(d:∀c∈z,c∈l):Good l w (ls.set j z):=by
 refine⟨λx h=>?_,λx h=>?_,by rw[fZ];exact g.some,by rw[fZ];exact g.few⟩
 .rcases Ku h with h|rfl
  .exact g.len x h
  trivial
 .rcases Ku h with h|rfl
  .exact g.abc x h
  trivial
theorem Oe(ls:List Tx)(j:Nat)(z:Tx):(am ls).set j (.str z)=am (ls.set j z):=by simp[am,List.map_set]
theorem km(ls:List Tx):(am ls).length=ls.length:=by simp[am]
theorem CF{n:Nat}{v:Int}(c:0<=v)(b:v<n):ie n v=aa v.toNat:=by unfold ie;rw[if_pos c,if_pos b]
theorem OY(ls:List Tx):oK (am ls)=ah:=by
 induction ls with
 |nil=>rfl
 |cons x ls b=>trivial
inductive QN(ns:List Int)(spoil most w:Nat)(z:Tx)(L k:Nat)(ε:aj):Prop
 |mk (ys:List PV) (ls:List Tx) (s6:Slot) (e:ε=[bO ns,.own (.lst ys),⇑spoil,⇑most,⇑w,.own (.lst (am ls)),s6]) (g:Good cE w ls) (h:ls.length<=most) (h0:k=0->ls=aS (bh z w)) (hy:ys.length<=L+10*k)
theorem QL(g:List Int)(xs:List PV)(d most:Nat)(hs:d<3)(m1:1<=most)(m9:most<=9)(hx:xs.length<=300):∃(w:Nat) (ls:List Tx) (j:List PV),1<=w/\w<=4/\(d≠2->2<=w)/\Good cE w ls/\ls.Pairwise (λa b=>dj a b=ah)/\ls.length<=most/\(d=0->∃z:Tx,ls=aS (bh z w)/\w<=z.length/\z.length+1<=w+most/\∀c∈z,c∈cE)/\j.length<=xs.length+60 /\ uA a [bO g,.own (.lst xs),⇑d,⇑most]=.ok (.val (.tup [.int w,.tup (am ls)])) [bO g,.own (.lst j),⇑d,⇑most]:=by
 obtain⟨w,H,Q,S,hw⟩:∃w:Nat,1<=w/\w<=4/\(d≠2->2<=w)/\(cI (dB (d2 (Pu.eqT ah) (dV 2) (dC (.int 2)))) (d2 bi (dC (.int 2)) (bv (bg (gY a) (gV (dV 0) (gO 1 (gV (dC (.int 3)) (Pu.bS))))))) (d2 bi (dC (.int 1)) (bv (bg (gY a) (gV (dV 0) (gO 1 (gV (dC (.int 4)) (Pu.bS)))))))) [bO g,.own (.lst xs),⇑d,⇑most,.none,.none,.none] =
   .ok (.int w) [bO g,.own (.lst (xs++[.int 0])),⇑d,⇑most,.none,.none,.none]:=by
  by_cases h2:d=2
  .subst h2;obtain⟨v,A,J,l⟩:=my (a:=a) g xs 4 (by simp) ∅;refine⟨(1+v).toNat,∅,∅,λz=>absurd rfl z,?_⟩;have e:Pu.eqT ah (.int 2) (.int 2)=aa (.bl ak):=by rfl
   have:((1+v).toNat:Int)=1+v:=∅
   simp![e,l,bi,this]
  .obtain⟨v,A,J,l⟩:=my (a:=a) g xs 3 (by simp) ∅;refine⟨(2+v).toNat,∅,∅,λ_=>∅,?_⟩;have e:Pu.eqT ah (.int ((d:Nat):Int)) (.int 2)=aa (.bl ah):=by
    have:d=0\/d=1:=∅
    rcases this with rfl|rfl <;> (rw[vE];rfl)
   have:((2+v).toNat:Int)=2+v:=∅
   simp![e,l,bi,this]
 obtain⟨z,y,u,F,f,B,r⟩:=Hu (a:=a) g (xs++[.int 0]) w (w+(most-1)) (by simp) ∅ (by simp;lia);simp only[jk,List.length_singleton]at B;have W:=Cj (a:=a) z w ∅;have VA:=Th (z:=z) (w:=w) (m:=most-1) H u F;have g0:Good cE w (aS (bh z w)):=by exact Good.perm ⟨λx h=>(EF x h).1,λx h c hc=>f c ((EF x h).2 c hc),VA.1,∅⟩ (fj _)
 have n:iW (.int d) (.int 3)=aa (.int d):=by
  have:d=0\/d=1\/d=2:=∅
  rcases this with rfl|rfl|rfl <;> rfl
 have hr:kn [.int d]=aa (eN 0 d):=vM ∅;have bu:(eN 0 d).length=d:=by simp[eN]
 obtain⟨P,e1,j,ls,L,rfl,s,C,h0,Z⟩:=u5 (i:=6) (db:=(zk 5 (bv (bg (gY a) (gV (dV 0) (gO 1 (gV (kU (λxs=>pT (bW xs)) 5) (Pu.bS)))))) (bv (bg (r_ a) (gV (dV 0) (gO 1 (gV (dV 4) (gV (dV 4) (Pu.bS)))))))))
  (I:=λk E=>QN g d most w z y.length k E) (N:=d)
  (by
   rintro k E x hk ⟨j,ls,L,rfl,s,C,_,Z⟩;obtain⟨z,G,u,F,f,Y,r⟩:=Hu (a:=a) g j w w (by simp) ∅ ∅;obtain⟨v,A,J,l⟩:=my (a:=a) g G (ls.length:Nat) (by have:=s.some;lia) ∅;refine⟨[bO g,.own (.lst (G++[.int 0])),⇑d,⇑most,⇑w,.own (.lst (am (ls.set v.toNat z))),.val x],?_,_,_,_,rfl,s.put ∅ f,by rw[fZ];trivial,λz=>∅,by simp;lia⟩;have X:ie (am ls).length v=aa v.toNat:=CF A (by rw[km];trivial);have hl:bW [.lst (am ls)]=aa (.int (ls.length:Nat)):=by simp[bW,km]
   simp![zk,r,hl,l,X,Oe])
  (eN 0 d) 0 [bO g,.own (.lst y),⇑d,⇑most,⇑w,.own (.lst (am (aS (bh z w)))),.none] ⋯ ⟨y,_,.none,rfl,g0,by rw[yU];simp_all,λ_=>rfl,by simp⟩
 refine⟨w,aS ls,j,H,Q,S,s.perm (fj _),sV _,by rw[yU];trivial,λz0=>⟨z,by rw[h0 ⋯,qw (sV _)],u,∅,f⟩,∅,?_⟩;have M:bi (.int w) (.int most)=aa (.int ((w:Int)+most)):=rfl;have D:lB (.int ((w:Int)+most)) (.int 1)=aa (.int (((w+(most-1):Nat)):Int)):=by show aa (PV.int ((w:Int)+most-1))=_;congr 2;lia
 have O:=Bp (ls:=ls) (by lia);have p:yaP a [bO g,.own (.lst xs),⇑d,⇑most,.none,.none,.none]=.ok (.ret (.val (.tup [.int w,.tup (am (aS ls))]))) [bO g,.own (.lst j),⇑d,⇑most,⇑w,.own (.lst (am ls)),L]:=by unfold yaP;refine(cr (sX hw)).trans ?_;have o:=OY (aS ls);generalize am (aS ls)=T at O o;generalize ((w+(most-1):Nat):Int)=q at D r;generalize (w:Int)+most=q2 at M D;simp[aH,cI,dB,d2,d1,dV,dC,dL,dF,aA,aF,cu,pM,bw,cQ,bg,gV,gO,Pu.bS,fN,gF,cD,eQ,iU,R.bind,aR,bI,gT,bH,back,gf,oB,ja,AN,zf,yP,bv,kl,cH,d9,fX,IS,v6,ID,l8,zc,rW,l6,ln,Hr,p8,dS,eW,vn,kU,vO,dQ,o7,M,D,r,W,sK,n,b9,hr,dy,e1,O,Ia,o,iz]
 simp[uA,bI,gT,bH,p,back,gf]
def eR(x:Tx):List PV:=x.map λc=>.str [c]
theorem R7(x:Tx):(eR x).length=x.length:=by simp[eR]
theorem UT(x:Tx)(j c:Nat):(eR x).set j (.str [c])=eR (x.set j c):=by simp[eR,List.map_set]
theorem MG(x:Tx):fS (eR x)=aa (x.map λc=>[c]):=by
 have e:eR x=am (x.map λc=>[c]):=by unfold eR am;simp
 rw[e,oD]
theorem U9(x:Tx):gR [] (x.map λc=>[c])=x:=by
 induction x with
 |nil=>rfl
 |cons c x b=>
  cases x with
  |nil=>rfl
  |cons d x=>show [c]++[]++gR [] ((d::x).map λc=>[c])=_;rw[b];rfl
theorem Pz(x:Tx):iF [] (x.map λc=>[c])=x.length:=by
 unfold iF
 induction x with
 |nil=>rfl
 |cons c x b=>simp at b ⊢;lia
theorem O4(b:List Tx)(c:aj):∀d,pO [] (dL uI (aA (dV 0) aF)) (am b) d c=.ok (d++b.map eR) c:=by
 induction b with
 |nil=>intro d;simp[am,pO]
 |cons x b f=>
  intro d;have:am (x::b)=.str x::am b:=rfl;rw[this];unfold pO;have h:bM (c_ [] (dL uI (aA (dV 0) aF)) (.str x) c)=.ok (.lst (eR x)) c:=by rfl
  simp_all
theorem map_set{b c:Type}(f:b->c)(l:List b)(j:Nat)(x:b):(l.map f).set j (f x)=(l.set j x).map f:=by simp
def cx(ls:List Tx):Nat:=(ls.map λx=>x.count 46).sum
theorem LK(x:Tx)(j c:Nat):(x.set j c).count 46<=x.count 46+1:=by
 induction x generalizing j with
 |nil=>simp
 |cons d x b=>
  cases j with
  |zero=>simp only[List.set_cons_zero,List.count_cons];split <;> split <;> lia
  |succ j=>grind
theorem NX(b:List Tx)(j:Nat)(x y:Tx)(h:b[j]?=aa x)(d:y.count 46<=x.count 46+1):cx (b.set j y)<=cx b+1:=by
 unfold cx
 induction b generalizing j with
 |nil=>simp
 |cons z b c=>
  cases j with
  |zero=>grind
  |succ j=>have:=c j (by trivial);simp only[List.set_cons_succ,cp,jJ];lia
theorem T5{c:List Tx}(p:c.Perm b):cx c=cx b:=(p.map _).sum_nat
def hZ:Tx:=[46,97,98,99]
theorem LX(b:List Tx)(d:∀x∈b,x.length<=10)(c:aj):iB [] cO (mh nh (dC (.str [])) (aA (dV 0) aF)) (b.map λx=>.lst (eR x)) [] c=.ok (am b) c:=by
 have h:∀(b:List Tx),(∀x∈b,x.length<=10)->∀f,iB [] cO (mh nh (dC (.str [])) (aA (dV 0) aF)) (b.map λx=>.lst (eR x)) f c=.ok (f++am b) c:=by
  intro b
  induction b with
  |nil=>intro _ f;simp[iB,am]
  |cons x b g=>
   intro d f;have n:=d x (by simp);have m:bM (c_ [] cO (.lst (eR x)) c)=.ok ah c:=by rfl
   have j:nh [] [.lst (eR x)]=aa (.str x):=by show(fS (eR x)).bind _=_;rw[MG,gp,Pz,if_pos (by unfold bB;lia),U9]
   have l:bM (c_ [] (mh nh (dC (.str [])) (aA (dV 0) aF)) (.lst (eR x)) c)=.ok (.str x) c:=by simp![c_,dI,bM,mh,yN,j]
   rw[cp];unfold iB;rw[m];simp only[R.bind_ok,l];rw[g (λy i=>d y (by simp[i]))];simp[am]
 have:=h b d [];trivial
theorem IT(c b:List Tx):am c++am b=am (c++b):=by simp[am]
theorem Qx(xs:List b)(n:Nat):iD xs (aa (n:Int)) af=xs.drop n:=by
 unfold iD;have c:HT.sIx xs.length xs.length af=xs.length:=rfl;rw[c,HT.sIx_nat];by_cases h:n<=xs.length
 .rw[Nat.min_eq_left h,pc (by simp)]
 .rw[Nat.min_eq_right ∅,Kv (by simp),Kv ∅];simp
end
def opts(d:Nat):Tx:=if d=46 then cE else [d]
def fillS(a:List Tx)(d:Nat):List Tx:=a.flatMap λs=>(opts d).map λc=>s++[c]
def fillF(a:List Tx)(b:Tx):List Tx:=b.foldl fillS a
def fills(b:Tx):List Tx:=fillF [[]] b
def rowS(a:List (List Tx))(b:Tx):List (List Tx):=a.flatMap λr=>(fills b).map λx=>r++[x]
def rowsF(a:List Tx):List (List Tx):=a.foldl rowS [[]]
theorem opts_mem:c∈opts d↔(d=46/\c∈cE)\/(d≠46/\c=d):=by
 unfold opts;by_cases h:d=46
 .simp[h]
 .simp[h]
theorem opts_len(d:Nat):(opts d).length=3 ^ [d].count 46:=by
 unfold opts;by_cases h:d=46
 .subst h;rfl
 .simp[h]
theorem fillS_len(a:List Tx)(d:Nat):(fillS a d).length=a.length*3 ^ [d].count 46:=by
 unfold fillS;rw[Kw];simp only[cG,opts_len]
 induction a with
 |nil=>simp
 |cons r a b=>rw[cp,jJ,b,fz,DD,Nat.one_mul,Dy]
theorem fillF_len(b:Tx):∀a:List Tx,(fillF a b).length=a.length*3^b.count 46:=by
 unfold fillF
 induction b with
 |nil=>simp
 |cons d b c=>intro a;rw[g_,c,fillS_len,Nat.mul_assoc,<-z6];congr 2;rw[<-List.count_append];rfl
theorem fills_len(b:Tx):(fills b).length=3^b.count 46:=by rw[fills,fillF_len];simp
theorem rowS_len(a:List (List Tx))(b:Tx):(rowS a b).length=a.length*3^b.count 46:=by
 unfold rowS;rw[Kw];simp only[cG,fills_len]
 induction a with
 |nil=>simp
 |cons r a c=>rw[cp,jJ,c,fz,DD,Nat.one_mul,Dy]
theorem rowsF_len'(c:List Tx):∀a:List (List Tx),(c.foldl rowS a).length=a.length*3^cx c:=by
 induction c with
 |nil=>intro a;simp[cx]
 |cons b c d=>intro a;rw[g_,d,rowS_len,Nat.mul_assoc,<-z6];rfl
theorem rowsF_len(a:List Tx):(rowsF a).length=3^cx a:=by rw[rowsF,rowsF_len'];simp
theorem fillF_fits(b:Tx):∀(a:List Tx) (z:Tx),z∈fillF a b↔∃r∈a,∃x:Tx,z=r++x/\eT (λc d=>c∈opts d) x b:=by
 unfold fillF
 induction b with
 |nil=>
  intro a z;constructor
  .intro h;exact⟨z,h,[],by simp,.nil⟩
  .rintro⟨r,f,x,rfl,g⟩;cases g;simpa using f
 |cons d b j=>
  intro a z;rw[g_,j];constructor
  .rintro⟨r,f,x,rfl,g⟩;unfold fillS at f;obtain⟨s,l,f⟩:=wL.mp f;obtain⟨c,i,rfl⟩:=bU.mp f;exact⟨s,l,c::x,by simp,.cons i g⟩
  .rintro⟨r,f,x,rfl,g⟩;cases g with
   |cons i g=>rename_i c x;refine⟨r++[c],?_,x,by simp,g⟩;unfold fillS;simp_all
def Fit(x b:Tx):Prop:=eT (λc d=>c∈opts d) x b
theorem fills_mem:z∈fills b↔Fit z b:=by
 unfold fills;rw[fillF_fits];constructor
 .rintro⟨r,a,x,rfl,c⟩;simp at a;subst a;trivial
 .intro h;exact⟨[],by simp,z,rfl,h⟩
theorem Fit.len(h:Fit x b):x.length=b.length:=qE h
theorem Fit.abc(h:Fit x b)(f:∀c∈b,c∈hZ):∀c∈x,c∈cE:=by
 unfold Fit at h
 induction h with
 |nil=>simp
 |@cons c d x b hc _ ih=>
  intro e a;rcases bZ.mp a with rfl|a
  .rcases opts_mem.mp hc with⟨_,h⟩|⟨h1,rfl⟩
   .exact h
   .have:=f e (by simp);simp[hZ]at this;simp[cE];simp_all
  simp_all
theorem rowsF_mem'(i:List Tx):∀(a:List (List Tx)) (z:List Tx),z∈i.foldl rowS a↔∃r∈a,∃xs:List Tx,z=r++xs/\eT Fit xs i:=by
 induction i with
 |nil=>
  intro a z;constructor
  .intro h;exact⟨z,h,[],by simp,.nil⟩
  .rintro⟨r,f,x,rfl,g⟩;cases g;simpa using f
 |cons d b l=>
  intro a z;rw[g_,l];constructor
  .rintro⟨r,f,x,rfl,g⟩;unfold rowS at f;obtain⟨s,m,f⟩:=wL.mp f;obtain⟨c,j,rfl⟩:=bU.mp f;exact⟨s,m,c::x,by simp,.cons (fills_mem.mp j) g⟩
  .rintro⟨r,f,x,rfl,g⟩;cases g with
   |cons j g=>rename_i c x;refine⟨r++[c],?_,x,by simp,g⟩;unfold rowS;exact wL.mpr ⟨r,f,bU.mpr ⟨c,fills_mem.mpr j,rfl⟩⟩
theorem rowsF_mem:xs∈rowsF a↔eT Fit xs a:=by unfold rowsF;rw[rowsF_mem'];simp
def addL(a:List (List Tx))(k:List Tx):List (List Tx):=if k∈a then a else a++[k]
theorem addL_mem:z∈addL a k↔z∈a\/z=k:=by
 unfold addL;by_cases h:k∈a
 .rw[if_pos h];exact⟨.inl,λq=>q.elim id λe=>e ▸ h⟩
 .rw[if_neg h];simp
theorem addL_nodup{d:List (List Tx)}(h:d.Nodup):(addL d k).Nodup:=by
 unfold addL;by_cases c:k∈d
 .rw[if_pos c];exact h
 .rw[if_neg c,zW];refine⟨h,by simp,λa g b f=>?_⟩;simp at f;subst f;rintro rfl;exact c g
theorem addF_mem(ks:List (List Tx)):∀(a:List (List Tx)) (z:List Tx),z∈ks.foldl addL a↔z∈a\/z∈ks:=by
 induction ks with
 |nil=>intro a z;simp
 |cons k ks b=>intro a z;rw[g_,b,addL_mem,bZ];lia
theorem addF_nodup(ks:List (List Tx)):∀a:List (List Tx),a.Nodup->(ks.foldl addL a).Nodup:=by
 induction ks with
 |nil=>simp
 |cons k ks b=>intro a h;exact b _ (addL_nodup h)
def nextW(b:Tx)(k:List Tx):List (List Tx):=(fills b).map λx=>aS (k++[x])
def stepW(ks:List (List Tx))(b:Tx):List (List Tx):=(ks.flatMap (nextW b)).foldl addL []
def waysF(a:List Tx):List (List Tx):=a.foldl stepW [[]]
theorem waysF_mem'(f:List Tx):∀(ks:List (List Tx)) (z:List Tx),z∈f.foldl stepW ks↔if f=[] then z∈ks else ∃k∈ks,∃xs:List Tx,z=aS (k++xs)/\eT Fit xs f:=by
 induction f with
 |nil=>intro ks z;simp
 |cons b f l=>
  intro ks z;rw[g_,l,if_neg (show ¬b::f=[] by simp)];have g:∀y,y∈stepW ks b↔∃k∈ks,∃x,Fit x b/\y=aS (k++[x]):=λy=>by
   unfold stepW;rw[addF_mem];constructor
   .rintro(h|h)
    .simp at h
    .obtain⟨k,c,h⟩:=wL.mp h;obtain⟨x,a,rfl⟩:=bU.mp h;exact⟨k,c,x,fills_mem.mp a,rfl⟩
   .rintro⟨k,c,x,a,rfl⟩;exact .inr (wL.mpr ⟨k,c,bU.mpr ⟨x,fills_mem.mpr a,rfl⟩⟩)
  by_cases j:f=[]
  .subst j;rw[if_pos rfl,g];constructor
   .rintro⟨k,c,x,a,rfl⟩;exact⟨k,c,[x],rfl,.cons a .nil⟩
   .rintro⟨k,c,xs,rfl,d⟩;cases d with
    |cons a d=>cases d;exact⟨k,c,_,a,rfl⟩
  .rw[if_neg j];constructor
   .rintro⟨y,m,xs,rfl,d⟩;obtain⟨k,c,x,a,rfl⟩:=(g y).mp m;refine⟨k,c,x::xs,rV ?_,.cons a d⟩;have i:=(fj (k++[x])).append_right xs;simpa using i
   .rintro⟨k,c,xs,rfl,d⟩;cases d with
    |cons a d=>rename_i x xs;refine⟨aS (k++[x]),(g _).mpr ⟨k,c,x,a,rfl⟩,xs,rV ?_,d⟩;have i:=(fj (k++[x])).symm.append_right xs;simpa using i
theorem waysF_mem:z∈waysF a↔∃xs:List Tx,z=aS xs/\eT Fit xs a:=by
 unfold waysF;rw[waysF_mem'];by_cases c:a=[]
 .subst c;rw[if_pos rfl];constructor
  .intro h;simp at h;subst h;exact⟨[],(by simp[aS]),.nil⟩
  .rintro⟨xs,rfl,b⟩;cases b;simp[aS]
 simp_all
theorem waysF_nodup'(a:List Tx):∀ks:List (List Tx),ks.Nodup->(a.foldl stepW ks).Nodup:=by
 induction a with
 |nil=>simp
 |cons b a c=>intro ks _;exact c _ (addF_nodup _ _ tQ)
theorem waysF_nodup(a:List Tx):(waysF a).Nodup:=waysF_nodup' a _ (by simp)
theorem addF_len(ks:List (List Tx)):∀a:List (List Tx),(ks.foldl addL a).length<=a.length+ks.length:=by
 induction ks with
 |nil=>simp
 |cons k ks b=>
  intro a;have:=b (addL a k);rw[g_,fz];have c:(addL a k).length<=a.length+1:=by unfold addL;split <;> simp
  lia
theorem next_len(ks:List (List Tx))(b:Tx):(ks.flatMap (nextW b)).length=ks.length*3^b.count 46:=by
 rw[Kw];simp only[nextW,cG,fills_len]
 induction ks with
 |nil=>simp
 |cons r a c=>rw[cp,jJ,c,fz,DD,Nat.one_mul,Dy]
theorem stepW_len(ks:List (List Tx))(b:Tx):(stepW ks b).length<=ks.length*3^b.count 46:=by unfold stepW;have:=addF_len (ks.flatMap (nextW b)) [];rw[next_len]at this;simpa using this
theorem waysF_len'(a:List Tx):∀ks:List (List Tx),(a.foldl stepW ks).length<=ks.length*3^cx a:=by
 induction a with
 |nil=>intro ks;simp[cx]
 |cons b a c=>
  intro ks;rw[g_];refine cV (c _) ?_;have e:3^cx (b::a)=3^b.count 46*3^cx a:=by rw[<-z6];rfl
  rw[e,<-Nat.mul_assoc];exact Nat.mul_le_mul_right _ (stepW_len ks b)
theorem waysF_len(a:List Tx):(waysF a).length<=3^cx a:=by have:=waysF_len' a [[]];simpa[waysF]using this
theorem uniqK_acc(l:List PrK):∀(a:List PrK) (z:PrK),z∈l.foldl (λa k=>if k∈a then a else a++[k]) a↔z∈a\/z∈l:=by
 induction l with
 |nil=>intro a z;simp
 |cons k l c=>
  intro a z;rw[g_,c];by_cases b:k∈a
  .rw[if_pos b,bZ];constructor
   .rintro(h|h)
    .exact .inl h
    .exact .inr (.inr h)
   .rintro(h|rfl|h)
    .exact .inl h
    .exact .inl b
    .exact .inr h
  .rw[if_neg b];simp[or_assoc]
theorem uniqK_mem:z∈uniqK l↔z∈l:=by unfold uniqK;rw[uniqK_acc];simp
theorem views_same(w:Int)(a:List Tx):sortK (uniqK ((rowsF a).map λr=>(w,aS r)))=(cT (waysF a)).map λk=>(w,k):=by
 have g:∀k∈uniqK ((rowsF a).map λr=>((w,aS r):PrK)),k.1=w:=λk c=>by obtain⟨r,_,rfl⟩:=bU.mp (uniqK_mem.mp c);rfl
 refine(sortK_uniq (n:=w) ?_ g ?_).symm
 .have b:((cT (waysF a)).map λk=>((w,k):PrK)).Nodup:=by
   exact pe.mpr ((((nD _).nodup_iff).mpr (waysF_nodup a)).imp λh e=>h (Prod.mk.inj e).2)
  refine(List.perm_ext_iff_of_nodup b (uniqK_nodup _ [] tQ)).mpr λq=>?_;show q∈_↔q∈uniqK _;rw[uniqK_mem,bU,bU];constructor
  .rintro⟨k,c,rfl⟩;obtain⟨xs,rfl,f⟩:=waysF_mem.mp ((nD _).mem_iff.mp c);exact⟨xs,rowsF_mem.mpr f,rfl⟩
  .rintro⟨xs,d,rfl⟩;exact⟨aS xs,(nD _).mem_iff.mpr (waysF_mem.mpr ⟨xs,rfl,rowsF_mem.mp d⟩),rfl⟩
 .refine pe.mpr ((I_ _).imp λh=>?_);unfold iG at h;simpa using h
theorem uniqK_len(l:List PrK):(uniqK l).length<=l.length:=(uniqK_nodup l [] tQ).length_le_of_subset λz a=>uniqK_mem.mp a
section
theorem wf_comp(t:Tx)(o:Tx)(g f d b:Slot)(l:t.length<=50):iB [5] cO (d2 bi (dV 1) (dV 0)) (o.map λc=>.str [c]) [] [g,f,d,↥o,b,↥t]=.ok (am (o.map λc=>t++[c])) [g,f,d,↥o,b,↥t]:=by
 have h:=gS (cap:=[5]) (dt:=cO) (de:=(d2 bi (dV 1) (dV 0))) (ε:=[g,f,d,↥o,b,↥t]) (λ_=>ah) (λx=>match x with|.str [c]=>.str (t++[c])|_=>.non) (o.map λc=>PV.str [c])
  (by intro x i;obtain⟨c,_,rfl⟩:=bU.mp i;have j:bi (.str t) (.str [c])=aa (.str (t++[c])):=p9 (by simp[bB];lia);refine⟨by rfl,λ_=>?_⟩;simp![c_,dI,bM,j]) []
 rw[fh,n9.mpr (by simp)]at h;rw[h];congr 1;simp[am,cR,lS]
theorem wf_row(d:Nat)(h g f n:Slot)(b:List Tx)(y:∀t∈b,t.length<=50)(D:(fillS b d).length<=999999):∃l,fc 5 (gD 4 (dF (bD [5] (aU (dV 3)) (cO) (d2 bi (dV 1) (dV 0))))) (am b) [h,g,f,↥(opts d),.own (.lst []),n]=.ok .next [h,g,f,↥(opts d),.own (.lst (am (fillS b d))),l]:=by
 obtain⟨w,v,l,p,rest,j,C,rfl⟩:=lF (i:=5) (db:=(gD 4 (dF (bD [5] (aU (dV 3)) (cO) (d2 bi (dV 1) (dV 0))))))
  (I:=λr s=>∃(l:Slot) (p rest:List Tx),b=p++rest/\r=am rest/\s=[h,g,f,↥(opts d),.own (.lst (am (fillS p d))),l])
  (by
   rintro x r s ⟨l,p,rest,j,z,rfl⟩;cases rest with
   |nil=>trivial
   |cons t rest=>
    have u:x::r=.str t::am rest:=z;simp only[mS]at u;obtain⟨rfl,rfl⟩:=u;have m:=wf_comp t (opts d) h g f (.own (.lst (am (fillS p d)))) (y t (by rw[j];simp));have q:dz (.str (opts d))=aa ((opts d).map λc=>.str [c]):=rfl;have B:fillS (p++[t]) d=fillS p d++(opts d).map λc=>t++[c]:=by simp[fillS]
    have o:(am (fillS p d)).length+(am ((opts d).map λc=>t++[c])).length<=bB:=by
     rw[km,km];have E:(fillS p d).length+((opts d).map λc=>t++[c]).length<=(fillS b d).length:=by rw[j];simp only[fillS,Kx,q8,jk];simp
     unfold bB;lia
    refine⟨[h,g,f,↥(opts d),.own (.lst (am (fillS (p++[t]) d))),↥t],?_,↥t,p++[t],rest,by rw[j];simp,rfl,rfl⟩;rw[B,<-IT];generalize am ((opts d).map λc=>t++[c])=Y at m o;generalize am (fillS p d)=L at m o;generalize ((opts d).map λc=>PV.str [c])=A3 at m q;generalize opts d=O at m q;simp![gD,bD,aU,q,m,o])
  (am b) [h,g,f,↥(opts d),.own (.lst (am (fillS [] d))),n] ⟨n,[],b,by rfl,rfl,rfl⟩
 have A:rest=[]:=by cases rest with|nil=>rfl|cons=>trivial
 subst A;rw[ik]at j;rw[<-j]at v;exact⟨l,v⟩
theorem fillF_app(d:List Tx)(b c:Tx):fillF d (b++c)=fillF (fillF d b) c:=by unfold fillF;simp
theorem fill_long(h:t∈fills b):t.length=b.length:=(fills_mem.mp h).len
theorem pow6(h:k<=6):3^k<=729:=cV (Nat.pow_le_pow_right (by decide) h) (by simp)
theorem wtf_eq(b:Tx)(H:b.length<=40)(G:b.count 46<=6):sh a [↥b]=.ok (.val (.lst (am (fills b)))) [↥b]:=by
 obtain⟨z,l,o,h,g,f,p,rest,j,E,rfl⟩:=lF (i:=2) (db:=(aH (bw 3 (cI (dB (d2 (Pu.eqT ak) (dV 2) (dC (.str [46])))) (dC (.str [97,98,99])) (dV 2)))
 (aH (cQ 4 (dL cH (aF)))
 (aH (b9 5 (aU (dV 1)) (gD 4 (dF (bD [5] (aU (dV 3)) (cO) (d2 bi (dV 1) (dV 0))))))
 (bw 1 (dM 4))))))
  (I:=λr u=>∃(o h g f:Slot) (p rest:Tx),b=p++rest/\r=rest.map (λc=>PV.str [c])/\u=[↥b,.val (.lst (am (fills p))),o,h,g,f])
  (by
   rintro x r u ⟨o,h,g,f,p,rest,j,v,rfl⟩;cases rest with
   |nil=>trivial
   |cons d rest=>
    simp only[cp,mS]at v;obtain⟨rfl,rfl⟩:=v;have J:p.length+1<=b.length:=by rw[j];simp
    have q:(p++[d]).count 46<=6:=by
     grind
    have e:fillS (fills p) d=fills (p++[d]):=by unfold fills;rw[fillF_app];rfl
    obtain⟨w,m⟩:=wf_row d (↥b) (.val (.lst (am (fills p)))) (.val (.str [d])) f (fills p) (λt A=>by rw[fill_long A];lia) (by rw[e,fills_len];have:=pow6 q;lia);rw[e]at m;refine⟨_,?_,.val (.str [d]),↥(opts d),.val (.lst (am (fills (p++[d])))),w,p++[d],rest,by rw[j];simp,rfl,rfl⟩;have s:(cI (dB (d2 (Pu.eqT ak) (dV 2) (dC (.str [46])))) (dC (.str [97,98,99])) (dV 2)) [↥b,.val (.lst (am (fills p))),.val (.str [d]),h,g,f]=.ok (.str (opts d)) [↥b,.val (.lst (am (fills p))),.val (.str [d]),h,g,f]:=by
     have F:=Bl ak [d] [46];by_cases y:d=46
     .subst y;rfl
     .simp![Bl,opts,y]
    have n:dz (.lst (am (fills p)))=aa (am (fills p)):=rfl;generalize am (fills (p++[d]))=R1 at m;generalize am (fills p)=R0 at m s n;generalize opts d=O at m s;refine(cr (sX s)).trans ?_;refine(cr (ε1:=[↥b,.val (.lst R0),.val (.str [d]),↥O,.own (.lst []),f]) (by rfl)).trans ?_;refine(cr (ε1:=[↥b,.val (.lst R0),.val (.str [d]),↥O,.own (.lst R1),w]) ?_).trans ?_
    all_goals trivial)
  (b.map λc=>.str [c]) [↥b,.val (.lst (am (fills []))),.none,.none,.none,.none] ⟨.none,.none,.none,.none,[],b,rfl,rfl,rfl⟩
 have C:rest=[]:=by simp_all
 subst C;rw[ik]at j;rw[<-j]at l;have D:am (fills [])=[.str []]:=rfl;rw[D]at l;have n:dz (.str b)=aa (b.map λc=>.str [c]):=rfl;generalize am (fills b)=R1 at l;generalize (b.map λc=>PV.str [c])=B at l n;simp![sh,yaT,dy,b9,aU,n,l]
theorem yA(h:v5 x=aa t)(e:iJ [] (.type t) (.type T)=aa b):kt [x,.raw (.ty T)]=aa (.bl b):=by show((v5 x).bind λt=>(iJ [] (.type t) (.type T)).map λb=>PV.bl b)=_;simp_all
theorem VZ:iJ [] (.type "int") (.type "int")=aa ah:=by rfl
theorem V6:iJ [] (.type "int") (.type "bool")=aa ak:=by rfl
theorem Qo:iJ [] (.type "str") (.type "str")=aa ah:=by rfl
theorem AJ:iJ [] (.type "tuple") (.type "tuple")=aa ah:=by rfl
theorem MC(bs:List Bool):nc (bs.map .bl)=aa bs:=by
 induction bs with
 |nil=>rfl
 |cons b bs c=>show(nc (bs.map .bl)).map (b::·)=_;rw[c];rfl
theorem yf(bs:List Bool):qf [.lst (bs.map .bl)]=aa (.bl (bs.all id)):=by show(nc (bs.map .bl)).map _=_;rw[MC];rfl
theorem Pw(z s:Tx):zj a [↥z,↥s]=.ok (.val (.bl (z.all s.contains))) [↥z,↥s]:=by
 have b:=gS (cap:=[1]) (dt:=cO) (de:=(d2 (iq ak) (dV 0) (dV 1))) (ε:=[↥z,↥s]) (λ_=>ah) (λx=>match x with|.str [c]=>.bl (s.contains c)|_=>.non) (z.map λc=>.str [c])
  (by
   intro x h;obtain⟨c,_,rfl⟩:=bU.mp h;refine⟨by rfl,λ_=>?_⟩;have g:iq ak (.str [c]) (.str s)=aa (.bl (s.contains c)):=by rw[<-Mn];simp[iq]
   simp![c_,dI,bM,g]) []
 have i:((z.map λc=>PV.str [c]).filter (λ_=>ah)).map (λx=>match x with|.str [c]=>PV.bl (s.contains c)|_=>.non)=(z.map s.contains).map .bl:=by rw[n9.mpr (by simp),cR,cR];rfl
 rw[fh,i]at b;have f:(z.map s.contains).all id=z.all s.contains:=by simp
 generalize z.map s.contains=bs at b f;have d:=yf bs;rw[f]at d;simp![zj,yau,bD,aU,dz,b,d]
def jt(w:Int)(s z:Tx):Bool:=decide ((z.length:Int)=w)&&z.all s.contains
theorem MU(z s:Tx)(w:Int):sT a [↥z,⇑w,↥s]=.ok (.val (.bl (jt w s z))) [↥z,⇑w,↥s]:=by
 have d:kt [.str z,.raw (.ty "str")]=aa (.bl ah):=yA rfl Qo;have f:=Pw (a:=a) z s;have c:bW [.str z]=aa (.int (z.length:Nat)):=rfl;have b:=vE ak (z.length:Nat) w;unfold jt;by_cases h:((z.length:Nat):Int)=w
 .simp only[h,decide_true,Bool.xor_true,D3]at b;simp![sT,yaB,d,c,b,f,h]
 .simp only[h,decide_false,Bool.xor_false]at b;simp![sT,yaB,d,c,b,h]
theorem xM(d c:List Tx):gC (am d) (am c)=aa (decide (d=c)):=by
 induction d generalizing c with
 |nil=>cases c <;> simp[am,gC]
 |cons x d f=>
  cases c with
  |nil=>rfl
  |cons y c=>
   show(dW (.str x) (.str y)).bind (λa=>(gC (am d) (am c)).map λb=>a&&b)=_;rw[f];have:dW (.str x) (.str y)=aa (decide (x=y)):=by
    show aa (tS x == tS y)=_;by_cases h:x=y
    .subst h;simp
    .have:tS x≠tS y:=λz=>h (sv z);simp[h,this]
   simp_all
theorem uU(b:List Tx):fJ (am b)=0:=by
 induction b with
 |nil=>rfl
 |cons x b c=>trivial
theorem Uj(b:Bool)(c d:List Tx):Pu.eqT b (.lst (am c)) (.lst (am d))=aa (.bl (b^^decide (c=d))):=by show(if gE (.lst (am c))<=8 then(gC (am c) (am d)).map (λk=>PV.bl (b^^k))else af)=_;rw[if_pos (by show fJ (am c)+1<=8;rw[uU];decide),xM];rfl
theorem Ni(b:List Tx)(w:Int)(s:Tx)(u:1<=b.length)(r:b.length<=9):oQ a [.val (.tup (am b)),⇑w,↥s]=.ok (.val (.bl (b.all (jt w s)&&decide (b=aS b)))) [.val (.tup (am b)),⇑w,↥s]:=by
 have h:kt [.tup (am b),.raw (.ty "tuple")]=aa (.bl ah):=yA rfl AJ;have i:bW [.tup (am b)]=aa (.int (b.length:Nat)):=by simp[bW,km]
 have m:(1:Int)<=(b.length:Nat):=∅
 have l:((b.length:Nat):Int)<=9:=∅
 have c:=gS (cap:=[1,2]) (dt:=cO) (de:=(bv (bg (sT a) (gV (dV 0) (gV (dV 1) (gV (dV 2) (Pu.bS))))))) (ε:=[.val (.tup (am b)),⇑w,↥s]) (λ_=>ah) (λx=>match x with|.str z=>.bl (jt w s z)|_=>.non) (am b)
  (by intro x o;obtain⟨z,_,rfl⟩:=bU.mp o;refine⟨by rfl,λ_=>?_⟩;have p:=MU (a:=a) z s w;simp![c_,dI,bM,p]) []
 have q:((am b).filter (λ_=>ah)).map (λx=>match x with|.str z=>PV.bl (jt w s z)|_=>.non)=(b.map (jt w s)).map .bl:=by rw[n9.mpr (by simp)];unfold am;rw[cR,cR];rfl
 rw[fh,q]at c;have f:(b.map (jt w s)).all id=b.all (jt w s):=by simp
 generalize b.map (jt w s)=bs at c f;have d:=yf bs;have n:b.length<=1000000:=nofun
 have g:=Uj ak b (aS b);cases j:b.all (jt w s)with
 |false=>rw[f,j]at d;simp![oQ,yam,h,i,m,l,bD,aU,dz,c,d]
 |true=>rw[f,j]at d;simp only[wG]at g;simp![oQ,yam,h,i,m,l,bD,aU,dz,c,d,sK,i8,oD,n,g]
theorem UZ(b:List Tx)(w:Int)(s:Tx)(h:b.length=0\/9<b.length):oQ a [.val (.tup (am b)),⇑w,↥s]=.ok (.val (.bl ak)) [.val (.tup (am b)),⇑w,↥s]:=by
 have c:kt [.tup (am b),.raw (.ty "tuple")]=aa (.bl ah):=yA rfl AJ;have d:bW [.tup (am b)]=aa (.int (b.length:Nat)):=by simp[bW,km]
 by_cases f:(1:Int)<=(b.length:Nat)
 .have g:¬((b.length:Nat):Int)<=9:=∅
  simp![oQ,yam,c,d,f,g]
 .simp![oQ,yam,c,d,f]
theorem Tj(i:Int):AC a [⇑i]=.ok (.val (.bl ah)) [⇑i]:=by rfl
theorem NW(i:Int):tw a [⇑i]=.ok (.val (.bl (decide (1<=i/\i<=4)))) [⇑i]:=by
 have h:=Tj (a:=a) i;by_cases b:1<=i
 .by_cases c:i<=4
  .simp![tw,yaA,h,b,c]
  .simp![tw,yaA,h,b,c]
 .simp![tw,yaA,h,b]
def ng(s:Tx)(w:Int)(b:List Tx):Bool:=decide (1<=w/\w<=4)&&(decide (1<=b.length/\b.length<=9)&&(b.all (jt w s)&&decide (b=aS b)))
theorem Jo(s:Tx)(w:Int)(b:List Tx):oS a [.val (.tup [.int w,.tup (am b)]),↥s]=.ok (.val (.bl (ng s w b))) [.val (.tup [.int w,.tup (am b)]),↥s]:=by
 have h:kt [.tup [.int w,.tup (am b)],.raw (.ty "tuple")]=aa (.bl ah):=yA rfl AJ;have l:bW [.tup [.int w,.tup (am b)]]=aa (.int 2):=rfl;have f:=vE ah 2 2;simp only[decide_true,Bool.true_xor,qZ]at f;have j:ba (.tup [.int w,.tup (am b)]) (.int 0)=aa (.int w):=rfl;have i:ba (.tup [.int w,.tup (am b)]) (.int 1)=aa (.tup (am b)):=rfl;have d:=NW (a:=a) w;unfold ng;by_cases c:1<=w/\w<=4
 .rw[decide_eq_true c]at d ⊢;by_cases g:1<=b.length/\b.length<=9
  .have m:=Ni (a:=a) b w s g.1 g.2;rw[decide_eq_true g];simp![oS,yay,h,l,f,j,i,d,m]
  .have m:=UZ (a:=a) b w s ∅;rw[decide_eq_false g];simp![oS,yay,h,l,f,j,i,d,m]
 .rw[decide_eq_false c]at d ⊢;simp![oS,yay,h,l,f,j,i,d]
abbrev vw(w:Int)(b:List Tx):Bool:=ng cE w b
theorem Os(w:Int)(b:List Tx):yH a [.val (.tup [.int w,.tup (am b)])]=.ok (.val (.bl (vw w b))) [.val (.tup [.int w,.tup (am b)])]:=by have c:=Jo (a:=a) cE w b;simp only[cE]at c;simp![yH,yax,c];rfl
theorem S9(h:vw w b=ah):u_ a [.val (.tup [.int w,.tup (am b)])]=.ok (.val .non) [.val (.tup [.int w,.tup (am b)])]:=by have c:=Os (a:=a) w b;rw[h]at c;simp![u_,yap,c]
theorem Good.vw(g:Good cE w d)(n:1<=w)(m:w<=4)(h:d.Pairwise (λa b=>dj a b=ah)):vw w d=ah:=by
 have l:d.all (jt w cE)=ah:=by rw[k9];intro x f;unfold jt;rw[g.len x f,decide_eq_true rfl,Dg,k9];intro c i;simpa using g.abc x f c i
 have j:decide (d=aS d)=ah:=decide_eq_true (qw h).symm;show ng cE w d=ah;unfold ng;rw[l,j,decide_eq_true (show 1<=(w:Int)/\(w:Int)<=4 by lia),decide_eq_true (show 1<=d.length/\d.length<=9 from⟨g.some,g.few⟩)];rfl
theorem P0(b:List Tx):gR [] b=b.flatten:=by
 induction b with
 |nil=>rfl
 |cons x b c=>
  cases b with
  |nil=>simp[gR]
  |cons y b=>show x++[]++gR [] (y::b)=_;rw[c];simp
theorem RW(b:List Tx):b.flatten.count 46=cx b:=by unfold cx;rw[List.count_flatten]
theorem PD(x:PV)(h:oS a [.val x,↥hZ]=.ok (.val (.bl ak)) [.val x,↥hZ]):oI a [.val x]=.ok (.val (.bl ak)) [.val x]:=by have b:bi (.str [46]) (.str [97,98,99])=aa (.str hZ):=p9 (by decide);simp![oI,yav,b,h]
theorem Tt(w:Int)(b:List Tx)(m:iF [] b<=bB):oI a [.val (.tup [.int w,.tup (am b)])]=.ok (.val (.bl (ng hZ w b&&decide (cx b<=6)))) [.val (.tup [.int w,.tup (am b)])]:=by
 have d:=Jo (a:=a) hZ w b;cases l:ng hZ w b with
 |false=>rw[l]at d;exact PD _ d
 |true=>
  rw[l]at d;have g:bi (.str [46]) (.str [97,98,99])=aa (.str hZ):=p9 (by decide);have h:ba (.tup [.int w,.tup (am b)]) (.int 1)=aa (.tup (am b)):=rfl;have i:nh [] [.tup (am b)]=aa (.str b.flatten):=by show(fS (am b)).bind _=_;rw[oD,gp,if_pos m,P0]
  have j:xX b.flatten [.str [46]]=aa (.int ((cx b:Nat):Int)):=by show aa (PV.int ((b.flatten.count 46:Nat):Int))=_;rw[RW]
  by_cases c:cx b<=6
  .have f:((cx b:Nat):Int)<=6:=∅
   simp![oI,yav,g,d,h,mh,yN,i,j,c,f]
  .have f:¬((cx b:Nat):Int)<=6:=∅
   simp![oI,yav,g,d,h,mh,yN,i,j,c,f]
theorem RA(h:oI a [.val x]=.ok (.val (.bl ah)) [.val x]):vH a [.val x]=.ok (.val .non) [.val x]:=by simp![vH,yao,h]
end
def cC(m:List (Tx×Int))(x:Tx):Option Int:=(m.find? λp=>decide (p.1=x)).map (·.2)
noncomputable def ki(m:List (Tx×Int))(x:Tx)(n:Int):List (Tx×Int):=if(m.any λp=>decide (p.1=x))=ah then m.map (λp=>if p.1=x then(p.1,n)else p)else m++[(x,n)]
def dk(m:List (Tx×Int)):List (aK×PV):=m.map λp=>(Sum.inr (tS p.1),PV.int p.2)
theorem CQ(x y:Tx):((Sum.inr (tS x):aK)=Sum.inr (tS y))=(x=y):=propext ⟨λh=>sv (Sum.inr.inj h),λh=>by rw[h]⟩
theorem Fa(m:List (Tx×Int))(x:Tx):jv (dk m) (Sum.inr (tS x))=(cC m x).map .int:=by
 induction m with
 |nil=>rfl
 |cons p m a=>
  show((List.find? _ ((Sum.inr (tS p.1),PV.int p.2)::dk m)).map (·.2))=_;unfold cC;rw[lP,lP];simp only[CQ];by_cases h:p.1=x
  .simp[h]
  .simp only[h,decide_false];trivial
theorem Us(m:List (Tx×Int))(x:Tx):((dk m).any λa=>decide (a.1=(Sum.inr (tS x):aK)))=m.any λp=>decide (p.1=x):=by unfold dk;rw[Eb];congr 1;funext p;simp only[Ea,CQ]
theorem M_(m:List (Tx×Int))(x:Tx)(n:Int):oE (dk m) (Sum.inr (tS x)) (.int n)=dk (ki m x n):=by
 unfold oE ki;rw[Us];split
 .unfold dk;rw[cR,cR];refine mH λp _=>?_;simp only[Ea,CQ];split <;> rfl
 .unfold dk;simp
theorem E9{m:List (Tx×Int)}(h:(m.any λp=>decide (p.1=x))=ak):cC m x=af:=by unfold cC;rw[Option.map_eq_none_iff,Kh];intro p a;have:=List.any_eq_false.mp h p a;simpa using this
theorem ON{m:List (Tx×Int)}(h:(m.any λp=>decide (p.1=x))=ak):cC (m++[(x,n)]) y=if y=x then aa n else cC m y:=by
 have a:=E9 h;unfold cC at a ⊢;rw[List.find?_append];by_cases e:y=x
 .subst e;rw[Option.map_eq_none_iff]at a;simp[a]
 .rw[if_neg e];have:¬x=y:=λz=>e z.symm;cases b:m.find? (λp=>decide (p.1=y))with
  |none=>simp[this]
  |some p=>simp
theorem LZ{m:List (Tx×Int)}:cC (m.map λp=>if p.1=x then(p.1,n)else p) y=(cC m y).map λz=>if y=x then n else z:=by
 induction m with
 |nil=>rfl
 |cons p m a=>
  unfold cC at a ⊢;rw[cp,lP,lP];by_cases h:p.1=x
  .rw[if_pos h];by_cases e:p.1=y
   .simp[e,show y=x from e.symm.trans h]
   .simp only[e,decide_false];exact a
  .rw[if_neg h];by_cases e:p.1=y
   .simp[e,show ¬y=x from λz=>h (e.trans z)]
   .simp only[e,decide_false];exact a
theorem Jf{m:List (Tx×Int)}(h:(m.any λp=>decide (p.1=x))=ah):∃n,cC m x=aa n:=by
 unfold cC;cases a:m.find? (λp=>decide (p.1=x))with
 |none=>grind
 |some p=>simp
theorem rK(m:List (Tx×Int))(x y:Tx)(n:Int):cC (ki m x n) y=if y=x then aa n else cC m y:=by
 unfold ki;by_cases h:(m.any λp=>decide (p.1=x))=ah
 .rw[if_pos h,LZ];by_cases e:y=x
  .subst e;obtain⟨k,a⟩:=Jf h;rw[a];simp
  .simp[e]
 .rw[if_neg h,ON (DC.mpr h)]
theorem NN:(ki m x n).map (·.1)=if(m.any λp=>decide (p.1=x))=ah then m.map (·.1)else m.map (·.1)++[x]:=by
 unfold ki;split
 .rw[cR];refine mH λp _=>?_;lia
 simp
theorem ve{m:List (Tx×Int)}(h:(m.map (·.1)).Nodup):((ki m x n).map (·.1)).Nodup:=by
 rw[NN];split
 .exact h
 .rename_i f;rw[zW];refine⟨h,by simp,λa g b c=>?_⟩;rw[kD]at c;subst c;rintro rfl;obtain⟨p,d,rfl⟩:=bU.mp g;exact f (Ec.mpr ⟨p,d,by simp⟩)
section
variable{a:Ad}
def vm(c:Nat):PV:=.str [c]
end
section
abbrev aJ(w:Nat)(ls:List Tx):PV:=.tup [.int w,.tup (am ls)]
theorem QE(xs:List b):iD xs af (aa (-1))=xs.dropLast:=by unfold iD;rw[show HT.sIx xs.length 0 af=0 from rfl,List.drop_zero,Nat.sub_zero,Kz];congr 1;show(HT.sIx xs.length xs.length (aa (-1)))=_;show(if(-1:Int)<0 then((-1:Int)+(xs.length:Int)).toNat else min (-1:Int).toNat xs.length)=_;lia
theorem Gy(b:List Tx):iC (am b)=aa (cm b):=by
 induction b with
 |nil=>rfl
 |cons x b c=>show(dA (.str x)).bind (λv=>(iC (am b)).map (v::·))=_;rw[c];rfl
theorem HZ(b:List Tx)(x:Tx):mi (am b) (.str x)=aa (.int (b.count x:Nat)):=by show(dA (.str x)).bind (λv=>(iC (am b)).map λc=>PV.int (c.countP λz=>eP z v))=_;rw[Gy,<-M9];rfl
theorem TD(w:Nat)(b:List Tx)(t:Tx)(n:t.length<=60):oX a [↥t,⇑w,.val (.tup (am b))]=.ok (.val (.bl (unD w b t))) [↥t,⇑w,.val (.tup (am b))]:=by
 have d:=Cj (a:=a) t w n
 let M:=aS (bh t w)
 have c:=gS (cap:=[3,2]) (dt:=cO) (de:=(d2 (dS λi j=>decide (i<=j)) (sd mi (dV 1) (dV 0)) (sd mi (dV 2) (dV 0)))) (ε:=[↥t,⇑w,.val (.tup (am b)),.val (.tup (am M))]) (λ_=>ah) (λx=>match x with|.str z=>.bl (decide (M.count z<=b.count z))|_=>.non) (am M)
  (by intro x m;obtain⟨z,_,rfl⟩:=bU.mp m;refine⟨by rfl,λ_=>?_⟩;have h:=HZ M z;have g:=HZ b z;generalize am M=A at h;generalize am b=B at g;simp![c_,dI,bM,sd,h,g]) []
 have o:((am M).filter (λ_=>ah)).map (λx=>match x with|.str z=>PV.bl (decide (M.count z<=b.count z))|_=>.non)=(M.map λz=>decide (M.count z<=b.count z)).map .bl:=by rw[n9.mpr (by simp)];unfold am;simp
 rw[fh,o]at c;have l:(M.map λz=>decide (M.count z<=b.count z)).all id=unD w b t:=by
  rw[zJ];unfold unD;have p:=fj (bh t w)
  grind
 generalize (M.map λz=>decide (M.count z<=b.count z))=bs at c l;have f:=yf bs;rw[l]at f;change oN a _=R.ok (Slot.val (.tup (am M))) _ at d;generalize am M=MM at d c;clear_value M;simp![oX,yaO,d,bD,aU,dz,c,f]
end
section
variable{a:Ad}
theorem TF(b:Bool)(c d:List Tx):Pu.eqT b (.tup (am c)) (.tup (am d))=aa (.bl (b^^decide (c=d))):=by show(if gE (.tup (am c))<=8 then(gC (am c) (am d)).map (λk=>PV.bl (b^^k))else af)=_;rw[if_pos (by show fJ (am c)+1<=8;rw[uU];decide),xM];rfl
def nextT(w:Nat)(b:List Tx)(t:Tx):List Tx:=(cE.map λc=>t++[c]).filter (unD w b)
theorem Ui(w:Nat)(g:List Tx)(V j h q:Slot)(d:List Tx)(E:∀t∈d,t.length<=50)(N:(d.flatMap (nextT w g)).length<=999999):∃l,fc 6 (gD 5 (dF (bD [6,1,2] (aU (dC (.str [97,98,99]))) (dB (bv (bg (oX a) (gV (d2 bi (dV 1) (dV 0)) (gV (dV 2) (gV (dV 3) (Pu.bS))))))) (d2 bi (dV 1) (dV 0))))) (am d) [V,⇑w,.val (.tup (am g)),j,h,.own (.lst []),q]=.ok .next [V,⇑w,.val (.tup (am g)),j,h,.own (.lst (am (d.flatMap (nextT w g)))),l]:=by
 let f:=nextT w g
 obtain⟨A,y,l,p,rest,n,M,rfl⟩:=lF (i:=6) (db:=(gD 5 (dF (bD [6,1,2] (aU (dC (.str [97,98,99]))) (dB (bv (bg (oX a) (gV (d2 bi (dV 1) (dV 0)) (gV (dV 2) (gV (dV 3) (Pu.bS))))))) (d2 bi (dV 1) (dV 0))))))
  (I:=λr ε=>∃(l:Slot) (p rest:List Tx),d=p++rest/\r=am rest/\ε=[V,⇑w,.val (.tup (am g)),j,h,.own (.lst (am (p.flatMap f))),l])
  (by
   rintro x r ε ⟨l,p,rest,n,F,rfl⟩;cases rest with
   |nil=>trivial
   |cons t rest=>
    have v:x::r=.str t::am rest:=F;simp only[mS]at v;obtain⟨rfl,rfl⟩:=v;have D:=E t (by rw[n];simp);have m:=gS (cap:=[6,1,2]) (dt:=(dB (bv (bg (oX a) (gV (d2 bi (dV 1) (dV 0)) (gV (dV 2) (gV (dV 3) (Pu.bS)))))))) (de:=(d2 bi (dV 1) (dV 0))) (ε:=[V,⇑w,.val (.tup (am g)),j,h,.own (.lst (am (p.flatMap f))),↥t])
     (λx=>match x with|.str [c]=>unD w g (t++[c])|_=>ak) (λx=>match x with|.str [c]=>.str (t++[c])|_=>.non) (cE.map vm)
     (by
      intro x C;obtain⟨c,_,rfl⟩:=bU.mp C;have o:=TD (a:=a) w g (t++[c]) (by simp;lia);have u:bi (.str t) (.str [c])=aa (.str (t++[c])):=p9 (by simp[bB];lia);simp only[vm];generalize am (p.flatMap f)=L;generalize unD w g (t++[c])=b at o;generalize t++[c]=tc at o u;generalize am g=B at o;refine⟨?_,λ_=>?_⟩
      .simp![c_,dI,bM,u,o]
      .simp![c_,dI,bM,u]) []
    have G:((cE.map vm).filter (λx=>match x with|.str [c]=>unD w g (t++[c])|_=>ak)).map (λx=>match x with|.str [c]=>PV.str (t++[c])|_=>.non)=am (f t):=by simp only[f,nextT];rw[n8,cR,n8];unfold am;rw[cR];rfl
    rw[fh,G]at m;have z:dz (.str [97,98,99])=aa (cE.map vm):=rfl;have s:(am (p.flatMap f)).length+(am (f t)).length<=bB:=by
     rw[km,km];have O:(p.flatMap f).length+(f t).length<=(d.flatMap (nextT w g)).length:=by
      grind
     unfold bB;lia
    refine⟨[V,⇑w,.val (.tup (am g)),j,h,.own (.lst (am ((p++[t]).flatMap f))),↥t],?_,↥t,p++[t],rest,by rw[n];simp,rfl,rfl⟩;have J:am ((p++[t]).flatMap f)=am (p.flatMap f)++am (f t):=by simp[am]
    rw[J];generalize am (f t)=Y at m s;generalize am (p.flatMap f)=L at m s;generalize am g=B at m;generalize cE.map vm=A3 at m z;clear_value f;simp![gD,bD,aU,z,m,s])
  (am d) [V,⇑w,.val (.tup (am g)),j,h,.own (.lst (am (([]:List Tx).flatMap f))),q] ⟨q,[],d,by rfl,rfl,rfl⟩
 have H:rest=[]:=by cases rest with|nil=>rfl|cons=>trivial
 subst H;rw[ik]at n;rw[<-n]at y;exact⟨l,y⟩
theorem TW(h:k<=12):3^k<=531441:=cV (Nat.pow_le_pow_right (by decide) h) (by simp)
theorem Rq(g:Good cE w ls)(s:1<=w)(w4:w<=4)(W:ls.Pairwise (λa b=>dj a b=ah)):sq a [.val (aJ w ls)]=.ok (.own (.lst (am (kj w ls)))) [.val (aJ w ls)]:=by
 have G:kj w ls=(rowsOf w ls (ls.length+w-1)).filter (λz=>decide (aS (bh z w)=ls)):=by rw[MJ W,Cq s g.some λx r=>⟨g.len x r,g.abc x r⟩];congr 2;lia
 obtain⟨L,C⟩:∃L:Nat,ls.length+w-1=L:=⟨_,rfl⟩
 rw[C]at G;have F:L<=12:=by have:=g.few;lia
 have H:bW [.tup (am ls)]=aa (.int (ls.length:Nat)):=by simp[bW,km]
 have A:bi (.int (ls.length:Nat)) (.int w)=aa (.int ((ls.length:Int)+w)):=rfl;have y:lB (.int ((ls.length:Int)+w)) (.int 1)=aa (.int L):=by show aa (PV.int ((ls.length:Int)+w-1))=_;congr 2;lia
 have X:kn [.int L]=aa (eN 0 L):=vM ∅;have v:(eN 0 L).length=L:=by simp[eN]
 obtain⟨J,m,q,p,f,rfl⟩:=u5 (i:=4) (db:=(aH (cQ 5 (dL cH (aF)))
 (aH (b9 6 (aU (dV 3)) (gD 5 (dF (bD [6,1,2] (aU (dC (.str [97,98,99]))) (dB (bv (bg (oX a) (gV (d2 bi (dV 1) (dV 0)) (gV (dV 2) (gV (dV 3) (Pu.bS))))))) (d2 bi (dV 1) (dV 0))))))
 (bw 3 (dM 5)))))
  (I:=λk ε=>∃(q p f:Slot),ε=[.val (aJ w ls),⇑w,.val (.tup (am ls)),.val (.lst (am (rowsOf w ls k))),q,p,f]) (N:=L)
  (by
   rintro k ε x hk ⟨q,p,f,rfl⟩;have n:∀t∈rowsOf w ls k,t.length<=50:=λt S=>by have:=((nA k t).mp (ku.mp S).1).1;lia
   have e:(rowsOf w ls k).flatMap (nextT w ls)=rowsOf w ls (k+1):=(Sz s ls k).symm;have P:((rowsOf w ls k).flatMap (nextT w ls)).length<=999999:=by rw[e];have l:=UI w ls (k+1);have h2:=TW (show k+1<=12 by ac_rfl);lia
   obtain⟨O,l⟩:=Ui (a:=a) w ls (.val (aJ w ls)) (.val (.lst (am (rowsOf w ls k)))) (.val x) f (rowsOf w ls k) n P;rw[e]at l;refine⟨_,?_,.val x,.val (.lst (am (rowsOf w ls (k+1)))),O,rfl⟩;generalize am (rowsOf w ls (k+1))=R1 at l;generalize Y:am (rowsOf w ls k)=R0 at l;simp only[aJ]at l ⊢;have o:∀(d:ad aM) (xs:List PV) (ε:aj),ε[3]?=aa (.val (.lst xs))->b9 6 (aU (dV 3)) d ε=fc 6 d xs ε:=λd xs ε h=>by unfold b9 aU dV;rw[h];rfl
   refine(cr (ε1:=[.val (.tup [.int w,.tup (am ls)]),⇑w,.val (.tup (am ls)),.val (.lst R0),.val x,.own (.lst []),f]) (by rfl)).trans ?_;refine(cr ((o _ R0 _ rfl).trans l)).trans ?_;rfl)
  (eN 0 L) 0 [.val (aJ w ls),⇑w,.val (.tup (am ls)),.val (.lst (am (rowsOf w ls 0))),.none,.none,.none] ⋯ ⟨.none,.none,.none,rfl⟩
 rw[v,mO,Lx s]at m;have j:=gS (cap:=[1,2]) (dt:=(dB (d2 (Pu.eqT ak) (bv (bg (oN a) (gV (dV 0) (gV (dV 1) (Pu.bS))))) (dV 2)))) (de:=dV 0) (ε:=[.val (aJ w ls),⇑w,.val (.tup (am ls)),.val (.lst (am (rowsOf w ls L))),q,p,f])
  (λx=>match x with|.str z=>decide (aS (bh z w)=ls)|_=>ak) (λx=>x) (am (rowsOf w ls L))
  (by
   intro x r;obtain⟨z,Q,rfl⟩:=bU.mp r;have u:z.length<=60:=by have:=((nA L z).mp (ku.mp Q).1).1;lia
   have E:=Cj (a:=a) z w u;have c:=TF ak (aS (bh z w)) ls;simp only[wG]at c;generalize am (aS (bh z w))=M at E c;generalize Z:decide (aS (bh z w)=ls)=D at c;generalize am (rowsOf w ls L)=RR;simp only[aJ];refine⟨?_,λ_=>?_⟩
   .simp only[Z];generalize am ls=B at c;simp![c_,dI,bM,E,c]
   rfl) []
 have c:((am (rowsOf w ls L)).filter (λx=>match x with|.str z=>decide (aS (bh z w)=ls)|_=>ak)).map (λx=>x)=am (kj w ls):=by rw[ud,G];unfold am;rw[n8];rfl
 rw[fh,c]at j;have e0:am [[]]=[.str []]:=rfl;rw[e0]at m;generalize am (kj w ls)=T at j;generalize am (rowsOf w ls L)=RR at j m;simp only[aJ]at j m ⊢;generalize am ls=B at j m H;simp![sq,yaD,BQ,H,A,y,dy,b9,X,m,jP,bD,aU,dz,j]
def tkD(ks:List (List Tx)):List (eX×PV):=ks.map λk=>(ge k,.bl ah)
theorem txKey_inj:ge k=ge l↔k=l:=by
 constructor
 .intro h;have b:=Bd k;rw[h,Bd]at b;lia
 .rintro rfl;rfl
theorem put_tkD(ks:List (List Tx))(k:List Tx):rL (tkD ks) (ge k) (.bl ah)=tkD (addL ks k):=by
 have b:((tkD ks).any λc=>decide (c.1=ge k))=decide (k∈ks):=by
  unfold tkD;rw[Eb,o6,Ec,decide_eq_true_iff];constructor
  .rintro⟨l,d,h⟩;have:ge l=ge k:=of_decide_eq_true h;rw[<-txKey_inj.mp this];trivial
  lia
 unfold rL addL;rw[b];by_cases h:k∈ks
 .rw[if_pos (decide_eq_true h),if_pos h];unfold tkD;simp
 .rw[if_neg (~~~h),if_neg h];simp[tkD]
theorem tkey_tup(l:List Tx):qz (.tup (am l))=aa (ge l):=by
 show r8 (am l)=_
 induction l with
 |nil=>rfl
 |cons x l b=>show(jx (.str x)).bind (λk=>(r8 (am l)).map (k::·))=_;rw[b];rfl
theorem tkV_key(l:List Tx):lH (ge l)=.tup (am l):=by unfold lH ge am;rw[cR];rfl
theorem tkD_len(ks:List (List Tx)):(tkD ks).length=ks.length:=by simp[tkD]
theorem tkD_ok(h:∀k∈ks,∀x∈k,x.length<=bB):Ai (tkD ks)=ah:=by unfold Ai tkD;rw[zJ,k9];intro k c;show(ge k).all uB=ah;unfold ge;rw[zJ,k9];intro x b;show decide ((tS x).cps.toList.length<=bB)=ah;rw[lz];exact decide_eq_true (h k c x b)
theorem sort2t{ls:List Tx}(h:ls.length<=1000000):i8 [.tup (am ls)]=aa (.lst (am (aS ls))):=by simp[i8,oD,h]
def cvB:ad aM:=ye 3 (dL iz (aA (dF (dL i8 (aA (d2 vW (dV 4) (dL d9 (aA (dV 5) (aF)))) (aF)))) (aF))) (dC (.bl ah))
theorem cv_row(g f d h:Slot)(k:List Tx)(s:k.length<=20)(xs:List Tx)(b:List (List Tx))(u:b.length+xs.length<=900000):∃n,fc 5 cvB (am xs) [g,f,d,.own (.dT (tkD b)),.val (.tup (am k)),h]=.ok .next [g,f,d,.own (.dT (tkD ((xs.map λx=>aS (k++[x])).foldl addL b))),.val (.tup (am k)),n]:=by
 induction xs generalizing b h with
 |nil=>exact⟨h,rfl⟩
 |cons x xs q=>
  have w:(addL b (aS (k++[x]))).length<=b.length+1:=by unfold addL;split <;> simp
  simp only[fz]at u;obtain⟨n,y⟩:=q (↥x) (addL b (aS (k++[x]))) ∅;refine⟨n,?_⟩;have j:vW (.tup (am k)) (.tup [.str x])=aa (.tup (am (k++[x]))):=by
   have e:am (k++[x])=am k++[.str x]:=by simp[am]
   rw[e];cases k with
   |nil=>rfl
   |cons z k=>
    show bi (.tup (.str z::am k)) (.tup [.str x])=_;have:(am k).length+1+1<=1000:=by rw[km];simp at s;lia
    simp[bi];constructor
    .simp_all
    rfl
  have l:=sort2t (ls:=k++[x]) (by simp;lia);have o:iz [.lst (am (aS (k++[x])))]=aa (.tup (am (aS (k++[x])))):=rfl;have m:=tkey_tup (aS (k++[x]));have i:=put_tkD b (aS (k++[x]));have p:(tkD b).length<bB:=by rw[tkD_len];unfold bB;lia
  have v:cvB [g,f,d,.own (.dT (tkD b)),.val (.tup (am k)),↥x]=.ok .next [g,f,d,.own (.dT (tkD (addL b (aS (k++[x]))))),.val (.tup (am k)),↥x]:=by generalize am (aS (k++[x]))=Y at l o m;generalize am (k++[x])=Z at l j;generalize tkD (addL b (aS (k++[x])))=D2 at i;generalize ge (aS (k++[x]))=Ky at i m;generalize tkD b=D1 at i p;generalize am k=B at j;simp![cvB,ye,j,l,o,kg,m,p,i]
  show(match cvB ([g,f,d,.own (.dT (tkD b)),.val (.tup (am k)),h].set 5 (↥x))with
   |.ok .next c=>fc 5 cvB (am xs) c
   |.ok .cont c=>fc 5 cvB (am xs) c
   |.ok .brk c=>.ok .next c
   |r=>r)=_
  rw[show [g,f,d,.own (.dT (tkD b)),.val (.tup (am k)),h].set 5 (↥x)=[g,f,d,.own (.dT (tkD b)),.val (.tup (am k)),↥x] from rfl,v];trivial
def cvF(a:Ad):ad aM:=b9 5 (aU (bv (bg (sh a) (gV (dV 2) (Pu.bS))))) cvB
theorem cv_for(b:Tx)(n:b.length<=40)(j:b.count 46<=6)(f d g:Slot)(k:List Tx)(m:k.length<=20)(c:List (List Tx))(p:c.length<=800000):∃h,cvF a [f,d,↥b,.own (.dT (tkD c)),.val (.tup (am k)),g]=.ok .next [f,d,↥b,.own (.dT (tkD ((nextW b k).foldl addL c))),.val (.tup (am k)),h]:=by
 have i:=wtf_eq (a:=a) b n j;obtain⟨h,q⟩:=cv_row f d (↥b) g k m (fills b) c (by rw[fills_len];have:=pow6 j;lia);refine⟨h,?_⟩;have l:dz (.lst (am (fills b)))=aa (am (fills b)):=rfl;have o:(aU (bv (bg (sh a) (gV (dV 2) (Pu.bS))))) [f,d,↥b,.own (.dT (tkD c)),.val (.tup (am k)),g]=.ok (am (fills b)) [f,d,↥b,.own (.dT (tkD c)),.val (.tup (am k)),g]:=by generalize am (fills b)=FB at i l;simp![aU,i,l]
 unfold cvF b9;rw[o];trivial
theorem cv_all(b:Tx)(y:b.length<=40)(o:b.count 46<=6)(V d c:Slot)(ks:List (List Tx))(n:∀k∈ks,k.length<=20/\∀x∈k,x.length<=50)(G:ks.length<=1000):∃h f,sC 4 1 (cvF a) [V,.own (.dT (tkD ks)),↥b,.own (.dT []),d,c]=.ok .next [V,.own (.dT (tkD ks)),↥b,.own (.dT (tkD (stepW ks b))),h,f]:=by
 have E:(tkD ks).map (λp=>lH p.1)=ks.map λk=>.tup (am k):=by unfold tkD;rw[cR];exact mH λk _=>tkV_key k
 obtain⟨s,q,h,f,p,rest,g,F,rfl⟩:=lF (i:=4) (db:=cvF a)
  (I:=λr ε=>∃(d c:Slot) (p rest:List (List Tx)),ks=p++rest/\r=rest.map (λk=>PV.tup (am k))/\ε=[V,.none,↥b,.own (.dT (tkD ((p.flatMap (nextW b)).foldl addL []))),d,c])
  (by
   rintro x r ε ⟨d,c,p,rest,g,m,rfl⟩;cases rest with
   |nil=>trivial
   |cons k rest=>
    simp only[cp,mS]at m;obtain⟨rfl,rfl⟩:=m;have B:((p.flatMap (nextW b)).foldl addL []).length<=800000:=by
     have l:=addF_len (p.flatMap (nextW b)) [];rw[next_len]at l;have A:=pow6 o;have z:p.length<=1000:=by grind
     have H:p.length*3^b.count 46<=1000*729:=Dl z A
     grind
    obtain⟨f,l⟩:=cv_for (a:=a) b y o V .none c k (n k (by rw[g];simp)).1 ((p.flatMap (nextW b)).foldl addL []) B;refine⟨_,l,.val (.tup (am k)),f,p++[k],rest,by rw[g];simp,rfl,?_⟩;simp)
  (ks.map λk=>.tup (am k)) [V,.none,↥b,.own (.dT (tkD (([].flatMap (nextW b)).foldl addL []))),d,c] ⟨d,c,[],ks,rfl,rfl,rfl⟩
 have C:rest=[]:=by simp_all
 subst C;rw[ik]at g;rw[<-g]at q;refine⟨h,f,?_⟩;have j:=tkD_ok (ks:=ks) λk u x v=>by have:=(n k u).2 x v;unfold bB;lia
 unfold sC;have w:kg [V,.own (.dT (tkD ks)),↥b,.own (.dT []),d,c] 1=aa (tkD ks):=rfl;rw[w];simp only[bT,R.bind_ok];rw[if_pos j,E];have D:fc 4 (cvF a) (ks.map λk=>.tup (am k)) ([V,.own (.dT (tkD ks)),↥b,.own (.dT []),d,c].set 1 .none)=.ok .next [V,.none,↥b,.own (.dT (tkD ((ks.flatMap (nextW b)).foldl addL []))),h,f]:=q;rw[D];rfl
theorem ways_shape(h:k∈waysF c):k.length=c.length/\k.Pairwise (λa b=>dj a b=ah)/\∀x∈k,∃b∈c,Fit x b:=by
 obtain⟨xs,rfl,f⟩:=waysF_mem.mp h;refine⟨by rw[(fj xs).length_eq];exact qE f,sV _,λx d=>?_⟩;have g:=(fj xs).mem_iff.mp d;clear d h
 induction f with
 |nil=>trivial
 |cons r _ i=>grind
theorem dots_app(ls b:List Tx):cx (ls++b)=cx ls+cx b:=by simp[cx]
theorem dots_mem(h:b∈c):b.count 46<=cx c:=by
 induction c with
 |nil=>cases h
 |cons x c d=>
  have e:cx (x::c)=x.count 46+cx c:=by rfl
  grind
def cvO(a:Ad):ad aM:=aH (cQ 3 Cn) (aH (sC 4 1 (cvF a)) (yY 1 3))
theorem d_clearing_views_def:yar a=aH (cQ 1 (y8 (dL d9 (aF)) (dC (.bl ah)))) (aH (λε=>dy (b9 2 (aU (d2 ba (dV 0) (dC (.int 1)))) (cvO a) ε)) (jP (bD [0] (aU (dF (vG 1))) (cO) (dL d9 (aA (d2 ba (dV 1) (dC (.int 0))) (aA (dV 0) (aF))))))):=rfl
theorem clearing_eq(g:Good hZ w d)(w4:w<=4)(H:cx d<=6):zb a [.val (aJ w d)]=.ok (.own (.lst ((cT (waysF d)).map λk=>prV (w,k)))) [.val (aJ w d)]:=by
 have Q:=g.few;have Z:=g.some;obtain⟨N,q,m,l,j,h,p,rest,n,oA,rfl⟩:=lF (i:=2) (db:=cvO a)
  (I:=λr ε=>∃(m l j h:Slot) (p rest:List Tx),d=p++rest/\r=am rest/\ε=[.val (aJ w d),.own (.dT (tkD (waysF p))),m,l,j,h])
  (by
   rintro x r ε ⟨m,l,j,h,p,rest,n,P,rfl⟩;cases rest with
   |nil=>trivial
   |cons b rest=>
    have J:x::r=.str b::am rest:=P;simp only[mS]at J;obtain⟨rfl,rfl⟩:=J;have F:b∈d:=by rw[n];simp
    have T:=g.len b F;have C:b.count 46<=6:=cV (dots_mem F) H;have z:cx p<=6:=by have:=dots_app p (b::rest);lia
    have O:=waysF_len p;have:=pow6 z;have VC:p.length<=9:=by grind
    obtain⟨G,L,o⟩:=cv_all (a:=a) b ∅ C (.val (aJ w d)) j h (waysF p) (λk s=>⟨by rw[(ways_shape s).1];lia,λx u=>by obtain⟨c,f,A⟩:=(ways_shape s).2.2 x u;rw[A.len,g.len c (by rw[n];simp[f])];lia⟩) ∅;have e:stepW (waysF p) b=waysF (p++[b]):=by unfold waysF;simp
    rw[e]at o;refine⟨[.val (aJ w d),.own (.dT (tkD (waysF (p++[b])))),↥b,.none,G,L],?_,↥b,.none,G,L,p++[b],rest,by rw[n];simp,rfl,rfl⟩;generalize tkD (waysF (p++[b]))=D2 at o;generalize tkD (waysF p)=D1 at o;refine(cr (ε1:=[.val (aJ w d),.own (.dT D1),↥b,.own (.dT []),j,h]) (by rfl)).trans ?_;refine(cr o).trans ?_;rfl)
  (am d) [.val (aJ w d),.own (.dT (tkD (waysF []))),.none,.none,.none,.none] ⟨.none,.none,.none,.none,[],d,rfl,rfl,rfl⟩
 have W:rest=[]:=by cases rest with|nil=>rfl|cons=>trivial
 subst W;rw[ik]at n;rw[<-n]at q;have v:ba (aJ w d) (.int 1)=aa (.tup (am d)):=rfl;have y:ba (aJ w d) (.int 0)=aa (.int w):=rfl;have M:dz (.tup (am d))=aa (am d):=rfl;have D:yb (tkD (waysF d))=aa (.lst ((cT (waysF d)).map oH)):=by
  have X:(waysF d).length<=1000000/\∀k∈waysF d,k≠[]/\∀x∈k,x.length<=bB:=by
   refine⟨?_,λk s=>⟨?_,λx u=>?_⟩⟩
   .have:=waysF_len d;have:=pow6 H;lia
   .rintro rfl;have:=(ways_shape s).1
    grind
   .obtain⟨c,f,A⟩:=(ways_shape s).2.2 x u;rw[A.len,g.len c f];unfold bB;lia
  unfold yb tkD;rw[RB,gp,if_pos X]
 have f:=gS (cap:=[0]) (dt:=cO) (de:=(dL d9 (aA (d2 ba (dV 1) (dC (.int 0))) (aA (dV 0) (aF))))) (ε:=[.val (aJ w d),.own (.dT (tkD (waysF d))),m,l,j,h]) (λ_=>ah) (λx=>.tup [.int w,x]) ((cT (waysF d)).map oH)
  (by intro x u;generalize aJ w d=V at y;generalize ((w:Nat):Int)=WI at y;refine⟨by rfl,λ_=>?_⟩;simp![c_,dI,bM,y]) []
 rw[fh,n9.mpr (by simp),cR]at f;have S:(cT (waysF d)).map ((λx=>PV.tup [.int w,x]) ∘ oH)=(cT (waysF d)).map λk=>prV (w,k):=rfl;rw[S]at f;have E:dz (.lst ((cT (waysF d)).map oH))=aa ((cT (waysF d)).map oH):=rfl;have o:(cQ 1 (y8 (dL d9 (aF)) (dC (.bl ah)))) [.val (aJ w d),.none,.none,.none,.none,.none]=.ok .next [.val (aJ w d),.own (.dT (tkD (waysF []))),.none,.none,.none,.none]:=by rfl
 have Y:yar a [.val (aJ w d),.none,.none,.none,.none,.none]=.ok (.ret (.own (.lst ((cT (waysF d)).map λk=>prV (w,k))))) [.val (aJ w d),.own (.dT (tkD (waysF d))),m,l,j,h]:=by
  rw[d_clearing_views_def];refine(cr o).trans ?_;generalize (cT (waysF d)).map (λk=>prV (w,k))=RV at f;generalize (cT (waysF d)).map oH=RT at f D E;generalize tkD (waysF d)=D2 at q f D;generalize tkD (waysF [])=D0 at q;generalize am d=B at q v M;generalize aJ w d=V at q v f;refine(cr (ε1:=[.val V,.own (.dT D2),m,l,j,h]) ?_).trans ?_
  .simp![dy,b9,aU,v,M,q]
  .simp![jP,bD,aU,vG,kg,D,E,f]
 simp[zb,bI,gT,bH,dQ,Y,back,gf,aR,R.bind]
end
end Sh
namespace Mx
open L2 Pu
def nJ(z:Tx)(i:Nat):Nat:=z.getD (i % z.length) 0
def OC(z:Tx)(w:Nat):Tx:=((dQ w z).flatten).take (z.length+w-1)
theorem len_sub{l m:List Tx}(a:l.Nodup)(h:∀x∈l,x∈m):l.length<=m.length:=by
 induction l generalizing m with
 |nil=>simp
 |cons x l b=>
  rw[kB]at a;have d:x∈m:=h x (by simp);have:=b (m:=m.erase x) a.2 λy c=>(List.mem_erase_of_ne (λz=>a.1 ⋯)).mpr (h y (by simp[c]))
  grind
end Mx
namespace Sh
open L2 Pu Mx
section
variable{a:Ad}
def Fm(t:Tx)(v:Nat):List Tx:=(cF (t.length+1-v)).map λi=>(t.drop i).take v
noncomputable def sw(b c:Nat):List Nat:=List.range' b (c-b)
noncomputable def part(t:Tx)(i j:Nat):Tx:=(t.drop i).take (j-i)
def nJ(b:List Tx)(i:Nat):Tx:=b.getD i []
def Sv(t:Tx)(s e g l:Nat):Tx:=t.take s++part t g l++part t e g++part t s e++t.drop l
def SL(t:Tx)(b:List Tx)(s g e:Nat):List Tx:=(sw (g+1) b.length).flatMap λl=>if nJ b e=nJ b l then [Sv t s e g l] else []
def OP(t:Tx)(b:List Tx)(s g:Nat):List Tx:=(sw (s+1) (g+1)).flatMap λe=>SL t b s g e
theorem VP(h:b[i]?=aa (.own c)):kT i b=.ok (.ret (.own c)) (b.set i .none):=by unfold kT;rw[h]
theorem QW(h:d ε=.ok xs c)(f:fc i db xs c=.ok .next b):b9 i d db ε=.ok .next b:=by unfold b9;rw[h];trivial
def L8(t:Tx)(b:List Tx)(s:Nat):List Tx:=(sw (s+1) b.length).flatMap λg=>if nJ b s=nJ b g then OP t b s g else []
def Rg(t:Tx)(b:List Tx):List Tx:=(sw 0 b.length).flatMap λs=>L8 t b s
theorem AX(h:ε[i]?=aa (.val v)):dV i ε=.ok v ε:=by unfold dV;rw[h]
theorem QA{d1 d2:ad d}(h:c ε=.ok ah b):cI c d1 d2 ε=d1 b:=by unfold cI;rw[h];rfl
theorem QK{d1 d2:ad d}(h:c ε=.ok ak b):cI c d1 d2 ε=d2 b:=by unfold cI;rw[h];rfl
theorem pQ(h:d ε=.ok (.bl b) ε1):dB d ε=.ok b ε1:=by unfold dB;rw[h];rfl
def K_(t:Tx)(m w:Nat):List Tx:=(sw 1 m).map λp=>OC ((t.take m).drop p++(t.take m).take p) w
def Pr(t:Tx)(b:List Tx)(w:Nat):List Tx:=if nJ b 0=nJ b (b.length-1)then K_ t (b.length-1) w else []
def No(t:Tx)(w:Nat):List Tx:=Rg t (Fm t (w-1))++Pr t (Fm t (w-1)) w
def MK(t:Tx)(m:Nat):List Tx:=(sw 1 m).map λp=>part (dQ 3 (t.take m)).flatten p (p+t.length)
def pZ(t:Tx)(b:List Tx):List Tx:=if nJ b 0=nJ b (b.length-1)then MK t (b.length-1)else []
theorem BG(h:t d=.ok ah ε1)(f:c ε1=.ok .next b):jb t c (n+1) d=jb t c n b:=by rw[jb,h,R.bind_ok];simp only;rw[f]
theorem Ii(h:t b=.ok ak ε1):jb t c (n+1) b=.ok .next ε1:=by rw[jb,h,R.bind_ok]
end
end Sh
namespace Mx
open L2 Pu
theorem qx(a:1<=w):(bh z w).length=z.length+1-w:=by rw[qv z w a];simp
def SG(t:Tx)(w:Nat):List Tx:=(ef t.length).filter λz=>(bh z w).isPerm (bh t w)
end Mx
namespace Sh
open L2 Pu Mx
abbrev gr(t:Tx)(v i:Nat):Tx:=(t.drop i).take v
theorem yd:(gr t (v+1) i).take v=gr t v i:=by
 grind
theorem Bo:(gr t (v+1) i).tail=gr t v (i+1):=by
 unfold gr;refine pf λk=>?_;rw[List.getElem?_tail,Kf,Kf,Dx,Dx];by_cases h:k<v
 .rw[if_pos ∅,if_pos h];congr 1;lia
 .rw[if_neg ⋯,if_neg h]
theorem VO:x∈bh t (v+1)↔∃i,i+v<t.length/\x=gr t (v+1) i:=by
 rw[qv _ _ (by simp),bU]
 grind
theorem IV:∀(k:Nat) (t:Tx) (i:Nat),((List.range' i k).map λj=>if gr t v j=y then 1 else 0).sum+(if gr t v (i+k)=y then 1 else 0)=((List.range' i k).map λj=>if gr t v (j+1)=y then 1 else 0).sum+(if gr t v i=y then 1 else 0)
 |0,t,i=>by rfl
 |k+1,t,i=>by have a:=IV (v:=v) (y:=y) k t (i+1);rw[List.range'_succ,cp,cp,jJ,jJ,show i+(k+1)=i+1+k by lia];lia
end Sh
namespace Mx
open L2 Pu
theorem FI(w:Nat):∀(s r t:Tx),nw w t (s++r)=nw w t s++nw w (t++s) r
 |[],r,t=>by simp[nw]
 |c::s,r,t=>by rw[qX,nw,nw,FI w s r (t++[c]),qX,jH];rfl
end Mx
namespace Sh
open L2 Pu Mx
section
variable{v:Nat}
def oc(v:Nat)(M:List Tx)(y:Tx):Nat:=(M.map λx=>if x.take v=y then 1 else 0).sum
def ic(M:List Tx)(y:Tx):Nat:=(M.map λx=>if x.tail=y then 1 else 0).sum
theorem yo(M N:List Tx)(y:Tx):oc v (M++N) y=oc v M y+oc v N y:=by simp[oc]
theorem y0(M N:List Tx)(y:Tx):ic (M++N) y=ic M y+ic N y:=by simp[ic]
theorem uG{M:List Tx}(h:M.Perm N)(y:Tx):oc v M y=oc v N y:=(h.map _).sum_nat
theorem uH{M:List Tx}(h:M.Perm N)(y:Tx):ic M y=ic N y:=(h.map _).sum_nat
theorem VM:0<oc v M y↔∃x∈M,x.take v=y:=by
 unfold oc
 induction M with
 |nil=>simp
 |cons a M f=>
  rw[cp,jJ];by_cases c:a.take v=y
  .rw[if_pos c];exact⟨λ_=>⟨a,by simp,c⟩,λ_=>∅⟩
  .rw[if_neg c,mO,f];exact⟨λ⟨x,d,b⟩=>⟨x,by simp[d],b⟩,λ⟨x,d,b⟩=>⟨x,(bZ.mp d).resolve_left λe=>c (e ▸ b),b⟩⟩
theorem V9:0<ic M y↔∃x∈M,x.tail=y:=by
 unfold ic
 induction M with
 |nil=>simp
 |cons a M f=>
  rw[cp,jJ];by_cases c:a.tail=y
  .rw[if_pos c];exact⟨λ_=>⟨a,by simp,c⟩,λ_=>∅⟩
  .rw[if_neg c,mO,f];exact⟨λ⟨x,d,b⟩=>⟨x,by simp[d],b⟩,λ⟨x,d,b⟩=>⟨x,(bZ.mp d).resolve_left λe=>c (e ▸ b),b⟩⟩
abbrev en(v:Nat)(t:Tx):Tx:=t.drop (t.length-v)
abbrev b2(p:Prop)[Decidable p]:Nat:=if p then 1 else 0
theorem MO:gr t v (t.length-v)=en v t:=by unfold gr en;exact pc (by simp;lia)
theorem vA{t:Tx}(h:v<=t.length)(y:Tx):oc v (bh t (v+1)) y+b2 (en v t=y)=ic (bh t (v+1)) y+b2 (t.take v=y):=by
 have:=IV (v:=v) (y:=y) (t.length-v) t 0;rw[mO,MO]at this;unfold oc ic b2;rw[qv _ _ (by simp),cR,cR,show t.length+1-(v+1)=t.length-v by simp,List.range_eq_range'];have b:∀j,((λx:Tx=>if x.take v=y then 1 else 0) ∘ λi=>(t.drop i).take (v+1)) j=if gr t v j=y then 1 else 0:=λj=>by
  grind
 have a:∀j,((λx:Tx=>if x.tail=y then 1 else 0) ∘ λi=>(t.drop i).take (v+1)) j=if gr t v (j+1)=y then 1 else 0:=λj=>by show(if(gr t (v+1) j).tail=_ then 1 else 0)=_;rw[Bo]
 rw[mH λj _=>b j,mH λj _=>a j];trivial
theorem EM{t:Tx}(h:v<=t.length)(c:Nat):bh (t++[c]) (v+1)=bh t (v+1)++[en v t++[c]]:=by rw[Ig (by simp),if_pos ∅];congr 2;rw[show t.length+1-(v+1)=t.length-v by simp,Vn (by simp)];exact pc (by simp;simp_all)
theorem Aq(g:∀x∈M,x.length=v+1):∀(n:Nat) (t:Tx) (R:List Tx),R.length=n->v<=t.length->(bh t (v+1)++R).Perm M -> ∃a d,a.take v=t.take v/\v<=a.length/\(bh a (v+1)++d).Perm M/\∀x∈d,x.take v≠en v a
 |0,t,R,hn,ht,hp=>⟨t,R,rfl,ht,hp,λx b=>⋯⟩
 |n+1,t,R,hn,ht,hp=>by
  by_cases q:∃x∈R,x.take v=en v t
  .obtain⟨x,b,e⟩:=q;have i:x.length=v+1:=g x (hp.mem_iff.mp (j6 _ b));have f:x=en v t++[x.getLastD 0]:=by
    have h:x=x.take v++x.drop v:=(mP v x).symm;have m:∃c,x.drop v=[c]:=List.length_eq_one_iff.mp (by grind);obtain⟨c,j⟩:=m;rw[j]at h;have l:x.getLastD 0=c:=by rw[h];simp
    rw[l,<-e];trivial
   have o:(bh (t++[x.getLastD 0]) (v+1)++R.erase x).Perm M:=by rw[EM ht,<-f,jH];exact(zO _ (List.perm_cons_erase b).symm).trans hp
   obtain⟨a,d,u,s,r,p⟩:=Aq g n (t++[x.getLastD 0]) (R.erase x) (by grind) (by simp;lia) o;exact⟨a,d,by rw[u,List.take_append_of_le_length ht],s,r,p⟩
  .exact⟨t,R,rfl,ht,hp,λx b e=>q ⟨x,b,e⟩⟩
theorem Uv(h:∀x∈M,x.length=v+1)(c:∀y,oc v M y=ic M y){p:Tx}(s:p.length=v):∃t R,t.take v=p/\v<=t.length/\(bh t (v+1)++R).Perm M/\en v t=p/\(∀x∈R,x.take v≠p)/\∀y,oc v R y=ic R y:=by
 have l:bh p (v+1)=[]:=z7.mp (by rw[qx (by simp)];simp_all);obtain⟨t,R,f,d,a,r⟩:=Aq h M.length p M rfl ⋯ (by rw[l];rfl);rw[show p.take v=p from pc ∅]at f;have u:oc v R (en v t)=0:=by
  rcases KA (oc v R (en v t))with q|q
  .exact q
  .obtain⟨x,j,i⟩:=VM.mp q;exact absurd i (r x j)
 have b:=vA d (en v t);have o:=uG (v:=v) a (en v t);have n:=uH a (en v t);have w:=c (en v t);rw[yo]at o;rw[y0]at n;rw[f]at b;unfold b2 at b;rw[if_pos rfl]at b;have g:p=en v t:=by lia
 refine⟨t,R,f,d,a,g.symm,by rw[g];trivial,λy=>?_⟩;have d1:=vA d y;have d2:=uG (v:=v) a y;have m:=uH a y;rw[yo]at d2;rw[y0]at m
 grind
theorem QD{t c:Tx}(E:i+v<=t.length)(F:v<=c.length)(C:c.take v=gr t v i)(B:en v c=gr t v i):∃g,g.take v=t.take v/\v<=g.length/\en v g=en v t/\(bh g (v+1)).Perm (bh t (v+1)++bh c (v+1)):=by
 let T1:=t.take (i+v)
 let T2:=t.drop (i+v)
 have A:t=T1++T2:=(mP _ _).symm;have w:T1.length=i+v:=by simp[T1];simp_all
 have l:T1=t.take i++gr t v i:=by show t.take (i+v)=_;rw[List.take_add]
 have d:(gr t v i).length=v:=by grind
 let s:=c.drop v
 have o:c=gr t v i++s:=by rw[<-C];exact(mP _ _).symm
 have m:∀(a b:Tx),(a++gr t v i).length=a.length+v->bh (a++gr t v i++b) (v+1)=bh (a++gr t v i) (v+1)++nw (v+1) (gr t v i) b:=by
  intro a b _;have j:∀(n:Nat) (b:Tx),b.length=n->bh (a++gr t v i++b) (v+1)=bh (a++gr t v i) (v+1)++nw (v+1) (gr t v i) b:=by
   intro n
   induction n with
   |zero=>intro b h;rw[z7.mp h];simp[nw]
   |succ n z=>
    intro b h;obtain⟨f,x,rfl⟩:∃f x,b=f++[x]:=⟨b.dropLast,b.getLast (by grind),(List.dropLast_concat_getLast _).symm⟩
    rw[<-jH,EM (by simp[d];lia),z f (by simp at h;omega),FI,jH];congr 2;simp only[nw];congr 2;have e:(a++gr t v i++f).length-v=a.length+((gr t v i++f).length+1-(v+1)):=by simp[d];lia
    unfold en;rw[e,jH,List.drop_append];simp
  exact j b.length b rfl
 have u:bh t (v+1)=bh T1 (v+1)++nw (v+1) (gr t v i) T2:=by have:=m (t.take i) T2 (by simp[d]);rw[<-l]at this;rw[<-this,<-A]
 have r:bh (T1++s) (v+1)=bh T1 (v+1)++nw (v+1) (gr t v i) s:=by have:=m (t.take i) s (by simp[d]);rw[<-l]at this;trivial
 have q:bh c (v+1)=nw (v+1) (gr t v i) s:=by
  conv=>lhs;rw[o]
  exact AK (by simp) (by trivial)
 have D:T1++s=t.take i++c.take (c.length-v)++gr t v i:=by rw[l,jH,<-o,jH,<-B];simp
 have p:bh (T1++s++T2) (v+1)=bh (T1++s) (v+1)++nw (v+1) (gr t v i) T2:=by
  grind
 refine⟨T1++s++T2,?_,by simp[w];lia,?_,?_⟩
 .grind
 .have y:∀a:Tx,en v (a++(gr t v i++T2))=en v (gr t v i++T2):=λa=>by
   unfold en;rw[List.drop_append,Kv (by simp[d];lia),fh];congr 1;simp[d];lia
  grind
 .rw[p,r,u,q,jH,jH];exact zO _ List.perm_append_comm
def pU(v:Nat)(M:List Tx):Prop:=∀V:Tx->Prop,(∃x∈M,V (x.take v))->(∀x∈M,V (x.take v)\/V x.tail->V (x.take v)/\V x.tail)->∀x∈M,V (x.take v)
theorem Rj(I:∀x∈M,x.length=v+1)(r:pU v M):∀(n:Nat) (t:Tx) (R:List Tx),R.length<=n->v<t.length->(bh t (v+1)++R).Perm M->(∀y,oc v R y=ic R y)->∃d,d.take v=t.take v/\v<d.length/\(bh d (v+1)).Perm M:=by
 intro n
 induction n with
 |zero=>grind
 |succ n D=>
  intro t R W F f g;by_cases s:R=[]
  .rw[s,ik]at f;exact⟨t,rfl,F,f⟩
  .obtain⟨w,l⟩:=List.exists_mem_of_ne_nil R s;have b:∃i,i+v<=t.length/\∃x∈R,x.take v=gr t v i\/x.tail=gr t v i:=by
    refine KB λno=>?_;have C:∀i,i+v<=t.length->∀x∈R,¬(x.take v=gr t v i\/x.tail=gr t v i):=λi m x a q=>no ⟨i,m,x,a,q⟩;have:=r (λy=>∃i,i+v<=t.length/\gr t v i=y)
     ⟨gr t (v+1) 0,f.mem_iff.mp (wc _ (VO.mpr ⟨0,⋯,rfl⟩)),0,∅,by rw[yd]⟩
     (λx a q=>by
      rcases kA.mp (f.mem_iff.mpr a)with a|a
      .obtain⟨j,X,rfl⟩:=VO.mp a;exact⟨⟨j,∅,by rw[yd]⟩,⟨j+1,∅,by rw[Bo]⟩⟩
      grind)
     w (f.mem_iff.mp (j6 _ l))
    grind
   obtain⟨i,m,x,a,G⟩:=b;have B:0<oc v R (gr t v i):=by
    rcases G with q|q
    .exact VM.mpr ⟨x,a,q⟩
    .rw[g];exact V9.mpr ⟨x,a,q⟩
   have o:∀x∈R,x.length=v+1:=λx a=>I x (f.mem_iff.mp (j6 _ a));obtain⟨c,R2,S,Q,h,P,O,N⟩:=Uv o g (p:=gr t v i) (by grind);have Z:R2.length<R.length:=by
    have H:=h.length_eq;rw[jk]at H;rcases KA (bh c (v+1)).length with z|z
    .rw[z7.mp z,fh]at h;obtain⟨y,E,e⟩:=VM.mp B;exact absurd e (O y (h.mem_iff.mpr E))
    .lia
   obtain⟨d,d1,d2,Y,u⟩:=QD m Q S P;have L:(bh d (v+1)++R2).Perm M:=by refine(u.append_right R2).trans ?_;rw[jH];exact(h.append_left _).trans f
   have T:v<d.length:=by have:=u.length_eq;rw[jk,qx (by simp),qx ∅]at this;lia
   obtain⟨A,J,f2,f3⟩:=D d R2 ∅ T L N;exact⟨A,by rw[J,d1],f2,f3⟩
theorem E3(h:∀x∈M,x.length=v+1)(c:pU v M)(o:∃x∈M,x.take v=s0)(b:∀y,oc v M y+b2 (e=y)=ic M y+b2 (s0=y)):∃t,t.take v=s0/\v<t.length/\(bh t (v+1)).Perm M:=by
 obtain⟨F,m,G⟩:=o;have E:s0.length=v:=by grind
 have i:bh s0 (v+1)=[]:=z7.mp (by rw[qx (by simp)];simp_all);obtain⟨t,R,g,j,a,C⟩:=Aq h M.length s0 M rfl ⋯ (by rw[i];rfl);rw[show s0.take v=s0 from pc ∅]at g;have D:oc v R (en v t)=0:=by
  rcases KA (oc v R (en v t))with q|q
  .exact q
  .obtain⟨x,r,p⟩:=VM.mp q;exact absurd p (C x r)
 have d:=vA j (en v t);have A:=uG (v:=v) a (en v t);have z:=uH a (en v t);have w:=b (en v t);rw[yo]at A;rw[y0]at z;rw[g]at d;unfold b2 at d w;rw[if_pos rfl]at d;have I:e=en v t:=by lia
 have f:∀y,oc v R y=ic R y:=λy=>by have d1:=vA j y;have d2:=uG (v:=v) a y;have u:=uH a y;have H:=b y;rw[yo]at d2;rw[y0]at u;lia
 have B:v<t.length:=by
  rcases Nat.lt_or_ge v t.length with q|q
  .exact q
  .have n:t=s0:=by grind
   subst n;rw[i,fh]at a;have:en v t=t:=by unfold en;simp_all
   grind
 obtain⟨l,s,f2,f3⟩:=Rj h c R.length t R (bn _) B a f;exact⟨l,by rw[s,g],f2,f3⟩
theorem Tu(a:(bh t (v+1)).Perm M):pU v M:=by
 intro V ⟨x,d,b⟩ l z c;obtain⟨i,h,rfl⟩:=VO.mp (a.mem_iff.mpr d);obtain⟨j,g,rfl⟩:=VO.mp (a.mem_iff.mpr c);rw[yd]at b ⊢;have step:∀k,k+v<t.length->(V (gr t v k)↔V (gr t v (k+1))):=λk f=>by have:=l (gr t (v+1) k) (a.mem_iff.mp (VO.mpr ⟨k,f,rfl⟩));rw[yd,Bo]at this;exact⟨λq=>(this (.inl q)).2,λq=>(this (.inr q)).1⟩
 have all:∀k,k+v<t.length->(V (gr t v 0)↔V (gr t v k)):=λk=>by
  induction k with
  |zero=>intro _;exact kE
  |succ k m=>grind
 exact(all j g).mp ((all i h).mpr b)
end
inductive WN(w:Nat):Nat->Tx->Tx->Prop
 |here (n:Nat) (t:Tx):WN w n t t
 |on {n:Nat}{t u z:Tx}:WN w n t u->z∈No u w->WN w (n+1) t z
def Full(w:Nat)(t:Tx)(k:Nat):Prop:=∀z∈SG t w,WN w k t z
theorem B_{c g:Type}(b:c->g->aj)(f:c->Tx->c)(P:c->Prop):∀(xs:List Tx) (a:c) (s:g),P a -> (∀x∈xs,∀a s,P a->P (f a x)/\∃d,db ((b a s).set i (↥x))=.ok .next (b (f a x) d))->∃d,fc i db (am xs) (b a s)=.ok .next (b (xs.foldl f a) d)/\P (xs.foldl f a)
 |[],a,s,h,_=>⟨s,rfl,h⟩
 |x::xs,a,s,h,step=>by obtain⟨o,l,p⟩:=step x (by simp) a s h;obtain⟨j,q,n⟩:=B_ b f P xs (f a x) l o λy m=>step y (by simp[m]);refine⟨j,?_,n⟩;show fc i db (.str x::am xs) _=_;rw[fc,p];trivial
noncomputable abbrev ks(m:List (Tx×Int)):List Tx:=m.map (·.1)
theorem Qb(m:List (Tx×Int))(z:Tx):(m.any λp=>decide (p.1=z))=decide (z∈ks m):=by
 grind
theorem sU(m:List (Tx×Int))(z:Tx):(cC m z).isSome=decide (z∈ks m):=by
 rw[<-Qb];cases h:m.any λp=>decide (p.1=z)with
 |false=>rw[E9 h];rfl
 |true=>obtain⟨n,e⟩:=Jf h;rw[e];rfl
theorem QV(m:List (Tx×Int)):(dk m).length=m.length:=by simp[dk]
theorem Fk(j:de c=.ok (.int n) b)(l:db b=.ok (.str z) a)(d:∃x,eA b i=aa x)(g:eA a i=aa (dk m))(h:m.length<bB):jO i db de c=.ok .next (a.set i (.own (.dK (dk (ki m z n))))):=by unfold jO;obtain⟨x,f⟩:=d;rw[j,R.bind_ok,f];simp only[bT,R.bind_ok];rw[l,R.bind_ok,g];simp only[bT,R.bind_ok];show(aR (aa (Sum.inr (tS z))) a).bind _=_;simp only[bT,R.bind_ok];rw[QV,if_pos h,M_]
theorem Hv(a:∃x,eA ε i=aa x)(f:db ε=.ok (.str z) ε1)(c:eA ε1 i=aa (dk m))(d:cC m z=aa n):kX i db ε=.ok (.int n) ε1:=by unfold kX;obtain⟨x,b⟩:=a;rw[b];simp only[bT,R.bind_ok];rw[f,R.bind_ok,c];simp only[bT,R.bind_ok];show aR (jv (dk m) (.inr (tS z))) ε1=_;rw[Fa,d];rfl
def cM(ks:List Tx):List (aK×PV):=ks.map λx=>(Sum.inr (tS x),PV.bl ah)
def fI(ks:List Tx)(x:Tx):List Tx:=if x∈ks then ks else ks++[x]
theorem V3{ks:List Tx}:z∈fI ks x↔z∈ks\/z=x:=by
 unfold fI;by_cases c:x∈ks
 .rw[if_pos c];exact⟨.inl,λh=>h.elim id λe=>e ▸ c⟩
 .rw[if_neg c];simp
theorem FQ{ks:List Tx}(h:ks.Nodup):(fI ks x).Nodup:=by
 unfold fI;by_cases c:x∈ks
 .rw[if_pos c];exact h
 .rw[if_neg c];exact zW.mpr ⟨h,by simp,λa f b d e=>by simp at d;subst d;subst e;exact c f⟩
theorem yR{ks:List Tx}:ks.length<=(fI ks x).length/\(x∉ks->ks.length<(fI ks x).length):=by
 unfold fI;by_cases c:x∈ks
 .rw[if_pos c];exact⟨bn _,λq=>absurd c q⟩
 .rw[if_neg c];simp
theorem FS(ks:List Tx)(x:Tx):((cM ks).any λa=>decide (a.1=(Sum.inr (tS x):aK)))=decide (x∈ks):=by
 unfold cM;rw[Eb,o6,Ec,decide_eq_true_eq];constructor
 .rintro⟨z,c,b⟩;have:=of_decide_eq_true b;rw[<-sv (Sum.inr.inj this)];trivial
 lia
theorem Tl(ks:List Tx)(x:Tx):oE (cM ks) (Sum.inr (tS x)) (.bl ah)=cM (fI ks x):=by
 unfold oE fI;rw[FS];by_cases c:x∈ks
 .rw[decide_eq_true c,if_pos rfl,if_pos c];unfold cM;simp
 .rw[decide_eq_false c,if_neg (by simp),if_neg c];unfold cM;simp
theorem PB(ks:List Tx)(x:Tx):(jv (cM ks) (Sum.inr (tS x))).isSome=decide (x∈ks):=by rw[<-FS];unfold jv;rw[JQ,List.isSome_find?]
theorem x_(ks:List Tx):(cM ks).length=ks.length:=by simp[cM]
theorem Bs{z:Tx}{ks:List Tx}(b:db ε=.ok (.str z) ε1)(a:eA ε1 i=aa (cM ks)):jw neg i db ε=.ok (.bl (neg^^decide (z∈ks))) ε1:=by unfold jw;rw[b,R.bind_ok,a];simp only[bT,R.bind_ok];show aR (aa (PV.bl (neg^^(jv (cM ks) (.inr (tS z))).isSome))) ε1=_;rw[PB];rfl
theorem ET{z:Tx}{ks:List Tx}(h:de ε=.ok (.bl ah) b)(j:db b=.ok (.str z) a)(c:∃x,eA b i=aa x)(f:eA a i=aa (cM ks))(g:ks.length<bB):jO i db de ε=.ok .next (a.set i (.own (.dK (cM (fI ks z))))):=by unfold jO;obtain⟨x,d⟩:=c;rw[h,R.bind_ok,d];simp only[bT,R.bind_ok];rw[j,R.bind_ok,f];simp only[bT,R.bind_ok];show(aR (aa (Sum.inr (tS z))) a).bind _=_;simp only[bT,R.bind_ok];rw[x_,if_pos g,Tl]
def rS(ks:List Tx)(x:Tx):List Tx:=if x.dropLast∈ks\/x.tail∈ks then fI (fI ks x.dropLast) x.tail else ks
theorem Pl{ks:List Tx}(h:z∈ks):z∈rS ks x:=by
 unfold rS;split
 .exact V3.mpr (.inl (V3.mpr (.inl h)))
 trivial
theorem Hm:∀(a:List Tx) {ks:List Tx}{z:Tx},z∈ks->z∈a.foldl rS ks
 |[],_,_,h=>h
 |x::a,_,_,h=>Hm a (Pl h)
theorem EH{ks:List Tx}(h:ks.Nodup):(rS ks x).Nodup:=by
 unfold rS;split
 .exact FQ (FQ h)
 trivial
theorem EB:∀(a:List Tx) {ks:List Tx},ks.Nodup->(a.foldl rS ks).Nodup
 |[],_,h=>h
 |x::a,_,h=>EB a (EH h)
theorem BJ(ks:List Tx)(x:Tx):ks.length<=(rS ks x).length:=by
 unfold rS;split
 .exact cV yR.1 yR.1
 simp
theorem uJ:∀(a ks:List Tx),ks.length<=(a.foldl rS ks).length
 |[],ks=>bn _
 |x::a,ks=>cV (BJ ks x) (uJ a (rS ks x))
theorem y_:∀(a ks:List Tx),(a.foldl rS ks).length=ks.length->∀x∈a,x.dropLast∈ks\/x.tail∈ks->x.dropLast∈ks/\x.tail∈ks
 |[],_,_,x,b=>by simp at b
 |y::a,ks,h,x,b=>by
  rw[g_]at h;have n:=BJ ks y;have m:=uJ a (rS ks y);have d:(rS ks y).length=ks.length:=∅
  have same:rS ks y=ks/\(y.dropLast∈ks\/y.tail∈ks->y.dropLast∈ks/\y.tail∈ks):=by
   unfold rS at d ⊢;by_cases c:y.dropLast∈ks\/y.tail∈ks
   .rw[if_pos c]at d ⊢;have l:=yR (ks:=ks) (x:=y.dropLast);have j:=yR (ks:=fI ks y.dropLast) (x:=y.tail);have g:y.dropLast∈ks:=KB λq=>by lia
    have i:fI ks y.dropLast=ks:=by unfold fI;rw[if_pos g]
    rw[i]at j d ⊢;have f:y.tail∈ks:=KB λq=>⋯
    exact⟨by unfold fI;rw[if_pos f],λ_=>⟨g,f⟩⟩
   simp_all
  rcases bZ.mp b with rfl|b
  .exact same.2
  .rw[same.1]at h;exact y_ a ks h x b
theorem Fd{V:Tx->Prop}:∀(b ks:List Tx),(∀x∈b,V x.dropLast\/V x.tail->V x.dropLast/\V x.tail)->(∀z∈ks,V z)->∀z∈b.foldl rS ks,V z
 |[],_,_,h,z,d=>h z d
 |x::b,ks,g,h,z,d=>by
  refine Fd b (rS ks x) (λy a=>g y (by simp[a])) (λy a=>?_) z d;unfold rS at a;split at a
  .rename_i c;have f:=g x (by simp) (c.imp (h _) (h _));rcases V3.mp a with a|rfl
   .rcases V3.mp a with a|rfl
    .exact h y a
    .exact f.1
   .exact f.2
  .exact h y a
theorem Aw:∀(a ks:List Tx),(a.foldl rS ks).length=ks.length->a.foldl rS ks=ks
 |[],_,_=>rfl
 |y::a,ks,h=>by
  rw[g_]at h ⊢;have l:=BJ ks y;have j:=uJ a (rS ks y);have e:rS ks y=ks:=by
   have i:(rS ks y).length=ks.length:=∅
   have b:=y_ [y] ks i y (by simp);unfold rS;by_cases c:y.dropLast∈ks\/y.tail∈ks
   .obtain⟨g,f⟩:=b c;have d:fI ks y.dropLast=ks:=by unfold fI;rw[if_pos g]
    rw[if_pos c,d];unfold fI;rw[if_pos f]
   .rw[if_neg c]
  rw[e]at h ⊢;exact Aw a ks h
def fq(a:List Tx):List Tx:=a.map z8++a.map List.tail
theorem Jt{ks:List Tx}(h:∀z∈ks,z∈fq b)(c:x∈b):∀z∈rS ks x,z∈fq b:=λz a=>by
 unfold rS at a;split at a
 .rcases V3.mp a with a|rfl
  .rcases V3.mp a with a|rfl
   .exact h z a
   .exact wc _ (bU.mpr ⟨x,c,rfl⟩)
  .exact j6 _ (bU.mpr ⟨x,c,rfl⟩)
 .exact h z a
structure Rch(ls ks:List Tx):Prop where
 nd:ks.Nodup
 sub:∀z∈ks,z∈fq ls
 start:∀x r,ls=x::r->x.dropLast∈ks
 least:∀V:Tx->Prop,(∀x∈ls,V x.dropLast\/V x.tail->V x.dropLast/\V x.tail)->(∀x r,ls=x::r->V x.dropLast)->∀z∈ks,V z
theorem Rch.few{ks:List Tx}(h:Rch ls ks):ks.length<=2*ls.length:=by
 have:=len_sub h.nd h.sub;unfold fq at this
 grind
theorem Rch.next{ks:List Tx}(h:Rch ls ks):Rch ls (ls.foldl rS ks):=by
 refine⟨EB ls h.nd,?_,λx r e=>Hm ls (h.start x r e),λV c g=>Fd ls ks c (h.least V c g)⟩;have a:∀(l:List Tx) (ks:List Tx),(∀x∈l,x∈ls)->(∀z∈ks,z∈fq ls)->∀z∈l.foldl rS ks,z∈fq ls:=by
  intro l
  induction l with
  |nil=>exact λks _ h=>h
  |cons x l d=>exact λks b h=>d (rS ks x) (λy f=>b y (by simp[f])) (Jt h (b x (by simp)))
 exact a ls ks (λ_ h=>h) h.sub
section
theorem zl(x:Tx):fH (.str x) af (aa (-1))=aa (.str x.dropLast):=by show aa (PV.str (iD x af (aa (-1))))=_;rw[QE]
theorem EY(x:Tx):fH (.str x) (aa 1) af=aa (.str x.tail):=by show aa (PV.str (iD x (aa ((1:Nat):Int)) af))=_;rw[Qx,List.drop_one]
def vo:ad PV:=eO fH (dV 3) (fk) (ee (d1 ig (dC (.int 1))))
def uS:ad PV:=eO fH (dV 3) (ee (dC (.int 1))) (fk)
def rI:ad aM:=cI (l6 (dB (jw ak 1 vo)) (dB (jw ak 1 uS))) (aH (jO 1 vo (dC (.bl ah))) (jO 1 uS (dC (.bl ah)))) (fX)
def rC:ad Bool:=dB (d2 (dS λi j=>decide (i<j)) (dV 2) (nE 1))
def rB:ad aM:=aH (bw 2 (nE 1)) (b9 3 (aU (dV 0)) rI)
theorem TM:yaR a=aH (cQ 1 (uO (eO fH (d2 ba (dV 0) (dC (.int 0))) (fk) (ee (d1 ig (dC (.int 1))))) (dC (.bl ah)))) (aH (bw 2 (dC (.int 0))) (aH (λb=>dy (jb rC rB 1000 b)) (kT 1))):=rfl
def dJ(W:PV)(ks:List Tx)(n:Nat)(b:Slot):aj:=[.val W,.own (.dK (cM ks)),⇑n,b]
theorem Iy(W:PV)(ks:List Tx)(n:Nat)(x:Tx):vo (dJ W ks n (↥x))=.ok (.str x.dropLast) (dJ W ks n (↥x)):=by have h:=zl x;have b:ig (.int 1)=aa (.int (-1)):=rfl;simp[vo,dJ,eO,fk,ee,dV,d1,dC,R.bind,aR,b,ja,h]
theorem GU(W:PV)(ks:List Tx)(n:Nat)(x:Tx):uS (dJ W ks n (↥x))=.ok (.str x.tail) (dJ W ks n (↥x)):=by have h:=EY x;simp[uS,dJ,eO,fk,ee,dV,dC,R.bind,aR,ja,h]
theorem Jw(W:PV)(d:List Tx)(u:d.length<=100)(q:dz W=aa (am d))(ks:List Tx)(h:Rch d ks)(n:Nat)(f:Slot):∃j,b9 3 (aU (dV 0)) rI (dJ W ks n f)=.ok .next (dJ W (d.foldl rS ks) n j):=by
 obtain⟨j,e,_⟩:=B_ (i:=3) (db:=rI) (λks f=>dJ W ks n f) rS (λks=>ks.Nodup/\∀z∈ks,z∈fq d) d ks f ⟨h.nd,h.sub⟩
  (by
   rintro x p ks f ⟨g,l⟩;refine⟨⟨EH g,Jt l p⟩,↥x,?_⟩;have r:ks.length<=200:=by
    have:=len_sub g l;unfold fq at this
    grind
   have o:=pQ (Bs (neg:=ak) (i:=1) (Iy W ks n x) rfl);have m:=pQ (Bs (neg:=ak) (i:=1) (GU W ks n x) rfl);rw[wG]at o m;have b:l6 (dB (jw ak 1 vo)) (dB (jw ak 1 uS)) (dJ W ks n (↥x))=.ok (decide (x.dropLast∈ks\/x.tail∈ks)) (dJ W ks n (↥x)):=by
    unfold l6;rw[o,R.bind_ok];by_cases c:x.dropLast∈ks
    .rw[decide_eq_true c,decide_eq_true (.inl c)]
    .rw[decide_eq_false c];simp only;rw[m];congr 1;simp[c]
   show rI (dJ W ks n (↥x))=_;unfold rI rS;by_cases c:x.dropLast∈ks\/x.tail∈ks
   .rw[decide_eq_true c]at b;rw[if_pos c];refine(QA b).trans ?_;have g:=ET (i:=1) (de:=dC (.bl ah)) (ε:=dJ W ks n (↥x)) rfl (Iy W ks n x) ⟨_,rfl⟩ rfl (by unfold bB;lia);refine(cr g).trans ?_;have s:(fI ks x.dropLast).length<=ks.length+1:=by unfold fI;split <;> simp
    exact ET (i:=1) (de:=dC (.bl ah)) (ε:=dJ W (fI ks x.dropLast) n (↥x)) rfl (GU W (fI ks x.dropLast) n x) ⟨_,rfl⟩ rfl (by unfold bB;lia)
   .rw[decide_eq_false c]at b;rw[if_neg c];exact(QK b).trans rfl)
 refine⟨j,QW ?_ e⟩;unfold aU;rw[AX (v:=W) rfl,R.bind_ok,q];rfl
theorem xN(W:PV)(ks:List Tx)(n:Nat)(b:Slot):rC (dJ W ks n b)=.ok (decide (n<ks.length)) (dJ W ks n b):=by
 have d:nE 1 (dJ W ks n b)=.ok (.int (ks.length:Nat)) (dJ W ks n b):=by show R.ok (PV.int ((cM ks).length:Nat)) _=_;rw[x_]
 have c:decide ((n:Int)<(ks.length:Nat))=decide (n<ks.length):=by simp
 refine pQ (yB (x:=.int n) (AX rfl) d ?_);show aa (PV.bl (decide ((n:Int)<(ks.length:Nat))))=_;rw[c]
theorem RY(W:PV)(b:List Tx)(v:b.length<=100)(w:dz W=aa (am b)):∀(j:Nat) (ks:List Tx) (n l:Nat) (g:Slot),2*b.length<=ks.length+j->j+2<=l->n<ks.length->Rch b ks -> ∃d r i,Rch b d/\(∀x∈b,x.dropLast∈d\/x.tail∈d->x.dropLast∈d/\x.tail∈d)/\jb rC rB l (dJ W ks n g)=.ok .next (dJ W d r i):=by
 intro j
 induction j with
 |zero=>
  intro ks n l g G F s h;obtain⟨f,rfl⟩:∃f,l=f+1+1:=⟨l-2,∅⟩
  obtain⟨i,e⟩:=Jw W b v w ks h ks.length g;have I:=h.few;have H:=h.next.few;have D:=uJ b ks;have p:=Aw b ks ∅;have u:=y_ b ks (by rw[p]);rw[p]at e;have c:=xN W ks n g;rw[decide_eq_true s]at c;have m:rB (dJ W ks n g)=.ok .next (dJ W ks ks.length i):=by
   unfold rB;have k:bw 2 (nE 1) (dJ W ks n g)=.ok .next (dJ W ks ks.length g):=by refine sX (x:=.int (ks.length:Nat)) (ε1:=dJ W ks n g) ?_;show R.ok (PV.int ((cM ks).length:Nat)) _=_;rw[x_]
   exact(cr k).trans e
  have o:=xN W ks ks.length i;rw[decide_eq_false (mz _)]at o;exact⟨ks,ks.length,i,h,u,(BG c m).trans (Ii o)⟩
 |succ j E=>
  intro ks n l g G F s h;obtain⟨f,rfl⟩:∃f,l=f+1:=⟨l-1,∅⟩
  obtain⟨i,e⟩:=Jw W b v w ks h ks.length g;have D:=uJ b ks;have c:=xN W ks n g;rw[decide_eq_true s]at c;have m:rB (dJ W ks n g)=.ok .next (dJ W (b.foldl rS ks) ks.length i):=by
   unfold rB;have k:bw 2 (nE 1) (dJ W ks n g)=.ok .next (dJ W ks ks.length g):=by refine sX (x:=.int (ks.length:Nat)) (ε1:=dJ W ks n g) ?_;show R.ok (PV.int ((cM ks).length:Nat)) _=_;rw[x_]
   exact(cr k).trans e
  by_cases q:(b.foldl rS ks).length=ks.length
  .have p:=Aw b ks q;have u:=y_ b ks q;rw[p]at m;obtain⟨y,rfl⟩:∃y,f=y+1:=⟨f-1,∅⟩
   have o:=xN W ks ks.length i;rw[decide_eq_false (mz _)]at o;exact⟨ks,ks.length,i,h,u,(BG c m).trans (Ii o)⟩
  .obtain⟨d,r,z,C,B,A⟩:=E (b.foldl rS ks) ks.length f i ∅ ∅ ∅ h.next;exact⟨d,r,z,C,B,(BG c m).trans A⟩
theorem T9(W:PV)(x:Tx)(r:List Tx)(v:r.length<=50)(p:dz W=aa (am (x::r)))(d:ba W (.int 0)=aa (.str x)):∃ks,Rch (x::r) ks/\(∀y∈x::r,y.dropLast∈ks\/y.tail∈ks->y.dropLast∈ks/\y.tail∈ks)/\oV a [.val W]=.ok (.own (.dK (cM ks))) [.val W]:=by
 have s:Rch (x::r) [x.dropLast]:=⟨by simp,λz b=>by simp at b;rw[b];simp[fq],λy q e=>by cases e;simp,λV _ u z b=>⋯⟩
 obtain⟨ks,n,g,i,h,m⟩:=RY W (x::r) (by simp;lia) p (2*(x::r).length) [x.dropLast] 0 1000 .none (by simp) (by simp;lia) (by simp) s;refine⟨ks,i,h,?_⟩;have f:=zl x;have o:ig (.int 1)=aa (.int (-1)):=rfl;have l:cQ 1 (uO (eO fH (d2 ba (dV 0) (dC (.int 0))) (fk) (ee (d1 ig (dC (.int 1))))) (dC (.bl ah))) [.val W,.none,.none,.none]=.ok .next [.val W,.own (.dK (cM [x.dropLast])),.none,.none]:=by simp[cQ,uO,eO,fk,ee,d2,d1,dV,dC,R.bind,aR,d,o,ja,f,jx,cM]
 have j:bw 2 (dC (.int 0)) [.val W,.own (.dK (cM [x.dropLast])),.none,.none]=.ok .next (dJ W [x.dropLast] 0 .none):=rfl;have c:yaR a [.val W,.none,.none,.none]=.ok (.ret (.own (.dK (cM ks)))) [.val W,.none,⇑n,g]:=by rw[TM];refine(cr l).trans ?_;refine(cr j).trans ?_;refine(cr (d1:=λε=>dy (jb rC rB 1000 ε)) (by show dy _=_;rw[m];rfl)).trans ?_;rfl
 unfold oV;generalize yaR a=D at c;generalize cM ks=A at c;simp[bI,gT,bH,dQ,c,back,aR,R.bind,gf]
theorem RE{ks:List Tx}(l:∀y∈x::r,y.length=v+1)(h:Rch (x::r) ks)(m:∀y∈x::r,y.dropLast∈ks\/y.tail∈ks->y.dropLast∈ks/\y.tail∈ks):(∀y∈x::r,y.dropLast∈ks)↔pU v (x::r):=by
 have d:∀y∈x::r,y.take v=y.dropLast:=λy b=>by rw[Kz,l y b];rfl
 constructor
 .intro i V ⟨y,b,j⟩ o z g;have n:∀y∈x::r,V y.dropLast\/V y.tail->V y.dropLast/\V y.tail:=λy b q=>by
   grind
  rw[d y b]at j;rw[d z g];by_cases c:V x.dropLast
  .exact h.least V n (λ_ _ e=>by cases e;exact c) _ (i z g)
  .have:=h.least (λq=>¬V q) (λy b q=>by
     grind) (λ_ _ e=>by cases e;exact c) _ (i y b)
   lia
 .intro f y b;have:=f (λq=>q∈ks) ⟨x,by simp,by rw[d x (by simp)];exact h.start x r rfl⟩ (λy b q=>by rw[d y b]at q ⊢;exact m y b q) y b;rwa[d y b]at this
end
def lA(m:List (Tx×Int))(x:Tx):List (Tx×Int):=ki (ki m x.dropLast ((cC m x.dropLast).getD 0+1)) x.tail ((cC (ki m x.dropLast ((cC m x.dropLast).getD 0+1)) x.tail).getD 0-1)
noncomputable def b1(p:Prop)[Decidable p]:Int:=if p then 1 else 0
theorem Rh(m:List (Tx×Int))(x y:Tx):(cC (lA m x) y).getD 0=(cC m y).getD 0+b1 (x.dropLast=y)-b1 (x.tail=y):=by
 unfold lA b1;rw[rK,rK,rK];by_cases b:y=x.tail
 .subst b;by_cases a:x.tail=x.dropLast
  .rw[if_pos rfl,if_pos a,if_pos a.symm,if_pos rfl,a];rfl
  .rw[if_pos rfl,if_neg a,if_neg (c0 a),if_pos rfl];simp
 .rw[if_neg b,if_neg (c0 b)];by_cases a:y=x.dropLast
  .subst a;simp
  .rw[if_neg a,if_neg (c0 a)];simp
theorem Gc(m:List (Tx×Int))(x y:Tx):y∈ks (lA m x)↔y∈ks m\/y=x.dropLast\/y=x.tail:=by
 have k:∀(m:List (Tx×Int)) (z:Tx),z∈ks m↔(cC m z).isSome=ah:=λm z=>by rw[sU,decide_eq_true_eq]
 rw[k,k];unfold lA;generalize (cC (ki m x.dropLast ((cC m x.dropLast).getD 0+1)) x.tail).getD 0-1=n1;generalize (cC m x.dropLast).getD 0+1=n2;rw[rK,rK];by_cases b:y=x.tail
 .rw[if_pos b];simp[b]
 .rw[if_neg b];by_cases a:y=x.dropLast
  .rw[if_pos a];simp[a]
  .rw[if_neg a];simp[b,a]
def bE(a:List Tx):List (Tx×Int):=a.foldl lA []
def exc(ls:List Tx)(y:Tx):Int:=(ls.map λx=>b1 (x.dropLast=y)-b1 (x.tail=y)).sum
theorem GK:∀(a:List Tx) (m:List (Tx×Int)) (y:Tx),(cC (a.foldl lA m) y).getD 0=(cC m y).getD 0+exc a y
 |[],m,y=>by simp[exc]
 |x::a,m,y=>by rw[g_,GK a,Rh];simp only[exc,cp,jJ];lia
theorem Cz(a:List Tx)(y:Tx):(cC (bE a) y).getD 0=exc a y:=by unfold bE;rw[GK];show 0+_=_;simp
theorem HY:∀(a:List Tx) (m:List (Tx×Int)) (y:Tx),y∈ks (a.foldl lA m)↔y∈ks m\/y∈fq a
 |[],m,y=>by simp[fq]
 |x::a,m,y=>by rw[g_,HY a,Gc];simp only[fq,cp,kA,bZ];lia
theorem xG(a:List Tx)(y:Tx):y∈ks (bE a)↔y∈fq a:=by unfold bE;rw[HY];simp
theorem Gm:∀(a:List Tx) (m:List (Tx×Int)),(ks m).Nodup->(ks (a.foldl lA m)).Nodup
 |[],_,h=>h
 |x::a,m,h=>Gm a _ (ve (ve h))
theorem Im(a:List Tx):(ks (bE a)).Nodup:=Gm a [] (by simp)
section
def vY:ad PV:=eO fH (dV 2) (fk) (ee (d1 ig (dC (.int 1))))
def tz:ad PV:=eO fH (dV 2) (ee (dC (.int 1))) (fk)
def xB:ad aM:=aH (jO 1 vY (d2 bi (mo 1 vY (dC (.int 0))) (dC (.int 1)))) (jO 1 tz (d2 lB (mo 1 tz (dC (.int 0))) (dC (.int 1))))
theorem Qk:yas a=aH (cQ 1 (yj)) (aH (λb=>dy (b9 2 (aU (dV 0)) xB b)) (kT 1)):=rfl
def iw(W:PV)(m:List (Tx×Int))(s:Slot):aj:=[.val W,.own (.dK (dk m)),s]
theorem Fq(W:PV)(m:List (Tx×Int))(x:Tx):vY (iw W m (↥x))=.ok (.str x.dropLast) (iw W m (↥x)):=by have h:=zl x;have b:ig (.int 1)=aa (.int (-1)):=rfl;simp[vY,iw,eO,fk,ee,dV,d1,dC,R.bind,aR,b,ja,h]
theorem IY(W:PV)(m:List (Tx×Int))(x:Tx):tz (iw W m (↥x))=.ok (.str x.tail) (iw W m (↥x)):=by have h:=EY x;simp[tz,iw,eO,fk,ee,dV,dC,R.bind,aR,ja,h]
theorem EE(d:db b=.ok (.str z) b)(c:eA b i=aa (dk m)):mo i db (dC (.int n)) b=.ok (.int ((cC m z).getD n)) b:=by unfold mo;rw[c];simp only[bT,R.bind_ok];rw[d,R.bind_ok];show((R.ok (PV.int n) b).bind _)=_;rw[R.bind_ok,c];simp only[bT,R.bind_ok];show aR (aa ((jv (dk m) (.inr (tS z))).getD (.int n))) b=_;rw[Fa];simp
theorem TY(W:PV)(b:List Tx)(L:b.length<=100)(M:dz W=aa (am b)):rQ a [.val W]=.ok (.own (.dK (dk (bE b)))) [.val W]:=by
 obtain⟨d,e,_⟩:=B_ (i:=2) (db:=xB) (λm s=>iw W m s) lA (λm=>(ks m).Nodup/\∀z∈ks m,z∈fq b) b [] .none ⟨by simp,by simp⟩
  (by
   rintro x G m s ⟨g,p⟩;have v:(ks (lA m x)).Nodup:=ve (ve g);have y:x.dropLast∈fq b:=by unfold fq;grind
   have H:x.tail∈fq b:=by unfold fq;grind
   refine⟨⟨v,λz j=>?_⟩,↥x,?_⟩
   .rcases(Gc m x z).mp j with h|h|h
    all_goals grind
   .have few:∀{q:List (Tx×Int)},(ks q).Nodup->(∀z∈ks q,z∈fq b)->q.length<=200:=λ{q} n s=>by
     have:=len_sub n s;unfold fq at this
     grind
    have J:=few g p;have N:(1000:Nat)<=bB:=by decide
    have C:=EE (i:=1) (n:=0) (Fq W m x) rfl;have F:d2 bi (mo 1 vY (dC (.int 0))) (dC (.int 1)) (iw W m (↥x))=.ok (.int ((cC m x.dropLast).getD 0+1)) (iw W m (↥x)):=by unfold d2;rw[C,R.bind_ok];rfl
    have o:=Fk (i:=1) F (Fq W m x) ⟨_,rfl⟩ rfl (m:=m) ∅;generalize f:ki m x.dropLast ((cC m x.dropLast).getD 0+1)=q at o;have u:(ks q).Nodup:=by rw[<-f];exact ve g
    have r:∀z∈ks q,z∈fq b:=λz j=>by
     have:(cC q z).isSome=ah:=by rw[sU];exact decide_eq_true j
     rw[<-f,rK]at this;by_cases c:z=x.dropLast
     .rw[c];exact y
     .rw[if_neg c,sU,decide_eq_true_eq]at this;exact p z this
    have I:=few u r;have B:=EE (i:=1) (n:=0) (IY W q x) rfl;have E:d2 lB (mo 1 tz (dC (.int 0))) (dC (.int 1)) (iw W q (↥x))=.ok (.int ((cC q x.tail).getD 0-1)) (iw W q (↥x)):=by unfold d2;rw[B,R.bind_ok];rfl
    have d:=Fk (i:=1) E (IY W q x) ⟨_,rfl⟩ rfl (m:=q) ∅;show xB (iw W m (↥x))=_;unfold xB;refine(cr o).trans ?_;refine Eq.trans (show jO 1 tz _ _=_ from d) ?_;unfold lA;rw[f];rfl)
 have l:yas a [.val W,.none,.none]=.ok (.ret (.own (.dK (dk (bE b))))) [.val W,.none,d]:=by
  rw[Qk];refine(cr (show cQ 1 yj [.val W,.none,.none]=.ok .next (iw W [] .none)from rfl)).trans ?_;have w:b9 2 (aU (dV 0)) xB (iw W [] .none)=.ok .next (iw W (bE b) d):=by
   unfold b9;have:aU (dV 0) (iw W [] .none)=.ok (am b) (iw W [] .none):=by unfold aU;show(R.ok W _).bind _=_;simp_all
   rw[this,R.bind_ok];exact e
  refine(cr (d1:=λε=>dy (b9 2 (aU (dV 0)) xB ε)) (by show dy _=_;rw[w];rfl)).trans ?_;rfl
 unfold rQ;generalize yas a=D at l;generalize dk (bE b)=A at l;simp[bI,gT,bH,dQ,l,back,aR,R.bind,gf]
end
theorem GT{a:aj}(h:a[i]?=aa s):a.set i s=a:=by
 apply pf;intro j;by_cases b:i=j
 .subst b;rw[eB (cJ.mp h).1,h]
 .rw[cK b]
theorem Jd{b:Type}{d:ad b}{ε:aj}{i:Nat}{a:PO}{r:b}(c:ε[i]?=aa (.own a))(f:d [.val x,.own a]=.ok r [.val x,.own a]):bM (c_ [i] d x ε)=.ok r ε:=by simp[c_,dI,c,bM,R.bind,aR,cD,eQ,f,fN,iU,gF,GT c]
theorem FN{b:Type}{d:ad b}{y:PV}{ε:aj}{i:Nat}{a:PO}{r:b}(c:ε[i]?=aa (.own a))(f:d [.val x,.val y,.own a]=.ok r [.val x,.val y,.own a]):bM (nG [i] d x y ε)=.ok r ε:=by simp[nG,dI,c,bM,R.bind,aR,cD,eQ,f,fN,iU,gF,GT c]
theorem Gk(p:PV×PV->Bool)(f:PV×PV->PV):∀(xs:List (PV×PV)),(∀x∈xs,bM (nG cap dt x.1 x.2 ε)=.ok (p x) ε/\(p x=ah->bM (nG cap de x.1 x.2 ε)=.ok (f x) ε))->∀a,oM cap dt de xs a ε=.ok (a++(xs.filter p).map f) ε
 |[],_,a=>by simp[oM]
 |x::xs,h,a=>by
  have c:=h x (by simp);have d:=Gk p f xs (λy b=>h y (by simp[b]));unfold oM;rw[c.1,R.bind_ok];cases g:p x
  all_goals simp_all
theorem HG:∀m:List (Tx×Int),qm (dk m)=aa (ks m)
 |[]=>rfl
 |p::m=>by show(qm (dk m)).map _=_;rw[HG m];rfl
def ii(a:List Tx):List Tx:=(aS (ks (bE a))).filter λy=>decide (0<exc a y)
def Jn(a:List Tx):PV->Bool
 |.str y=>decide (0<exc a y)
 |_=>ak
theorem PN(b:List Tx)(a:List Tx):((am a).filter (Jn b)).map (λx=>x)=am (a.filter λy=>decide (0<exc b y)):=by rw[ud];unfold am;rw[n8];rfl
def vN(ks:List Tx):PV×PV->Bool
 | (_,.str y)=>decide (y.dropLast∈ks)
 |_=>ak
theorem IX(ks:List Tx):∀(n:Nat) (a:List Tx),((jT (λi=>PV.int (i:Nat)) n (am a)).filter (vN ks)).length=(a.filter λy=>decide (y.dropLast∈ks)).length
 |n,[]=>rfl
 |n,y::a=>by
  have b:=IX ks (n+1) a;show(((PV.int n,PV.str y)::jT _ (n+1) (am a)).filter (vN ks)).length=_;have e:vN ks (PV.int n,PV.str y)=decide (y.dropLast∈ks):=rfl;rw[Kq,Kq,e];by_cases c:y.dropLast∈ks
  .rw[decide_eq_true c,if_pos rfl,if_pos rfl,fz,fz,b]
  .rw[decide_eq_false c,if_neg (by decide),if_neg (by decide)];exact b
theorem Gp(f:Nat->PV):∀(n:Nat) (a:List Tx),∀q∈jT f n (am a),∃k y,q=(f k,.str y)
 |n,[],q,h=>by cases h
 |n,y::a,q,h=>by
  rcases bZ.mp h with h|h
  .exact⟨n,y,h⟩
  .exact Gp f (n+1) a q h
section
variable{a:Ad}
def uR:ad PV:=eO fH (dV 1) (fk) (ee (d1 ig (dC (.int 1))))
def f2(a:Ad):ad aM:=bw 2 (dF (bD [1] (aU (dF (oY 1))) (dB (d2 (dS λi j=>decide (j<i)) (kX 1 (dV 0)) (dC (.int 0)))) (dV 0)))
def f3:ad aM:=cI (dB (d2 (dS λi j=>decide (j<i)) (dL bW (aA (dV 2) (aF))) (dC (.int 1)))) (cu (dL d9 (aA (dC (.str [116,119,111])) (aA (d2 ba (dV 2) (dC (.int 0))) (aA (d2 ba (dV 2) (dC (.int 1))) (aF)))))) (fX)
def f4:ad aM:=cI (rW (dB (d2 (eqT ak) (dL bW (aA (dV 2) (aF))) (dC (.int 1)))) (dB (d2 (dS λi j=>decide (j<i)) (kX 1 (d2 ba (dV 2) (dC (.int 0)))) (dC (.int 1))))) (cu (dL d9 (aA (dC (.str [109,111,114,101])) (aA (d2 ba (dV 2) (dC (.int 0))) (aF))))) (fX)
def f6:ad aM:=bw 4 (dF (qe [3] (vj (aA (dV 0) (aF))) (dB (jw ak 2 uR)) (dV 0)))
def f7:ad aM:=cI (dB (d2 (dS λi j=>decide (i<j)) (dL bW (aA (dV 4) (aF))) (dL bW (aA (dV 0) (aF))))) (cu (dL d9 (aA (dC (.str [97,112,97,114,116])) (aA (dL iz (aA (dV 4) (aF))) (aF))))) (fX)
theorem UN:yat a=aH (cQ 1 (kl (bg (rQ a) (gV (dV 0) (Pu.bS))))) (aH (f2 a) (aH f3 (aH f4 (aH (cQ 3 (kl (bg (oV a) (gV (dV 0) (Pu.bS))))) (aH f6 (aH f7 (cu (dC .non)))))))):=rfl
theorem Ey(f:ε[0]?=aa (.val W))(d:G [.val W]=.ok (.own b) [.val W])(c:i<ε.length):cQ i (kl (bg G (gV (dV 0) (Pu.bS)))) ε=.ok .next (ε.set i (.own b)):=by simp[cQ,kl,bg,gV,Pu.bS,dV,f,R.bind,aR,cD,eQ,d,fN,iU,gF,yP,c]
theorem Pm(W:PV)(b:List Tx)(v:b.length<=20)(l:∀y∈b,y.length<=100)(f d c:Slot):f2 a [.val W,.own (.dK (dk (bE b))),f,d,c]=.ok .next [.val W,.own (.dK (dk (bE b))),.val (.lst (am (ii b))),d,c]:=by
 unfold f2;have few:(ks (bE b)).length<64:=by
  have:=len_sub (Im b) (λz g=>(xG b z).mp g);unfold fq at this
  grind
 have o:∀z∈ks (bE b),z.length<=bB:=λz g=>by
  have:=(xG b z).mp g;have w:(1000:Nat)<=bB:=by decide
  unfold fq at this
  grind
 have q:oY 1 [.val W,.own (.dK (dk (bE b))),f,d,c]=.ok (.lst (am (aS (ks (bE b))))) [.val W,.own (.dK (dk (bE b))),f,d,c]:=by unfold oY;show aR (yg (dk (bE b))) _=_;unfold yg;rw[HG];show aR (if _ then _ else _) _=_;rw[if_pos ⟨few,o⟩];rfl
 have r:aU (dF (oY 1)) [.val W,.own (.dK (dk (bE b))),f,d,c]=.ok (am (aS (ks (bE b)))) [.val W,.own (.dK (dk (bE b))),f,d,c]:=by unfold aU dF;rw[q];rfl
 have u:=gS (cap:=[1]) (dt:=dB (d2 (dS λi j=>decide (j<i)) (kX 1 (dV 0)) (dC (.int 0)))) (de:=dV 0) (ε:=[.val W,.own (.dK (dk (bE b))),f,d,c]) (Jn b) (λx=>x) (am (aS (ks (bE b)))) (λx l=>by
  obtain⟨y,p,rfl⟩:=bU.mp l;have m:y∈ks (bE b):=(fj _).mem_iff.mp p;have s:cC (bE b) y=aa (exc b y):=by
   have B:(cC (bE b) y).isSome=ah:=by rw[sU];lia
   have A:=Cz b y;cases h:cC (bE b) y with
   |none=>simp_all
   |some n=>simp_all
  refine⟨Jd rfl ?_,λ_=>Jd rfl rfl⟩;refine pQ ?_;unfold d2;rw[Hv (i:=1) (db:=dV 0) (ε:=[↥y,.own (.dK (dk (bE b)))]) ⟨_,rfl⟩ rfl rfl s,R.bind_ok];rfl) []
 refine(sX (x:=.lst (am (ii b))) (ε1:=[.val W,.own (.dK (dk (bE b))),f,d,c]) ?_).trans rfl;have m:bD [1] (aU (dF (oY 1))) (dB (d2 (dS λi j=>decide (j<i)) (kX 1 (dV 0)) (dC (.int 0)))) (dV 0) [.val W,.own (.dK (dk (bE b))),f,d,c]=.ok (.lst (am (ii b))) [.val W,.own (.dK (dk (bE b))),f,d,c]:=by unfold bD;rw[r,R.bind_ok,u,R.bind_ok,fh,PN];rfl
 show(bD _ _ _ _ _).bind _=_;rw[m];rfl
def jB(ks b:List Tx):List PV:=((vJ (am b)).filter (vN ks)).map (·.1)
theorem BY(y:Tx)(r:List Tx):ba (.lst (am (y::r))) (.int 0)=aa (.str y):=by show fE (.str y::am r) 0=_;rw[sP (by simp) (by simp)];rfl
theorem Sx(y z:Tx)(r:List Tx):ba (.lst (am (y::z::r))) (.int 1)=aa (.str z):=by show fE (.str y::.str z::am r) 1=_;rw[sP (by simp) (by simp)];rfl
theorem LQ(f ks:List Tx)(p:W=.tup (am f))(c b d:Slot):f6 [.val W,c,b,.own (.dK (cM ks)),d]=.ok .next [.val W,c,b,.own (.dK (cM ks)),.val (.lst (jB ks f))]:=by
 unfold f6;have m:vj (aA (dV 0) (aF)) [.val W,c,b,.own (.dK (cM ks)),d]=.ok (vJ (am f)) [.val W,c,b,.own (.dK (cM ks)),d]:=by subst p;rfl
 have n:=Gk (cap:=[3]) (dt:=dB (jw ak 2 uR)) (de:=dV 0) (ε:=[.val W,c,b,.own (.dK (cM ks)),d]) (vN ks) (·.1) (vJ (am f)) (λx g=>by
  obtain⟨k,y,rfl⟩:=Gp _ 0 f x g;refine⟨FN rfl ?_,λ_=>FN rfl rfl⟩;have o:uR [.val (PV.int k),↥y,.own (.dK (cM ks))]=.ok (.str y.dropLast) [.val (PV.int k),↥y,.own (.dK (cM ks))]:=by have h:=zl y;have j:ig (.int 1)=aa (.int (-1)):=rfl;simp[uR,eO,fk,ee,dV,d1,dC,R.bind,aR,j,ja,h]
  have:=pQ (Bs (neg:=ak) (i:=2) o rfl);rw[wG]at this;trivial) []
 refine(sX (x:=.lst (jB ks f)) (ε1:=[.val W,c,b,.own (.dK (cM ks)),d]) ?_).trans rfl;have l:qe [3] (vj (aA (dV 0) (aF))) (dB (jw ak 2 uR)) (dV 0) [.val W,c,b,.own (.dK (cM ks)),d]=.ok (.lst (jB ks f)) [.val W,c,b,.own (.dK (cM ks)),d]:=by unfold qe;rw[m,R.bind_ok,n,R.bind_ok,fh];rfl
 show(qe _ _ _ _ _).bind _=_;rw[l];rfl
theorem ED(ks b:List Tx):(jB ks b).length<b.length↔¬∀y∈b,y.dropLast∈ks:=by
 have e:(jB ks b).length=(b.filter λy=>decide (y.dropLast∈ks)).length:=by unfold jB;rw[cG];exact IX ks 0 b
 simp_all
theorem zn{pv:PV}(h:yat a [.val W,.none,.none,.none,.none]=.ok (.ret (.val pv)) (.val W::ε)):uZ a [.val W]=.ok (.val pv) [.val W]:=by unfold uZ;generalize yat a=D at h;simp[bI,gT,bH,dQ,h,back,aR,R.bind,gf]
theorem T_(q:W=.tup (am (x::r)))(L:∀y∈x::r,y.length=v+1)(Y:v<=20)(Z:r.length<=15):∃pv,uZ a [.val W]=.ok (.val pv) [.val W]/\(pv=.non\/∃u,pv=.tup u) /\ (pv=.non↔(ii (x::r)).length<=1/\(∀s∈ii (x::r),exc (x::r) s<=1)/\pU v (x::r)):=by
 have D:dz W=aa (am (x::r)):=by subst q;rfl
 have O:ba W (.int 0)=aa (.str x):=by subst q;exact BY x r
 have P:bW [W]=aa (.int ((am (x::r)).length:Nat)):=by subst q;rfl
 have B:=Ey (G:=rQ a) (W:=W) (ε:=[.val W,.none,.none,.none,.none]) (i:=1) rfl (TY _ (x::r) (by simp;lia) D) (by simp);have E:=Pm (a:=a) W (x::r) (by simp;lia) (λy X=>by grind) .none .none .none;obtain⟨ks,H,F,N⟩:=T9 (a:=a) W x r ∅ D O;have f:=RE L H F;have o:∀s∈ii (x::r),cC (bE (x::r)) s=aa (exc (x::r) s):=λs z=>by
  have M:s∈Sh.ks (bE (x::r)):=(fj _).mem_iff.mp (ku.mp z).1;have B:(cC (bE (x::r)) s).isSome=ah:=by rw[sU];exact decide_eq_true M
  have E:=Cz (x::r) s;cases h:cC (bE (x::r)) s with
  |none=>rw[h]at B;trivial
  |some n=>simp_all
 have d:∀S:List Tx,∃pv ε,aH (cQ 3 (kl (bg (oV a) (gV (dV 0) (Pu.bS))))) (aH f6 (aH f7 (cu (dC .non)))) [.val W,.own (.dK (dk (bE (x::r)))),.val (.lst (am S)),.none,.none]=.ok (.ret (.val pv)) (.val W::ε)/\(pv=.non\/∃u,pv=.tup u)/\(pv=.non↔pU v (x::r)):=by
  intro S;have T:=Ey (G:=oV a) (W:=W) (ε:=[.val W,.own (.dK (dk (bE (x::r)))),.val (.lst (am S)),.none,.none]) (i:=3) rfl N (by simp);have Q:=LQ (x::r) ks q (.own (.dK (dk (bE (x::r))))) (.val (.lst (am S))) .none;rw[cr T,cr (show f6 ([Slot.val W,.own (.dK (dk (bE (x::r)))),.val (.lst (am S)),.none,.none].set 3 (.own (.dK (cM ks))))=_ from Q)];have m:dB (d2 (dS λi j=>decide (i<j)) (dL bW (aA (dV 4) (aF))) (dL bW (aA (dV 0) (aF)))) [.val W,.own (.dK (dk (bE (x::r)))),.val (.lst (am S)),.own (.dK (cM ks)),.val (.lst (jB ks (x::r)))]=.ok (decide (((jB ks (x::r)).length:Int)<((am (x::r)).length:Int))) [.val W,.own (.dK (dk (bE (x::r)))),.val (.lst (am S)),.own (.dK (cM ks)),.val (.lst (jB ks (x::r)))]:=by refine pQ (yB (x:=.int ((jB ks (x::r)).length:Nat)) (y:=.int ((am (x::r)).length:Nat)) rfl ?_ rfl);exact SK (O6 (AX rfl) Nl) P
  have p:(am (x::r)).length=(x::r).length:=by unfold am;simp
  by_cases c:∀y∈x::r,y.dropLast∈ks
  .have A:¬(((jB ks (x::r)).length:Int)<((am (x::r)).length:Int)):=by
    rw[p];have:=mt (ED ks (x::r)).mp (λh=>h c);lia
   rw[decide_eq_false A]at m;refine⟨.non,[.own (.dK (dk (bE (x::r)))),.val (.lst (am S)),.own (.dK (cM ks)),.val (.lst (jB ks (x::r)))],?_,.inl rfl,⟨λ_=>f.mp c,λ_=>rfl⟩⟩;rw[cr (show f7 _=.ok .next _ by unfold f7 cI;rw[m];rfl)];rfl
  .have A:((jB ks (x::r)).length:Int)<((am (x::r)).length:Int):=by
    rw[p];have:=(ED ks (x::r)).mpr c;omega
   rw[decide_eq_true A]at m;refine⟨.tup [.str [97,112,97,114,116],.tup (jB ks (x::r))],[.own (.dK (dk (bE (x::r)))),.val (.lst (am S)),.own (.dK (cM ks)),.val (.lst (jB ks (x::r)))],?_,.inr ⟨_,rfl⟩,⟨(λh=>by cases h),λh=>absurd (f.mpr h) c⟩⟩;unfold aH f7 cI;rw[m];rfl
 have b:∀(l:R aM),aH f3 (aH f4 (aH (cQ 3 (kl (bg (oV a) (gV (dV 0) (Pu.bS))))) (aH f6 (aH f7 (cu (dC .non)))))) [.val W,.own (.dK (dk (bE (x::r)))),.val (.lst (am (ii (x::r)))),.none,.none]=l->yat a [.val W,.none,.none,.none,.none]=l:=by intro l h;rw[UN,cr B];exact(cr E).trans h
 generalize hS:ii (x::r)=S at o b ⊢
 match S,o,b with
 |[],_,b=>
  obtain⟨pv,ε,e,w,C⟩:=d [];refine⟨pv,zn (ε:=ε) (b _ ?_),w,?_⟩
  .trivial
  .rw[C];simp
 |[s],o,b=>
  have z:=o s (by simp);have hd:dB (d2 (dS λi j=>decide (j<i)) (kX 1 (d2 ba (dV 2) (dC (.int 0)))) (dC (.int 1))) [.val W,.own (.dK (dk (bE (x::r)))),.val (.lst (am [s])),.none,.none]=.ok (decide (1<exc (x::r) s)) [.val W,.own (.dK (dk (bE (x::r)))),.val (.lst (am [s])),.none,.none]:=by refine pQ (yB (Hv (i:=1) (db:=d2 ba (dV 2) (dC (.int 0))) ⟨_,rfl⟩ (yB (x:=.lst (am [s])) rfl rfl (BY s [])) rfl z) rfl rfl)
  have hand:rW (dB (d2 (eqT ak) (dL bW (aA (dV 2) (aF))) (dC (.int 1)))) (dB (d2 (dS λi j=>decide (j<i)) (kX 1 (d2 ba (dV 2) (dC (.int 0)))) (dC (.int 1)))) [.val W,.own (.dK (dk (bE (x::r)))),.val (.lst (am [s])),.none,.none]=.ok (decide (1<exc (x::r) s)) [.val W,.own (.dK (dk (bE (x::r)))),.val (.lst (am [s])),.none,.none]:=by trivial
  by_cases c:1<exc (x::r) s
  .rw[decide_eq_true c]at hand;refine⟨.tup [.str [109,111,114,101],.str s],zn (ε:=[.own (.dK (dk (bE (x::r)))),.val (.lst (am [s])),.none,.none]) (b _ ?_),.inr ⟨_,rfl⟩,⟨(λh=>by cases h),λh=>?_⟩⟩
   .rw[cr (show f3 _=.ok .next _ from rfl)];unfold aH f4 cI;rw[hand];rfl
   .have:=h.2.1 s (by simp);lia
  .rw[decide_eq_false c]at hand;obtain⟨pv,ε,e,w,C⟩:=d [s];refine⟨pv,zn (ε:=ε) (b _ ?_),w,?_⟩
   .rw[cr (show f3 _=.ok .next _ from rfl),cr (show f4 _=.ok .next _ by unfold f4 cI;rw[hand];rfl)];exact e
   simp_all
 |s::g::S,o,b=>
  refine⟨.tup [.str [116,119,111],.str s,.str g],zn (ε:=[.own (.dK (dk (bE (x::r)))),.val (.lst (am (s::g::S))),.none,.none]) (b _ ?_),.inr ⟨_,rfl⟩,⟨λh=>(by cases h),λh=>?_⟩⟩
  .have J:=BY s (g::S);have I:=Sx s g S;unfold aH f3 cI;have m:dB (d2 (dS λi j=>decide (j<i)) (dL bW (aA (dV 2) (aF))) (dC (.int 1))) [.val W,.own (.dK (dk (bE (x::r)))),.val (.lst (am (s::g::S))),.none,.none]=.ok (decide ((1:Int)<((am (s::g::S)).length:Int))) [.val W,.own (.dK (dk (bE (x::r)))),.val (.lst (am (s::g::S))),.none,.none]:=rfl;rw[decide_eq_true (by unfold am;simp;lia)]at m;rw[m];simp[R.bind,cu,dL,aA,aF,dC,dV,d2,aR,J,I,d9]
  .have:=h.1;simp at this
end
theorem FR:∀{ls:List Tx},(∀y∈ls,y.length=v+1)->∀y,exc ls y=(oc v ls y:Int)-(ic ls y:Int)
 |[],_,y=>rfl
 |x::ls,h,y=>by
  have a:=FR (λz b=>h z (by simp[b])) (ls:=ls) y;have c:x.take v=x.dropLast:=by rw[Kz,h x (by simp)];rfl
  have e:exc (x::ls) y=b1 (x.dropLast=y)-b1 (x.tail=y)+exc ls y:=by rfl
  rw[e,a];unfold oc ic b1
  grind
theorem A4{K:List Tx}(d:K.Nodup)(f:s∈K):(K.map λy=>b1 (s=y)).sum=1:=by
 have af:∀{K:List Tx},s∉K->(K.map λy=>b1 (s=y)).sum=0:=by
  intro K
  induction K with
  |nil=>intro _;rfl
  |cons y K b=>intro h;simp only[bZ,not_or]at h;rw[cp,jJ,b h.2];unfold b1;rw[if_neg h.1];rfl
 induction K with
 |nil=>trivial
 |cons y K b=>
  rw[cp,jJ];have a:=kB.mp d;by_cases c:s=y
  .subst c;rw[af a.1];unfold b1;simp
  .rw[b a.2 ⋯];unfold b1;rw[if_neg c];rfl
theorem Cw(f g:Tx->Int):∀K:List Tx,(K.map λy=>f y-g y).sum=(K.map f).sum-(K.map g).sum
 |[]=>rfl
 |y::K=>by simp only[cp,jJ,Cw f g K];lia
theorem He(f g:Tx->Int):∀K:List Tx,(K.map λy=>f y+g y).sum=(K.map f).sum+(K.map g).sum
 |[]=>rfl
 |y::K=>by simp only[cp,jJ,He f g K];lia
theorem Fv{K:List Tx}(a:K.Nodup):∀{ls:List Tx},(∀x∈ls,x.dropLast∈K/\x.tail∈K)->(K.map (exc ls)).sum=0
 |[],_=>by
  show(K.map λ_=>(0:Int)).sum=0;clear a;have b:∀K:List Tx,(K.map λ_=>(0:Int)).sum=0:=λK=>by
   induction K with
   |nil=>rfl
   |cons y K c=>simp_all
  exact b K
 |x::ls,h=>by
  have c:=Fv a (ls:=ls) λz d=>h z (by simp[d]);have e:exc (x::ls)=λy=>(b1 (x.dropLast=y)-b1 (x.tail=y))+exc ls y:=by rfl
  rw[e,He,c,Cw,A4 a (h x (by simp)).1,A4 a (h x (by simp)).2];rfl
theorem Cb(f:Tx->Int):∀{K:List Tx},(∀y∈K,f y<=0)->(K.map f).sum<=0/\((K.map f).sum=0->∀y∈K,f y=0)
 |[],_=>⟨by simp,λ_ y h=>by cases h⟩
 |y::K,h=>by
  have b:=Cb f (K:=K) λz a=>h z (by simp[a])
  grind
theorem IK(f:Tx->Int):∀{K:List Tx},(∀y∈K,f y<=0)->(K.map f).sum=-1->K.Nodup->∃e∈K,f e=-1/\∀y∈K,y≠e->f y=0
 |[],_,h,_=>by trivial
 |y::K,h,i,d=>by
  have b:∀z∈K,f z<=0:=λz g=>h z (by simp[g]);have o:=Cb f b;have j:=h y (by simp);have a:=kB.mp d;rw[cp,jJ]at i;by_cases c:f y=0
  .obtain⟨e,l,n,m⟩:=IK f b ⋯ a.2
   grind
  grind
theorem Gz(h:y∉ks (bE a)):exc a y=0:=by
 have c:(cC (bE a) y).isSome=ak:=by rw[sU];exact decide_eq_false h
 have b:=Cz a y;simp_all
theorem V5:s∈ii a↔s∈ks (bE a)/\0<exc a s:=by unfold ii;rw[ku,decide_eq_true_eq,(fj _).mem_iff]
theorem O9(p:∀y∈x::r,y.length=v+1):((ii (x::r)).length<=1/\(∀s∈ii (x::r),exc (x::r) s<=1)/\pU v (x::r))↔∃t,(bh t (v+1)).Perm (x::r):=by
 have A:=FR p;have g:=Im (x::r);have E:∀y∈x::r,y.dropLast∈ks (bE (x::r))/\y.tail∈ks (bE (x::r)):=λy b=>by
  rw[xG,xG];unfold fq
  grind
 have C:=Fv g E;constructor
 .rintro⟨i,H,f⟩;have I:∀y∈ks (bE (x::r)),y∉ii (x::r)->exc (x::r) y<=0:=λy b n=>by have:=mt (λh=>V5.mpr ⟨b,h⟩) n;lia
  cases q:ii (x::r)with
  |nil=>
   have l:=(Cb _ (λy b=>I y b (by rw[q];simp))).2 C;obtain⟨t,_,_,a⟩:=E3 p f (s0:=x.take v) (e:=x.take v) ⟨x,by simp,rfl⟩ (λy=>by
    have:exc (x::r) y=0:=by
     by_cases c:y∈ks (bE (x::r))
     .exact l y c
     .exact Gz c
    grind)
   exact⟨t,a⟩
  |cons s S=>
   rw[q]at i;have D:S=[]:=by simp_all
   subst D;have d:s∈ii (x::r):=by rw[q];simp
   obtain⟨w,s0⟩:=V5.mp d;have P:=H s d;have G:∀y∈ks (bE (x::r)),exc (x::r) y-b1 (s=y)<=0:=λy b=>by
    unfold b1
    grind
   obtain⟨e,J,Q,M⟩:=IK (λy=>exc (x::r) y-b1 (s=y)) G (by rw[Cw,C,A4 g w];rfl) g;have L:∀y,exc (x::r) y=b1 (s=y)-b1 (e=y):=λy=>by
    by_cases c:y∈ks (bE (x::r))
    .by_cases u:e=y
     .subst u;have:b1 (e=e)=1:=by unfold b1;simp
      lia
     .have:=M y c (c0 u);have:b1 (e=y)=0:=by unfold b1;rw[if_neg u]
      lia
    .have O:s≠y:=λz=>c (z ▸ w);have N:e≠y:=λz=>c (z ▸ J);rw[Gz c];unfold b1;rw[if_neg O,if_neg N];rfl
   obtain⟨t,_,_,a⟩:=E3 p f (s0:=s) (e:=e) (VM.mp (by grind)) (λy=>by have i:=L y;rw[A]at i;unfold b1 at i;unfold b2;split <;> split <;> simp_all <;> lia);exact⟨t,a⟩
 .rintro⟨t,a⟩;have o:v<=t.length:=by
   have:=a.length_eq;rw[qx (by simp)]at this
   grind
  have B:∀y,exc (x::r) y=b1 (t.take v=y)-b1 (en v t=y):=λy=>by have:=vA o y;rw[uG a,uH a]at this;rw[A];unfold b1;unfold b2 at this;split <;> split <;> simp_all <;> lia
  have F:∀s∈ii (x::r),s=t.take v:=λs d=>by have:=(V5.mp d).2;rw[B]at this;unfold b1 at this;lia
  refine⟨?_,λs d=>?_,Tu a⟩
  .have j:(ii (x::r)).Nodup:=by
    unfold ii;exact((fj _).nodup_iff.mpr g).filter _
   have:=len_sub j (m:=[t.take v]) (λz l=>by rw[F z l];simp);trivial
  .rw[B];unfold b1;lia
end Sh
namespace Mx
open L2 Pu
theorem Ez{d:List Tx}(f:1<=w)(h:1<=d.length)(i:∀x∈d,x.length=w/\∀c∈x,c∈cE)(g:d.Pairwise (λa b=>dj a b=ah))(l:∀c∈z,c∈cE):z∈kj w d↔aS (bh z w)=d:=by
 rw[Cq f h i,ku,nA,List.isPerm_iff];constructor
 .rintro⟨_,p⟩;rw[rV p,qw g]
 .intro e;have p:(bh z w).Perm d:=by rw[<-e];exact(fj _).symm
  have j:=p.length_eq;rw[qx f]at j;lia
theorem Lw{a:List Tx}(b:1<=w)(d:1<=a.length)(f:∀x∈a,x.length=w/\∀c∈x,c∈cE)(h:z∈kj w a):z.length=w-1+a.length/\∀c∈z,c∈cE:=by rw[Cq b d f,ku,nA]at h;exact h.1
end Mx
namespace Sh
open L2 Pu Mx
theorem abc_of{t:Tx}(a:1<=w)(d:w<=t.length)(h:∀x∈bh t w,∀c∈x,c∈cE):∀c∈t,c∈cE:=by
 intro c b;obtain⟨i,g,rfl⟩:=List.mem_iff_getElem.mp b;have f:min i (t.length-w)<t.length+1-w:=nofun
 refine h ((t.drop (min i (t.length-w))).take w) ?_ _ ?_
 .rw[qv t w a]
  grind
 .refine List.mem_iff_getElem.mpr ⟨i-min i (t.length-w),by simp;omega,?_⟩;rw[List.getElem_take,List.getElem_drop];congr 1;omega
def hasT(w:Nat)(k:List Tx):Bool:=decide (kj w k≠[])
theorem has_iff(g:Good cE w d)(f:1<=w)(m:d.Pairwise (λa b=>dj a b=ah)):(∃t,(bh t w).Perm d)↔hasT w d=ah:=by
 have j:∀x∈d,x.length=w/\∀c∈x,c∈cE:=λx i=>⟨g.len x i,g.abc x i⟩
 unfold hasT;rw[decide_eq_true_iff];constructor
 .rintro⟨t,l⟩ e;have p:=l.length_eq;rw[qx f]at p;have q:=g.some;have n:=abc_of (t:=t) f nofun (λx i=>g.abc x (l.mem_iff.mp i));have:=(Ez f g.some j m n).mpr (by rw[rV l];exact(qw m));simp_all
 .intro h;obtain⟨z,r,e⟩:=Ed h;have o:z∈kj w d:=by rw[e];simp
  have n:=(Lw f g.some j o).2;have:=(Ez f g.some j m n).mp o;exact⟨z,by rw[<-this];exact(fj _).symm⟩
section
variable{a:Ad}
theorem bar_eq(g:Good cE w c)(f:1<=w)(p:w<=4)(j:c.Pairwise (λa b=>dj a b=ah)):∃pv,uQ a [.val (aJ w c)]=.ok (.val pv) [.val (aJ w c)]/\nk ak pv .non=aa (.bl (hasT w c)):=by
 have m:=g.few;have A:=g.some;obtain⟨v,rfl⟩:∃v,w=v+1:=⟨w-1,⋯⟩
 obtain⟨x,r,e⟩:∃x r,c=x::r:=Ed (by rintro rfl;trivial);have o:=has_iff g f j;rw[e]at o m;have l:∀y∈x::r,y.length=v+1:=λy u=>g.len y (by rw[e];trivial);obtain⟨pv,i,q,h⟩:=T_ (a:=a) (W:=.tup (am (x::r))) rfl l ∅ (by simp at m;lia);rw[O9 l,o]at h;refine⟨pv,?_,?_⟩
 .have n:u_ a [.val (aJ (v+1) c)]=.ok (.val .non) [.val (aJ (v+1) c)]:=S9 (a:=a) (g.vw f p j);have d:ba (aJ (v+1) c) (.int 1)=aa (.tup (am (x::r))):=by rw[e];rfl
  generalize am (x::r)=B at i d;generalize aJ (v+1) c=V at n d;simp![uQ,yan,n,d,i]
 .rw[e];rcases q with rfl|⟨s,rfl⟩
  .rw[h.mp rfl];rfl
  .cases z:hasT (v+1) (x::r)with
   |true=>simp_all
   |false=>rfl
structure Blur(w:Nat)(ms:List Tx):Prop where
 g:Good hZ w ms
 w1:1<=w
 w4:w<=4
 d6:cx ms<=6
 rises:ms.Pairwise (λa b=>dj a b=ah)
theorem Good.vwB(g:Good hZ w d)(o:1<=w)(n:w<=4)(h:d.Pairwise (λa b=>dj a b=ah)):ng hZ w d=ah:=by
 have m:d.all (jt w hZ)=ah:=by rw[k9];intro x f;unfold jt;rw[g.len x f,decide_eq_true rfl,Dg,k9];intro c i;simpa using g.abc x f c i
 have l:=g.some;have j:=g.few;unfold ng;rw[m,decide_eq_true (show(1:Int)<=(w:Nat)/\((w:Nat):Int)<=4 by lia),decide_eq_true ⟨l,j⟩,decide_eq_true (qw h).symm];rfl
theorem wt_small:∀{ls:List Tx},(∀x∈ls,x.length=w)->iF [] ls<=ls.length*w
 |[],_=>by simp[iF]
 |[x],h=>by have:=h x (by simp);simp[iF,this]
 |x::y::r,h=>by
  have d:=h x (by simp);have c:=wt_small (ls:=y::r) λz b=>h z (by simp[b]);simp only[fz]at c ⊢;have e:iF [] (x::y::r)=x.length+0+iF [] (y::r):=by rfl
  lia
theorem blur_yes(b:Blur w c):vH a [.val (aJ w c)]=.ok (.val .non) [.val (aJ w c)]:=by
 have h:=wt_small b.g.len;have g:=b.g.few;have d:=b.w4;have f:iF [] c<=bB:=by have:c.length*w<=9*4:=Dl g d;unfold bB;lia
 have:=Tt (a:=a) w c f;rw[b.g.vwB b.w1 b.w4 b.rises,decide_eq_true b.d6]at this;exact RA this
theorem ways_good(b:Blur w i)(h:k∈waysF i):Good cE w k/\k.Pairwise (λa b=>dj a b=ah):=by
 obtain⟨l,m,j⟩:=ways_shape h;refine⟨⟨λx d=>?_,λx d=>?_,by rw[l];exact b.g.some,by rw[l];exact b.g.few⟩,m⟩
 .obtain⟨c,g,f⟩:=j x d;rw[f.len,b.g.len c g]
 .obtain⟨c,g,f⟩:=j x d;exact f.abc (b.g.abc c g)
def viewsC(w:Nat)(b:List Tx):List (List Tx):=(cT (waysF b)).filter (hasT w)
def vwsP(w:Nat)(ks:List (List Tx)):List PV:=ks.map λk=>aJ w k
theorem ok_filter(ks:List (List Tx))(p:List Tx->Bool)(f:PV->Bool)(b:∀k,f (aJ w k)=p k):((vwsP w ks).filter f).map (λx=>x)=vwsP w (ks.filter p):=by rw[ud];unfold vwsP;rw[n8];congr 1;exact Kr λk _=>b k
def unVw:PV->List Tx
 |.tup [_,.tup xs]=>xs.filterMap λx=>match x with
  |.str t=>aa t
  |_=>af
 |_=>[]
theorem unVw_vw(w:Nat)(k:List Tx):unVw (aJ w k)=k:=by show(am k).filterMap _=k;unfold am;rw[zB];simp[lS]
theorem cleared_eq(b:Blur w c):xZ a [.val (aJ w c)]=.ok (.own (.lst (vwsP w (viewsC w c)))) [.val (aJ w c)]:=by
 have i:=blur_yes (a:=a) b;have f:=clearing_eq (a:=a) b.g b.w4 b.d6;have d:=gS (cap:=[]) (dt:=(dB (d2 (nk ak) (bv (bg (uQ a) (gV (dV 0) (Pu.bS)))) (dC .non)))) (de:=dV 0) (ε:=[.val (aJ w c)]) (λx=>hasT w (unVw x)) (λx=>x) (vwsP w (cT (waysF c)))
  (by
   intro x m;obtain⟨k,n,rfl⟩:=bU.mp m;obtain⟨o,l⟩:=ways_good b ((nD _).mem_iff.mp n);obtain⟨pv,h,g⟩:=bar_eq (a:=a) o b.w1 b.w4 l;rw[unVw_vw];generalize aJ w c=V;generalize hasT w k=B at g;generalize aJ w k=W at h;refine⟨?_,λ_=>?_⟩
   .simp![c_,dI,bM,h,g]
   rfl) []
 rw[fh,ok_filter _ (hasT w) _ (λk=>by rw[unVw_vw])]at d;have j:dz (.lst (vwsP w (cT (waysF c))))=aa (vwsP w (cT (waysF c))):=rfl;have p:((cT (waysF c)).map λk=>prV ((w:Int),k))=vwsP w (cT (waysF c)):=rfl;rw[p]at f;unfold viewsC;generalize vwsP w ((cT (waysF c)).filter (hasT w))=R1 at d;generalize vwsP w (cT (waysF c))=R0 at d j f;generalize aJ w c=V at i f d;simp![xZ,yaq,i,f,jP,bD,aU,j,d]
theorem th_comp(t:Tx)(d b:Slot)(h:t.length<=50):iB [2] cO (d2 bi (dV 1) (dV 0)) (cE.map λc=>.str [c]) [] [d,b,↥t]=.ok (am (cE.map λc=>t++[c])) [d,b,↥t]:=by
 have i:=gS (cap:=[2]) (dt:=cO) (de:=(d2 bi (dV 1) (dV 0))) (ε:=[d,b,↥t]) (λ_=>ah) (λx=>match x with|.str [c]=>.str (t++[c])|_=>.non) (cE.map λc=>PV.str [c])
  (by intro x f;obtain⟨c,_,rfl⟩:=bU.mp f;have g:bi (.str t) (.str [c])=aa (.str (t++[c])):=p9 (by simp[bB];lia);refine⟨by rfl,λ_=>?_⟩;simp![c_,dI,bM,g]) []
 trivial
theorem three_eq(b:List Tx)(q:∀t∈b,t.length<=50)(z:(fillS b 46).length<=999999):vS a [.val (.lst (am b))]=.ok (.own (.lst (am (fillS b 46)))) [.val (.lst (am b))]:=by
 obtain⟨o,g,j,p,rest,d,y,rfl⟩:=lF (i:=2) (db:=(gD 1 (dF (bD [2] (aU (dC (.str [97,98,99]))) (cO) (d2 bi (dV 1) (dV 0))))))
  (I:=λr m=>∃(j:Slot) (p rest:List Tx),b=p++rest/\r=am rest/\m=[.val (.lst (am b)),.own (.lst (am (fillS p 46))),j])
  (by
   rintro x r m ⟨j,p,rest,d,s,rfl⟩;cases rest with
   |nil=>trivial
   |cons t rest=>
    have n:x::r=.str t::am rest:=s;simp only[mS]at n;obtain⟨rfl,rfl⟩:=n;have f:=th_comp t (.val (.lst (am b))) (.own (.lst (am (fillS p 46)))) (q t (by rw[d];simp));have h:dz (.str [97,98,99])=aa (cE.map λc=>.str [c]):=rfl;have v:fillS (p++[t]) 46=fillS p 46++cE.map λc=>t++[c]:=by simp[fillS,opts]
    have l:(am (fillS p 46)).length+(am (cE.map λc=>t++[c])).length<=bB:=by
     rw[km,km];have A:(fillS p 46).length+(cE.map λc=>t++[c]).length<=(fillS b 46).length:=by rw[d];simp only[fillS,Kx,q8,jk,opts,if_true];simp
     unfold bB;lia
    refine⟨[.val (.lst (am b)),.own (.lst (am (fillS (p++[t]) 46))),↥t],?_,↥t,p++[t],rest,by rw[d];simp,rfl,rfl⟩;rw[v,<-IT];generalize am (cE.map λc=>t++[c])=Y at f l;generalize am (fillS p 46)=L at f l;generalize (cE.map λc=>PV.str [c])=A3 at f h;generalize am b=RR at f;simp![gD,bD,aU,h,f,l])
  (am b) [.val (.lst (am b)),.own (.lst (am (fillS [] 46))),.none] ⟨.none,[],b,by rfl,rfl,rfl⟩
 have u:rest=[]:=by cases rest with|nil=>rfl|cons=>trivial
 subst u;rw[ik]at d;rw[<-d]at g;have h:dz (.lst (am b))=aa (am b):=rfl;have w:am (fillS [] 46)=[]:=rfl;rw[w]at g;generalize am (fillS b 46)=R1 at g;generalize am b=R0 at g h;simp![vS,yaM,dy,b9,aU,h,g,kT]
def lstsP(b:List (List Tx)):List PV:=b.map λr=>.lst (am r)
def timesL(b:List (List Tx))(c:List Tx):List (List Tx):=b.flatMap λr=>c.map λx=>r++[x]
theorem ti_comp(r b:List Tx)(d c:Slot)(i:r.length<=50):iB [3] cO (d2 bi (dV 1) (dF (dL cH (aA (dV 0) (aF))))) (am b) [] [d,.val (.lst (am b)),c,.val (.lst (am r))]=.ok (lstsP (b.map λx=>r++[x])) [d,.val (.lst (am b)),c,.val (.lst (am r))]:=by
 have g:=gS (cap:=[3]) (dt:=cO) (de:=(d2 bi (dV 1) (dF (dL cH (aA (dV 0) (aF)))))) (ε:=[d,.val (.lst (am b)),c,.val (.lst (am r))]) (λ_=>ah) (λx=>.lst (am r++[x])) (am b)
  (by
   intro x h;have f:bi (.lst (am r)) (.lst [x])=aa (.lst (am r++[x])):=by
    have:(am r).length+1<=bB:=by rw[km];unfold bB;lia
    simp[bi,this]
   generalize am b=M;generalize am r++[x]=RX at f;generalize am r=RP at f;refine⟨by rfl,λ_=>?_⟩;simp![c_,dI,bM,f]) []
 rw[fh,n9.mpr (by simp)]at g;rw[g];congr 1;simp[lstsP,am,cR,lS]
theorem lstsP_app(x y:List (List Tx)):lstsP (x++y)=lstsP x++lstsP y:=by simp[lstsP]
theorem lstsP_len(x:List (List Tx)):(lstsP x).length=x.length:=by simp[lstsP]
theorem times_eq(c:List (List Tx))(b:List Tx)(o:∀t∈c,t.length<=50)(y:(timesL c b).length<=999999):vL a [.val (.lst (lstsP c)),.val (.lst (am b))]=.ok (.own (.lst (lstsP (timesL c b)))) [.val (.lst (lstsP c)),.val (.lst (am b))]:=by
 obtain⟨n,g,j,p,rest,d,w,rfl⟩:=lF (i:=3) (db:=(gD 2 (dF (bD [3] (aU (dV 1)) (cO) (d2 bi (dV 1) (dF (dL cH (aA (dV 0) (aF)))))))))
  (I:=λr ε=>∃(j:Slot) (p rest:List (List Tx)),c=p++rest/\r=lstsP rest/\ε=[.val (.lst (lstsP c)),.val (.lst (am b)),.own (.lst (lstsP (timesL p b))),j])
  (by
   rintro x r ε ⟨j,p,rest,d,q,rfl⟩;cases rest with
   |nil=>trivial
   |cons t rest=>
    have m:x::r=.lst (am t)::lstsP rest:=q;simp only[mS]at m;obtain⟨rfl,rfl⟩:=m;have f:=ti_comp t b (.val (.lst (lstsP c))) (.own (.lst (lstsP (timesL p b)))) (o t (by rw[d];simp));have h:dz (.lst (am b))=aa (am b):=rfl;have u:timesL (p++[t]) b=timesL p b++b.map λx=>t++[x]:=by simp[timesL]
    have l:(lstsP (timesL p b)).length+(lstsP (b.map λx=>t++[x])).length<=bB:=by
     rw[lstsP_len,lstsP_len];have z:(timesL p b).length+(b.map λx=>t++[x]).length<=(timesL c b).length:=by rw[d];simp only[timesL,Kx,q8,jk];simp
     unfold bB;lia
    refine⟨[.val (.lst (lstsP c)),.val (.lst (am b)),.own (.lst (lstsP (timesL (p++[t]) b))),.val (.lst (am t))],?_,.val (.lst (am t)),p++[t],rest,by rw[d];simp,rfl,rfl⟩;rw[u,lstsP_app];generalize lstsP (b.map λx=>t++[x])=Y at f l;generalize lstsP (timesL p b)=L at f l;generalize am b=M at f h;generalize lstsP c=RR at f;generalize am t=T at f;simp![gD,bD,aU,h,f,l])
  (lstsP c) [.val (.lst (lstsP c)),.val (.lst (am b)),.own (.lst (lstsP (timesL [] b))),.none] ⟨.none,[],c,by rfl,rfl,rfl⟩
 have s:rest=[]:=by cases rest with|nil=>rfl|cons=>trivial
 subst s;rw[ik]at d;rw[<-d]at g;have h:dz (.lst (lstsP c))=aa (lstsP c):=rfl;have v:lstsP (timesL [] b)=[]:=rfl;rw[v]at g;generalize lstsP (timesL c b)=R1 at g;generalize lstsP c=R0 at g h;generalize am b=M at g;simp![vL,yaN,dy,b9,aU,h,g,kT]
def fiB(a:Ad):ad aM:=bw 3 (cI (dB (d2 (Pu.eqT ak) (dV 4) (dC (.str [46])))) (bv (bg (vS a) (gV (dV 3) (Pu.bS)))) (dF (bD [4] (aU (dV 3)) (cO) (d2 bi (dV 0) (dV 1)))))
theorem fi_comp(b:List Tx)(d:Nat)(h g f c:Slot)(m:∀t∈b,t.length<=50):iB [4] cO (d2 bi (dV 0) (dV 1)) (am b) [] [h,g,f,.val (.lst (am b)),.val (.str [d]),c]=.ok (am (b.map λt=>t++[d])) [h,g,f,.val (.lst (am b)),.val (.str [d]),c]:=by
 have j:=gS (cap:=[4]) (dt:=cO) (de:=(d2 bi (dV 0) (dV 1))) (ε:=[h,g,f,.val (.lst (am b)),.val (.str [d]),c]) (λ_=>ah) (λx=>match x with|.str t=>.str (t++[d])|_=>.non) (am b)
  (by intro x l;obtain⟨t,i,rfl⟩:=bU.mp l;have o:=m t i;have n:bi (.str t) (.str [d])=aa (.str (t++[d])):=p9 (by simp[bB];lia);generalize am b=RR;refine⟨by rfl,λ_=>?_⟩;simp![c_,dI,bM,n]) []
 rw[fh,n9.mpr (by simp)]at j;rw[j];congr 1;simp[am,cR,lS]
theorem fi_step(b:List Tx)(d:Nat)(i h g f:Slot)(j:∀t∈b,t.length<=50)(o:(fillS b d).length<=999999):fiB a [i,h,g,.val (.lst (am b)),.val (.str [d]),f]=.ok .next [i,h,g,.val (.lst (am (fillS b d))),.val (.str [d]),f]:=by
 have l:=Bl ak [d] [46];by_cases m:d=46
 .subst m;have n:=three_eq (a:=a) b j o;generalize am (fillS b 46)=R1 at n;generalize am b=R0 at n;simp![fiB,l,n]
 .have c:=fi_comp b d i h g f j;have e:fillS b d=b.map λt=>t++[d]:=by
   unfold fillS opts;rw[if_neg m];clear c j o
   induction b with
   |nil=>rfl
   |cons t b q=>rw[q8,q];rfl
  have p:dz (.lst (am b))=aa (am b):=rfl;rw[e];have r:decide (([d]:Tx)=[46])=ak:=decide_eq_false (~~~m);rw[r]at l;generalize am (b.map λt=>t++[d])=R1 at c;generalize am b=R0 at c p;simp![fiB,l,bD,aU,p,c]
theorem fi_for(b:Tx)(A:b.length<=40)(z:b.count 46<=6)(j h f g:Slot):∃m,b9 4 (aU (dV 2)) (fiB a) [j,h,↥b,.val (.lst (am [[]])),f,g]=.ok .next [j,h,↥b,.val (.lst (am (fills b))),m,g]:=by
 obtain⟨s,w,m,p,rest,l,y,rfl⟩:=lF (i:=4) (db:=fiB a)
  (I:=λr ε=>∃(f:Slot) (p rest:Tx),b=p++rest/\r=rest.map (λc=>PV.str [c])/\ε=[j,h,↥b,.val (.lst (am (fills p))),f,g])
  (by
   rintro x r ε ⟨f,p,rest,l,o,rfl⟩;cases rest with
   |nil=>trivial
   |cons d rest=>
    simp only[cp,mS]at o;obtain⟨rfl,rfl⟩:=o;have B:p.length+1<=b.length:=by rw[l];simp
    have n:(p++[d]).count 46<=6:=by
     grind
    have e:fillS (fills p) d=fills (p++[d]):=by unfold fills;rw[fillF_app];rfl
    have q:=fi_step (a:=a) (fills p) d j h (↥b) g (λt u=>by rw[fill_long u];lia) (by rw[e,fills_len];have:=pow6 n;lia);rw[e]at q;exact⟨_,q,.val (.str [d]),p++[d],rest,by rw[l];simp,rfl,rfl⟩)
  (b.map λc=>.str [c]) [j,h,↥b,.val (.lst (am (fills []))),f,g] ⟨f,[],b,rfl,rfl,rfl⟩
 have v:rest=[]:=by simp_all
 subst v;rw[ik]at l;rw[<-l]at w;refine⟨m,?_⟩;trivial
def fiO(a:Ad):ad aM:=aH (bw 3 (dF (dL cH (aA (dC (.str [])) (aF))))) (aH (b9 4 (aU (dV 2)) (fiB a)) (bw 1 (bv (bg (vL a) (gV (dV 1) (gV (dV 3) (Pu.bS)))))))
theorem d_law_filled_def:yaH a=aH (bw 1 (dF (dL cH (aA (dF (dL cH (aF))) (aF))))) (aH (λε=>dy (b9 2 (aU (d2 ba (dV 0) (dC (.int 1)))) (fiO a) ε)) (aH (bw 5 (dF (dL sortSetVP (aA (dF (bD [0] (aU (dV 1)) (cO) (dL d9 (aA (d2 ba (dV 1) (dC (.int 0))) (aA (dL iz (aA (dF (dL i8 (aA (dV 0) (aF)))) (aF))) (aF)))))) (aF))))) (jP (bD [] (aU (dV 5)) (dB (d2 (Pu.eqT ah) (bv (bg (sq a) (gV (dV 0) (Pu.bS)))) (dF (dL cH (aF))))) (dV 0))))):=rfl
theorem prs_vw(w:Int):∀(ks:List (List Tx)),(∀k∈ks,k≠[])->prs (ks.map λk=>prV (w,k))=aa (ks.map λk=>(w,k))
 |[],_=>rfl
 |k::ks,h=>by
  have d:=h k (by simp);have b:=prs_vw w ks λx c=>h x (by simp[c]);show(pr1 (prV (w,k))).bind (λq=>(prs (ks.map λk=>prV (w,k))).bind λr=>aa (q::r))=_;rw[b];have e:pr1 (prV (w,k))=aa (w,k):=by show(fS (am k)).bind _=_;rw[oD];simp[d]
  rw[e];rfl
theorem sortSetVP_vw(w:Int)(ks:List (List Tx))(h:∀k∈ks,k≠[])(f:ks.length<4000):sortSetVP [.lst (ks.map λk=>prV (w,k))]=aa (.lst ((sortK (uniqK (ks.map λk=>(w,k)))).map prV)):=by
 show(prs (ks.map λk=>prV (w,k))).bind _=_;rw[prs_vw w ks h,gp,if_pos];have c:=uniqK_len (ks.map λk=>((w,k):PrK));rw[cG]at c;refine⟨∅,λk b=>?_⟩;obtain⟨x,d,rfl⟩:=bU.mp b;cases ks with
 |nil=>trivial
 |cons y ks=>rfl
theorem rows_long(h:r∈rowsF b):r.length=b.length:=qE (rowsF_mem.mp h)
theorem eqT_nil(b:Bool)(ls:List Tx):Pu.eqT b (.lst (am ls)) (.lst [])=aa (.bl (b^^decide (ls=[]))):=by show(if gE (.lst (am ls))<=8 then(gC (am ls) (am [])).map (λk=>PV.bl (b^^k))else af)=_;rw[if_pos (by show fJ (am ls)+1<=8;rw[uU];decide),xM];rfl
theorem filled_eq(b:Blur w c):yL a [.val (aJ w c)]=.ok (.own (.lst (vwsP w (viewsC w c)))) [.val (aJ w c)]:=by
 have g:=b.g;have hms:=g.few;have xw:=g.some;have S:=b.d6;obtain⟨Z,s,l,j,d,f,p,rest,o,oA,rfl⟩:=lF (i:=2) (db:=fiO a)
  (I:=λr ε=>∃(l j d f:Slot) (p rest:List Tx),c=p++rest/\r=am rest/\ε=[.val (aJ w c),.val (.lst (lstsP (rowsF p))),l,j,d,f])
  (by
   rintro x r ε ⟨l,j,d,f,p,rest,o,v,rfl⟩;cases rest with
   |nil=>trivial
   |cons b rest=>
    have T:x::r=.str b::am rest:=v;simp only[mS]at T;obtain⟨rfl,rfl⟩:=T;have P:b∈c:=by rw[o];simp
    have hbl:=g.len b P;have pH:=‹Blur w c›.w4;have M:b.count 46<=6:=cV (dots_mem P) S;have VC:p.length<=9:=by grind
    obtain⟨Q,m⟩:=fi_for (a:=a) b ∅ M (.val (aJ w c)) (.val (.lst (lstsP (rowsF p)))) d f;have e:timesL (rowsF p) (fills b)=rowsF (p++[b]):=by unfold rowsF;rw[Ds];rfl
    have J:cx (p++[b])<=6:=by
     have m:=dots_app p (b::rest);rw[<-o]at m;have h:cx (b::rest)=b.count 46+cx rest:=by rfl
     have h3:cx (p++[b])=cx p+b.count 46:=by rw[dots_app];rfl
     lia
    have h:=times_eq (a:=a) (rowsF p) (fills b) (λt y=>by rw[rows_long y];lia) (by rw[e,rowsF_len];have:=pow6 J;lia);rw[e]at h;refine⟨[.val (aJ w c),.val (.lst (lstsP (rowsF (p++[b])))),↥b,.val (.lst (am (fills b))),Q,f],?_,↥b,_,Q,f,p++[b],rest,by rw[o];simp,rfl,rfl⟩;have e0:am [[]]=[.str []]:=rfl;rw[e0]at m;generalize lstsP (rowsF (p++[b]))=R1 at h;generalize lstsP (rowsF p)=R0 at m h;generalize am (fills b)=FB at m h;refine(cr (ε1:=[.val (aJ w c),.val (.lst R0),↥b,.val (.lst [.str []]),d,f]) (by rfl)).trans ?_;refine(cr m).trans ?_;simp![h])
  (am c) [.val (aJ w c),.val (.lst (lstsP (rowsF []))),.none,.none,.none,.none] ⟨.none,.none,.none,.none,[],c,rfl,rfl,rfl⟩
 have eV:rest=[]:=by cases rest with|nil=>rfl|cons=>trivial
 subst eV;rw[ik]at o;rw[<-o]at s;have D:ba (aJ w c) (.int 1)=aa (.tup (am c)):=rfl;have E:ba (aJ w c) (.int 0)=aa (.int w):=rfl;have X:dz (.tup (am c))=aa (am c):=rfl;have Y:dz (.lst (lstsP (rowsF c)))=aa (lstsP (rowsF c)):=rfl;have q:=gS (cap:=[0]) (dt:=cO) (de:=(dL d9 (aA (d2 ba (dV 1) (dC (.int 0))) (aA (dL iz (aA (dF (dL i8 (aA (dV 0) (aF)))) (aF))) (aF))))) (ε:=[.val (aJ w c),.val (.lst (lstsP (rowsF c))),l,j,d,f]) (λ_=>ah)
  (λx=>match x with|.lst xs=>prV ((w:Int),aS (xs.filterMap λx=>match x with|.str t=>aa t|_=>af))|_=>.non) (lstsP (rowsF c))
  (by
   intro x F;obtain⟨r,v,rfl⟩:=bU.mp F;have hrl:=rows_long v;have H:=Bp (ls:=r) ∅;have C:(am r).filterMap (λx=>match x with|.str t=>aa t|_=>af)=r:=by unfold am;rw[zB];simp[lS]
   have y:iz [.lst (am (aS r))]=aa (.tup (am (aS r))):=rfl;simp only[C];unfold prV;generalize am (aS r)=SR at H y;generalize am r=RR at H;generalize lstsP (rowsF c)=R0;generalize aJ w c=V at E;generalize ((w:Nat):Int)=WI at E;refine⟨by rfl,λ_=>?_⟩;simp![c_,dI,bM,E,H,y]) []
 rw[fh,n9.mpr (by simp)]at q;have Ev:(lstsP (rowsF c)).map (λx=>match x with|.lst xs=>prV ((w:Int),aS (xs.filterMap λx=>match x with|.str t=>aa t|_=>af))|_=>.non)=((rowsF c).map aS).map λk=>prV ((w:Int),k):=by
  unfold lstsP;rw[cR,cR];refine mH λr _=>?_;have C:(am r).filterMap (λx=>match x with|.str t=>aa t|_=>af)=r:=by unfold am;rw[zB];simp[lS]
  show prV ((w:Int),aS ((am r).filterMap λx=>match x with|.str t=>aa t|_=>af))=_;rw[C];rfl
 rw[Ev]at q;have u:=sortSetVP_vw (w:Int) ((rowsF c).map aS) (λk L=>by obtain⟨r,v,rfl⟩:=bU.mp L;intro z;have:=rows_long v;have h:=(fj r).length_eq;rw[z]at h;simp at h;omega) (by rw[cG,rowsF_len];have:=pow6 S;omega);have eK:=views_same (w:Int) c;have VE:((rowsF c).map aS).map (λk=>(((w:Nat):Int),k))=(rowsF c).map λr=>(((w:Nat):Int),aS r):=by rw[cR];rfl
 rw[VE,eK]at u;have G:((cT (waysF c)).map λk=>(((w:Nat):Int),k)).map prV=vwsP w (cT (waysF c)):=by rw[cR];rfl
 rw[G]at u;have n:=gS (cap:=[]) (dt:=(dB (d2 (Pu.eqT ah) (bv (bg (sq a) (gV (dV 0) (Pu.bS)))) (dF (dL cH (aF)))))) (de:=dV 0) (ε:=[.val (aJ w c),.val (.lst (lstsP (rowsF c))),l,j,d,.val (.lst (vwsP w (cT (waysF c))))]) (λx=>hasT w (unVw x)) (λx=>x) (vwsP w (cT (waysF c)))
  (by
   intro x F;obtain⟨k,L,rfl⟩:=bU.mp F;obtain⟨gk,sk⟩:=ways_good b ((nD _).mem_iff.mp L);have N:=Rq (a:=a) gk b.w1 b.w4 sk;have A:=eqT_nil ah (kj w k);rw[unVw_vw];have hh:(ah^^decide (kj w k=[]))=hasT w k:=by unfold hasT;simp
   rw[hh]at A;generalize aJ w c=V;generalize vwsP w (cT (waysF c))=VS;generalize lstsP (rowsF c)=R0;generalize hasT w k=B at A;generalize aJ w k=W at N;generalize am (kj w k)=TT at N A;refine⟨?_,λ_=>?_⟩
   .simp![c_,dI,bM,N,A]
   rfl) []
 rw[fh,ok_filter _ (hasT w) _ (λk=>by rw[unVw_vw])]at n;have O:dz (.lst (vwsP w (cT (waysF c))))=aa (vwsP w (cT (waysF c))):=rfl;have Ew:yaH a [.val (aJ w c),.none,.none,.none,.none,.none]=.ok (.ret (.own (.lst (vwsP w (viewsC w c))))) [.val (aJ w c),.val (.lst (lstsP (rowsF c))),l,j,d,.val (.lst (vwsP w (cT (waysF c))))]:=by
  rw[d_law_filled_def];have m:(bw 1 (dF (dL cH (aA (dF (dL cH (aF))) (aF))))) [.val (aJ w c),.none,.none,.none,.none,.none]=.ok .next [.val (aJ w c),.val (.lst (lstsP (rowsF []))),.none,.none,.none,.none]:=by rfl
  refine(cr m).trans ?_;unfold viewsC;generalize vwsP w ((cT (waysF c)).filter (hasT w))=RF at n;generalize vwsP w (cT (waysF c))=RV at n u O;generalize ((rowsF c).map aS).map (λk=>prV ((w:Int),k))=RP at q u;generalize lstsP (rowsF c)=R1 at s q Y n;generalize lstsP (rowsF [])=R0 at s;generalize am c=B at s D X;generalize aJ w c=V at s D q n;refine(cr (ε1:=[.val V,.val (.lst R1),l,j,d,f]) (by simp![dy,b9,aU,D,X,s])).trans ?_;refine(cr (ε1:=[.val V,.val (.lst R1),l,j,d,.val (.lst RV)]) ?_).trans ?_
  .simp![bD,aU,Y,q,u]
  .simp![jP,bD,aU,O,n]
 simp[yL,bI,gT,bH,dQ,Ew,back,gf,aR,R.bind]
end
theorem paired_perm{m g:List d}(p:m.Perm g):∀{l:List f},eT i l m->∃a,l.Perm a/\eT i a g:=by
 induction p with
 |nil=>intro l h;cases h;exact⟨[],.nil,.nil⟩
 |cons x _ v=>
  intro l h;cases h with
  |cons r h=>obtain⟨a,s,A⟩:=v h;exact⟨_::a,s.cons _,.cons r A⟩
 |swap x y r=>
  intro l h;cases h with
  |cons n h=>cases h with
   |cons j h=>exact⟨_,List.Perm.swap ..,.cons j (.cons n h)⟩
 |trans _ _ c b=>intro l h;obtain⟨B,q,z⟩:=c h;obtain⟨u,o,w⟩:=b z;exact⟨u,q.trans o,w⟩
theorem paired_set:∀{l:List b}{m:List a}{i:Nat}{x:b}{y:a},eT c l m->l[i]?=aa x->c x y->eT c l (m.set i y)
 |_,_,0,x,y,.cons r t,h,hy=>by simp at h;subst h;exact .cons hy t
 |_,_,i+1,x,y,.cons r t,h,hy=>.cons r (paired_set t (by trivial) hy)
 |_,_,_,_,_,.nil,h,_=>by trivial
theorem fit_self:∀{x:Tx},(∀c∈x,c∈cE)->Fit x x
 |[],_=>.nil
 |c::x,h=>.cons (opts_mem.mpr (.inr ⟨by rintro rfl;have:=h 46 (by simp);trivial,rfl⟩)) (fit_self λd a=>h d (by simp[a]))
theorem fit_dot:∀{x b:Tx} (u:Nat),(∀c∈x,c∈cE)->Fit x b->Fit x (b.set u 46)
 |_,_,_,_,.nil=>.nil
 |_,_,0,h,.cons r t=>.cons (opts_mem.mpr (.inl ⟨rfl,h _ (by simp)⟩)) t
 |_,_,u+1,h,.cons r t=>.cons r (fit_dot u (λc a=>h c (by simp[a])) t)
theorem pairedFit_self:∀{a:List Tx},(∀x∈a,∀c∈x,c∈cE)->eT Fit a a
 |[],_=>.nil
 |x::a,h=>.cons (fit_self (h x (by simp))) (pairedFit_self λy b=>h y (by simp[b]))
theorem Good.dots0(g:Good cE w a):cx a=0:=by
 unfold cx;have:∀x∈a,x.count 46=0:=λx h=>List.count_eq_zero.mpr λd=>by have:=g.abc x h 46 d;trivial
 clear g
 induction a with
 |nil=>rfl
 |cons x a b=>rw[cp,jJ,this x (by simp),b λy c=>this y (by simp[c])]
theorem Good.dab(g:Good cE w a):Good hZ w a:=⟨g.len,λx h c b=>by have:=g.abc x h c b;simp[cE]at this;simp[hZ];simp_all,g.some,g.few⟩
section
variable{a:Ad}
inductive Nm(ns:List Int)(w m6:Nat)(ls:List Tx)(L k:Nat)(ε:aj):Prop
 |mk (ys:List PV) (ms:List Tx) (s5:Slot) (e:ε=[bO ns,.own (.lst ys),.val (.tup [.int w,.tup (am ls)]),⇑m6,.own (.lls (ms.map eR)),s5]) (g:Good hZ w ms) (d:cx ms<=k) (hy:ys.length<=L+1+2*k) (p:eT Fit ls ms)
theorem blurredN_eq(p:List Int)(xs:List PV)(w:Nat)(f:List Tx)(j:Nat)(h6:j<=6)(w1:1<=w)(w4:w<=4)(hx:xs.length<=200)(g:Good cE w f)(hs:f.Pairwise (λa b=>dj a b=ah)):∃(d:List Tx) (o:List PV),Blur w d/\cx d<=j/\f∈waysF d/\o.length<=300 /\ yF a [bO p,.own (.lst xs),.val (aJ w f),⇑j]=.ok (.val (aJ w d)) [bO p,.own (.lst o),.val (aJ w f),⇑j]:=by
 obtain⟨m,m0,m1,W⟩:=my (a:=a) p xs ((j:Nat)+1) (by simp) ∅;obtain⟨n,rfl⟩:∃n:Nat,m=n:=⟨m.toNat,∅⟩
 have hr:kn [.int n]=aa (eN 0 n):=vM ∅;have bu:(eN 0 n).length=n:=by simp[eN]
 have g0:Good hZ w f:=g.dab;have d0:cx f=0:=g.dots0;obtain⟨ε',Z,o,d,s5,rfl,s,hd,hy,z⟩:=u5 (i:=5) (db:=(yW 4 (bv (bg (gY a) (gV (dV 0) (gO 1 (gV (uN 4) (Pu.bS)))))) (bv (bg (gY a) (gV (dV 0) (gO 1 (gV (d2 ba (dV 2) (dC (.int 0))) (Pu.bS)))))) (dC (.str [46]))))
  (I:=λk C=>Nm p w j f xs.length k C) (N:=n)
  (by
   rintro k C x hk ⟨o,d,s5,rfl,s,hd,hy,z⟩;have hll:f.length=d.length:=qE z;obtain⟨v,v0,v1,hv⟩:=my (a:=a) p o (d.length:Nat) (by have:=s.some;lia) ∅;obtain⟨u,u0,u1,T⟩:=my (a:=a) p (o++[.int 0]) (w:Nat) ∅ (by simp;lia);have J:v.toNat<d.length:=⋯
   obtain⟨q,E⟩:∃q,d[v.toNat]?=aa q:=⟨_,eD J⟩
   obtain⟨D,F⟩:∃D,f[v.toNat]?=aa D:=⟨_,eD ⋯⟩
   have A:q∈d:=j7 E;have B:=s.len q A;have hf:Fit D q:=by
    have:∀{l m:List Tx} (i:Nat) (x y:Tx),eT Fit l m->l[i]?=aa x->m[i]?=aa y->Fit x y:=by
     intro l m i x y r
     induction r generalizing i with
     |nil=>simp
     |cons r _ ih=>
      intro Y X;cases i with
      |zero=>simp at Y X;subst Y X;exact r
      |succ i=>exact ih i (by trivial) (by trivial)
    exact this _ _ _ z F E
   refine⟨[bO p,.own (.lst (o++[.int 0]++[.int 0])),.val (.tup [.int w,.tup (am f)]),⇑j,.own (.lls ((d.set v.toNat (q.set u.toNat 46)).map eR)),.val x],?_,_,_,_,rfl,s.put (by simp[B]) (λc P=>?_),?_,by simp;lia,paired_set z F (fit_dot _ (g.abc D (j7 F)) hf)⟩
   .have S:ie (d.map eR).length v=aa v.toNat:=CF v0 (by rw[cG];trivial);have i2:ie (eR q).length u=aa u.toNat:=CF u0 (by rw[R7,B];trivial);have i3:(d.map eR)[v.toNat]?=aa (eR q):=by rw[dY,E];rfl
    have H:ba (.tup [.int w,.tup (am f)]) (.int 0)=aa (.int w):=rfl;have G:(d.map eR).length=d.length:=cG _;simp only[jH,qX,fh]at T;simp only[cG]at S;generalize ((j:Nat):Int)=M6;simp![yW,uN,kY,G,hv,S,i3,H,T,i2,UT,<-map_set]
   .rcases Ku P with P|rfl
    .exact s.abc q A c P
    trivial
   .have:=NX d v.toNat q (q.set u.toNat 46) E (LK q u.toNat 46);lia)
  (eN 0 n) 0 [bO p,.own (.lst (xs++[.int 0])),.val (.tup [.int w,.tup (am f)]),⇑j,.own (.lls (f.map eR)),.none] ⋯ ⟨xs++[.int 0],f,.none,rfl,g0,∅,by simp,pairedFit_self g.abc⟩
 have M:cx (aS d)<=j:=by rw[T5 (fj d)];lia
 refine⟨aS d,o,⟨s.perm (fj _),w1,w4,∅,sV _⟩,M,?_,∅,?_⟩
 .obtain⟨l',p',h'⟩:=paired_perm (fj d).symm z;exact waysF_mem.mpr ⟨l',by rw[<-rV p',qw hs],h'⟩
 have H:ba (.tup [.int w,.tup (am f)]) (.int 0)=aa (.int w):=rfl;have G:ba (.tup [.int w,.tup (am f)]) (.int 1)=aa (.tup (am f)):=rfl;have Q:bi (.int j) (.int 1)=aa (.int ((j:Nat)+1)):=rfl;have il:d.length<=1000000:=by have:=s.few;lia
 have hj:=λC=>LX d (λx h=>by rw[s.len x h];lia) C;have L:(d.map eR).map PV.lst=d.map λx=>PV.lst (eR x):=by simp
 have O:=O4 f;generalize ((j:Nat):Int)+1=M7 at W Q;generalize ((j:Nat):Int)=M6 at Q Z ⊢;simp[yF,yaE,aH,cI,dB,d2,d1,dV,dC,dL,dF,aA,aF,cu,pM,bw,cQ,bg,gV,gO,Pu.bS,fN,gF,cD,eQ,iU,R.bind,aR,bI,gT,bH,back,gf,oB,ja,AN,zf,yP,bv,kl,cH,d9,fX,IS,v6,ID,l8,zc,rW,l6,ln,Hr,p8,dS,eW,vn,kU,vO,dQ,o7,G,yX,aU,dz,O,Q,W,b9,hr,dy,Z,H,za,kY,bD,L,hj,i8,oD,il,iz]
end
section
theorem in_tup(x:Tx)(k:List Tx):iq ak (.str x) (.tup (am k))=aa (.bl (decide (x∈k))):=by
 show(dA (.str x)).bind (λv=>(iC (am k)).map λb=>PV.bl (ak^^oO v b))=_;rw[Gy];show aa (PV.bl (ak^^oO (tV x) (cm k)))=_;rw[wG];congr 2;unfold oO cm;rw[Eb,o6,Ec,decide_eq_true_eq];constructor
 .rintro⟨z,d,c⟩;have:x=z:=by simpa[CO,eq_comm]using c
  rw[this];exact d
 .intro h;exact⟨x,h,by simp[CO]⟩
def inAll(V:List (List Tx))(x:Tx):Bool:=V.all λk=>decide (x∈k)
theorem ina_eq(w:Nat)(V:List (List Tx))(x:Tx):vC a [↥x,.val (.lst (vwsP w V))]=.ok (.val (.bl (inAll V x))) [↥x,.val (.lst (vwsP w V))]:=by
 have b:=gS (cap:=[0]) (dt:=cO) (de:=(d2 (iq ak) (dV 1) (d2 ba (dV 0) (dC (.int 1))))) (ε:=[↥x,.val (.lst (vwsP w V))]) (λ_=>ah) (λy=>.bl (decide (x∈unVw y))) (vwsP w V)
  (by intro y i;obtain⟨k,l,rfl⟩:=bU.mp i;have c:=in_tup x k;have d:ba (aJ w k) (.int 1)=aa (.tup (am k)):=rfl;rw[unVw_vw];generalize decide (x∈k)=D at c;generalize am k=B at c d;generalize aJ w k=W at d;generalize vwsP w V=VS;refine⟨by rfl,λ_=>?_⟩;simp![c_,dI,bM,d,c]) []
 rw[fh,n9.mpr (by simp)]at b;have j:(vwsP w V).map (λy=>PV.bl (decide (x∈unVw y)))=(V.map λk=>decide (x∈k)).map .bl:=by unfold vwsP;rw[cR,cR];refine mH λk _=>?_;show PV.bl (decide (x∈unVw (aJ w k)))=_;rw[unVw_vw];rfl
 rw[j]at b;have f:=yf (V.map λk=>decide (x∈k));have h:(V.map λk=>decide (x∈k)).all id=inAll V x:=by unfold inAll;simp
 rw[h]at f;have g:dz (.lst (vwsP w V))=aa (vwsP w V):=rfl;generalize (V.map λk=>decide (x∈k)).map PV.bl=BS at b f;generalize vwsP w V=VS at b g;simp![vC,yaw,bD,aU,g,b,f]
def seenT(V:List (List Tx)):List Tx:=(aS (dU (V.headD []))).filter (inAll V)
theorem sortSetTP_eq{k:List Tx}(h:k.length<=1000):qr [.tup (am k)]=aa (.lst (am (aS (dU k)))):=by show(fS (am k)).bind _=_;rw[oD,gp,if_pos];have:(dU k).length<=k.length:=(RU k).length_le_of_subset λz b=>(Bu _ _).mp b;lia
theorem seens_no(b:Blur w c)(h:viewsC w c=[]):qB a [.val (aJ w c)]=.er (.ref a.Never) [.val (aJ w c)]:=by have d:=cleared_eq (a:=a) b;rw[h]at d;have i:vwsP w []=[]:=rfl;rw[i]at d;have f:bW [.lst []]=aa (.int 0):=rfl;have g:=vE ak 0 0;generalize aJ w c=V at d;simp![qB,yaS,d,f,g,uY,bM]
theorem seens_yes(b:Blur w c)(h:viewsC w c≠[]):qB a [.val (aJ w c)]=.ok (.own (.lst (am (seenT (viewsC w c))))) [.val (aJ w c)]:=by
 have o:=cleared_eq (a:=a) b;obtain⟨k,V,n⟩:=Ed h;have l:k∈viewsC w c:=by rw[n];simp
 obtain⟨u,_⟩:=ways_good b ((nD _).mem_iff.mp (ku.mp l).1);have z:=u.few;have f:=sortSetTP_eq (k:=k) ∅;have j:bW [.lst (vwsP w (viewsC w c))]=aa (.int ((viewsC w c).length:Nat)):=by simp[bW,vwsP]
 have p:Pu.eqT ak (.int ((viewsC w c).length:Nat)) (.int 0)=aa (.bl ak):=by rw[vE,decide_eq_false (by grind)];rfl
 have g:ba (.lst (vwsP w (viewsC w c))) (.int 0)=aa (aJ w k):=by rw[n];show fE (aJ w k::vwsP w V) 0=_;rw[sP (by decide) (by simp)];rfl
 have i:ba (aJ w k) (.int 1)=aa (.tup (am k)):=rfl;have d:=gS (cap:=[1]) (dt:=(dB (bv (bg (vC a) (gV (dV 0) (gV (dV 1) (Pu.bS))))))) (de:=dV 0) (ε:=[.val (aJ w c),.val (.lst (vwsP w (viewsC w c)))]) (λx=>match x with|.str t=>inAll (viewsC w c) t|_=>ak) (λx=>x) (am (aS (dU k)))
  (by
   intro y r;obtain⟨t,v,rfl⟩:=bU.mp r;have m:=ina_eq (a:=a) w (viewsC w c) t;dsimp only;generalize inAll (viewsC w c) t=B at m;generalize vwsP w (viewsC w c)=VS at m;generalize aJ w c=V;refine⟨?_,λ_=>?_⟩
   .simp![c_,dI,bM,m]
   rfl) []
 have s:((am (aS (dU k))).filter (λx=>match x with|.str t=>inAll (viewsC w c) t|_=>ak)).map (λx=>x)=am (seenT (viewsC w c)):=by rw[ud];unfold seenT am;rw[n8,n];rfl
 rw[fh,s]at d;have q:dz (.lst (am (aS (dU k))))=aa (am (aS (dU k))):=rfl;generalize am (seenT (viewsC w c))=RS at d;generalize am (aS (dU k))=RK at d q f;generalize am k=KP at f i;generalize aJ w k=W at g i;generalize (((viewsC w c).length:Nat):Int)=LI at j p;generalize vwsP w (viewsC w c)=VS at o j g d;generalize aJ w c=B at o d;simp![qB,yaS,o,j,p,jP,bD,aU,g,i,f,q,d]
end
end Sh
namespace K10
open L2 Pu Mx Sh
section
variable{a:Ad}
def vB:PV:=.tup [.str [114,101,102,117,115,101,100],.int 4]
def Wh(a:Ad):Prop:=vK a [.val (.exc (.ref a.Never))]=.ok (.val vB) [.val (.exc (.ref a.Never))]
theorem V1(h:vK a [.val (.exc (.ref a.Never))]=.ok (.val vB) [.val (.exc (.ref a.Never))]):Wh a:=h
theorem MF(p q:List (List Tx))(x:Tx):inAll (p++q) x=(inAll p x&&inAll q x):=by simp[inAll]
theorem OQ(b k:List Tx)(w:Nat)(n m l j i h g f d c:Slot):iB [11] (dB (d2 (iq ak) (dV 0) (d2 ba (dV 1) (dC (.int 1))))) (dV 0) (am b) [] [n,m,l,j,i,h,g,f,d,c,.val (.lst (am b)),.val (aJ w k)]=.ok (am (b.filter λx=>decide (x∈k))) [n,m,l,j,i,h,g,f,d,c,.val (.lst (am b)),.val (aJ w k)]:=by
 have r:=gS (cap:=[11]) (dt:=(dB (d2 (iq ak) (dV 0) (d2 ba (dV 1) (dC (.int 1)))))) (de:=dV 0) (ε:=[n,m,l,j,i,h,g,f,d,c,.val (.lst (am b)),.val (aJ w k)]) (λx=>match x with|.str t=>decide (t∈k)|_=>ak) (λx=>x) (am b)
  (by
   intro y q;obtain⟨t,s,rfl⟩:=bU.mp q;have o:=in_tup t k;have p:ba (aJ w k) (.int 1)=aa (.tup (am k)):=rfl;dsimp only;generalize decide (t∈k)=D at o;generalize am k=B at o p;generalize aJ w k=W at p;generalize am b=DU;refine⟨?_,λ_=>?_⟩
   .simp![c_,dI,bM,p,o]
   rfl) []
 rw[r];congr 1;rw[fh,ud];unfold am;rw[n8];rfl
theorem Oc(w:Nat)(V:List (List Tx))(c:List Tx)(s q o n m l j h g f b:Slot):∃d,fc 11 (bw 10 (dF (bD [11] (aU (dV 10)) (dB (d2 (iq ak) (dV 0) (d2 ba (dV 1) (dC (.int 1))))) (dV 0)))) (vwsP w V) [s,q,o,n,m,l,j,h,g,f,.val (.lst (am c)),b]=.ok .next [s,q,o,n,m,l,j,h,g,f,.val (.lst (am (c.filter (inAll V)))),d]:=by
 obtain⟨C,y,d,p,rest,v,H,rfl⟩:=lF (i:=11) (db:=(bw 10 (dF (bD [11] (aU (dV 10)) (dB (d2 (iq ak) (dV 0) (d2 ba (dV 1) (dC (.int 1))))) (dV 0)))))
  (I:=λr z=>∃(b:Slot) (p rest:List (List Tx)),V=p++rest/\r=vwsP w rest/\z=[s,q,o,n,m,l,j,h,g,f,.val (.lst (am (c.filter (inAll p)))),b])
  (by
   rintro x r z ⟨b,p,rest,v,D,rfl⟩;cases rest with
   |nil=>trivial
   |cons k rest=>
    have A:x::r=aJ w k::vwsP w rest:=D;simp only[mS]at A;obtain⟨rfl,rfl⟩:=A;have u:=OQ (c.filter (inAll p)) k w s q o n m l j h g f;have F:(c.filter (inAll p)).filter (λx=>decide (x∈k))=c.filter (inAll (p++[k])):=by rw[List.filter_filter];refine Kr λx _=>?_;rw[MF,Bool.and_comm];congr 1;simp[inAll]
    rw[F]at u;refine⟨_,?_,.val (aJ w k),p++[k],rest,by rw[v];simp,rfl,rfl⟩;have B:dz (.lst (am (c.filter (inAll p))))=aa (am (c.filter (inAll p))):=rfl;generalize am (c.filter (inAll (p++[k])))=R1 at u;generalize am (c.filter (inAll p))=R0 at u B;generalize aJ w k=W at u;simp![bD,aU,B,u])
  (vwsP w V) [s,q,o,n,m,l,j,h,g,f,.val (.lst (am (c.filter (inAll [])))),b] ⟨b,[],V,rfl,rfl,rfl⟩
 have E:rest=[]:=by cases rest with|nil=>rfl|cons=>trivial
 subst E;rw[ik]at v;rw[<-v]at y;have G:c.filter (inAll [])=c:=n9.mpr λx _=>rfl;rw[G]at y;exact⟨d,y⟩
theorem HU(w:Nat):∀ks:List (List Tx),fJ (vwsP w ks)<=3
 |[]=>by simp[vwsP,fJ]
 |k::ks=>by
  show max (gE (aJ w k)) (fJ (vwsP w ks))<=3;have c:=HU w ks;have b:gE (aJ w k)<=3:=by show max (gE (.int w)) (max (fJ (am k)+1) (fJ []))+1<=3;rw[uU];simp[gE,fJ]
  lia
theorem Qd(G:Wh a)(c:List Int):rZ a [bO c]=.ok (.val (.bl ah)) [bO c]:=by
 have cN:pL a (.ref a.Never)=ah:=by simp[pL,i9]
 unfold Wh at G;obtain⟨x,Q,J⟩:=Ic (a:=a) c [] [.int 0,.int 0,.int 0,.int 1,.int 2] (by simp) (by simp);obtain⟨sp,gL,rfl⟩:∃sp:Nat,sp<3/\x=.int sp:=by
  simp at Q;rcases Q with rfl|rfl|rfl
  .exact⟨0,by simp,rfl⟩
  .exact⟨1,by simp,rfl⟩
  .exact⟨2,by simp,rfl⟩
 obtain⟨f,f0,f5,N⟩:=my (a:=a) c ([]++[.int 0]) 5 (by simp) (by simp);obtain⟨o,rfl⟩:∃n:Nat,f=n:=⟨f.toNat,∅⟩
 obtain⟨w,d,A,X,T,_,g,hs,_,_,H,Z⟩:=QL (a:=a) c ([]++[.int 0]++[.int 0]) sp 6 gL (by simp) (by simp) (by simp);obtain⟨b,h,bl,hdm,hlw,Y,v⟩:=blurredN_eq (a:=a) c A w d o ∅ X T (by simp at H;lia) g hs;have l:=filled_eq (a:=a) bl;have C:uA a [bO c,.own (.lst [.int 0,.int 0]),⇑sp,⇑6]=.ok (.val (aJ w d)) [bO c,.own (.lst A),⇑sp,⇑6]:=Z;simp only[fh,qX]at N J;have P:∀{r:R aM},((aH (sr 8 9 (pL a) (sW (sL (qB a) (gV (dV 5) (Pu.bS)))) (bw 7 (bv (λz=>bM (bg (vK a) (gV (dV 9) (Pu.bS)) z))))) (aH (cI (dB (d2 (Pu.eqT ak) (dV 6) (dF (dL cH (aF))))) (cu (d2 (Pu.eqT ak) (dV 7) (dL d9 (aA (dC (.str [114,101,102,117,115,101,100])) (aA (dC (.int 4)) (aF)))))) (fX)) (aH (bw 10 (dF (dL qr (aA (d2 ba (d2 ba (dV 6) (dC (.int 0))) (dC (.int 1))) (aF))))) (aH (λz=>dy (b9 11 (aU (dV 6)) (bw 10 (dF (bD [11] (aU (dV 10)) (dB (d2 (iq ak) (dV 0) (d2 ba (dV 1) (dC (.int 1))))) (dV 0)))) z)) (cu (ln (d2 (nk ak) (dV 7) (dC .non)) (d2 (Pu.eqT ak) (dV 8) (dV 10)))))))) [bO c,.own (.lst h),⇑sp,⇑o,.val (aJ w d),.val (aJ w b),.val (.lst (vwsP w (viewsC w b))),.val .non,.val (.lst []),.none,.none,.none]=r)->yaC a [bO c,.none,.none,.none,.none,.none,.none,.none,.none,.none,.none,.none]=r:=by
  intro r I;unfold yaC;generalize ((o:Nat):Int)=FW at N v I;generalize ((sp:Nat):Int)=SP at J C I;refine(cr (ε1:=[bO c,.own (.lst []),.none,.none,.none,.none,.none,.none,.none,.none,.none,.none]) (by rfl)).trans ?_;refine(cr (ε1:=[bO c,.own (.lst [.int 0]),⇑SP,.none,.none,.none,.none,.none,.none,.none,.none,.none]) (by simp![J])).trans ?_;refine(cr (ε1:=[bO c,.own (.lst [.int 0,.int 0]),⇑SP,⇑FW,.none,.none,.none,.none,.none,.none,.none,.none]) (by simp![N])).trans ?_;refine(cr (ε1:=[bO c,.own (.lst A),⇑SP,⇑FW,.val (aJ w d),.none,.none,.none,.none,.none,.none,.none]) ?_).trans ?_
  .generalize aJ w d=V at C;simp![C]
  refine(cr (ε1:=[bO c,.own (.lst h),⇑SP,⇑FW,.val (aJ w d),.val (aJ w b),.none,.none,.none,.none,.none,.none]) ?_).trans ?_
  .generalize aJ w d=V at v;generalize aJ w b=B at v;simp![v]
  refine(cr (ε1:=[bO c,.own (.lst h),⇑SP,⇑FW,.val (aJ w d),.val (aJ w b),.val (.lst (vwsP w (viewsC w b))),.none,.none,.none,.none,.none]) ?_).trans ?_
  .generalize aJ w d=V;generalize vwsP w (viewsC w b)=VS at l;generalize aJ w b=B at l;simp![l]
  refine(cr (ε1:=[bO c,.own (.lst h),⇑SP,⇑FW,.val (aJ w d),.val (aJ w b),.val (.lst (vwsP w (viewsC w b))),.val .non,.none,.none,.none,.none]) (by rfl)).trans ?_;refine(cr (ε1:=[bO c,.own (.lst h),⇑SP,⇑FW,.val (aJ w d),.val (aJ w b),.val (.lst (vwsP w (viewsC w b))),.val .non,.val (.lst []),.none,.none,.none]) (by rfl)).trans I
 by_cases y:viewsC w b=[]
 .have p:=seens_no (a:=a) bl y;have e0:vwsP w []=[]:=rfl;have u:Pu.eqT ak (.lst []) (.lst [])=aa (.bl ah):=rfl;have s:Pu.eqT ak vB (.tup [.str [114,101,102,117,115,101,100],.int 4])=aa (.bl ah):=rfl;have m:yaC a [bO c,.none,.none,.none,.none,.none,.none,.none,.none,.none,.none,.none]=.ok (.ret (.val (.bl ah))) [bO c,.own (.lst h),⇑sp,⇑o,.val (aJ w d),.val (aJ w b),.val (.lst []),.val vB,.val (.lst []),.none,.none,.none]:=by refine P ?_;rw[y,e0];generalize vB=RF at G s ⊢;generalize aJ w b=B at p ⊢;generalize aJ w d=V;simp![sr,sW,sL,bM,p,cN,G,u,s]
  simp[rZ,bI,gT,bH,dQ,m,back,gf,aR,R.bind]
 .have p:=seens_yes (a:=a) bl y;obtain⟨k,V,j⟩:=Ed y;have M:k∈viewsC w b:=by rw[j];simp
  obtain⟨gk,_⟩:=ways_good bl ((nD _).mem_iff.mp (ku.mp M).1);have h9:=gk.few;have D:=sortSetTP_eq (k:=k) ∅;have E:ba (.lst (vwsP w (viewsC w b))) (.int 0)=aa (aJ w k):=by rw[j];show fE (aJ w k::vwsP w V) 0=_;rw[sP (by decide) (by simp)];rfl
  have F:ba (aJ w k) (.int 1)=aa (.tup (am k)):=rfl;have S:Pu.eqT ak (.lst (vwsP w (viewsC w b))) (.lst [])=aa (.bl ak):=by
   rw[j];show(if gE (.lst (vwsP w (k::V)))<=8 then(gC (vwsP w (k::V)) []).map (λk=>PV.bl (ak^^k))else af)=_;have:gE (.lst (vwsP w (k::V)))<=8:=by show fJ (vwsP w (k::V))+1<=8;have:=HU w (k::V);lia
   rw[if_pos this];rfl
  have bR:dz (.lst (vwsP w (viewsC w b)))=aa (vwsP w (viewsC w b)):=rfl;obtain⟨q,i⟩:=Oc w (viewsC w b) (aS (dU k)) (bO c) (.own (.lst h)) (⇑sp) (⇑o) (.val (aJ w d)) (.val (aJ w b)) (.val (.lst (vwsP w (viewsC w b)))) (.val .non) (.val (.lst (am (seenT (viewsC w b))))) .none .none;have dv:seenT (viewsC w b)=(aS (dU k)).filter (inAll (viewsC w b)):=by unfold seenT;rw[j];rfl
  rw[<-dv]at i;have O:Pu.eqT ak (.lst (am (seenT (viewsC w b)))) (.lst (am (seenT (viewsC w b))))=aa (.bl ah):=by show(if gE (.lst (am (seenT (viewsC w b))))<=8 then(gC (am (seenT (viewsC w b))) (am (seenT (viewsC w b)))).map (λk=>PV.bl (ak^^k))else af)=_;rw[if_pos (by show fJ (am _)+1<=8;rw[uU];decide),xM,decide_eq_true rfl];rfl
  have L:nk ak .non .non=aa (.bl ah):=rfl;have m:yaC a [bO c,.none,.none,.none,.none,.none,.none,.none,.none,.none,.none,.none]=.ok (.ret (.val (.bl ah))) [bO c,.own (.lst h),⇑sp,⇑o,.val (aJ w d),.val (aJ w b),.val (.lst (vwsP w (viewsC w b))),.val .non,.val (.lst (am (seenT (viewsC w b)))),.none,.val (.lst (am (seenT (viewsC w b)))),q]:=by
   refine P ?_;generalize ((o:Nat):Int)=FW at i ⊢;generalize ((sp:Nat):Int)=SP at i ⊢;generalize am (seenT (viewsC w b))=RS at p i O ⊢;generalize am (aS (dU k))=RK at D i;generalize am k=KP at D F;generalize aJ w k=W at E F;generalize vwsP w (viewsC w b)=VS at E S bR i ⊢;generalize aJ w b=B at p i ⊢;generalize aJ w d=V at i ⊢;refine(cr (ε1:=[bO c,.own (.lst h),⇑SP,⇑FW,.val V,.val B,.val (.lst VS),.val .non,.val (.lst RS),.none,.none,.none]) (by simp![sr,sW,sL,bM,p])).trans ?_;refine(cr (ε1:=[bO c,.own (.lst h),⇑SP,⇑FW,.val V,.val B,.val (.lst VS),.val .non,.val (.lst RS),.none,.none,.none]) (by simp![S])).trans ?_;refine(cr (ε1:=[bO c,.own (.lst h),⇑SP,⇑FW,.val V,.val B,.val (.lst VS),.val .non,.val (.lst RS),.none,.val (.lst RK),.none]) (by simp![E,F,D])).trans ?_;refine(cr (ε1:=[bO c,.own (.lst h),⇑SP,⇑FW,.val V,.val B,.val (.lst VS),.val .non,.val (.lst RS),.none,.val (.lst RS),q]) ?_).trans ?_
   .have:b9 11 (aU (dV 6)) (bw 10 (dF (bD [11] (aU (dV 10)) (dB (d2 (iq ak) (dV 0) (d2 ba (dV 1) (dC (.int 1))))) (dV 0)))) [bO c,.own (.lst h),⇑SP,⇑FW,.val V,.val B,.val (.lst VS),.val .non,.val (.lst RS),.none,.val (.lst RK),.none]=fc 11 (bw 10 (dF (bD [11] (aU (dV 10)) (dB (d2 (iq ak) (dV 0) (d2 ba (dV 1) (dC (.int 1))))) (dV 0)))) VS [bO c,.own (.lst h),⇑SP,⇑FW,.val V,.val B,.val (.lst VS),.val .non,.val (.lst RS),.none,.val (.lst RK),.none]:=by
     rfl
    show dy (b9 _ _ _ _)=_;rw[this,i];rfl
   .simp![L,O]
  simp[rZ,bI,gT,bH,dQ,m,back,gf,aR,R.bind]
end
open L2 Pu Sh
def vT(K:ax)(a:Ad):Bool:=ph K a.SlitError vz "ValueError.__new__" && (i9 a).all (λx=>ph K x vz "ValueError.__new__" && subB K a.SlitError x&&yu K x&&(i9 a).all (λd=>iJ K (.ref x) (.ref d) == aa (x == d))&&iJ K (.ref x) (.type "ValueError") == aa ah)&&Aj K&&decide (i9 a).Nodup
section
variable{K:ax}{h g:aB}{i:Str->Option ai}{a:Ad}
theorem u6(h:vT K a=ah):ph K a.SlitError vz "ValueError.__new__"=ah/\(∀x∈i9 a,ph K x vz "ValueError.__new__"=ah/\subB K a.SlitError x=ah/\yu K x=ah/\(∀d∈i9 a,iJ K (.ref x) (.ref d)=aa (x == d))/\iJ K (.ref x) (.type "ValueError")=aa ah)/\Aj K=ah/\(i9 a).Nodup:=by unfold vT at h;simp only[g9,k9,beq_iff_eq,decide_eq_true_eq]at h;obtain⟨⟨⟨l,c⟩,j⟩,f⟩:=h;exact⟨l,λx b=>⟨(c x b).1.1.1.1,(c x b).1.1.1.2,(c x b).1.1.2,(c x b).1.2,(c x b).2⟩,j,f⟩
theorem Q_(h:vT K a=ah):Bb K (jA a):=by
 obtain⟨_,l,_,_⟩:=u6 h;intro c D b e;unfold jA at e;split at e
 .rename_i x d;split at e
  .rename_i f;rw[g9]at f;cases e;have j:x∈i9 a:= ~~~f.1
   have m:d∈i9 a:= ~~~f.2
   exact⟨x,.ref d,rfl,FZ (l x j).2.2.1,rfl,(l x j).2.2.2.1 d m⟩
  .cases e
 .rename_i x T;split at e
  .rename_i f;rw[g9]at f;cases e;have j:x∈i9 a:= ~~~f.1
   have n:T = "ValueError":= ~~~f.2
   subst n;exact⟨x,.type "ValueError",rfl,FZ (l x j).2.2.1,rfl,(l x j).2.2.2.2⟩
  .cases e
 .cases e
theorem RZ(X:K.In g)(h:vT K a=ah):∀c,pL a c=ah->Under g a.SlitError c:=by
 obtain⟨_,d,_,_⟩:=u6 h;intro c e;unfold pL at e;split at e
 .rename_i x;have b:x∈i9 a:= ~~~e
  exact NG X (d x b).1 (d x b).2.1
 .cases e
structure Top(K:ax)(a:Ad):Prop where
 yaF:cU K "_law_cell_at" AD
 yaI:cU K "_law_mixed" Ap
 yaG:cU K "_law_draw" BC
 yaJ:cU K "_law_pick" CJ
 yaK:cU K "_law_seen" Ar
 yaL:cU K "_law_text" Bk
 yaP:cU K "_law_view" AR
 yaE:cU K "_law_blurred" An
 yaN:cU K "_law_times" Bt
 yaM:cU K "_law_three" Cc
 yaO:cU K "_law_under" CS
 yaD:cU K "_law_all" AB
 yaH:cU K "_law_filled" BO
 yaz:cU K "is_whole_number" A1
 yaA:cU K "is_width" CU
 yau:cU K "has_only" AU
 yaB:cU K "is_window" Cp
 yam:cU K "are_windows" A5
 yay:cU K "is_view_with" Ch
 yav:cU K "is_blurred_view" B4
 yao:cU K "check_blurred_view" CN
 yaT:cU K "windows_that_fit" AY
 yar:cU K "clearing_views" At
 yax:cU K "is_view" BV
 yap:cU K "check_view" CV
 yas:cU K "excesses" Au
 yaR:cU K "reached_pieces" AI
 yat:cU K "find_bar" ym
 yan:cU K "bar" CT
 yaq:cU K "cleared" By
 yaw:cU K "is_in_all" Bq
 yaS:cU K "seen" BD
 yaQ:cU K "_law_which" Bf
 yaC:cU K "law" xA
 yaU:c7 K cb "ValueError"=aa af
 yaV:c7 K cb "all"=aa af
 yaW:c7 K cb "bool"=aa af
 yaX:c7 K cb "enumerate"=aa af
 yaY:c7 K cb "int"=aa af
 yaZ:c7 K cb "isinstance"=aa af
 ya0:c7 K cb "len"=aa af
 ya1:c7 K cb "list"=aa af
 ya2:c7 K cb "range"=aa af
 ya3:c7 K cb "set"=aa af
 ya4:c7 K cb "sorted"=aa af
 ya5:c7 K cb "str"=aa af
 ya6:c7 K cb "tuple"=aa af
 ya9:∃t,c7 K cb "LETTERS"=aa (aa (.str (tS [97,98,99]) t))
 yba:∃t,c7 K cb "MOST_POINTS"=aa (aa (.int 6 t))
 ybb:∃t,c7 K cb "MOST_WINDOWS"=aa (aa (.int 9 t))
 ybc:∃t,c7 K cb "POINT"=aa (aa (.str (tS [46]) t))
 ybd:∃t,c7 K cb "WIDEST"=aa (aa (.int 4 t))
 yak:c7 K cb "SlitError"=aa (aa (.ref a.SlitError))
 yaf:c7 K cb "NoText"=aa (aa (.ref a.NoText))
 yah:c7 K cb "NoWidth"=aa (aa (.ref a.NoWidth))
 yag:c7 K cb "NoView"=aa (aa (.ref a.NoView))
 yai:c7 K cb "NoWindow"=aa (aa (.ref a.NoWindow))
 yac:c7 K cb "Never"=aa (aa (.ref a.Never))
 yab:c7 K cb "Full"=aa (aa (.ref a.Full))
 yaj:c7 K cb "Nothing"=aa (aa (.ref a.Nothing))
 yal:c7 K cb "Unlike"=aa (aa (.ref a.Unlike))
 yae:c7 K cb "NoPlace"=aa (aa (.ref a.NoPlace))
 yad:c7 K cb "NoLetters"=aa (aa (.ref a.NoLetters))
 yaa:c7 K cb "BadText"=aa (aa (.ref a.BadText))
 ck:vT K a=ah
 z0:qH K "least_ending"=af
 wh:Wh a
theorem NQ(T:Top K a)(X:K.In g)(G:g.Ns cb i):cZ K i g a:=by
 have C:=(u6 T.ck).2.1;have d:=Tz X (u6 T.ck).1;have b:=RZ X T.ck;have c:=Q_ T.ck;cases T;constructor
 all_goals first|assumption|exact cU.at (by assumption) X G|exact PySem.W.mg_none_of X G (by assumption)|exact zY X G (by assumption)|exact M0 X (zY X G (by assumption)) (C _ (by simp[i9])).1|exact Exists.imp (λ_ e=>zY X G e) (by assumption)
theorem OZ{l:Dc}{w:aI}{d:ae}(X:K.In h)(G:h.Ns cb i)(b:i "law"=aa (.ref d))(T:Top K a):∃c:g7,(∀(s:ao) (v:ai),BindsTo s c ⟨[v],[]⟩ [("_law_script",v)])/\∀g:aB,K.In g->g.Ns cb i->lv l.prog w K i g (lq l.prog w) 10 d c ["_law_script"] (fU K (rZ a)):=by
 obtain⟨f,oc,x,kV,y,u,B,A,z,r,o,n,m,j⟩:=T.yaC;have e:=b.symm.trans (zY X G o);cases e;exact⟨_,λs v=>.of_eq rfl,λg p q=>Qn (NQ T p q) (H_ n m j)⟩
theorem Oq{l:Dc}{q:aP}{j:List Str}{XP:(Str->Option ai)->aB->Prop}{o:aI->aB->Prop}{d:DefRec}{K:Params->ax}(y:l.most=aa 63)(u:d.params.defaults=[])(m:d.name = "law")(A:∀(w:aI) (h:aB),o w h->(K w.params).In h) {a:Ad} (T:∀w:aI,Top (K w.params) a):PySem.W.WalkO q j XP o l.row.toRowW d [] (λf r=>PySem.call f r) :=
 L2.V8 (n:=63) (k:=10) (x:="_law_script") (K:=K) (CX:=λw=>lq l.prog w) (sp:=λw=>fU (K w.params) (rZ a)) y (by decide) u ⟨rfl,by decide,by decide⟩ (λw h Y=>⟨A w h Y,λc P e=>by rw[(T w).z0]at e;cases e⟩)
  (λw i F h C G p=>OZ C G (by rw[<-m];exact p) (T w))
  (λw H b v E _ B=>T8 (Tc (u6 (T w).ck).2.2.1 B) (Qd (T w).wh v))
  (λw H s e D z=>by obtain⟨_,_,_,_,_,_,_,_,_,_,_,f⟩:=z;exact f)
theorem V2{l:Dc}{q:aP}{b:List Str}{XP:(Str->Option ai)->aB->Prop}{A:aI->aB->Prop}{d:DefRec}{K:Params->ax}{j r o p n v x m c s u y:ae}(D:l.most=aa 63)(C:d.params.defaults=[])(z:d.name = "law")(E:∀(w:aI) (h:aB),A w h->(K w.params).In h) (T:∀w:aI,Top (K w.params) ⟨j,r,o,p,n,v,x,m,c,s,u,y,0,0⟩):PySem.W.WalkO q b XP A l.row.toRowW d [] (λf B=>PySem.call f B):=Oq D C z E T
end
end K10
structure PySem.W.Fast:Prop where(tw16969070366939473015 tw5216845589658350233 tw2753574655455192871 tw1432434952518948623 tw9307157117907055124 tw16661662554945023075 tw16520243867375930955 tw793382747925525115 tw13087008774616774317 tw6428201137427714725 tw17677196953632291465 tw9548243164950905203 tw17093176692104548901 tw10831338996927832162 tw2968016596874369756 tw4588511678337737795 tw5939092818113275481 tw1662839821075868047 tw15124774567957119807 tw17524069132932844644 tw5637471631722208376 tw17711804489938127640 tw18005909793448823677 tw15877268087593699822 tw1140223403282126842 tw509620537815486602 tw11729203944261895205 tw16355392525359009569 tw5289260278785883179 tw2658250777224797647 tw14594903284342824551 tw8458131228862633051 tw636093039454216431 tw348487526647202161 tw12864694410640047765 tw538058619222657092 tw15917413113805043298 tw13284731008118352357 tw9764147534809629668 tw3193419186462223318 tw2166786412115238667 tw13048066210303666705 tw3271295854075489130 tw18301124500703672062 tw7811700531567165193 tw15472784415645676641 tw7940257372998998002 tw3193869606982101973 tw13355209591850470197 tw4238195025455650352 tw14773363278915833606 tw10408599410595423216 tw14656901216952897232 tw12218043804368112623 tw16959548204490011179 tw17691493886655969931 tw17826462334065517020 tw10395314860280318440 tw2358258646599678300 tw9536507355229905416 tw13571661031203626764 tw7104107796738753670 tw1269819198360483827 tw9958386616605037636 tw9226764960443375600 tw1660130590209593200 tw4439671609061728812 tw7306355898182139012 tw15214331443430937249 tw3559619607323307186 tw17182452002678933975 tw18185831093871568202 tw5787666738329944412 tw2248202899720672485 tw3641312956319146861 tw3668714335610756712 tw7213655803594963308 tw14505400338800082890 tw3876205621688991762 tw15080059516533725895 tw15373345573518432368 tw15275451348196843402 tw16101876624261882900 tw9968181075728988702 tw13762994784214480757 tw6364399554663088166 tw10222690297123543776 tw2815106338534542193 tw4565434502710520870 tw298987661848240143 tw2640102181392601743 tw6971674592128022290 tw11414043654939692089 tw17739775592741640571 tw13566032315366072278 tw3015176123523000435 tw3984789750221435684 tw13362553502317543099 tw4170970484954612144 tw13293433074027666052 tw14279253785699331182 tw6036214822280114043 tw7613048245173189325 tw3789924983872586589 tw2960256620469875436 tw398319831015109 tw2661485840457916668 tw13167277538592728154 tw5654016944434049665 tw10675186545514009173 tw6583827230618246279 tw9862529924709970134 tw2271617906412836026 tw7409634991004820585 tw13173801022762510878 tw548821546113051662 tw3431703660482959279 tw15258374336429274534 tw3880180317144847416 tw1540361255846577128 tw8354548839573083789 tw17262589758342043651 tw3073455469205682268 tw6839639344241565955 tw3721043604055559946 tw18350801583194017982 tw17997922948922574410 tw13925814525946830125 tw16548253549715773549 tw16876106317002034131 tw6511374325098460323 tw15404512316476754380 tw1684807868663447977 tw16067015381320977188 tw358504917580114107 tw5015626567876876122 tw2639924289966145980 tw3711911836722571230 tw11270382839227200330 tw8273924492158337103 tw6388038394032304344 tw3097578336882880968 tw14214495171847152633 tw13422803308266597476 tw9270762886213162797 tw4514587099349830256 tw4067130069445803956 tw18161219659871122746 tw16519850025055982932 tw16623408759302106569:True)
open PySem PySem.W PyProof.Rows
set_option maxRecDepth 100000 in
set_option maxHeartbeats 0 in
theorem PySem.Challenge.cw_slitview_k10_whole_seen_windows_holds : PySem.Challenge.rw_slitview_k10_whole_seen_windows.Holds := by
 w_on; o_law; k_head; (case hw=>w_witness2)
 k_fill
 refine' K10.V2 (l:=PySem.Challenge.rw_slitview_k10_whole_seen_windows) rfl rfl rfl (fun w h Y=>PySem.W.kIn_of Y) ?T
 case T =>
  intro w
  constructor
  iterate 34 (case _=>refine' Pu.VF ?qa ?ql ?qc ?qk; (case qa=>k_is); (case ql=>k_is); (case qc=>k_is); (case qk=>k_is))
  iterate 13 (case _=>k_is)
  (case _=>refine' Pu.VU ?e; (case e=>k_is))
  iterate 2 (case _=>refine' Pu.V0 ?e; (case e=>k_is))
  (case _=>refine' Pu.VU ?e; (case e=>k_is))
  (case _=>refine' Pu.V0 ?e; (case e=>k_is))
  iterate 12 (case _=>k_is)
  iterate 2 (case _=>kernel_rfl)
  (case _=>refine K10.V1 ?_; kernel_rfl)
