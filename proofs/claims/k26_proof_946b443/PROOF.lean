import PyProof.Rows.All
import Wide.All
import OpenK.AllK
import Wide.FinOn
import Lean
import PyProof.EqAt
import PyProof.EqKinds
import PyProof.TupleCall
import KE.KIntText
import KE.KDictList
import KE.KDictSum
import PyProof.Rows.Range3
import PyProof.DictWalks
import KE.KMinKey
import KE.KSortTup
import PyProof.EnumStmt
import PyProof.EnumMake
import PyProof.EnumFor
import PyProof.Draws
import PyProof.Rows.TupDisplay
import PyProof.Rows.SumAny
import KE.LcSums
import PyProof.FString5
import PyProof.WalkInts
import PySem.Challenge.RW_slitview_k26_whole_pairs
noncomputable section
set_option compiler.extract_closed false
local macro_rules | `(∅) => `(by first | assumption | lia | omega)
set_option Elab.async false
set_option bootstrap.genMatcherCode false
set_option genSizeOf false
set_option linter.all false
set_option maxRecDepth 100000
local macro_rules | `(tactic| ac_nf) => `(tactic| exact ⟨rfl,rfl,rfl,by decide +kernel,rfl,by decide +kernel,by decide +kernel⟩)
open Option renaming some->aa,none->ae,bind_some->fj,bind_eq_some_iff->jv,map_eq_some_iff->mK,map_some->tZ,getD_some->zW,isSome_iff_exists->CL,getD_none->Je
open PySem renaming Addr->af,Value->ai,Shared->ao,wpAny_bind->aq,wpAny->ar,model->aw,Heap->az,wpAny_pure->aC,Expr->aD,World->aG,starEach->aM,Program->aO,Around->aR,eval->aX,Stmt->bg,sizeLine->bn,mainGlobals->bW,SetTable->ce,backTo->cE,rawInt->dP,bootBuiltins->eA,Scope->eB,compareOp->eE,wpAny_mono->eW,cellsFrom->fR,bindArgs->gI,Keyword->gJ,strKind->gM,NameKind->g9,FuncData->iw,wpAny_holding->iM,binaryOp->iN,sysModules->jr,swapsWith->jG,Paired->j_,attributeBase->kf,wpAny_newObj_type->kL,holding->lA,mem_of_lookup->lD,IsPart->lE,wpAny_setState_of->lI,setField->lJ,unsupported->lK,pyNext->mB,codeAny->mC,backToKw->mD,keywordEach->mE,wpAny_call_entry->mH,wpAny_rule->mO,isTrue->nH,pyIter->nI,getItem->nJ,setNext->nV,argBest->n8,assign->o7,foldedSetIterable->o8,call_meets->pe,wpAny_setField->pi,builtinsNs->qw,wpAny_truthy_bool->qy,sizeLine_eq->qz,codeAny_mono->qB,wpAny_field->qE,wpAny_of_eq->qL,assignEach->tE,wpAny_passesOwn->tF,wpAny_typeOf->tI,sliceBounds->tJ,valueAt->tO,callerA->tQ,DictEntry->tR,relayAll->tU,wpAny_askSetting->tY,setSearchFrom->ud,reduceHash->vR,tupleKind->vS,wpAny_execs_nil->vT,wpAny_specialOf->v4,codeAny_builtin->v_,pickOrder->wb,setFlight->we,eqIsQuiet->wq,ofAClassStatement->wt,hashByValue->wu,wpAny_forIn_list->wv,PassesOwn->zt,behindInMarks->zu,wpAny_call->zw,wpAny_Call_Name_kw->zx,wpAny_callSpecial?_slot->zy,noteFrame->zz,isInstance->zG,setsByText->zH,wpAny_ite_split->zI,letOwnedTupleGo->CJ,wpAny_loadPart'->CM,subscripted->CQ,setAddHashed->C5,wpAny_storeSet_of->C7,fits_of_scanBound->C8,plainId_quiet->C9,wpAny_attempt->C_,firstArgMember->Db,wpAny_isInstance->Dc,wpAny_seqItems->Dd,wpAny_pyIter_tuple->De,excClassObj->Di,wpAny_typeNameOfWhole_keyiter->DC,wpAny_typeNameOf_keyiter->DH,wpAny_execs_cons->IQ,noFill_tuple_add->IZ,tupleKind_room_in1->Jh,wpAny_pyIter_list->Jl,checkBuiltinCall->Js,wpAny_pyIter_slot->Jt,wpAny_loadPart_at->JA,searchCouldBeSeen->JH,wpAny_dictEntries->JK
open Bool renaming true->ag,false->am,false_ne_true->eP,false_eq_true->eX,and_eq_true->gK,eq_iff_iff->kc,not_true->n5,not_false->ww,and_false->zC,eq_false_iff->zL,or_eq_true->C0,not_eq_true'->JB
open PySem.W renaming Frag->ay,nsIn->cU,mg_of->hU,kitOne->iO,fnOf->i8,mg_none_of->jK,kia_one->lC,excIn->pq,tabIn->qx,findIn->qA,keepIn->qC,hashAt->qS,InstAt->vU,codeIn->vW,mroIn->zv,kat_cons->zX,kat_yes->zY,kat_no->zZ,OpenLaw->CW,clsIn->Dj,kat_nil->DJ,kat_one->DK,methodObj->IP,specialIn->IU,callWith_K->IW,cellsFrom_some->IX,KatTups->JL,kat_kind->JO
open PyProof.Rows renaming wpS_bind->aL,wpS_pure->aV,pendingOf->bw,SortSt->bL,StrsAre->cT,SortKind->gk,seqObj->gQ,wpS_mono->hV,wpS_forRange->h_,envOfC->js,size_push'->jI,pairsOf->kR,wpS_get->lM,AllBare->nG,wpS_modify->n0,tuples'->n6,wpS_lift->t_,keyKind'->wl,slot_tuple_getitem->CO,listUpdate_at->Df,lt_str->JI
open Nat renaming le_refl->a8,le_trans->cM,ne_of_lt->cR,lt_irrefl->eV,lt_of_lt_of_le->gH,le_of_lt->i7,lt_succ_self->ju,zero_le->kg,lt_succ_of_lt->kh,le_of_eq->nO,mod_lt->nW,not_lt_zero->nX,pow_succ->qQ,ne_of_gt->tG,succ_mul->tN,lt_trans->tP,zero_add->t9,succ_pos->uc,le_succ->vZ,lt_of_le_of_lt->v6,add_right_comm->wf,mul_comm->wm,mul_le_mul->zE,add_assoc->zM,mod_eq_of_lt->zS,pow_le_pow_right->z9,sub_self->Dl,pow_add->Ds,add_mod->Dt,mul_le_mul_right->J0
open List renaming mem_cons->bo,mem_map->bH,replicate->bK,length_map->bX,size_toArray->cc,range->cq,length_cons->cx,map_map->cJ,map_cons->cS,length_append->c0,getElem?_eq_some_iff->c9,mem_cons_of_mem->dy,mem_cons_self->eC,getElem?_set_ne->eD,getElem?_eq_getElem->eF,mem_append->fO,append_nil->fQ,getElem?_set_self->gi,length_set->gL,mem_singleton->gP,getElem?_map->g_,not_mem_nil->hG,nil_append->iy,getElem?_append_left->iP,nodup_cons->jH,mem_filter->ka,mem_range->kK,foldl_cons->kM,find?_cons->kN,lookup_cons->kP,pairwise_map->kQ,mem_append_right->lB,length_drop->lF,append_assoc->lG,pairwise_cons->lH,filterMap_cons->mz,length_take->mF,length_nil->mJ,map_append->mM,getElem?_eq_none->mP,any_cons->nL,length_singleton->nM,take_append_drop->nP,map_congr_left->nQ,all_eq_true->nR,getElem_of_mem->nZ,filter_map->n9,getElem?_append_right->o9,mem_of_getElem?->o_,replicate_succ->pc,eq_nil_of_length_eq_zero->pf,length->qD,range_succ->qG,take_of_length_le->qH,toList_toArray->qI,mem_reverse->qO,mem_flatMap->qT,flatMap_cons->qU,dropLast->qV,all_cons->tK,flatten_cons->tL,mergeSort_perm->tT,ext_getElem?->t8,pairwise_iff_getElem->ua,length_pos_iff->ue,of_mem_zip->vV,map_nil->v3,drop_zero->v7,getElem_mem->v8,drop_eq_getElem_cons->wc,perm_append_comm->wg,take_length->wj,not_lt->wx,Perm->wy,length_filter_le->wz,any_eq_true->wA,count_cons_self->wB,count_pos_iff->wC,mem_append_left->zr,getElem?_range->zA,all_map->zB,getElem?_zip_eq_some->zJ,pairwise_append->zN,getElem_drop->zO,take_succ_eq_append_getElem->zP,cons_append->zQ,zip_cons_cons->zV,map_id'->z7,filter_eq_self->z8,lookup->CY,range_succ_eq_map->CZ,pairwise_mergeSort->C1,eraseIdx_cons_succ->Da,nodup_append->Dg,take_zero->Dh,length_dropLast->Dm,getElem_take->Do,singleton_append->Dp,drop_eq_nil_iff->Dq,find?_eq_none->Du,length_erase_of_mem->Dw,perm_middle->Dx,cons_lt_cons_iff->Dz,mem_of_mem_take->DL,isPerm_iff->DM,count_append->DP,count_erase_self->DQ,count_erase_of_ne->DZ,count_cons_of_ne->D1,mem_filterMap->IR,any_eq_false->IT,take_sublist->IY,eraseIdxIfInBounds_toArray->Jg,lookup_append->Jj,drop_append_of_le_length->Jk,length_range->Jm,le_antisymm->Jn,foldl_append->Jq,map_filterMap->Jv,getElem?_drop->Jx,drop_length->Jy,reverse_append->JC,reverse_perm->JD,pairwise_reverse->JE,getElem?_take->JF,mem_of_mem_drop->JG,map_snd_zip->JJ,length_eq_zero_iff->JP,flatMap_nil->JQ,filter_flatMap->JR,filter_cons->JS,map_eq_nil_iff->JT,filter_eq_nil_iff->JU,count_eq_zero_of_not_mem->JV,filter_congr->JW,isEmpty_nil->JX,flatMap_append->JY,getD_eq_getElem?_getD->JZ,eq_of_mem_replicate->J1,findIdx?_eq_some_iff_getElem->Tu
open PySem.Heap renaming lt_size->bz,get?_push_of_some->bD,get?_push_size->cD,SameBut->kb,get?_update_other->mI,get?_update_self->nK,size_push->qF,get?_none_of_le->CI,get?_update_ne->Jw,size_update->Jz
open Option.some renaming inj->c8
open PySem.SetTable renaming bits->et,runEnd->fD,below->iQ,Probe->ki,leap->mR,grown->nU,insertAt->qK,turns->qR,laid->C3,layClean->C4,advance->Dv,sizeAbove->Jo
open Ne renaming symm->eO
open Array renaming length_toList->fP,getElem?_eq_getElem->i9,toList_append->i_,getElem?_eq_some_iff->mL,getElem?_toList->nN,getElem_extract->n4,toList_push->tW,getD_eq_getD_getElem?->wn,toArray_toList->zR,perm_iff_toList_perm->Dr,forIn_toList->Dy
open False renaming elim->ix
open PySem.Obj renaming mapSeq->jt,mapFields->lL,data_mapFields->qM,isFreed_of_fields->zK
open PySem.PassesOwn renaming never->jJ
open PySem.Str renaming empty->ke,ofString->vX
open PyProof.Rows.KeyOrd renaming kle_of_klt->lN,kle_refl->mQ,kle_trans->qN
open Int renaming toNat_natCast->mG,emod_lt_of_pos->zT,emod_nonneg->zU
open PySem.Builtin.Tuple renaming tupleHashOf->nE,tupleExact->CP,tupleItemsOf->Jd
open Iff renaming rfl->nY
open PySem.Heap.SameBut renaming update->ph,refl->Jp
open PySem.SetTable.layClean renaming free->pr
open Function renaming comp->pt,comp_def->qP
open PySem.Value renaming isStrOf->qu
open List.Perm renaming refl->qJ,eq_of_pairwise->zD,cons_inv->D3,append_left->Ju
open PySem.SetTable.below renaming go->t7
open Exists renaming elim->ub
open PySem.SeqAt renaming EqAt->vY
open PySem.F renaming plainAttrs_list->wd,slot_dict_keyiterator_next->DB,slot_tuple_add->I_,entry_tuple_add->Ja,args_tuple_add_2->Jb,slot_dict_get->Ji,slot_tuple_hash->Tz,entry_dict_keyiterator_next->TB,args_dict_keyiterator_next_1->TD
open List.cons renaming injEq->wo
open PySem.SetTable.probe renaming go->wp
open PySem.Around renaming under_plainId->zF
open List.Sublist renaming refl->z_
open PySem.Paired renaming length->CH,snoc->CV
open PySem.Calls renaming spliced_cons->CK,callWith_builtin->CT,evalArgs_plain->CU,spliced_nil->IV
open PySem.Builtin.Slice renaming slicePlaces->CN,sliceAdjust->Jc
open PySem.SeqAt.EqAt renaming str_str->CS
open Nat.succ renaming inj->Dk
open PySem.Builtin.Str renaming occurrences->IS
open PySem.Builtin.List renaming listTooLong->Jf
open PyProof.Rows.F renaming plain_set_update_loop->Jr,entry_set_update_loop->Tw
open PySem.W.KatTups renaming nil->JM,cons->JN
open PySem PySem.Spec PyProof.Rows
namespace L2
abbrev aN:=Sum Int Str
def sM:aN->ai->Bool
 |.inl k,v=>Value.isInt k v
 |.inr x,v=>qu x v
def S9(w:aG):aN->Int
 |.inl k=>hashInt k
 |.inr x=>hashStr w x
theorem ny:∀{k:aN}{v:ai},sM k v=ag->(∃i t,k=Sum.inl i/\v=Value.int i t)\/(∃x t,k=Sum.inr x/\v=Value.str x t)
 |.inl i,v,h=>by obtain⟨t,e⟩:=Value.isInt_shape (k:=i) (v:=v) h;exact .inl ⟨i,t,rfl,e⟩
 |.inr x,v,h=>by obtain⟨t,e⟩:=Value.isStrOf_shape (x:=x) (v:=v) h;exact .inr ⟨x,t,rfl,e⟩
theorem Lo(i:Int)(t:Tok):sM (.inl i) (.int i t)=ag:=by simp[sM,Value.isInt]
theorem QI(x:Str)(t:Tok):sM (.inr x) (.str x t)=ag:=by simp[sM,qu]
theorem R6(a b:Int):decide ((Sum.inl a:aN)=Sum.inl b)=(a == b):=by
 by_cases e:a=b
 .subst e;simp
 .have h:¬(Sum.inl a:aN)=Sum.inl b:=λq=>e (Sum.inl.inj q);rw[decide_eq_false h];exact(beq_eq_false_iff_ne.mpr e).symm
theorem Ss(a b:Str):decide ((Sum.inr a:aN)=Sum.inr b)=decide (a=b):=by
 by_cases e:a=b
 .subst e;simp
 .have h:¬(Sum.inr a:aN)=Sum.inr b:=λq=>e (Sum.inr.inj q);rw[decide_eq_false h,decide_eq_false e]
theorem MH(a:Int)(b:Str):decide ((Sum.inl a:aN)=Sum.inr b)=am:=decide_eq_false (λq=>nomatch q)
theorem M6(a:Str)(b:Int):decide ((Sum.inr a:aN)=Sum.inl b)=am:=decide_eq_false (λq=>nomatch q)
def iY(c:aO)(w:aG):PySem.KeyKind c w aN where
 is:=sM
 hash:=S9 w
 inj:=λv a b l f=>by
  rcases ny l with⟨i,t,rfl,rfl⟩|⟨x,t,rfl,rfl⟩
  .rcases ny f with⟨j,u,rfl,e⟩|⟨y,u,rfl,e⟩
   .injection e with e1 _;rw[e1]
   .exact nomatch e
  .rcases ny f with⟨j,u,rfl,e⟩|⟨y,u,rfl,e⟩
   .exact nomatch e
   .injection e with e1 _;rw[e1]
 byValue:=λk v h=>by rcases ny h with⟨i,t,rfl,rfl⟩|⟨x,t,rfl,rfl⟩ <;> rfl
 pyHash:=λd h=>by
  rcases ny d with⟨i,t,rfl,rfl⟩|⟨x,t,rfl,rfl⟩
  .exact wpAny_pyHash_int h
  .exact wpAny_pyHash_str h
 eqBool:=λg d h=>by
  rcases ny g with⟨i,t,rfl,rfl⟩|⟨x,t,rfl,rfl⟩
  .rcases ny d with⟨j,u,rfl,rfl⟩|⟨y,u,rfl,rfl⟩
   .rw[R6]at h;exact wpAny_eqBool_int h
   .rw[MH]at h;exact SeqAt.EqAt.int_str i t y u _ _ _ _ h
  .rcases ny d with⟨j,u,rfl,rfl⟩|⟨y,u,rfl,rfl⟩
   .rw[M6]at h;exact SeqAt.EqAt.str_int x t j u _ _ _ _ h
   .rw[Ss]at h;exact wpAny_eqBool_str h
 «strs»:=λk x t v h=>by
  rcases ny h with⟨i,u,rfl,e⟩|⟨y,u,rfl,e⟩
  .exact nomatch e
  .injection e with e1 _;subst e1;cases v <;> rfl
theorem KJ(a:aO)(w:aG)(i:Int)(t:Tok):(iY a w).is (.inl i) (.int i t)=ag:=Lo i t
theorem M7(a:aO)(w:aG)(x:Str)(t:Tok):(iY a w).is (.inr x) (.str x t)=ag:=QI x t
inductive V where
 |non|bl (b:Bool)|int (i:Int)|str (x:Str)|byt (b:Array UInt8)|flt (b:UInt64)|ref (a:af)|ty (n:String)
 deriving DecidableEq
def RelV:V->ai->Prop
 |.non,u=>u=Value.none
 |.bl b,u=>u=Value.bool b
 |.int i,u=>∃t,u=Value.int i t
 |.str x,u=>∃t,u=Value.str x t
 |.byt b,u=>∃t,u=Value.bytes b t
 |.flt b,u=>∃t,u=Value.float b t
 |.ref a,u=>u=Value.ref a
 |.ty n,u=>u=Value.type n
abbrev bj:List V->List ai->Prop:=j_ RelV
theorem bj.length{xs:List V}{a:List ai}(r:bj xs a):xs.length=a.length:=CH r
theorem bj.get:∀{xs:List V}{a:List ai}{i:Nat}{x:V},bj xs a->xs[i]?=aa x->∃u,a[i]?=aa u/\RelV x u
 |_,_,_,_,.nil,e=>by simp at e
 |_,_,0,_,.cons r _,e=>by simp at e;subst e;exact⟨_,rfl,r⟩
 |_,_,i+1,x,.cons _ t,e=>by obtain⟨u,c,b⟩:=bj.get (i:=i) (x:=x) t (by simpa using e);exact⟨u,by simpa using c,b⟩
theorem bj.set{x:V}{u:ai}(r:RelV x u):∀{xs:List V}{a:List ai} (i:Nat),bj xs a->bj (xs.set i x) (a.set i u)
 |_,_,_,.nil=>.nil
 |_,_,0,.cons _ t=>.cons r t
 |_,_,i+1,.cons q t=>.cons q (bj.set r i t)
theorem bj.append{xs a:List V}{c b:List ai}(r:bj xs c)(s:bj a b):bj (xs++a) (c++b):=by
 unfold bj at r s ⊢
 induction r with
 |nil=>exact s
 |cons r _ g=>exact .cons r g
theorem bj.take:∀{xs:List V}{a:List ai} (n:Nat),bj xs a->bj (xs.take n) (a.take n)
 |_,_,0,_=>.nil
 |_,_,_+1,.nil=>.nil
 |_,_,n+1,.cons r t=>.cons r (bj.take n t)
theorem bj.drop:∀{xs:List V}{a:List ai} (n:Nat),bj xs a->bj (xs.drop n) (a.drop n)
 |_,_,0,r=>r
 |_,_,_+1,.nil=>.nil
 |_,_,n+1,.cons _ t=>bj.drop n t
def o5:Option V->Option ai->Prop
 |some v,aa u=>RelV v u
 |none,ae=>True
 |_,_=>False
def KV{a:Type}:List (a×V)->List (a×ai)->Prop:=j_ λ(p:a×V) (q:a×ai)=>p.1=q.1/\RelV p.2 q.2
def kV:aN->V
 |.inl i=>.int i
 |.inr x=>.str x
inductive HO where
 |lst (xs:List V)
 |tup (xs:List V)
 |dK (kvs:List (aN×V))|dT (kvs:List (List aN×V))|dN (kvs:List ((Str×List Str)×V))
 |set (S:Int->Bool) (n:Nat)
 |ins (C dx:af) (fs:List (Str×V))
 |own (x:af)
 |xd (fs:List (Str×V))
 |met (f x:af)
 |rng (lo hi:Int)
 |frz (o:Obj) (u:HO)
 |tbl (q:Str)
 |ext (φ:az->Prop)
abbrev Hp:=af->Option HO
def upd(H:Hp)(a:af)(o:HO):Hp:=λb=>if b=a then aa o else H b
theorem bV{H:Hp}{a:af}{o:HO}:upd H a o a=aa o:=by unfold upd;rw[if_pos rfl]
theorem bO{H:Hp}{a b:af}{o:HO}(h:b≠a):upd H a o b=H b:=by unfold upd;rw[if_neg h]
theorem EA{H:Hp}{a b:af}{o u:HO}(h:H a=aa o)(c:H b=aa u)(d:o≠u):a≠b:=by intro e;subst e;rw[h]at c;exact d (c8 c)
theorem kt{H:Hp}{a b:af}{o:HO}(h:H a=aa o)(c:H b=ae):a≠b:=by
 intro e;subst e;rw[h]at c;cases c
def IN(h:az)(a:af)(b:Array ai):Prop:=IsTup h a b/\∃o,h.get? a=aa o/\o.dict=ae
theorem IN.new(h:az)(its:Array ai):IN (h.push {cls:=.type "tuple",data:=.seq its}) h.objs.size its:=⟨IsTup.new _ _,_,cD _ rfl,rfl⟩
section
variable(P:aO)(w:aG)
def L8(k:Str×List Str):Int:=vR (nE [hashStr w k.1,vR (nE (k.2.map (hashStr w)))])
def MJ(H:Hp)(k:Str×List Str)(a:af):Prop:=∃b,H a=aa (.tup [.str k.1,.ref b])/\H b=aa (.tup (k.2.map .str))
def cm(H:Hp)(h:az)(a:af):HO->Prop
 |.lst xs=>xs.length<=bn/\∃(d:List ai) (n:Nat),bj xs d/\h.get? a=aa {cls:=.type "list",data:=.seq d.toArray n}
 |.tup xs=>xs.length<=bn/\∃d:List ai,bj xs d/\IN h a d.toArray
 |.dK b=>b.length<=bn/\(a == jr)=am/\∃s,KV b s/\h.DictOf (iY P w) a s
 |.dT b=>b.length<=bn/\(a == jr)=am/\∃xs:List (List aN×af×ai),
   j_ (λ(p:List aN×V) (q:List aN×af×ai)=>p.1=q.1/\H q.2.1=aa (.tup (p.1.map kV))/\RelV p.2 q.2.2) b xs /\
   ∃o es ep,h.get? a=aa o/\o.ExactDict/\o.data=.dict es ep/\es.toList=xs.map (entryOfKey (vS (iY P w)))/\(xs.map (·.1)).Nodup
 |.dN b=>b.length<=bn/\(a == jr)=am/\∃xs:List ((Str×List Str)×af×ai),
   j_ (λ(p:(Str×List Str)×V) (q:(Str×List Str)×af×ai)=>p.1=q.1/\MJ H p.1 q.2.1/\RelV p.2 q.2.2) b xs /\
   ∃o es ep,h.get? a=aa o/\o.ExactDict/\o.data=.dict es ep/\es.toList=xs.map (λx=>⟨L8 w x.1,.ref x.2.1,x.2.2⟩)/\(xs.map (·.1)).Nodup
 |.set S n=>h.SetOf (intKind P w) a S n
 |.ins C i fs=>H i=aa (.own a)/\fs.length<=1000/\i≠a/\h.get? a=aa (PySem.W.instObj C i) /\
   ∃g,h.Ns1 i g/\(∀f,o5 (fs.lookup f) (g f))/\PySem.Within g (fs.map (·.1))
 |.own _=>∃o,h.get? a=aa o
 |.xd fs=>∃g,h.Ns1 a g/\∀f,o5 (fs.lookup f) (g f)
 |.rng A B=>∃t u v,h.get? a=aa {cls:=.type "range",data:=.fields #[.int A t,.int B u,.int 1 v]}
 |.frz o u=>h.get? a=aa o/\cm H h a u
 |.tbl q=>∃l:Array ai,h.get? a=aa {cls:=.none,data:=.fields l}/\TriplesOk l.toList/\∀m r,codeAmong m l.toList=aa r->∃c,r=.ref c/\H c=aa (.own a)/\h.CodeRec r q
 |.met f x=>h.get? a=aa (IP (.ref f) (.ref x))
 |.ext j=>j h/\(∃o,h.get? a=aa o)/\∀z y:az,j z->(∀o,z.get? a=aa o->y.get? a=aa o)->j y
def cX(H:Hp)(h:az):Prop:=∀a o,H a=aa o->cm P w H h a o
end
section
variable{P:aO}{w:aG}{H j:Hp}{h i:az}{a:af}{o:HO}
theorem cm.lt(x:cm P w H h a o):a<h.objs.size:=by
 cases o with
 |lst xs=>obtain⟨_,_,_,_,e⟩:=x;exact bz e
 |tup xs=>obtain⟨_,_,_,p,_⟩:=x;exact p.lt
 |dK b=>obtain⟨_,_,_,_,o,_,_,e,_⟩:=x;exact bz e
 |dT b=>obtain⟨_,_,_,_,o,_,_,e,_⟩:=x;exact bz e
 |dN b=>obtain⟨_,_,_,_,o,_,_,e,_⟩:=x;exact bz e
 |set S n=>obtain⟨o,_,_,_,e,_⟩:=x;exact bz e
 |ins C m fs=>obtain⟨_,_,_,e,_⟩:=x;exact bz e
 |own y=>obtain⟨_,e⟩:=x;exact bz e
 |xd fs=>obtain⟨_,⟨_,_,_,e,_⟩,_⟩:=x;exact bz e
 |rng g l=>obtain⟨_,_,_,e⟩:=x;exact bz e
 |frz d u=>obtain⟨e,_⟩:=x;exact bz e
 |tbl q=>obtain⟨_,e,_⟩:=x;exact bz e
 |met f y=>exact bz (show h.get? a=aa _ from x)
 |ext c=>obtain⟨_,⟨_,e⟩,_⟩:=x;exact bz e
theorem Paired.mapP{m l:Type}{F G:m->l->Prop}{d:List m}{c:List l}(r:j_ F d c)(f:∀a b,F a b->G a b):j_ G d c:=by
 induction r with
 |nil=>exact .nil
 |cons r _ g=>exact .cons (f _ _ r) g
theorem cm.stay(x:cm P w H h a o)(k:∀b u,(b=a\/H b=aa (.own a))->h.get? b=aa u->i.get? b=aa u)(M:∀b,H b=aa (.own a)->j b=aa (.own a)) (K:∀b xs,H b=aa (.tup xs)->j b=aa (.tup xs)):cm P w j i a o:=by
 induction o with
 |lst xs=>obtain⟨z,A,n,r,e⟩:=x;exact⟨z,A,n,r,k _ _ (.inl rfl) e⟩
 |tup xs=>obtain⟨z,A,r,⟨l,e,c⟩,T,D,N⟩:=x;exact⟨z,A,r,⟨l,k _ _ (.inl rfl) e,c⟩,T,k _ _ (.inl rfl) D,N⟩
 |dK B=>obtain⟨z,y,F,r,l,m,s,e,c⟩:=x;exact⟨z,y,F,r,l,m,s,k _ _ (.inl rfl) e,c⟩
 |dT B=>obtain⟨z,y,xs,r,l,m,s,e,c⟩:=x;exact⟨z,y,xs,Paired.mapP r λp q z=>⟨z.1,K _ _ z.2.1,z.2.2⟩,l,m,s,k _ _ (.inl rfl) e,c⟩
 |dN B=>obtain⟨z,y,xs,r,l,m,s,e,c⟩:=x;exact⟨z,y,xs,Paired.mapP r λp q z=>⟨z.1,(let ⟨b,E,h2⟩:=z.2.1;⟨b,K _ _ E,K _ _ h2⟩),z.2.2⟩,l,m,s,k _ _ (.inl rfl) e,c⟩
 |set S n=>obtain⟨l,m,s,t,e,c⟩:=x;exact⟨l,m,s,t,k _ _ (.inl rfl) e,c⟩
 |ins C dx fs=>obtain⟨d,z,W,e,J,⟨I,m,s,D,c⟩,r⟩:=x;exact⟨M _ d,z,W,k _ _ (.inl rfl) e,J,⟨I,m,s,k _ _ (.inr d) D,c⟩,r⟩
 |own y=>obtain⟨l,e⟩:=x;exact⟨l,k _ _ (.inl rfl) e⟩
 |xd fs=>obtain⟨J,⟨I,m,s,e,c⟩,r⟩:=x;exact⟨J,⟨I,m,s,k _ _ (.inl rfl) e,c⟩,r⟩
 |rng lo hi=>obtain⟨t,u,v,e⟩:=x;exact⟨t,u,v,k _ _ (.inl rfl) e⟩
 |frz l u X=>obtain⟨e,q⟩:=x;exact⟨k _ _ (.inl rfl) e,X q⟩
 |tbl q=>
  obtain⟨Q,e,t,g⟩:=x;refine⟨Q,k a _ (.inl rfl) e,t,λG cv Y=>?_⟩;obtain⟨c,rfl,E,N,o,F,O,D,Z,r⟩:=g G cv Y;cases D;exact⟨c,rfl,M c E,c,o,F,O,rfl,k c _ (.inr E) Z,r⟩
 |met f y=>have e:h.get? a=aa (IP (.ref f) (.ref y)):=x;show i.get? a=aa (IP (.ref f) (.ref y));exact k a _ (.inl rfl) e
 |ext φ=>obtain⟨p,⟨o,e⟩,L⟩:=x;exact⟨L _ _ p λo q=>k _ _ (.inl rfl) q,⟨o,k _ _ (.inl rfl) e⟩,L⟩
theorem cX.lt(x:cX P w H h)(e:H a=aa o):a<h.objs.size:=(x a o e).lt
theorem cX.fresh(x:cX P w H h)(e:h.objs.size<=a):H a=ae:=by
 cases q:H a with
 |none=>rfl
 |some u=>exact absurd (gH (x.lt q) e) (eV _)
theorem cX.kept(x:cX P w H h)(k:∀b u,h.get? b=aa u->i.get? b=aa u):cX P w H i:=λa o e=>(x a o e).stay (λb u _ q=>k b u q) (λ_ q=>q) λ_ _ q=>q
theorem cX.laid(x:cX P w H h)(k:∀b u,h.get? b=aa u->i.get? b=aa u)(g:h.objs.size<=a)(new:cm P w (upd H a o) i a o):cX P w (upd H a o) i:=λb u e=>by
 have d:=x.fresh g;by_cases f:b=a
 .subst f;rw[bV]at e;cases e;exact new
 .rw[bO f]at e;exact(x b u e).stay (λc v _ q=>k c v q) (λc q=>by rw[bO (kt q d)];exact q) λc xs q=>by rw[bO (kt q d)];exact q
end
def Rd(H:Hp)(a:af)(u:HO):Prop:=H a=aa u\/∃o,H a=aa (.frz o u)
theorem Rd.ok{P:aO}{w:aG}{H:Hp}{h:az}{a:af}{u:HO}(r:Rd H a u)(x:cX P w H h):cm P w H h a u:=by
 rcases r with r|⟨o,r⟩
 .exact x a u r
 .obtain⟨_,q⟩:=x a _ r;exact q
def uZ:Option HO->Prop
 |some (.lst _)=>True
 |some (.dK _)=>True
 |some (.dT _)=>True
 |some (.dN _)=>True
 |some (.set _ _)=>True
 |some (.ins _ _ _)=>True
 |some (.ext _)=>True
 |_=>False
section
variable{P:aO}{w:aG}{H:Hp}{h a:az}{x e:af}{d:HO}
theorem cX.write(ok:cX P w H h)(i:uZ (H x))(o:e=x\/H e=aa (.own x))(k:∀b u,b≠e->h.get? b=aa u->a.get? b=aa u)(p:∃u,a.get? e=aa u)(new:cm P w (upd H x d) a x d):cX P w (upd H x d) a:=λb u q=>by
 have f:∀c y,H c=aa (.own y)->c≠x:=λc y r z=>by subst z;rw[r]at i;exact i
 have g:∀c xs,H c=aa (.tup xs)->c≠x:=λc xs r z=>by subst z;rw[r]at i;exact i
 by_cases m:b=x
 .subst m;rw[bV]at q;cases q;exact new
 .rw[bO m]at q;by_cases j:b=e
  .have n:H b=aa (.own x):=by
    rcases o with z|z
    .exact absurd (j.trans z) m
    .rw[j];exact z
   rw[q]at n;cases n;obtain⟨v,s⟩:=p;exact⟨v,by rw[j];exact s⟩
  .refine(ok b u q).stay (λc v l r=>k c v ?_ r) (λc r=>by rw[bO (f c b r)];exact r) λc xs r=>by rw[bO (g c xs r)];exact r
   rcases l with rfl|l
   .exact j
   .rintro rfl;rcases o with z|z
    .exact f c b l z
    .rw[l]at z;cases z;exact m rfl
end
structure Un(fs ex:List af)(H H':Hp)(h h':az):Prop where
 keep:∀b o,h.get? b=aa o->H b=ae->b∉fs->b∉ex->h'.get? b=aa o
 slot:∀b o,h.get? b=aa o->H b=ae->b∈fs->b∉ex->∃sl,h'.get? b=aa {o with slots:=sl}
 free:∀b o,h.get? b=aa o->H b=ae->b∉ex->H' b=ae
 there:∀b o,h.get? b=aa o->b∉ex->∃o',h'.get? b=aa o'
 tups:∀b xs,H b=aa (.tup xs)->H' b=aa (.tup xs)
 frzs:∀b o u,H b=aa (.frz o u)->H' b=aa (.frz o u)
 tbls:∀b q,H b=aa (.tbl q)->H' b=aa (.tbl q)
section
variable{fs d ex f:List af}{H g j:Hp}{h c i h':az}{a x e:af}{o:HO}
theorem Un.any(u:Un fs ex H g h c){b:af}{l:Obj}(q:h.get? b=aa l)(n:H b=ae)(m:b∉ex):∃r,c.get? b=aa {l with slots:=r}:=by
 by_cases p:b∈fs
 .exact u.slot b l q n p m
 .exact⟨l.slots,u.keep b l q n p m⟩
theorem Un.kept(k:∀b u,h.get? b=aa u->h'.get? b=aa u):Un fs ex H H h h' :=⟨λb l q _ _ _=>k b l q,λb l q _ _ _=>⟨l.slots,k b l q⟩,λ_ _ _ n _=>n,λb l q _=>⟨l,k b l q⟩,λ_ _ q=>q,λ_ _ _ q=>q,λ_ _ q=>q⟩
theorem Un.refl:Un fs ex H H h h:=Un.kept λ_ _ q=>q
theorem Un.laid(k:∀b u,h.get? b=aa u->h'.get? b=aa u)(m:h.objs.size<=a)(l:H a=ae):Un fs ex H (upd H a o) h h' where
 keep:=λb u q _ _ _=>k b u q
 slot:=λb u q _ _ _=>⟨u.slots,k b u q⟩
 free:=λb u q n _=>by rw[bO (cR (gH (bz q) m))];exact n
 there:=λb u q _=>⟨u,k b u q⟩
 tups:=λb xs q=>by rw[bO (kt q l)];exact q
 frzs:=λb u xs q=>by rw[bO (kt q l)];exact q
 tbls:=λb p q=>by rw[bO (kt q l)];exact q
theorem Un.write(l:uZ (H x))(A:e=x\/H e=aa (.own x))(k:∀b u,b≠e->h.get? b=aa u->h'.get? b=aa u)(w:∃u,h'.get? e=aa u):Un fs ex H (upd H x o) h h':=by
 have s:∀b,H b=ae->b≠x:=λb n z=>by subst z;rw[n]at l;exact l
 have v:∀b,H b=ae->b≠e:=λb n z=>by
  subst z;rcases A with r|r
  .exact s b n r
  .rw[n]at r;cases r
 have m:∀b u,H b=aa u->¬uZ (aa u)->b≠x:=λb u q y z=>by subst z;rw[q]at l;exact y l
 refine⟨λb u q n _ _=>k b u (v b n) q,λb u q n _ _=>⟨u.slots,k b u (v b n) q⟩,λb u q n _=>by rw[bO (s b n)];exact n,λb u q _=>?_,
  λb xs q=>by rw[bO (m b _ q λz=>z)];exact q,λb u xs q=>by rw[bO (m b _ q λz=>z)];exact q,λb B q=>by rw[bO (m b _ q λz=>z)];exact q⟩
 by_cases p:b=e
 .subst p;exact w
 .exact⟨u,k b u p q⟩
end
def yM(h:az)(H:Hp):List af:=(cq h.objs.size).filter λa=>(H a).isSome
def nq(h:az)(H:Hp):az:=PySem.W.hideAll h (yM h H)
theorem Kk(h:az)(H:Hp):(nq h H).objs.size=h.objs.size:=PySem.W.hideAll_size _ _
theorem Oy{h:az}{H:Hp}{b:af}{o:Obj}(e:h.get? b=aa o)(n:H b=ae):(nq h H).get? b=aa o :=PySem.W.hideAll_get _ e λa=>by have q:(H b).isSome=ag:=(ka.mp a).2;rw[n]at q;simp at q
theorem Tq{h:az}{H:Hp}{b:af}{o:Obj}(e:(nq h H).get? b=aa o):h.get? b=aa o/\H b=ae:=by
 have a:h.get? b=aa o:=PySem.W.of_hideAll (yM h H) e;refine⟨a,?_⟩;cases q:H b with
 |none=>rfl
 |some x=>
  have c:b∈yM h H:=ka.mpr ⟨kK.mpr (bz a),by simp[q]⟩;have z:(nq h H).get? b=ae:=PySem.W.hideAll_none (yM h H) c;rw[z]at e;cases e
def Qv(g h:az)(L:af):List (af×Obj):=(cq h.objs.size).filterMap λa=>if a=L\/(g.get? a).isSome=ag then ae else(h.get? a).map λo=>(a,o)
def rest(g h:az)(L d:af):List (af×Obj):=(Qv g h L).filter λp=>decide (p.1≠d)
structure Mod(K:ay)(mg:Str->Option ai)(base:az):Prop where
 kin:K.In base
 glob:base.Ns bW mg
 blt:∃mb,base.Ns qw mb/\∀x:Str,x≠"__name__"->mb x=eA x
 nolimit:base.NoLimit
 bm:∃bm ob,mg "__builtins__"=aa (.ref bm)/\bm≠qw/\base.get? bm=aa ob/\ob.cls=.type "module"/\ob.dict=aa qw/\ob.data=.plain
set_option genInjectivity false in
structure Cx where
 prog:aO
 w:aG
 K:ay
 mg:Str->Option ai
 base:az
 A:aR
 N:List Str
 s₀:ao
 H₀:Hp
 env:Env
 outer:List Env
 stack:List Env
 ex:List af
 fn:Str->Bool
 calm:Bool
 pn:List (af×Obj)
 xe:ai->ao->Prop
def fo(l:List Env):List af:=l.filterMap (·.frame)
abbrev Cx.fs(X:Cx):List af:=fo X.outer
def eR(a:eB)(x:Str):Prop:=a.names.lookup x=aa .local\/a.names.lookup x=aa .cell\/a.names.lookup x=aa .free
def Loc(a:eB)(x:Str):Prop:=a.names.lookup x=aa .local\/a.names.lookup x=aa .cell
def Look(a:Env)(h:az)(m:Str->Option ai)(x:Str)(u:ai):Prop :=(a.kindOf x=aa .local/\m x=aa u)\/((a.kindOf x=aa .cell\/a.kindOf x=aa .free)/\∃c,a.cells.lookup x=aa c/\h.IsCell c (aa u))
def Co:List Str:=["least_ending"]
def xI(K:ay)(H:Hp):Prop:=∀x∈Co,∀c P,qx K x=aa (c,P)->H P=aa (.tbl (x++".<locals>.<lambda>"))
set_option genInjectivity false in
structure Cx.Ok(X:Cx):Prop where
 mod:Mod X.K X.mg X.base
 kind:X.env.scope.kind=.function
 glob:X.env.globals=bW
 blt:X.env.builtins=qw
 above:X.s₀.heap.objs.size<=X.env.locals
 inj:∀x y c,X.env.cells.lookup x=aa c->X.env.cells.lookup y=aa c->x=y
 has:∀x,(X.env.kindOf x=aa .cell\/X.env.kindOf x=aa .free)->∃c,X.env.cells.lookup x=aa c
 cab:∀x c,X.fn x=ag->X.env.cells.lookup x=aa c->X.s₀.heap.objs.size<=c
 hd:X.calm=ag->X.A.handled=ae
 frames:X.A.frames=aa X.stack
 stk:X.stack=X.outer\/(X.stack=X.env::X.outer/\X.env.frame=aa X.env.locals)
 exf:∀b∈X.ex,b≠X.env.locals/\∀x c,X.env.cells.lookup x=aa c->c≠b
 bs:∀b o,X.base.get? b=aa o->X.s₀.heap.get? b=aa o/\X.H₀ b=ae
 bsz:X.base.objs.size<=X.s₀.heap.objs.size
 noex:∀b o,X.base.get? b=aa o->b∉X.ex
 exfs:∀b∈X.ex,b∉X.fs
 funs:X.s₀.heap.FunFrames X.base X.outer
 frf:∀b∈X.fs,X.H₀ b=ae
 tab:xI X.K X.H₀
structure Inv(X:Cx)(ah:List (af×Obj))(σ:List (Option V))(H:Hp)(s:ao):Prop where
 ok:X.Ok
 os:s.os=X.s₀.os
 bare:nG s.gens
 base:Un X.fs X.ex X.H₀ H X.s₀.heap s.heap
 loc:∃m,s.heap.Ns X.env.locals m/\∀(i:Nat) (x:Str) (v:V),X.N[i]?=aa x->σ[i]?=aa (aa v)->eR X.env.scope x->∃u,RelV v u/\Look X.env s.heap m x u
 cell:∀x c,X.env.cells.lookup x=aa c->∃v,s.heap.IsCell c v
 free:H X.env.locals=ae
 freeC:∀x c,X.env.cells.lookup x=aa c->H c=ae
 pin:∀p∈X.pn++ah,s.heap.get? p.1=aa p.2/\H p.1=ae/\p.1≠X.env.locals/\p.1∉X.fs/\∀v,p.2.data≠.cell v
 hok:cX X.prog X.w H s.heap
 len:σ.length=X.N.length
section
variable{X:Cx}{f:List (af×Obj)}{g:List (Option V)}{H w:Hp}{s:ao}{h':az}
theorem Cx.Ok.nofr(ok:X.Ok){b:af}{o:Obj}(e:X.base.get? b=aa o):b∉X.fs:=λa=>by
 have:=(ok.funs.mem a).1;rw[e]at this;cases this
theorem Inv.bs(I:Inv X f g H s):∀b o,X.base.get? b=aa o->s.heap.get? b=aa o/\H b=ae:=λb o e=>⟨I.base.keep b o (I.ok.bs b o e).1 (I.ok.bs b o e).2 (I.ok.nofr e) (I.ok.noex b o e),I.base.free b o (I.ok.bs b o e).1 (I.ok.bs b o e).2 (I.ok.noex b o e)⟩
theorem Inv.bk(I:Inv X f g H s):∀b o,X.base.get? b=aa o->s.heap.get? b=aa o:=λb o e=>(I.bs b o e).1
theorem Inv.mod(I:Inv X f g H s):Mod X.K X.mg X.base:=I.ok.mod
theorem Inv.kIn(I:Inv X f g H s):X.K.In s.heap:=I.ok.mod.kin.keeps I.bk
theorem Inv.lt(I:Inv X f g H s):X.env.locals<s.heap.objs.size:=let ⟨_,hn,_⟩:=I.loc;hn.lt
theorem Inv.sz(I:Inv X f g H s):X.s₀.heap.objs.size<=s.heap.objs.size:=cM I.ok.above (i7 I.lt)
theorem Inv.nofs(I:Inv X f g H s){a:af}(h:s.heap.objs.size<=a):a∉X.fs:=λc=>by obtain⟨_,o,b,_⟩:=I.ok.funs.mem c;exact absurd (gH (bz b) (cM I.sz h)) (eV _)
theorem Inv.cne(I:Inv X f g H s):∀x c,X.env.cells.lookup x=aa c->c≠X.env.locals:=λx c e z=>by
 obtain⟨v,o,a,b⟩:=I.cell x c e;obtain⟨m,⟨i,j,l,h,d,_⟩,_⟩:=I.loc;rw[z,h]at a;cases a;rw[d]at b;cases b
theorem Inv.tab(I:Inv X f g H s):xI X.K H:=λx a c P h=>I.base.tbls P _ (I.ok.tab x a c P h)
theorem Inv.funs(I:Inv X f g H s):s.heap.FunFrames X.base X.outer:=by
 have all:∀(l:List Env),(∀b∈fo l,b∈X.fs)->X.s₀.heap.FunFrames X.base l->s.heap.FunFrames X.base l:=by
  intro l
  induction l with
  |nil=>intro _ _;trivial
  |cons v r i=>intro h p;obtain⟨q,⟨L,o,a,n,m,u⟩,j⟩:=p;have d:L∈X.fs:=h L (by unfold fo;rw[mz,a];exact eC);obtain⟨x,e⟩:=I.base.slot L o m (I.ok.frf L d) d λz=>I.ok.exfs L z d;exact⟨q,⟨L,_,a,n,e,u⟩,i (λb c=>h b (by unfold fo;rw[mz,a];exact dy _ c)) j⟩
 exact all X.outer (λ_ c=>c) I.ok.funs
theorem Inv.stack(I:Inv X f g H s):s.heap.FunFrames X.base X.stack:=by
 rcases I.ok.stk with e|⟨e,b⟩
 .rw[e];exact I.funs
 .rw[e];obtain⟨m,a,_⟩:=I.loc;refine .cons (by rw[I.ok.kind];decide) b a ?_ I.funs;exact CI (cM I.ok.bsz I.ok.above)
theorem Inv.stkSub(I:Inv X f g H s):∀b∈fo X.stack,b∈X.env.locals::X.fs:=λb a=>by
 rcases I.ok.stk with e|⟨e,c⟩
 .rw[e]at a;exact dy _ a
 .rw[e]at a;unfold fo at a;rw[mz,c]at a;exact a
theorem Inv.stkFree(I:Inv X f g H s):∀b∈fo X.stack,H b=ae:=λb a=>by
 rcases bo.mp (I.stkSub b a)with e|a
 .rw[e];exact I.free
 .obtain⟨_,o,c,_⟩:=I.ok.funs.mem a;exact I.base.free b o c (I.ok.frf b a) λz=>I.ok.exfs b z a
theorem Inv.step{g':Array GenState}{t':Nat}{d':Drawn}{ch:List af}(I:Inv X f g H s)(L:∀b∈ch,(b∈X.ex\/X.s₀.heap.objs.size<=b)/\b≠X.env.locals/\(∀x c,X.env.cells.lookup x=aa c->c≠b)/\∀p∈X.pn++f,p.1≠b)(keep:∀b o,b≠X.env.locals->b∉X.fs->b∉ch->s.heap.get? b=aa o->H b=ae->h'.get? b=aa o)(A:∀b o,b≠X.env.locals->b∈X.fs->b∉ch->s.heap.get? b=aa o->H b=ae->∃O,h'.get? b=aa {o with slots:=O}) (free:∀b o,b∉ch->s.heap.get? b=aa o->H b=ae->w b=ae)(B:∀b o,b∉ch->s.heap.get? b=aa o->∃J,h'.get? b=aa J)(F:∀b xs,H b=aa (.tup xs)->w b=aa (.tup xs)) (M:∀b o u,H b=aa (.frz o u)->w b=aa (.frz o u)) (G:∀b q,H b=aa (.tbl q)->w b=aa (.tbl q))(ns:∀m,s.heap.Ns X.env.locals m->h'.Ns X.env.locals m) (P:cX X.prog X.w w h') (hg:nG g'):Inv X f g w {s with heap:=h',gens:=g',drawn:=d',toks:=t'}:=by
 have K:∀b o,X.s₀.heap.get? b=aa o->b≠X.env.locals:=λb o e=>cR (gH (bz e) I.ok.above);have y:∀b o,X.s₀.heap.get? b=aa o->b∉X.ex->b∉ch:=λb o e a C=>by
  rcases(L b C).1 with z|z
  .exact a z
  .exact absurd (gH (bz e) z) (eV _)
 have j:∀x c,X.env.cells.lookup x=aa c->∀v,s.heap.IsCell c v->h'.IsCell c v:=λx c e v ⟨o,E,Q⟩=>by
  have h:c∉ch:=λz=>(L c z).2.2.1 x c e rfl;by_cases Z:c∈X.fs
  .obtain⟨O,q⟩:=A c o (I.cne x c e) Z h E (I.freeC x c e);exact⟨_,q,Q⟩
  .exact⟨o,keep c o (I.cne x c e) Z h E (I.freeC x c e),Q⟩
 refine⟨I.ok,I.os,hg,⟨λb o e n C a=>?_,λb o e n C a=>?_,λb o e n a=>?_,λb o e a=>?_,λb xs e=>F b xs (I.base.tups b xs e),λb o xs e=>M b o xs (I.base.frzs b o xs e),λb ps e=>?_⟩,?_,λx c e=>?_,?_,λx c e=>?_,λp Y=>?_,P,I.len⟩
 .exact keep b o (K b o e) C (y b o e a) (I.base.keep b o e n C a) (I.base.free b o e n a)
 .obtain⟨O,D⟩:=I.base.slot b o e n C a;obtain⟨N,S⟩:=A b _ (K b o e) C (y b o e a) D (I.base.free b o e n a);exact⟨N,S⟩
 .obtain⟨J,D⟩:=I.base.there b o e a;exact free b J (y b o e a) D (I.base.free b o e n a)
 .obtain⟨J,D⟩:=I.base.there b o e a;exact B b J (y b o e a) D
 .exact G b _ (I.base.tbls b ps e)
 .obtain⟨m,hn,hl⟩:=I.loc;refine⟨m,ns m hn,λi x v D S e3=>?_⟩;obtain⟨u,r,l⟩:=hl i x v D S e3;refine⟨u,r,?_⟩;rcases l with l|⟨k,c,e,z⟩
  .exact .inl l
  .exact .inr ⟨k,c,e,j x c e _ z⟩
 .obtain⟨v,z⟩:=I.cell x c e;exact⟨v,j x c e v z⟩
 .obtain⟨m,⟨o,_,_,E,_⟩,_⟩:=I.loc;exact free _ o (λz=>(L _ z).2.1 rfl) E I.free
 .obtain⟨v,o,E,Q⟩:=I.cell x c e;exact free c o (λz=>(L c z).2.2.1 x c e rfl) E (I.freeC x c e)
 .obtain⟨e,n,W,T,d⟩:=I.pin p Y;have h:p.1∉ch:=λz=>(L p.1 z).2.2.2 p Y rfl;exact⟨keep p.1 p.2 W T h e n,free p.1 p.2 h e n,W,T,d⟩
theorem Inv.un{t':Nat}(I:Inv X f g H s)(u:Un X.fs [] H w s.heap h')(a:cX X.prog X.w w h'):Inv X f g w {s with heap:=h',toks:=t'}:=by
 obtain⟨m,⟨o,A,B,i,r⟩,_⟩:=id I.loc;obtain⟨v,q⟩:=u.any i I.free (by simp);exact I.step (g':=s.gens) (d':=s.drawn) (ch:=[]) (λ_ z=>nomatch z) (λb o _ c _ e n=>u.keep b o e n c (by simp)) (λb o _ c _ e n=>u.slot b o e n c (by simp)) (λb o _ e n=>u.free b o e n (by simp)) (λb o _ e=>u.there b o e (by simp)) u.tups u.frzs u.tbls (λy p=>by
  obtain⟨x,d,h,j,l⟩:=p;rw[i]at j;cases j;exact⟨_,d,h,q,l⟩) a I.bare
theorem Inv.call{g':Array GenState}{t':Nat}{d':Drawn}{ch:List af}(I:Inv X f g H s)(u:Un (fo X.stack) ch H w s.heap h')(d:cX X.prog X.w w h')(B:nG g')(l:∀b∈ch,(b∈X.ex\/X.s₀.heap.objs.size<=b)/\b≠X.env.locals/\(∀x c,X.env.cells.lookup x=aa c->c≠b)/\∀p∈X.pn++f,p.1≠b):Inv X f g w {s with heap:=h',gens:=g',drawn:=d',toks:=t'}:=by
 obtain⟨m,⟨o,G,J,q,r⟩,_⟩:=id I.loc;obtain⟨D,h⟩:=u.any q I.free λz=>(l _ z).2.1 rfl;exact I.step (ch:=ch) l (λb o h C a e n=>u.keep b o e n (λz=>(bo.mp (I.stkSub b z)).elim h C) a) (λb o _ _ a e n=>u.any e n a) (λb o a e n=>u.free b o e n a) (λb o a e=>u.there b o e a) u.tups u.frzs u.tbls (λF A=>by
  obtain⟨E,i,j,v,y⟩:=A;rw[q]at v;cases v;exact⟨_,i,j,h,y⟩) d B
theorem Inv.turned{t':Nat}{it:af}(I:Inv X f g H s)(k:∀b o,b≠it->s.heap.get? b=aa o->h'.get? b=aa o)(j:H it=ae)(h:it≠X.env.locals)(C:it∈X.ex\/X.s₀.heap.objs.size<=it) (B:∀x c,X.env.cells.lookup x=aa c->c≠it) (A:∀p∈X.pn++f,p.1≠it):Inv X f g H {s with heap:=h',toks:=t'}:=by
 have d:∀b u,H b=aa u->b≠it:=λb u e z=>by rw[z,j]at e;cases e
 refine I.step (g':=s.gens) (d':=s.drawn) (ch:=[it]) (λb y=>?_) (λb o _ _ a e _=>k b o (λz=>a (by simp[z])) e) (λb o _ _ a e _=>⟨o.slots,k b o (λz=>a (by simp[z])) e⟩) (λ_ _ _ _ n=>n)
  (λb o a e=>⟨o,k b o (λz=>a (by simp[z])) e⟩) (λ_ _ e=>e) (λ_ _ _ e=>e) (λ_ _ e=>e) (λm l=>?_) (λb u e=>?_) I.bare
 .have e:b=it:=by simpa using y
  subst e;exact⟨C,h,B,A⟩
 .obtain⟨o,D,E,i,r⟩:=l;exact⟨o,D,E,k _ o (eO h) i,r⟩
 .refine(I.hok b u e).stay (λc v a q=>k c v ?_ q) (λ_ q=>q) λ_ _ q=>q;rcases a with z|z
  .rw[z];exact d b u e
  .exact d c _ z
theorem Inv.tok(I:Inv X f g H s)(t:Nat):Inv X f g H {s with toks:=t}:=I.un (h':=s.heap) (t':=t) Un.refl I.hok
theorem Inv.kept{t':Nat}(I:Inv X f g H s)(k:∀b u,s.heap.get? b=aa u->h'.get? b=aa u):Inv X f g H {s with heap:=h',toks:=t'}:=I.un (Un.kept k) (I.hok.kept k)
theorem Inv.laid{a:af}{o:HO}{t':Nat}(I:Inv X f g H s)(k:∀b u,s.heap.get? b=aa u->h'.get? b=aa u)(c:s.heap.objs.size<=a)(new:cm X.prog X.w (upd H a o) h' a o):Inv X f g (upd H a o) {s with heap:=h',toks:=t'}:=I.un (Un.laid k c (I.hok.fresh c)) (I.hok.laid k c new)
theorem Inv.write{x e:af}{o:HO}{h:Nat}(I:Inv X f g H s)(c:uZ (H x))(d:e=x\/H e=aa (.own x))(k:∀b u,b≠e->s.heap.get? b=aa u->h'.get? b=aa u)(a:∃u,h'.get? e=aa u)(new:cm X.prog X.w (upd H x o) h' x o):Inv X f g (upd H x o) {s with heap:=h',toks:=h}:=I.un (Un.write c d k a) (I.hok.write c d k a new)
theorem Inv.pins_of{a:List (af×Obj)}(I:Inv X f g H s)(h:∀p∈a,s.heap.get? p.1=aa p.2/\H p.1=ae/\p.1≠X.env.locals/\p.1∉X.fs/\∀v,p.2.data≠.cell v):Inv X a g H s :=⟨I.ok,I.os,I.bare,I.base,I.loc,I.cell,I.free,I.freeC,λp b=>(fO.mp b).elim (λz=>I.pin p (zr _ z)) (h p),I.hok,I.len⟩
theorem Av{N:List Str}(c:N.Nodup){i j:Nat}{x:Str}(a:N[i]?=aa x)(b:N[j]?=aa x):i=j:=by obtain⟨m,h⟩:=c9.mp a;obtain⟨l,d⟩:=c9.mp b;exact(List.getElem_inj c).mp (h.trans d.symm)
theorem Hz{M:Model}{A:aR}{E:ai->ao->Prop}{i:Nat}{x:Str}{v:V}{u:ai}{Q:Unit->ao->Prop}(I:Inv X f g H s)(hN:X.N.Nodup)(T:X.N[i]?=aa x)(F:Loc X.env.scope x)(r:RelV v u)(h:∀s',Inv X f (g.set i (aa v)) H s'->(∃a,kb a s.heap s'.heap/\(a=X.env.locals\/X.env.cells.lookup x=aa a))->Q () s') (hf:X.fn x=ag\/X.env.scope.names.lookup x=aa .local:=by first|exact .inl rfl|exact .inr rfl|assumption):ar M A (storeName X.env x u) Q E s:=by
 obtain⟨m,hn,hl⟩:=id I.loc;have oh:(X.env.scope.kind == .class||(X.env.scope.kind == .module&&X.env.locals != X.env.globals))=am:=by rw[I.ok.kind];rfl
 have K:i<g.length:=by rw[I.len];exact(c9.mp T).1
 have cne:=I.cne;have B:∀{a:af}{h':az},(∃o,s.heap.get? a=aa o/\H a=ae)->kb a s.heap h'->cX X.prog X.w H h':=λ{a h'} ha l b ob e=>by
  obtain⟨_,_,wD⟩:=ha;refine(I.hok b ob e).stay (λc W D q=>(l.2 c ?_).trans q) (λ_ q=>q) λ_ _ q=>q;rintro rfl;rcases D with rfl|D
  .rw[wD]at e;cases e
  .rw[wD]at D;cases D
 rcases F with J|J
 .refine wpAny_storeName_local J hn (λh' hn' l=>?_) oh;obtain⟨oL,_,_,mT,_⟩:=id hn;refine h _ ⟨I.ok,I.os,I.bare,⟨λb o e n O F=>?_,λb o e n O F=>?_,I.base.free,λb o e F=>?_,I.base.tups,I.base.frzs,I.base.tbls⟩,⟨_,hn',λj y v' C G e3=>?_⟩,λy c e=>?_,I.free,I.freeC,λp hp=>?_,B ⟨oL,mT,I.free⟩ l,by simpa using I.len⟩ ⟨_,l,.inl rfl⟩
  .exact(l.2 b (cR (gH (bz e) I.ok.above))).trans (I.base.keep b o e n O F)
  .obtain⟨sl,C⟩:=I.base.slot b o e n O F;exact⟨sl,(l.2 b (cR (gH (bz e) I.ok.above))).trans C⟩
  .obtain⟨o',C⟩:=I.base.there b o e F;exact⟨o',(l.2 b (cR (gH (bz e) I.ok.above))).trans C⟩
  .by_cases L:j=i
   .subst L;rw[T]at C;cases C;rw[gi K]at G;cases G;exact⟨u,r,.inl ⟨J,by simp⟩⟩
   .rw[eD (eO L)]at G;obtain⟨u',r',q⟩:=hl j y v' C G e3;refine⟨u',r',?_⟩;rcases q with⟨k,e⟩|⟨k,c,e,z⟩
    .refine .inl ⟨k,?_⟩;have:y≠x:=λe=>L (Av hN C (e ▸ T));simp[this,e]
    .exact .inr ⟨k,c,e,z.sameBut l (cne y c e)⟩
  .obtain⟨W,z⟩:=I.cell y c e;exact⟨W,z.sameBut l (cne y c e)⟩
  .obtain⟨e,n,Y,nf,d⟩:=I.pin p hp;exact⟨(l.2 p.1 Y).trans e,n,Y,nf,d⟩
 .have N:X.fn x=ag:=by
   rcases hf with z|z
   .exact z
   .rw[z]at J;cases J
  obtain⟨c,D⟩:=I.ok.has x (.inl J);obtain⟨W,z⟩:=I.cell x c D;refine wpAny_storeName_cell I.ok.kind J D z (λh' jw l=>?_);obtain⟨oc,S,P⟩:=id z;refine h {s with heap:=h'} ⟨I.ok,I.os,I.bare,⟨λb o e n O F=>?_,λb o e n O F=>?_,I.base.free,λb o e F=>?_,I.base.tups,I.base.frzs,I.base.tbls⟩,⟨m,hn.sameBut l (eO (cne x c D)),λj y v' C G e3=>?_⟩,λy Z e=>?_,I.free,I.freeC,λp hp=>?_,B ⟨oc,S,I.freeC x c D⟩ l,by simpa using I.len⟩ ⟨c,l,.inr D⟩
  .exact(l.2 b (cR (gH (bz e) (I.ok.cab x c N D)))).trans (I.base.keep b o e n O F)
  .obtain⟨sl,C⟩:=I.base.slot b o e n O F;exact⟨sl,(l.2 b (cR (gH (bz e) (I.ok.cab x c N D)))).trans C⟩
  .obtain⟨o',C⟩:=I.base.there b o e F;exact⟨o',(l.2 b (cR (gH (bz e) (I.ok.cab x c N D)))).trans C⟩
  .by_cases L:j=i
   .subst L;rw[T]at C;cases C;rw[gi K]at G;cases G;exact⟨u,r,.inr ⟨.inl J,c,D,jw⟩⟩
   .rw[eD (eO L)]at G;obtain⟨u',r',q⟩:=hl j y v' C G e3;refine⟨u',r',?_⟩;rcases q with q|⟨k,Z,e,z'⟩
    .exact .inl q
    .refine .inr ⟨k,Z,e,z'.sameBut l ?_⟩;rintro rfl;exact L (Av hN C (I.ok.inj _ _ _ e D ▸ T))
  .by_cases qX:Z=c
   .subst qX;exact⟨_,jw⟩
   .obtain⟨w2,z2⟩:=I.cell y Z e;exact⟨w2,z2.sameBut l qX⟩
  .obtain⟨e,n,Y,nf,d⟩:=I.pin p hp;refine⟨(l.2 p.1 ?_).trans e,n,Y,nf,d⟩;intro q;rw[q,S]at e;have q':oc=p.2:=c8 e;exact d W (by rw[<-q'];exact P)
theorem yK{M:Model}{A:aR}{E:ai->ao->Prop}{i:Nat}{x:Str}{v:V}{u:ai}{Q:Unit->ao->Prop}(I:Inv X f g H s)(d:X.N.Nodup)(b:X.N[i]?=aa x)(a:Loc X.env.scope x)(r:RelV v u)(h:∀s',Inv X f (g.set i (aa v)) H s'->Q () s') (c:X.fn x=ag\/X.env.scope.names.lookup x=aa .local:=by first|exact .inl rfl|exact .inr rfl|assumption):ar M A (storeName X.env x u) Q E s :=Hz I d b a r (λs' j _=>h s' j) c
theorem Inv.call'{s':ao}{ch:List af}(I:Inv X f g H s)(i:s'.os=s.os)(u:Un (fo X.stack) ch H w s.heap s'.heap)(a:cX X.prog X.w w s'.heap)(j:nG s'.gens)(h:∀b∈ch,(b∈X.ex\/X.s₀.heap.objs.size<=b)/\b≠X.env.locals/\(∀x c,X.env.cells.lookup x=aa c->c≠b)/\∀p∈X.pn++f,p.1≠b):Inv X f g w s':=by obtain⟨h',g',d',t',d⟩:=s';have e:d=s.os:=i;subst e;exact I.call (g':=g') (t':=t') (d':=d') u a j h
end
abbrev XK:=ai->Option af->Hp->Prop
abbrev St:=List (Option V)
abbrev VK:=V->Hp->Prop
abbrev TE:=St->Hp->VK->Prop
abbrev TT:=St->Hp->(Bool->Hp->Prop)->Prop
abbrev TA:=St->Hp->(List V->Hp->Prop)->Prop
structure kE where
 nx:St->Hp->Prop
 rt:VK
 bk:St->Hp->Prop:=λ_ _=>False
 ct:St->Hp->Prop:=λ_ _=>False
abbrev TS:=kE->St->Hp->Prop
def EP(X:Cx)(d:List (af×Obj))(b:St)(Q:VK)(u:ai)(c:ao):Prop:=∃v a,Inv X d b a c/\RelV v u/\Q v a
def TP(X:Cx)(f:List (af×Obj))(c:St)(Q:Bool->Hp->Prop)(b:Bool)(d:ao):Prop:=∃a,Inv X f c a d/\Q b a
def AP(X:Cx)(g:List (af×Obj))(c:St)(Q:List V->Hp->Prop)(d:List ai)(f:ao):Prop:=∃a b,Inv X g c b f/\bj a d/\Q a b
def SP(X:Cx)(c:List (af×Obj))(D:kE)(f:Flow)(s':ao):Prop :=
 match f with
 |.next=>∃a b,Inv X c a b s'/\D.nx a b
 |.brk=>∃a b,Inv X c a b s'/\D.bk a b
 |.cont=>∃a b,Inv X c a b s'/\D.ct a b
 |.ret u=>∃v a b,Inv X c a b s'/\RelV v u/\D.rt v b
def PE(X:Cx)(e:aD)(t:TE):Prop :=
 ∀(b:List (af×Obj)) (s:ao) (a:St) (H:Hp) (Q:VK),Inv X b a H s->t a H Q->ar (aw X.prog X.w) X.A (aX e X.env) (EP X b a Q) X.xe s
def PT(X:Cx)(e:aD)(t:TT):Prop :=
 ∀(b:List (af×Obj)) (s:ao) (a:St) (H:Hp) (Q:Bool->Hp->Prop),Inv X b a H s->t a H Q->ar (aw X.prog X.w) X.A (nH e X.env (aX e X.env)) (TP X b a Q) X.xe s
def PW(X:Cx)(e:aD)(t:TT):Prop :=
 ∀(c:Sem ai) (b:List (af×Obj)) (s:ao) (a:St) (H:Hp) (Q:Bool->Hp->Prop),Inv X b a H s->t a H Q->ar (aw X.prog X.w) X.A (nH e X.env c) (TP X b a Q) X.xe s
def PA(X:Cx)(d:List aD)(t:TA):Prop :=
 ∀(b:Pos) (c:List (af×Obj)) (s:ao) (a:St) (H:Hp) (Q:List V->Hp->Prop),Inv X c a H s->t a H Q->ar (aw X.prog X.w) X.A (spliced (cE b (aM d X.env))) (AP X c a Q) X.xe s
def PS(X:Cx)(c:bg)(t:TS):Prop :=
 ∀(b:List (af×Obj)) (s:ao) (a:St) (H:Hp) (D:kE),Inv X b a H s->t D a H->ar (aw X.prog X.w) X.A (exec c X.env) (SP X b D) X.xe s
def lr(X:Cx)(c:List bg)(t:TS):Prop :=
 ∀(b:List (af×Obj)) (s:ao) (a:St) (H:Hp) (D:kE),Inv X b a H s->t D a H->ar (aw X.prog X.w) X.A (execs c X.env) (SP X b D) X.xe s
theorem a6{b:Type}{t:Sem b}{Q c:b->ao->Prop}{M:Model}{A:aR}{E:ai->ao->Prop}{s:ao}(h:ar M A t Q E s)(d:∀a s,Q a s->c a s):ar M A t c E s:=eW h d λ_ _ x=>x
section
variable{X:Cx}
def Ic(i:Nat):TE:=λa H Q=>∃v,a[i]?=aa (aa v)/\Q v H
def tC(v:V):TE:=λ_ H Q=>Q v H
theorem fJ{i:Nat}{x:Str}{f:Pos}(p:X.N[i]?=aa x)(j:eR X.env.scope x)(d:(x==("__debug__":Str))=am:=by decide)(q:(x==("__classdict__":Str))=am:=by decide):PE X (.Name x f) (Ic i):=by
 intro w s g H Q I h;obtain⟨v,e,h⟩:=h;obtain⟨m,n,o⟩:=I.loc;obtain⟨u,r,l⟩:=o i x v p e j;have b:EP X w g Q u s:=⟨v,H,I,r,h⟩
 rcases l with⟨a,hm⟩|⟨a,c,hc,Aa⟩
 .exact wpAny_Name (wpAny_loadName_local I.ok.kind a n hm b) d
 .rcases a with a|a
  .exact wpAny_Name (wpAny_loadName_cell I.ok.kind a hc Aa b) d
  .exact wpAny_Name (wpAny_loadName_free I.ok.kind a hc Aa b q) d
theorem Iq{i j f}:PE X (.Constant (.int i) j f) (tC (.int i)):=λ_ _ _ H _ I h=>wpAny_Constant_int ⟨.int i,H,I.tok _,⟨_,rfl⟩,h⟩
theorem PP{b j f}:PE X (.Constant (.bool b) j f) (tC (.bl b)):=λ_ _ _ H _ I h=>Constant_bool ⟨.bl b,H,I,rfl,h⟩
theorem Qf{j f}:PE X (.Constant .none j f) (tC .non):=λ_ _ _ H _ I h=>Constant_none ⟨.non,H,I,rfl,h⟩
theorem OI{x j f}:PE X (.Constant (.str x) j f) (tC (.str x)):=λ_ _ _ H _ I h=>Calls.Constant_str ⟨.str x,H,I.tok _,⟨_,rfl⟩,h⟩
def Gl(X:Cx)(x:Str):Prop:=X.env.kindOf x=aa .globalImplicit
theorem tw{E:ai->ao->Prop}{g:List (af×Obj)}{s:ao}{a:St}{H:Hp}{x:Str}{u:ai}{f:Pos}{Q:ai->ao->Prop}(I:Inv X g a H s)(c:Gl X x)(b:X.mg x=aa u)(h:Q u s)(d:(x==("__debug__":Str))=am:=by decide):ar (aw X.prog X.w) X.A (aX (.Name x f) X.env) Q E s :=Calls.Name_function_global I.ok.kind c (Calls.loadGlobal_global (by rw[I.ok.glob];exact I.mod.glob.keeps I.bk) b h) d
theorem y4{E:ai->ao->Prop}{m:List (af×Obj)}{s:ao}{a:St}{H:Hp}{x:Str}{u:ai}{f:Pos}{Q:ai->ao->Prop}(I:Inv X m a H s)(g:Gl X x)(d:X.mg x=ae)(b:eA x=aa u)(h:Q u s)(c:x≠"__name__":=by decide) (i:(x==("__debug__":Str))=am:=by decide):ar (aw X.prog X.w) X.A (aX (.Name x f) X.env) Q E s:=by obtain⟨n,l,j⟩:=I.mod.blt;exact Calls.Name_function_global I.ok.kind g (Calls.loadGlobal_builtin (by rw[I.ok.glob];exact I.mod.glob.keeps I.bk) d (by rw[I.ok.blt];exact l.keeps I.bk) ((j x c).trans b) h) i
theorem BB{x:Str}{v:V}{u:ai}{f:Pos}(b:Gl X x)(a:X.mg x=aa u)(r:RelV v u)(c:(x==("__debug__":Str))=am:=by decide):PE X (.Name x f) (tC v) :=λ_ _ _ H _ I h=>tw I b a ⟨v,H,I,r,h⟩ c
theorem Oh{x:Str}{v:V}{u:ai}{f:Pos}(d:Gl X x)(c:X.mg x=ae)(a:eA x=aa u)(r:RelV v u)(b:x≠"__name__":=by decide)(g:(x==("__debug__":Str))=am:=by decide):PE X (.Name x f) (tC v) :=λ_ _ _ H _ I h=>y4 I d c a ⟨v,H,I,r,h⟩ b g
variable{a b:aD}{g p:TE}{f:Pos}
def tB(t:TE):TT:=λd H Q=>t d H λx h=>∃c,x=.bl c/\Q c h
theorem Q6{e:aD}{t:TE}(h:PE X e t)(n:∀c,nH e X.env c=(do let v <-c;standAt e.pos;lA [v] (truthy v)):=by intro _;rfl):PT X e (tB t):=by
 intro o s i H Q I m;refine isTrue_plain (a6 (h o s i H _ I m) λv w ⟨x,u,r,j,l⟩=>?_) (n _);obtain⟨d,rfl,q⟩:=l;cases j;exact qy ⟨u,r,q⟩
variable{n o:TT}{rest:List aD}
def Ko(t u:TT):TT:=λd H Q=>t d H λc h=>if c=ag then u d h Q else Q am h
def Lq(t u:TT):TT:=λd H Q=>t d H λc h=>if c=ag then Q ag h else u d h Q
def R8(t:TT):TT:=λd H Q=>t d H λc h=>Q (!c) h
theorem PJ(i:PT X a n):PW X (.BoolOp .And [a] f) n:=by
 intro l j s d H Q I h;refine isTrue_and (a6 (i j s d H Q I h) λc m e=>?_);cases c with
 |true=>exact isTrue_and_nil e
 |false=>exact e
theorem Ot(i:PT X a n):PW X (.BoolOp .Or [a] f) n:=by
 intro l j s d H Q I h;refine isTrue_or (a6 (i j s d H Q I h) λc m e=>?_);cases c with
 |false=>exact isTrue_or_nil e
 |true=>exact e
theorem Oi(v:PT X a n)(u:PW X (.BoolOp .And (b::rest) f) o):PW X (.BoolOp .And (a::b::rest) f) (Ko n o):=by
 intro q j s d H Q I h;refine isTrue_and (a6 (v j s d H _ I h) λc r ζ=>?_);obtain⟨m,l,i⟩:=ζ;cases c with
 |true=>exact u q j r d m Q l i
 |false=>exact⟨m,l,i⟩
theorem Qa(v:PT X a n)(u:PW X (.BoolOp .Or (b::rest) f) o):PW X (.BoolOp .Or (a::b::rest) f) (Lq n o):=by
 intro q j s d H Q I h;refine isTrue_or (a6 (v j s d H _ I h) λc r ζ=>?_);obtain⟨m,l,i⟩:=ζ;cases c with
 |true=>exact⟨m,l,i⟩
 |false=>exact u q j r d m Q l i
theorem Mw(i:PT X a n):PT X (.UnaryOp .Not a f) (R8 n):=by intro j s d H Q I h;exact isTrue_not (i j s d H (λc l=>Q (!c) l) I h)
def Mp(g p:TE):TE:=λd H Q=>g d H λx h=>∃c,x=.bl c/\if c=ag then p d h Q else Q (.bl am) h
def OZ(g:TE):TE:=λd H Q=>g d H λx h=>∃c,x=.bl c/\Q (.bl (!c)) h
theorem NA{op}{t:TE}(h:PE X a t):PE X (.BoolOp op [a] f) t:=λi s c H Q I d=>BoolOp_one (h i s c H Q I d)
theorem Kz(w:PE X a g)(u:PE X (.BoolOp .And (b::rest) f) p):PE X (.BoolOp .And (a::b::rest) f) (Mp g p):=by
 intro j s i H Q I h;refine BoolOp_and (a6 (w j s i H _ I h) λv q ζ=>?_);obtain⟨x,m,l,r,d⟩:=ζ;obtain⟨c,rfl,d⟩:=d;cases r;refine qy ?_;cases c with
 |true=>exact u j q i m Q l d
 |false=>exact⟨.bl am,m,l,rfl,d⟩
theorem Rq(l:PE X a g):PE X (.UnaryOp .Not a f) (OZ g):=by
 intro m s i H Q I h;refine UnaryOp_ (a6 (l m s i H _ I h) λv u ζ=>?_);obtain⟨x,r,q,j,d⟩:=ζ;obtain⟨c,rfl,d⟩:=d;cases j;exact not_of (qy ⟨.bl (!c),r,q,rfl,d⟩)
def OB(t:TT)(g p:TE):TE:=λd H Q=>t d H λc h=>if c=ag then g d h Q else p d h Q
theorem Ol{c:aD}(u:PT X c n)(w:PE X a g)(v:PE X b p):PE X (.IfExp c a b f) (OB n g p):=by
 intro j s i H Q I h;refine wpAny_IfExp (a6 (u j s i H _ I h) λd l ζ=>?_);obtain⟨r,q,m⟩:=ζ;cases d with
 |true=>exact w j l i r Q q m
 |false=>exact v j l i r Q q m
end
def cf(K:ay)(H:Hp)(a:af)(xs:List V):Prop :=
 Rd H a (.lst xs) \/
  ∃(o:Obj) (b:Array ai) (n:Nat),K.lookup a=aa o/\o.cls=.type "list"/\o.dict=ae/\o.data=.seq b n/\b.size<=bn/\bj xs b.toList
def cH(K:ay)(H:Hp)(a:af)(xs:List V):Prop :=
 Rd H a (.tup xs) \/
  ∃(o:Obj) (b:Array ai) (n:Nat),K.lookup a=aa o/\o.cls=.type "tuple"/\o.data=.seq b n/\b.size<=bn/\bj xs b.toList
def Tt:ai->Option V
 |.none=>aa .non
 |.bool b=>aa (.bl b)
 |.int i _=>aa (.int i)
 |.str x _=>aa (.str x)
 |.bytes b _=>aa (.byt b)
 |.float b _=>aa (.flt b)
 |.ref a=>aa (.ref a)
 |.type n=>aa (.ty n)
 |_=>ae
theorem RelV.abs{x:V}{u:ai}(r:RelV x u):Tt u=aa x:=by
 cases x with
 |non=>cases r;rfl
 |bl _=>cases r;rfl
 |int _=>obtain⟨t,rfl⟩:=r;rfl
 |str _=>obtain⟨t,rfl⟩:=r;rfl
 |byt _=>obtain⟨t,rfl⟩:=r;rfl
 |flt _=>obtain⟨t,rfl⟩:=r;rfl
 |ref _=>cases r;rfl
 |ty _=>cases r;rfl
theorem RelV.inj{x y:V}{u:ai}(r:RelV x u)(q:RelV y u):x=y:=c8 (r.abs.symm.trans q.abs)
theorem bj.inj{xs a:List V}{b:List ai}(r:bj xs b)(s:bj a b):xs=a:=by
 unfold bj at r s
 induction r generalizing a with
 |nil=>cases s;rfl
 |cons r _ g=>
  cases s with
  |cons q t=>rw[r.inj q,g t]
section
variable{X:Cx}{f:List (af×Obj)}{c:St}{H:Hp}{s:ao}{a:af}{b ys:List V}
theorem cf.of{K:ay}(h:H a=aa (.lst b)):cf K H a b:=.inl (.inl h)
theorem cH.of{K:ay}(h:H a=aa (.tup b)):cH K H a b:=.inl (.inl h)
theorem Inv.list(I:Inv X f c H s)(h:cf X.K H a b):∃its:List ai,bj b its/\PlainL s.heap a its.toArray/\b.length<=bn:=by
 rcases h with h|⟨o,its,n,g,j,i,d,l,r⟩
 .obtain⟨z,its,n,r,e⟩:=h.ok I.hok;exact⟨its,r,⟨_,n,e,rfl,rfl,rfl⟩,z⟩
 .refine⟨its.toList,r,⟨o,n,I.kIn a o g,j,i,by simpa using d⟩,?_⟩;have e:=r.length;simp only[fP]at e;lia
theorem Inv.tuple(I:Inv X f c H s)(h:cH X.K H a b):∃d:List ai,bj b d/\IsTup s.heap a d.toArray/\b.length<=bn:=by
 rcases h with h|⟨o,d,n,i,j,g,l,r⟩
 .obtain⟨z,d,r,p,_⟩:=h.ok I.hok;exact⟨d,r,p,z⟩
 .refine⟨d.toList,r,⟨o,I.kIn a o i,j,n,by simpa using g⟩,?_⟩;have e:=r.length;simp only[fP]at e;lia
theorem Inv.list_inj(I:Inv X f c H s)(h:cf X.K H a b)(p:cf X.K H a ys):b=ys:=by
 obtain⟨i,r,⟨o,n,e,_,_,d⟩,_⟩:=I.list h;obtain⟨g,m,⟨q,u,j,_,_,l⟩,_⟩:=I.list p;rw[e]at j;cases j;rw[d]at l;injection l with d1 _;have:i=g:=by simpa using congrArg Array.toList d1
 subst this;exact r.inj m
theorem Inv.tuple_inj(I:Inv X f c H s)(h:cH X.K H a b)(p:cH X.K H a ys):b=ys:=by
 obtain⟨i,r,⟨o,e,_,n,d⟩,_⟩:=I.tuple h;obtain⟨g,m,⟨q,j,_,u,l⟩,_⟩:=I.tuple p;rw[e]at j;cases j;rw[d]at l;injection l with d1 _;have:i=g:=by simpa using congrArg Array.toList d1
 subst this;exact r.inj m
end
abbrev Cx.wish(X:Cx)(E:ai->ao->Prop):Cx:={X with xe:=E}
abbrev Cx.nox(X:Cx):Cx:=X.wish λ_ _=>False
theorem Cx.Ok.wish{X:Cx}(ok:X.Ok)(E:ai->ao->Prop):(X.wish E).Ok :=⟨ok.mod,ok.kind,ok.glob,ok.blt,ok.above,ok.inj,ok.has,ok.cab,ok.hd,ok.frames,ok.stk,ok.exf,ok.bs,ok.bsz,ok.noex,ok.exfs,ok.funs,ok.frf,ok.tab⟩
theorem Cx.Ok.unwish{X:Cx}{E:ai->ao->Prop}(ok:(X.wish E).Ok):X.Ok :=⟨ok.mod,ok.kind,ok.glob,ok.blt,ok.above,ok.inj,ok.has,ok.cab,ok.hd,ok.frames,ok.stk,ok.exf,ok.bs,ok.bsz,ok.noex,ok.exfs,ok.funs,ok.frf,ok.tab⟩
section
variable{X:Cx}{a:List (af×Obj)}{b:St}{H:Hp}{s:ao}{E:ai->ao->Prop}
theorem Inv.wish(I:Inv X a b H s)(E:ai->ao->Prop):Inv (X.wish E) a b H s:=⟨I.ok.wish E,I.os,I.bare,I.base,I.loc,I.cell,I.free,I.freeC,I.pin,I.hok,I.len⟩
theorem Inv.unwish(I:Inv (X.wish E) a b H s):Inv X a b H s:=⟨I.ok.unwish,I.os,I.bare,I.base,I.loc,I.cell,I.free,I.freeC,I.pin,I.hok,I.len⟩
theorem SP.unwish{D:kE}{f:Flow}{g:ao}(h:SP (X.wish E) a D f g):SP X a D f g:=by
 cases f with
 |next=>obtain⟨c,d,I,q⟩:=h;exact⟨c,d,I.unwish,q⟩
 |brk=>obtain⟨c,d,I,q⟩:=h;exact⟨c,d,I.unwish,q⟩
 |cont=>obtain⟨c,d,I,q⟩:=h;exact⟨c,d,I.unwish,q⟩
 |ret u=>obtain⟨v,c,d,I,r,q⟩:=h;exact⟨v,c,d,I.unwish,r,q⟩
end
section
variable{X:Cx}{j:bg}{rest:List bg}{t u:TS}{e:aD}{i:TE}{g:Pos}
def NO:TS:=λD a H=>D.nx a H
def Mt(t u:TS):TS:=λD a H=>t {D with nx:=u D} a H
theorem L7:lr X [] NO:=λ_ _ a H _ I h=>vT ⟨a,H,I,h⟩
theorem KP(m:PS X j t)(l:lr X rest u):lr X (j::rest) (Mt t u):=by
 intro b s c H D I h;refine IQ (a6 (m b s c H {D with nx:=u D} I h) λf d q=>?_);cases f with
 |next=>obtain⟨a,o,n,q⟩:=q;exact l b d a o D n q
 |ret v=>exact q
 |brk=>exact q
 |cont=>exact q
theorem LY(b:PS X j t):lr X [j] t:=by
 intro c s a H D I h;refine IQ (a6 (b c s a H D I h) λf d q=>?_);cases f with
 |next=>exact vT q
 |ret v=>exact q
 |brk=>exact q
 |cont=>exact q
theorem Inv.quiet{b:List (af×Obj)}{a:St}{H:Hp}{s:ao}(I:Inv X b a H s):interactive X.env=am:=by simp[interactive,I.ok.kind]
def Ph(i:TE):TS:=λD a H=>i a H λ_ b=>D.nx a b
theorem yC(d:PE X e i)(c:jG e ae g.line X.env=pure am:=by rfl):PS X (.Expr e g) (Ph i):=by intro f s a H D I h;exact wpAny_Expr_any (a6 (d f s a H _ I h) λv n ⟨x,m,l,o,b⟩=>⟨a,m,l,b⟩) I.quiet c
def OS(i:TE):TS:=λD a H=>i a H D.rt
theorem xX(d:PE X e i):PS X (.Return (aa e) g) (OS i):=by intro f s a H D I h;exact wpAny_Return_some (a6 (d f s a H _ I h) λv n ⟨x,m,l,b,c⟩=>⟨x,a,m,l,b,c⟩)
def Rb:TS:=λD _ H=>D.rt .non H
theorem SS:PS X (.Return ae g) Rb:=λ_ _ a H _ I h=>wpAny_Return_none ⟨.non,a,H,I,rfl,h⟩
def SH(c:TT)(t u:TS):TS:=λD a H=>c a H λb d=>if b=ag then t D a d else u D a d
theorem Sm{c:aD}{a b:List bg}{m:TT}(r:PT X c m)(w:lr X a t)(v:lr X b u):PS X (.If c a b g) (SH m t u):=by
 intro l s f H D I h;refine wpAny_If (a6 (r l s f H _ I h) λd n ζ=>?_);obtain⟨q,p,o⟩:=ζ;cases d with
 |true=>exact w l n f q D p o
 |false=>exact v l n f q D p o
end
abbrev TG:=V->St->Hp->(St->Hp->Prop)->Prop
abbrev qd:=List V->St->Hp->(St->Hp->Prop)->Prop
def PG(X:Cx)(a:aD)(t:TG):Prop :=
 ∀(d:List (af×Obj)) (s:ao) (c:St) (H:Hp) (v:V) (u:ai) (Q:St->Hp->Prop),Inv X d c H s->RelV v u->t v c H Q ->
  ar (aw X.prog X.w) X.A (o7 a X.env u) (λ_ s'=>∃b f,Inv X d b f s'/\Q b f) X.xe s
def xV(X:Cx)(h:List aD)(t:qd):Prop :=
 ∀(f:List (af×Obj)) (s:ao) (b:St) (H:Hp) (c:List V) (d:List ai) (Q:St->Hp->Prop),Inv X f b H s->bj c d->t c b H Q ->
  ar (aw X.prog X.w) X.A (assignInOrder ((tE h X.env).map (·.2)) d) (λ_ i=>∃a g,Inv X f a g i/\Q a g) X.xe s
abbrev BO:=V->V->V->Hp->(Hp->Prop)->Prop
def He(X:Cx)(t:BO):Prop :=
 ∀(c:List (af×Obj)) (s:ao) (a:St) (H:Hp) (o i v:V) (ov b u:ai) (Q:Hp->Prop),Inv X c a H s->RelV o ov->RelV i b->RelV v u->t o i v H Q ->
  ar (aw X.prog X.w) X.A (setItem ov b u) (λ_ f=>∃d,Inv X c a d f/\Q d) X.xe s
section
variable{X:Cx}{d:Pos}
def EC(i:Nat):TG:=λv a H Q=>Q (a.set i (aa v)) H
theorem tD{i:Nat}{x:Str}(f:X.N.Nodup)(b:X.N[i]?=aa x)(a:Loc X.env.scope x)(c:X.fn x=ag\/X.env.scope.names.lookup x=aa .local:=by first|exact .inl rfl|exact .inr rfl|assumption):PG X (.Name x d) (EC i):=by intro m s j H v u Q I r h;exact wpAny_assign_Name (yK I f b a r (λl g=>⟨_,H,g,h⟩) c)
def b9:qd:=λb a H Q=>b=[]/\Q a H
def OR(t:TG)(u:qd):qd:=λc b H Q=>∃v r,c=v::r/\t v b H λa f=>u r a f Q
theorem Hr:xV X [] b9:=by
 intro f s a H b c Q I r h;obtain⟨e,h⟩:=h;subst e;cases r;exact assignInOrder_nil ⟨a,H,I,h⟩
theorem zf{e:aD}{a:List aD}{t:TG}{u:qd}(n:PG X e t)(m:xV X a u)(l:(tE (e::a) X.env).map (·.2)=o7 e X.env::(tE a X.env).map (·.2):=by rfl):xV X (e::a) (OR t u):=by
 intro c s f H w y Q I r h;obtain⟨v,x,o,h⟩:=h;subst o;cases r with
 |cons r i=>rw[l];refine assignInOrder_cons (a6 (n c s f H _ _ _ I r h) λ_ g ζ=>?_);obtain⟨b,q,p,j⟩:=ζ;exact m c g b q _ _ Q p i j
def QP(K:ay)(n:Nat)(t:qd):TG:=λv b H Q=>∃a xs,v=.ref a/\cH K H a xs/\xs.length=n/\t xs b H Q
theorem Hv{c:List aD}{k:Nat}{t:qd}{n:Nat}(y:X.calm=ag)(h:xV X c t)(w:(tE c X.env).length=n:=by rfl) (B:(tE c X.env).findIdx? (·.1)=ae:=by rfl):PG X (.Tuple c k d) (QP X.K n t):=by
 intro j s g H v u Q I r f;obtain⟨a,xs,A,q,x,f⟩:=f;subst A;cases r;obtain⟨l,i,p,D⟩:=I.tuple q;refine assign_Tuple_tuple (I.ok.hd y) p (by simp[w,<-x,i.length]) B λz m=>?_;have C:Inv X j g H {s with heap:=z}:=I.kept (t':=s.toks) λb o e=>m b o (cR (bz e)) e;exact h j _ g H xs _ Q C (by simpa using i) f
def RG(b c:TE)(t:BO):TG:=λv a H Q=>b a H λo h=>c a h λi g=>t o i v g λf=>Q a f
theorem Kc{o i:aD}{f g:TE}{t:BO}(A:PE X o f)(B:PE X i g)(z:He X t)(C:∀v,o7 (.Subscript o i d) X.env v=(do
   let ov <-lA [v] (aX o X.env)
   let a <-lA [v,ov] (aX i X.env)
   standAt d
   lA [v,ov,a] (setItem ov a v)
   release [v,ov,a] []):=by intro _;rfl):PG X (.Subscript o i d) (RG f g t):=by
 intro c s b H v u Q I r h;rw[C];refine aq (iM (a6 (A c s b H _ I h) λov l ζ=>?_));obtain⟨x,K,F,n,w⟩:=ζ;refine aq (iM (a6 (B c l b K _ F w) λa j ζ=>?_));obtain⟨y,J,E,m,q⟩:=ζ;refine aq (wpAny_standAt (aq (iM (a6 (z c j b J x y v ov a u _ E n m r q) λ_ L ζ=>?_))));obtain⟨G,D,p⟩:=ζ;exact wpAny_release ⟨b,G,D,p⟩
def Fb(b:TE)(g:TG):TS:=λD a H=>b a H λx c=>g x a c D.nx
theorem Gd{a e:aD}{c:TE}{g:TG}(p:PE X e c)(o:PG X a g)(n:swapsWithSole [a] e d.line X.env=pure am:=by rfl)(m:swappedStores [a] e X.env=pure ae:=by rfl)(r:(tE [a] X.env).map (·.2)=[o7 a X.env]:=by rfl):PS X (.Assign [a] e d) (Fb c g):=by intro f s b H D I h;refine wpAny_Assign_stores (a6 (p f s b H _ I h) λv i ⟨x,w,u,j,l⟩=>?_) n m;rw[r];exact a6 (o f i b w x v _ u j l) λ_ y q=>q
theorem Ip{i:Nat}{x:Str}{e:aD}{b:TE}{a:Pos}(p:X.N.Nodup)(m:X.N[i]?=aa x)(j:Loc X.env.scope x)(o:PE X e b)(l:jG e (aa (.Name x a)) d.line X.env=pure am:=by rfl)(n:X.fn x=ag\/X.env.scope.names.lookup x=aa .local:=by first|exact .inl rfl|exact .inr rfl|assumption):PS X (.Assign [.Name x a] e d) (Fb b (EC i)):=by intro q s c H D I h;refine wpAny_Assign_Name (a6 (o q s c H _ I h) λv A ⟨y,w,u,f,g⟩=>?_) l;exact yK u p m j f (λz r=>⟨_,w,r,g⟩) n
def M0(c:TT)(j:TS):TS:=λD a H=>∃W:Nat->St->Hp->Prop,(∃m,W m a H)/\∀m a H,W m a H ->
 c a H λb h=>if b=ag then ∃N:St->Hp->Prop,(∀f i,N f i->∃g,g<m/\W g f i)/\j {D with nx:=N,ct:=N,bk:=D.nx} a h else D.nx a h
theorem RO{c:aD}{i:List bg}{z:TT}{A:TS}(B:zt (aw X.prog X.w) X.A X.env X.xe)(T:PT X c z)(Y:lr X i A):PS X (.While c i [] d) (M0 z A):=by
 intro x s K H D I h;obtain⟨W,⟨S,M⟩,l⟩:=h;refine wpAny_While (codeAny_whileLoop (λn Q=>∃j J,Inv X x j J Q/\W n j J) ?_ S ⟨K,H,I,M⟩);rintro n P ⟨g,G,Z,L⟩;refine tF B (a6 (T x P g G _ Z (l n g G L)) λb O ζ=>?_);obtain⟨F,E,p⟩:=ζ;cases b with
 |true=>
  obtain⟨N,C,p⟩:=p;rw[if_pos rfl];refine tF B (a6 (Y x O g F _ E p) λf s3 o=>?_);cases f with
  |next=>obtain⟨a,m,y,r⟩:=o;obtain⟨u,w,q⟩:=C a m r;exact⟨u,w,a,m,y,q⟩
  |cont=>obtain⟨a,m,y,r⟩:=o;obtain⟨u,w,q⟩:=C a m r;exact⟨u,w,a,m,y,q⟩
  |brk=>exact o
  |ret v=>exact o
 |false=>rw[if_neg eP];exact vT ⟨g,F,E,p⟩
end
structure It where
 go:Nat->Hp->Prop
 yld:Nat->Hp->V->Hp->Prop
 stop:Nat->Hp->Prop
def lz(X:Cx)(a:List (af×Obj))(H:Hp)(b:af):Prop :=
 H b=ae/\b≠X.env.locals/\b∉X.fs/\(b∈X.ex\/X.s₀.heap.objs.size<=b)/\(∀x c,X.env.cells.lookup x=aa c->c≠b)/\∀p∈X.pn++a,p.1≠b
theorem Inv.fpOk{X:Cx}{d:List (af×Obj)}{g:St}{H f:Hp}{s:ao}{b:af}(I:Inv X d g H s)(a:s.heap.objs.size<=b)(i:f b=ae):lz X d f b:=by
 refine⟨i,tG (gH I.lt a),I.nofs a,.inr (cM I.sz a),λx c e z=>?_,λp h z=>?_⟩
 .obtain⟨v,q⟩:=I.cell x c e;exact absurd (gH q.lt (by rw[z];exact a)) (eV _)
 .exact absurd (gH (bz (I.pin p h).1) (by rw[z];exact a)) (eV _)
structure uY(P:aO)(w:aG)(K:ay)(tg:aD)(J:It)(fp:List af)(it:af)(tn:Nat->az->Prop):Prop where
 mem:it∈fp
 obj:∀i h,tn i h->∀b∈fp,∃o,h.get? b=aa o/\∀v,o.data≠.cell v
 keep:∀i h h',tn i h->(∀b∈fp,∀o,h.get? b=aa o->h'.get? b=aa o)->tn i h'
 item:∀(X:Cx),X.prog=P->X.w=w->X.K=K->X.calm=ag->∀(i:Nat) (ah:List (af×Obj)) (s:ao) (σ:St) (H:Hp) (E:ai->ao->Prop),Inv X ah σ H s->(∀b∈fp,lz X ah H b)->tn i s.heap->J.go i H ->
  ar (aw P w) X.A (mB (.ref it)) (λr s1=>∃u,r=aa u /\ ar (aw P w) X.A (CJ tg (.ref it) u) (λ_ s2=>∃x H',Inv X ah σ H' s2/\RelV x u/\J.yld i H x H'/\tn (i+1) s2.heap/\∀b∈fp,H' b=ae) E s1) E s
 done:∀(X:Cx),X.prog=P->X.w=w->X.K=K->X.calm=ag->∀(i:Nat) (ah:List (af×Obj)) (s:ao) (σ:St) (H:Hp) (E:ai->ao->Prop),Inv X ah σ H s->(∀b∈fp,lz X ah H b)->tn i s.heap->J.stop i H ->
  ar (aw P w) X.A (mB (.ref it)) (λr s1=>r=ae/\Inv X ah σ H s1) E s
 self:∀(A:aR) (i:Nat) (s:ao) (Q:ai->ao->Prop) (E:ai->ao->Prop),tn i s.heap->Q (.ref it) s->ar (aw P w) A (nI (.ref it)) Q E s
abbrev TI:=St->Hp->(It->Hp->Prop)->Prop
def xN(X:Cx)(i:List (af×Obj))(j:St)(l:aD)(R:It->Hp->Prop)(a:ai)(f:ao):Prop :=
 ∃(g:af) (h:List af) (d:Nat->az->Prop) (J:It) (c:Hp),a=.ref g/\Inv X i j c f/\uY X.prog X.w X.K l J h g d/\d 0 f.heap/\(∀b∈h,lz X i c b)/\R J c
def PI(X:Cx)(f a:aD)(d:TI):Prop :=
 ∀(c:List (af×Obj)) (s:ao) (b:St) (H:Hp) (R:It->Hp->Prop),Inv X c b H s->d b H R ->
  ar (aw X.prog X.w) X.A (aX a X.env) (λv g=>ar (aw X.prog X.w) X.A (nI v) (xN X c b f R) X.xe g) X.xe s
theorem xJ{M:Model}{A:aR}{E:ai->ao->Prop}{s:ao}{c:aD}{d:af}{u:ai}{o:Obj}{n:String}{b:Array ai}{Q:Unit->ao->Prop}(f:s.heap.get? d=aa o)(j:o.cls=.type n)(i:o.data=.fields b)(g:["enumerate","zip","dict_itemiterator","dict_reverseitemiterator","odict_iterator","itertools.zip_longest","itertools.pairwise"].contains n=am) (a:Q () s):ar M A (CJ c (.ref d) u) Q E s:=by
 unfold CJ;cases c <;> first
  |exact aC a
  | (cases u <;> first
    |exact aC a
    | (refine aq (wpAny_load f ?_)
       rw[j,i];show ar M A (if(["enumerate","zip","dict_itemiterator","dict_reverseitemiterator","odict_iterator","itertools.zip_longest","itertools.pairwise"].contains n&&b[0]? == aa (dP _))=ag then _ else _) Q E s;rw[if_neg (by intro h;rw[g,Bool.false_and]at h;cases h)];exact aC a))
def AD(K:ay)(a:af):It :=⟨λi H=>∃xs x,cf K H a xs/\xs[i]?=aa x,λi H x b=>b=H/\∀xs,cf K H a xs->xs[i]?=aa x,λi H=>∃xs,cf K H a xs/\xs.length<=i⟩
def BL(K:ay)(a:af):It :=⟨λi H=>∃xs x,cH K H a xs/\xs[i]?=aa x,λi H x b=>b=H/\∀xs,cH K H a xs->xs[i]?=aa x,λi H=>∃xs,cH K H a xs/\xs.length<=i⟩
def yz(a:Int)(n:Nat):It:=⟨λi _=>i<n,λi H x b=>b=H/\x=.int (a+i),λi _=>n<=i⟩
theorem O9{P:aO}{w:aG}{K:ay}{Q:aD}(a g:af):uY P w K Q (AD K a) [g] g (λi h=>h.IsListIter g a i) where
 mem:=by simp
 obj:=λi h f b j=>by
  have e:b=g:=by simpa using j
  subst e;obtain⟨o,e,c,d⟩:=f;exact⟨o,e,λv z=>by rw[d]at z;cases z⟩
 keep:=λi h n f k=>f.at λo e=>k g (by simp) o e
 item:=by intro X C A D M i N s L H E I m f B;subst C A D;obtain⟨xs,x,l,y⟩:=B;obtain⟨r,q,p,T⟩:=I.list l;obtain⟨u,Y,S⟩:=q.get y;obtain⟨J,G,f2,f3,f4,F⟩:=m g (by simp);refine wpAny_pyNext_list_item f p.isList (x:=u) (by simpa using Y) λn O sb=>?_;have I1:Inv X N L H {s with heap:=n}:=I.turned (t':=s.toks) (λb o j e=>(sb.2 b j).trans e) J G f3 f4 F;obtain⟨o,e,c,d⟩:=id O;exact⟨u,rfl,xJ (s:={s with heap:=n}) e c d (by decide) ⟨x,H,I1,S,⟨rfl,λys W=>by rw[I.list_inj W l];exact y⟩,O,λb j=>(m b j).1⟩⟩
 done:=by intro X C A D M i N s L H E I m f B;subst C A D;obtain⟨xs,l,y⟩:=B;obtain⟨r,q,p,T⟩:=I.list l;obtain⟨J,G,f2,f3,f4,F⟩:=m g (by simp);have hl:=q.length;exact wpAny_pyNext_list_end (I.ok.hd M) f p.isList (by simp;lia) λn Z=>⟨rfl,I.turned (t':=s.toks) (λb o j e=>Z b o j e) J G f3 f4 F⟩
 self:=λ_ _ _ _ _ f h=>wpAny_pyIter_listiter f h
theorem Rv{P:aO}{w:aG}{K:ay}{Q:aD}(a j:af):uY P w K Q (BL K a) [j] j (λi h=>h.IsTupleIter j a i) where
 mem:=by simp
 obj:=λi h f b l=>by
  have e:b=j:=by simpa using l
  subst e;obtain⟨o,e,c,d⟩:=f;exact⟨o,e,λv z=>by rw[d]at z;cases z⟩
 keep:=λi h q f k=>f.at λo e=>k j (by simp) o e
 item:=by intro X C A D M i N s L H E I n f B;subst C A D;obtain⟨xs,x,m,y⟩:=B;obtain⟨g,r,p,T⟩:=I.tuple m;obtain⟨u,Y,S⟩:=r.get y;obtain⟨J,G,f2,f3,f4,F⟩:=n j (by simp);refine wpAny_pyNext_tuple_item f (show s.heap.IsTuple a g.toArray from p) (x:=u) (by simpa using Y) λq O sb=>?_;have I1:Inv X N L H {s with heap:=q}:=I.turned (t':=s.toks) (λb o l e=>(sb.2 b l).trans e) J G f3 f4 F;obtain⟨o,e,c,d⟩:=id O;exact⟨u,rfl,xJ (s:={s with heap:=q}) e c d (by decide) ⟨x,H,I1,S,⟨rfl,λys W=>by rw[I.tuple_inj W m];exact y⟩,O,λb l=>(n b l).1⟩⟩
 done:=by intro X C A D M i N s L H E I n f B;subst C A D;obtain⟨xs,m,y⟩:=B;obtain⟨g,r,p,T⟩:=I.tuple m;obtain⟨J,G,f2,f3,f4,F⟩:=n j (by simp);have hl:=r.length;exact wpAny_pyNext_tuple_end (I.ok.hd M) f (show s.heap.IsTuple a g.toArray from p) (by simp;lia) λq Z=>⟨rfl,I.turned (t':=s.toks) (λb o l e=>Z b o l e) J G f3 f4 F⟩
 self:=λ_ _ _ _ _ f h=>wpAny_pyIter_tupleiter f h
theorem Ob{P:aO}{w:aG}{K:ay}{G:aD}(c:af)(f:Int)(n:Nat):uY P w K G (yz f n) [c] c (λi h=>IsRangeIter h c (f+(i:Nat)*1) ((n:Int)-(i:Nat)) 1) where
 mem:=by simp
 obj:=λi h a b d=>by
  have e:b=c:=by simpa using d
  subst e;exact⟨_,a,λv z=>by
   have F:Data.fields _=Data.cell v:=z;cases F⟩
 keep:=λi h j a k=>k c (by simp) _ a
 item:=by intro X q l r p i C s A H E I g a m;subst q l r;obtain⟨y,x,f2,f3,f4,u⟩:=g c (by simp);have W:=Walks.range (prog:=X.prog) (w:=X.w) (I.ok.hd p) c f 1 n;refine W.item i s _ _ m a λv j B L D J=>?_;obtain⟨t,rfl⟩:=L;have N:Inv X C A H {s with heap:=j,toks:=B}:=I.turned (λb o d e=>J b o (by simpa using d) e) y x f3 f4 u;refine⟨_,rfl,xJ (s:={s with heap:=j,toks:=B}) (n:="range_iterator") D rfl rfl (by decide) ⟨.int (f+i),H,N,⟨t,?_⟩,⟨rfl,rfl⟩,D,λb d=>(g b d).1⟩⟩;rw[Int.mul_one]
 done:=by intro X q l r p i C s A H E I g a m;subst q l r;obtain⟨y,x,f2,f3,f4,u⟩:=g c (by simp);exact wpAny_pyNext_range_end (I.ok.hd p) a (by have:n<=i:=m;lia) λj M=>⟨rfl,I.turned (t':=s.toks) (λb o d e=>M b o d e) y x f3 f4 u⟩
 self:=λ_ _ _ _ _ a h=>wpAny_pyIter_rangeiter a h
section
variable{X:Cx}{c:aD}
theorem KQ{h:List (af×Obj)}{f:St}{H:Hp}{s:ao}{R:It->Hp->Prop}{E:ai->ao->Prop}{a d:Int}{t u v:Tok}{g:Nat}(I:Inv X h f H s)(p:-(2^62)<=a)(n:a<2^62)(m:-(2^62)<=d)(l:d<2^62)(q:R (yz a (d-a).toNat) H):ar (aw X.prog X.w) X.A (nI (.ref s.heap.objs.size)) (xN X h f c R) E {s with heap:=s.heap.push {cls:=.type "range",data:=.fields #[.int a t,.int d u,.int 1 v]},toks:=g}:=by
 refine wpAny_pyIter_range (IsRange.new ..) (small_one p n m l) ?_;have i:Inv X h f H {s with heap:=s.heap.push {cls:=.type "range",data:=.fields #[.int a t,.int d u,.int 1 v]},toks:=g}:=I.kept λb o e=>bD _ e;refine⟨(s.heap.push {cls:=.type "range",data:=.fields #[.int a t,.int d u,.int 1 v]}).objs.size,[(s.heap.push {cls:=.type "range",data:=.fields #[.int a t,.int d u,.int 1 v]}).objs.size],_,_,H,rfl,i.kept (t':=g) λb o e=>bD _ e,Ob _ a (d-a).toNat,?_,λb j=>?_,q⟩
 .have w:a+((0:Nat):Int)*1=a:=by simp
  have r:(((d-a).toNat:Nat):Int)-((0:Nat):Int)=Builtin.Range.rangeSize a d 1:=by rw[rangeSize_one];split <;> lia
  show IsRangeIter _ _ (a+((0:Nat):Int)*1) ((((d-a).toNat:Nat):Int)-((0:Nat):Int)) 1;rw[w,r];exact cD _ rfl
 .have e:b=(s.heap.push {cls:=.type "range",data:=.fields #[.int a t,.int d u,.int 1 v]}).objs.size:=by simpa using j
  subst e;exact i.fpOk (a8 _) (i.hok.fresh (a8 _))
def Lb(d:TA):TI:=λa H R=>d a H λb f=>∃j:Int,b=[.int j]/\-(2^62)<=j/\j<2^62/\R (yz 0 j.toNat) f
theorem SZ{a:aD}{f:TA}{p b:Pos}(u:Gl X "range")(o:X.mg "range"=ae)(v:PA X [a] f)(n:aM [a] X.env=[(am,aX a X.env)]:=by rfl):PI X c (.Call (.Name "range" p) [a] [] b) (Lb f):=by
 intro w s g H R I h;refine Call_ (y4 I u o boot_range (PyProof.Rows.callWith_type1 (a6 (v b w s g H _ I h) λz A ⟨y,B,x,l,d⟩=>?_) n rfl));obtain⟨j,e,d,m,q⟩:=d;subst e;cases l with
 |cons r i=>
  cases i;obtain⟨t,rfl⟩:=r;exact call_range_1 (KQ x ∅ ∅ d m (by simpa using q))
def Rc(j:TI)(g:TG)(l:TS):TS:=λD a H=>j a H λJ o=>∃W:Nat->Nat->St->Hp->Prop,(∃m,W 0 m a o)/\∀i m a H,W i m a H ->
 (J.stop i H/\D.nx a H)\/(J.go i H/\∃N:St->Hp->Prop,(∀b d,N b d->∃h,h<m/\W (i+1) h b d)/\∀x d,J.yld i H x d->g x a d λf n=>l {D with nx:=N,ct:=N,bk:=D.nx} f n)
def vB(a:List af)(h:az):List (af×Obj):=a.filterMap λb=>(h.get? b).map λo=>(b,o)
theorem yQ{a:List af}{h:az}{b:af}{o:Obj}(d:b∈a)(e:h.get? b=aa o):(b,o)∈vB a h:=IR.mpr ⟨b,d,by rw[e];rfl⟩
theorem Om{a:List af}{h:az}{p:af×Obj}(d:p∈vB a h):p.1∈a/\h.get? p.1=aa p.2:=by
 obtain⟨b,f,e⟩:=IR.mp d;cases q:h.get? b with
 |none=>rw[q]at e;cases e
 |some o=>rw[q]at e;have g:(b,o)=p:=c8 e;subst g;exact⟨f,q⟩
theorem Inv.pinned{f:List (af×Obj)}{g:St}{H:Hp}{s:ao}{a:List af}(I:Inv X f g H s)(m:∀b∈a,lz X f H b)(l:∀b∈a,∃o,s.heap.get? b=aa o/\∀v,o.data≠.cell v):Inv X (f++vB a s.heap) g H s :=
 I.pins_of λp j=>(fO.mp j).elim (λz=>I.pin p (lB _ z)) λz=>by
  obtain⟨h,e⟩:=Om z;obtain⟨q,n,f2,_⟩:=m p.1 h;obtain⟨o,i,d⟩:=l p.1 h;rw[e]at i;cases i;exact⟨e,q,n,f2,d⟩
theorem Inv.unpinned{b d:List (af×Obj)}{a:St}{H:Hp}{s:ao}(I:Inv X (b++d) a H s):Inv X b a H s:=I.pins_of λp f=>I.pin p (lB _ (zr _ f))
theorem GA{q:aD}{E:List bg}{wi:TI}{g:TG}{tb:TS}{Y:Pos}(L:zt (aw X.prog X.w) X.A X.env X.xe)(hc:X.calm=ag)(hi:PI X c q wi)(hg:PG X c g)(w:lr X E tb)(hs:∀x,o8 q X.env x=pure x:=by intro _;rfl):PS X (.For c q E [] Y) (Rc wi g tb):=by
 intro F s σ H D I h;refine wpAny_For (a6 (hi F s σ H _ I h) λv s1 h1=>a6 h1 λitv s2 h2=>?_) hs;obtain⟨it,O,tn,J,H2,e,I2,T,ba,f2,W,⟨m0,w0⟩,G⟩:=h2;subst e;have p:∀{B:Hp},(∀b∈O,B b=ae)->∀b∈O,lz X F B b:=λhn b w=>⟨hn b w,(f2 b w).2⟩
 refine codeAny_forLoop_any (λn s'=>∃i l B,Inv X F l B s'/\tn i s'.heap/\(∀b∈O,B b=ae)/\W i n l B) ?_ m0 ⟨0,σ,H2,I2,ba,λb w=>(f2 b w).1,w0⟩;rintro n s3 ⟨i,j,P,I3,bI,M,w3⟩;rcases G i n j P w3 with⟨stop,qn⟩|⟨go,N,hN,step⟩
 .refine tF L (a6 (T.done X rfl rfl rfl hc i F s3 j P X.xe I3 (p M) bI stop) λr s4 ζ=>?_);obtain⟨Z,I4⟩:=ζ;subst Z;exact vT ⟨j,P,I4,qn⟩
 .refine tF L (a6 (T.item X rfl rfl rfl hc i F s3 j P X.xe I3 (p M) bI go) λr s4 ζ=>?_);obtain⟨u,Z,h4⟩:=ζ;subst Z;refine tF L (a6 h4 λ_ s5 ζ=>?_);obtain⟨x,H5,I5,r5,y5,cr,fr5⟩:=ζ;have I5':=I5.pinned (p fr5) (T.obj _ _ cr);refine tF L (a6 (hg _ s5 j H5 x u _ I5' r5 (step x H5 y5)) λ_ s6 ζ=>?_);obtain⟨Q,H6,I6,q6⟩:=ζ;refine tF L (a6 (w _ s6 Q H6 _ I6 q6) λf S C=>?_);have y:∀{a:St}{A:Hp},Inv X (F++vB O s5.heap) a A S->N a A->∃m,m<n/\∃i l B,Inv X F l B S/\tn i S.heap/\(∀b∈O,B b=ae)/\W i m l B:=λ{a A} z K=>by obtain⟨m',hm,w7⟩:=hN a A K;refine⟨m',hm,i+1,a,A,z.unpinned,T.keep _ _ _ cr λb w o e=>(z.pin (b,o) (lB _ (lB _ (yQ w e)))).1,λb w=>?_,w7⟩;obtain⟨o,e,d⟩:=T.obj _ _ cr b w;exact(z.pin (b,o) (lB _ (lB _ (yQ w e)))).2.1
  cases f with
  |next=>obtain⟨a,A,z,K⟩:=C;exact y z K
  |cont=>obtain⟨a,A,z,K⟩:=C;exact y z K
  |brk=>obtain⟨a,A,z,C⟩:=C;exact⟨a,A,z.unpinned,C⟩
  |ret v=>obtain⟨x7,a,A,z,r7,C⟩:=C;exact⟨x7,a,A,z.unpinned,r7,C⟩
end
abbrev R2:=V->V->Hp->VK->Prop
def bT(X:Cx)(f:ai->ai->Sem ai)(r:R2):Prop :=
 ∀(b:List (af×Obj)) (s:ao) (a:St) (H:Hp) (x y:V) (v u:ai) (Q:VK),Inv X b a H s->RelV x v->RelV y u->r x y H Q ->
  ar (aw X.prog X.w) X.A (f v u) (EP X b a Q) X.xe s
def zk(X:Cx)(f:ai->Sem ai)(r:V->Hp->VK->Prop):Prop :=
 ∀(b:List (af×Obj)) (s:ao) (a:St) (H:Hp) (x:V) (v:ai) (Q:VK),Inv X b a H s->RelV x v->r x H Q ->
  ar (aw X.prog X.w) X.A (f v) (EP X b a Q) X.xe s
def dE(X:Cx)(f:ai)(r:List V->Hp->VK->Prop):Prop :=
 ∀(c:List (af×Obj)) (s:ao) (a:St) (H:Hp) (xs:List V) (b:List ai) (Q:VK),Inv X c a H s->bj xs b->r xs H Q ->
  ar (aw X.prog X.w) X.A (call f b) (EP X c a Q) X.xe s
def xS(r:R2)(c b:TE):TE:=λa H Q=>c a H λx f=>b a f λy d=>r x y d Q
def Q2(r:V->Hp->VK->Prop)(b:TE):TE:=λa H Q=>b a H λx c=>r x c Q
def rI(C:Int->Int->Prop)(g:Int->Int->V):R2:=λx y H Q=>∃i j,x=.int i/\y=.int j/\C i j/\Q (g i j) H
def l9(g:Int->Int->V):R2:=λx y H Q=>∃i j,x=.int i/\y=.int j/\Q (g i j) H
def rU(g:Int->V):V->Hp->VK->Prop:=λx H Q=>∃i,x=.int i/\Q (g i) H
section
variable{X:Cx}{a b c:aD}{d m n:TE}{l:Pos}
theorem Ci(F:PE X a d)(E:PE X b m){q:List (af×Obj)}{s:ao}{g:St}{H:Hp}{R:V->V->Hp->Prop}(I:Inv X q g H s)(h:d g H λx r=>m g r λy i=>R x y i) {Q:ai->ao->Prop}{f:ai->ai->Sem ai}(D:∀v u p x y i,Inv X q g i p->RelV x v->RelV y u->R x y i->ar (aw X.prog X.w) X.A (f v u) Q X.xe p):ar (aw X.prog X.w) X.A (aX a X.env) (λv o=>ar (aw X.prog X.w) X.A (aX b X.env) (λu j=>ar (aw X.prog X.w) X.A (f v u) Q X.xe j) X.xe o) X.xe s:=by refine a6 (F q s g H _ I h) λv w ⟨x,r,J,A,C⟩=>?_;refine a6 (E q w g r _ J C) λu p ζ=>?_;obtain⟨y,i,G,z,B⟩:=ζ;exact D v u p x y i G A z B
theorem Kj{f:Operator}{r:R2}(p:bT X (iN f) r)(z:PE X a d)(w:PE X b m):PE X (.BinOp a f b l) (xS r d m):=by intro A s g H Q I h;exact wpAny_BinOp (Ci z w I h λv u i x y C B o j q=>p A i g C x y v u Q B o j q)
theorem Rg{g:UnaryOp}{r:V->Hp->VK->Prop}(q:zk X (unaryOp g) r)(u:PE X a d):PE X (.UnaryOp g a l) (Q2 r d):=by intro i s f H Q I h;exact UnaryOp_ (a6 (u i s f H _ I h) λv j ⟨x,y,w,o,p⟩=>q i j f y x v Q w o p)
theorem BM{f:ai->ai->Sem ai}{C:Int->Int->Prop}{g:Int->Int->Int}(o:∀(i j:Int) (t u:Tok) (s:ao) (Q:ai->ao->Prop) (E:ai->ao->Prop),C i j->Q (.int (g i j) s.toks) {s with toks:=s.toks+1}->ar (aw X.prog X.w) X.A (f (.int i t) (.int j u)) Q E s):bT X f (rI C λi j=>.int (g i j)):=by intro B s A H x y v u Q I w r h;obtain⟨i,j,rfl,rfl,z,q⟩:=h;obtain⟨t,rfl⟩:=w;obtain⟨p,rfl⟩:=r;exact o i j t p s _ _ z ⟨.int (g i j),H,I.tok _,⟨_,rfl⟩,q⟩
theorem GE{f:ai->ai->Sem ai}{g:Int->Int->Int}(o:∀(i j:Int) (t u:Tok) (s:ao) (Q:ai->ao->Prop) (E:ai->ao->Prop),Q (.int (g i j) s.toks) {s with toks:=s.toks+1}->ar (aw X.prog X.w) X.A (f (.int i t) (.int j u)) Q E s):bT X f (l9 λi j=>.int (g i j)):=by intro A s z H x y v u Q I w r h;obtain⟨i,j,rfl,rfl,q⟩:=h;obtain⟨t,rfl⟩:=w;obtain⟨p,rfl⟩:=r;exact o i j t p s _ _ ⟨.int (g i j),H,I.tok _,⟨_,rfl⟩,q⟩
theorem CG{f:ai->ai->Sem ai}{g:Int->Int->Bool}(o:∀(i j:Int) (t u:Tok) (s:ao) (Q:ai->ao->Prop) (E:ai->ao->Prop),Q (.bool (g i j)) s->ar (aw X.prog X.w) X.A (f (.int i t) (.int j u)) Q E s):bT X f (l9 λi j=>.bl (g i j)):=by intro A s z H x y v u Q I w r h;obtain⟨i,j,rfl,rfl,q⟩:=h;obtain⟨t,rfl⟩:=w;obtain⟨p,rfl⟩:=r;exact o i j t p s _ _ ⟨.bl (g i j),H,I,rfl,q⟩
def FO(i j:Int):Prop:=0<=j/\j<=1000000/\i.natAbs<2^64
def BH(i j:Int):Prop:=(-(2^64)<i/\i<2^64)\/(-(2^64)<j/\j<2^64)
theorem BH.ok{i j:Int}(h:BH i j):IntMulOk i j:=by
 rcases h with⟨h1,h2⟩|⟨h1,h2⟩
 .exact .of_left (intBits_le_64 h1 h2)
 .exact .of_right (intBits_le_64 h1 h2)
theorem Ui:bT X (iN .Add) (l9 λi j=>.int (i+j)):=GE λ_ _ _ _ _ _ _ q=>add_int q
theorem uH:bT X (iN .Sub) (l9 λi j=>.int (i-j)):=GE λ_ _ _ _ _ _ _ q=>sub_int q
theorem T9:bT X (iN .Mult) (rI BH λi j=>.int (i*j)):=BM λ_ _ _ _ _ _ _ f q=>mul_int q f.ok
theorem rN:bT X (iN .Mod) (rI (λ_ j=>0<j) λi j=>.int (i % j)):=BM λi j _ _ _ _ _ f q=>by have g:(0:Int)<j:=f;exact mod_int' ∅ (by rw[Int.fmod_eq_emod_of_nonneg i ∅];exact q)
theorem Rh:bT X (iN .Pow) (rI FO λi j=>.int (i^j.toNat)):=BM λ_ _ _ _ _ _ _ f q=>pow_int_small f.1 f.2.1 f.2.2 q
theorem KZ{f:ai->Sem ai}{g:Int->Int}(j:∀(i:Int) (t:Tok) (s:ao) (Q:ai->ao->Prop) (E:ai->ao->Prop),Q (.int (g i) s.toks) {s with toks:=s.toks+1}->ar (aw X.prog X.w) X.A (f (.int i t)) Q E s):zk X f (rU λi=>.int (g i)):=by intro r s p H x v Q I o h;obtain⟨i,rfl,q⟩:=h;obtain⟨t,rfl⟩:=o;exact j i t s _ _ ⟨.int (g i),H,I.tok _,⟨_,rfl⟩,q⟩
theorem FJ:zk X (unaryOp .USub) (rU λi=>.int (-i)):=KZ λ_ _ _ _ _ q=>neg_int q
end
def vo:V->V->Bool
 |.non,.non=>ag|.non,.int _=>ag|.int _,.non=>ag|.non,.bl _=>ag|.bl _,.non=>ag|.non,.str _=>ag|.str _,.non=>ag
 |.int _,.int _=>ag|.bl _,.bl _=>ag|.str _,.str _=>ag|.byt _,.byt _=>ag
 |.int _,.str _=>ag|.str _,.int _=>ag|.bl _,.str _=>ag|.str _,.bl _=>ag
 |_,_=>am
def GW:R2:=λx y H Q=>vo x y=ag/\Q (.bl (decide (x=y))) H
def FV:R2:=λx y H Q=>vo x y=ag/\Q (.bl (!decide (x=y))) H
theorem GI{i j:Int}:decide (V.int i=V.int j)=(i == j):=by rw[kc];simp
theorem Ga{i j:Bool}:decide (V.bl i=V.bl j)=(i == j):=by rw[kc];simp
theorem Fl{i j:Str}:decide (V.str i=V.str j)=(i == j):=by rw[kc];simp
theorem IG{i j:Array UInt8}:decide (V.byt i=V.byt j)=(i.toList == j.toList):=by
 rw[kc];cases i;cases j;simp
section
variable{X:Cx}{a b c:aD}{l g o:TE}{m:Pos}
theorem dI{h:List (af×Obj)}{d:St}{H:Hp}{s:ao}{Q:VK}{k f:Bool}(I:Inv X h d H s)(q:Q (.bl k) H)(e:k=f):EP X h d Q (.bool f) s:=by subst e;exact⟨.bl k,H,I,rfl,q⟩
theorem Ue:bT X (eE .Eq) GW:=by
 intro w s r H x y v u Q I p d h;obtain⟨n,q⟩:=h;cases x with
 |non=>
  cases p;cases y with
  |non=>cases d;exact PySem.EqNone.eq_none_none (dI I q (by simp))
  |bl j=>cases d;exact PySem.EqNone.eq_none_bool (dI I q (by simp))
  |int j=>obtain⟨f,rfl⟩:=d;exact PySem.EqNone.eq_none_int (dI I q (by simp))
  |str j=>obtain⟨f,rfl⟩:=d;exact PySem.EqNone.eq_none_str (dI I q (by simp))
  |_=>exact absurd (show am=ag from n) eP
 |bl i=>
  cases p;cases y with
  |non=>cases d;exact PySem.EqNone.eq_bool_none (dI I q (by simp))
  |bl j=>cases d;exact eq_bool (dI I q Ga)
  |str j=>obtain⟨f,rfl⟩:=d;exact PySem.EqMixed.eq_bool_str (dI I q (by simp))
  |_=>exact absurd (show am=ag from n) eP
 |int i=>
  obtain⟨t,rfl⟩:=p;cases y with
  |non=>cases d;exact PySem.EqNone.eq_int_none (dI I q (by simp))
  |int j=>obtain⟨f,rfl⟩:=d;exact eq_int (dI I q GI)
  |str j=>obtain⟨f,rfl⟩:=d;exact PySem.EqMixed.eq_int_str (dI I q (by simp))
  |_=>exact absurd (show am=ag from n) eP
 |str i=>
  obtain⟨t,rfl⟩:=p;cases y with
  |non=>cases d;exact PySem.EqNone.eq_str_none (dI I q (by simp))
  |bl j=>cases d;exact PySem.EqMixed.eq_str_bool (dI I q (by simp))
  |int j=>obtain⟨f,rfl⟩:=d;exact PySem.EqMixed.eq_str_int (dI I q (by simp))
  |str j=>obtain⟨f,rfl⟩:=d;exact eq_str (dI I q Fl)
  |_=>exact absurd (show am=ag from n) eP
 |byt i=>
  obtain⟨t,rfl⟩:=p;cases y with
  |byt j=>obtain⟨f,rfl⟩:=d;exact PySem.W.eq_bytes (dI I q IG)
  |_=>exact absurd (show am=ag from n) eP
 |_=>cases y <;> exact absurd (show am=ag from n) eP
theorem Ur:bT X (eE .NotEq) FV:=by
 intro w s r H x y v u Q I p d h;obtain⟨n,q⟩:=h;cases x with
 |non=>
  cases p;cases y with
  |non=>cases d;exact PySem.EqNone.ne_none_none (dI I q (by simp))
  |bl j=>cases d;exact PySem.EqNone.ne_none_bool (dI I q (by simp))
  |int j=>obtain⟨f,rfl⟩:=d;exact PySem.EqNone.ne_none_int (dI I q (by simp))
  |str j=>obtain⟨f,rfl⟩:=d;exact PySem.EqNone.ne_none_str (dI I q (by simp))
  |_=>exact absurd (show am=ag from n) eP
 |bl i=>
  cases p;cases y with
  |non=>cases d;exact PySem.EqNone.ne_bool_none (dI I q (by simp))
  |bl j=>cases d;exact ne_bool (dI I q (congrArg not Ga))
  |str j=>obtain⟨f,rfl⟩:=d;exact PySem.EqMixed.ne_bool_str (dI I q (by simp))
  |_=>exact absurd (show am=ag from n) eP
 |int i=>
  obtain⟨t,rfl⟩:=p;cases y with
  |non=>cases d;exact PySem.EqNone.ne_int_none (dI I q (by simp))
  |int j=>obtain⟨f,rfl⟩:=d;exact ne_int (dI I q (congrArg not GI))
  |str j=>obtain⟨f,rfl⟩:=d;exact PySem.EqMixed.ne_int_str (dI I q (by simp))
  |_=>exact absurd (show am=ag from n) eP
 |str i=>
  obtain⟨t,rfl⟩:=p;cases y with
  |non=>cases d;exact PySem.EqNone.ne_str_none (dI I q (by simp))
  |bl j=>cases d;exact PySem.EqMixed.ne_str_bool (dI I q (by simp))
  |int j=>obtain⟨f,rfl⟩:=d;exact PySem.EqMixed.ne_str_int (dI I q (by simp))
  |str j=>obtain⟨f,rfl⟩:=d;exact ne_str (dI I q (congrArg not Fl))
  |_=>exact absurd (show am=ag from n) eP
 |byt i=>
  obtain⟨t,rfl⟩:=p;cases y with
  |byt j=>obtain⟨f,rfl⟩:=d;exact PySem.W.ne_bytes (dI I q (congrArg not IG))
  |_=>exact absurd (show am=ag from n) eP
 |_=>cases y <;> exact absurd (show am=ag from n) eP
theorem Ro:bT X (eE .Lt) (l9 λi j=>.bl (decide (i<j))):=CG λ_ _ _ _ _ _ _ q=>lt_int q
theorem rG:bT X (eE .LtE) (l9 λi j=>.bl (decide (i<=j))):=CG λ_ _ _ _ _ _ _ q=>le_int q
theorem u0:bT X (eE .Gt) (l9 λi j=>.bl (decide (j<i))):=CG λ_ _ _ _ _ _ _ q=>gt_int q
theorem Ub:bT X (eE .In) (λx y H Q=>∃i j,x=.str i/\y=.str j/\Q (.bl (!(IS j i 0 j.length 1).isEmpty)) H):=by intro r s n H x y v u Q I f d h;obtain⟨i,j,rfl,rfl,q⟩:=h;obtain⟨t,rfl⟩:=f;obtain⟨p,rfl⟩:=d;exact in_str (dI I q rfl)
theorem bT.or{f:ai->ai->Sem ai}{r n:R2}(h:bT X f r)(w:bT X f n):bT X f (λx y H Q=>r x y H Q\/n x y H Q):=by
 intro p s d H x y v u Q I j i q;rcases q with q|q
 .exact h p s d H x y v u Q I j i q
 .exact w p s d H x y v u Q I j i q
theorem Q0{d:CmpOp}{r:R2}(p:bT X (eE d) r)(A:PE X a l)(z:PE X b g)(w:zu d b=am):PE X (.Compare a [d] [b] m) (xS r l g):=by intro B s f H Q I h;exact wpAny_Compare1 (Ci A z I h λv u i x y D C n j q=>p B i f D x y v u Q C n j q) w
def Gg(t:TE):TT:=λd H Q=>t d H λx f=>∃k,x=.bl k/\Q k f
theorem FQ{f:CmpOp}{r:R2}(D:bT X (eE f) r)(G:PE X a l)(F:PE X b g)(E:zu f b=am):PT X (.Compare a [f] [b] m) (Gg (xS r l g)):=by
 intro i s d H Q I h;refine wpAny_isTrue_Compare1 (a6 (G i s d H _ I h) λv n ⟨x,O,L,w,C⟩=>a6 (F i n d O _ L C) λu j ⟨y,N,K,q,B⟩=>a6 (D i j d N x y v u _ K w q B) λc P ⟨z,M,J,p,k,e,A⟩=>?_) E;subst e;cases p;exact qy ⟨M,J,A⟩
def AN(r i:R2)(l g o:TE):TE:=λd H Q=>l d H λx p=>g d p λy n=>r x y n λz f=>∃k,z=.bl k /\
 (if k=ag then o d f λh j=>i y h j Q else Q (.bl am) f)
theorem Qb{n f:CmpOp}{r q:R2}(S:bT X (eE n) r)(eY:bT X (eE f) q)(Z:PE X a l)(Y:PE X b g)(W:PE X c o)(T:lastMarks [n,f] [b,c]=am:=by with_unfolding_all rfl):PE X (.Compare a [n,f] [b,c] m) (AN r q l g o):=by
 intro j s i H Q I h;refine Compare_chain (a6 (Z j s i H _ I h) λv J ⟨x,H1,I1,M,P⟩=>chain_link (a6 (Y j J i H1 _ I1 P) λu G ⟨y,H2,I2,p,O⟩=>a6 (S j G i H2 x y v u _ I2 M p O) λd F ⟨z,B,A,L,k,e,w⟩=>?_)) T;subst e;cases L;refine qy ?_;cases k with
 |false=>exact ite_ff ⟨.bl am,B,A,rfl,w⟩
 |true=>exact ite_tt (chain_last (a6 (W j F i B _ A w) λD E ⟨C,H4,I4,K,N⟩=>eY j E i H4 y C u D Q I4 p K N))
theorem QD{n f:CmpOp}{r q:R2}(Y:bT X (eE n) r)(eY:bT X (eE f) q)(ha:PE X a l)(hb:PE X b g)(hc:PE X c o)(Z:lastMarks [n,f] [b,c]=am:=by with_unfolding_all rfl):PT X (.Compare a [n,f] [b,c] m) (Gg (AN r q l g o)):=by
 intro j s i H Q I h;refine isTrue_chain (a6 (ha j s i H _ I h) λv J ⟨x,H1,I1,N,T⟩=>test_link (a6 (hb j J i H1 _ I1 T) λu G ⟨y,H2,I2,p,S⟩=>a6 (Y j G i H2 x y v u _ I2 N p S) λd F ⟨z,B,A,M,k,e,w⟩=>?_)) Z;subst e;cases M;refine qy ?_;cases k with
 |false=>
  obtain⟨k',e',W⟩:=w;cases e';exact ite_ff ⟨B,A,W⟩
 |true=>
  refine ite_tt (test_last (a6 (hc j F i B _ A w) λD E ⟨C,H4,I4,L,P⟩=>a6 (eY j E i H4 y C u D _ I4 p L P) λd' s5 ζ=>?_));obtain⟨z2,H5,I5,K,k2,e2,O⟩:=ζ;subst e2;cases K;exact qy ⟨H5,I5,O⟩
theorem sh:(bn:Nat)<2^63:=by rw[qz];decide
theorem Nb:bT X (iN .Add) (λx y H Q=>∃i j,x=.str i/\y=.str j/\i.length+j.length<=bn/\Q (.str (i++j)) H):=by intro z s r H x y v u Q I n f h;obtain⟨i,j,rfl,rfl,p,q⟩:=h;obtain⟨t,rfl⟩:=n;obtain⟨d,rfl⟩:=f;exact add_str (λd w=>⟨.str (i++j),H,I.tok _,⟨_,rfl⟩,q⟩) p
theorem vals1{x:V}{d:List ai}(r:bj [x] d):∃u,d=[u]/\RelV x u:=by
 cases r with
 |cons h f=>cases f;exact⟨_,rfl,h⟩
theorem vals2{x y:V}{f:List ai}(r:bj [x,y] f):∃u d,f=[u,d]/\RelV x u/\RelV y d:=by
 cases r with
 |cons n j=>
  cases j with
  |cons i h=>cases h;exact⟨_,_,rfl,n,i⟩
def Fi(K:ay)(x:V)(H:Hp)(n:Nat):Prop :=
 match x with
 |.str y=>y.length<=bn/\n=y.length
 |.byt y=>y.size<=bn/\n=y.size
 |.ref p=>(∃xs,cf K H p xs/\n=xs.length)\/∃xs,cH K H p xs/\n=xs.length
 |_=>False
theorem jl:dE X (.builtin "len") (λxs H Q=>∃x n,xs=[x]/\Fi X.K x H n/\Q (.int n) H):=by
 intro F s B H xs C Q I r h;obtain⟨x,n,rfl,e,q⟩:=h;obtain⟨u,rfl,f⟩:=vals1 r;have E:=sh;have D:bn=16777216:=qz;cases x with
 |str y=>obtain⟨t,rfl⟩:=f;obtain⟨A,d⟩:y.length<=bn/\n=y.length:=e;subst d;exact len_str ∅ ⟨.int _,H,I.tok _,⟨_,rfl⟩,q⟩
 |byt y=>obtain⟨t,rfl⟩:=f;obtain⟨A,d⟩:y.size<=bn/\n=y.size:=e;subst d;exact PySem.W.len_bytes ∅ ⟨.int _,H,I.tok _,⟨_,rfl⟩,q⟩
 |ref p=>
  cases f;have d:(∃xs,cf X.K H p xs/\n=xs.length)\/∃xs,cH X.K H p xs/\n=xs.length:=e;rcases d with⟨xs,hx,d⟩|⟨xs,hx,d⟩
  .subst d;obtain⟨v,i,j,z⟩:=I.list hx;have w:=i.length;exact Calls.call_len_list j.isList (by simp only[cc];lia) ⟨.int xs.length,H,I.tok _,⟨_,by simp only[cc];rw[w]⟩,q⟩
  .subst d;obtain⟨v,i,j,z⟩:=I.tuple hx;have w:=i.length;exact len_tuple j (by simp only[cc];lia) ⟨.int xs.length,H,I.tok _,⟨_,by simp only[cc];rw[w]⟩,q⟩
 |_=>exact(show False from e).elim
end
structure ID(h:az)(x dx C:af)(mA:Str->Option ai):Prop where
 obj:h.get? x=aa (PySem.W.instObj C dx)
 ns:h.Ns1 dx mA
 ne:dx≠x
theorem QR{h:az}{g:af}{d:Str->Option ai}(n:h.Ns1 g d):∃c,h.get? g=aa c/\∀b,PySem.W.lookIn b c=aa (d b):=by
 obtain⟨o,f,u,l,r,p,_,m⟩:=n;refine⟨o,l,λb=>?_⟩;have e:=m b;unfold nsFind findBy at e;rw[<-Array.find?_toList]at e;unfold PySem.W.lookIn;rw[r];dsimp only;split
 .rename_i y q;rw[q]at e;exact congrArg aa e
 .rename_i q;rw[q]at e;have a:f.toList.any (·.refKey)=am:=by rw[IT];intro y j;obtain⟨z,t,i⟩:=p y (Array.mem_toList_iff.mp j);simp[DictEntry.refKey,i]
  have s:¬f.toList.any (·.refKey)=ag:=by rw[a];exact eP
  rw[if_neg s];exact congrArg aa e
theorem ID.look{h:az}{x d C:af}{c:Str->Option ai}(I:ID h x d C c):∃b,vU h x (PySem.W.instObj C d) C (aa b)/\∀a,PySem.W.lookIn a b=aa (c a) :=
 let ⟨b,ho,hl⟩:=QR I.ns
 ⟨b,⟨I.obj,rfl,rfl,ho⟩,hl⟩
theorem o5.some_of{v:V}{o:Option ai}(r:o5 (aa v) o):∃u,o=aa u/\RelV v u:=by
 cases o with
 |none=>exact(show False from r).elim
 |some u=>exact⟨u,rfl,r⟩
section
variable{P:aO}{w:aG}{H i:Hp}{h g:az}{a C b:af}{fs c:List (Str×V)}
theorem ON(l:cX P w H h)(e:H a=aa (.ins C b fs)):∃j,ID h a b C j/\(∀f,o5 (fs.lookup f) (j f))/\PySem.Within j (fs.map (·.1))/\fs.length<=1000/\H b=aa (.own a):=by
 obtain⟨d,z,o,m,j,n,r,q⟩:=(show cm P w H h a (.ins C b fs)from l a _ e)
 exact⟨j,⟨m,n,o⟩,r,q,z,d⟩
end
structure GT(K:ay)(C:af):Prop where
 pg:PySem.W.plainGet K C ke=ag
 hd:PySem.W.hasDictIn K C=ag
 po:PySem.W.plainOver K C=ag
 sa:qA K (.ref C) "__setattr__"=aa (aa (.builtin "object.__setattr__"))
theorem GT.get{K:ay}{C:af}(c:GT K C)(f:Str):PySem.W.plainGet K C f=ag:=c.pg
section
variable{X:Cx}{f:List (af×Obj)}{d:St}{H:Hp}{s:ao}{A:aR}{E:ai->ao->Prop}{Q:ai->ao->Prop}{c:ai}{b:Bool}
inductive i6(K:ay)(H:Hp):V->ai->Prop where
 |non:i6 K H .non (.type "NoneType")
 |bl (x:Bool):i6 K H (.bl x) (.type "bool")
 |int (i:Int):i6 K H (.int i) (.type "int")
 |str (x:Str):i6 K H (.str x) (.type "str")
 |flt (x:UInt64):i6 K H (.flt x) (.type "float")
 |lst {a:af}{xs:List V} (e:H a=aa (.lst xs)):i6 K H (.ref a) (.type "list")
 |frz {a:af}{o:Obj}{xs:List V} (e:H a=aa (.frz o (.lst xs))):i6 K H (.ref a) (.type "list")
 |tup {a:af}{xs:List V} (e:H a=aa (.tup xs)):i6 K H (.ref a) (.type "tuple")
 |dK {a:af}{kvs:List (aN×V)} (e:H a=aa (.dK kvs)):i6 K H (.ref a) (.type "dict")
 |dT {a:af}{kvs:List (List aN×V)} (e:H a=aa (.dT kvs)):i6 K H (.ref a) (.type "dict")
 |ins {a C dx:af}{fs:List (Str×V)} (e:H a=aa (.ins C dx fs)) (cl:GT K C) (ha:qA K (.ref C) "__class__"=aa (aa (.builtin "object.__class__")))
   (hn:IU K (.builtin "object.__class__") "__get__"=aa (aa (.builtin "getset_descriptor.__get__"))) (qY:PySem.W.takesIn K (.builtin "object.__class__")=aa ag)
   (hm:zv K C (.type "object")=aa ag):i6 K H (.ref a) (.ref C)
theorem NN{x:V}{u t:ai}(I:Inv X f d H s)(g:RelV x u)(ty:i6 X.K H x t)(e:iO X.K t c=aa b)(h:∀m,Q (.bool b) {s with toks:=m}):ar (aw X.prog X.w) A (call (.builtin "isinstance") [u,c]) Q E s:=by
 cases ty with
 |non=>cases (show u=Value.none from g);exact lC PySem.W.kitx_none I.kIn True.intro e (λz=>nomatch z) h
 |bl y=>cases (show u=Value.bool y from g);exact lC PySem.W.kitx_bool I.kIn True.intro e (λz=>nomatch z) h
 |int i=>obtain⟨t,q⟩:=(show ∃t,u=Value.int i t from g);cases q;exact lC PySem.W.kitx_int I.kIn True.intro e (λz=>nomatch z) h
 |str y=>obtain⟨t,q⟩:=(show ∃t,u=Value.str y t from g);cases q;exact lC PySem.W.kitx_str I.kIn True.intro e (λz=>nomatch z) h
 |flt y=>obtain⟨t,q⟩:=(show ∃t,u=Value.float y t from g);cases q;exact lC PySem.W.kitx_float I.kIn True.intro e (λz=>nomatch z) h
 |@lst a xs ea=>
  cases (show u=Value.ref a from g);obtain⟨_,_,n,_,j⟩:=(show cm X.prog X.w H s.heap a (.lst xs)from I.hok a _ ea)
  exact lC PySem.W.kitx_list I.kIn ⟨_,j,rfl⟩ e (λz=>nomatch z) h
 |@frz a ob xs ea=>
  cases (show u=Value.ref a from g);obtain⟨_,_,_,n,_,j⟩:=(show cm X.prog X.w H s.heap a (.frz ob (.lst xs))from I.hok a _ ea)
  exact lC PySem.W.kitx_list I.kIn ⟨_,j,rfl⟩ e (λz=>nomatch z) h
 |@tup a xs ea=>
  cases (show u=Value.ref a from g);obtain⟨_,_,_,p,_⟩:=(show cm X.prog X.w H s.heap a (.tup xs)from I.hok a _ ea)
  obtain⟨o,j,l,_⟩:=p;exact lC PySem.W.kitx_tuple I.kIn ⟨o,j,l⟩ e (λz=>nomatch z) h
 |@dK a kvs ea=>
  cases (show u=Value.ref a from g);obtain⟨_,_,w,_,p⟩:=(show cm X.prog X.w H s.heap a (.dK kvs)from I.hok a _ ea)
  obtain⟨o,r,v,j,l,_⟩:=p;exact lC PySem.W.kitx_dict I.kIn ⟨o,j,l.1⟩ e (λz=>nomatch z) h
 |@dT a kvs ea=>
  cases (show u=Value.ref a from g);obtain⟨_,_,xs,_,o,r,v,j,l,_⟩:=(show cm X.prog X.w H s.heap a (.dT kvs)from I.hok a _ ea)
  exact lC PySem.W.kitx_dict I.kIn ⟨o,j,l.1⟩ e (λz=>nomatch z) h
 |@ins a C dx fs ea cl ha hn qY hm=>
  cases (show u=Value.ref a from g);obtain⟨D,O,_⟩:=ON I.hok ea;obtain⟨B,J,_⟩:=O.look;exact lC (PySem.W.kitx_own (cl.get _) cl.hd ha hn qY hm) I.kIn J e (λz=>nomatch z) h
end
structure f8(k:Nat)(A:aR):Prop where
 hd:A.handled=ae
 dp:A.depth+3*k+5<recursionLimit
 un:A.units+16*k+200<cLine
theorem f8.mono{j k:Nat}{A:aR}(r:f8 k A)(h:j<=k):f8 j A:=⟨r.hd,by have:=r.dp;lia,by have:=r.un;lia⟩
theorem f8.deeper{k:Nat}{A:aR}(r:f8 (k+1) A)(a:Env):f8 k (A.deeper a) :=⟨r.hd,by have:=r.dp;show A.depth+1+3*k+5<_;lia,by have:=r.un;show A.units+3+16*k+200<_;lia⟩
theorem f8.depth{k:Nat}{A:aR}(r:f8 k A):A.depth<recursionLimit:=by have:=r.dp;lia
theorem f8.units{k:Nat}{A:aR}(r:f8 k A):A.units+64<cLine:=by have:=r.un;lia
def NB:TA:=λ_ H Q=>Q [] H
def Nm(c:TE)(b:TA):TA:=λa H Q=>c a H λx f=>b a f λxs d=>Q (x::xs) d
section
variable{X:Cx}{e:aD}{es:List aD}{c:TE}{t:TA}{a:Pos}
theorem iG:PA X [] NB:=λ_ _ _ _ H Q I h=>IV ⟨[],H,I,.nil,h⟩
theorem gB(o:PE X e c)(n:PA X es t)(m:aM (e::es) X.env=(am,aX e X.env)::aM es X.env:=by rfl):PA X (e::es) (Nm c t):=by intro a d s b H Q I h;rw[m];show ar _ _ (spliced ((am,aX e X.env)::cE a (aM es X.env))) _ _ s;refine CK (a6 (o d s b H _ I h) λu f ζ=>?_);obtain⟨x,v,q,i,l⟩:=ζ;exact a6 (n a d f b v _ q l) λw y ⟨xs,r,p,g,j⟩=>⟨x::xs,r,p,.cons i g,j⟩
def OV(t:TA):TE:=λd H Q=>t d H λxs b=>xs.length<=bn/\∀p,b p=ae->Q (.ref p) (upd b p (.tup xs))
def K8(t:TA):TE:=λd H Q=>t d H λxs b=>xs.length<=bn/\∀p,b p=ae->Q (.ref p) (upd b p (.lst xs))
theorem Mo{x1}(h:PA X es t):PE X (.Tuple es x1 a) (OV t):=by intro n s i H Q I l;refine wpAny_Tuple_spliced (a6 (h a n s i H _ I l) λj d ⟨xs,g,f,r,z,q⟩=>⟨by rw[<-r.length];exact z,?_⟩);have m:g d.heap.objs.size=ae:=f.hok.fresh (a8 _);refine⟨.ref d.heap.objs.size,upd g d.heap.objs.size (.tup xs),f.laid (t':=d.toks) (λb u e=>bD _ e) (a8 _) ?_,rfl,q _ m⟩;exact⟨z,j,r,⟨⟨_,cD _ rfl,rfl,_,rfl⟩,_,cD _ rfl,rfl⟩⟩
theorem R9(h:PA X es t):PE X (.List es a) (K8 t):=by intro n s i H Q I l;refine wpAny_List_spliced (a6 (h a n s i H _ I l) λj d ⟨xs,g,f,r,z,q⟩=>⟨by rw[<-r.length];exact z,?_⟩);have m:g d.heap.objs.size=ae:=f.hok.fresh (a8 _);refine⟨.ref d.heap.objs.size,upd g d.heap.objs.size (.lst xs),f.laid (t':=d.toks) (λb u e=>bD _ e) (a8 _) ?_,rfl,q _ m⟩;exact⟨z,j,0,r,cD _ rfl⟩
end
abbrev Sp:=List V->Hp->VK->XK->Prop
abbrev gS:=List Env->Hp->ao->XK->ai->ao->Prop
structure rZ(P:aO)(w:aG)(K:ay)(mg:Str->Option ai)(base:az)(A:aR)(outer:List Env)(s:ao)(H:Hp):Prop where
 frames:A.frames=aa outer
 mod:Mod K mg base
 bs:∀b o,base.get? b=aa o->s.heap.get? b=aa o/\H b=ae
 bsz:base.objs.size<=s.heap.objs.size
 funs:s.heap.FunFrames base outer
 frf:∀b∈fo outer,H b=ae
 hok:cX P w H s.heap
 bare:nG s.gens
 tab:xI K H
def CE(a:List Env)(P:aO)(w:aG)(H:Hp)(s:ao)(Q:VK)(u:ai)(b:ao):Prop :=
 ∃v c,b.os=s.os/\nG b.gens/\Un (fo a) [] H c s.heap b.heap/\cX P w c b.heap/\RelV v u/\Q v c
def CR(c:gS)(a:List Env)(P:aO)(w:aG)(H:Hp)(s:ao)(Q:VK)(E:XK)(r:Result)(b:ao):Prop :=
 match r with
 |.ok (.ret u)=>CE a P w H s Q u b
 |.ok _=>False
 |.error e=>c a H s E e b
structure k6(P:aO)(w:aG)(K:ay)(mg:Str->Option ai)(base:az)(CX:gS)(k:Nat)(f:af)(fd:iw)(ps:List Str)(sp:Sp):Prop where
 len:∀vs H Q E,sp vs H Q E->vs.length=ps.length
 run:∀(A:aR) (outer:List Env) (s:ao) (H:Hp) (args:Args) (us:List ai) (vs:List V) (Q:VK) (E:XK),f8 k A->rZ P w K mg base A outer s H->BindsTo s fd args (ps.zip us)->bj vs us->sp vs H Q E ->
  mC (aw P w) A (.call (.ref f) args) (CR CX outer P w H s Q E) s
section
variable{X:Cx}{f:List (af×Obj)}{a:St}{H:Hp}{s c:ao}
theorem Inv.env0(I:Inv X f a H s):rZ X.prog X.w X.K X.mg X.base X.A X.stack s H :=⟨I.ok.frames,I.ok.mod,I.bs,cM I.ok.bsz I.sz,I.stack,I.stkFree,I.hok,I.bare,I.tab⟩
theorem Inv.after{Q:VK}{u:ai}(I:Inv X f a H s)(h:CE X.stack X.prog X.w H s Q u c):EP X f a Q u c:=by obtain⟨v,o,m,i,un,l,r,q⟩:=h;obtain⟨n,g,d,t,j⟩:=c;obtain rfl:j=s.os:=m;exact⟨v,o,I.call (h':=n) (g':=g) (d':=d) (t':=t) (ch:=[]) un l i (λb z=>absurd z (by simp)),r,q⟩
end
def MI(d:Sp)(a:List V)(E:XK)(t:TA):TE:=λb H Q=>t b H λc f=>d (c++a) f Q E
def Binds(K:ay)(d:iw)(b:List Str)(c:List ai):Prop :=
 ∀(s:ao) (a:List ai),K.In s.heap->(a++c).length=b.length->BindsTo s d ⟨a,[]⟩ (b.zip (a++c))
theorem Binds.all{K:ay}{d:iw}{b:List Str}(h:∀a:List ai,a.length=b.length->gI d ⟨a,[]⟩=pure (b.zip a)):Binds K d b []:=λs a _ c=>by rw[fQ]at c ⊢;exact .of_eq (h a c)
def sJ(c:gS)(X:Cx)(E:XK):Prop:=∀(b:List (af×Obj)) (a:St) (H:Hp) (s:ao) (e:ai) (s':ao),Inv X b a H s->c X.stack H s E e s'->X.xe e s'
section
variable{X:Cx}{l:gS}{k:Nat}{f C:af}{j:iw}{d:List Str}{i:Sp}{a:List V}{c:List ai}{E:XK}{x m:Str}{p b n:Pos}{e o:aD}{g:List aD}{v:TE}{t:TA}
theorem Tp{A:List (af×Obj)}{z:St}{H:Hp}{s:ao}{Q:VK}{q:List ai}{y:List V}(F:k6 X.prog X.w X.K X.mg X.base l k f j d i)(J:f8 k X.A)(M:Binds X.K j d c)(L:bj a c)(G:sJ l X E)(I:Inv X A z H s) (r:bj y q) (h:i (y++a) H Q E):ar (aw X.prog X.w) X.A (call (.ref f) q) (EP X A z Q) X.xe s:=by
 have B:bj (y++a) (q++c):=r.append L;have K:(q++c).length=d.length:=by rw[<-B.length];exact F.len _ _ _ _ h
 refine zw (qB (F.run X.A X.stack s H ⟨q,[]⟩ (q++c) (y++a) Q E J I.env0 (M s q I.kIn K) B h) λr D w=>?_);cases r with
 |error e=>exact G A z H s e D I w
 |ok N=>
  cases N with
  |ret u=>exact I.after w
  |next=>exact ix w
  |brk=>exact ix w
  |cont=>exact ix w
theorem Fm(F:k6 X.prog X.w X.K X.mg X.base l k f j d i)(A:f8 k X.A)(G:Gl X x)(B:X.mg x=aa (.ref f))(D:qC X.K (.ref f)=ag)(L:Binds X.K j d c)(K:bj a c)(z:sJ l X E)(M:PA X (e::g) t) (y:(x==("__debug__":Str))=am:=by decide) (J:aM (e::g) X.env=(am,aX e X.env)::aM g X.env:=by rfl) (N:(cE b (aM g X.env)).any (·.1)=am:=by rfl):PE X (.Call (.Name x p) (e::g) [] b) (MI i a E t):=by intro O s w H Q I h;refine zx (tw I G B ?_ y);refine IW (h₀:=X.base) I.ok.mod.kin D (a6 (M b O s w H _ I h) λS T ⟨P,W,u,r,q⟩=>⟨u.kIn,?_⟩) J N;exact Tp F A L K z u r q
end
def PK(X:Cx)(c:List gJ)(t:TA):Prop :=
 ∀(b:Pos) (d:List (af×Obj)) (s:ao) (a:St) (H:Hp) (Q:List V->Hp->Prop),Inv X d a H s->t a H Q->ar (aw X.prog X.w) X.A (evalAll ((mD b (mE c X.env)).map (·.2))) (AP X d a Q) X.xe s
structure cO(N P:List Str)(sc:eB):Prop where
 kind:sc.kind=.function
 co:sc.isCoroutine=am
 gen:sc.isGenerator=am
 nd:N.Nodup
 pre:N.take P.length=P
 par:∀x∈P,sc.names.lookup x=aa .local\/sc.names.lookup x=aa .cell
 nofree:∀y∈sc.names,y.2≠.free
theorem GY{a:Str->Option g9}{x:Str}:∀{binds:List (Str×ai)}{m:Str->Option ai},(∀v,(x,v)∉binds)->bindL a binds m x=m x
 |[],_,_=>rfl
 | (n,v)::r,m,h=>by
  unfold bindL;rw[GY λw b=>h w (dy _ b)];split
  .have:x≠n:=by rintro rfl;exact h v eC
   simp[this]
  .rfl
theorem IH{a:Str->Option g9}{x:Str}:∀{binds:List (Str×ai)}{m:Str->Option ai},(∀v,(x,v)∉binds)->bindC a binds m x=m x
 |[],_,_=>rfl
 | (n,v)::r,m,h=>by
  unfold bindC;rw[IH λw b=>h w (dy _ b)];split
  .rfl
  .have:x≠n:=by rintro rfl;exact h v eC
   simp[this]
theorem Fh{a:Str->Option g9}{x:Str}{v:ai}:∀{P:List Str}{b:List ai}{i:Nat}{m:Str->Option ai},P.Nodup->P[i]?=aa x->b[i]?=aa v->a x=aa .local -> bindL a (P.zip b) m x=aa v
 |[],_,_,_,_,h,_,_=>by simp at h
 |_::_,[],_,_,_,_,h,_=>by simp at h
 |p::P,w::b,0,m,nd,h1,h2,hk=>by simp at h1 h2;subst h1;subst h2;show bindL a ((p,w)::P.zip b) m p=_;unfold bindL;rw[GY λv c=>(jH.mp nd).1 (vV c).1,if_pos hk];simp
 |p::P,w::b,i+1,m,nd,h1,h2,hk=>by show bindL a ((p,w)::P.zip b) m x=_;unfold bindL;exact Fh (i:=i) (jH.mp nd).2 (by simpa using h1) (by simpa using h2) hk
theorem IA{a:Str->Option g9}{x:Str}{v:ai}:∀{P:List Str}{b:List ai}{i:Nat}{m:Str->Option ai},P.Nodup->P[i]?=aa x->b[i]?=aa v->a x≠aa .local -> bindC a (P.zip b) m x=aa v
 |[],_,_,_,_,h,_,_=>by simp at h
 |_::_,[],_,_,_,_,h,_=>by simp at h
 |p::P,w::b,0,m,nd,h1,h2,hk=>by simp at h1 h2;subst h1;subst h2;show bindC a ((p,w)::P.zip b) m p=_;unfold bindC;rw[IH λv c=>(jH.mp nd).1 (vV c).1,if_neg hk];simp
 |p::P,w::b,i+1,m,nd,h1,h2,hk=>by show bindC a ((p,w)::P.zip b) m x=_;unfold bindC;exact IA (i:=i) (jH.mp nd).2 (by simpa using h1) (by simpa using h2) hk
def start(N:List Str)(a:List V):St:=a.map aa++bK (N.length-a.length) ae
def jg(g:gS)(P:aO)(w:aG)(K:ay)(mg:Str->Option ai)(base:az)(N:List Str)(b:Str)(a:eB)(f:af)(d:ai)(A:aR)(outer:List Env)(s:ao)(H:Hp)(E:XK):Cx where
 prog:=P
 w:=w
 K:=K
 mg:=mg
 base:=base
 A:=A.deeper (js b a s.heap.objs.size f d)
 N:=N
 s₀:=s
 H₀:=H
 env:=js b a s.heap.objs.size f d
 outer:=outer
 stack:=js b a s.heap.objs.size f d::outer
 ex:=[]
 calm:=ag
 fn:=λ_=>ag
 pn:=[]
 xe:=λe s'=>ar (aw P w) (A.deeper (js b a s.heap.objs.size f d)) (leaving (js b a s.heap.objs.size f d) e) (λ_ c=>g outer H s E e c) (λh c=>g outer H s E h c) s'
theorem E6{a:eB}{n:Nat}{x:Str}(h:a.names.lookup x=aa .cell):∃c,(fR n a.names []).lookup x=aa c:=by have q:=IX a.names n [] (.inl h);exact CL.mp q
theorem Gp{Y:gS}{P:aO}{w:aG}{K:ay}{Q:Str->Option ai}{o:az}{N C:List Str}{j:Str}{d:eB}{f:af}{M:ai}{A:aR}{g:List Env}{s T:ao}{H:Hp}{E:XK}{O:List ai}{B:List V}(S:cO N C d) (hd:A.handled=ae) (m:rZ P w K Q o A g s H) (hl:B.length=C.length) (r:bj B O)(x:InCallC s s.heap.objs.size (bindL (js j d s.heap.objs.size f M).kindOf (C.zip O) λ_=>ae) (fR (s.heap.objs.size+1) d.names []) (bindC (js j d s.heap.objs.size f M).kindOf (C.zip O) λ_=>ae) T):Inv (jg Y P w K Q o N j d f M A g s H E) [] (start N B) H T:=by
 have cV:C.length<=N.length:=by have:=congrArg qD S.pre;rw[mF]at this;lia
 obtain⟨L,tk,rfl,X⟩:=x.done;have D:∀b:af,b∉(jg Y P w K Q o N j d f M A g s H E).ex:=λb z=>absurd (show b∈([]:List af)from z) (by simp);refine⟨⟨m.mod,S.kind,rfl,rfl,a8 _,λy z c L l=>?_,λy F=>?_,λy c _ h=>?_,λ_=>hd,Around.frames_deeper m.frames,.inr ⟨rfl,rfl⟩,λb z=>absurd z (D b),m.bs,m.bsz,λb _ _=>D b,λb z=>absurd z (D b),m.funs,m.frf,m.tab⟩,rfl,m.bare,Un.kept X,⟨_,x.toInCall.ns,λi y v L l h3=>?_⟩,λy c h=>⟨_,x.cell y c h⟩,m.hok.fresh (a8 _),λy c h=>?_,λp I=>absurd (show p∈([]:List (af×Obj))from I) (by simp),m.hok.kept X,?_⟩
 .exact name_of_addr x.apart (lD L) (lD l)
 .have F:d.names.lookup y=aa .cell\/d.names.lookup y=aa .free:=F;rcases F with F|F
  .exact E6 F
  .exact absurd rfl (S.nofree _ (lD F))
 .exact i7 (x.above y c (lD h))
 .have J:i<B.length:=by
   unfold start at l;by_cases J:i<B.length
   .exact J
   .rw[o9 (by simpa using J)]at l;rw[List.getElem?_replicate]at l;split at l <;> cases l
  have ha:B[i]?=aa v:=by
   unfold start at l;rw[iP (by simpa using J),g_]at l;cases e:B[i]? with
   |none=>rw[e]at l;cases l
   |some a=>rw[e]at l;cases l;rfl
  obtain⟨u,W,Z⟩:=r.get ha;have I:C[i]?=aa y:=by rw[<-S.pre,List.getElem?_take_of_lt ∅];exact L
  have G:C.Nodup:=by rw[<-S.pre];exact S.nd.sublist (IY _ _)
  refine⟨u,Z,?_⟩;rcases S.par y (o_ I)with k|k
  .exact .inl ⟨k,Fh G I W k⟩
  .obtain⟨c,e⟩:=E6 (n:=s.heap.objs.size+1) k;refine .inr ⟨.inl k,c,e,?_⟩;have q:=x.cell y c e;rw[IA G I W (by show d.names.lookup y≠_;rw[k];decide)]at q;exact q
 .exact m.hok.fresh (i7 (x.above y c (lD h)))
 .unfold start;show _=N.length;rw[c0,bX,List.length_replicate];lia
theorem KB{M:gS}{P:aO}{w:aG}{K:ay}{L:Str->Option ai}{h:az}{k:Nat}{f:af}{m d:Str}{g:Arguments}{i:List bg}{a:eB}{dV kV F pm z ct oc:ai}{an od:Option af}{X:Array (Option ai)}{N G:List Str}{O:Sp} (lk:K.lookup f=aa ⟨oc,od,.func (i8 m d g i a dV kV F pm an z ct),X⟩) (bu:vW K z d=ag) (S:cO N G a)(len:∀l H Q E,O l H Q E->l.length=G.length)(iR:∀(A:aR) (c:List Env) (s:ao) (H:Hp) (l:List V) (Q:VK) (E:XK),f8 k (A.deeper (js d a s.heap.objs.size f z))->O l H Q E -> ∃t,lr (jg M P w K L h N d a f z A c s H E) i t/\t {nx:=λ_ p=>Q .non p,rt:=Q} (start N l) H):k6 P w K L h M (k+1) f (i8 m d g i a dV kV F pm an z ct) G O:=by
 refine⟨len,λA c s H args us l Q E Z D hb r iA=>?_⟩;have hl:=len _ _ _ _ iA;have KX:K.In s.heap:=D.mod.kin.keeps λb o e=>(D.bs b o e).1;have Y:s.heap.NoLimit:=D.mod.nolimit.keeps λb o e=>(D.bs b o e).1;have D5:∀y∈G.zip us,a.names.lookup y.1=aa .local\/(a.names.lookup y.1=aa .cell/\((fR (s.heap.objs.size+1) a.names []).lookup y.1).isSome=ag):=λ⟨n,v⟩ hy=>by
  rcases S.par n (vV hy).1 with q|q
  .exact .inl q
  .exact .inr ⟨q,IX _ _ _ (.inl q)⟩
 refine codeAny_call_function Z.depth (KX _ _ lk) rfl S.co S.gen rfl (PySem.W.codeRec_of KX bu) (hb _ _ _ _ ?_);refine wpAny_newFunctionEnv_cells S.kind D5 λenv he s1 x=>?_;subst he;refine⟨Y.keeps x.toInCall.keep,codeAny_func ?_⟩;obtain⟨t,ht,hq⟩:=iR A c s H l Q E (Z.deeper _) iA;have I:Inv (jg M P w K L h N d a f z A c s H E) [] (start N l) H s1:=Gp S Z.hd D hl r x;refine eW (ht [] s1 (start N l) H _ I hq) (λfl T B=>?_) λe T B=>B;have C:∀{j:St}{p:Hp}{v:V}{u:ai},Inv (jg M P w K L h N d a f z A c s H E) [] j p T->RelV v u->Q v p->CE c P w H s Q u T :=λ{j p v u} J W q=>⟨v,p,J.os,J.bare,J.base,J.hok,W,q⟩
 cases fl with
 |ret u=>obtain⟨v,j,p,J,W,q⟩:=B;exact C J W q
 |next=>obtain⟨j,p,J,q⟩:=B;exact C (v:=V.non) (u:=Value.none) J rfl q
 |brk=>obtain⟨_,_,_,q⟩:=B;exact ix q
 |cont=>obtain⟨_,_,_,q⟩:=B;exact ix q
section
variable{X:Cx}{x:Str}{p a:Pos}{e:aD}{b:List aD}{t:TA}{c T:String}{r:List V->Hp->VK->Prop}
def HE(r:List V->Hp->VK->Prop)(t:TA):TE:=λd H Q=>t d H λf g=>r f g Q
theorem nB(y:dE X (.builtin c) r)(v:Gl X x)(u:X.mg x=ae)(o:eA x=aa (.builtin c))(z:PA X (e::b) t)(q:x≠"__name__":=by decide)(n:(x==("__debug__":Str))=am:=by decide)(w:aM (e::b) X.env=(am,aX e X.env)::aM b X.env:=by rfl) (A:(cE a (aM b X.env)).any (·.1)=am:=by rfl):PE X (.Call (.Name x p) (e::b) [] a) (HE r t):=by intro f s d H Q I h;refine zx (y4 I v u o ?_ q n);exact PyProof.Rows.callWith_builtin1 (a6 (z a f s d H _ I h) λi j ⟨g,C,B,l,m⟩=>y f j d C g i Q B l m) w A
theorem sS(y:dE X (.type T) r)(v:Gl X x)(u:X.mg x=ae)(o:eA x=aa (.type T))(z:PA X (e::b) t)(q:x≠"__name__":=by decide)(n:(x==("__debug__":Str))=am:=by decide)(w:aM (e::b) X.env=(am,aX e X.env)::aM b X.env:=by rfl) (A:(cE a (aM b X.env)).any (·.1)=am:=by rfl):PE X (.Call (.Name x p) (e::b) [] a) (HE r t):=by intro f s d H Q I h;refine zx (y4 I v u o ?_ q n);exact PyProof.Rows.callWith_type1 (a6 (z a f s d H _ I h) λi j ⟨g,C,B,l,m⟩=>y f j d C g i Q B l m) w A
end
end L2
namespace HT
section
open PySem.SeqAt
open PySem.AutoSeq1 (wpAny_loadPart')
open PySem.MeetsSeq PySem.MeetsSeq2 PySem.MeetsSeq3
end
section
variable{a:aO}{w:aG}{A:aR}{E:ai->ao->Prop}{s:ao}
theorem cat_tup{t b:af}{d c:List ai}{Q:ai->ao->Prop}(B:IsTup s.heap t d.toArray)(C:IsTup s.heap b c.toArray)(u:d≠[])(F:c=[]->Q (.ref t) s) (D:c≠[]->Q (.ref s.heap.objs.size) {s with heap:=s.heap.push {cls:=.type "tuple",data:=.seq (d++c).toArray}})(l:d.length+c.length<=bn):ar (aw a w) A (iN .Add (.ref t) (.ref b)) Q E s:=by
 obtain⟨⟨cls,y,data,o⟩,i,x,n,v⟩:=id B;obtain⟨⟨z,g,m,f⟩,j,q,p,r⟩:=id C;simp only at x v q r;subst x v q r;have e:d.toArray++c.toArray=(d++c).toArray:=by simp
 by_cases h:c=[]
 .exact concat_meets ⟨_,i,rfl⟩ ⟨_,j,rfl⟩ IZ seq_tuple_add I_ Ja (Jb _ _)
   (tuple_addW1 t b d.toArray c.toArray n p y g o f (by simpa using u) (by simp[h])) ⟨i,j,F h⟩
 .refine concat_meets ⟨_,i,rfl⟩ ⟨_,j,rfl⟩ IZ seq_tuple_add I_ Ja (Jb _ _)
   (tuple_addW2 t b d.toArray c.toArray n p y g o f (by simpa using u) (by simpa using h) (by rw[cc,cc];exact l)) ⟨i,j,?_⟩
  rw[e];exact D h
def sIx(n d:Nat):Option Int->Nat
 |none=>d
 |some v=>if v<0 then(v+(n:Int)).toNat else min v.toNat n
theorem sIx_nat(n d k:Nat):sIx n d (aa (k:Int))=min k n:=by show(if(k:Int)<0 then((k:Int)+(n:Int)).toNat else min (k:Int).toNat n)=min k n;rw[if_neg ∅,mG]
theorem sIx_le(n d:Nat)(c:d<=n)(o:Option Int):sIx n d o<=n:=by
 cases o with
 |none=>exact c
 |some v=>
  show(if v<0 then(v+(n:Int)).toNat else min v.toNat n)<=n;by_cases b:v<0
  .rw[if_pos b];lia
  .rw[if_neg b];exact Nat.min_le_right _ _
theorem ER(v:Int)(n d:Nat):(if v<0 then max (v+(n:Int)) 0 else min v (n:Int))=((sIx n d (aa v):Nat):Int):=by
 show(if v<0 then max (v+(n:Int)) 0 else min v (n:Int))=(((if v<0 then(v+(n:Int)).toNat else min v.toNat n):Nat):Int)
 by_cases b:v<0
 .simp only[if_pos b];lia
 .simp only[if_neg b];lia
theorem Ny(b c:Option Int)(n:Nat):Jc b c 1 (n:Int)=(((sIx n 0 b:Nat):Int),((sIx n n c:Nat):Int)):=by
 have d:¬((1:Int)<0):=∅
 unfold Jc;simp only[d,if_false];refine Prod.ext ?_ ?_
 .cases b with
  |none=>rfl
  |some v=>exact ER v n 0
 .cases c with
  |none=>rfl
  |some v=>exact ER v n n
theorem Qy(i j:Nat):CN (i:Int) (j:Int) 1=j-i:=by
 unfold CN;have b:(1:Int) > 0:=∅
 simp only[b,if_true,Int.ediv_one];split <;> lia
theorem Ih{v:ai}{o:Option Int}{Q:Option Int->ao->Prop}(p:lE v o)(h:Q o s):ar (aw a w) A (Builtin.Slice.slicePartIndex v) Q E s:=by
 cases p with
 |none=>exact slicePart_none h
 |int i t=>exact slicePart_int h
theorem HD{j:af}{g f:ai}{b c:Option Int}{n:Nat}{Q:Int×Int×Nat->ao->Prop}(o:s.heap.IsSliceOf j g f .none)(m:lE g b)(l:lE f c)(h:Q (((sIx n 0 b:Nat):Int),1,sIx n n c-sIx n 0 b) s):ar (aw a w) A (Builtin.Slice.sliceApplied (.ref j) (pure (n:Int))) Q E s:=by
 obtain⟨q,i,p,d⟩:=id o;unfold Builtin.Slice.sliceApplied Builtin.Slice.sliceFields;refine aq (aq (qE i d (x:=g) rfl (aq (qE i d (x:=f) rfl (aq (qE i d (x:=.none) rfl (aC ?_)))))));refine aq (slicePart_none ?_);show ar _ _ (if((1:Int) == 0)=ag then _ else _) _ _ s;rw[if_neg (by decide)];refine aq (Ih m (aq (Ih l (aq (aC ?_)))));show ar _ _ (match Jc b c 1 (n:Int)with | (b,c)=>pure (b,(1:Int),CN b c 1)) _ _ s;rw[Ny b c n];show ar _ _ (pure (((sIx n 0 b:Nat):Int),(1:Int),CN ((sIx n 0 b:Nat):Int) ((sIx n n c:Nat):Int) 1)) _ _ s;rw[Qy];exact aC h
theorem Pp(xs:Array ai)(i k:Nat):((cq k).filterMap λ(m:Nat)=>xs[((i:Int)+(m:Int)*1).toNat]?).toArray=((xs.toList.drop i).take k).toArray:=by
 have e:(λ(m:Nat)=>xs[((i:Int)+(m:Int)*1).toNat]?)=λm=>xs[i+m]?:=by
  funext m;have:((i:Int)+(m:Int)*1).toNat=i+m:=∅
  rw[this]
 rw[e];have:=pick_run xs i k;rw[List.filterMap_map]at this;have b:((λx=>xs[x]?) ∘ λx=>i+x)=λm=>xs[i+m]?:=rfl;rw[b]at this;rw[this]
theorem getItem_tuple_cut{t i:af}{b:Array ai}{p o:ai}{c d:Option Int}{Q:ai->ao->Prop}(f:IsTup s.heap t b)(r:s.heap.IsSliceOf i p o .none)(x:lE p c)(v:lE o d)(z:¬(sIx b.size 0 c=0/\sIx b.size b.size d=b.size))(h:Q (.ref s.heap.objs.size) {s with heap:=s.heap.push {cls:=.type "tuple",data:=.seq ((b.toList.drop (sIx b.size 0 c)).take (sIx b.size b.size d-sIx b.size 0 c)).toArray}})(B:b.size<=bn):ar (aw a w) A (nJ (.ref t) (.ref i)) Q E s:=by
 have g:sizeOk (.seq ((b.toList.drop (sIx b.size 0 c)).take (sIx b.size b.size d-sIx b.size 0 c)).toArray):=by show((b.toList.drop (sIx b.size 0 c)).take (sIx b.size b.size d-sIx b.size 0 c)).toArray.size<=bn;rw[cc,mF,lF,fP];lia
 have G:sIx b.size b.size d<=b.size:=sIx_le _ _ (a8 _) d;obtain⟨y,u,l,C⟩:=id r;have n:s.TypeIs (.ref i) "slice":=⟨y,u,l⟩
 unfold nJ
 try with_reducible refine iM ?_
 first|refine aq (aC ?_)|skip
 refine aq (wpAny_sequenceKey f.typeIs (by decide) ?_);refine aq (zy (name:=vX "__getitem__") f.typeIs CO (mH CO f.typeIs entry_tuple_getitem ?_ (args_tuple_getitem _ _)));show ar _ _ (Jd (.ref t) >>= _) _ _ s;refine aq (tupleItemsOf_ f ?_);refine aq (tI n ?_);rw[if_pos (by decide)];refine aq (HD r x v ?_);have j:¬((((sIx b.size 0 c:Nat):Int) == 0&&(1:Int) == 1&&(sIx b.size b.size d-sIx b.size 0 c) == b.size)=ag):=by intro q;rw[gK,gK]at q;have F:((sIx b.size 0 c:Nat):Int)=0:=eq_of_beq q.1.1;have D:sIx b.size b.size d-sIx b.size 0 c=b.size:=eq_of_beq q.2;exact z ⟨∅,∅⟩
 show ar _ _ (if(((sIx b.size 0 c:Nat):Int) == 0&&(1:Int) == 1&&(sIx b.size b.size d-sIx b.size 0 c) == b.size)=ag then _ else _) _ _ s;rw[if_neg j,Pp]
 first
  |exact aq (m:=CP _) (kL (aC ⟨_,rfl,aC h⟩) g)
  |exact aq (m:=CP _) (kL (aq (aC (aC ⟨_,rfl,aC h⟩))) g)
  |exact aq (aq (m:=CP _) (kL (aC (aC ⟨_,rfl,aC h⟩)) g))
  |exact aq (aq (m:=CP _) (kL (aC ⟨_,rfl,aC h⟩) g))
end
end HT
namespace L2
abbrev TO:=St->Hp->(Option Int->Hp->Prop)->Prop
def PO(X:Cx)(e:Option aD)(t:TO):Prop :=
 ∀(b:List (af×Obj)) (s:ao) (a:St) (H:Hp) (Q:Option Int->Hp->Prop),Inv X b a H s->t a H Q ->
  ar (aw X.prog X.w) X.A (evalPart e X.env) (λu d=>∃o c,Inv X b a c d/\lE u o/\Q o c) X.xe s
def Rx:TO:=λ_ H Q=>Q ae H
def MW(t:TE):TO:=λa H Q=>t a H λx b=>∃i,x=.int i/\Q (aa i) b
section
variable{X:Cx}{e:aD}{f:TE}{c d:Option aD}{g j:TO}{n m:Pos}
theorem N6:PO X ae Rx:=by intro b s a H Q I h;rw[evalPart_none];exact aC ⟨ae,H,I,.none,h⟩
theorem Py(h:PE X e f):PO X (aa e) (MW f):=by intro p s a H Q I o;rw[evalPart_some];refine a6 (h p s a H _ I o) λu w ζ=>?_;obtain⟨x,v,r,b,l⟩:=ζ;obtain⟨i,rfl,q⟩:=l;obtain⟨t,rfl⟩:=b;exact⟨aa i,v,r,.int i t,q⟩
def k9(X:Cx)(r:V->Option Int->Option Int->Hp->VK->Prop):Prop :=
 ∀(l:List (af×Obj)) (s:ao) (a:St) (H:Hp) (x:V) (v h b:ai) (c d:Option Int) (i:af) (Q:VK),Inv X l a H s->RelV x v->s.heap.IsSliceOf i h b .none->lE h c->lE b d->r x c d H Q ->
  ∃T o,typeLookup (.type T) "__getitem__"=pure (aa (.builtin o))/\s.TypeIs v T/\ar (aw X.prog X.w) X.A (nJ v (.ref i)) (EP X l a Q) X.xe s
theorem k9.or{r p:V->Option Int->Option Int->Hp->VK->Prop}(h:k9 X r)(A:k9 X p):k9 X (λx c d H Q=>r x c d H Q\/p x c d H Q):=by
 intro z s a H x v i b c d l Q I o y w u q;rcases q with q|q
 .exact h z s a H x v i b c d l Q I o y w u q
 .exact A z s a H x v i b c d l Q I o y w u q
def QM(r:V->Option Int->Option Int->Hp->VK->Prop)(f:TE)(g j:TO):TE:=λa H Q=>f a H λx i=>g a i λl h=>j a h λu b=>r x l u b Q
theorem OO{r:V->Option Int->Option Int->Hp->VK->Prop}(L:k9 X r)(O:PE X e f)(M:PO X c g)(J:PO X d j):PE X (.Subscript e (.Slice c d ae m) n) (QM r f g j):=by intro o s i H Q I h;refine Subscript_ (a6 (O o s i H _ I h) λv A ζ=>?_);obtain⟨x,H1,Z,B,E⟩:=ζ;refine wpAny_Slice (a6 (M o A i H1 _ Z E) λw z ⟨l,H2,Y,G,D⟩=>a6 (J o z i H2 _ Y D) λp a ζ=>?_);obtain⟨u,y,W,F,C⟩:=ζ;rw[evalPart_none];refine aC ?_;have S:Inv X o i y {a with heap:=a.heap.push {cls:=.type "slice",data:=.fields #[w,p,.none]}}:=W.kept (t':=a.toks) λb ob q=>bD _ q;obtain⟨T,id,P,K,N⟩:=L o {a with heap:=a.heap.push {cls:=.type "slice",data:=.fields #[w,p,.none]}} i y x v w p l u a.heap.objs.size Q S B (Heap.IsSliceOf.new ..) G F C;show ar (aw X.prog X.w) X.A (subscriptTail e (.Slice c d ae m) v (.ref a.heap.objs.size)) (EP X o i Q) X.xe {a with heap:=a.heap.push {cls:=.type "slice",data:=.fields #[w,p,.none]}};exact tail_any (ops:=[.ref a.heap.objs.size,v]) K P N (by with_unfolding_all rfl)
def oI(xs:List V)(c d:Option Int):List V:=(xs.drop (HT.sIx xs.length 0 c)).take (HT.sIx xs.length xs.length d-HT.sIx xs.length 0 c)
theorem EO(xs:List V)(c d:Option Int):(oI xs c d).length<=xs.length:=by unfold oI;rw[mF,lF];lia
def Hq(K:ay):V->Option Int->Option Int->Hp->VK->Prop:=λx c d H Q=>∃a xs,x=.ref a/\cH K H a xs /\
 ¬(HT.sIx xs.length 0 c=0/\HT.sIx xs.length xs.length d=xs.length)/\∀p,H p=ae->Q (.ref p) (upd H p (.tup (oI xs c d)))
theorem NH:k9 X (Hq X.K):=by
 intro K s D H x v F E c d G Q I w C z y h;obtain⟨a,xs,rfl,A,B,q⟩:=h;cases w;obtain⟨i,r,u,p⟩:=I.tuple A;have l:i.toArray.size=xs.length:=by rw[cc];exact r.length.symm
 refine⟨"tuple",_,PyProof.Rows.slot_tuple_getitem.lookup,u.typeIs,?_⟩;refine HT.getItem_tuple_cut u C z y (by rw[l];exact B) ?_ (by rw[l];exact p);rw[l];refine⟨.ref s.heap.objs.size,_,I.laid (t':=s.toks) (o:=.tup (oI xs c d)) (λb J q=>bD _ q) (a8 _) ?_,rfl,q _ (I.hok.fresh (a8 _))⟩;exact⟨cM (EO xs c d) p,_,(r.drop (HT.sIx xs.length 0 c)).take (HT.sIx xs.length xs.length d-HT.sIx xs.length 0 c),IN.new _ _⟩
def Ft(K:ay):R2:=λx y H Q=>∃a b xs h,x=.ref a/\y=.ref b/\cH K H a xs/\cH K H b h/\xs≠[]/\xs.length+h.length<=bn /\
 (h=[]->Q (.ref a) H)/\(h≠[]->∀p,H p=ae->Q (.ref p) (upd H p (.tup (xs++h))))
theorem bj.nil_iff{xs:List V}{a:List ai}(r:bj xs a):a=[]↔xs=[]:=by
 cases r with
 |nil=>simp
 |cons _ _=>simp
theorem Uc:bT X (iN .Add) (Ft X.K):=by
 intro O s M H x y v u Q I C B h;obtain⟨a,b,xs,A,rfl,rfl,L,K,J,r,E,D⟩:=h;cases C;cases B;obtain⟨G,l,F,_⟩:=I.tuple L;obtain⟨p,i,m,_⟩:=I.tuple K;refine HT.cat_tup F m (λz=>J (l.nil_iff.mp z)) (λz=>⟨.ref a,H,I,rfl,E (i.nil_iff.mp z)⟩) (λz=>?_) (by rw[<-l.length,<-i.length];exact r);refine⟨.ref s.heap.objs.size,_,I.laid (t':=s.toks) (o:=.tup (xs++A)) (λb N q=>bD _ q) (a8 _) ?_,rfl,D (λw=>z (i.nil_iff.mpr w)) _ (I.hok.fresh (a8 _))⟩;exact⟨by rw[c0];exact r,_,l.append i,IN.new _ _⟩
end
def kw(n:Nat)(i:Int):Option Nat:=if 0<=i then(if i<n then aa i.toNat else ae)else if -(n:Int)<=i then aa (i+n).toNat else ae
def io{a:Type}(xs:List a)(i:Int):Option a:=(kw xs.length i).bind λj=>xs[j]?
theorem Fs{n:Nat}{i:Int}{j:Nat}(h:kw n i=aa j):seqIndex? i n=aa j/\j<n/\-(n:Int)<=i/\i<n:=by
 unfold kw at h;by_cases b:0<=i
 .rw[if_pos b]at h;by_cases a:i<n
  .rw[if_pos a]at h;have e:i.toNat=j:=c8 h;exact⟨by rw[seqIndex_of b a,e],∅,∅,a⟩
  .rw[if_neg a]at h;cases h
 .rw[if_neg b]at h;by_cases a:-(n:Int)<=i
  .rw[if_pos a]at h;have e:(i+n).toNat=j:=c8 h;exact⟨by rw[seqIndex_neg ∅ a,e],∅,a,∅⟩
  .rw[if_neg a]at h;cases h
theorem AA{a:Type}{xs:List a}{i:Int}{v:a}(h:io xs i=aa v):∃j,seqIndex? i xs.length=aa j/\xs[j]?=aa v/\j<xs.length/\-(xs.length:Int)<=i/\i<xs.length:=by
 unfold io at h;cases e:kw xs.length i with
 |none=>rw[e]at h;cases h
 |some j=>rw[e]at h;obtain⟨f,d,c,b⟩:=Fs e;exact⟨j,f,h,d,c,b⟩
theorem QX{a:Type}{xs:List a}{j:Nat}{v:a}(h:xs[j]?=aa v):io xs (j:Int)=aa v:=by
 have b:j<xs.length:=(c9.mp h).1;have e:kw xs.length (j:Int)=aa j:=by unfold kw;rw[if_pos ∅,if_pos ∅];simp
 unfold io;rw[e];exact h
def GV(b:aD):Prop:=∀o i,CQ b am o i=operate [o,i] (nJ o i)
def m_(X:Cx)(r:R2):Prop :=
 ∀(b a:aD) (d:List (af×Obj)) (s:ao) (c:St) (H:Hp) (x y:V) (v u:ai) (Q:VK),Inv X d c H s->RelV x v->RelV y u->r x y H Q ->
  CQ a am v u=operate [v,u] (nJ v u)->ar (aw X.prog X.w) X.A (subscriptTail b a v u) (EP X d c Q) X.xe s
def zn(X:Cx)(d:String)(r:V->List V->Hp->VK->Prop):Prop :=
 ∀(c:List (af×Obj)) (s:ao) (a:St) (H:Hp) (x:V) (xs:List V) (v:ai) (b:List ai) (Q:VK),Inv X c a H s->RelV x v->bj xs b->r x xs H Q ->
  ar (aw X.prog X.w) X.A (call (.builtin d) (v::b)) (EP X c a Q) X.xe s
section
variable{X:Cx}{a b:aD}{G F:TE}{E:Pos}
theorem m_.or{r j:R2}(h:m_ X r)(n:m_ X j):m_ X (λx y H Q=>r x y H Q\/j x y H Q):=by
 intro c d m s f H x y v u Q I i g q l;rcases q with q|q
 .exact h c d m s f H x y v u Q I i g q l
 .exact n c d m s f H x y v u Q I i g q l
theorem Od{r:R2}(j:m_ X r)(m:PE X a G)(l:PE X b F)(i:GV b):PE X (.Subscript a b E) (xS r G F):=by intro n s c H Q I h;exact Subscript_ (Ci m l I h λv u d x y p o g f q=>j a b n d c p x y v u Q o g f q (i _ _))
def G4(K:ay):R2:=λx y H Q=>∃p xs i v,x=.ref p/\y=.int i/\cf K H p xs/\io xs i=aa v/\Q v H
def Eo(K:ay):R2:=λx y H Q=>∃p xs i v,x=.ref p/\y=.int i/\cH K H p xs/\io xs i=aa v/\Q v H
def Ez:R2:=λx y H Q=>∃z i c,x=.str z/\y=.int i/\z.length<=bn/\io z.cps.toList i=aa c/\Q (.str ⟨#[c]⟩) H
theorem Uf:m_ X (G4 X.K):=by
 intro f g J s A H x y v u Q I M L h B;obtain⟨p,xs,i,z,rfl,rfl,N,P,q⟩:=h;cases M;obtain⟨t,rfl⟩:=L;obtain⟨n,r,m,Y⟩:=I.list N;obtain⟨j,d,W,h3,T,S⟩:=AA P;obtain⟨w,D,l⟩:=r.get W;have O:=r.length;have Z:=sh;have c:EP X J A Q w s:=⟨z,H,I,l,q⟩
 by_cases C:0<=i
 .have o:i.toNat=j:=by
   rw[seqIndex_of C S]at d;exact c8 d
  exact item_listR m.isList C ∅ (by rw[o];simpa using D) c B
 .have o:(i+(n.toArray.size:Int)).toNat=j:=by
   rw[seqIndex_neg ∅ T]at d;rw[cc,<-O];exact c8 d
  exact subscriptTail_builtinR (x:=w) m.isList.typeIs slot_list_getitem.lookup
   (wpAny_getItem_list_neg (Q:=λr K=>r=w/\EP X J A Q r K) m.isList ∅ (by rw[cc] <;> lia) ∅ (by rw[o];simpa using D) ⟨rfl,c⟩) B
theorem Uk:m_ X (Eo X.K):=by
 intro c d n s l H x y v u Q I B A h D;obtain⟨p,xs,i,z,rfl,rfl,J,L,q⟩:=h;cases B;obtain⟨t,rfl⟩:=A;obtain⟨C,r,m,P⟩:=I.tuple J;obtain⟨j,N,M,Y,W,T⟩:=AA L;obtain⟨w,O,f⟩:=r.get M;have K:=r.length;have S:=sh;have g:EP X n l Q w s:=⟨z,H,I,f,q⟩
 exact subscriptTail_builtinR (x:=w) m.typeIs slot_tuple_getitem.lookup
  (getItem_tuple (j:=j) (Q:=λr o=>r=w/\EP X n l Q r o) m ∅ ∅ (by rw[cc,<-K];exact N) (by simpa using O) ⟨rfl,g⟩) D
theorem OL:m_ X Ez:=by
 intro d f N s D H x y v u Q I m l h n;obtain⟨z,i,c,rfl,rfl,K,p,q⟩:=h;obtain⟨t,rfl⟩:=m;obtain⟨J,rfl⟩:=l;obtain⟨j,g,A,M,w,r⟩:=AA p;have o:z.cps.toList.length=z.length:=by simp[Str.length]
 rw[o]at g w r;have L:=sh;exact tail_any (typeIs_str s z t) slot_str_getitem.lookup (getItem_str (c:=c) (by have C:decide (i < -(2^63:Int))=am:=decide_eq_false ∅;have B:decide (i ≥ 2^63)=am:=decide_eq_false ∅;rw[C,B,Bool.or_false]) (by rw[g];simpa using A) ⟨.str ⟨#[c]⟩,H,I.tok _,⟨_,rfl⟩,q⟩) n
def HL(K:ay):R2:=λx y H Q=>G4 K x y H Q\/Eo K x y H Q\/Ez x y H Q
theorem gD:m_ X (HL X.K):=Uf.or (Uk.or OL)
theorem MC(c:List ai)(n j:Nat)(u:ai):jt (·.setIfInBounds j u) {cls:=.type "list",data:=.seq c.toArray n}={cls:=.type "list",data:=.seq (c.set j u).toArray n}:=by simp[jt]
theorem Inv.lst{d:List (af×Obj)}{c:St}{H:Hp}{s:ao}{p:af}{xs:List V}(I:Inv X d c H s)(h:H p=aa (.lst xs)):∃(its:List ai) (n:Nat),bj xs its/\s.heap.get? p=aa {cls:=.type "list",data:=.seq its.toArray n}/\xs.length<=bn:=by obtain⟨z,its,n,r,e⟩:=I.hok p _ h;exact⟨its,n,r,e,z⟩
theorem Inv.lstUpd{m:List (af×Obj)}{j:St}{H:Hp}{s:ao}{p:af}{xs g:List V}{d c:List ai}{n i:Nat}{f:Obj->Obj}(I:Inv X m j H s)(h:H p=aa (.lst xs))(v:s.heap.get? p=aa {cls:=.type "list",data:=.seq d.toArray n}) (l:f {cls:=.type "list",data:=.seq d.toArray n}={cls:=.type "list",data:=.seq c.toArray i}) (r:bj g c) (o:g.length<=bn) (t:Nat):Inv X m j (upd H p (.lst g)) {s with heap:=s.heap.update p f,toks:=t}:=by
 have e:(s.heap.update p f).get? p=aa {cls:=.type "list",data:=.seq c.toArray i}:=by rw[nK f v (by rw[l] <;> rfl),l]
 refine I.write (x:=p) (e:=p) (by rw[h];trivial) (.inl rfl) (λb u w q=>(mI _ _ (eO w)).trans q) ⟨_,e⟩ ?_;exact⟨o,c,i,r,e⟩
def Lw:V->V->V->Hp->(Hp->Prop)->Prop:=λo i v H Q=>∃p xs k j,o=.ref p/\i=.int k/\H p=aa (.lst xs)/\kw xs.length k=aa j/\Q (upd H p (.lst (xs.set j v)))
theorem Sx:He X Lw:=by
 intro L s A H o i v ov M u Q I C D B h;obtain⟨p,xs,k,j,rfl,rfl,m,K,q⟩:=h;cases C;obtain⟨t,rfl⟩:=D;obtain⟨c,n,r,f,J⟩:=I.lst m;obtain⟨d,O,x,w⟩:=Fs K;have g:=r.length;have N:=sh;have z:Inv X L A (upd H p (.lst (xs.set j v))) {s with heap:=s.heap.update p (jt (·.setIfInBounds j u))} :=I.lstUpd m f (MC c n j u) (r.set B j) (by rw[gL];exact J) s.toks;by_cases y:0<=k
 .have l:k.toNat=j:=by
   rw[seqIndex_of y w]at d;exact c8 d
  exact PySem.W.ki_setAt f y ∅ (by rw[cc,<-g];exact w) (by rw[l];exact⟨_,z,q⟩)
 .have l:(k+(c.toArray.size:Int)).toNat=j:=by
   rw[seqIndex_neg ∅ x]at d;rw[cc,<-g];exact c8 d
  exact PySem.W.ki_setBack f ∅ (by rw[cc,<-g];exact x) ∅ (by rw[l];exact⟨_,z,q⟩)
theorem P3(c d:Option Int)(n:Nat):(tJ c d ae n).1=((HT.sIx n 0 c:Nat):Int)/\(tJ c d ae n).2.1=((HT.sIx n n d:Nat):Int)/\(tJ c d ae n).2.2=1:=by
 refine⟨?_,?_,rfl⟩
 .cases c with
  |none=>simp[tJ,HT.sIx]
  |some i=>
   simp only[tJ,HT.sIx,Je,show(1:Int) > 0 by decide,if_true];by_cases h:i<0
   .simp only[h,if_true] <;> lia
   .simp only[h,if_false] <;> lia
 .cases d with
  |none=>simp[tJ,HT.sIx]
  |some i=>
   simp only[tJ,HT.sIx,Je,show(1:Int) > 0 by decide,if_true];by_cases h:i<0
   .simp only[h,if_true] <;> lia
   .simp only[h,if_false] <;> lia
theorem LA(c:List ai)(d f:Option Int):slicePick c.toArray d f ae=((c.drop (HT.sIx c.length 0 d)).take (HT.sIx c.length c.length f-HT.sIx c.length 0 d)).toArray:=by obtain⟨i,h,g⟩:=P3 d f c.toArray.size;unfold slicePick;rw[i,h,g];simp only[sliceRange_one,pick_run,cc] <;> rfl
def F6(K:ay):V->Option Int->Option Int->Hp->VK->Prop:=λx c d H Q=>∃a xs,x=.ref a/\cf K H a xs/\∀p,H p=ae->Q (.ref p) (upd H p (.lst (oI xs c d)))
theorem Ua:k9 X (F6 X.K):=by
 intro C s w H x v z y c d A Q I g p j i h;obtain⟨a,xs,rfl,n,q⟩:=h;cases g;obtain⟨l,r,f,m⟩:=I.list n;have u:=r.length;refine⟨"list",_,slot_list_getitem.lookup,f.isList.typeIs,?_⟩;refine wpAny_getItem_list_slice f.isList p j i .none (by simp) ?_ (by rw[cc] <;> lia);rw[LA,<-u];refine⟨.ref s.heap.objs.size,_,I.laid (t':=s.toks) (o:=.lst (oI xs c d)) (λb B q=>bD _ q) (a8 _) ?_,rfl,q _ (I.hok.fresh (a8 _))⟩;exact⟨cM (EO xs c d) m,_,0,(r.drop (HT.sIx xs.length 0 c)).take (HT.sIx xs.length xs.length d-HT.sIx xs.length 0 c),cD _ rfl⟩
def gc:V->Bool
 |.non=>ag
 |.bl _=>ag
 |.int _=>ag
 |.str _=>ag
 |_=>am
def eI:V->V->Bool
 |.non,.non=>ag
 |.bl a,.bl b=>a == b
 |.bl a,.int b=>(if a then 1 else 0) == b
 |.int a,.bl b=>a == (if b then 1 else 0)
 |.int a,.int b=>a == b
 |.str a,.str b=>a == b
 |_,_=>am
theorem F9{A:aR}{s:ao}{y x:V}{u v:ai}(f:RelV y u)(c:RelV x v)(h:gc y=ag)(g:gc x=ag):vY A s u v (eI y x):=by
 cases y with
 |non=>
  cases f;cases x with
  |non=>cases c;exact SeqAt.EqAt.same _
  |bl b=>cases c;exact SeqAt.EqAt.none_bool b
  |int b=>obtain⟨t,rfl⟩:=c;exact SeqAt.EqAt.none_int b t
  |str b=>obtain⟨t,rfl⟩:=c;exact SeqAt.EqAt.none_str b t
  |_=>exact absurd (show am=ag from g) eP
 |bl a=>
  cases f;cases x with
  |non=>cases c;exact SeqAt.EqAt.bool_none a
  |bl b=>cases c;exact SeqAt.EqAt.bool_bool a b
  |int b=>obtain⟨t,rfl⟩:=c;exact SeqAt.EqAt.bool_int a b t
  |str b=>obtain⟨t,rfl⟩:=c;exact SeqAt.EqAt.bool_str a b t
  |_=>exact absurd (show am=ag from g) eP
 |int a=>
  obtain⟨d,rfl⟩:=f;cases x with
  |non=>cases c;exact SeqAt.EqAt.int_none a d
  |bl b=>cases c;exact SeqAt.EqAt.int_bool a d b
  |int b=>obtain⟨t,rfl⟩:=c;exact SeqAt.EqAt.int_int a d b t
  |str b=>obtain⟨t,rfl⟩:=c;exact SeqAt.EqAt.int_str a d b t
  |_=>exact absurd (show am=ag from g) eP
 |str a=>
  obtain⟨d,rfl⟩:=f;cases x with
  |non=>cases c;exact SeqAt.EqAt.str_none a d
  |bl b=>cases c;exact SeqAt.EqAt.str_bool a d b
  |int b=>obtain⟨t,rfl⟩:=c;exact SeqAt.EqAt.str_int a d b t
  |str b=>obtain⟨t,rfl⟩:=c;exact CS a d b t
  |_=>exact absurd (show am=ag from g) eP
 |_=>exact absurd (show am=ag from h) eP
def jD(x:V)(u:ai):Bool:=match u with
 |.none=>eI .non x
 |.bool b=>eI (.bl b) x
 |.int i _=>eI (.int i) x
 |.str z _=>eI (.str z) x
 |_=>am
theorem xZ{x y:V}{u:ai}(r:RelV y u)(f:gc y=ag):jD x u=eI y x:=by
 cases y with
 |non=>cases r;rfl
 |bl b=>cases r;rfl
 |int i=>obtain⟨t,rfl⟩:=r;rfl
 |str z=>obtain⟨t,rfl⟩:=r;rfl
 |_=>exact absurd (show am=ag from f) eP
theorem Gs{x:V}{xs:List V}{c:List ai}(r:bj xs c)(f:xs.all gc=ag):c.any (jD x)=xs.any λy=>eI y x:=by
 unfold bj at r
 induction r with
 |nil=>rfl
 |cons r _ g=>rw[tK,gK]at f;rw[nL,nL,xZ r f.1,g f.2]
theorem uP{A:aR}{s:ao}{x:V}{v:ai}(i:RelV x v)(j:gc x=ag){xs:List V}{d:List ai}(r:bj xs d)(f:xs.all gc=ag):∀u∈d,vY A s u v (jD x u):=by
 unfold bj at r
 induction r with
 |nil=>exact λu c=>by cases c
 |cons r _ g=>
  intro h c;rw[tK,gK]at f;rcases bo.mp c with rfl|c
  .rw[xZ r f.1];exact F9 r i f.1 j
  .exact g f.2 h c
def u9(x:V)(xs:List V):Bool:=xs.any λy=>eI y x
def Bi(K:ay)(c:Bool):R2:=λx y H Q=>∃p xs,y=.ref p/\(cf K H p xs\/cH K H p xs)/\gc x=ag/\xs.all gc=ag/\Q (.bl (if c then !u9 x xs else u9 x xs)) H
theorem Rz:bT X (eE .In) (Bi X.K am):=by
 intro o s n H x y v u Q I i l h;obtain⟨p,xs,rfl,d,j,fs,q⟩:=h;cases l;rcases d with d|d
 .obtain⟨c,r,f,m⟩:=I.list d;refine SeqAt.in_listAt (jD x) f.isList (λw g=>uP i j r fs w (by simpa using g)) ⟨.bl _,H,I,rfl,?_⟩;rw[show c.toArray.any (jD x)=c.any (jD x) by simp,Gs r fs];exact q
 .obtain⟨c,r,f,m⟩:=I.tuple d;refine SeqAt.in_tupleAt (jD x) f (λw g=>uP i j r fs w (by simpa using g)) ⟨.bl _,H,I,rfl,?_⟩;rw[show c.toArray.any (jD x)=c.any (jD x) by simp,Gs r fs];exact q
theorem dE.or{f:ai}{r i:List V->Hp->VK->Prop}(h:dE X f r)(l:dE X f i):dE X f (λxs H Q=>r xs H Q\/i xs H Q):=by
 intro j s c H xs d Q I g q;rcases q with q|q
 .exact h j s c H xs d Q I g q
 .exact l j s c H xs d Q I g q
theorem Cw:dE X (.type "list") (λxs H Q=>∃p f,xs=[.ref p]/\(cf X.K H p f\/cH X.K H p f)/\∀l,H l=ae->Q (.ref l) (upd H l (.lst f))):=by
 intro K s C H xs L Q I r h;obtain⟨p,f,rfl,v,q⟩:=h;obtain⟨u,rfl,D⟩:=vals1 r;cases D;have w:∀(c:List ai),bj f c->f.length<=bn->∀(d:az) (i:Nat),(∀b B,s.heap.get? b=aa B->d.get? b=aa B) ->
   d.get? s.heap.objs.size=aa {cls:=.type "list",dict:=ae,data:=.seq c.toArray i,slots:=#[]}->EP X K C Q (.ref s.heap.objs.size) {s with heap:=d}:=λc g m d i j e=>
  ⟨.ref s.heap.objs.size,_,I.laid (t':=s.toks) j (a8 _) (show cm X.prog X.w _ d _ (.lst f)from⟨m,c,i,g,e⟩),rfl,q _ (I.hok.fresh (a8 _))⟩
 rcases v with v|v
 .obtain⟨c,g,x,m⟩:=I.list v;have J:=g.length;obtain⟨o,y,A,n,z⟩:=x.isList;exact call_list_seq p (.inl rfl) y A z (λd i j e=>w c g m d i j e) (by simp only[cc] <;> lia)
 .obtain⟨c,g,x,m⟩:=I.tuple v;have J:=g.length;obtain⟨o,y,A,n,z⟩:=x;exact call_list_seq p (.inr rfl) y A z (λd i j e=>w c g m d i j e) (by simp only[cc] <;> lia)
theorem yX:dE X (.type "tuple") (λxs H Q=>∃p d,xs=[.ref p]/\((cf X.K H p d/\∀l,H l=ae->Q (.ref l) (upd H l (.tup d)))\/(cH X.K H p d/\Q (.ref p) H))):=by
 intro n s j H xs z Q I r h;obtain⟨p,d,rfl,h⟩:=h;obtain⟨u,rfl,w⟩:=vals1 r;cases w;rcases h with⟨hq,q⟩|⟨hq,q⟩
 .obtain⟨c,g,i,m⟩:=I.list hq;have A:=g.length;refine call_tuple_list i.isList (λf x=>?_) (by simp only[cc] <;> lia);have v:Inv X n j H {s with heap:=f}:=I.kept (t':=s.toks) x;have y:Inv X n j (upd H f.objs.size (.tup d)) {s with heap:=f.push {cls:=.type "tuple",data:=.seq c.toArray}} :=v.laid (t':=s.toks) (λb o e=>bD _ e) (a8 _) (show cm X.prog X.w _ _ _ (.tup d)from⟨m,c,g,IN.new _ _⟩);exact⟨.ref f.objs.size,_,y,rfl,q _ (v.hok.fresh (a8 _))⟩
 .obtain⟨c,g,i,m⟩:=I.tuple hq;exact call_tuple_same i ⟨.ref p,H,I,rfl,q⟩
def Cu(K:ay)(T:String)(x:V)(H:Hp):Prop:=match x with
 |.str _=>T = "str"
 |.int _=>T = "int"
 |.ref p=>(T = "list"/\∃xs,cf K H p xs)\/(T = "tuple"/\∃o,K.lookup p=aa o/\o.cls=.type "tuple"/\o.dict=ae) \/
   (T = "dict"/\((∃c,H p=aa (.dK c))\/∃c,H p=aa (.dT c)))\/(T = "set"/\∃S n,H p=aa (.set S n))
 |_=>False
theorem Fx{q:List (af×Obj)}{l:St}{H:Hp}{s:ao}{T:String}{x:V}{v:ai}(I:Inv X q l H s)(r:RelV x v)(ty:Cu X.K T x H):s.TypeIs v T/\∀a,v=.ref a->∃j,s.heap.get? a=aa j/\j.dict=ae:=by
 cases x with
 |str z=>
  obtain⟨t,rfl⟩:=r;cases (show T = "str" from ty);exact⟨typeIs_str s z t,λ_ e=>nomatch e⟩
 |int i=>
  obtain⟨t,rfl⟩:=r;cases (show T = "int" from ty);exact⟨typeIs_int s i t,λ_ e=>nomatch e⟩
 |ref p=>
  cases r;rcases ty with⟨rfl,xs,hq⟩|⟨rfl,o,hk,hc,f⟩|⟨rfl,hk⟩|⟨rfl,S,n,hk⟩
  .obtain⟨m,_,h,_⟩:=I.list hq;refine⟨h.isList.typeIs,λa e=>?_⟩;cases e;obtain⟨o,n,e,c,f,_⟩:=h;exact⟨o,e,f⟩
  .refine⟨⟨o,I.kIn p o hk,hc⟩,λa e=>?_⟩;cases e;exact⟨o,I.kIn _ o hk,f⟩
  .have z:∃o,s.heap.get? p=aa o/\o.ExactDict:=by
    rcases hk with⟨kvs,hk⟩|⟨kvs,hk⟩
    .obtain⟨_,_,_,_,o,_,_,e,d,_⟩:=I.hok p _ hk;exact⟨o,e,d⟩
    .obtain⟨_,_,_,_,o,_,_,e,d,_⟩:=I.hok p _ hk;exact⟨o,e,d⟩
   obtain⟨o,e,d⟩:=z;refine⟨⟨o,e,d.1⟩,λa g=>?_⟩;cases g;exact⟨o,e,d.2.1⟩
  .obtain⟨o,_,_,_,e,d,_⟩:=I.hok p _ hk;refine⟨⟨o,e,d.1⟩,λa g=>?_⟩;cases g;exact⟨o,e,d.2.1⟩
 |_=>exact ix ty
def QW(K:ay)(T:String)(r:V->List V->Hp->VK->Prop)(C:TE):TE:=λd H Q=>C d H λx c=>Cu K T x c/\r x [] c Q
def MN(K:ay)(T:String)(r:V->List V->Hp->VK->Prop)(C:TE)(t:TA):TE:=λc H Q=>C c H λx d=>Cu K T x d/\t c d λxs f=>r x xs f Q
variable{o e:aD}{es:List aD}{C:TE}{t:TA}{m:Str}{B d:Pos}{T D:String}{r:V->List V->Hp->VK->Prop}
theorem MQ(p:PlainAttrs T)(c:Slot T m D)(q:typeOf (.builtin D)=pure (.type "method_descriptor"))(z:zn X D r)(y:PE X o C)(w:kf o m X.env (aX o X.env)=aX o X.env:=by rfl) (u:(B.endLine == d.line)=ag:=by rfl):PE X (.Call (.Attribute o m B) [] [] d) (QW X.K T r C):=by intro i s f H Q I h;refine wpAny_Call_method0_late w u (a6 (y i s f H _ I h) λv l ζ=>?_);obtain⟨x,K,j,g,ty,n⟩:=ζ;obtain⟨J,A⟩:=Fx j g ty;exact⟨T,D,p,c,q,J,A,CT rfl (PySem.evalArgs_none (z i l f K x [] v [] Q j g .nil n))⟩
theorem sZ(A:PlainAttrs T)(c:Slot T m D)(J:typeOf (.builtin D)=pure (.type "method_descriptor"))(O:zn X D r)(N:PE X o C)(P:PA X (e::es) t)(L:kf o m X.env (aX o X.env)=aX o X.env:=by rfl)(D9:((cE d (aM (e::es) X.env)).all (λx=>!x.1)&&(mD d (mE [] X.env)).all (λx=>x.1.isSome)&&decide ((e::es).length+([]:List gJ).length+(if([]:List gJ).isEmpty then 0 else 1)<30))=ag:=by rfl)(K:(B.endLine == d.line)=ag:=by rfl) (M:aM (e::es) X.env=(am,aX e X.env)::aM es X.env:=by rfl) (D4:(cE d (aM es X.env)).any (·.1)=am:=by rfl):PE X (.Call (.Attribute o m B) (e::es) [] d) (MN X.K T r C t):=by intro g s f H Q I h;refine wpAny_Call_method_late L D9 K rfl (a6 (N g s f H _ I h) λv u ζ=>?_);obtain⟨x,H1,l,i,ty,z⟩:=ζ;obtain⟨W,S⟩:=Fx l i ty;refine⟨T,D,A,c,J,W,S,?_⟩;have j:=P d g u f H1 _ l z;rw[M]at j ⊢;refine CT (by show(am||(cE d (aM es X.env)).any (·.1))=am;rw[D4] <;> rfl) (CU ?_);exact a6 j λp q ⟨n,Z,Y,w,y⟩=>O g q f Z x n v p Q Y i w y
end
def qt(X:Cx)(d:String)(r:V->List V->Hp->VK->Prop):Prop :=
 ∀(c:List (af×Obj)) (s:ao) (a:St) (H:Hp) (x:V) (xs:List V) (v:ai) (b:List ai) (Q:VK),Inv X c a H s->RelV x v->bj xs b->r x xs H Q ->
  ar (aw X.prog X.w) X.A (call (.builtin d) (v::b)) (EP X c a Q) X.xe s
theorem bj.one{x:V}{a:List ai}(h:bj [x] a):∃u,a=[u]/\RelV x u:=by
 cases h with
 |cons r t=>cases t;exact⟨_,rfl,r⟩
theorem bj.zero:∀{a:List ai},bj [] a->a=[]
 |_,.nil=>rfl
theorem bj.eraseIdx:∀{xs:List V}{a:List ai} (i:Nat),bj xs a->bj (xs.eraseIdx i) (a.eraseIdx i)
 |_,_,_,.nil=>.nil
 |_,_,0,.cons _ t=>t
 |_,_,i+1,.cons r t=>.cons r (bj.eraseIdx i t)
theorem bj.rep{xs:List V}{a:List ai}(h:bj xs a):∀k:Nat,bj (bK k xs).flatten (bK k a).flatten
 |0=>.nil
 |k+1=>by rw[pc,pc,tL,tL];exact bj.append h (bj.rep h k)
theorem Aw{a:Type}:∀(l:List a) (i:Nat),(l.eraseIdx i).length<=l.length
 |[],_=>a8 _
 |_::_,0=>vZ _
 |_::r,i+1=>Nat.succ_le_succ (Aw r i)
theorem foldl_rep(a:List ai):∀(k:Nat) (b:List ai), List.foldl (λd c=>d++c) b.toArray (bK k a.toArray)=(b++(bK k a).flatten).toArray
 |0,b=>by simp
 |k+1,b=>by
  have e:b.toArray++a.toArray=(b++a).toArray:=by simp
  have f:(b++a)++(bK k a).flatten=b++(bK (k+1) a).flatten:=by rw[pc,tL,lG]
  rw[<-f,<-foldl_rep a k (b++a),<-e,pc,kM]
section
variable{X:Cx}{c:List (af×Obj)}{a:St}{H:Hp}{s:ao}{l b:af}{d ys g:List V}
theorem Inv.lset{h its':List ai}{n:Nat}{f:Array ai->Array ai}{i:Nat}(I:Inv X c a H s)(v:H l=aa (.lst d))(e:s.heap.get? l=aa {cls:=.type "list",data:=.seq h.toArray n}) (p:f h.toArray=its'.toArray) (m:bj ys its') (j:ys.length<=bn):Inv X c a (upd H l (.lst ys)) {s with heap:=s.heap.update l (jt f),toks:=i}:=by have q:=PySem.IsL.update e f;rw[p]at q;refine I.write (x:=l) (e:=l) (by rw[v];exact trivial) (.inl rfl) (λw u r o=>(mI s.heap (jt f) (eO r)).trans o) ⟨_,q⟩ ?_;exact⟨j,its',_,m,q⟩
theorem Inv.lnew{its:List ai}{t':Nat}(I:Inv X c a H s)(h:bj ys its)(f:ys.length<=bn):Inv X c a (upd H s.heap.objs.size (.lst ys)) {s with heap:=s.heap.push {cls:=.type "list",data:=.seq its.toArray},toks:=t'} :=I.laid (λ_ _ q=>bD _ q) (a8 _) ⟨f,its,0,h,cD _ rfl⟩
theorem Inv.fresh(I:Inv X c a H s):H s.heap.objs.size=ae:=I.hok.fresh (a8 _)
theorem Inv.lstM(I:Inv X c a H s)(h:H l=aa (.lst d)):d.length<=bn/\∃(f:List ai) (n:Nat),bj d f/\d.length=f.length/\s.heap.get? l=aa {cls:=.type "list",data:=.seq f.toArray n}:=by obtain⟨z,f,n,r,e⟩:=I.hok l _ h;exact⟨z,f,n,r,r.length,e⟩
theorem Q5{n:Nat}(h:n<=bn):Jf n=am:=by unfold Jf;exact decide_eq_false ∅
end
section
variable{X:Cx}
def Pj:V->List V->Hp->VK->Prop:=λx a H Q=>∃l xs y,x=.ref l/\a=[y]/\H l=aa (.lst xs)/\xs.length<bn/\Q .non (upd H l (.lst (xs++[y])))
theorem GQ:qt X "list.append" Pj:=by
 intro o s f H x g v i Q I b c h;obtain⟨l,xs,y,rfl,rfl,a,j,q⟩:=h;cases b;obtain⟨u,rfl,d⟩:=c.one;obtain⟨z,its,n,r,m,e⟩:=I.lstM a;refine pe F.slot_list_append ⟨_,e,rfl⟩ F.entry_list_append (F.args_list_append_2 _ _) (PySem.list_append l its.toArray n u (by rw[cc];lia)) ⟨e,?_⟩;refine⟨.non,_,I.lset (its':=its++[u]) a e (by simp) (r.append (.cons d .nil)) ?_,rfl,q⟩;rw[c0,nM];lia
def Ps:V->List V->Hp->VK->Prop:=λx a H Q=>∃l xs i k y,x=.ref l/\a=[.int i]/\H l=aa (.lst xs)/\-(2^63)<=i/\i<2^63/\seqIndex? i xs.length=aa k/\xs[k]?=aa y/\Q y (upd H l (.lst (xs.eraseIdx k)))
theorem Nf:qt X "list.pop" Ps:=by
 intro G s C H x D v E Q I d f h;obtain⟨l,xs,i,k,y,rfl,rfl,c,B,A,p,j,q⟩:=h;cases d;obtain⟨u,rfl,g⟩:=f.one;obtain⟨t,rfl⟩:=g;obtain⟨z,a,n,r,o,e⟩:=I.lstM c;obtain⟨w,m,b⟩:=r.get j;refine pe F.slot_list_pop ⟨_,e,rfl⟩ F.entry_list_pop (F.args_list_pop_2 _ _)
  (MeetsSeq.list_pop_at l a.toArray n i t k w (fitsIndex_both B A) (by rw[cc,<-o];exact p) (by rw[<-nN];exact m) (by rw[cc];lia)) ⟨e,?_⟩
 refine⟨y,_,I.lset (its':=a.eraseIdx k) c e ?_ (r.eraseIdx k) ?_,b,q⟩
 .show a.toArray.eraseIdxIfInBounds k=(a.eraseIdx k).toArray;rw[Jg]
 .have:=Aw xs k;lia
theorem Bl{a:Type}(xs:List a)(k:Nat):(bK k xs).flatten.length=k*xs.length:=by
 induction k with
 |zero=>simp
 |succ k b=>rw[pc,tL,c0,b,tN,Nat.add_comm]
end
section
variable{κ:Type}[DecidableEq κ]
def j0(a:List (κ×V))(k:κ):Option V:=(a.find? λb=>decide (b.1=k)).map (·.2)
def iu(a:List (κ×V))(k:κ)(v:V):List (κ×V) :=if(a.any λb=>decide (b.1=k))=ag then a.map (λb=>if b.1=k then(b.1,v)else b)else a++[(k,v)]
theorem yN{p:κ×V}{r:List (κ×V)}{k:κ}(e:p.1=k):j0 (p::r) k=aa p.2:=by simp[j0,kN,e]
theorem yn{p:κ×V}{r:List (κ×V)}{k:κ}(e:¬p.1=k):j0 (p::r) k=j0 r k:=by simp[j0,kN,e]
theorem Fk(k:κ):∀a:List (κ×V),(a.any λb=>decide (b.1=k))=(j0 a k).isSome
 |[]=>rfl
 |p::r=>by
  rw[nL];by_cases e:p.1=k
  .simp only[yN e,decide_eq_true e,Bool.true_or,Option.isSome_some]
  .rw[yn e,decide_eq_false e,Bool.false_or];exact Fk k r
theorem Iv(a:List (κ×V))(k:κ)(v:V):(iu a k v).length<=a.length+1:=by
 unfold iu;split
 .rw[bX];lia
 .rw[c0,cx,mJ];lia
theorem o5.isSome_eq{o:Option V}{u:Option ai}(r:o5 o u):o.isSome=u.isSome:=by
 cases o with
 |none=>cases u with
  |none=>rfl
  |some _=>exact(show False from r).elim
 |some _=>cases u with
  |none=>exact(show False from r).elim
  |some _=>rfl
theorem o5.getD{o:Option V}{u:Option ai}{d:V}{a:ai}(r:o5 o u)(rd:RelV d a):RelV (o.getD d) (u.getD a):=by
 cases o with
 |none=>cases u with
  |none=>exact rd
  |some _=>exact(show False from r).elim
 |some _=>cases u with
  |none=>exact(show False from r).elim
  |some _=>exact r
theorem KV.val{a:List (κ×V)}{d:List (κ×ai)}(r:KV a d)(k:κ):o5 (j0 a k) (tO d k):=by
 unfold KV at r
 induction r with
 |nil=>exact True.intro
 |@cons p q ps qs h t ih=>
  obtain⟨f,g⟩:=h;by_cases e:p.1=k
  .have c:q.1=k:=f.symm.trans e;have b:tO (q::qs) k=aa q.2:=by simp[tO,kN,c]
   rw[yN e,b];exact g
  .have c:¬q.1=k:=λz=>e (f.trans z);have b:tO (q::qs) k=tO qs k:=by simp[tO,kN,c]
   rw[yn e,b];exact ih
theorem KV.any{a:List (κ×V)}{c:List (κ×ai)}(r:KV a c)(k:κ):(a.any λb=>decide (b.1=k))=c.any λb=>decide (b.1=k):=by
 unfold KV at r
 induction r with
 |nil=>rfl
 |cons h t d=>rw[nL,nL,d,h.1]
theorem KV.repl{b:List (κ×V)}{d:List (κ×ai)}(r:KV b d)(k:κ){y:V}{u:ai}(f:RelV y u):KV (b.map λa=>if a.1=k then(a.1,y)else a) (d.map λa=>if a.1=k then(a.1,u)else a):=by
 unfold KV at r ⊢
 induction r with
 |nil=>exact .nil
 |@cons p q ps qs h t ih=>
  rw[cS,cS];refine .cons ?_ ih;obtain⟨c,g⟩:=h;by_cases e:p.1=k
  .rw[if_pos e,if_pos (c.symm.trans e)];exact⟨c,f⟩
  .rw[if_neg e,if_neg (λz=>e (c.trans z))];exact⟨c,g⟩
theorem KV.put{a:List (κ×V)}{b:List (κ×ai)}(r:KV a b)(k:κ){y:V}{u:ai}(c:RelV y u):KV (iu a k y) (stored b k u):=by
 unfold iu stored;rw[r.any k];by_cases e:(b.any λd=>decide (d.1=k))=ag
 .rw[if_pos e,if_pos e];exact r.repl k c
 .rw[if_neg e,if_neg e];exact CV r ⟨rfl,c⟩
theorem KV.length{a:List (κ×V)}{b:List (κ×ai)}(r:KV a b):a.length=b.length:=CH r
end
theorem zj{P:aO}{w:aG}{k:aN}{u:ai}(r:RelV (kV k) u):(iY P w).is k u=ag:=by
 cases k with
 |inl i=>obtain⟨t,e⟩:=(show ∃t,u=Value.int i t from r);subst e;exact KJ P w i t
 |inr x=>obtain⟨t,e⟩:=(show ∃t,u=Value.str x t from r);subst e;exact M7 P w x t
theorem Fc{P:aO}{w:aG}:∀{ks:List aN}{a:List ai},bj (ks.map kV) a->ItemsAre (iY P w) ks a
 |[],_,r=>by rw[v3]at r;cases r;exact .nil
 |k::ks,_,r=>by
  rw[cS]at r;cases r with
  |cons h t=>exact .cons (zj h) (Fc t)
abbrev KT(H:Hp):List (List aN×V)->List (List aN×af×ai)->Prop:=j_ λp q=>p.1=q.1/\H q.2.1=aa (.tup (p.1.map kV))/\RelV p.2 q.2.2
theorem KT.val{H:Hp}{a:List (List aN×V)}{xs:List (List aN×af×ai)}(r:KT H a xs)(k:List aN):o5 (j0 a k) ((atKey xs k).map (·.2)):=by
 induction r with
 |nil=>exact True.intro
 |@cons p q ps qs h t ih=>
  obtain⟨d,_,f⟩:=h;by_cases e:p.1=k
  .have c:q.1=k:=d.symm.trans e;have b:atKey (q::qs) k=aa q.2:=by simp[atKey,kN,c]
   rw[yN e,b];exact f
  .have c:¬q.1=k:=λz=>e (d.trans z);have b:atKey (q::qs) k=atKey qs k:=by simp[atKey,kN,c]
   rw[yn e,b];exact ih
theorem KT.repl{H:Hp}{a:List (List aN×V)}{xs:List (List aN×af×ai)}(r:KT H a xs)(k:List aN){y:V}{u:ai}(f:RelV y u):KT H (a.map λc=>if c.1=k then(c.1,y)else c) (xs.map (putAt k u)):=by
 induction r with
 |nil=>exact .nil
 |@cons p q ps qs h t ih=>
  rw[cS,cS];refine .cons ?_ ih;obtain⟨b,d,g⟩:=h;unfold putAt;by_cases e:p.1=k
  .rw[if_pos e,if_pos (b.symm.trans e)];exact⟨b,d,f⟩
  .rw[if_neg e,if_neg (λz=>e (b.trans z))];exact⟨b,d,g⟩
theorem KT.put{H:Hp}{a:List (List aN×V)}{xs:List (List aN×af×ai)}(r:KT H a xs)(k:List aN){b:af}{y:V}{u:ai}(f:H b=aa (.tup (k.map kV)))(c:RelV y u):KT H (iu a k y) (storedH xs k b u):=by
 have e:(a.any λd=>decide (d.1=k))=(atKey xs k).isSome:=by rw[Fk,(r.val k).isSome_eq,Option.isSome_map]
 unfold iu storedH;rw[e];by_cases q:(atKey xs k).isSome=ag
 .rw[if_pos q,if_pos q];exact r.repl k c
 .rw[if_neg q,if_neg q];exact CV r ⟨rfl,f,c⟩
theorem KT.keeps{H d:Hp}{a:List (List aN×V)}{xs:List (List aN×af×ai)}(r:KT H a xs)(f:∀b c,H b=aa (.tup c)->d b=aa (.tup c)):KT d a xs :=Paired.mapP r λ_ _ z=>⟨z.1,f _ _ z.2.1,z.2.2⟩
section
variable{P:aO}{w:aG}{H:Hp}{h:az}{a:af}
theorem Hx{u:HO}(ok:cX P w H h)(e:Rd H a u):cm P w H h a u:=e.ok ok
theorem vQ{b:List (aN×V)}(ok:cX P w H h)(e:Rd H a (.dK b)):b.length<=bn/\(a == jr)=am/\∃c,KV b c/\h.DictOf (iY P w) a c :=show cm P w H h a (.dK b)from Hx ok e
theorem BF{b:List (aN×V)}(ok:cX P w H h)(e:H a=aa (.dK b)):b.length<=bn/\(a == jr)=am/\∃c,KV b c/\h.DictOf (iY P w) a c:=vQ ok (.inl e)
theorem yO{ks:List aN}(ok:cX P w H h)(e:H a=aa (.tup (ks.map kV))):(vS (iY P w)).is h ks a:=by
 obtain⟨_,b,r,⟨o,f,d,n,c⟩,_⟩:=(show cm P w H h a (.tup (ks.map kV))from ok a _ e)
 exact⟨o,b.toArray,n,f,d,c,by simpa using Fc r⟩
theorem vG{b:List (List aN×V)}(ok:cX P w H h)(e:Rd H a (.dT b)):b.length<=bn/\(a == jr)=am /\ ∃xs,KT H b xs/\h.DictOfH (vS (iY P w)) a xs:=by
 obtain⟨z,y,xs,r,o,n,s,j,i,g,f,d⟩:=(show cm P w H h a (.dT b)from Hx ok e)
 refine⟨z,y,xs,r,o,n,s,j,i,g,f,λx c=>?_,d⟩;have all:∀{l:List (List aN×V)}{m:List (List aN×af×ai)},KT H l m->∀x∈m,(vS (iY P w)).is h x.1 x.2.1:=by
  intro l m q
  induction q with
  |nil=>intro x c;exact nomatch c
  |@cons p q ps qs hq t ih=>
   intro x c;rcases bo.mp c with e|c
   .subst e;exact yO ok (by rw[<-hq.1];exact hq.2.1)
   .exact ih x c
 exact all r x c
theorem Ld{b:List (List aN×V)}(ok:cX P w H h)(e:H a=aa (.dT b)):b.length<=bn/\(a == jr)=am /\ ∃xs,KT H b xs/\h.DictOfH (vS (iY P w)) a xs:=vG ok (.inl e)
end
def rW(H:Hp)(a:af)(y:V)(r:Option V):Prop :=(∃c k,Rd H a (.dK c)/\y=kV k/\r=j0 c k)\/∃c k b,Rd H a (.dT c)/\y=.ref b/\H b=aa (.tup (k.map kV))/\r=j0 c k
def zq(H:Hp)(a:af)(y v:V)(d:Hp):Prop :=
 (∃c k,H a=aa (.dK c)/\y=kV k/\c.length<bn/\d=upd H a (.dK (iu c k v))) \/
 ∃c k b,H a=aa (.dT c)/\y=.ref b/\H b=aa (.tup (k.map kV))/\c.length<bn/\d=upd H a (.dT (iu c k v))
theorem rW.k{H:Hp}{a:af}{b:List (aN×V)}{k:aN}(e:H a=aa (.dK b)):rW H a (kV k) (j0 b k):=.inl ⟨b,k,.inl e,rfl,rfl⟩
theorem zq.k{H:Hp}{a:af}{b:List (aN×V)}{k:aN}{v:V}(e:H a=aa (.dK b))(c:b.length<bn):zq H a (kV k) v (upd H a (.dK (iu b k v))):=.inl ⟨b,k,e,rfl,c,rfl⟩
theorem zq.t{H:Hp}{a b:af}{c:List (List aN×V)}{k:List aN}{v:V}(e:H a=aa (.dT c))(f:H b=aa (.tup (k.map kV)))(d:c.length<bn):zq H a (.ref b) v (upd H a (.dT (iu c k v))):=.inr ⟨c,k,b,e,rfl,f,d,rfl⟩
section
variable{X:Cx}{f:List (af×Obj)}{d:St}{H:Hp}{s:ao}{a:af}{y v:V}{u r:ai}{o:Option V}{A:aR}{E:ai->ao->Prop}
theorem Inv.big(I:Inv X f d H s):jr<s.heap.objs.size:=by have h:bW<s.heap.objs.size:=(I.mod.glob.keeps I.bk).lt;exact tP (by decide) h
theorem OF{Q:ai->ao->Prop}(B:A.units+1<cLine)(I:Inv X f d H s)(g:rW H a y (aa v))(w:RelV y u)(h:∀j q,Inv X f d H q->RelV v j->Q j q):ar (aw X.prog X.w) A (nJ (.ref a) u) Q E s:=by
 rcases g with⟨kvs,k,e,ey,l⟩|⟨kvs,k,b,e,ey,eb,l⟩
 .subst ey;obtain⟨z,D,x,i,n⟩:=vQ I.hok e;obtain⟨j,m,c⟩:=o5.some_of (v:=v) (o:=tO x k) (by rw[l];exact i.val k);exact wpAny_getItem_of (zj w) n.mapOf m (h j _ (I.tok _) c)
 .subst ey;cases (show u=Value.ref b from w);obtain⟨z,D,xs,i,n⟩:=vG I.hok e;obtain⟨j,m,c⟩:=o5.some_of (v:=v) (o:=(atKey xs k).map (·.2)) (by rw[l];exact i.val k);obtain⟨p,C,F⟩:=mK.mp m;refine wpAny_getItem_heap (Jh B) (yO I.hok eb) n C ?_;rw[F];exact h j _ (I.tok _) c
theorem EG{c:az}{h:Nat}{g:HO}(I:Inv X f d H s)(i:uZ (H a))(j:kb a s.heap c)(l:∃q,c.get? a=aa q)(new:cm X.prog X.w (upd H a g) c a g):Inv X f d (upd H a g) {s with heap:=c,toks:=h} :=I.write (x:=a) (e:=a) i (.inl rfl) (λb q m z=>(j.2 b m).trans z) l new
theorem Lh{P:aO}{w:aG}{l:Hp}{h:az}{b:List (aN×V)}{c:List (aN×ai)}(z:b.length<=bn)(i:(a == jr)=am)(g:KV b c)(j:h.DictOf (iY P w) a c):cm P w l h a (.dK b):=⟨z,i,c,g,j⟩
theorem Nl{K:Hp}{Q:Unit->ao->Prop}(M:A.units+1<cLine)(I:Inv X f d H s)(g:zq H a y v K)(D:RelV y u)(F:RelV v r)(h:∀C,Inv X f d K C->Q () C):ar (aw X.prog X.w) A (setItem (.ref a) u r) Q E s:=by
 rcases g with⟨kvs,k,e,ey,l,eH⟩|⟨kvs,k,b,e,ey,eb,l,eH⟩
 .subst ey eH;obtain⟨z,x,L,i,B⟩:=BF I.hok e;have n:L.length<=bn:=by rw[<-i.length];exact z
  have w:(iu kvs k v).length<=bn:=by have:=Iv kvs k v;lia
  refine wpAny_setItem_pairs (hsz:=n) (zj D) B λG j p=>h _ ?_;have N:∃q,G.get? a=aa q:=let ⟨q,_,_,m,_⟩:=j;⟨q,m⟩
  exact EG I (by rw[e];exact True.intro) p N (Lh w x (i.put k F) j)
 .subst ey eH;cases (show u=Value.ref b from D);obtain⟨z,x,xs,i,B⟩:=Ld I.hok e;have n:xs.length<=bn:=by rw[<-CH i];exact z
  have w:(iu kvs k v).length<=bn:=by have:=Iv kvs k v;lia
  refine wpAny_setItem_heap (hsz:=n) (Jh M) (yO I.hok eb) B λG j p=>h _ ?_;obtain⟨q,W,Y,m,T,S,P,_,O⟩:=j;refine EG I (by rw[e];exact True.intro) p ⟨q,m⟩ ⟨w,x,_,(i.put k eb F).keeps λc Z J=>?_,q,W,Y,m,T,S,P,O⟩;rw[bO (EA J e (λz=>nomatch z))];exact J
end
def Bo(i:aD):Prop:=∀ov a,CQ i am ov a=operate [ov,a] (nJ ov a)
theorem Su{a:aO}{w:aG}{A:aR}{E:ai->ao->Prop}{s:ao}{m:Env}{c b:aD}{q:Pos}{T v:String}{Q:ai->ao->Prop}(z:typeLookup (.type T) "__getitem__"=pure (aa (.builtin v))) (y:Bo b)(h:ar (aw a w) A (aX c m) (λo j=>ar (aw a w) A (aX b m) (λi d=>d.TypeIs o T/\ar (aw a w) A (nJ o i) Q E d) E j) E s):ar (aw a w) A (aX (.Subscript c b q) m) Q E s:=by
 refine Subscript_ (eW h (λo j p=>eW p (λi d f=>?_) λ_ _ x=>x) λ_ _ x=>x);obtain⟨u,f⟩:=f;unfold subscriptTail;refine aq ?_;rw[getitemInPython_of_ne u.not_modules];refine aq (v4 u z ?_);have l:ar (aw a w) A (CQ b am o i) (λr g=>ar (aw a w) A (letTemporaryGo c o r >>= λ_=>pure r) Q E g) E d:=by rw[y o i];exact wpAny_operating (eW f (λr g n=>aq (wpAny_letTemporaryGo (aC n))) λ_ _ x=>x)
 first
  |exact aC (aq l)
  |exact aq (aC (aq l))
  |exact aq l
theorem Ov{X:Cx}{f:List (af×Obj)}{d:St}{H:Hp}{s:ao}{a:af}{y:V}{o:Option V}(I:Inv X f d H s)(g:rW H a y o):s.TypeIs (.ref a) "dict":=by
 rcases g with⟨kvs,k,e,_,_⟩|⟨kvs,k,b,e,_,_,_⟩
 .obtain⟨_,_,h,_,c⟩:=vQ I.hok e;exact c.typeIs
 .obtain⟨_,_,xs,_,c⟩:=vG I.hok e;exact c.typeIs
def MP(d ty:TE):TE:=λb H Q=>d b H λx f=>ty b f λy c=>∃a v,x=.ref a/\rW c a y (aa v)/\Q v c
def MD(f ty d:TE):TS:=λD b H=>d b H λv i=>f b i λx h=>ty b h λy g=>∃a c,x=.ref a/\zq g a y v c/\D.nx b c
section
variable{X:Cx}{o i e b:aD}{d c l:Pos}{f ty j:TE}
theorem Kq(C:X.A.units+1<cLine)(E:PE X o f)(F:PE X i ty)(D:Bo i):PE X (.Subscript o i d) (MP f ty):=by intro p s n H Q I h;refine Su PySem.F.slot_dict_getitem.lookup D (a6 (E p s n H _ I h) λu r ⟨x,M,K,z,B⟩=>a6 (F p r n M _ K B) λS P ζ=>?_);obtain⟨y,L,q,w,a,v,G,g,A⟩:=ζ;subst G;obtain rfl:u=Value.ref a:=z;exact⟨Ov q g,OF C q g w λN O J m=>⟨v,L,J,m,A⟩⟩
theorem E3(G:X.A.units+1<cLine)(K:PE X o f)(L:PE X i ty)(F:PE X b j)(J:jG b (aa (.Subscript o i c)) d.line X.env=pure am):PS X (.Assign [.Subscript o i c] b d) (MD f ty j):=by intro n s m H D I h;refine wpAny_Assign_Subscript (a6 (F n s m H _ I h) λr q ⟨v,W,Q,A,E⟩=>a6 (K n q m W _ Q E) λu p ⟨x,T,P,z,C⟩=>a6 (L n p m T _ P C) λiv Z ⟨y,H3,O,w,a,S,M,g,B⟩=>?_) J;subst M;obtain rfl:u=Value.ref a:=z;exact Nl G O g w A λY N=>⟨m,S,N,B⟩
end
theorem Nx{P:aO}{w:aG}{H:Hp}(h:az)(a:jr<h.objs.size):cm P w H (h.push {cls:=.type "dict",data:=.dict #[]}) h.objs.size (.dK []) :=⟨kg _,beq_eq_false_iff_ne.mpr (eO (cR a)),[],.nil,Heap.DictOf.new h⟩
theorem O8{P:aO}{w:aG}{H:Hp}(h:az)(a:jr<h.objs.size):cm P w H (h.push {cls:=.type "dict",data:=.dict #[]}) h.objs.size (.dT []) :=⟨kg _,beq_eq_false_iff_ne.mpr (eO (cR a)),[],.nil,_,#[],0,cD _ rfl,⟨rfl,rfl,rfl⟩,rfl,rfl,List.nodup_nil⟩
def Qq:TE:=λ_ H Q=>∀p,H p=ae->Q (.ref p) (upd H p (.dK []))
def Oc:TE:=λ_ H Q=>∀p,H p=ae->Q (.ref p) (upd H p (.dT []))
section
variable{X:Cx}{b:Pos}
theorem M8:PE X (.Dict [] [] b) Qq:=λd s c H Q I h=>wpAny_Dict_empty ⟨.ref s.heap.objs.size,_,I.laid (a:=s.heap.objs.size) (o:=.dK []) (t':=s.toks) (λ_ _ q=>bD _ q) (a8 _) (Nx s.heap I.big),rfl,h _ (I.hok.fresh (a8 _))⟩
theorem R5:PE X (.Dict [] [] b) Oc:=λd s c H Q I h=>wpAny_Dict_empty ⟨.ref s.heap.objs.size,_,I.laid (a:=s.heap.objs.size) (o:=.dT []) (t':=s.toks) (λ_ _ q=>bD _ q) (a8 _) (O8 s.heap I.big),rfl,h _ (I.hok.fresh (a8 _))⟩
end
abbrev VV:List (V×V)->List (ai×ai)->Prop:=j_ λp q=>RelV p.1 q.1/\RelV p.2 q.2
structure M1(X:Cx)(o:aD)(m:Str)(apos:Pos)(e:aD)(cpos:Pos):Prop where
 base:kf o m X.env (aX o X.env)=aX o X.env
 few:((cE cpos (aM [e] X.env)).all (λx=>!x.1)&&(mD cpos (mE [] X.env)).all (λx=>x.1.isSome)&&decide (([e]:List aD).length+([]:List gJ).length+(if([]:List gJ).isEmpty then 0 else 1)<30))=ag
 line:(apos.endLine == cpos.line)=ag
 trees:cE cpos (aM [e] X.env)=[(am,aX e X.env)]
structure M2(X:Cx)(o:aD)(m:Str)(apos:Pos)(e f:aD)(cpos:Pos):Prop where
 base:kf o m X.env (aX o X.env)=aX o X.env
 few:((cE cpos (aM [e,f] X.env)).all (λx=>!x.1)&&(mD cpos (mE [] X.env)).all (λx=>x.1.isSome)&&decide (([e,f]:List aD).length+([]:List gJ).length+(if([]:List gJ).isEmpty then 0 else 1)<30))=ag
 line:(apos.endLine == cpos.line)=ag
 trees:cE cpos (aM [e,f] X.env)=[(am,aX e X.env),(am,aX f X.env)]
def E_(H:Hp)(a:af):Prop:=(∃b,Rd H a (.dK b))\/∃b,Rd H a (.dT b)
theorem PF{X:Cx}{l:List (af×Obj)}{j:St}{H:Hp}{s:ao}{a:af}(I:Inv X l j H s)(d:E_ H a):s.TypeIs (.ref a) "dict"/\(∀b,Value.ref a=.ref b->∃c,s.heap.get? b=aa c/\c.dict=ae)/\(a == jr)=am:=by
 rcases d with⟨kvs,e⟩|⟨kvs,e⟩
 .obtain⟨_,g,m,_,f⟩:=vQ I.hok e;refine⟨f.typeIs,λb q=>?_,g⟩;cases q;obtain⟨c,_,_,i,h,_⟩:=f;exact⟨c,i,h.2.1⟩
 .obtain⟨_,g,xs,_,f⟩:=vG I.hok e;refine⟨f.typeIs,λb q=>?_,g⟩;cases q;obtain⟨c,_,_,i,h,_⟩:=f;exact⟨c,i,h.2.1⟩
section
variable{X:Cx}{f:List (af×Obj)}{c:St}{H:Hp}{s:ao}{a:af}{y d:V}{u r:ai}{o:Option V}{A:aR}{E:ai->ao->Prop}
theorem Mv{Q:ai->ao->Prop}(v:A.units+1<cLine)(I:Inv X f c H s)(g:rW H a y o)(q:RelV y u)(rd:RelV d r)(h:∀n p,Inv X f c H p->RelV (o.getD d) n->Q n p):ar (aw X.prog X.w) A (call (.builtin "dict.get") [.ref a,u,r]) Q E s:=by
 rcases g with⟨kvs,k,e,ey,l⟩|⟨kvs,k,b,e,ey,eb,l⟩
 .subst ey;obtain⟨z,m,w,i,j⟩:=vQ I.hok e;refine call_meetsIn Ji j.typeIs PySem.F.entry_dict_get (PySem.F.args_dict_get_3 _ _ _) (meets_dict_get_default (iY X.prog X.w) a (zj q) m r) ⟨_,j.mapOf,h _ _ (I.tok _) ?_⟩;rw[l];exact(i.val k).getD rd
 .subst ey;cases (show u=Value.ref b from q);obtain⟨z,m,xs,i,j⟩:=vG I.hok e;refine call_meetsIn Ji j.typeIs PySem.F.entry_dict_get (PySem.F.args_dict_get_3 _ _ _) (meetsH_dict_get_default (vS (iY X.prog X.w)) a b m r) ⟨Jh v,k,xs,yO I.hok eb,j,h _ _ (I.tok _) ?_⟩;rw[l];exact(i.val k).getD rd
end
def QY(g ty f:TE):TE:=λb H Q=>g b H λx d=>∃a,x=.ref a/\E_ d a/\ty b d λy h=>f b h λz c=>∃o,rW c a y o/\Q (o.getD z) c
section
variable{X:Cx}{o e f:aD}{c b:Pos}{j ty i:TE}
theorem Nh(J:X.A.units+1<cLine)(K:PE X o j)(M:PE X e ty)(L:PE X f i)(m:M2 X o "get" c e f b):PE X (.Call (.Attribute o "get" c) [e,f] [] b) (QY j ty i):=by intro p s l H Q I h;refine wpAny_Call_method m.base m.few m.line PySem.F.plainAttrs_dict Ji PySem.F.type_dict_get (a6 (K p s l H _ I h) λu A ζ=>?_);obtain⟨x,Y,q,D,a,N,d,G⟩:=ζ;subst N;obtain rfl:u=Value.ref a:=D;obtain⟨v,r,_⟩:=PF q d;refine⟨v,r,?_⟩;rw[m.trees];refine CT rfl (CU (CK (a6 (M p A l Y _ q G) λiv w ⟨y,W,S,C,F⟩=>CK (a6 (L p w l W _ S F) λfv s3 ⟨z,T,P,B,ov,g,E⟩=>IV ?_))));exact Mv J P g C B λZ s4 O n=>⟨_,T,O,n,E⟩
end
end L2
namespace Att
open PySem PySem.W PySem.Calls PyProof.Rows
theorem RC{P:Params}{h:az}:∀(c:List Int) (d:List ai),WellAll P h d (c.map WData.int)->IntsAre d c:=by
 intro c
 induction c with
 |nil=>
  intro d w;rw[v3]at w;cases w;exact .nil
 |cons n c f=>
  intro d w;rw[cS]at w;cases w with
  |cons a b=>
   cases a;exact .cons _ _ (f _ b)
theorem SV{l:OpenLaw}{n:Nat}(x:l.most=aa n){P:Params}{h:az}{args:List WData}{c:List ai}(j:l.row.toRowW.claim.pre args=ag) (u:WellAll P h c args):∃a m b,c=[Value.ref a]/\args=[WData.list (b.map WData.int)]/\h.get? a=aa {cls:=.type "list",data:=.seq m.toArray}/\IntsAre m b/\b.length<=n:=by
 have i:WShape.hasAll [] args [.list .int]=ag:=(pre_splitW j).1;have o:l.pre.holds [] {args:=args}=ag:=(pre_splitW j).2;obtain⟨d,r,rfl,A,z⟩:=hasAllW_cons i;obtain rfl:=hasAllW_nil z;obtain⟨xs,rfl,y⟩:=hasW_list A;obtain⟨b,rfl⟩:=items_int y;have C:b.length<=n:=by
  unfold OpenLaw.pre at o;have g:(WTm.not (.lt (.lit (.int (n:Int))) (.len (.arg 0)))).holds [] {args:=[.list (b.map .int)]}=ag:=by have g:=(holds_andW o).1;rw[x]at g;exact g
  have f:=condW_of g (w_not (w_lt w_lit (w_len_list (w_arg rfl))));rw[bX]at f;refine Nat.le_of_not_lt λq=>?_;have v:(n:Int)<((b.length:Nat):Int):=∅
  first
   | (rw[decide_eq_true v]at f;exact absurd f (by decide))
   | (simp at f;lia)
 cases u with
 |cons s p=>
  cases p;cases s with
  |list w B=>exact⟨_,_,b,rfl,rfl,w,RC b _ B,C⟩
theorem Pn(l:OpenLaw)(args:List WData):l.row.toRowW.claim.post args (.bool ag) args=ag :=
 postW_of (r:=l.row.toRowW) (X:=(ag == ag))
  (show WShape.has [] (.bool ag) .bool=ag by first|rfl|decide|simp[WShape.has,WShape.arms,WShape.armsAll])
  (show(WTm.eq .res (.lit (.bool ag))).value [] {args:=args,res:=aa (.bool ag),after:=args}=aa (.bool (ag == ag))from w_eq_bool (w_res rfl) w_lit) rfl
theorem attach_call{l:OpenLaw}{n:Nat}{q:aO}{g:List Str}{XP:(Str->Option ai)->az->Prop}{C:aG->az->Prop}{d:DefRec}(L:l.most=aa n) (F:d.params.defaults=[])(call:∀(w:aG) (c b:ao) (s x:Str->Option ai) (j:af) (o:Obj) (v u h:ai) (a:af) (i:List ai) (p:List Int),Ground q g [] XP w c s x b.heap->C w b.heap -> b.heap.get? j=aa o->o.data=.func (docDef d.name d.params d.body d.scope v u h)->b.heap.CodeRec u d.name->s d.name=aa (.ref j) -> b.heap.get? a=aa {cls:=.type "list",data:=.seq i.toArray}->IntsAre i p->p.length<=n->b.gens=#[] -> mC (aw l.prog w) tQ (.call (.ref j) ⟨[.ref a],[]⟩) (λr m=>r=.ok (.ret (.bool ag))/\OldK b.heap m.heap/\m.os=b.os/\nG m.gens) b):WalkO q g XP C l.row.toRowW d [] (λf i=>PySem.call f i):=by intro w c b s x G Y j o v u h dV kV K P W A D O B y as E z I H N;obtain rfl:dV=.none:=Dflts.none A F;obtain rfl:kV=.none:=Dflts.noKw A;obtain⟨a,i,p,rfl,rfl,Z,D6,X⟩:=SV L E H;refine enter_call (qB (call w c b s x j o v u h a i p G Y K (fd_plain P) W D Z D6 X O) λr m J=>?_);obtain⟨rfl,T,S,Q⟩:=J;exact⟨.inl ⟨.bool ag,.bool ag,[],rfl,λ_=>rfl,.bool ag,Pn l _,λ_=>⟨List.Pairwise.nil,λ_ M=>(nomatch M)⟩⟩,T,S,Q⟩
end Att
namespace L2
theorem KW{a:List ai}{b:List Int}(h:IntsAre a b):bj (b.map V.int) a:=by
 induction h with
 |nil=>exact .nil
 |cons n t _ g=>exact .cons ⟨t,rfl⟩ g
def B7(H:Hp):Prop:=∀b,H b=ae\/(∃o xs,H b=aa (.frz o (.lst xs)))\/∃q,H b=aa (.tbl q)
def jU(K:ay):Hp:=λb=>match qx K "least_ending" with
 |some (_,P)=>if b=P then aa (.tbl "least_ending.<locals>.<lambda>")else ae
 |none=>ae
theorem qb{K:ay}{b:af}{u:HO}(h:jU K b=aa u):u=.tbl "least_ending.<locals>.<lambda>"/\∃c,qx K "least_ending"=aa (c,b):=by
 unfold jU at h;split at h
 .rename_i c P e;split at h
  .rename_i a;subst a;cases h;exact⟨rfl,c,e⟩
  .cases h
 .cases h
theorem Ff{K:ay}{c P:af}(h:qx K "least_ending"=aa (c,P)):jU K P=aa (.tbl "least_ending.<locals>.<lambda>"):=by unfold jU;rw[h];exact if_pos rfl
def EJ(K:ay)(h:az):Prop:=∀c P,qx K "least_ending"=aa (c,P)->PySem.W.codeHdIn K c P=ag/\K.lookup P=ae/\h.get? P=aa {cls:=.none,data:=.fields #[]}
theorem Pe{P:aO}{w:aG}{K:ay}{L mb:Str->Option ai}{CX:gS}{k:Nat}{fa a:af}{fd:iw}{x:Str}{sp:Sp}{f:ao}{G:List ai}{M:List Int}(KX:K.In f.heap) (ui:f.heap.Ns bW L) (j:f.heap.Ns qw mb) (hbb:∀x:Str,x≠"__name__"->mb x=eA x) (O:f.heap.NoLimit) (hbm:∃E C,L "__builtins__"=aa (.ref E)/\E≠qw/\f.heap.get? E=aa C/\C.cls=.type "module"/\C.dict=aa qw/\C.data=.plain) (B:EJ K f.heap) (hg:f.gens=#[])(y:f.heap.get? a=aa {cls:=.type "list",data:=.seq G.toArray}) (hi:IntsAre G M) (hl:M.length<=bn) (hr:f8 k tQ)(F:∀p:az,K.In p->p.Ns bW L->k6 P w K L p CX k fa fd [x] sp) (TQ:∀(s:ao) (u:ai),BindsTo s fd ⟨[u],[]⟩ [(x,u)])(iA:∀H:Hp,B7 H->cf K H a (M.map V.int)->sp [.ref a] H (λv _=>v=.bl ag) λ_ _ _=>False)(hCX:∀H e l,CX [] H f (λ_ _ _=>False) e l->False):mC (aw P w) tQ (.call (.ref fa) ⟨[.ref a],[]⟩) (λr l=>r=.ok (.ret (.bool ag))/\OldK f.heap l.heap/\l.os=f.os/\nG l.gens) f:=by
 have rv:=KW hi;have N:=hi.length;have D:∀H:Hp,B7 H->cf K H a (M.map V.int)->cX P w H f.heap->(∀b,H b≠ae->b=a\/∃c,qx K "least_ending"=aa (c,b))->(H a≠ae->K.lookup a=ae)->xI K H ->
   mC (aw P w) tQ (.call (.ref fa) ⟨[.ref a],[]⟩) (λr l=>r=.ok (.ret (.bool ag))/\OldK f.heap l.heap/\l.os=f.os/\nG l.gens) f:=by
  intro H hO hS I Y hK hTH;have g:∀{b:af}{o:Obj},f.heap.get? b=aa o->H b=ae->(nq f.heap H).get? b=aa o:=λe n=>Oy e n;have noA:∀{b:af}{o:Obj}{S:Array tR}{T:Nat},f.heap.get? b=aa o->o.data=.dict S T->H b=ae:=λ{b o S T} e d=>by
   cases q:H b with
   |none=>rfl
   |some u=>
    rcases Y b (by rw[q];simp)with i|⟨c,i⟩
    .subst i;rw[y]at e;cases e;have d':Data.seq G.toArray _=Data.dict S T:=d;cases d'
    .rw[(B c b i).2.2]at e;cases e;cases d
  have A:∀{b:af}{m:Str->Option ai},f.heap.Ns b m->(nq f.heap H).Ns b m:=λ{b m} ⟨o,S,T,e,d,r⟩=>⟨o,S,T,g e (noA e d),d,r⟩
  have Q:K.In (nq f.heap H):=λb o e=>g (KX b o e) (by
   cases q:H b with
   |none=>rfl
   |some u=>
    rcases Y b (by rw[q];simp)with i|⟨c,i⟩
    .subst i;rw[hK (by rw[q];simp)]at e;cases e
    .rw[(B c b i).2.1]at e;cases e)
  have hM:Mod K L (nq f.heap H):=⟨Q,A ui,⟨mb,A j,hbb⟩,(let ⟨mc,h1,h2⟩:=O;⟨mc,A h1,h2⟩),by
   obtain⟨E,C,b1,b2,X,b4,b5,b6⟩:=hbm;refine⟨E,C,b1,b2,g X ?_,b4,b5,b6⟩;cases q:H E with
   |none=>rfl
   |some u=>
    rcases Y E (by rw[q];simp)with i|⟨c,i⟩
    .subst i;rw[y]at X;cases X;simp at b4
    .rw[(B c E i).2.2]at X;cases X;simp at b4⟩
  have e0:rZ P w K L (nq f.heap H) tQ [] f H:=⟨rfl,hM,λb o e=>Tq e,nO (Kk _ _),trivial,λb j=>absurd (show b∈([]:List af)from j) (by simp),I,.of_eq hg,hTH⟩
  refine qB ((F _ Q (A ui)).run tQ [] f H ⟨[.ref a],[]⟩ [.ref a] [.ref a] _ _ hr e0 (TQ f (.ref a)) (.cons rfl .nil) (iA H hO hS)) λr l h=>?_;cases r with
  |error e=>exact(hCX H e l h).elim
  |ok fl=>
   cases fl with
   |next=>exact ix h
   |brk=>exact ix h
   |cont=>exact ix h
   |ret u=>
    obtain⟨v,H',os,W,un,J7,r',q⟩:=h;have q':v=.bl ag:=q;subst q';obtain rfl:u=Value.bool ag:=r';refine⟨rfl,⟨λb o e=>?_,λb o e=>un.there b o e (by simp)⟩,os,W⟩;cases q:H b with
    |none=>exact .inl (un.keep b o e q (by intro z;exact absurd (show b∈([]:List af)from z) (by simp)) (by simp))
    |some u=>
     rcases hO b with z|⟨C,xs,z⟩|⟨qn,z⟩
     .rw[q]at z;cases z
     .have z2:=un.frzs b C _ z;obtain⟨J,_⟩:=I b _ z;obtain⟨e2,_⟩:=J7 b _ z2;rw[e]at J;cases J;exact .inl e2
     .rcases Y b (by rw[q];simp)with i|⟨c,i⟩
      .subst i;obtain⟨ps,J,_⟩:=I b _ z;rw[y]at J;cases J
      .obtain⟨k1,k2,k3⟩:=B c b i;rw[k3]at e;cases e;obtain⟨oc,Z,_,_,_,_,_,_,_,f1,f2,f3,f4,_⟩:=PySem.W.codeHd_of_K KX k1;obtain⟨ps,J,_⟩:=J7 b _ (un.tbls b _ z);exact .inr (.inl ⟨⟨c,oc,Z,f1,f2,f3,f4⟩,rfl,#[],ps,rfl,by rw[J];simp⟩)
 cases hk:K.lookup a with
 |some o=>
  have e:=KX a o hk;rw[y]at e;cases e;have tH:∀b u,jU K b=aa u->cm P w (jU K) f.heap b u:=λb u z=>by
   obtain⟨rfl,c,e⟩:=qb z;exact⟨#[],(B c b e).2.2,trivial,λpos cv h=>by cases h⟩
  refine D (jU K) (λb=>?_) (.inr ⟨_,G.toArray,_,hk,rfl,rfl,rfl,by rw[cc,N];exact hl,by simpa using rv⟩) tH (λb z=>?_) (λz=>?_) λx hx c P e=>?_
  .cases q:jU K b with
   |none=>exact .inl rfl
   |some u=>exact .inr (.inr ⟨_,congrArg aa (qb q).1⟩)
  .cases q:jU K b with
   |none=>exact absurd q z
   |some u=>exact .inr (qb q).2
  .cases q:jU K a with
   |none=>exact absurd q z
   |some u=>
    obtain⟨_,c,i⟩:=qb q;rw[(B c a i).2.2]at y;cases y
  .obtain rfl:x = "least_ending":=by simpa[Co]using hx
   exact Ff e
 |none=>
  have ta:∀c P,qx K "least_ending"=aa (c,P)->P≠a:=λc P e z=>by subst z;rw[(B c P e).2.2]at y;cases y
  refine D (λb=>if b=a then aa (.frz {cls:=.type "list",data:=.seq G.toArray} (.lst (M.map V.int)))else jU K b) (λb=>?_) (.inl (.inr ⟨{cls:=.type "list",data:=.seq G.toArray},if_pos rfl⟩)) (λb u z=>?_) (λb z=>?_) (λ_=>hk) λx hx c P e=>?_
  .by_cases j:b=a
   .exact .inr (.inl ⟨_,_,if_pos j⟩)
   .cases q:jU K b with
    |none=>exact .inl ((if_neg j).trans q)
    |some u=>exact .inr (.inr ⟨_,(if_neg j).trans (q.trans (congrArg aa (qb q).1))⟩)
  .by_cases j:b=a
   .have z':=(if_pos j).symm.trans z;cases z';subst j;exact⟨y,by rw[bX];exact hl,G,_,rv,y⟩
   .obtain⟨rfl,c,e⟩:=qb ((if_neg j).symm.trans z);exact⟨#[],(B c b e).2.2,trivial,λpos cv h=>by cases h⟩
  .by_cases j:b=a
   .exact .inl j
   .cases q:jU K b with
    |none=>exact absurd ((if_neg j).trans q) z
    |some u=>exact .inr (qb q).2
  .obtain rfl:x = "least_ending":=by simpa[Co]using hx
   exact(if_neg (ta c P e)).trans (Ff e)
theorem Us{l:CW}{n k:Nat}{q:aO}{c:List Str}{XP:(Str->Option ai)->az->Prop}{E:aG->az->Prop}{d:DefRec}{K:Params->ay}{CX:aG->gS}{sp:aG->Sp}{x:Str}(O:l.most=aa n) (r:n<=bn) (L:d.params.defaults=[]) (N:f8 k tQ)(C:∀(w:aG) (h:az),E w h->(K w.params).In h/\EJ (K w.params) h)(F:∀(w:aG) (g:Str->Option ai) (m:af) (h:az),(K w.params).In h->h.Ns bW g->g d.name=aa (.ref m) -> ∃z:iw,(∀(s:ao) (u:ai),BindsTo s z ⟨[u],[]⟩ [(x,u)]) /\ ∀b:az,(K w.params).In b->b.Ns bW g->k6 l.prog w (K w.params) g b (CX w) k m z [x] (sp w))(M:∀(w:aG) (H:Hp) (a:af) (j:List Int),j.length<=n->B7 H->cf (K w.params) H a (j.map V.int)->sp w [.ref a] H (λv _=>v=.bl ag) λ_ _ _=>False)(y:∀(w:aG) (H:Hp) (s:ao) (e:ai) (p:ao),CX w [] H s (λ_ _ _=>False) e p->False):PySem.W.WalkO q c XP E l.row.toRowW d [] (λf A=>PySem.call f A):=by refine Att.attach_call O L λw B i g mb m o pm cd X a A j G Y ho hd bu J Z D6 D P=>?_;have I:=(C w _ Y).1;obtain⟨z,Q,W⟩:=F w g m _ I G.T.g J;exact Pe I G.T.g G.T.b G.T.builtins G.T.nolimit G.T.bmain (C w _ Y).2 P Z D6 (cM D r) N W Q (λH T S=>M w H a j D T S) λH e p=>y w H i e p
def jZ(s:bg):Arguments:=match s with
 |.FunctionDef _ a _ _ _ _ _ _ _ _=>a
 |_=>{posonlyargs:=[],args:=[],vararg:=ae,kwonlyargs:=[],kw_defaults:=[],kwarg:=ae,defaults:=[]}
def gF(s:bg):List bg:=match s with
 |.FunctionDef _ _ b _ _ _ _ _ _ _=>b
 |_=>[]
def bh(s:bg):eB:=match s with
 |.FunctionDef _ _ _ _ _ _ a _ _ _=>a
 |_=>{kind:=.function,names:=[],isGenerator:=am,isCoroutine:=am}
abbrev A7:gS:=λ_ _ _ _ _ _=>False
abbrev E0:XK:=λ_ _ _=>False
structure pX(K:ay)(x qual:Str)(st:bg)(f:af)(fd:iw):Prop where
 ex:∃(oc:ai) (od:Option af) (kV doc pm:ai) (an:Option af) (aW ct:ai) (osl:Array (Option ai)),
  fd=i8 x qual (jZ st) (gF st) (bh st) .none kV doc pm an aW ct/\K.lookup f=aa ⟨oc,od,.func fd,osl⟩/\vW K aW qual=ag
 kp:qC K (.ref f)=ag
section
variable{P:aO}{w:aG}{K:ay}{b:Str->Option ai}{a:az}
theorem pX.binds{x c:Str}{g:bg}{f:af}{p:iw}{j:List Str}(F:pX K x c g f p)(h:∀(kV d l:ai) (n:Option af) (o m:ai) (i:List ai),i.length=j.length->gI (i8 x c (jZ g) (gF g) (bh g) .none kV d l n o m) ⟨i,[]⟩=pure (j.zip i)):Binds K p j []:=by obtain⟨oc,r,kV,d,l,n,o,m,q,rfl,s,u⟩:=F.ex;exact .all (h kV d l n o m)
theorem HC{x d:Str}{g:bg}{f:af}{oc:ai}{p o:Option af}{i:Array (Option ai)}{kV h m j n:ai}(l:K.lookup f=aa ⟨oc,p,.func (i8 x d (jZ g) (gF g) (bh g) .none kV h m o j n),i⟩)(c:vW K j d=ag) (k:qC K (.ref f)=ag):pX K x d g f (i8 x d (jZ g) (gF g) (bh g) .none kV h m o j n):=⟨⟨oc,p,kV,h,m,o,j,n,i,rfl,l,c⟩,k⟩
end
theorem QS{n:Nat}(h:n<=1000):n<bn:=v6 h (by decide)
section
variable{X:Cx}
theorem pv(i:Nat){x:Str}{a:Pos}(d:X.N[i]?=aa x:=by rfl)(b:eR X.env.scope x:=by first|exact Or.inl rfl|exact Or.inr (Or.inl rfl)|exact Or.inr (Or.inr rfl))(c:(x==("__debug__":Str))=am:=by decide)(f:(x==("__classdict__":Str))=am:=by decide):PE X (.Name x a) (Ic i):=fJ d b c f
end
theorem oN{A B:Prop}(h:B):if am=ag then A else B:=by rw[if_neg eP];exact h
theorem oV{A B:Prop}(h:A):if ag=ag then A else B:=by rw[if_pos rfl];exact h
def Same(H a:Hp):Prop:=∀b o,H b=aa o->a b=aa o
theorem Same.refl(H:Hp):Same H H:=λ_ _ h=>h
theorem Same.trans{H f d:Hp}(a:Same H f)(b:Same f d):Same H d:=λc o h=>b c o (a c o h)
theorem Same.free{H a:Hp}(e:Same H a){l:af}(h:a l=Option.none):H l=Option.none:=by
 cases q:H l with
 |none=>rfl
 |some o=>
  rw[e l o q]at h;cases h
end L2
set_option maxHeartbeats 4000000
namespace L2
def iF(a:Env):List (Str×g9)->List (Str×af)->List (Str×af)
 |[],b=>b
 | (n,k)::r,b=>if k == .free then iF a r ((n,(a.cells.lookup n).getD 0)::b)else iF a r b
theorem RS{d:Env}{y:Str}{c:af}(b:List (Str×g9))(f:List (Str×af))(l:∀x∈b,x.2=.free->∃c,d.cells.lookup x.1=aa c)(h:(iF d b f).lookup y=aa c):f.lookup y=aa c\/d.cells.lookup y=aa c:=by
 induction b generalizing f with
 |nil=>exact .inl h
 |cons a r i=>
  obtain⟨n,k⟩:=a;unfold iF at h;have j:∀x∈r,x.2=.free->∃c,d.cells.lookup x.1=aa c:=λx m=>l x (dy _ m);split at h
  .rename_i o;obtain⟨s,g⟩:=l (n,k) (eC ..) (by simpa using o);rcases i _ j h with q|q
   .rw[kP]at q;split at q
    .rename_i p;have e:y=n:=by simpa using p
     subst e;rw[g]at q;exact .inr (by rw[g];exact q)
    .exact .inl q
   .exact .inr q
  .exact i _ j h
theorem Hu{a:Type}{n:Str}{v:a}{l:List (Str×a)}:((n,v)::l).lookup n=aa v:=by rw[kP];simp
theorem GL{a:Type}{n y:Str}{v:a}{l:List (Str×a)}(h:∃c,l.lookup y=aa c):∃c,((n,v)::l).lookup y=aa c:=by
 rw[kP];split
 .exact⟨_,rfl⟩
 .exact h
theorem BI{d:Env}{y:Str}:∀(a:List (Str×g9)) (b:List (Str×af)),(∃c,b.lookup y=aa c)->∃c,(iF d a b).lookup y=aa c
 |[],b,h=>h
 | (n,k)::r,b,h=>by
  unfold iF;split
  .exact BI r _ (GL h)
  .exact BI r _ h
theorem Aj{g:Env}{y:Str}:∀(a:List (Str×g9)) (i:List (Str×af)),(∃x∈a,x.1=y/\x.2=.free)->∃c,(iF g a i).lookup y=aa c
 |[],i,⟨_,h,_⟩=>by simp at h
 | (n,k)::r,i,⟨x,b,f,d⟩=>by
  unfold iF;rcases bo.mp b with e|b
  .subst e;simp only at f d;subst f d;simp only[beq_self_eq_true,if_true];exact BI r _ ⟨_,Hu⟩
  .split
   .exact Aj r _ ⟨x,b,f,d⟩
   .exact Aj r _ ⟨x,b,f,d⟩
theorem B3{b:Env}:∀(a:List (Str×g9)) (g:List (Str×af)),(∀x∈a,x.2=.free->∃c,b.cells.lookup x.1=aa c) -> (forIn (m:=Sem) a g λx r=>match x with | (d,f)=>if(f == NameKind.free)=ag then do let c <-cellOf b d;pure (ForInStep.yield ((d,c)::r))else pure (ForInStep.yield r))=pure (iF b a g)
 |[],g,_=>rfl
 | (n,k)::r,g,h=>by
  have j:∀x∈r,x.2=.free->∃c,b.cells.lookup x.1=aa c:=λx o=>h x (dy _ o);rw[List.forIn_cons];unfold iF;by_cases i:(k == NameKind.free)=ag
  .obtain⟨c,l⟩:=h (n,k) (eC ..) (by simpa using i);simp only[i,if_true];have e:cellOf b n=pure c:=by unfold cellOf;rw[l]
   rw[e];simp only[pure_bind];rw[B3 r _ j,l];rfl
  .simp only[i,if_false,pure_bind];exact B3 r _ j
theorem Sj{a:eB}{b:Env}(h:∀x∈a.names,x.2=.free->∃c,b.cells.lookup x.1=aa c):closureFor a b=pure (iF b a.names []):=by unfold closureFor;have q:=B3 a.names [] h;simp only[bind_pure_comp]at q ⊢;rw[q];rfl
theorem za{n c:Nat}(b:n+1<=c)(a:c<n):False:=∅
theorem Ap:∀(c:List (Str×g9)) (n:Nat) (a b:List (Str×af)),fR n c (a++b)=fR n c a++b
 |[],_,_,_=>rfl
 | (x,k)::r,n,a,b=>by
  unfold fR;split
  .exact Ap r (n+1) ((x,n)::a) b
  .exact Ap r n a b
theorem xQ{y:Str}{c:af}:∀(b:List (Str×g9)) (n:Nat) (a:List (Str×af)),(y,c)∈fR n b a->(y,c)∈a\/(y,.cell)∈b
 |[],_,_,h=>.inl h
 | (x,k)::r,n,a,h=>by
  unfold fR at h;split at h
  .rename_i d;rcases xQ r _ _ h with z|z
   .rcases bo.mp z with z|z
    .cases z;have e:k=.cell:=by simpa using d
     subst e;exact .inr (eC ..)
    .exact .inl z
   .exact .inr (dy _ z)
  .rcases xQ r _ _ h with z|z
   .exact .inl z
   .exact .inr (dy _ z)
theorem Cm{y:Str}:∀(b:List (Str×g9)) (n:Nat) (a:List (Str×af)),(∃c,a.lookup y=aa c)->∃c,(fR n b a).lookup y=aa c
 |[],_,_,h=>h
 | (x,k)::r,n,a,h=>by
  unfold fR;split
  .exact Cm r _ _ (GL h)
  .exact Cm r _ _ h
theorem zo{y:Str}:∀(b:List (Str×g9)) (n:Nat) (a:List (Str×af)),(y,.cell)∈b->∃c,(fR n b a).lookup y=aa c
 | (x,k)::r,n,a,h=>by
  unfold fR;rcases bo.mp h with e|h
  .cases e;exact Cm r _ _ ⟨_,Hu⟩
  .split
   .exact zo r _ _ h
   .exact zo r _ _ h
def ma(X:Cx)(a:eB)(C:af):List (Str×af):=fR (C+1) a.names (iF X.env a.names [])
theorem Bw(X:Cx)(a:eB)(C:af):ma X a C=fR (C+1) a.names []++iF X.env a.names []:=Ap a.names (C+1) [] _
theorem OU{M:Model}{A:aR}{E:ai->ao->Prop}{s:ao}{a:eB}{b:af}{j:List (Str×af)}{c:Str}{f:Env}{Q:Env->ao->Prop}(l:Q (newEnv a s.heap.objs.size b (fR (s.heap.objs.size+1) a.names j) c ae .none (aa f) qw) {s with heap:=pushCells (s.heap.push {cls:=.type "dict",data:=.dict #[]}) a.names}):ar M A (newFunctionEnv a b j [] c ae .none (aa f)) Q E s:=by
 simp only[newFunctionEnv,Option.isSome_some,if_true];refine aq (wpAny_alloc ?_);refine aq (wpAny_layCells _ (λi d h=>by cases g:d == NameKind.cell <;> simp[g]) _ _ _ _ ?_);rw[show({s with heap:=s.heap.push {cls:=.type "dict",data:=.dict #[]}}:ao).heap.objs.size=s.heap.objs.size+1 from qF ..];refine aq ?_;rw[List.forIn_nil];exact aC (aC l)
theorem FA{s:ao}{a:List (Str×g9)}{y:Str}{c:af}(h:(y,c)∈fR (s.heap.objs.size+1) a []):(pushCells (s.heap.push {cls:=.type "dict",data:=.dict #[]}) a).IsCell c ae/\s.heap.objs.size+1<=c/\∀z,(z,c)∈fR (s.heap.objs.size+1) a []->y=z:=by have ok:=cellsFrom_ok a (s.heap.push {cls:=.type "dict",data:=.dict #[]}) (s.heap.objs.size+1) [] ⟨λ_ _ d=>(nomatch d),List.Pairwise.nil⟩ (by rw[qF];exact a8 _);rw[qF]at ok;exact⟨(ok.empty y c h).1,(ok.empty y c h).2,λz b=>name_of_addr ok.apart h b⟩
def cL(X:Cx)(a:eB)(b:List Str)(C:af)(s₀:ao)(H₀:Hp)(ex:List af)(pn:List (af×Obj)):Cx where
 prog:=X.prog
 w:=X.w
 K:=X.K
 mg:=X.mg
 base:=X.base
 A:=X.A
 N:=b
 s₀:=s₀
 H₀:=H₀
 env:=compEnvC a (ma X a C) C X.env
 outer:=X.stack
 stack:=X.stack
 ex:=ex
 fn:=λy=>a.names.lookup y == aa .cell
 calm:=X.calm
 pn:=X.pn++pn
 xe:=λ_ _=>False
def iE(b:St)(a:List Nat):St:=a.map λi=>(b[i]?).join
structure jY(X:Cx)(scope:eB)(x:Str)(N':List Str)(cap:List Nat):Prop where
 kind:scope.kind=.function
 cells:∀y∈scope.names,y.2=.cell->scope.names.lookup y.1=aa .cell
 names:∀y∈scope.names,y.2=.local->scope.names.lookup y.1=aa .local
 loc:scope.names.lookup x=aa .local\/scope.names.lookup x=aa .cell
 free:∀y∈scope.names,y.2=.free->X.env.kindOf y.1=aa .cell\/X.env.kindOf y.1=aa .free
 nd:N'.Nodup
 hd:N'.head?=aa x
 len:N'.length=cap.length+1
 caps:∀i j y,N'[i+1]?=aa y->cap[i]?=aa j->(X.N[j]?=aa y/\scope.names.lookup y=aa .free)\/(X.N.length<=j/\scope.names.lookup y=aa .local)
theorem Px{a:List (Str×g9)}{y:Str}{k:g9}(h:a.lookup y=aa k):∃x∈a,x.1=y/\x.2=k:=⟨(y,k),lD h,rfl,rfl⟩
theorem Bf{a:Env}{x:Str}:∀{b:List (Str×g9)}{k:g9}, (b.map λ(n,k)=>if(k == NameKind.free&&a.scope.kind == .function&&a.kindOf n == aa .cell)then(n,NameKind.cell)else(n,k)).lookup x=aa k -> ∃f,b.lookup x=aa f/\(k=f\/(f=.free/\k=.cell))
 |[],_,h=>by simp at h
 | (n,c)::r,k,h=>by
  change CY x ((if(c == NameKind.free&&a.scope.kind == .function&&a.kindOf n == aa .cell)=ag then(n,NameKind.cell)else(n,c))::_)=_ at h;rw[kP];by_cases d:(c == NameKind.free&&a.scope.kind == .function&&a.kindOf n == aa .cell)=ag
  .rw[if_pos d,kP]at h;split at h
   .rename_i g;cases h;have:c=.free:=by simp at d;exact d.1.1
    exact⟨c,rfl,.inr ⟨this,rfl⟩⟩
   .exact Bf h
  .rw[if_neg d,kP]at h;split at h
   .rename_i g;cases h;exact⟨c,rfl,.inl rfl⟩
   .exact Bf h
theorem Cp{a:Env}{x:Str}:∀{b:List (Str×g9)},b.lookup x=aa .free -> let q:=(b.map λ(n,k)=>if(k == NameKind.free&&a.scope.kind == .function&&a.kindOf n == aa .cell)then(n,NameKind.cell)else(n,k)).lookup x
  q=aa .cell\/q=aa .free
 |[],h=>by simp at h
 | (n,c)::r,h=>by
  show CY x ((if(c == NameKind.free&&a.scope.kind == .function&&a.kindOf n == aa .cell)=ag then(n,NameKind.cell)else(n,c))::_)=_\/CY x ((if(c == NameKind.free&&a.scope.kind == .function&&a.kindOf n == aa .cell)=ag then(n,NameKind.cell)else(n,c))::_)=_;rw[kP]at h;by_cases f:(c == NameKind.free&&a.scope.kind == .function&&a.kindOf n == aa .cell)=ag
  .rw[if_pos f,kP];cases d:x == n with
   |true=>exact .inl rfl
   |false=>rw[d]at h;exact Cp h
  .rw[if_neg f,kP];cases d:x == n with
   |true=>rw[d]at h;cases h;exact .inr rfl
   |false=>rw[d]at h;exact Cp h
theorem Bg{a:Env}{x:Str}:∀{b:List (Str×g9)},b.lookup x=aa .cell -> (b.map λ(n,k)=>if(k == NameKind.free&&a.scope.kind == .function&&a.kindOf n == aa .cell)then(n,NameKind.cell)else(n,k)).lookup x=aa .cell
 |[],h=>by simp at h
 | (n,d)::r,h=>by
  show CY x ((if(d == NameKind.free&&a.scope.kind == .function&&a.kindOf n == aa .cell)=ag then(n,NameKind.cell)else(n,d))::_)=_;rw[kP]at h;by_cases f:(d == NameKind.free&&a.scope.kind == .function&&a.kindOf n == aa .cell)=ag
  .rw[if_pos f,kP];cases c:x == n with
   |true=>rfl
   |false=>rw[c]at h;exact Bg h
  .rw[if_neg f,kP];cases c:x == n with
   |true=>rw[c]at h;cases h;rfl
   |false=>rw[c]at h;exact Bg h
section
variable{X:Cx}{A:List (af×Obj)}{w:St}{H:Hp}{s:ao}{f:eB}{x:Str}{D:List Str}{g:List Nat}
theorem Inv.freeHas(I:Inv X A w H s)(B:jY X f x D g):∀y∈f.names,y.2=.free->∃c,X.env.cells.lookup y.1=aa c:=λy a e=>I.ok.has y.1 (B.free y a e)
theorem Inv.clIn(I:Inv X A w H s)(B:jY X f x D g){y:Str}{c:af}(h:(iF X.env f.names []).lookup y=aa c):X.env.cells.lookup y=aa c:=by
 rcases RS f.names [] (I.freeHas B) h with q|q
 .simp at q
 .exact q
theorem Inv.cbIn(I:Inv X A w H s)(B:jY X f x D g){C:af}{y:Str}{c:af}(h:(ma X f C).lookup y=aa c):((y,c)∈fR (C+1) f.names []/\f.names.lookup y=aa .cell)\/((iF X.env f.names []).lookup y=aa c/\X.env.cells.lookup y=aa c):=by
 rw[Bw,Jj]at h;cases e:(fR (C+1) f.names []).lookup y with
 |none=>rw[e]at h;exact .inr ⟨h,I.clIn B h⟩
 |some a=>
  rw[e]at h;cases h;have m:=lD e;rcases xQ _ _ _ m with z|z
  .cases z
  .exact .inl ⟨m,B.cells _ z rfl⟩
theorem Inv.cbOld(I:Inv X A w H s)(B:jY X f x D g){C:af}{y:Str}{c:af}(h:(iF X.env f.names []).lookup y=aa c)(a:f.names.lookup y=aa .free):(ma X f C).lookup y=aa c:=by
 rw[Bw,Jj];cases e:(fR (C+1) f.names []).lookup y with
 |none=>exact h
 |some b=>
  rcases xQ _ _ _ (lD e)with z|z
  .cases z
  .have:=B.cells _ z rfl;rw[a]at this;cases this
theorem Inv.block{fp:List af}{E:az}{m:Str->Option ai}{t':Nat}(hh:E=pushCells (s.heap.push {cls:=.type "dict",data:=.dict #[]}) f.names)(I:Inv X A w H s)(B:jY X f x D g)(W:∀b∈fp,lz X A H b)(hfo:∀b∈fp,∃o,s.heap.get? b=aa o)(ui:E.Ns s.heap.objs.size m)(F:∀b o,s.heap.get? b=aa o->E.get? b=aa o):Inv (cL X f D s.heap.objs.size s H fp A) [] (ae::iE w g) H {s with heap:=E,toks:=t'}:=by
 have N:∀x c,X.env.cells.lookup x=aa c->c<s.heap.objs.size:=λx c e=>(I.cell x c e).elim λv q=>q.lt;have C:∀{y:Str}{c:af},(y,c)∈fR (s.heap.objs.size+1) f.names []->E.IsCell c ae/\s.heap.objs.size+1<=c/\∀z,(z,c)∈fR (s.heap.objs.size+1) f.names []->y=z:=λh=>by rw[hh];exact FA h
 have lk:∀y k,(compEnvC f (ma X f s.heap.objs.size) s.heap.objs.size X.env).kindOf y=aa k->∃O,f.names.lookup y=aa O/\(k=O\/(O=.free/\k=.cell)):=λy k h=>Bf h;have J:∀y,f.names.lookup y=aa .free->∃c,(iF X.env f.names []).lookup y=aa c:=λy h=>Aj f.names [] (Px h);have nfs:∀b∈fo X.stack,b≠s.heap.objs.size:=λb G e=>by
  rcases bo.mp (I.stkSub b G)with z|z
  .exact absurd I.lt (by rw[<-z,e];exact eV _)
  .exact I.nofs (nO e.symm) z
 refine⟨⟨I.ok.mod,B.kind,I.ok.glob,I.ok.blt,a8 _,λy z c h1 h2=>?_,λy Q=>?_,λy c h wM=>?_,I.ok.hd,I.ok.frames,.inl rfl,λb G=>?_,λb o e=>I.bs b o e,cM I.ok.bsz I.sz,λb o e G=>?_,λb G hf=>?_,I.stack,(λb G=>I.stkFree b G),I.tab⟩,rfl,I.bare,Un.kept F,⟨m,ui,λi y v e1 S e3=>?_⟩,λy c h=>?_,I.hok.fresh (a8 _),λy c h=>?_,λp hp=>?_,I.hok.kept F,?_⟩
 .-- inj
  rcases I.cbIn B h1 with⟨a1,a2⟩|⟨a1,a2⟩ <;> rcases I.cbIn B h2 with⟨b1,b2⟩|⟨b1,b2⟩
  .exact(C a1).2.2 z b1
  .exact(za (C a1).2.1 (N _ _ b2)).elim
  .exact(za (C b1).2.1 (N _ _ a2)).elim
  .exact I.ok.inj y z c a2 b2
 .-- has
  show ∃c,(ma X f s.heap.objs.size).lookup y=aa c;have mV:f.names.lookup y=aa .free->∃c,(ma X f s.heap.objs.size).lookup y=aa c:=λq=>(J y q).imp λc hc=>I.cbOld B hc q;rcases Q with Q|Q
  .obtain⟨O,q,z|⟨z,_⟩⟩:=lk y _ Q
   .subst z;exact zo _ _ _ (lD q)
   .subst z;exact mV q
  .obtain⟨O,q,z|⟨_,z⟩⟩:=lk y _ Q
   .subst z;exact mV q
   .cases z
 .-- cab
  have hk:f.names.lookup y=aa .cell:=by simpa using(show(f.names.lookup y == aa .cell)=ag from h)
  show s.heap.objs.size<=c;rcases I.cbIn B wM with⟨a1,a2⟩|⟨a1,a2⟩
  .have:=(C a1).2.1;lia
  .obtain⟨c',P⟩:=zo (n:=s.heap.objs.size+1) (a:=[]) _ (lD hk);have e:(ma X f s.heap.objs.size).lookup y=aa c':=by rw[Bw,Jj,P];rfl
   have S:(ma X f s.heap.objs.size).lookup y=aa c:=wM;rw[e]at S;cases S;have:=(C (lD P)).2.1;lia
 .-- exf
  obtain⟨f0,f1,f2,f3,f4,f5⟩:=W b G;obtain⟨o,L⟩:=hfo b G;refine⟨λe=>absurd (bz L) (by rw[e];exact eV _),λy c h=>?_⟩;rcases I.cbIn B h with⟨a1,a2⟩|⟨a1,a2⟩
  .rintro rfl;exact za (C a1).2.1 (bz L)
  .exact f4 y c a2
 .-- noex
  obtain⟨f0,f1,f2,f3,f4,f5⟩:=W b G;rcases f3 with z|z
  .exact I.ok.noex b o e z
  .exact absurd (gH (bz e) (cM I.ok.bsz z)) (eV _)
 .-- exfs
  obtain⟨f0,f1,f2,f3,f4,f5⟩:=W b G;rcases bo.mp (I.stkSub b hf)with z|z
  .exact f1 z
  .exact f2 z
 .-- loc
  cases i with
  |zero=>simp at S
  |succ i=>
   have K:(iE w g)[i]?=aa (aa v):=by simpa using S
   unfold iE at K;rw[g_]at K;cases Z:g[i]? with
   |none=>rw[Z]at K;cases K
   |some j=>
    rw[Z]at K;have T:(w[j]?).join=aa v:=c8 K;have e5:w[j]?=aa (aa v):=by
     cases hq:w[j]? with
     |none=>rw[hq]at T;cases T
     |some o=>rw[hq]at T;exact congrArg aa T
    obtain⟨b1,b2⟩:=(B.caps i j y e1 Z).elim id λz=>by have:=(c9.mp e5).1;rw[I.len]at this;exact absurd this (Nat.not_lt.mpr z.1)
    obtain⟨mm,hn,hl⟩:=I.loc;have wD:=B.free _ (lD b2) rfl;have Y:eR X.env.scope y:=by
     rcases wD with z|z
     .exact .inr (.inl z)
     .exact .inr (.inr z)
    obtain⟨u,r,l⟩:=hl j y v b1 e5 Y;refine⟨u,r,.inr ⟨Cp b2,?_⟩⟩;rcases l with⟨l,_⟩|⟨_,c,hc,Aa⟩
    .rcases wD with z|z
     .rw[l]at z;cases z
     .rw[l]at z;cases z
    .obtain⟨c',P⟩:=J y b2;have e6:=I.clIn B P;rw[hc]at e6;cases e6;obtain⟨M,L,hd⟩:=Aa;exact⟨c,I.cbOld B P b2,M,F c M L,hd⟩
 .rcases I.cbIn B h with⟨a1,a2⟩|⟨a1,a2⟩
  .exact⟨ae,(C a1).1⟩
  .obtain⟨v,M,L,hd⟩:=I.cell y c a2;exact⟨v,M,F c M L,hd⟩
 .rcases I.cbIn B h with⟨a1,a2⟩|⟨a1,a2⟩
  .exact I.hok.fresh (cM (vZ _) (C a1).2.1)
  .exact I.freeC y c a2
 .have cN:p∈X.pn++A:=by simpa[cL]using hp
  obtain⟨e,n,ne,nf,d⟩:=I.pin p cN;refine⟨F _ _ e,n,cR (bz e),λhf=>?_,d⟩;rcases bo.mp (I.stkSub p.1 hf)with z|z
  .exact ne z
  .exact nf z
 .show(ae::iE w g).length=D.length;rw[B.len];simp[iE]
end
def sO(X:Cx)(b:List aD)(t:TT):Prop :=
 ∀(d:List (af×Obj)) (s:ao) (a:St) (H:Hp) (Q:Bool->Hp->Prop),Inv X d a H s->t a H Q ->
  ar (aw X.prog X.w) X.A (forIn b ag λc r=>if r=ag then do let ok <-nH c X.env (aX c X.env);pure (ForInStep.yield ok)else pure (ForInStep.yield r)) (TP X d a Q) X.xe s
theorem Nc{P:aO}{w:aG}{A:aR}{R:Result->ao->Prop}{s:ao}{m q i:aD}{l:List aD}{g:eB}{p:Pos}{u C:ai}{d:Env}(J:Nat->ao->Prop)(n:∀k o,J k o->ar (aw P w) A (mB u) (λr B=>match r with
   |none=>R (.ok .next) B
   |some v=>ar (aw P w) A (CJ q u v) (λ_ G=>ar (aw P w) A (o7 q d v) (λ_ F=>ar (aw P w) A (forIn l ag λc r=>if r=ag then do let ok <-nH c d (aX c d);pure (ForInStep.yield ok)else pure (ForInStep.yield r)) (λb z=>if b=ag then ar (aw P w) A (aX m d) (λy E=>ar (aw P w) A (call (.builtin "list.append") [C,y]) (λ_ D=>∃j,j<k/\J j D) (λ_ _=>False) E) (λ_ _=>False) z else ∃j,j<k/\J j z) (λ_ _=>False) F) (λ_ _=>False) G) (λ_ _=>False) B) (λ_ _=>False) o) (k:Nat) (h:J k s) :
  mC (aw P w) A (.compLoop (.ListComp m [⟨q,i,l,0⟩] g p) 0 u C d) R s:=by
 refine codeAny_loop rfl J (λj o K=>?_) k h;show ar _ A (Sem.onRaise (compTurn (.ListComp m [⟨q,i,l,0⟩] g p) 0 u C d) (λx=>do zz x d;theTreesLotGoes x)) _ _ o;refine wpAny_noted ?_;rw[compTurn_list];have no:∀(Q:ai->ao->Prop) (a:ai) (b:ao),False->Q a b:=λ_ _ _ f=>f.elim;refine aq (wpAny_standAt (aq (eW (n j o K) (λr B I=>?_) (no _))));cases r with
 |none=>exact aC I
 |some v=>
  refine aq (eW I (λ_ G O=>aq (eW O (λ_ F N=>aq (eW N (λb z H=>?_) (no _))) (no _))) (no _));cases b with
  |true=>exact aq (aq (eW H (λy E M=>aq (eW M (λ_ D L=>aC (aC ⟨rfl,L⟩)) (no _))) (no _)))
  |false=>exact aC ⟨rfl,H⟩
def MF:TT:=λ_ H Q=>Q ag H
theorem NT{X:Cx}:sO X [] MF:=λ_ _ _ H _ I h=>wpAny_tests_nil ⟨H,I,h⟩
theorem Tj{X:Cx}{c:aD}{t:TT}(h:PT X c t):sO X [c] t:=λd s a H Q I b=>wpAny_tests_one (h d s a H Q I b)
def CB(q:TI)(h:V->Hp->St->Prop)(k:Nat)(r:TT)(s:TE)(d:List Nat):TE:=λg H Q=>q g H λJ p=>∀l,p l=ae->∃W:Nat->Nat->List V->Hp->Prop,(∃m,W 0 m [] (upd p l (.lst [])))/\∀i m a H,W i m a H ->
 (J.stop i H/\Q (.ref l) H)\/(J.go i H/\∀v j,J.yld i H v j->∃f,f.length=k+1/\h v j f/\r (f++(iE g d).drop k) j λb o=>if b=ag then s (f++(iE g d).drop k) o λy n=>n l=aa (.lst a)/\a.length<bn/\∃c,c<m/\W (i+1) c (a++[y]) (upd n l (.lst (a++[y]))) else ∃c,c<m/\W (i+1) c a o)
def IK:V->Hp->St->Prop:=λv _ a=>a=[aa v]
abbrev Cz(b:TI)(c:TT)(d:TE)(a:List Nat):TE:=CB b IK 0 c d a
section
variable{X:Cx}{m:List (af×Obj)}{w:St}{H:Hp}{s:ao}{g:eB}{x:Str}{j:List Str}{l:List Nat}
theorem Inv.unblock{r:List af}{p:Hp}{y:St}{s':ao}{h:az}(I:Inv X m w H s)(D:∀b∈r,lz X m H b)(a:Inv (cL X g j s.heap.objs.size s H r m) [] y p s') (sb:kb s.heap.objs.size s'.heap h):Inv X m w p {s' with heap:=h}:=by
 have k:∀b o,b≠s.heap.objs.size->s'.heap.get? b=aa o->h.get? b=aa o:=λb o f e=>(sb.2 b f).trans e;have A:∀b o,s.heap.get? b=aa o->b≠s.heap.objs.size:=λb o e=>cR (bz e);have un:Un (fo X.stack) r H p s.heap h:=by
  refine⟨λb o e n f d=>k b o (A b o e) (a.base.keep b o e n f d),λb o e n f d=>?_,λb o e n d=>a.base.free b o e n d,λb o e d=>?_,a.base.tups,a.base.frzs,a.base.tbls⟩
  .obtain⟨E,q⟩:=a.base.slot b o e n f d;exact⟨E,k b _ (A b o e) q⟩
  .obtain⟨C,q⟩:=a.base.there b o e d;exact⟨C,k b C (A b o e) q⟩
 have B:cX X.prog X.w p h:=λb u e=>by
  have i:p s.heap.objs.size=ae:=a.free;refine(a.hok b u e).stay (λc v F q=>k c v ?_ q) (λ_ q=>q) λ_ _ q=>q;rintro rfl;rcases F with z|z
  .rw[<-z,i]at e;cases e
  .rw[i]at z;cases z
 refine I.call' (s':={s' with heap:=h}) (ch:=r) a.os un B a.bare λb f=>?_;obtain⟨K,J,f2,f3,f4,G⟩:=D b f;exact⟨f3,J,f4,G⟩
theorem HF{elt G tg:aD}{pos pos':Pos}{ifs:List aD}{wi:TI}{tgf:V->Hp->St->Prop}{k:Nat}{ts:TT}{te:TE}{use:Option (ai->Sem Unit)}{Q:ai->ao->Prop}{Qp:VK}(B:jY X g x j l)(hk:k<=l.length)(hc:X.calm=ag)(hi:PI X tg G wi)(dW:∀C F K ex pn,PG (cL X g j C F K ex pn) tg λv O H Q=>∃Y,Y.length=k+1/\O.length=j.length/\tgf v H Y/\Q (Y++O.drop (k+1)) H)(ht:∀C F K ex pn,sO (cL X g j C F K ex pn) ifs ts) (he:∀C F K ex pn,PE (cL X g j C F K ex pn) elt te) (hs:∀x,o8 G X.env x=pure x) (I:Inv X m w H s) (h:CB wi tgf k ts te l w H Qp)(fin:∀{A s6:ao}{P H5:Hp}{L σ5 a f},Inv X m w P A->(∀b∈L,lz X m P b)->Inv (cL X g j A.heap.objs.size A P L m) [] σ5 H5 s6->Qp (.ref a) H5->compPost (aw X.prog X.w) X.A X.xe use Q (.ref a) A.heap.objs.size (.ok f) s6):ar (aw X.prog X.w) X.A (comprehension (.ListComp elt [⟨tg,G,ifs,0⟩] g pos) g X.env pos' (newList []) am (aX G X.env) use) Q X.xe s:=by
 refine wpAny_comprehension_free (use:=use) rfl hs (Sj (I.freeHas B)) B.kind B.names (a6 (hi m s w H _ I h) λv s1 h1=>a6 h1 λitv E h2=>?_);obtain⟨it,L,tn,J,H2,e,I2,T,ba,f2,h2⟩:=h2;subst e;refine kL ?_;have I3:Inv X m w (upd H2 E.heap.objs.size (.lst [])) {E with heap:=E.heap.push {cls:=.type "list",data:=.seq ([]:List ai).toArray},toks:=E.toks}:=I2.lnew (its:=[]) (t':=E.toks) .nil (kg _);obtain⟨W,⟨m0,w0⟩,turn⟩:=h2 E.heap.objs.size I2.fresh;generalize pF:({E with heap:=E.heap.push {cls:=.type "list",data:=.seq ([]:List ai).toArray},toks:=E.toks}:ao)=A at I3;have hs3':({E with heap:=E.heap.push {cls:=.type "list",data:=.seq ([]:List ai).toArray}}:ao)=A:=pF;generalize hH3:upd H2 E.heap.objs.size (.lst [])=P at I3 w0;have nl:∀b∈L,b≠E.heap.objs.size:=λb D e=>by obtain⟨o,ho,_⟩:=T.obj _ _ ba b D;exact absurd (bz ho) (by rw[e];exact eV _)
 have k3:∀b o,E.heap.get? b=aa o->A.heap.get? b=aa o:=λb o e=>by rw[<-pF];exact bD _ e
 have f3:∀b∈L,lz X m P b:=λb D=>⟨by rw[<-hH3,bO (nl b D)];exact(f2 b D).1,(f2 b D).2⟩
 have bI:tn 0 A.heap:=T.keep _ _ _ ba λb _ o e=>k3 b o e;have fo3:∀b∈L,∃o,A.heap.get? b=aa o:=λb D=>(T.obj _ _ bI b D).imp λo q=>q.1;refine OU ?_;generalize hh:pushCells (A.heap.push {cls:=.type "dict",data:=.dict #[]}) g.names=h₁;have old:∀b o,A.heap.get? b=aa o->h₁.get? b=aa o:=λb o e=>hh ▸ pushCells_keeps _ _ b o (bD _ e);have ui:h₁.Ns A.heap.objs.size (λ_=>ae):=hh ▸ (Heap.Ns.new A.heap (.type "dict")).keeps (pushCells_keeps _ _);have I4:=Inv.block (t':=A.toks) hh.symm I3 B f3 fo3 ui old;have bS:tn 0 h₁:=T.keep _ _ _ bI λb _ o e=>old b o e;have M:∀{H':Hp},(∀b∈L,H' b=ae)->∀b∈L,lz (cL X g j A.heap.objs.size A P L m) [] H' b:=λhn b D=>by
  obtain⟨f0,f1,f2',f3',f4,f5⟩:=f3 b D;refine⟨hn b D,λe=>?_,λhf=>?_,.inl D,λy c h=>?_,λp hp=>f5 p (by simpa[cL]using hp)⟩
  .obtain⟨o,ho⟩:=fo3 b D;exact absurd (bz ho) (by rw[show b=A.heap.objs.size from e];exact eV _)
  .rcases bo.mp (I3.stkSub b hf)with z|z
   .exact f1 z
   .exact f2' z
  .rcases I3.cbIn B h with⟨a1,a2⟩|⟨a1,a2⟩
   .rintro rfl;obtain⟨o,ho⟩:=fo3 _ D;exact za (FA a1).2.1 (bz ho)
   .exact f4 y c a2
 have Z:mC (aw X.prog X.w) X.A (.compLoop (.ListComp elt [⟨tg,G,ifs,0⟩] g pos) 0 (.ref it) (.ref E.heap.objs.size) (compEnvC g (ma X g A.heap.objs.size) A.heap.objs.size X.env))
   (compPost (aw X.prog X.w) X.A X.xe use Q (.ref E.heap.objs.size) A.heap.objs.size) {A with heap:=h₁,toks:=A.toks}:=by
  refine Nc (λn s'=>∃i S O H',(∃pre:St,pre.length=k+1/\O=pre++(iE w l).drop k)/\Inv (cL X g j A.heap.objs.size A P L m) [] O H' s'/\tn i s'.heap/\(∀b∈L,H' b=ae)/\W i n S H') ?_ m0
   ⟨0,[],_,P,⟨(ae::iE w l).take (k+1),by simp[iE];lia,by rw[<-List.drop_succ_cons (a:=ae)];exact(nP _ _).symm⟩,I4,bS,λb D=>(f3 b D).1,w0⟩
  rintro n s5 ⟨i,S,σ5,H5,⟨pre,wF,rfl⟩,I5,cr,fr5,w5⟩;rcases turn i n S H5 w5 with⟨stop,q⟩|⟨go,step⟩
  .refine eW (T.done (cL X g j A.heap.objs.size A P L m) rfl rfl rfl hc i [] s5 _ H5 (λ_ _=>False) I5 (M fr5) cr stop) (λr s6 ⟨hr,I6⟩=>?_) (λ_ _ f=>f.elim);subst hr;exact fin I3 f3 I6 q
  .refine eW (T.item (cL X g j A.heap.objs.size A P L m) rfl rfl rfl hc i [] s5 _ H5 (λ_ _=>False) I5 (M fr5) cr go) (λr s6 ⟨u,hr,h6⟩=>?_) (λ_ _ f=>f.elim);subst hr;refine eW h6 (λ_ s7 ⟨v,H7,I7,r7,y7,st7,fr7⟩=>?_) (λ_ _ f=>f.elim);have I7':=I7.pinned (M fr7) (T.obj _ _ st7);have back:∀{N:St}{H8:Hp}{s8:ao},Inv (cL X g j A.heap.objs.size A P L m) ([]++vB L s7.heap) N H8 s8->tn (i+1) s8.heap/\(∀b∈L,H8 b=ae):=λ{N H8 s8} I8=>⟨T.keep _ _ _ st7 λb D o e=>(I8.pin (b,o) (lB _ (lB _ (yQ D e)))).1,λb D=>by obtain⟨o,e,d⟩:=T.obj _ _ st7 b D;exact(I8.pin (b,o) (lB _ (lB _ (yQ D e)))).2.1⟩
   obtain⟨Y,fE,htg,step⟩:=step v H7 y7;refine a6 (dW _ _ _ _ _ _ s7 _ H7 v u (λN H8=>N=Y++(iE w l).drop k/\H8=H7) I7' r7 ⟨Y,fE,I7'.len,htg,by rw[Jk ∅,List.drop_eq_nil_of_le ∅];rfl,rfl⟩) λ_ s8 ζ=>?_;obtain⟨N,H8,I8,e8,e8'⟩:=ζ;subst e8 e8';refine a6 (ht _ _ _ _ _ _ s8 _ _ _ I8 step) λb s9 ζ=>?_;obtain⟨H9,I9,q9⟩:=ζ;cases b with
   |false=>
    obtain⟨m',hm,w9⟩:=(show ∃m',m'<n/\W (i+1) m' S H9 from q9)
    exact⟨m',hm,i+1,S,_,H9,⟨Y,fE,rfl⟩,I9.unpinned,(back I9).1,(back I9).2,w9⟩
   |true=>refine a6 (he _ _ _ _ _ _ s9 _ H9 _ I9 q9) λu10 s10 ζ=>?_;obtain⟨y,H10,I10,r10,hl10,hz10,m',hm,w10⟩:=ζ;refine a6 (GQ _ s10 _ H10 (.ref E.heap.objs.size) [y] _ [u10] (λz H11=>H11=upd H10 E.heap.objs.size (.lst (S++[y]))) I10 rfl (.cons r10 .nil) ⟨_,S,y,rfl,rfl,hl10,hz10,rfl⟩) λ_ s11 ζ=>?_;obtain⟨_,H11,I11,_,e11⟩:=ζ;subst e11;exact⟨m',hm,i+1,S++[y],_,_,⟨Y,fE,rfl⟩,I11.unpinned,(back I11).1,(back I11).2,w10⟩
 exact codeAny_compStart_list Z (T.self _ 0 _ _ _ bS Z)
theorem EH{y:Pos}(B:jY X g x j l):∀C b c i f,PG (cL X g j C b c i f) (.Name x y) λv d H Q=>∃n,n.length=0+1/\d.length=j.length/\IK v H n/\Q (n++d.drop (0+1)) H:=by
 intro C b c i f m s d H v u Q I r h;obtain⟨n,_,A,z,q⟩:=h;cases (show n=[aa v] from z);have D:Loc (cL X g j C b c i f).env.scope x:=B.loc.elim (λh=>.inl (lookup_relabel_local h)) (λh=>.inr (Bg h));have o:(cL X g j C b c i f).fn x=ag\/(cL X g j C b c i f).env.scope.names.lookup x=aa .local:=B.loc.elim (λh=>.inr (lookup_relabel_local h)) (λh=>.inl (by show(g.names.lookup x == aa .cell)=ag;rw[h];rfl));have p:(cL X g j C b c i f).N[0]?=aa x:=by show j[0]?=aa x;rw[<-List.head?_eq_getElem?];exact B.hd
 refine tD B.nd p D o m s d H v u Q I r ?_;show Q (d.set 0 (aa v)) H;cases d with
 |nil=>rw[mJ,B.len]at A;lia
 |cons a r=>exact q
theorem OA{f b:aD}{p pos:Pos}{d:List aD}{wi:TI}{ts:TT}{te:TE}(B:jY X g x j l)(D:X.calm=ag)(z:PI X (.Name x p) b wi)(v:∀C a c o i,sO (cL X g j C a c o i) d ts) (A:∀C a c o i,PE (cL X g j C a c o i) f te) (y:∀x,o8 b X.env x=pure x:=by intro _;rfl):PE X (.ListComp f [⟨.Name x p,b,d,0⟩] g pos) (Cz wi ts te l):=by intro m s w H Q I h;rw[eval_ListComp];exact HF (use:=ae) B (kg _) D z (EH B) v A y I h λE f3 r q=>by obtain⟨u,n,_⟩:=r.loc;exact⟨u,n,λF sb=>⟨.ref _,_,E.unblock f3 r sb,rfl,q⟩⟩
end
def Walk(J:It)(xs:List V)(R:Hp->Prop):Prop :=
 ∀H,R H->∀i,(∀x,xs[i]?=aa x->J.go i H/\∀y a,J.yld i H y a->a=H/\y=x)/\(i=xs.length->J.stop i H)
theorem Pl{K:ay}{a:af}{xs:List V}:Walk (AD K a) xs (λH=>cf K H a xs):=λH h i=>⟨λx b=>⟨⟨xs,x,h,b⟩,λy d z=>⟨z.1,by have:=z.2 xs h;rw[b]at this;exact(c8 this).symm⟩⟩,λc=>⟨xs,h,nO c.symm⟩⟩
theorem K7{K:ay}{a:af}{xs:List V}:Walk (BL K a) xs (λH=>cH K H a xs):=λH h i=>⟨λx b=>⟨⟨xs,x,h,b⟩,λy d z=>⟨z.1,by have:=z.2 xs h;rw[b]at this;exact(c8 this).symm⟩⟩,λc=>⟨xs,h,nO c.symm⟩⟩
def si(a:Int)(n:Nat):List V:=(cq n).map λi=>V.int (a+(i:Nat))
theorem AT(a:Int)(n:Nat):(si a n).length=n:=by simp[si]
theorem NW{b:Int}{n:Nat}:Walk (yz b n) (si b n) (λ_=>True):=λH _ i=>by
 refine⟨λx a=>?_,λc=>by rw[AT]at c;exact nO c.symm⟩;have d:i<n:=by have:=(c9.mp a).1;rw[AT]at this;exact this
 refine⟨d,λy g z=>⟨z.1,?_⟩⟩;unfold si at a;rw[g_,zA d]at a;have f:V.int (b+(i:Nat))=x:=c8 a;rw[z.2,<-f]
def sg(c:Nat):V:=.str ⟨#[c]⟩
def vL(z:Str):It:=⟨λi _=>i<z.cps.size,λi H x a=>a=H/\∃c,z.cps[i]?=aa c/\x=sg c,λi _=>i=z.cps.size⟩
theorem Qo{z:Str}:Walk (vL z) (z.cps.toList.map sg) (λ_=>True):=λH _ i=>by
 refine⟨λx a=>?_,λd=>by show i=z.cps.size;simpa using d⟩;rw[g_]at a;cases e:z.cps.toList[i]? with
 |none=>rw[e]at a;cases a
 |some c=>
  rw[e]at a;have f:i<z.cps.size:=by have:=(c9.mp e).1;simpa using this
  refine⟨f,λy h w=>⟨w.1,?_⟩⟩;obtain⟨g,b,rfl⟩:=w.2;have:z.cps[i]?=aa c:=by simpa using e
  rw[this]at b;cases b;exact(c8 a)
section
variable{X:Cx}{a:aD}
theorem Re{P:aO}{w:aG}{K:ay}{z:Str}{d:af}{f:Nat->az->Prop} (S:∀i h,f i h->∃o n r,h.get? d=aa o/\o.cls=.type n/\o.data=.fields r /\ ["enumerate","zip","dict_itemiterator","dict_reverseitemiterator","odict_iterator","itertools.zip_longest","itertools.pairwise"].contains n=am)(TU:∀(A:aR) (i:Nat) (s:ao) (Q:ai->ao->Prop) (E:ai->ao->Prop),f i s.heap->Q (.ref d) s->ar (aw P w) A (nI (.ref d)) Q E s)(C:∀A:aR,A.handled=ae->Walks P w A d [d] [d] z.cps.size (SignAt z) f):uY P w K a (vL z) [d] d f where
 mem:=by simp
 obj:=λi h g b j=>by
  have e:b=d:=by simpa using j
  subst e;obtain⟨o,n,r,J,_,G,_⟩:=S i h g;exact⟨o,J,λv q=>by rw[G]at q;cases q⟩
 keep:=λi h m g k=>by exact(C ({}:aR) rfl).frame i h m g k
 item:=by intro X D x F B i T s O H E I p g y;subst D x F;obtain⟨N,M,f2,f3,f4,L⟩:=p d (by simp);refine(C X.A (I.ok.hd B)).item i s _ _ y g λv m l Z W k=>?_;have I1:Inv X T O H {s with heap:=m,toks:=l}:=I.turned (t':=l) (λb o j e=>k b o (by simpa using j) e) N M f3 f4 L;obtain⟨o,n,r,J,h2,G,h4⟩:=S _ _ W;obtain⟨c,u,e1,rfl⟩:=Z;exact⟨_,rfl,xJ (s:={s with heap:=m,toks:=l}) J h2 G h4 ⟨sg c,H,I1,⟨u,rfl⟩,⟨rfl,c,e1,rfl⟩,W,λb j=>(p b j).1⟩⟩
 done:=by intro X D x F B i T s O H E I p g y;subst D x F;obtain⟨N,M,f2,f3,f4,L⟩:=p d (by simp);have Y:i=z.cps.size:=y;subst Y;exact(C X.A (I.ok.hd B)).done s _ _ g λm l k=>⟨rfl,I.turned (t':=l) (λb o j e=>k b o (by simpa using j) e) N M f3 f4 L⟩
 self:=TU
theorem Ho{J:It}{xs:List V}{R:Hp->Prop}{g:TG}{l:TS}{D:kE}{b:St}{H:Hp}(B:Walk J xs R)(c:Nat->St->Hp->Prop)(C:c 0 b H)(w:∀i b H,i<=xs.length->c i b H->R H)(v:∀i x b H,xs[i]?=aa x->c i b H->g x b H λf j=>l {D with nx:=c (i+1),ct:=c (i+1),bk:=D.nx} f j) (A:∀b H,c xs.length b H->D.nx b H):∃W:Nat->Nat->St->Hp->Prop,(∃m,W 0 m b H)/\∀i m b H,W i m b H -> (J.stop i H/\D.nx b H)\/(J.go i H/\∃N:St->Hp->Prop,(∀h d,N h d->∃n,n<m/\W (i+1) n h d)/\∀x d,J.yld i H x d->g x b d λf j=>l {D with nx:=N,ct:=N,bk:=D.nx} f j):=by
 refine⟨λi m b H=>m=xs.length-i/\i<=xs.length/\c i b H,⟨xs.length,by simp,kg _,C⟩,?_⟩;rintro i m b H ⟨rfl,z,p⟩;have q:=B H (w i b H z p) i;by_cases r:i<xs.length
 .have o:xs[i]?=aa xs[i]:=by simp[r]
  obtain⟨E,s⟩:=q.1 xs[i] o;refine .inr ⟨E,c (i+1),λh d u=>⟨xs.length-(i+1),∅,rfl,r,u⟩,λx d y=>?_⟩;obtain⟨rfl,rfl⟩:=s x d y;exact v i _ b _ o p
 .have e:i=xs.length:=∅
  subst e;exact .inl ⟨q.2 rfl,A b H p⟩
theorem Sy{b:Type}(l:List b)(f:b->Bool)(d:Nat->Bool)(c:∀i x,l[i]?=aa x->d i=f x):(cq l.length).all d=l.all f:=by
 induction l generalizing d with
 |nil=>rfl
 |cons x r g=>rw[cx,CZ,tK,zB,tK,c 0 x rfl];congr 1;exact g _ λi y h=>c (i+1) y (by simpa using h)
theorem S5{bs:List Bool}{b:List ai}(r:bj (bs.map V.bl) b){i:Nat}{v:ai}(h:b.toArray[i]?=aa v):v=.bool (bs.getD i am):=by
 have d:=r.length;rw[bX]at d;have g:i<b.length:=by have:=(mL.mp h).1;simpa using this
 have e:(bs.map V.bl)[i]?=aa (.bl (bs.getD i am)):=by rw[g_,eF ∅];simp[List.getD,eF (show i<bs.length by lia)]
 obtain⟨u,c,f⟩:=r.get e;have:b[i]?=aa v:=by simpa using h
 rw[this]at c;cases c;exact f
theorem uC{A:aR}(h:A.handled=ae):A.in1.handled=ae:=h
theorem Cf(j:X.calm=ag):dE X (.builtin "all") (λxs H Q=>∃(p:af) (bs:List Bool),xs=[.ref p]/\cf X.K H p (bs.map V.bl)/\Q (.bl (bs.all id)) H):=by
 intro M s n H xs O Q I r h;obtain⟨p,bs,rfl,E,q⟩:=h;obtain⟨u,rfl,y⟩:=vals1 r;cases y;obtain⟨d,l,f,S⟩:=I.list E;have m:=l.length;rw[bX]at m;refine call_all_walk (Jl f.isList ?_);have L:p≠s.heap.objs.size:=by obtain⟨o,g,_⟩:=f.isList;exact cR (bz g)
 refine⟨s.heap.objs.size,_,_,_,_,_,λi=>bs.getD i am,rfl,Walks.list (uC (I.ok.hd j)) s.heap.objs.size p L d.toArray,⟨⟨_,cD _ rfl,rfl,rfl⟩,?_⟩,λi v P W Y D K=>?_,λT w k=>?_⟩
 .obtain⟨o,g,j,G⟩:=f.isList;exact⟨o,bD _ g,j,G⟩
 .rw[S5 l D];exact qy K
 .have e:(cq d.toArray.size).all (λi=>bs.getD i am)=bs.all id:=by
   rw[cc,<-m];exact Sy bs id _ λi x C=>by simp[List.getD,C]
  rw[e];have N:Inv X M n H {s with heap:=s.heap.push {cls:=.type "list_iterator",data:=.fields #[.ref p,.int 0 0]},toks:=s.toks}:=I.kept (t':=s.toks) λb o e=>bD _ e;exact⟨.bl _,H,Inv.turned (t':=w) N (it:=s.heap.objs.size) (λb o J e=>k b o (by simpa using J) e) I.fresh (tG I.lt) (.inr I.sz) (λx c e z=>by obtain⟨v,A⟩:=I.cell x c e;exact absurd A.lt (by rw[z];exact eV _)) (λB F z=>absurd (bz (I.pin B F).1) (by rw[z];exact eV _)),rfl,q⟩
end
section
variable{X:Cx}
def mi(z:Str)(a b:Option Int):Str:=⟨((z.cps.toList.drop (HT.sIx z.length 0 a)).take (HT.sIx z.length z.length b-HT.sIx z.length 0 a)).toArray⟩
theorem QJ(a b:Nat):sliceRange (a:Int) (b:Int) 1=(cq (b-a)).map λk=>a+k:=by
 unfold sliceRange;have e:(if(1:Int) > 0 then(if(a:Int)<(b:Int)then((b:Int)-a+1-1) / 1 else 0)else(if(a:Int) > b then((a:Int)-b-1-1) / (-1)else 0)).toNat=b-a:=by
  rw[if_pos (by decide)];split
  .rw[Int.ediv_one];lia
  .have:b-a=0:=∅
   rw[this];rfl
 show(cq (if(1:Int) > 0 then(if(a:Int)<(b:Int)then((b:Int)-a+1-1) / 1 else 0)else(if(a:Int) > b then((a:Int)-b-1-1) / (-1)else 0)).toNat).map _=_;rw[e];refine nQ λk _=>?_;lia
theorem LP(a b:Option Int)(n:Nat):Builtin.Str.strSliceIndices a b 1 n=(cq (HT.sIx n n b-HT.sIx n 0 a)).map λk=>HT.sIx n 0 a+k:=by
 rw[<-QJ];have p:(1:Int) > 0:=by decide
 cases a <;> cases b <;> (unfold Builtin.Str.strSliceIndices HT.sIx;simp only[p,if_true];congr 1 <;> (try split) <;> lia)
theorem Nt{b:Type}(l:List b)(a k:Nat):((cq k).map λj=>a+j).filterMap (λi=>l[i]?)=(l.drop a).take k:=by
 induction k with
 |zero=>simp
 |succ k c=>
  rw[qG,mM,List.filterMap_append,c,List.take_succ];congr 1;simp[mz];cases l[a+k]? <;> rfl
theorem No(z:Str)(t:Tok)(l u:Option (Int×Tok)):∃m,sliceMade z t l u ae=m/\(m=.val (.str z t)/\mi z (l.map (·.1)) (u.map (·.1))=z\/m=.str (mi z (l.map (·.1)) (u.map (·.1)))):=by
 refine⟨_,rfl,?_⟩;unfold sliceMade slicePicked;have e:=LP (l.map (·.1)) (u.map (·.1)) z.length;simp only[Option.map_none,Je];rw[e];have d:=Nt z.cps.toList (HT.sIx z.length 0 (l.map (·.1))) (HT.sIx z.length z.length (u.map (·.1))-HT.sIx z.length 0 (l.map (·.1)));have b:(((cq (HT.sIx z.length z.length (u.map (·.1))-HT.sIx z.length 0 (l.map (·.1)))).map λk=>HT.sIx z.length 0 (l.map (·.1))+k).filterMap (z.cps[·]?)).toArray=(mi z (l.map (·.1)) (u.map (·.1))).cps:=by unfold mi;rw[<-d];simp
 split
 .rename_i h;left;refine⟨rfl,?_⟩;simp only[beq_self_eq_true,Bool.true_and,bX,Jm,beq_iff_eq]at h;have g:HT.sIx z.length z.length (u.map (·.1))<=z.length:=HT.sIx_le _ _ (a8 _) _;have f:z.cps.toList.length=z.length:=by simp[Str.length]
  have a:HT.sIx z.length 0 (l.map (·.1))=0\/z.length=0:=∅
  unfold mi;rw[h];rcases a with a|a
  .rw[a,v7,qH ∅]
  .have:z.cps.toList=[]:=pf ∅;rw[this];cases z;rename_i c;simp at this;subst this;simp
 .right;rw[show(⟨(((cq (HT.sIx z.length z.length (u.map (·.1))-HT.sIx z.length 0 (l.map (·.1)))).map λk=>HT.sIx z.length 0 (l.map (·.1))+k).filterMap (z.cps[·]?)).toArray⟩:Str)=mi z (l.map (·.1)) (u.map (·.1))from by rw[b]]
def Gz:V->Option Int->Option Int->Hp->VK->Prop:=λx a b H Q=>∃z,x=.str z/\z.length<=bn/\Q (.str (mi z a b)) H
theorem R7(z:Str)(a b:Option Int):(mi z a b).length<=z.length:=by unfold mi Str.length;simp;lia
theorem part_of{v:ai}{o:Option Int}(p:lE v o):∃q:Option (Int×Tok),v=partValue q/\q.map (·.1)=o:=by
 cases p with
 |none=>exact⟨ae,rfl,rfl⟩
 |int i t=>exact⟨aa (i,t),rfl,rfl⟩
theorem T7:k9 X Gz:=by
 intro y s n H x v p o r w a Q I b g d c h;obtain⟨z,rfl,f,q⟩:=h;obtain⟨t,rfl⟩:=b;obtain⟨l,rfl,rfl⟩:=part_of d;obtain⟨u,rfl,rfl⟩:=part_of c;refine⟨"str",_,F.slot_str_getitem.lookup,typeIs_str s z t,?_⟩;obtain⟨m,j,i⟩:=No z t l u;refine getItem_meets (typeIs_str s z t) (by decide) F.slot_str_getitem F.entry_str_getitem (F.args_str_getitem_2 _ _) (meets_str_getitem_slice z t a l u ae (by decide)) ⟨g,?_⟩;rw[j];rcases i with⟨rfl,e⟩|rfl
 .exact⟨.str z,H,I,⟨t,rfl⟩,by rw[e]at q;exact q⟩
 .exact⟨cM (R7 z _ _) f,⟨.str _,H,I.tok _,⟨_,rfl⟩,q⟩⟩
def iW(K:ay)(H:Hp)(d:Nat)(x y:V)(k:Bool):Prop :=
 ∀(X:Cx),X.K=K->∀(b:List (af×Obj)) (a:St) (s:ao) (u v:ai) (A:aR),Inv X b a H s->RelV x u->RelV y v->A.units+d<cLine->vY A s u v k
theorem LU{K:ay}{H:Hp}{d:Nat}{x y:V}(f:gc x=ag)(c:gc y=ag):iW K H d x y (eI x y):=λ_ _ _ _ _ _ _ _ _ b a _=>F9 b a f c
def gy(e:Nat->Bool)(n m:Nat):Bool:=(cq (min n m)).all e&&n == m
theorem II{A:aR}:A.in1.units=A.units+1:=rfl
theorem Bk{H:Hp}{d:Nat}{a b:af}{xs c:List V}{e:Nat->Bool}{E:List (af×Obj)}{o:St}{s:ao}{A:aR}(I:Inv X E o H s)(M:cf X.K H a xs)(L:cf X.K H b c)(K:∀(j:Nat) x y,xs[j]?=aa x->c[j]?=aa y->iW X.K H d x y (e j)) (Q:A.units+(d+1)<cLine):SeqAt.RcAt A s (.ref a) (.ref b) (gy e xs.length c.length)/\SeqAt.RcNeAt A s (.ref a) (.ref b) (!gy e xs.length c.length):=by
 obtain⟨g,q,n,_⟩:=I.list M;obtain⟨i,p,f,_⟩:=I.list L;have F:=q.length;have S:=p.length;have z:∀j (C:j<g.toArray.size) (B:j<i.toArray.size),vY A.in1 s g.toArray[j] i.toArray[j] (e j):=λj C B=>by
  have O:j<g.length:=by simpa using C
  have P:j<i.length:=by simpa using B
  have l:xs[j]?=aa xs[j]:=eF ∅;have D:c[j]?=aa c[j]:=eF ∅;obtain⟨u,w,J⟩:=q.get l;obtain⟨v,r,G⟩:=p.get D;have N:g[j]=u:=by rw[eF O]at w;exact c8 w
  have f2:i[j]=v:=by rw[eF P]at r;exact c8 r
  have:=K j xs[j] c[j] l D X rfl E o s u v A.in1 I J G (by rw[II];lia);simpa[N,f2]using this
 by_cases h:xs.length=c.length
 .have m:g.toArray.size=i.toArray.size:=by simp;lia
  have l:gy e xs.length c.length=(cq g.toArray.size).all e:=by unfold gy;rw[h,Nat.min_self,beq_self_eq_true,Bool.and_true,cc,<-F,h]
  rw[l];exact⟨.lists n.isList f.isList m ∅ z,.lists n.isList f.isList m ∅ z⟩
 .have l:gy e xs.length c.length=am:=by
   unfold gy;rw[beq_false_of_ne h,zC]
  have m:(g.toArray.size != i.toArray.size)=ag:=by simp;lia
  rw[l];exact⟨.lists_lengths n.isList f.isList m ∅,.lists_lengths n.isList f.isList m ∅⟩
theorem Cq{H:Hp}{d:Nat}{a b:af}{xs c:List V}{e:Nat->Bool}{C:List (af×Obj)}{l:St}{s:ao}{A:aR}(I:Inv X C l H s)(K:cH X.K H a xs)(J:cH X.K H b c)(G:∀(j:Nat) x y,xs[j]?=aa x->c[j]?=aa y->iW X.K H d x y (e j)) (P:A.units+(d+1)<cLine):SeqAt.RcAt A s (.ref a) (.ref b) (gy e xs.length c.length)/\SeqAt.RcNeAt A s (.ref a) (.ref b) (!gy e xs.length c.length):=by
 obtain⟨g,n,q,_⟩:=I.tuple K;obtain⟨f,m,h,_⟩:=I.tuple J;have D:=n.length;have L:=m.length;have r:∀j (z:j<g.toArray.size) (w:j<f.toArray.size),vY A.in1 s g.toArray[j] f.toArray[j] (e j):=λj z w=>by
  have N:j<g.length:=by simpa using z
  have O:j<f.length:=by simpa using w
  have i:xs[j]?=aa xs[j]:=eF ∅;have B:c[j]?=aa c[j]:=eF ∅;obtain⟨u,p,F⟩:=n.get i;obtain⟨v,o,E⟩:=m.get B;have M:g[j]=u:=by rw[eF N]at p;exact c8 p
  have f2:f[j]=v:=by rw[eF O]at o;exact c8 o
  have:=G j xs[j] c[j] i B X rfl C l s u v A.in1 I F E (by rw[II];lia);simpa[M,f2]using this
 have i:gy e xs.length c.length=((cq (min g.toArray.size f.toArray.size)).all e&&g.toArray.size == f.toArray.size):=by unfold gy;rw[cc,cc,<-D,<-L]
 rw[i];exact⟨.tuples q h ∅ r,.tuples q h ∅ r⟩
theorem Kx{K:ay}{H:Hp}{d:Nat}{a b:af}{xs c:List V}{e:Nat->Bool}(m:cf K H a xs)(l:cf K H b c)(o:a≠b)(i:∀(j:Nat) x y,xs[j]?=aa x->c[j]?=aa y->iW K H d x y (e j)):iW K H (d+1) (.ref a) (.ref b) (gy e xs.length c.length):=λX n q p s u v A I g f h=>by
 subst n;cases g;cases f;exact .of_refs o (Bk I m l i h).1
theorem MR{K:ay}{H:Hp}{d:Nat}{a b:af}{xs c:List V}{e:Nat->Bool}(m:cH K H a xs)(l:cH K H b c)(o:a≠b)(i:∀(j:Nat) x y,xs[j]?=aa x->c[j]?=aa y->iW K H d x y (e j)):iW K H (d+1) (.ref a) (.ref b) (gy e xs.length c.length):=λX n q p s u v A I g f h=>by
 subst n;cases g;cases f;exact .of_refs o (Cq I m l i h).1
theorem EK{K:ay}{H:Hp}{d:Nat}{a:af}:iW K H d (.ref a) (.ref a) ag:=λX h i f s u v A I c b g=>by
 cases c;cases b;exact .same _
def uW(K:ay)(f:Bool):R2:=λx y H Q=>∃a b xs c d e,x=.ref a/\y=.ref b/\((cf K H a xs/\cf K H b c)\/(cH K H a xs/\cH K H b c))/\d<=8 /\
 (∀(j:Nat) x y,xs[j]?=aa x->c[j]?=aa y->iW K H d x y (e j))/\Q (.bl (if f then !gy e xs.length c.length else gy e xs.length c.length)) H
theorem K0(m:X.A.units+64<cLine):bT X (eE .Eq) (uW X.K am):=by
 intro o s j H x y v u Q I g f h;obtain⟨a,b,xs,l,d,e,rfl,rfl,i,n,c,q⟩:=h;cases g;cases f;rcases i with⟨h1,h2⟩|⟨h1,h2⟩
 .exact(Bk I h1 h2 c ∅).1 _ _ _ _ ⟨.bl _,H,I,rfl,q⟩
 .exact(Cq I h1 h2 c ∅).1 _ _ _ _ ⟨.bl _,H,I,rfl,q⟩
theorem QC(m:X.A.units+64<cLine):bT X (eE .NotEq) (uW X.K ag):=by
 intro o s j H x y v u Q I g f h;obtain⟨a,b,xs,l,d,e,rfl,rfl,i,n,c,q⟩:=h;cases g;cases f;rcases i with⟨h1,h2⟩|⟨h1,h2⟩
 .exact(Bk I h1 h2 c ∅).2 _ _ _ _ ⟨.bl _,H,I,rfl,q⟩
 .exact(Cq I h1 h2 c ∅).2 _ _ _ _ ⟨.bl _,H,I,rfl,q⟩
def NG(K:ay):V->List V->Hp->VK->Prop:=λx a H Q=>∃(p:af) (xs:List V) (y:V),x=.ref p/\a=[y]/\H p=aa (.lst xs)/\gc y=ag/\xs.all gc=ag/\Q (.int ((xs.countP λz=>eI z y:Nat):Int)) H
theorem HP{y:V}{xs:List V}{a:List ai}(r:bj xs a)(f:xs.all gc=ag):a.countP (jD y)=xs.countP λz=>eI z y:=by
 unfold bj at r
 induction r with
 |nil=>rfl
 |cons r _ g=>rw[tK,gK]at f;rw[List.countP_cons,List.countP_cons,xZ r f.1,g f.2]
theorem Na:qt X "list.count" (NG X.K):=by
 intro B s l H x m v o Q I c d h;obtain⟨p,xs,y,rfl,rfl,i,j,b,q⟩:=h;cases c;obtain⟨u,rfl,f⟩:=d.one;obtain⟨z,a,n,r,A,e⟩:=I.lstM i;refine pe F.slot_list_count ⟨_,e,rfl⟩ F.entry_list_count (F.args_list_count_2 _ _) (SeqAt.list_countAt p a.toArray n ae #[] u (jD y)) ⟨e,λw g=>uP f j r b w (by simpa using g),?_⟩;exact⟨.int _,H,I.tok _,⟨_,by rw[qI,HP r b]⟩,q⟩
def Nz(K:ay):V->List V->Hp->VK->Prop:=λx a H Q=>∃(p:af) (xs:List V) (y:V),x=.ref p/\a=[y]/\cH K H p xs/\gc y=ag/\xs.all gc=ag/\Q (.int ((xs.countP λz=>eI z y:Nat):Int)) H
theorem Kl:qt X "tuple.count" (Nz X.K):=by
 intro J s C H x D v E Q I i j h;obtain⟨p,xs,y,rfl,rfl,o,z,d,q⟩:=h;cases i;obtain⟨u,rfl,l⟩:=j.one;obtain⟨a,r,⟨⟨B,A,f,g⟩,e,c,n,b⟩,G⟩:=I.tuple o;simp only at c b;subst c b;refine pe F.slot_tuple_count ⟨_,e,rfl⟩ F.entry_tuple_count (F.args_tuple_count_2 _ _) (SeqAt.tuple_countAt p a.toArray n A g u (jD y)) ⟨e,λw m=>uP l z r d w (by simpa using m),?_⟩;exact⟨.int _,H,I.tok _,⟨_,by rw[qI,HP r d]⟩,q⟩
def Pb:V->List V->Hp->VK->Prop:=λx a H Q=>∃(p:af) (xs:List V) (y:V) (j:Nat),x=.ref p/\a=[y]/\H p=aa (.lst xs)/\gc y=ag/\xs.all gc=ag/\j<xs.length /\
 (∀z,xs[j]?=aa z->eI z y=ag)/\(∀(i:Nat) z,i<j->xs[i]?=aa z->eI z y=am)/\Q (.int j) H
theorem Qh:qt X "list.index" Pb:=by
 intro ah s S H x T v W Q I A B h;obtain⟨p,xs,y,j,rfl,rfl,K,N,l,hj,M,L,q⟩:=h;cases A;obtain⟨u,rfl,C⟩:=B.one;obtain⟨z,a,n,r,Z,e⟩:=I.lstM K;have Y:=sh;have c:∀(i:Nat) (g:i<a.toArray.size),∃w,xs[i]?=aa w/\jD y a.toArray[i]=eI w y:=λi g=>by
  have E:i<a.length:=by simpa using g
  have o:xs[i]?=aa xs[i]:=eF ∅;obtain⟨w,b,D⟩:=r.get o;have P:a[i]=w:=by rw[eF E]at b;exact c8 b
  refine⟨_,o,?_⟩;have O:gc xs[i]=ag:=nR.mp l _ (v8 _);rw[<-xZ D O];simp[P]
 refine pe F.slot_list_index ⟨_,e,rfl⟩ F.entry_list_index (F.args_list_index_2 _ _) (SeqAt.list_indexAt p a.toArray n ae #[] u (jD y) j (by simp;lia) ∅ ?_ ?_) ⟨e,λw G=>uP C N r l w (by simpa using G),?_⟩
 .obtain⟨w,b,d⟩:=c j (by simp;lia);rw[d];exact M w b
 .intro m J f;obtain⟨w,b,d⟩:=c m J;rw[d];exact L m w f b
 .exact⟨.int _,H,I.tok _,⟨_,rfl⟩,q⟩
end
abbrev Tx:=List Nat
def tS(l:Tx):Str:=⟨l.toArray⟩
def tV(l:Tx):V:=.str (tS l)
def bB(a:List Tx):List V:=a.map tV
theorem fL(l:Tx):(tS l).cps.toList=l:=by simp[tS]
theorem ml(l:Tx):(tS l).length=l.length:=by simp[tS,Str.length]
theorem sC(z:Str):tS z.cps.toList=z:=by cases z;simp[tS]
theorem yf{a b:Tx}(h:tS a=tS b):a=b:=by rw[<-fL a,h,fL]
theorem yV(a:List Tx):(bB a).length=a.length:=bX _
def cQ(a b:Tx):Bool:=decide (a<=b)
def aK(ls:List Tx):List Tx:=ls.mergeSort cQ
theorem FS(a b c:Tx)(f:cQ a b=ag)(d:cQ b c=ag):cQ a c=ag:=by simp only[cQ,decide_eq_true_eq]at *;exact List.le_trans f d
theorem FC(a b:Tx):(cQ a b||cQ b a)=ag:=by simp only[cQ,C0,decide_eq_true_eq];exact List.le_total a b
theorem BP{a b:Tx}(d:cQ a b=ag)(c:cQ b a=ag):a=b:=by simp only[cQ,decide_eq_true_eq]at *;exact Jn d c
theorem d9(ls:List Tx):(aK ls).Perm ls:=tT _ _
theorem sW(ls:List Tx):(aK ls).Pairwise (λa b=>cQ a b=ag):=C1 FS FC _
theorem BV(ls:List Tx):(aK ls).length=ls.length:=(d9 ls).length_eq
theorem yS{c d:List Tx}(g:d.Perm c)(f:d.Pairwise (λa b=>cQ a b=ag)):d=aK c :=zD (le:=λa b=>cQ a b=ag) (λ_ _ _ _ i h=>BP i h) f (sW c) (g.trans (d9 c).symm)
theorem yU{ls:List Tx}(c:ls.Pairwise (λa b=>cQ a b=ag)):aK ls=ls:=(yS (qJ ls) c).symm
theorem EV{a b:List Tx}(c:a.Perm b):aK a=aK b:=yS ((d9 a).trans c) (sW a)
theorem FP:∀(p:Str) (l:List Str),risingS p l=ag->(p::l).Pairwise (λa b=>cQ a.cps.toList b.cps.toList=ag)
 |p,[],_=>List.pairwise_singleton _ _
 |p,x::r,h=>by
  have d:(!ltCps x.cps.toList p.cps.toList&&risingS x r)=ag:=h;rw[gK,ltCps_eq]at d;have q:=FP x r d.2;have f:cQ p.cps.toList x.cps.toList=ag:=by simp only[cQ,decide_eq_true_eq];intro g;simp[g]at d
  refine lH.mpr ⟨λy c=>?_,q⟩;rcases bo.mp c with rfl|c
  .exact f
  .exact FS _ _ _ f (List.rel_of_pairwise_cons q c)
theorem SD{c:List Str}(h:sortedS c=ag):(c.map λz=>z.cps.toList).Pairwise (λa b=>cQ a b=ag):=by
 rw[kQ];cases c with
 |nil=>exact List.Pairwise.nil
 |cons x r=>exact FP x r h
theorem pO{a:List Tx}{b:List ai}(r:bj (bB a) b):cT b (a.map tS):=by
 induction a generalizing b with
 |nil=>cases r;exact .nil
 |cons l a g=>
  cases r with
  |cons e r=>obtain⟨t,rfl⟩:=e;exact .cons _ t (g r)
theorem PN{b:List Str}{a:List ai}(h:cT a b):bj (bB (b.map λz=>z.cps.toList)) a:=by
 induction h with
 |nil=>exact .nil
 |cons y t _ g=>exact .cons ⟨t,by rw[sC]⟩ g
section
variable{X:Cx}
theorem Oj(z:Tx)(n:Nat):Txt.mul (tS z) (n:Int)=tS (bK n z).flatten:=by
 unfold Txt.mul;cases n with
 |zero=>simp[tS,ke]
 |succ n=>
  rw[if_neg ∅];split
  .rename_i h;simp only[C0,beq_iff_eq]at h;rcases h with h|h
   .have:n=0:=∅
    subst this;simp
   .rw[ml]at h;have:z=[]:=pf h;subst this;simp
  .unfold tS;congr 1;have b:∀(k:Nat) (a:Array Nat),(bK k z.toArray).foldl (·++·) a=a++(bK k z).flatten.toArray:=by
    intro k
    induction k with
    |zero=>intro a;simp
    |succ k c=>intro a;rw[pc,kM,c,pc,tL];simp[Array.append_assoc]
   have e:=b (n+1) #[];simp only[mG];simpa using e
theorem P_:bT X (iN .Mult) (λx y H Q=>∃(z:Tx) (n:Nat),x=tV z/\y=.int n/\n<=100/\z.length<=100/\Q (tV (bK n z).flatten) H):=by
 intro w s j H x y v u Q I c b h;obtain⟨z,n,rfl,rfl,f,d,q⟩:=h;obtain⟨t,rfl⟩:=c;obtain⟨m,rfl⟩:=b;refine SB.mul ?_ λl k=>?_
 .have o:z.length*n<=10000:=cM (zE d f) (by decide);refine⟨by rw[Bool.or_eq_false_iff];constructor <;> (apply decide_eq_false;lia),λi _=>?_,λi _=>?_⟩
  .rw[ml];intro g;have r:(2^63-1:Int) / n ≥ (2^63-1) / 100:=by
    have a:(0:Int)<n:=∅
    apply (Int.le_ediv_iff_mul_le a).mpr;have:((2^63-1:Int) / 100)*n<=((2^63-1) / 100)*100:=Int.mul_le_mul_of_nonneg_left ∅ (by decide);refine Int.le_trans this (by decide)
   have p:((2^63-1:Int) / 100) > 1000:=by decide
   lia
  .rw[ml,mG];unfold Builtin.Str.tooLong;apply decide_eq_false;have:10000<bn:=by rw[qz];decide
   lia
 .rw[Oj];exact⟨tV _,H,I.tok _,⟨_,rfl⟩,q⟩
end
theorem Oq(t:ce)(j:Nat):(t.put j).1.led=t.led/\(t.put j).1.plain=t.plain:=⟨rfl,rfl⟩
theorem KF(t:ce)(n:Nat):(t.orStandIn n).led=t.led/\((t.orStandIn n).plain=t.plain\/(t.orStandIn n).plain=am):=by
 unfold SetTable.orStandIn;split
 .exact⟨rfl,.inl rfl⟩
 .exact⟨rfl,.inr rfl⟩
theorem LM(t:ce)(c:Array (Int×ai))(h:Int)(x:ai):(layNew t c h x).2.1.led=t.led/\((layNew t c h x).2.1.plain=t.plain\/(layNew t c h x).2.1.plain=am):=by
 unfold layNew;split
 .rename_i a b _;have f:=Oq t a;have d:=KF (t.put a).1 (qK c (t.put a).2 (h,x)).size;exact⟨d.1.trans f.1,by rw[<-f.2];exact d.2⟩
 .exact⟨rfl,.inr rfl⟩
theorem Pw(t:ce)(c:Array (Int×ai))(a:Nat)(d:t.plain=am):(tU t c a).2.1.led=t.led/\(tU t c a).2.1.plain=am:=by
 unfold tU;split
 .rename_i t' b e;have q:t'.led=t.led/\t'.plain=t.plain:=by
   unfold SetTable.relaid C3 at e;cases q:C4 (Jo a-1) (c.map (·.1))with
   |none=>rw[q]at e;cases e
   |some f=>rw[q]at e;cases e;exact⟨rfl,rfl⟩
  dsimp only;split
  .exact⟨q.1,q.2.trans d⟩
  .exact⟨rfl,rfl⟩
 .exact⟨rfl,rfl⟩
def d_(w:aG):Bool:=w.params.followText "set-order"
structure j9(P:aO)(w:aG)(h:az)(a:af)(ks:List Str):Prop where
 ex:∃(es:Array (Int×ai)) (ep:Nat) (t:ce) (ss:List Str),h.get? a=aa {cls:=.type "set",dict:=ae,data:=.set es ep t}/\cT (es.toList.map (·.2)) ss/\ss.Perm ks/\ElemsOf (gM P w) es.toList /\
  es.size<4090/\t.fits es.size=ag/\t.led=(!d_ w)/\(ks≠[]->t.plain=am)
theorem j9.at{P:aO}{w:aG}{h b:az}{a:af}{ks:List Str}(S:j9 P w h a ks)(k:∀o,h.get? a=aa o->b.get? a=aa o):j9 P w b a ks:=by obtain⟨es,ep,t,ss,e,r⟩:=S.ex;exact⟨es,ep,t,ss,k _ e,r⟩
theorem Hh:∀{a:List ai}{b:List Str},cT a b->∀x,x∈b↔∃t,Value.str x t∈a
 |_,_,.nil,x=>by simp
 |_,_,.cons y t h,x=>by
  rw[bo,Hh h x];constructor
  .rintro(rfl|⟨t',q⟩)
   .exact⟨t,eC ..⟩
   .exact⟨t',dy _ q⟩
  .rintro⟨t',q⟩;rcases bo.mp q with q|q
   .cases q;exact .inl rfl
   .exact .inr ⟨t',q⟩
theorem AW:∀{a b:List ai},a.Perm b->∀{c:List Str},cT b c->∃d,cT a d/\d.Perm c:=by intro a b p c h;refine⟨a.map strOf,strsAre_map a λv f=>h.all v (p.mem_iff.mp f),?_⟩;have:=p.map strOf;rwa[h.strs]at this
section
variable{P:aO}{w:aG}{A:aR}{E:ai->ao->Prop}{s:ao}
def j6(ks:List Str)(x:Str):List Str:=if x∈ks then ks else ks++[x]
theorem j9.put{h:az}{a:af}{c es':Array (Int×ai)}{b:Nat}{t t':ce}(e:h.get? a=aa {cls:=.type "set",dict:=ae,data:=.set c b t}):(h.update a (Obj.putSet es' t')).get? a=aa {cls:=.type "set",dict:=ae,data:=.set es' (b+1) t'}:=by have:=nK (Obj.putSet es' t') e (by rw[putSet_of es' t' rfl];rfl);rw[putSet_of es' t' rfl]at this;exact this
theorem LZ{a:af}{ks:List Str}{x:Str}{g:Tok}{Q:Bool->ao->Prop}(S:j9 P w s.heap a ks)(hn:ks.length<4000)(h:∀l b,kb a s.heap l->j9 P w l a (j6 ks x)->Q b {s with heap:=l}):ar (aw P w) A (C5 a (.str x g) ((gM P w).hash x)) Q E s:=by
 obtain⟨m,ep,t,ss,N,O,hp,B,hsz,hf,lO,cV⟩:=S.ex;have v:∀y t',(gM P w).is x (.str y t')=decide (y=x):=λy t'=>by
  show qu x (.str y t')=_;rw[kc];simp[qu]
  try exact eq_comm
 have kT:(gM P w).is x (.str x g)=ag:=by rw[v];simp
 have hb:m.size<scanBound:=tP hsz (by decide);unfold C5 setAddHashedIn;refine iM (aq (lI N rfl hf ?_));dsimp only;rw[byScan_of (knd:=gM P w) (x:=.str x g) rfl hb B];simp only[if_true];unfold setAddByScan;refine aq (aq (mO (aq (wpAny_setScan_of kT N rfl hf B ?_))));have p:x∈ks↔∃e∈m.toList,(gM P w).is x e.2=ag:=by
  rw[<-hp.mem_iff,Hh O x];constructor
  .rintro⟨t',q⟩;obtain⟨e,G,ee⟩:=bH.mp q;exact⟨e,G,by rw[ee,v];simp⟩
  .rintro⟨e,G,q⟩;obtain⟨y,t',ey⟩:=O.all e.2 (bH.mpr ⟨e,G,rfl⟩);rw[ey,v]at q;have:y=x:=of_decide_eq_true q;subst this;exact⟨t',bH.mpr ⟨e,G,ey⟩⟩
 have klen:ks.length=m.size:=by
  have W:=hp.length_eq;have T:ss.length=m.size:=by rw[<-O.strs];simp
  lia
 cases hr:List.findIdx? (λe=>(gM P w).is x e.2) m.toList with
 |some j=>dsimp only;obtain⟨hj,hpj,_⟩:=Tu.mp hr;have M:x∈ks:=p.mpr ⟨_,v8 hj,hpj⟩;refine aC (aC ?_);exact h s.heap _ (Jp a s.heap) (by unfold j6;rw[if_pos M];exact S)
 |none=>
  dsimp only;have M:¬x∈ks:=λhm=>by obtain⟨e,G,q⟩:=p.mp hm;have:=List.findIdx?_eq_none_iff.mp hr e G;rw[q]at this;exact Bool.noConfusion this
  have H:∀(b:Bool) {i:ao}{Q':Unit->ao->Prop},Q' () i->ar (aw P w) A (match b with|ag=>rule "set.scan.the-table-gave-way" |am=>pure ()) Q' E i :=
   λb i Q' hq=>by cases b <;> first|exact aC hq|exact mO hq
  have F:=layNew_perm t m ((gM P w).hash x) (.str x g);have X:=layNew_fits t m ((gM P w).hash x) (.str x g);have re:=LM t m ((gM P w).hash x) (.str x g);generalize hL:layNew t m ((gM P w).hash x) (.str x g)=L at F X re ⊢;obtain⟨c,t1,f,gave⟩:=L;dsimp only at F X re ⊢;rw[tW]at F;have u:ElemsOf (gM P w) c.toList:=(B.push kT rfl).perm F;have Ea:c.size=m.size+1:=by have:=F.length_eq;simpa using this
  have hS1:∃D,cT (c.toList.map (·.2)) D/\D.Perm (j6 ks x):=by
   have p1:=F.map (λe:Int×ai=>e.2);rw[mM]at p1;have q1:cT (m.toList.map (·.2)++[Value.str x g]) (ss++[x]):=by
    have gen:∀{Z:List ai}{Y:List Str},cT Z Y->cT (Z++[Value.str x g]) (Y++[x]):=by
     intro Z Y hh
     induction hh with
     |nil=>exact .cons x g .nil
     |cons y t _ ih=>exact .cons y t ih
    exact gen O
   obtain⟨D,K,J⟩:=AW p1 q1;refine⟨D,K,J.trans ?_⟩;unfold j6;rw[if_neg M];exact hp.append_right _
  obtain⟨D,K,J⟩:=hS1;have bY:j6 ks x≠[]:=by unfold j6;rw[if_neg M];simp
  have o:∀d:ce,d.fits c.size=ag->d.led=(!d_ w)->d.plain=am->ar (aw P w) A (do
    storeSet a c d
    if(!f&&d.tooFull)=ag then do
      (match (tU d c (nU c.size)).2.2 with|ag=>rule "set.scan.the-table-gave-way" |am=>pure ())
      storeSet a (tU d c (nU c.size)).1 (tU d c (nU c.size)).2.1
      pure (aa ag)
     else pure (aa ag)) (λr s'=>∃l,r=aa ag/\s'={s with heap:=l}/\kb a s.heap l/\j9 P w l a (j6 ks x)) E s:=by
   intro d wP fV cW;refine aq (C7 N rfl ?_ (C8 (tP (show c.size<4090 by lia) (by decide))));have o1:=j9.put (es':=c) (t':=d) N;have iS:=ph s.heap a (Obj.putSet c d);split
   .have I:=relayAll_perm d c (nU c.size);have z:=relayAll_fits d c (nU c.size);have n:=Pw d c (nU c.size) cW;generalize hRl:tU d c (nU c.size)=Rl at I z n ⊢;obtain⟨C,t3,gave2⟩:=Rl;dsimp only at I z n ⊢;have hsz2:C.size=c.size:=by have:=I.length_eq;simpa using this
    refine aq (H _ ?_);refine aq (C7 o1 rfl ?_ (C8 (tP (show C.size<4090 by lia) (by decide))));obtain⟨ss2,u1,u2⟩:=AW (I.map (λe:Int×ai=>e.2)) K;refine aC ⟨_,rfl,rfl,iS.trans (ph _ a _),⟨C,_,t3,ss2,j9.put o1,u1,u2.trans J,u.perm I,∅,z,n.1.trans fV,λ_=>n.2⟩⟩
   .exact aC ⟨_,rfl,rfl,iS,⟨c,_,d,D,o1,K,J,u,∅,wP,fV,λ_=>cW⟩⟩
  have J2:t1.led=(!d_ w):=re.1.trans lO;refine aq (H _ ?_);split
  .refine aq ?_;rw[hashByValue_scannable 8 (x:=.str x g) rfl];refine aC ?_;have hk:plainKind (.str x g)=am:=rfl;rw[hk];simp only[eX,if_false];refine a6 (o {t1 with plain:=am} (SetTable.fits_plain_off X) J2 rfl) λr s' ζ=>?_;obtain⟨l,W,T,e3,e4⟩:=ζ;subst W T;exact aC (h l _ e3 e4)
  .rename_i Eb;refine aq (aC ?_);simp only[if_true];refine a6 (o t1 X J2 (by simpa using Eb)) λr s' ζ=>?_;obtain⟨l,W,T,e3,e4⟩:=ζ;subst W T;exact aC (h l _ e3 e4)
end
def met(val:Nat->Str)(i:Nat):List Str:=((cq i).map val).foldl j6 []
theorem Hg(val:Nat->Str)(i:Nat):met val (i+1)=j6 (met val i) (val i):=by unfold met;rw[qG,mM,Jq];rfl
theorem Gc(val:Nat->Str){i:Nat}:∀{j:Nat},i<=j->(met val i).length<=(met val j).length
 |0,h=>by rw[show i=0 by lia];exact a8 _
 |j+1,h=>by
  by_cases e:i=j+1
  .subst e;exact a8 _
  .refine cM (Gc val (j:=j) ∅) ?_;rw[Hg];unfold j6;split
   .exact a8 _
   .simp
section
variable{P:aO}{w:aG}{A:aR}{R:Result->ao->Prop}{I:af}{c a:List af}{G:Array GenState->Array GenState->Prop}{n:Nat}{d:Nat->ai->Prop}{St:Nat->ao->Prop}
theorem FI(W:WalksS P w A.in1 I c a G n d St)(S:af)(C:S∉c){J:Nat->az->Prop}(K:∀i h j,J i h->(∀b o,b∉a->h.get? b=aa o->j.get? b=aa o)->J i j)(M:∀(i:Nat) (v:ai) (s:ao) (E:ai->ao->Prop) (Q:Bool->ao->Prop),i<n->d i v->J i s.heap->(∀j r b,s.toks<=r->kb S s.heap j->J (i+1) j->Q b {s with heap:=j,toks:=r})->ar (aw P w) A.in1 (setAdd S v) Q E s):∀(k i:Nat) (s:ao),n-i=k->i<=n->St i s->J i s.heap -> (∀f,Moved (S::a) G s f->J n f.heap->R (.ok (.ret .none)) f)->mC (aw P w) A (.builtin "set.update.loop" ⟨[.ref S,.ref I],[]⟩) R s:=by
 have X:S∉a:=λh=>C (W.sub _ h);have H:∀b∈a,b∈S::a:=λb g=>dy _ g;intro k
 induction k with
 |zero=>
  intro i s O T z x y;obtain rfl:i=n:=∅
  refine v_ Tw ?_;rw[zF Jr _];show ar _ A.in1 (mB (.ref I) >>= _) _ _ s;refine aq (W.done s _ _ z λf p=>?_);show ar _ A.in1 (ret Value.none) _ _ f;exact aC (y f (p.mono H) (K _ _ _ x λb o g e=>p.heap b o g e))
 |succ k N=>
  intro i s O T z x y;have B:i<n:=∅
  refine v_ Tw ?_;rw[zF Jr _];show ar _ A.in1 (mB (.ref I) >>= _) _ _ s;refine aq (W.item i s _ _ B z λv f Y l p=>?_);show ar _ A.in1 (lA [v] (setAdd S v) >>= _) _ _ f;refine aq (iM (M i v f _ _ B Y (K _ _ _ x λb o g e=>p.heap b o g e) λj r b D F L=>?_));refine aC ⟨C9 Jr _,N (i+1) _ ∅ B (W.frame _ f _ _ l D λb g o e=>?_) L λu m q=>?_⟩
  .rw[F.2 b (λh:b=S=>C (by rw[<-h];exact g))];exact e
  .refine y u (Moved.trans W.gtrans ((p.mono H).then_heap D λb o g e=>?_) m) q;rw[F.2 b (λh:b=S=>g (by rw[h];exact eC))];exact e
end
section
variable{P:aO}{w:aG}{A:aR}{E:ai->ao->Prop}{s:ao}
theorem N5(a:ai){Q:ai->ao->Prop} (h:j9 P w (s.heap.push {cls:=.type "set",dict:=ae,data:=.set #[] 0 (.fresh 0 0 (!d_ w))}) s.heap.objs.size [] -> Q (.ref s.heap.objs.size) {s with heap:=s.heap.push {cls:=.type "set",dict:=ae,data:=.set #[] 0 (.fresh 0 0 (!d_ w))}}):mC (aw P w) A (.call (.builtin "set.__new__") ⟨[.type "set",a],[]⟩) (wants Q E) s:=by
 refine codeAny_of_tree ?_;show ar _ A.in1 (do Js "set.__new__" ⟨[.type "set",a],[]⟩;again (.builtin "set.__new__" ⟨[.type "set",a],[]⟩)) _ _ s;refine aq (qL (PySem.F.newCall_set_1 a) (aC ⟨C9 F.plain_set_new _,v_ F.entry_set_new ?_⟩));rw[zF F.plain_set_new _];unfold Builtin.«set.__new__» Builtin.Frozenset.newClass;have i:=sub_set_self;obtain⟨j,g,d,c,f⟩:=s;dsimp only
 wp_walk
 refine tY (aC ?_);dsimp only;simp only[newObj];refine aq (wpAny_alloc (aC ?_));refine aC (h ⟨#[],0,_,[],cD _ rfl,.nil,qJ _,λe b=>by simp at b,by decide,rfl,rfl,λh=>absurd rfl h⟩)
end
end L2
set_option maxHeartbeats 8000000
namespace L2
theorem KA:entryFor table "set.__iter__"=aa Builtin.«frozenset.__iter__»:=entryFor_alias (id':="frozenset.__iter__") (by kernel_rfl) rfl (by decide +kernel) (by kernel_rfl)
theorem Fv:Slot "set_iterator" "__next__" "set_iterator.__next__" :=
 .of (owner:="set_iterator") (n:="__next__") (by rw[typeLookup_type,builtinLookup_eq_fast];kernel_rfl) (by decide +kernel) (by decide +kernel) (by decide +kernel) (by first|exact .inl (by decide +kernel)|exact .inr (by decide +kernel)) (by rw[isSubtype_type];kernel_rfl)
theorem Of:entryFor table "set_iterator.__next__"=aa Builtin.«set_iterator.__next__»:=entryFor_of_fast (by kernel_rfl)
theorem O7(a:ai):argsOk "set_iterator.__next__" ⟨[a],[]⟩:=by unfold argsOk;kernel_rfl
theorem En:Slot "set_iterator" "__iter__" "set_iterator.__iter__" :=
 .of (owner:="set_iterator") (n:="__iter__") (by rw[typeLookup_type,builtinLookup_eq_fast];kernel_rfl) (by decide +kernel) (by decide +kernel) (by decide +kernel) (by first|exact .inl (by decide +kernel)|exact .inr (by decide +kernel)) (by rw[isSubtype_type];kernel_rfl)
theorem O4:entryFor table "set_iterator.__iter__"=aa Builtin.«dict_keyiterator.__iter__»:=entryFor_alias (id':="dict_keyiterator.__iter__") (by kernel_rfl) rfl (by decide +kernel) (by kernel_rfl)
theorem Kg(a:ai):argsOk "set_iterator.__iter__" ⟨[a],[]⟩:=by unfold argsOk;kernel_rfl
def jf(first:ai)(i:Nat)(a:af)(n b:Nat):Obj:={cls:=.type "set_iterator",data:=.fields #[first,.int i 0,.ref a,.int n 0,.int b 0]}
section
variable{P:aO}{w:aG}{A:aR}{E:ai->ao->Prop}{s:ao}
theorem xC{I a:af}{first:ai}{i n d:Nat}{Q:ai->ao->Prop}(h:s.heap.get? I=aa (jf first i a n d))(c:Q (.ref I) s):ar (aw P w) A (nI (.ref I)) Q E s:=by
 have b:s.TypeIs (.ref I) "set_iterator":=⟨_,h,rfl⟩
 refine Jt b En (mH En b O4 ?_ (Kg _));show ar _ _ (ret (.ref I)) _ _ s;exact aC ⟨_,rfl,"set_iterator",_,b,Fv.lookup,c⟩
theorem p9{I a:af}{first:ai}{i:Nat}{f:Array (Int×ai)}{g:Nat}{t:ce}{Q:Option ai->ao->Prop}(n:s.heap.get? a=aa {cls:=.type "set",dict:=ae,data:=.set f g t})(m:t.fits f.size=ag)(l:s.heap.get? I=aa (jf first i a f.size g))(h:ar (aw P w) A.in1 (if let .int slot _:=first then do
    match <-nV a slot.toNat (i:Int).toNat (g:Int).toNat with
    |some (x,next)=>do
     lJ (.ref I) 0 (dP next)
     lJ (.ref I) 1 (dP ((i:Int)+1))
     ret x
    |none=>do lJ (.ref I) 2 .none;raiseNew (<-newExc (.type "StopIteration") [])
   else do
    let aa places <-seqItems? first|lK "internal:set_iterator"
    match places[(i:Int).toNat]? with
    |some (.int d _)=>do
     let x <-setNextDrawn a d.toNat (g:Int).toNat
     lJ (.ref I) 1 (dP ((i:Int)+1))
     ret x
    |some _=>lK "internal:set_iterator"
    |none=>do lJ (.ref I) 0 (dP 0);lJ (.ref I) 2 .none;raiseNew (<-newExc (.type "StopIteration") []))
   (λc b=>∃r,c=.done (.ret r)/\Q (aa r) b) (λe b=>ar (aw P w) A (do if <-zG e (.type "StopIteration")then pure ae else throw e) Q E b) s) :
  ar (aw P w) A (mB (.ref I)) Q E s:=by
 have j:s.TypeIs (.ref I) "set_iterator":=⟨_,l,rfl⟩
 unfold mB;refine aq (C_ (zy (name:=vX "__next__") j Fv (mH Fv j Of ?_ (O7 _))));unfold Builtin.«set_iterator.__next__» slotArgs;refine aq (aC ?_);refine aq (wpAny_fieldsOf l rfl ?_);show ar _ _ (setEntries a >>= _) _ _ s;refine aq (wpAny_setEntries_of n rfl m ?_);have u:(((f.size:Nat):Int) != ((f.size:Nat):Int))=am:=by simp
 rw[u];simp only[eX,if_false];refine eW ?_ (λc b q=>?_) (λe b q=>q) (Q:=λc b=>∃r,c=.done (.ret r)/\Q (aa r) b) (E:=λe b=>ar (aw P w) A (do if <-zG e (.type "StopIteration")then pure ae else throw e) Q E b)
 .exact h
 .obtain⟨r,p,o⟩:=q;exact⟨r,p,aC o⟩
end
theorem Cj{a:Type}:∀{l:List a}{i:Nat} (h:i<l.length),(l[i]::l.eraseIdx i).Perm l
 |[],i,h=>by simp at h
 |x::r,0,h=>by simp
 |x::r,i+1,h=>by have q:=Cj (l:=r) (i:=i) (by simpa using h);simp only[List.getElem_cons_succ,Da];exact(List.Perm.swap x _ _).trans (List.Perm.cons x q)
theorem FT{f:Type}(next:Nat->Nat):∀(c k:Nat) (a:List f) (b:Array f),c=a.length->(pickOrder.go next c k a b).toList.Perm (b.toList++a)
 |0,k,a,b,h=>by have:a=[]:=pf h.symm;subst this;simp[pickOrder.go]
 |c+1,k,a,b,h=>by
  have d:next k % a.length<a.length:=nW _ ∅
  unfold pickOrder.go;rw[eF d];dsimp only;have g:=FT next c (k+1) (a.eraseIdx (next k % a.length)) (b.push a[next k % a.length]) (by rw[List.length_eraseIdx,if_pos d];lia)
  refine g.trans ?_;rw[tW,lG];exact Ju _ (Cj d)
theorem FH{a:Type}(next:Nat->Nat)(xs:Array a):(wb next xs).toList.Perm xs.toList:=by
 have:=FT next xs.size 0 xs.toList #[] (by simp)
 simpa[wb]using this
section
variable{P:aO}{w:aG}{A:aR}{E:ai->ao->Prop}{s:ao}
theorem Qx{a:Source}{n:Nat}{Q:Nat->ao->Prop}(b:n≠0)(h:∀k d,k<n->Q k {s with drawn:=d}):ar (aw P w) A (choose a n) Q E s:=λc p hΓ=>by unfold choose;rw[Sem.wp_choose];refine⟨b,?_⟩;exact h _ _ (nW _ (Nat.pos_of_ne_zero b))
theorem FL{c:Type}:∀(n:Nat) (xs:List c) (s:ao) (Q:List c->ao->Prop),n=xs.length->(∀a d,a.Perm xs->Q a {s with drawn:=d})->ar (aw P w) A (drawOrder n xs) Q E s
 |0,[],s,Q,_,h=>by unfold drawOrder;exact aC (h [] s.drawn (qJ _))
 |0,x::xs,s,Q,hn,h=>by simp at hn
 |n+1,[],s,Q,hn,h=>by simp at hn
 |n+1,x::xs,s,Q,hn,h=>by unfold drawOrder;refine aq (Qx (by simp) λk d b=>?_);rw[eF b];dsimp only;refine aq (FL n ((x::xs).eraseIdx k) _ _ (by rw[List.length_eraseIdx,if_pos b];lia) λa g f=>?_);refine aC (h _ g ?_);exact(List.Perm.cons _ f).trans (Cj b)
theorem xK{Q:Option ai->ao->Prop}{R:Fin->ao->Prop}(f:A.handled=ae)(g:∀c,(∀b o,s.heap.get? b=aa o->c.get? b=aa o)->Q ae {s with heap:=c}):ar (aw P w) A.in1 (do raiseNew (<-newExc (.type "StopIteration") [])) R (λe d=>ar (aw P w) A (do if <-zG e (.type "StopIteration")then pure ae else throw e) Q E d) s:=by
 refine aq ?_;simp only[newExc,newTuple];refine aq (kL ?_ (by size_fits));refine aq (m:=Db _ _) (qL (a:=Value.none) (by first|rfl | (simp only[Db];rfl)) ?_);refine kL ?_ (by size_fits);simp only[raiseNew];refine aq (wpAny_handled ?_);rw[show A.in1.handled=ae from f];refine aq (aC (wpAny_throw ?_));refine aq (Dc (T:="StopIteration") (b:=ag) ⟨_,cD _ rfl,rfl⟩ isSubtype_stop ?_);exact aC (g _ λb o e=>bD _ (bD _ e))
theorem BN{I a:af}{first d:ai}{i n f:Nat}{Q:Unit->ao->Prop}(c:s.heap.get? I=aa (jf first i a n f))(h:∀b,kb I s.heap b->b.get? I=aa (jf d i a n f)->Q () {s with heap:=b}):ar (aw P w) A (lJ (.ref I) 0 d) Q E s:=by refine pi c rfl (by simp[jf]) (h _ (ph ..) ?_);rw[nK _ c (by rfl)];rfl
theorem AX{I a:af}{first:ai}{i n d:Nat}{Q:Unit->ao->Prop}(c:s.heap.get? I=aa (jf first i a n d))(h:∀b,kb I s.heap b->b.get? I=aa (jf first (i+1) a n d)->Q () {s with heap:=b}):ar (aw P w) A (lJ (.ref I) 1 (dP ((i:Int)+1))) Q E s:=by refine pi c rfl (by simp[jf]) (h _ (ph ..) ?_);rw[nK _ c (by rfl)];rfl
theorem yi{I a:af}{first:ai}{i n d:Nat}{Q:Unit->ao->Prop}(c:s.heap.get? I=aa (jf first i a n d))(h:∀b,kb I s.heap b->(∃o,b.get? I=aa o)->Q () {s with heap:=b}):ar (aw P w) A (lJ (.ref I) 2 .none) Q E s:=by refine pi c rfl (by simp[jf]) (h _ (ph ..) ⟨_,nK _ c (by rfl)⟩)
abbrev qe(a:Array (Int×ai))(b:Nat)(t:ce):Obj:={cls:=.type "set",dict:=ae,data:=.set a b t}
theorem Qd{I a:af}{d:Array (Int×ai)}{g:Nat}{t:ce}(x:a≠I)(n:t.fits d.size=ag)(f:d_ w=ag)(C:A.handled=ae):Walks P w A I [I,a] [I] d.size (λi v=>((wb (w.params.setOrder a g) d).toList.map (·.2))[i]?=aa v) (λi h=>h.get? I=aa (jf (dP 0) i a d.size g)/\h.get? a=aa (qe d g t)):=by
 have hsz:(wb (w.params.setOrder a g) d).size=d.size:=by have:=(FH (w.params.setOrder a g) d).length_eq;simpa using this
 have j:∀(s:ao) (i:Nat) (Q:Option (ai×Nat)->ao->Prop) (E:ai->ao->Prop),s.heap.get? a=aa (qe d g t) ->
   Q (((wb (w.params.setOrder a g) d)[i]?).map λe=>(e.2,0)) s->ar (aw P w) A.in1 (nV a (0:Int).toNat (i:Int).toNat (g:Int).toNat) Q E s:=λs i Q E u B=>by
  unfold nV;refine aq (lI u rfl n ?_);unfold zH;refine aq (aq (tY (aC ?_)));show ar _ _ (if d_ w=ag then _ else _) _ _ s;rw[if_pos f];simp only[mG,bne_self_eq_false,eX,if_false];unfold setWalk;refine aq (aq (lI u rfl n ?_));unfold zH;refine aq (aq (tY (aC ?_)));show ar _ _ (if d_ w=ag then _ else _) _ _ s;rw[if_pos f];refine aq (tY (aC (aC ?_)));exact B
 refine⟨λb f=>by simp at f;simp[f],λi h H c k=>⟨k I (by simp) _ c.1,k a (by simp) _ c.2⟩,λi s Q E G c l=>?_,λs Q E c l=>?_,λi s Q E c l=>xC c.1 l⟩
 .refine p9 c.2 n c.1 ?_;refine aq (j s i _ _ c.2 ?_);have y:i<(wb (w.params.setOrder a g) d).size:=∅
  rw[i9 y];dsimp only[tZ];refine aq (BN c.1 λq m F=>?_);refine aq (AX (s:={s with heap:=q}) F λp r D=>?_);refine aC ⟨_,rfl,l _ p s.toks ?_ ⟨D,?_⟩ λb o f e=>?_⟩
  .rw[g_];simp[i9 y]
  .exact(r.2 a x).trans ((m.2 a x).trans c.2)
  .exact(r.2 b (by simpa using f)).trans ((m.2 b (by simpa using f)).trans e)
 .refine p9 c.2 n c.1 ?_;refine aq (j s d.size _ _ c.2 ?_);rw[Array.getElem?_eq_none ∅];dsimp only[Option.map_none];refine aq (yi c.1 λq m _=>?_);exact xK (s:={s with heap:=q}) C λp z=>l p s.toks λb o f e=>z b o ((m.2 b (by simpa using f)).trans e)
theorem Tg{I a T:af}{f:Array (Int×ai)}{J:Nat}{t:ce}{c:List Nat}(bY:a≠I)(Z:T≠I)(C:t.fits f.size=ag)(G:c.Perm (cq f.size))(Y:A.handled=ae):Walks P w A I [I,a,T] [I] f.size (λi v=>(c.filterMap λj=>(f[j]?).map (·.2))[i]?=aa v) (λi h=>h.get? I=aa (jf (.ref T) i a f.size J)/\h.get? a=aa (qe f J t)/\h.get? T=aa {cls:=.type "tuple",data:=.seq (c.map λ(k:Nat)=>dP k).toArray}):=by
 have z:c.length=f.size:=by simpa using G.length_eq
 have L:∀j∈c,j<f.size:=λj B=>by simpa using G.mem_iff.mp B
 have fm:∀(l:List Nat),(∀j∈l,j<f.size)->∀(i j:Nat),l[i]?=aa j->∃e:Int×ai,f[j]?=aa e/\(l.filterMap λj=>(f[j]?).map (·.2))[i]?=aa e.2:=by
  intro l
  induction l with
  |nil=>intro _ i j h;simp at h
  |cons x r N=>
   intro H i j h;have S:x<f.size:=H x (eC ..);have F:f[x]?=aa f[x]:=i9 S;cases i with
   |zero=>simp at h;subst h;exact⟨_,F,by rw[mz,F];rfl⟩
   |succ i=>obtain⟨e,y,u⟩:=N (λj B=>H j (dy _ B)) i j (by simpa using h);exact⟨e,y,by rw[mz,F];simpa using u⟩
 have g:∀(s:ao) (Q:Option (Array ai)->ao->Prop) (E:ai->ao->Prop),s.heap.get? T=aa {cls:=.type "tuple",data:=.seq (c.map λ(k:Nat)=>dP k).toArray}->Q (aa (c.map λ(k:Nat)=>dP k).toArray) s->ar (aw P w) A.in1 (seqItems? (.ref T)) Q E s:=λs Q E W X=>by exact Dd W rfl X
 refine⟨λb m=>by simp at m;simp[m],λi h h' d k=>⟨k I (by simp) _ d.1,k a (by simp) _ d.2.1,k T (by simp) _ d.2.2⟩,λi s Q E hi d p=>?_,λs Q E d p=>?_,λi s Q E d p=>xC d.1 p⟩
 .refine p9 d.2.1 C d.1 ?_;refine aq (g s _ _ d.2.2 ?_);have K:i<c.length:=∅
  have q:((c.map λ(k:Nat)=>dP k).toArray)[(i:Int).toNat]?=aa (dP (c[i]:Nat)):=by simp[K]
  dsimp only;rw[q];obtain⟨e,y,u⟩:=fm c L i c[i] (eF K);show ar _ _ (setNextDrawn a _ _ >>= _) _ _ s;refine aq ?_;unfold setNextDrawn;refine aq (lI d.2.1 rfl C ?_);simp only[mG,bne_self_eq_false,eX,if_false];rw[y];refine aC ?_;refine aq (AX d.1 λD n e2=>?_);refine aC ⟨_,rfl,p _ D s.toks u ⟨e2,(n.2 a bY).trans d.2.1,(n.2 T Z).trans d.2.2⟩ λb o m e=>(n.2 b (by simpa using m)).trans e⟩
 .refine p9 d.2.1 C d.1 ?_;refine aq (g s _ _ d.2.2 ?_);have q:((c.map λ(k:Nat)=>dP k).toArray)[(f.size:Int).toNat]?=ae:=by simp[z]
  dsimp only;rw[q];refine aq (BN d.1 λh1 O q=>?_);refine aq (yi (s:={s with heap:=h1}) q λD n _=>?_);exact xK (s:={s with heap:=D}) Y λh3 M=>p h3 s.toks λb o m e=>M b o ((n.2 b (by simpa using m)).trans ((O.2 b (by simpa using m)).trans e))
theorem Lu(j k:Nat):iQ #[j] k=if j<k then 1 else 0:=by
 unfold iQ;simp only[cc,cx,mJ];unfold t7;simp;split
 .rename_i h;unfold t7;simp
 .unfold t7;simp
theorem LO{I a:af}{g:Array (Int×ai)}{n:Nat}{t:ce}(K:a≠I)(u:t.fits g.size=ag)(f:d_ w=am)(N:t.led=ag)(m:g.size=1)(S:A.handled=ae):Walks P w A I [I,a] [I] 1 (λi v=>(g.toList.map (·.2))[i]?=aa v) (λi h=>h.get? I=aa (jf (dP (if i=0 then 0 else((t.place.getD 0 0:Nat):Int)+1)) i a g.size n)/\h.get? a=aa (qe g n t)):=by
 have y:t.place.size=1:=by simp only[SetTable.fits,gK,beq_iff_eq]at u;lia
 obtain⟨j,G⟩:=Array.size_eq_one_iff.mp y;have J:((t.place.getD 0 0:Nat):Int)=(j:Int):=by rw[G];rfl
 obtain⟨e,H⟩:=Array.size_eq_one_iff.mp m;have l:∀(s:ao) (d:Nat) (i:Nat) (Q:Option (ai×Nat)->ao->Prop) (E:ai->ao->Prop),s.heap.get? a=aa (qe g n t) ->
   Q (if j<d then ae else aa (e.2,j+1)) s->ar (aw P w) A.in1 (nV a d i n) Q E s:=λs d i Q E T r=>by
  unfold nV;refine aq (lI T rfl u ?_);unfold zH;refine aq (aq (tY (aC ?_)));show ar _ _ (if d_ w=ag then _ else _) _ _ s;rw[if_neg (by rw[f];decide)];refine zI (λz=>absurd (show(!t.plain&&decide (g.size > 1))=ag from z) (by rw[m];simp)) (λ_=>?_);refine aq ?_;refine eW (Q:=λ_ D=>D=s) (E:=E) ?_ (λ_ D M=>?_) (λ_ _ x=>x)
  .refine zI (λz=>absurd (show(!t.led&&!g.isEmpty)=ag from z) (by rw[N];simp)) (λ_=>aC rfl)
  .subst M;rw[G,Lu,H];by_cases L:j<d
   .rw[if_pos L]at r ⊢;exact aC r
   .rw[if_neg L]at r ⊢;exact aC r
 refine⟨λb f=>by simp at f;simp[f],λi h Y c k=>⟨k I (by simp) _ c.1,k a (by simp) _ c.2⟩,λi s Q E X c p=>?_,λs Q E c p=>?_,λi s Q E c p=>xC c.1 p⟩
 .obtain rfl:i=0:=∅
  refine p9 c.2 u c.1 ?_;show ar _ _ (nV a (0:Int).toNat ((0:Nat):Int).toNat (n:Int).toNat >>= _) _ _ s;simp only[mG,Int.toNat_zero];refine aq (l s 0 0 _ _ c.2 ?_);rw[if_neg (nX j)];dsimp only;refine aq (BN c.1 λm q C=>?_);refine aq (AX (s:={s with heap:=m}) C λB F W=>?_);refine aC ⟨_,rfl,p _ B s.toks ?_ ⟨?_,?_⟩ λb o f e=>?_⟩
  .rw[H];rfl
  .rw[W,if_neg (by decide),J];rfl
  .exact(F.2 a K).trans ((q.2 a K).trans c.2)
  .exact(F.2 b (by simpa using f)).trans ((q.2 b (by simpa using f)).trans e)
 .refine p9 c.2 u c.1 ?_;rw[if_neg (by decide),J];show ar _ _ (nV a ((j:Int)+1).toNat ((1:Nat):Int).toNat (n:Int).toNat >>= _) _ _ s;have C:((j:Int)+1).toNat=j+1:=∅
  rw[C,mG,mG];refine aq (l s (j+1) 1 _ _ c.2 ?_);rw[if_pos (ju j)];dsimp only;refine aq (yi c.1 λm q _=>?_);exact xK (s:={s with heap:=m}) S λB O=>p B s.toks λb o f e=>O b o ((q.2 b (by simpa using f)).trans e)
theorem yF:∀{a:List ai}{b:List Str} (i:Nat) (v:ai),cT a b->a[i]?=aa v->∃t,v=.str (b.getD i ke) t
 |_,_,i,v,.nil,h=>by simp at h
 |_,_,0,v,.cons y t _,h=>by simp at h;exact⟨t,by rw[<-h];rfl⟩
 |_,_,i+1,v,.cons y t hr,h=>by simp only[List.getElem?_cons_succ]at h;obtain⟨c,e⟩:=yF i v hr h;exact⟨c,by rw[e];rfl⟩
theorem QK{h:az}{o:Obj}{l:af}{a:Array ai}(x:h.IsTuple l a):(h.push o).IsTuple l a:=let ⟨ob,e,r⟩:=x;⟨ob,bD _ e,r⟩
set_option maxRecDepth 100000 in
theorem IF{l:af}{a:Array ai}{Q:ai->ao->Prop}(hh:A.handled=ae)(z:s.heap.IsList l a\/s.heap.IsTuple l a){J:Nat->az->Prop}(hJ:∀i h d,J i h->(∀b o,b<=s.heap.objs.size->h.get? b=aa o->d.get? b=aa o)->J i d) (W:J 0 (s.heap.push {cls:=.type "set",dict:=ae,data:=.set #[] 0 (.fresh 0 0 (!d_ w))}))(kU:∀(i:Nat) (v:ai) (f:ao) (E:ai->ao->Prop) (Q:Bool->ao->Prop),i<a.size->a[i]?=aa v->J i f.heap->(∀d j b,f.toks<=j->kb s.heap.objs.size f.heap d->J (i+1) d->Q b {f with heap:=d,toks:=j})->ar (aw P w) A.in1.in1.in1 (setAdd s.heap.objs.size v) Q E f)(h:∀(d:az) (j:Nat),J a.size d->(∀b o,b<s.heap.objs.size->s.heap.get? b=aa o->d.get? b=aa o)->Q (.ref s.heap.objs.size) {s with heap:=d,toks:=j}):ar (aw P w) A (call (.type "set") [.ref l]) Q E s:=by
 obtain⟨c,tl,hmro⟩:=F.called_set.mro;have N:=F.called_set.made;have iz:=F.called_set.sub;refine zw (codeAny_of_tree ?_);show ar _ _ (callAny (.type "set") _) _ _ _;refine aC ⟨Code.quiet_builtin _ (by decide +kernel),v_ F.entry_type_call ?_⟩;rw[Around.under_plain (weight_type_call_type "set" [.ref l] []) rfl];have h1:=F.called_set.notType;have h2:=F.called_set.canCreate;have hct:=PySem.F.typeCall_set_1 (.ref l)
 repeat any_goals (first|assumption|wp_step)
 refine qB (N5 (P:=P) (w:=w) (.ref l) (E:=E) (Q:=λm f=>m=.ref s.heap.objs.size/\f={s with heap:=s.heap.push {cls:=.type "set",dict:=ae,data:=.set #[] 0 (.fresh 0 0 (!d_ w))}}/\True) λS0=>⟨rfl,rfl,trivial⟩) λr f M=>?_;cases r with
 |error e=>exact M
 |ok fl=>
  cases fl with
  |ret m=>
   obtain⟨rfl,rfl,S0⟩:=M;have hS:=cD (h:=s.heap) (o:=({cls:=.type "set",dict:=ae,data:=.set #[] 0 (.fresh 0 0 (!d_ w))}:Obj));have S:(s.heap.push {cls:=.type "set",dict:=ae,data:=.set #[] 0 (.fresh 0 0 (!d_ w))}).get? s.heap.objs.size=aa {cls:=.type "set",dict:=ae,data:=.set #[] 0 (.fresh 0 0 (!d_ w))}:=cD _ rfl;have hT:Shared.TypeIs {s with heap:=s.heap.push {cls:=.type "set",dict:=ae,data:=.set #[] 0 (.fresh 0 0 (!d_ w))}} (.ref s.heap.objs.size) "set":=⟨_,S,rfl⟩
   have hli:=F.called_set.init.lookup;have hbi:=F.called_set.init.bind (.ref s.heap.objs.size)
   repeat any_goals (first|assumption|wp_step)
   refine qB (codeAny_call_builtin (R:=wants (λr s2=>r=.none/\∃d j,s2={s with heap:=d,toks:=j}/\J a.size d /\ (∀b o,b<s.heap.objs.size->s.heap.get? b=aa o->d.get? b=aa o)) E) F.called_set.init.plain F.entry_set_init (check_set_init_1 hT ?_)) λr2 s2 D=>?_
   .rcases z with z|z
    all_goals
     obtain⟨⟨ocls,I,K,u⟩,n,Z,x,uk⟩:=z;simp only at Z uk;subst Z;subst uk;have C:=bD ({cls:=.type "set",dict:=ae,data:=.set #[] 0 (.fresh 0 0 (!d_ w))}:Obj) n;have hsls:=PySem.F.sub_list_set;have hslf:=PySem.F.sub_list_frozenset;have bY:(Value.type "list" == Value.type "dict")=am:=by decide
     have hsl2:=PySem.F.sub_tuple_set;have hsl3:=PySem.F.sub_tuple_frozenset;have hn2:(Value.type "tuple" == Value.type "dict")=am:=by decide
     unfold Builtin.«set.__init__» noKeywords Builtin.Frozenset.updateFrom;generalize T:nI=PI
     wp_walk
     subst T
     first|refine Jl ⟨_,C,rfl,x,rfl⟩ (aq (wpAny_runValue ?_))|refine De ⟨_,C,rfl,x,rfl⟩ (aq (wpAny_runValue ?_))
     have p:l<s.heap.objs.size:=bz n;have q:A.in1.in1.in1.handled=ae:=by simp[hh]
     have g:(s.heap.push {cls:=.type "set",dict:=ae,data:=.set #[] 0 (.fresh 0 0 (!d_ w))}).objs.size=s.heap.objs.size+1:=qF ..;have J8:l≠(s.heap.push {cls:=.type "set",dict:=ae,data:=.set #[] 0 (.fresh 0 0 (!d_ w))}).objs.size:=by rw[g];exact cR (kh p)
     have Y:s.heap.objs.size∉[(s.heap.push {cls:=.type "set",dict:=ae,data:=.set #[] 0 (.fresh 0 0 (!d_ w))}).objs.size,l]:=by rw[g];simp only[bo,gP,hG,or_false,not_or];exact⟨cR (ju _),tG p⟩
     first|refine FI (J:=J) (Walks.list q _ l J8 a).toS s.heap.objs.size Y ?_ ?_ (a.size-0) 0 _ ∅ (kg _) ⟨⟨_,cD _ rfl,rfl,rfl⟩,Heap.IsList.push ⟨_,C,rfl,x,rfl⟩ _⟩ ?_ ?_|refine FI (J:=J) (Walks.tuple q _ l J8 a).toS s.heap.objs.size Y ?_ ?_ (a.size-0) 0 _ ∅ (kg _) ⟨⟨_,cD _ rfl,rfl,rfl⟩,QK ⟨_,C,rfl,x,rfl⟩⟩ ?_ ?_
     .exact λi h d O k=>hJ i h d O λb o B e=>k b o (by rw[g];simp only[gP];exact cR (Nat.lt_succ_of_le B)) e
     .exact λi v f E Q hi hv O hq=>kU i v f E Q hi hv O hq
     .exact hJ 0 _ _ W λb o _ e=>bD _ e
     intro s' y L;obtain⟨d,g',d',G,H⟩:=s';obtain rfl:g'=s.gens:=y.gens;obtain rfl:d'=s.drawn:=y.drawn;obtain rfl:H=s.os:=y.os;show ar _ _ _ _ _ _;refine aC ?_;show ar _ _ (ret Value.none) _ _ _;refine aC ⟨rfl,d,G,rfl,L,λb o B e=>y.heap b o ?_ (bD _ (bD _ e))⟩;rw[g];simp only[bo,gP,hG,or_false,not_or];exact⟨cR B,cR (kh B)⟩
   .cases r2 with
    |error e=>exact D
    |ok X=>
     cases X with
     |ret r=>
      obtain⟨rfl,d,j,rfl,L,oj⟩:=D
      repeat any_goals (first|assumption|wp_step)
      exact h _ _ L oj
     |_=>exact D.elim
  |_=>exact M.elim
theorem Gv{l:af}{a:Array ai}{c:List Str}{Q:ai->ao->Prop}(y:A.handled=ae)(u:s.heap.IsList l a\/s.heap.IsTuple l a)(x:cT a.toList c)(B:(met (λi=>c.getD i ke) a.size).length<4000)(h:∀(d:az) (j:Nat),j9 P w d s.heap.objs.size (met (λi=>c.getD i ke) a.size)->(∀b o,b<s.heap.objs.size->s.heap.get? b=aa o->d.get? b=aa o)->Q (.ref s.heap.objs.size) {s with heap:=d,toks:=j}):ar (aw P w) A (call (.type "set") [.ref l]) Q E s:=by
 refine IF y u (J:=λi h=>j9 P w h s.heap.objs.size (met (λi=>c.getD i ke) i)) (λi h d S k=>S.at λo e=>k _ o (a8 _) e)
  ⟨#[],0,_,[],cD _ rfl,.nil,qJ _,λe z=>by simp at z,by decide,rfl,rfl,λh=>absurd rfl h⟩ (λi v f E Q p r S q=>?_) h
 obtain⟨t,rfl⟩:=yF i v x (by rw[nN];exact r);unfold setAdd;refine iM ?_;have m:(gM P w).is (c.getD i ke) (.str (c.getD i ke) t)=ag:=by show qu _ (.str _ t)=ag;simp[qu]
 refine aq ((gM P w).pyHash (k:=c.getD i ke) m ?_);refine LZ (s:={f with toks:=f.toks+1}) S (v6 (Gc _ (i7 p)) B) λd b n g=>?_;rw[<-Hg (λi=>c.getD i ke)]at g;exact q d _ b (vZ _) n g
end
theorem Ib{n:Nat}(h:n<=4096):n<bn:=v6 h (by decide)
theorem QT:typeLookup (.type "set") "__len__"=pure (aa (.builtin "set.__len__")):=F.slot_set_len.lookup
section
variable{P:aO}{w:aG}{A:aR}{E:ai->ao->Prop}{s:ao}
def sd(w:aG)(h:az)(a:af)(b:Array (Int×ai)):Prop:=∃(c:Nat) (t:ce),h.get? a=aa {cls:=.type "set",dict:=ae,data:=.set b c t}/\b.size<4090/\t.fits b.size=ag/\t.led=(!d_ w)/\(b.size≠0->t.plain=am)
theorem sd.at{w:aG}{h b:az}{a:af}{es:Array (Int×ai)}(S:sd w h a es)(k:∀o,h.get? a=aa o->b.get? a=aa o):sd w b a es:=by obtain⟨ep,t,e,r⟩:=S;exact⟨ep,t,k _ e,r⟩
theorem j9.e{h:az}{a:af}{ks:List Str}(S:j9 P w h a ks):∃es ss,sd w h a es/\cT (es.toList.map (·.2)) ss/\ss.Perm ks:=by
 obtain⟨es,ep,t,ss,f,c,b,i,hsz,g,d,m⟩:=S.ex;refine⟨es,ss,⟨ep,t,f,hsz,g,d,λj=>m λz=>j ?_⟩,c,b⟩;have l:=b.length_eq;have n:ss.length=es.size:=by rw[<-c.strs];simp
 rw[z,mJ]at l;lia
structure G0(P:aO)(w:aG)(s s':ao)(a I:af)(es:Array (Int×ai))(fp:List af)(n:Nat)(Pv:Nat->ai->Prop)(St:Nat->az->Prop):Prop where
 wk:∀A:aR,A.handled=ae->Walks P w A I fp [I] n Pv St
 st:St 0 s'.heap
 old:∀b o,s.heap.get? b=aa o->s'.heap.get? b=aa o
 new:s.heap.objs.size<=I
 lt:∀b∈fp,b<s'.heap.objs.size
 rest:s'={s with heap:=s'.heap,drawn:=s'.drawn}
 ord:∀aE:Array ai,ItemsOf Pv aE n->aE.toList.Perm (es.toList.map (·.2))
 len:n<4090
 fps:∀b∈fp,b=a\/s.heap.objs.size<=b
theorem yD{l:List ai}{a:Array ai}{n:Nat}(c:l.length=n)(h:ItemsOf (λi v=>l[i]?=aa v) a n):a.toList=l:=by
 refine t8 λi=>?_;by_cases b:i<n
 .have:i<a.size:=by rw[h.1];exact b
  have q:=h.2 i a[i] (i9 this);rw[q];simp[this]
 .rw[mP (by rw[fP,h.1];lia),mP ∅]
theorem Mm{I a:af}{d:Array (Int×ai)}{j:Nat}{t:ce}(L:a≠I)(r:t.fits d.size=ag)(g:d_ w=am)(n:d.size=0)(F:A.handled=ae):Walks P w A I [I,a] [I] 0 (λi v=>(d.toList.map (·.2))[i]?=aa v) (λi h=>h.get? I=aa (jf (dP 0) 0 a d.size j)/\h.get? a=aa (qe d j t)):=by
 have u:d=#[]:=Array.eq_empty_of_size_eq_zero n;have l:∀(s:ao) (f:Nat) (i:Nat) (Q:Option (ai×Nat)->ao->Prop) (E:ai->ao->Prop),s.heap.get? a=aa (qe d j t) ->
   Q ae s->ar (aw P w) A.in1 (nV a f i j) Q E s:=λs f i Q E G C=>by
  unfold nV;refine aq (lI G rfl r ?_);unfold zH;refine aq (aq (tY (aC ?_)));show ar _ _ (if d_ w=ag then _ else _) _ _ s;rw[if_neg (by rw[g];decide)];refine zI (λp=>absurd (show(!t.plain&&decide (d.size > 1))=ag from p) (by rw[n];simp)) (λ_=>?_);refine aq ?_;refine eW (Q:=λ_ q=>q=s) (E:=E) ?_ (λ_ q y=>?_) (λ_ _ x=>x)
  .refine zI (λp=>absurd (show(!t.led&&!d.isEmpty)=ag from p) (by rw[u];simp)) (λ_=>aC rfl)
  .subst y;rw[u];have J:∀k:Nat,(#[]:Array (Int×ai))[k]?=ae:=λk=>by simp
   dsimp only;rw[J];exact aC C
 refine⟨λb g=>by simp at g;simp[g],λi h K c k=>⟨k I (by simp) _ c.1,k a (by simp) _ c.2⟩,λi s Q E D c m=>absurd D (nX i),λs Q E c m=>?_,λi s Q E c m=>xC c.1 m⟩;refine p9 c.2 r c.1 ?_;show ar _ _ (nV a (0:Int).toNat ((0:Nat):Int).toNat (j:Int).toNat >>= _) _ _ s;simp only[mG,Int.toNat_zero];refine aq (l s 0 0 _ _ c.2 ?_);dsimp only;refine aq (yi c.1 λn B _=>?_);exact xK (s:={s with heap:=n}) F λH z=>m H s.toks λb o g e=>z b o ((B.2 b (by simpa using g)).trans e)
theorem Os{a:af}{g:Array (Int×ai)}{Q:ai->ao->Prop}(S:sd w s.heap a g)(h:∀x I C n D St,G0 P w s x a I g C n D St->Q (.ref I) x):ar (aw P w) A (nI (.ref a)) Q E s:=by
 obtain⟨M,t,l,hsz,p,lO,cV⟩:=S;have Y:s.TypeIs (.ref a) "set":=⟨_,l,rfl⟩
 have kA:=bz l;refine Jt Y F.slot_set_iter (mH F.slot_set_iter Y KA ?_ (F.args_set_iter_1 _));unfold Builtin.«frozenset.__iter__» Builtin.Frozenset.slot0 slotArgs Builtin.Frozenset.addrOf Builtin.Frozenset.sizeOf;refine aq (aC ?_);refine aq (aq (wpAny_setEntries_of l rfl p (aC ?_)));unfold setDrawn;refine aq (aq (lI l rfl p ?_));unfold zH;refine aq (aq (tY (aC ?_)));refine aC ?_;have i:∀(first:ai) (u:ao) (C:List af) (n:Nat) (D:Nat->ai->Prop) (St:Nat->az->Prop),u.heap.get? a=aa {cls:=.type "set",dict:=ae,data:=.set g M t} ->
   G0 P w s {u with heap:=u.heap.push (jf first 0 a g.size M)} a u.heap.objs.size g C n D St ->
   ar (aw P w) A.in1 (do
    let e <-setEpoch a
    let f <-newFields "set_iterator" [first,dP 0,Value.ref a,dP (g.size:Nat),dP (e:Nat)]
    ret f) (λi x=>∃v,i=Fin.done (Flow.ret v)/\∃Z r,x.TypeIs v Z/\typeLookup (Value.type Z) (vX "__next__")=pure (aa r)/\Q v x) E u:=λfirst u C n D St ha W=>by
  refine aq (wpAny_setEpoch_of ha rfl p ?_);refine aq (kL ?_);exact aC ⟨_,rfl,"set_iterator",_,⟨_,cD _ rfl,rfl⟩,Fv.lookup,h _ _ C n D St W⟩
 refine zI (λK=>?_) (λK=>?_)
 .have H:(!d_ w&&(!t.plain&&decide (g.size > 1)))=ag:=K;refine aq (FL g.size (cq g.size) s _ (by simp) λG d J=>?_);refine aq (wpAny_newTuple ?_ (hsz:=by rw[bX,J.length_eq,Jm];exact i7 (Ib ∅)));refine i _ _ _ _ _ _ (bD _ l) ⟨λO q=>Tg (T:=s.heap.objs.size) (cR (by rw[jI];exact kh kA)) (cR (by rw[jI];exact ju _)) p J q,⟨cD _ rfl,?_,?_⟩,?_,?_,?_,rfl,?_,hsz,?_⟩
  .exact bD _ (bD _ l)
  .exact bD _ (cD _ rfl)
  .exact λb o e=>bD _ (bD _ e)
  .rw[jI];exact vZ _
  .intro b c;simp only[bo,hG,or_false]at c;rw[jI,jI];rcases c with rfl|rfl|rfl
   .rw[jI];exact ju _
   .exact kh (kh kA)
   .exact kh (ju _)
  .intro N m;have e0:(G.filterMap λj=>(g[j]?).map (·.2))=(G.filterMap λj=>g[j]?).map (·.2):=by rw[Jv]
   have y:(G.filterMap λj=>g[j]?).Perm g.toList:=by have:=J.filterMap λj=>g[j]?;rwa[filterMap_getElem?_range]at this
   rw[e0]at m;rw[yD (by rw[bX,y.length_eq];simp) m];exact y.map _
  .intro b c;simp only[bo,hG,or_false]at c;rcases c with rfl|rfl|rfl
   .rw[jI];exact .inr (vZ _)
   .exact .inl rfl
   .exact .inr (a8 _)
 .have H:¬(!d_ w&&(!t.plain&&decide (g.size > 1)))=ag:=K;refine aq (aC ?_);cases c:d_ w with
  |true=>
   refine i _ _ _ _ _ _ l ⟨λO q=>Qd (cR kA) p c q,⟨cD _ rfl,bD _ l⟩,λb o e=>bD _ e,a8 _,?_,rfl,?_,hsz,λb c=>?_⟩
   .intro b c;simp only[bo,hG,or_false]at c;rw[jI];rcases c with rfl|rfl
    .exact ju _
    .exact kh kA
   .intro N m;have y:=FH (w.params.setOrder a M) g;rw[yD (by rw[bX,y.length_eq];simp) m];exact y.map _
   .simp only[bo,hG,or_false]at c;exact c.elim (λz=>.inr (nO z.symm)) .inl
  |false=>
   have L:g.size=1\/g.size=0:=by
    by_cases X:g.size=0
    .exact .inr X
    .rw[c,cV X]at H;simp at H;lia
   rcases L with B|B
   .refine i _ _ _ _ _ _ l ⟨λO q=>LO (cR kA) p c (by rw[lO,c];rfl) B q,⟨cD _ rfl,bD _ l⟩,λb o e=>bD _ e,a8 _,?_,rfl,?_,by decide,λb c=>?_⟩
    .intro b c;simp only[bo,hG,or_false]at c;rw[jI];rcases c with rfl|rfl
     .exact ju _
     .exact kh kA
    .intro N m;rw[yD (by simp[B]) m]
    .simp only[bo,hG,or_false]at c;exact c.elim (λz=>.inr (nO z.symm)) .inl
   .refine i _ _ _ _ _ _ l ⟨λO q=>Mm (cR kA) p c B q,⟨cD _ rfl,bD _ l⟩,λb o e=>bD _ e,a8 _,?_,rfl,?_,by decide,λb c=>?_⟩
    .intro b c;simp only[bo,hG,or_false]at c;rw[jI];rcases c with rfl|rfl
     .exact ju _
     .exact kh kA
    .intro N m;rw[yD (by simp[B]) m]
    .simp only[bo,hG,or_false]at c;exact c.elim (λz=>.inr (nO z.symm)) .inl
theorem EB{a:af}{m:Array (Int×ai)}{Q:List ai->ao->Prop}(J:A.handled=ae)(S:sd w s.heap a m)(h:∀(d:ao) (D:List ai),D.Perm (m.toList.map (·.2))->(∀b o,s.heap.get? b=aa o->d.heap.get? b=aa o)->d.gens=s.gens->d.os=s.os->Q D d):ar (aw P w) A (collect (.ref a)) Q E s:=by
 obtain⟨K,t,H,N,_⟩:=id S;have kA:=bz H;unfold collect;refine aq (wpAny_runValue (v_ F.entry_proto_collect ?_));rw[zF F.plain_proto_collect _];show ar _ A.in1 (newList [] >>= λl=>again (.builtin "list.__iadd__" ⟨[l,.ref a],[]⟩)) _ _ s;refine aq (kL ?_);refine aC ⟨C9 F.plain_list_iadd _,v_ F.entry_list_iadd ?_⟩;rw[zF F.plain_list_iadd _];show ar _ A.in1 (Builtin.List.listExtendWith (.ref s.heap.objs.size) (.ref a) (.ref s.heap.objs.size)) _ _ _;unfold Builtin.List.listExtendWith;have j:∀u:ao,u.heap.get? a=aa {cls:=.type "set",dict:=ae,data:=.set m K t}->u.TypeIs (.ref a) "set":=λu e=>⟨_,e,rfl⟩
 have C:(s.heap.push {cls:=.type "list",data:=.seq ([]:List ai).toArray}).get? a=aa {cls:=.type "set",dict:=ae,data:=.set m K t}:=bD _ H;refine aq (tI (j _ C) ?_);have X:Builtin.List.listSameRef (.ref s.heap.objs.size) (.ref a)=am:=by have:¬(s.heap.objs.size=a):=tG kA;simp[Builtin.List.listSameRef,this]
 rw[if_neg (by rw[X];decide)];refine aq (Os (S.at λo e=>bD _ e) λr I Y n Pv St W=>?_);have B:=W.old a _ C;refine aq (iM ?_);unfold Builtin.List.listLengthHint;refine aq (v4 (j _ B) QT ?_)
 wp_delta
 refine aq (Dc (T:="set") (b:=ag) (j _ B) (by rw[isSubtype_type];kernel_rfl) ?_);show ar _ A.in1 (typeOf (Value.ref a) >>= _) _ _ _;refine aq (tI (T:="set") (j _ B) ?_);refine aC ?_;rw[if_pos (by decide)];refine aq (mO ?_);have O:(s.heap.push {cls:=.type "list",data:=.seq ([]:List ai).toArray}).get? s.heap.objs.size=aa {cls:=.type "list",data:=.seq ([]:List ai).toArray}:=cD _ rfl;have i:=W.old _ _ O;unfold Builtin.List.listTouch;refine aq (aq (Df i rfl ?_ (by decide) (by show 1<=bn+1;decide)));have g:=get?_update_seq i (λa:Array ai=>a.push Value.none);refine Df g rfl ?_ (by show 1<=bn;decide) (by show 0<=bn+1;decide);have y:=get?_update_seq g (λa:Array ai=>a.pop);have L:s.heap.objs.size∉Y:=λz=>by
  rcases W.fps _ z with q|q
  .exact absurd kA (by rw[<-q];exact eV _)
  .rw[jI]at q;exact absurd (ju _) (Nat.not_lt.mpr q)
 have G:∀b o,b≠s.heap.objs.size->r.heap.get? b=aa o->(((r.heap.update s.heap.objs.size (jt λa=>a.push Value.none)).update s.heap.objs.size (jt λa=>a.pop))).get? b=aa o:=λb o f e=>by rw[Jw _ _ _ _ f,Jw _ _ _ _ f];exact e
 have Z:St 0 (((r.heap.update s.heap.objs.size (jt λa=>a.push Value.none)).update s.heap.objs.size (jt λa=>a.pop))):=(W.wk A.in1 J).frame 0 _ _ W.st λb f o e=>G b o (λz=>L (z ▸ f)) e;refine aC ⟨C9 F.plain_extend_loop _,codeAny_extend_loopS (W.wk A.in1 J).toS (i7 (Ib (by have:=W.len;lia))) _ L _ n 0 _ _ _ rfl (kg _) Z y (ItemsOf.nil _) λd c c' v x M=>?_⟩;show ar _ A (load s.heap.objs.size >>= _) _ _ d;refine aq (wpAny_load x ?_);refine aC (h d c.toList (W.ord c M) (λb o e=>?_) ?_ ?_)
 .have p:=bz e;refine v.heap b o (λf=>?_) (G b o (cR p) (W.old b o (bD _ e)));rcases bo.mp f with z|z
  .exact absurd p (by rw[z];exact eV _)
  .rw[gP.mp z]at p;have:=W.new;rw[jI]at this;exact absurd p (Nat.not_lt.mpr (Nat.le_of_succ_le this))
 .rw[v.gens,W.rest]
 .rw[v.os,W.rest]
theorem OJ{a:af}{ks:List Str}{Q:List ai->ao->Prop}(p:A.handled=ae)(S:j9 P w s.heap a ks)(h:∀(c:ao) (d:List ai) (ss:List Str),cT d ss->ss.Perm ks->d.length<4090->(∀b o,s.heap.get? b=aa o->c.heap.get? b=aa o)->c.gens=s.gens->c.os=s.os->Q d c):ar (aw P w) A (collect (.ref a)) Q E s:=by
 obtain⟨r,ss,S,q,n⟩:=S.e;have m:r.size<4090:=by obtain⟨_,_,_,z,_⟩:=S;exact z
 refine EB p S λc d pv l j i=>?_;obtain⟨u,g,f⟩:=AW pv q;exact h c d u g (f.trans n) (by have:=pv.length_eq;simp at this;lia) l j i
end
def bR(a:List Tx):List Tx:=a.foldl (λks x=>if x∈ks then ks else ks++[x]) []
theorem xO(b:List Tx):met (λi=>(b.map tS).getD i ke) b.length=(bR b).map tS:=by
 have d:∀(l:List Tx) (a:List Tx),(l.map tS).foldl j6 (a.map tS)=(l.foldl (λks x=>if x∈ks then ks else ks++[x]) a).map tS:=by
  intro l
  induction l with
  |nil=>intro a;rfl
  |cons x r g=>
   intro a;rw[cS,kM,kM];have:j6 (a.map tS) (tS x)=(if x∈a then a else a++[x]).map tS:=by
    unfold j6;have f:tS x∈a.map tS↔x∈a:=by rw[bH];exact⟨λζ=>by obtain⟨y,j,e⟩:=ζ;rw[<-yf e];exact j,λh=>⟨x,h,rfl⟩⟩
    by_cases h:x∈a
    .rw[if_pos h,if_pos (f.mpr h)]
    .rw[if_neg h,if_neg (λz=>h (f.mp z)),mM];rfl
   rw[this,g]
 have e:(cq b.length).map (λi=>(b.map tS).getD i ke)=b.map tS:=by
  refine t8 λi=>?_;rw[g_];by_cases c:i<b.length
  .rw[zA c];simp[c]
  .rw[mP (by simpa using c),mP (by simpa using c)];rfl
 unfold met;rw[e];exact d b []
theorem GO(l c:List Tx):(c.Nodup->(l.foldl (λks x=>if x∈ks then ks else ks++[x]) c).Nodup)/\∀x,x∈l.foldl (λks x=>if x∈ks then ks else ks++[x]) c↔x∈c\/x∈l:=by
 induction l generalizing c with
 |nil=>exact⟨λh=>h,λx=>by simp⟩
 |cons y r g=>
  rw[kM];obtain⟨m,j⟩:=g (if y∈c then c else c++[y]);refine⟨λh=>m ?_,λx=>?_⟩
  .split
   .exact h
   .rename_i d;rw[Dg];exact⟨h,by simp,λa i b f=>by simp at f;subst f;exact λe=>d (e ▸ i)⟩
  .rw[j x,bo];split
   .rename_i d;constructor
    .rintro(h|h)
     .exact .inl h
     .exact .inr (.inr h)
    .rintro(h|rfl|h)
     .exact .inl h
     .exact .inl d
     .exact .inr h
   .rw[fO,gP,or_assoc]
theorem SK(l:List Tx):(bR l).Nodup:=(GO l []).1 List.nodup_nil
theorem k_(l:List Tx)(x:Tx):x∈bR l↔x∈l:=by rw[bR,(GO l []).2 x];simp
theorem Hl(l:List Tx):(bR l).length<=l.length:=by
 have b:∀(l a:List Tx),(l.foldl (λks x=>if x∈ks then ks else ks++[x]) a).length<=a.length+l.length:=by
  intro l
  induction l with
  |nil=>intro a;simp
  |cons x r c=>intro a;rw[kM];refine cM (c _) ?_;split <;> simp <;> lia
 simpa[bR]using b l []
section
variable{X:Cx}
def kY(X:Cx)(a:af)(b:List Tx):HO:=.ext λh=>j9 X.prog X.w h a (b.map tS)
theorem NJ(z:X.calm=ag):dE X (.type "set") (λxs H Q=>∃(p:af) (c:List Tx),xs=[.ref p]/\cf X.K H p (bB c)/\(bR c).length<4000/\∀a,H a=ae->Q (.ref a) (upd H a (kY X a (bR c)))):=by
 intro L s B H xs C Q I r h;obtain⟨p,c,rfl,x,f,q⟩:=h;obtain⟨u,rfl,l⟩:=vals1 r;cases l;obtain⟨d,g,v,E⟩:=I.list x;have y:=g.length;rw[yV]at y;refine Gv (P:=X.prog) (w:=X.w) (I.ok.hd z) (.inl v.isList) (by simpa using pO g) (by rw[cc,show d.length=c.length by lia,xO,bX];exact f) λA j S k=>?_;have i:j9 X.prog X.w A s.heap.objs.size ((bR c).map tS):=by
  have e:d.toArray.size=c.length:=by rw[cc];lia
  rw[e,xO]at S;exact S
 refine⟨.ref s.heap.objs.size,_,I.laid (t':=j) (o:=kY X s.heap.objs.size (bR c)) (λb o e=>k b o (bz e) e) (a8 _) ?_,rfl,q _ I.fresh⟩;obtain⟨J,K,t,D,e,_⟩:=i.ex;exact⟨i,⟨_,e⟩,λG F n m=>n.at m⟩
end
structure dH(K:ay)(mg:Str->Option ai)(x:Str)(st:bg):Prop where
 ex:∃f fd,mg x=aa (.ref f)/\pX K x x st f fd
theorem Ha{H:Hp}{p:af}{o:HO}(h:H p=ae):Same H (upd H p o):=λb u q=>by rw[bO (kt q h)];exact q
theorem Hd{a:Type}{xs:List a}{k:Int}(b:0<=k)(h:k.toNat<xs.length):io xs k=aa xs[k.toNat]:=by
 have e:((k.toNat:Nat):Int)=k:=∅
 have q:=QX (xs:=xs) (j:=k.toNat) (v:=xs[k.toNat]) (by simp[h]);rwa[e]at q
def Fz(N:List Str)(d a:eB)(x:Str)(c:List Str)(b:List Nat):Bool :=
 decide (a.kind=.function)&&a.names.all (λy=>(decide (y.2≠.cell)||decide (a.names.lookup y.1=aa .cell))&&(decide (y.2≠.local)||decide (a.names.lookup y.1=aa .local))&&(decide (y.2≠.free)||decide (d.names.lookup y.1=aa .cell)||decide (d.names.lookup y.1=aa .free)))
 && (decide (a.names.lookup x=aa .local)||decide (a.names.lookup x=aa .cell))&&decide c.Nodup&&decide (c.head?=aa x)&&decide (c.length=b.length+1)&&(b.zip c.tail).all λp=>(decide (N[p.1]?=aa p.2)&&decide (a.names.lookup p.2=aa .free))||(decide (N.length<=p.1)&&decide (a.names.lookup p.2=aa .local))
theorem jY.of{X:Cx}{a:eB}{x:Str}{N':List Str}{cap:List Nat}(N:List Str)(f:eB)(l:X.N=N)(c:X.env.scope=f)(h:Fz N f a x N' cap=ag):jY X a x N' cap:=by
 subst l c;simp only[Fz,gK,decide_eq_true_eq,nR,C0]at h;obtain⟨⟨⟨⟨⟨⟨r,d⟩,q⟩,p⟩,o⟩,n⟩,m⟩:=h;refine⟨r,λy b e=>(d y b).1.1.elim (λz=>absurd e z) λz=>z,λy b e=>?_,q,λy b e=>?_,p,o,n,λi j y u s=>?_⟩
 .rcases(d y b).1.2 with z|z
  .exact absurd e z
  .exact z
 .rcases(d y b).2 with(z|z)|z
  .exact absurd e z
  .exact .inl z
  .exact .inr z
 .have g:(j,y)∈cap.zip N'.tail:=by
   refine List.mem_iff_getElem?.mpr ⟨i,?_⟩;rw[zJ];refine⟨s,?_⟩;rw[<-List.drop_one,Jx,Nat.add_comm];exact u
  exact m _ g
theorem SI(a b:Tx):eI (tV a) (tV b)=decide (a=b):=by show(tS a == tS b)=_;rw[kc];simp only[beq_iff_eq,decide_eq_true_eq];exact⟨yf,λh=>by rw[h]⟩
theorem Mn(a:List Tx)(x:Tx):((bB a).countP λz=>eI z (tV x))=a.count x:=by unfold bB List.count;rw[List.countP_map];refine List.countP_congr λy _=>?_;simp only[Function.comp_apply,SI,decide_eq_true_eq,beq_iff_eq]
end L2
namespace Pu
open L2
abbrev St:=L2.St
inductive PV where
 |non|bl (b:Bool)|int (i:Int)|str (x:Tx)|tup (xs:List PV)|lst (xs:List PV)|raw (v:V)|exc (c:ai)
def nk(a:af)(c:ai):HO:=.ext λh=>∃o b,h.get? a=aa o/\o.cls=c/\o.data=.fields b/\o.dict=ae
def bG:Nat:=1000000
theorem mr:bG<=bn:=by rw[qz];decide
def eJ:HO->Prop
 |.lst _=>True
 |.dK _=>True
 |.dT _=>True
 |.dN _=>True
 |.ins _ _ _=>True
 |.own _=>True
 |_=>False
mutual
def aU(K:ay)(H:Hp)(F:af->Prop):PV->V->Prop
 |.non,v=>v=.non
 |.bl b,v=>v=.bl b
 |.int i,v=>v=.int i
 |.str x,v=>v=tV x/\x.length<=bG
 |.tup xs,v=>∃a d,v=.ref a/\H a=aa (.tup d)/\Reps K H F xs d
 |.lst xs,v=>∃a d,v=.ref a/\Rd H a (.lst d)/\F a/\Reps K H F xs d
 |.raw u,v=>v=u
 |.exc c,v=>∃a,v=.ref a/\H a=aa (nk a c)
def Reps(K:ay)(H:Hp)(F:af->Prop):List PV->List V->Prop
 |[],a=>a=[]
 |x::xs,a=>∃v r,a=v::r/\aU K H F x v/\Reps K H F xs r
end
section
variable{K:ay}{H H':Hp}{F b:af->Prop}
mutual
theorem aU.mono(g:∀a,F a->b a)(f:∀a xs,F a->Rd H a (.lst xs)->Rd H' a (.lst xs))(d:∀a o,H a=aa o->¬eJ o->H' a=aa o):∀(x:PV) (v:V),aU K H F x v->aU K H' b x v
 |.non,_,h=>h
 |.bl _,_,h=>h
 |.int _,_,h=>h
 |.str _,_,h=>h
 |.raw _,_,h=>h
 |.exc _,_,⟨a,e,h⟩=>⟨a,e,d a _ h id⟩
 |.tup xs,_,⟨a,c,e,j,i⟩=>⟨a,c,e,d a _ j id,Reps.mono g f d xs c i⟩
 |.lst xs,_,⟨a,c,e,j,l,i⟩=>⟨a,c,e,f a c l j,g a l,Reps.mono g f d xs c i⟩
theorem Reps.mono(g:∀a,F a->b a)(f:∀a xs,F a->Rd H a (.lst xs)->Rd H' a (.lst xs))(d:∀a o,H a=aa o->¬eJ o->H' a=aa o):∀(xs:List PV) (c:List V),Reps K H F xs c->Reps K H' b xs c
 |[],_,h=>h
 |x::xs,_,⟨v,r,e,j,i⟩=>⟨v,r,e,aU.mono g f d x v j,Reps.mono g f d xs r i⟩
end
theorem Reps.len:∀{xs:List PV}{a:List V},Reps K H F xs a->a.length=xs.length
 |[],_,h=>by rw[show _=[] from h];rfl
 |_::_,_,⟨_,_,e,_,b⟩=>by rw[e,cx,cx,Reps.len b]
theorem Reps.get:∀{xs:List PV}{c:List V}{i:Nat}{x:PV},Reps K H F xs c->xs[i]?=aa x->∃v,c[i]?=aa v/\aU K H F x v
 |[],_,_,_,_,e=>by simp at e
 |x::xs,_,0,y,⟨v,r,e,h1,_⟩,q=>by simp at q;subst q;subst e;exact⟨v,rfl,h1⟩
 |x::xs,_,i+1,y,⟨v,r,e,_,h2⟩,q=>by obtain⟨w,a,b⟩:=Reps.get (i:=i) (x:=y) h2 (by simpa using q);subst e;exact⟨w,by simpa using a,b⟩
theorem Reps.back:∀{xs:List PV}{c:List V}{i:Nat}{v:V},Reps K H F xs c->c[i]?=aa v->∃x,xs[i]?=aa x/\aU K H F x v
 |[],_,_,_,h,e=>by rw[show _=[] from h]at e;simp at e
 |x::xs,_,0,y,⟨v,r,e,h1,_⟩,q=>by subst e;simp at q;subst q;exact⟨x,rfl,h1⟩
 |x::xs,_,i+1,y,⟨v,r,e,_,h2⟩,q=>by subst e;obtain⟨w,a,b⟩:=Reps.back (i:=i) (v:=y) h2 (by simpa using q);exact⟨w,by simpa using a,b⟩
theorem Reps.app:∀{xs a:List PV}{c b:List V},Reps K H F xs c->Reps K H F a b->Reps K H F (xs++a) (c++b)
 |[],_,_,_,h,g=>by rw[show _=[] from h];exact g
 |x::xs,_,_,_,⟨v,r,e,f,d⟩,g=>by subst e;exact⟨v,_,rfl,f,Reps.app d g⟩
theorem Reps.one{x:PV}{v:V}(h:aU K H F x v):Reps K H F [x] [v]:=⟨v,[],rfl,h,rfl⟩
theorem Reps.drop:∀(n:Nat) {xs:List PV}{a:List V},Reps K H F xs a->Reps K H F (xs.drop n) (a.drop n)
 |0,_,_,h=>h
 |_+1,[],_,h=>by rw[show _=[] from h];rfl
 |n+1,_::_,_,⟨_,_,e,_,h2⟩=>by subst e;exact Reps.drop n h2
theorem Reps.take:∀(n:Nat) {xs:List PV}{a:List V},Reps K H F xs a->Reps K H F (xs.take n) (a.take n)
 |0,_,_,_=>by rw[Dh,Dh];rfl
 |_+1,[],_,h=>by rw[show _=[] from h];rfl
 |n+1,_::_,_,⟨v,_,e,h1,h2⟩=>by subst e;exact⟨v,_,rfl,h1,Reps.take n h2⟩
theorem Reps.set{x:PV}{v:V}(b:aU K H F x v):∀(n:Nat) {xs:List PV}{a:List V},Reps K H F xs a->Reps K H F (xs.set n x) (a.set n v)
 |_,[],_,h=>by rw[show _=[] from h];rfl
 |0,_::_,_,⟨_,r,e,_,h2⟩=>by subst e;exact⟨v,r,rfl,b,h2⟩
 |n+1,_::_,_,⟨w,_,e,h1,h2⟩=>by subst e;exact⟨w,_,rfl,h1,Reps.set b n h2⟩
end
structure bA(O O' F F':af->Prop)(H H':Hp):Prop where
 fro:∀a,F a->F' a
 keep:∀b o,H b=aa o->¬O b->H' b=aa o
 there:∀b o,H b=aa o->∃o',H' b=aa o'
 fnew:∀a,F' a->F a\/H a=ae\/O a
 onew:∀a,O' a->O a\/H a=ae
theorem bA.refl(O F:af->Prop)(H:Hp):bA O O F F H H:=⟨λ_ h=>h,λ_ _ h _=>h,λ_ o h=>⟨o,h⟩,λ_ h=>.inl h,λ_ h=>.inl h⟩
theorem bA.trans{O i f F m l:af->Prop}{H d j:Hp}(g:bA O i F m H d)(k:bA i f m l d j):bA O f F l H j where
 fro:=λa h=>k.fro a (g.fro a h)
 keep:=λb o h n=>k.keep b o (g.keep b o h n) λz=>(g.onew b z).elim n λq=>by rw[q]at h;cases h
 there:=λb o h=>let ⟨o',c⟩:=g.there b o h;k.there b o' c
 fnew:=λa h=>by
  have back:d a=ae->H a=ae\/O a:=λz=>by
   cases q:H a with
   |none=>exact .inl rfl
   |some o=>obtain⟨o',c⟩:=g.there a o q;rw[z]at c;cases c
  rcases k.fnew a h with z|z|z
  .exact g.fnew a z
  .exact .inr (back z)
  .exact .inr ((g.onew a z).symm)
 onew:=λa h=>by
  rcases k.onew a h with z|z
  .exact g.onew a z
  .cases q:H a with
   |none=>exact .inr rfl
   |some o=>obtain⟨o',c⟩:=g.there a o q;rw[z]at c;cases c
def Fit(O F:af->Prop)(H:Hp):Prop:=∀b,O b->¬F b/\∃o,H b=aa o/\eJ o
section
variable{K:ay}{O c F b:af->Prop}{H H':Hp}
theorem bA.imm(g:bA O c F b H H')(f:Fit O F H){a:af}{o:HO}(h:H a=aa o)(n:¬eJ o):H' a=aa o :=
 g.keep _ _ h λz=>by
  obtain⟨_,j,d,i⟩:=f a z;rw[h]at d;cases d;exact n i
theorem bA.lst(g:bA O c F b H H')(f:Fit O F H){a:af}{xs:List V}(d:F a)(h:Rd H a (.lst xs)):Rd H' a (.lst xs):=by
 have no:¬O a:=λz=>(f a z).1 d;rcases h with h|⟨o,h⟩
 .exact .inl (g.keep _ _ h no)
 .exact .inr ⟨o,g.keep _ _ h no⟩
theorem aU.grow(g:bA O c F b H H')(f:Fit O F H){x:PV}{v:V}(h:aU K H F x v):aU K H' b x v:=aU.mono g.fro (λ_ _ a q=>g.lst f a q) (λ_ _ q n=>g.imm f q n) x v h
theorem Reps.grow(g:bA O c F b H H')(f:Fit O F H){x:List PV}{v:List V}(h:Reps K H F x v):Reps K H' b x v:=Reps.mono g.fro (λ_ _ a q=>g.lst f a q) (λ_ _ q n=>g.imm f q n) x v h
end
theorem _root_.L2.Same.rd{H b:Hp}{a:af}{u:HO}(e:Same H b)(h:Rd H a u):Rd b a u:=h.elim (λz=>.inl (e _ _ z)) λ⟨o,z⟩=>.inr ⟨o,e _ _ z⟩
structure Al(F F':af->Prop)(H H':Hp):Prop where
 fro:∀a,F a->F' a
 same:Same H H'
 fnew:∀a,F' a->F a\/(H a=ae/\∃o,H' a=aa o)
theorem Al.refl(F:af->Prop)(H:Hp):Al F F H H:=⟨λ_ h=>h,Same.refl H,λ_ h=>.inl h⟩
theorem Al.grow{F d O:af->Prop}{H c:Hp}(a:Al F d H c):bA O O F d H c :=⟨a.fro,λb o h _=>a.same b o h,λb o h=>⟨o,a.same b o h⟩,λb h=>(a.fnew b h).imp id λz=>.inl z.1,λ_ h=>.inl h⟩
theorem Al.rep{K:ay}{F c:af->Prop}{H b:Hp}(a:Al F c H b){x:PV}{v:V}(h:aU K H F x v):aU K b c x v:=aU.mono a.fro (λ_ _ _ q=>a.same.rd q) (λ_ _ q _=>a.same _ _ q) x v h
theorem Al.reps{K:ay}{F c:af->Prop}{H b:Hp}(a:Al F c H b){x:List PV}{v:List V}(h:Reps K H F x v):Reps K b c x v:=Reps.mono a.fro (λ_ _ _ q=>a.same.rd q) (λ_ _ q _=>a.same _ _ q) x v h
theorem Al.trans{F i g:af->Prop}{H f d:Hp}(a:Al F i H f)(b:Al i g f d):Al F g H d :=
 ⟨λc h=>b.fro c (a.fro c h),a.same.trans b.same,λc h=>by
  rcases b.fnew c h with z|⟨z,w⟩
  .rcases a.fnew c z with y|⟨y,o,q⟩
   .exact .inl y
   .exact .inr ⟨y,o,b.same _ _ q⟩
  .exact .inr ⟨a.same.free z,w⟩⟩
theorem Al.new{F:af->Prop}{H:Hp}{l:af}{o:HO}(h:H l=ae):Al F (λa=>F a\/a=l) H (upd H l o) :=⟨λ_ h=>.inl h,Ha h,λa z=>z.imp id λe=>by subst e;exact⟨h,o,bV⟩⟩
theorem Al.new0{F:af->Prop}{H:Hp}{l:af}{o:HO}(h:H l=ae):Al F F H (upd H l o):=⟨λ_ h=>h,Ha h,λa z=>.inl z⟩
inductive PO where
 |lst (xs:List PV)|dK (kvs:List (aN×PV))|lls (kn:List (List PV))|ins (C:af) (fs:List (Str×PV))|dT (kvs:List (List aN×PV))|dN (kvs:List ((Tx×List Tx)×PV))|inl (C:af) (fs:List (Str×PV)) (y:Str) (xs:List PV)
def iX:PO->Bool
 |.lls _=>am
 |.inl ..=>am
 |_=>ag
inductive Slot where
 |none|val (v:PV)|own (o:PO)
abbrev ak:=List Slot
def i5(K:ay)(H:Hp)(F:af->Prop)(a:List (aN×PV))(b:List (aN×V)):Prop:=j_ (λ(p:aN×PV) (q:aN×V)=>p.1=q.1/\aU K H F p.2 q.2) a b
def u8(K:ay)(H:Hp)(F:af->Prop)(fs:List (Str×PV))(a:List (Str×V)):Prop:=j_ (λ(p:Str×PV) (q:Str×V)=>p.1=q.1/\aU K H F p.2 q.2) fs a
def jF(K:ay)(H:Hp)(F:af->Prop)(a:List (List aN×PV))(b:List (List aN×V)):Prop:=j_ (λ(p:List aN×PV) (q:List aN×V)=>p.1=q.1/\aU K H F p.2 q.2) a b
def nS(k:Tx×List Tx):Str×List Str:=(tS k.1,k.2.map tS)
def yJ(K:ay)(H:Hp)(F:af->Prop)(a:List ((Tx×List Tx)×PV))(b:List ((Str×List Str)×V)):Prop:=j_ (λ(p:(Tx×List Tx)×PV) (q:(Str×List Str)×V)=>nS p.1=q.1/\aU K H F p.2 q.2) a b
def zg(K:ay)(H:Hp)(F:af->Prop)(c:List (List PV))(d:List af):Prop:=j_ (λ(xs:List PV) (b:af)=>∃a,H b=aa (.lst a)/\Reps K H F xs a) c d
def fI(K:ay)(H:Hp)(F:af->Prop)(j:PO)(a:af)(S:af->Prop):Prop :=
 match j with
 |.lst xs=>(∃g,H a=aa (.lst g)/\Reps K H F xs g)/\∀b,S b↔b=a
 |.dK f=>(∃d,H a=aa (.dK d)/\i5 K H F f d)/\∀b,S b↔b=a
 |.lls l=>∃h,H a=aa (.lst (h.map .ref))/\zg K H F l h/\h.Nodup/\a∉h/\∀b,S b↔b=a\/b∈h
 |.ins C fs=>(∃i d,H a=aa (.ins C i d)/\u8 K H F fs d)/\∀b,S b↔b=a
 |.dT f=>(∃d,H a=aa (.dT d)/\jF K H F f d)/\∀b,S b↔b=a
 |.dN f=>(∃d,H a=aa (.dN d)/\yJ K H F f d)/\∀b,S b↔b=a
 |.inl C fs y xs=>∃i d b g,H a=aa (.ins C i (d++[(y,.ref b)]))/\u8 K H F fs d/\fs.lookup y=ae/\H b=aa (.lst g)/\Reps K H F xs g/\a≠b/\∀c,S c↔c=a\/c=b
structure aS(K:ay)(F:af->Prop)(S:Nat->af->Prop)(ε:ak)(σ:St)(H:Hp):Prop where
 len:ε.length=σ.length
 ex:∀a,F a->∃o,H a=aa o
 val:∀(i:Nat) (pv:PV),ε[i]?=aa (.val pv)->∃v,σ[i]?=aa (aa v)/\aU K H F pv v
 own:∀(i:Nat) (po:PO),ε[i]?=aa (.own po)->∃a,σ[i]?=aa (aa (.ref a))/\fI K H F po a (S i)
 foot:∀(i:Nat) (b:af),S i b->(∃po,ε[i]?=aa (.own po))/\¬F b/\∃o,H b=aa o/\eJ o
 dist:∀(i j:Nat) (b:af),S i b->S j b->i=j
def U(S:Nat->af->Prop)(b:af):Prop:=∃i,S i b
section
variable{K:ay}{F d:af->Prop}{S:Nat->af->Prop}{g:ak}{f:St}{H H':Hp}
theorem aS.fit(r:aS K F S g f H):Fit (U S) F H:=λb ⟨i,h⟩=>(r.foot i b h).2
theorem i5.mono{a:List (aN×PV)}{b:List (aN×V)}(i:∀x v,aU K H F x v->aU K H' d x v)(h:i5 K H F a b):i5 K H' d a b:=by
 unfold i5 at h ⊢
 induction h with
 |nil=>exact .nil
 |cons r _ c=>exact .cons ⟨r.1,i _ _ r.2⟩ c
theorem u8.mono{fs:List (Str×PV)}{a:List (Str×V)}(c:∀x v,aU K H F x v->aU K H' d x v)(h:u8 K H F fs a):u8 K H' d fs a:=by
 unfold u8 at h ⊢
 induction h with
 |nil=>exact .nil
 |cons r _ b=>exact .cons ⟨r.1,c _ _ r.2⟩ b
theorem jF.mono{a:List (List aN×PV)}{b:List (List aN×V)}(i:∀x v,aU K H F x v->aU K H' d x v)(h:jF K H F a b):jF K H' d a b:=by
 unfold jF at h ⊢
 induction h with
 |nil=>exact .nil
 |cons r _ c=>exact .cons ⟨r.1,i _ _ r.2⟩ c
theorem yJ.mono{a:List ((Tx×List Tx)×PV)}{b:List ((Str×List Str)×V)}(i:∀x v,aU K H F x v->aU K H' d x v)(h:yJ K H F a b):yJ K H' d a b:=by
 unfold yJ at h ⊢
 induction h with
 |nil=>exact .nil
 |cons r _ c=>exact .cons ⟨r.1,i _ _ r.2⟩ c
theorem zg.mono{c:List (List PV)}{a:List af}(j:∀x v,Reps K H F x v->Reps K H' d x v)(i:∀b o,b∈a->H b=aa o->H' b=aa o)(h:zg K H F c a):zg K H' d c a:=by
 unfold zg at h ⊢
 induction h with
 |nil=>exact .nil
 |cons r _ m=>obtain⟨l,q,p⟩:=r;exact .cons ⟨l,i _ _ (by simp) q,j _ _ p⟩ (m λb o n=>i b o (by simp[n]))
theorem fI.mono{r:PO}{a:af}{u:af->Prop}(l:∀x v,aU K H F x v->aU K H' d x v)(m:∀x v,Reps K H F x v->Reps K H' d x v)(i:∀b o,u b->H b=aa o->H' b=aa o)(h:fI K H F r a u):fI K H' d r a u:=by
 cases r with
 |lst xs=>obtain⟨⟨p,e,q⟩,w⟩:=h;exact⟨⟨p,i a _ ((w a).mpr rfl) e,m _ _ q⟩,w⟩
 |dK j=>obtain⟨⟨c,e,q⟩,w⟩:=h;exact⟨⟨c,i a _ ((w a).mpr rfl) e,q.mono l⟩,w⟩
 |lls J=>obtain⟨I,e,q,D,B,w⟩:=h;exact⟨I,i a _ ((w a).mpr (.inl rfl)) e,q.mono m λb o E=>i b o ((w b).mpr (.inr E)),D,B,w⟩
 |ins C fs=>obtain⟨⟨s,c,e,q⟩,w⟩:=h;exact⟨⟨s,c,i a _ ((w a).mpr rfl) e,q.mono l⟩,w⟩
 |dT j=>obtain⟨⟨c,e,q⟩,w⟩:=h;exact⟨⟨c,i a _ ((w a).mpr rfl) e,q.mono l⟩,w⟩
 |dN j=>obtain⟨⟨c,e,q⟩,w⟩:=h;exact⟨⟨c,i a _ ((w a).mpr rfl) e,q.mono l⟩,w⟩
 |inl C fs y xs=>obtain⟨s,c,b,p,e,q,n,G,z,A,w⟩:=h;exact⟨s,c,b,p,i a _ ((w a).mpr (.inl rfl)) e,q.mono l,n,i b _ ((w b).mpr (.inr rfl)) G,m _ _ z,A,w⟩
theorem aS.al(r:aS K F S g f H)(a:Al F d H H'):aS K d S g f H' where
 len:=r.len
 ex:=λb h=>(a.fnew b h).elim (λz=>let ⟨o,q⟩:=r.ex b z;⟨o,a.same _ _ q⟩) λz=>z.2
 val:=λi pv e=>let ⟨v,l,j⟩:=r.val i pv e;⟨v,l,a.rep j⟩
 own:=λi n e=>let ⟨b,l,j⟩:=r.own i n e;⟨b,l,j.mono (λ_ _ q=>a.rep q) (λ_ _ q=>a.reps q) λc o _ q=>a.same _ _ q⟩
 foot:=λi b h=>by
  obtain⟨l,j,o,m,p⟩:=r.foot i b h;refine⟨l,λz=>?_,o,a.same _ _ m,p⟩;rcases a.fnew b z with y|⟨y,_⟩
  .exact j y
  .rw[m]at y;cases y
 dist:=r.dist
end
inductive R(α:Type) where
 |ok (a:α) (ε:ak)|er (c:ai) (ε:ak)|no
def R.bind{d b:Type}(r:R d)(k:d->ak->R b):R b:=match r with
 |.ok a ε=>k a ε
 |.er c ε=>.er c ε
 |.no=>.no
def aJ{b:Type}(o:Option b)(ε:ak):R b:=match o with
 |some a=>.ok a ε
 |none=>.no
@[simp] theorem R.bind_ok{b c:Type}(a:b)(ε:ak)(k:b->ak->R c):(R.ok a ε).bind k=k a ε:=rfl
@[simp] theorem R.bind_er{b d:Type}(c:ai)(a:ak)(k:b->ak->R d):(R.er c a:R b).bind k=.er c a:=rfl
@[simp] theorem R.bind_no{a b:Type}(k:a->ak->R b):(R.no:R a).bind k=.no:=rfl
@[simp] theorem cP{b:Type}(a:b)(ε:ak):aJ (aa a) ε=.ok a ε:=rfl
@[simp] theorem Uj{b:Type}(a:ak):aJ (ae:Option b) a=.no:=rfl
def Ok(K:ay)(E:XK)(h:St)(F:af->Prop)(S:Nat->af->Prop)(H:Hp){i:Type}(r:R i)(C:i->ak->(af->Prop)->(Nat->af->Prop)->Hp->Prop):Prop:=match r with
 |.ok a b=>∀g f d,aS K g f b h d->bA (U S) (U f) F g H d->C a b g f d
 |.er c b=>∀x g f d,aS K g f b h d->bA (U S) (U f) F g H d->E c x d
 |.no=>False
section
variable{K:ay}{E:XK}{b:St}{F:af->Prop}{S:Nat->af->Prop}{H:Hp}{d i:Type}{C C':d->ak->(af->Prop)->(Nat->af->Prop)->Hp->Prop}{D:i->ak->(af->Prop)->(Nat->af->Prop)->Hp->Prop}
theorem Ok.imp{r:R d}(h:Ok K E b F S H r C)(f:∀a j n l m,aS K n l j b m->bA (U S) (U l) F n H m->C a j n l m->C' a j n l m):Ok K E b F S H r C':=by
 cases r with
 |ok a j=>exact λn l m r g=>f a j n l m r g (h n l m r g)
 |er c j=>exact h
 |no=>exact h
theorem Ok.from{r:R i}{q:af->Prop}{o:Nat->af->Prop}{p:Hp}(h:Ok K E b F S H r D)(g:bA (U S) (U o) F q H p):Ok K E b q o p r D:=by
 cases r with
 |ok a f=>exact λn l m j g'=>h n l m j (g.trans g')
 |er c f=>exact λx n l m j g'=>h x n l m j (g.trans g')
 |no=>exact h
theorem Ok.bind{r:R d}{k:d->ak->R i}(h:Ok K E b F S H (r.bind k) D):Ok K E b F S H r (λa ε1 m j l=>Ok K E b m j l (k a ε1) D):=by
 cases r with
 |ok a f=>exact λp n o r g=>Ok.from h g
 |er c f=>exact h
 |no=>exact h
end
structure Bx(p:Prop):Prop where
 run:p
def jc(X:Cx)(e:aD):TE:=λa H Q=>Bx (∀b s,Inv X b a H s->ar (aw X.prog X.w) X.A (aX e X.env) (EP X b a Q) X.xe s)
def Ao(X:Cx)(e:aD):TT:=λa H Q=>Bx (∀b s,Inv X b a H s->ar (aw X.prog X.w) X.A (nH e X.env (aX e X.env)) (TP X b a Q) X.xe s)
def wpS(X:Cx)(c:bg):TS:=λD b H=>Bx (∀a s,Inv X a b H s->ar (aw X.prog X.w) X.A (exec c X.env) (SP X a D) X.xe s)
def oP(X:Cx)(c:List bg):TS:=λD b H=>Bx (∀a s,Inv X a b H s->ar (aw X.prog X.w) X.A (execs c X.env) (SP X a D) X.xe s)
section
variable{X:Cx}{e:aD}{b:bg}{a:List bg}
theorem bP:PE X e (jc X e):=λc s _ _ _ I h=>h.run c s I
theorem nt:PT X e (Ao X e):=λc s _ _ _ I h=>h.run c s I
theorem FD:PS X b (wpS X b):=λc s _ _ _ I h=>h.run c s I
theorem ql:lr X a (oP X a):=λc s _ _ _ I h=>h.run c s I
theorem bZ{t:TE}(h:PE X e t){c:St}{H:Hp}{Q:VK}(q:t c H Q):jc X e c H Q:=⟨λd s I=>h d s c H Q I q⟩
theorem vJ{t:TT}(h:PT X e t){c:St}{H:Hp}{Q:Bool->Hp->Prop}(q:t c H Q):Ao X e c H Q:=⟨λd s I=>h d s c H Q I q⟩
theorem gC{t:TS}(h:PS X b t){c:St}{H:Hp}{D:kE}(q:t D c H):wpS X b D c H:=⟨λd s I=>h d s c H D I q⟩
theorem BY{t:TS}(h:lr X a t){c:St}{H:Hp}{D:kE}(q:t D c H):oP X a D c H:=⟨λd s I=>h d s c H D I q⟩
end
def DE(X:Cx)(E:XK)(e:aD)(d:ak->R PV):Prop :=
 ∀F S b a H Q,aS X.K F S b a H->Ok X.K E a F S H (d b) (λpv _ f _ c=>∀v,aU X.K c f pv v->Q v c)->jc X e a H Q
def DN(X:Cx)(E:XK)(e:aD)(d:ak->R PO):Prop :=
 ∀F S g c H Q,aS X.K F S g c H->Ok X.K E c F S H (d g) (λj _ i l f=>∀a h,fI X.K f i j a h->(∀b,h b->H b=ae/\¬i b/\¬U l b/\∃o,f b=aa o/\eJ o)->Q (.ref a) f)->jc X e c H Q
def DT(X:Cx)(E:XK)(e:aD)(d:ak->R Bool):Prop :=
 ∀F S ε a H Q,aS X.K F S ε a H->Ok X.K E a F S H (d ε) (λb _ _ _ c=>Q b c)->Ao X e a H Q
section
variable{X:Cx}{E:XK}{a b c:aD}{m db A:ak->R PV}{pos:Pos}
def dC(pv:PV):ak->R PV:=λε=>.ok pv ε
theorem bi{i j pos}:DE X E (.Constant (.int i) j pos) (dC (.int i)):=λF S f d H Q r h=>bZ Iq (h F S H r (bA.refl ..) _ rfl)
theorem qa{i j pos}:DE X E (.Constant (.bool i) j pos) (dC (.bl i)):=λF S f d H Q r h=>bZ PP (h F S H r (bA.refl ..) _ rfl)
theorem KR{j pos}:DE X E (.Constant .none j pos) (dC .non):=λF S f d H Q r h=>bZ Qf (h F S H r (bA.refl ..) _ rfl)
theorem lq(l:Tx){x:Str}{j pos}(d:x=tS l:=by decide +kernel)(f:l.length<=bG:=by decide):DE X E (.Constant (.str x) j pos) (dC (.str l)):=λF S i g H Q r h=>bZ OI (h F S H r (bA.refl ..) _ (by rw[d];exact⟨rfl,f⟩))
def dV(i:Nat):ak->R PV:=λε=>match ε[i]? with
 |some (.val pv)=>.ok pv ε
 |_=>.no
theorem au(i:Nat){x:Str}{pos:Pos}(g:X.N[i]?=aa x:=by rfl)(d:eR X.env.scope x:=by first|exact Or.inl rfl|exact Or.inr (Or.inl rfl)|exact Or.inr (Or.inr rfl))(f:(x==("__debug__":Str))=am:=by decide)(n:(x==("__classdict__":Str))=am:=by decide):DE X E (.Name x pos) (dV i):=λF S q o H Q r h=>by
 unfold dV at h;split at h
 .rename_i p e;obtain⟨v,l,j⟩:=r.val i p e;exact bZ (fJ g d f n) ⟨v,l,h F S H r (bA.refl ..) v j⟩
 .exact h.elim
theorem Cd{x:Str}{i:Int}{pos:Pos}(h:∃t,X.mg x=aa (.int i t))(d:Gl X x:=by rfl)(f:(x==("__debug__":Str))=am:=by decide):DE X E (.Name x pos) (dC (.int i)):=λF S j g H Q r q=>by obtain⟨t,e⟩:=h;exact bZ (BB (v:=.int i) d e ⟨t,rfl⟩ f) (q F S H r (bA.refl ..) _ rfl)
theorem Ie{x:Str}{l:Tx}{pos:Pos}(h:∃t,X.mg x=aa (.str (tS l) t))(f:Gl X x:=by rfl)(d:l.length<=bG:=by decide)(g:(x==("__debug__":Str))=am:=by decide):DE X E (.Name x pos) (dC (.str l)):=λF S j i H Q r q=>by obtain⟨t,e⟩:=h;exact bZ (BB (v:=tV l) f e ⟨t,rfl⟩ g) (q F S H r (bA.refl ..) _ ⟨rfl,d⟩)
def aS.frz{K:ay}{F:af->Prop}{S:Nat->af->Prop}{p:ak}{s:St}{H:Hp}{i:Nat}{xs:List PV}(r:aS K F S p s H)(e:p[i]?=aa (.own (.lst xs))):∃a y J,aS K y J (p.set i (.val (.lst xs))) s H/\bA (U S) (U J) F y H H/\s[i]?=aa (aa (.ref a))/\aU K H y (.lst xs) (.ref a):=by
 obtain⟨a,I,⟨L,D,M⟩,G⟩:=r.own i _ e;have C:i<p.length:=(c9.mp e).1;have g:∀b,F b->F b\/b=a:=λb h=>.inl h;have mono:∀x v,aU K H F x v->aU K H (λb=>F b\/b=a) x v:=aU.mono g (λ_ _ _ q=>q) (λ_ _ q _=>q);have d:∀x v,Reps K H F x v->Reps K H (λb=>F b\/b=a) x v:=Reps.mono g (λ_ _ _ q=>q) (λ_ _ q _=>q);have B:aU K H (λb=>F b\/b=a) (.lst xs) (.ref a):=⟨a,L,rfl,.inl D,.inr rfl,d _ _ M⟩
 refine⟨a,λb=>F b\/b=a,λj b=>S j b/\j≠i,⟨by rw[gL];exact r.len,λb h=>?_,λj pv q=>?_,λj w q=>?_,λj b h=>?_,λj k b O N=>r.dist j k b O.1 N.1⟩,?_,I,B⟩
 .rcases h with h|rfl
  .exact r.ex b h
  .exact⟨_,D⟩
 .by_cases f:i=j
  .subst f;rw[gi C]at q;cases q;exact⟨_,I,B⟩
  .rw[eD f]at q;obtain⟨v,n,l⟩:=r.val j pv q;exact⟨v,n,mono _ _ l⟩
 .by_cases f:i=j
  .subst f;rw[gi C]at q;cases q
  .rw[eD f]at q;obtain⟨v,n,l⟩:=r.own j w q;refine⟨v,n,?_⟩;have u:=l.mono (H':=H) mono d λ_ _ _ z=>z;have P:(λb=>S j b/\j≠i)=S j:=by funext b;simp[eO f]
   rw[P];exact u
 .obtain⟨⟨w,n⟩,l,u⟩:=r.foot j b h.1;refine⟨⟨w,by rw[eD (eO h.2)];exact n⟩,λz=>?_,u⟩;rcases z with z|rfl
  .exact l z
  .exact h.2 (r.dist j i b h.1 ((G b).mpr rfl))
 .refine⟨λ_ h=>.inl h,λb o h _=>h,λb o h=>⟨o,h⟩,λb h=>?_,λb ⟨j,h⟩=>.inl ⟨j,h.1⟩⟩;rcases h with h|rfl
  .exact .inl h
  .exact .inr (.inr ⟨i,(G b).mpr rfl⟩)
def dM(i:Nat):ak->R PV:=λε=>match ε[i]? with
 |some (.own (.lst xs))=>.ok (.lst xs) (ε.set i (.val (.lst xs)))
 |_=>.no
theorem IB(i:Nat){x:Str}{pos:Pos}(l:X.N[i]?=aa x:=by rfl)(f:eR X.env.scope x:=by first|exact Or.inl rfl|exact Or.inr (Or.inl rfl)|exact Or.inr (Or.inr rfl))(j:(x==("__debug__":Str))=am:=by decide)(q:(x==("__classdict__":Str))=am:=by decide):DE X E (.Name x pos) (dM i):=λF S w v H Q r h=>by
 unfold dM at h;split at h
 .rename_i p e;obtain⟨a,u,s,d,g,o,n⟩:=r.frz e;exact bZ (fJ l f j q) ⟨_,o,h u s H d g _ n⟩
 .exact h.elim
def P2(K:ay)(r:R2)(f:PV->PV->Option PV):Prop:=∀(F:af->Prop) (H:Hp) (x y:PV) (v u:V) (Q:VK) (pv:PV),aU K H F x v->aU K H F y u->f x y=aa pv->(∀w g d,Al F g H d->aU K d g pv w->Q w d)->r v u H Q
def d2(f:PV->PV->Option PV)(m db:ak->R PV):ak->R PV:=λε=>(m ε).bind λx ε1=>(db ε1).bind λy d=>aJ (f x y) d
theorem y6{r:R2}{f:PV->PV->Option PV}(I:P2 X.K r f)(K:DE X E a m)(J:DE X E b db){F:af->Prop}{S:Nat->af->Prop}{l:ak}{d:St}{H:Hp}{Q:VK}(D:aS X.K F S l d H)(h:Ok X.K E d F S H (d2 f m db l) (λpv _ q _ i=>∀v,aU X.K i q pv v->Q v i)):jc X a d H λx p=>jc X b d p λy o=>r x y o Q:=by
 refine K F S l d H _ D ((Ok.bind h).imp λx j T O p s W L v B=>?_);refine J T O j d p _ s ((Ok.bind L).imp λy z P N o G M g u C=>?_);cases e:f x y with
 |none=>rw[e]at g;exact g.elim
 |some pv=>rw[e]at g;exact I P o x y v u Q pv (B.grow M s.fit) C e λw q i al n=>g q N i (G.al al) al.grow w n
theorem cu{d:Operator}{r:R2}{f:PV->PV->Option PV}(j:bT X (iN d) r)(i:P2 X.K r f)(n:DE X E a m)(l:DE X E b db):DE X E (.BinOp a d b pos) (d2 f m db):=λF S p o H Q g h=>bZ (Kj j bP bP) (y6 i n l g h)
theorem vF{d:CmpOp}{r:R2}{f:PV->PV->Option PV}(j:bT X (eE d) r)(i:P2 X.K r f)(o:DE X E a m)(n:DE X E b db)(l:zu d b=am):DE X E (.Compare a [d] [b] pos) (d2 f m db):=λF S q p H Q g h=>bZ (Q0 j bP bP l) (y6 i o n g h)
def jT:PV->Option Bool
 |.bl b=>aa b
 |_=>ae
def dB(d:ak->R PV):ak->R Bool:=λε=>(d ε).bind λx ε1=>aJ (jT x) ε1
theorem Ii{K:ay}{H:Hp}{F:af->Prop}{x:PV}{v:V}{k:Bool}(h:aU K H F x v)(e:jT x=aa k):v=.bl k:=by
 cases x <;> simp[jT]at e;subst e;exact h
theorem uL{F:af->Prop}{S:Nat->af->Prop}{j:ak}{i:St}{H:Hp}{Q:Bool->Hp->Prop}{d:ak->R PV}(h:Ok X.K E i F S H (dB d j) (λk _ _ _ g=>Q k g)):Ok X.K E i F S H (d j) (λpv _ s _ g=>∀v,aU X.K g s pv v->∃k,v=.bl k/\Q k g):=by
 refine(Ok.bind h).imp λx l r p q o u f v n=>?_;cases e:jT x with
 |none=>rw[e]at f;exact f.elim
 |some k=>rw[e]at f;exact⟨k,Ii n e,f r p q o (bA.refl ..)⟩
theorem iD{d:CmpOp}{r:R2}{f:PV->PV->Option PV}(j:bT X (eE d) r)(i:P2 X.K r f)(o:DE X E a m)(n:DE X E b db)(l:zu d b=am):DT X E (.Compare a [d] [b] pos) (dB (d2 f m db)):=λF S s q H Q g h=>vJ (FQ j bP bP l) (y6 (Q:=λx p=>∃k,x=.bl k/\Q k p) i o n g (uL h))
theorem o6{e:aD}{d:ak->R PV}(n:DE X E e d)(l:∀f,nH e X.env f=(do let v <-f;standAt e.pos;lA [v] (truthy v)):=by intro _;rfl):DT X E e (dB d):=λF S i g H Q j h=>vJ (Q6 bP l) (n F S i g H _ j (uL h))
def sk(f g:PV->PV->Option PV)(m db A:ak->R PV):ak->R PV:=λj=>(m j).bind λx i=>(db i).bind λy d=>(aJ ((f x y).bind jT) d).bind λk d=>
 match k with
 |true=>(A d).bind λz h=>aJ (g y z) h
 |false=>.ok (.bl am) d
theorem HW{r O:R2}{f g:PV->PV->Option PV}(hp:P2 X.K r f)(cN:P2 X.K O g)(ha:DE X E a m)(hb:DE X E b db)(hc:DE X E c A){F:af->Prop}{S:Nat->af->Prop}{B:ak}{j:St}{H:Hp}{Q:VK}(rl:aS X.K F S B j H)(h:Ok X.K E j F S H (sk f g m db A B) (λpv _ l _ i=>∀v,aU X.K i l pv v->Q v i)):AN r O (jc X a) (jc X b) (jc X c) j H Q:=by
 refine ha F S B j H _ rl ((Ok.bind h).imp λx s F1 S1 H1 N g1 h1 v rv=>?_);refine hb F1 S1 s j H1 _ N ((Ok.bind h1).imp λy n T L P r2 g2 d u M=>?_);cases e:f x y with
 |none=>rw[e]at d;exact d.elim
 |some pv=>
  rw[e]at d;refine hp T P x y v u _ pv (rv.grow g2 N.fit) M e λw l i al D=>?_;cases K:jT pv with
  |none=>rw[fj,K]at d;exact d.elim
  |some k=>
   rw[fj,K]at d;refine⟨k,Ii D K,?_⟩;have I:=r2.al al;cases k with
   |false=>exact oN (Ok.from d al.grow l L i I (bA.refl ..) _ rfl)
   |true=>
    have h3:Ok X.K E j T L P ((A n).bind λz q=>aJ (g y z) q) (λpv _ l _ i=>∀v,aU X.K i l pv v->Q v i):=d;refine oV (hc l L n j i _ I ((Ok.bind (Ok.from h3 al.grow)).imp λz W F4 S4 H4 r4 g4 p Z G=>?_));cases J:g y z with
    |none=>rw[J]at p;exact p.elim
    |some pz=>rw[J]at p;exact cN F4 H4 y z u Z Q pz ((al.rep M).grow g4 I.fit) G J λY F5 H5 o C=>p F5 S4 H5 (r4.al o) o.grow Y C
theorem SC{i d:CmpOp}{r j:R2}{f g:PV->PV->Option PV}(o:bT X (eE i) r)(v:bT X (eE d) j)(n:P2 X.K r f)(w:P2 X.K j g)(u:DE X E a m)(s:DE X E b db)(q:DE X E c A)(p:lastMarks [i,d] [b,c]=am:=by with_unfolding_all rfl):DE X E (.Compare a [i,d] [b,c] pos) (sk f g m db A):=λF S y x H Q l h=>bZ (Qb o v bP bP bP p) (HW n w u s q l h)
theorem L_{i d:CmpOp}{r j:R2}{f g:PV->PV->Option PV}(o:bT X (eE i) r)(v:bT X (eE d) j)(n:P2 X.K r f)(w:P2 X.K j g)(u:DE X E a m)(s:DE X E b db)(q:DE X E c A)(p:lastMarks [i,d] [b,c]=am:=by with_unfolding_all rfl):DT X E (.Compare a [i,d] [b,c] pos) (dB (sk f g m db A)):=λF S B z H Q l h=>vJ (QD o v bP bP bP p) (HW (Q:=λx y=>∃k,x=.bl k/\Q k y) n w u s q l (uL h))
variable{n B:ak->R Bool}{rest:List aD}
def DW(X:Cx)(E:XK)(e:aD)(d:ak->R Bool):Prop:=∀F S g f H Q,aS X.K F S g f H->Ok X.K E f F S H (d g) (λb _ _ _ i=>Q b i)->∀(h:Sem ai) ah s,Inv X ah f H s->ar (aw X.prog X.w) X.A (nH e X.env h) (TP X ah f Q) X.xe s
def MY(X:Cx)(e:aD):TT:=λd H Q=>∀(f:Sem ai) ah s,Inv X ah d H s->ar (aw X.prog X.w) X.A (nH e X.env f) (TP X ah d Q) X.xe s
theorem HZ{e:aD}:PW X e (MY X e):=λd f s _ _ _ I h=>h d f s I
theorem DW.dt{e:aD}{d:ak->R Bool}(h:DW X E e d):DT X E e d:=λF S ε f H Q g q=>⟨λi s I=>h F S ε f H Q g q _ i s I⟩
def oG(n B:ak->R Bool):ak->R Bool:=λf=>(n f).bind λk d=>match k with
 |true=>B d
 |false=>.ok am d
def uB(n B:ak->R Bool):ak->R Bool:=λf=>(n f).bind λk d=>match k with
 |true=>.ok ag d
 |false=>B d
def nj(n:ak->R Bool):ak->R Bool:=λf=>(n f).bind λk d=>.ok (!k) d
theorem Et(h:DT X E a n):DW X E (.BoolOp .And [a] pos) n:=λF S f d H Q g q i j s I=>PJ nt i j s d H Q I (h F S f d H Q g q)
theorem Ax(h:DT X E a n):DW X E (.BoolOp .Or [a] pos) n:=λF S f d H Q g q i j s I=>Ot nt i j s d H Q I (h F S f d H Q g q)
theorem FW(u:DT X E a n)(r:DW X E (.BoolOp .And (b::rest) pos) B):DW X E (.BoolOp .And (a::b::rest) pos) (oG n B):=λF S o d H Q p q v w s I=>by
 refine Oi nt HZ v w s d H Q I (u F S o d H _ p ((Ok.bind q).imp λk f l i j g x h=>?_));cases k with
 |true=>exact oV (r l i f d j Q g h)
 |false=>exact oN (h l i j g (bA.refl ..))
theorem AC(u:DT X E a n)(r:DW X E (.BoolOp .Or (b::rest) pos) B):DW X E (.BoolOp .Or (a::b::rest) pos) (uB n B):=λF S o d H Q p q v w s I=>by
 refine Qa nt HZ v w s d H Q I (u F S o d H _ p ((Ok.bind q).imp λk f l i j g x h=>?_));cases k with
 |true=>exact oV (h l i j g (bA.refl ..))
 |false=>exact oN (r l i f d j Q g h)
theorem pU(j:DT X E a n):DT X E (.UnaryOp .Not a pos) (nj n):=λF S g d H Q h q=>vJ (Mw nt) (j F S g d H _ h ((Ok.bind q).imp λk f r o p i s l=>l r o p i (bA.refl ..)))
def pT(m db:ak->R PV):ak->R PV:=λf=>(dB m f).bind λk d=>match k with
 |true=>db d
 |false=>.ok (.bl am) d
def PU(m db:ak->R PV):ak->R PV:=λf=>(dB m f).bind λk d=>match k with
 |true=>.ok (.bl ag) d
 |false=>db d
def Ce(m:ak->R PV):ak->R PV:=λf=>(dB m f).bind λk d=>.ok (.bl (!k)) d
theorem HY{d:ak->R PV}{q:Type}{D:q->ak->(af->Prop)->(Nat->af->Prop)->Hp->Prop}{k:Bool->ak->R q}{F:af->Prop}{S:Nat->af->Prop}{p:ak}{o:St}{H:Hp}{P:Bool->Hp->Prop}(h:Ok X.K E o F S H ((dB d p).bind k) D) (f:∀c g l j i,aS X.K l j g o i->bA (U S) (U j) F l H i->Ok X.K E o l j i (k c g) D->P c i):Ok X.K E o F S H (d p) (λpv _ y _ r=>∀v,aU X.K r y pv v->∃c,v=.bl c/\P c r):=by have u:=(Ok.bind h).imp (C':=λc g l j i=>P c i) λc g l j i s x w=>f c g l j i s x w;exact uL u
theorem xG{op}{d:ak->R PV}(h:DE X E a d):DE X E (.BoolOp op [a] pos) d:=λF S g f H Q i q=>bZ (NA bP) (h F S g f H Q i q)
theorem vt(s:DE X E a m)(r:DE X E (.BoolOp .And (b::rest) pos) db):DE X E (.BoolOp .And (a::b::rest) pos) (pT m db):=λF S o f H Q p q=>by
 refine bZ (Kz bP bP) (s F S o f H _ p (HY q λk d l i j g u h=>?_));cases k with
 |true=>exact oV (r l i d f j Q g h)
 |false=>exact oN (h l i j g (bA.refl ..) _ rfl)
theorem Q3(j:DE X E a m):DE X E (.UnaryOp .Not a pos) (Ce m):=λF S g d H Q h q=>bZ (Rq bP) (j F S g d H _ h (HY q λk f r o p i s l=>l r o p i (bA.refl ..) _ rfl))
def dq{d:Type}(t:ak->R Bool)(m db:ak->R d):ak->R d:=λf=>(t f).bind λk ε1=>match k with
 |true=>m ε1
 |false=>db ε1
theorem GZ(r:DT X E c n)(u:DE X E a m)(s:DE X E b db):DE X E (.IfExp c a b pos) (dq n m db):=λF S o f H Q p q=>by
 refine bZ (Ol nt bP bP) (r F S o f H _ p ((Ok.bind q).imp λk d l i j g v h=>?_));cases k with
 |true=>exact oV (u l i d f j Q g h)
 |false=>exact oN (s l i d f j Q g h)
def P1(K:ay)(r:V->Hp->VK->Prop)(f:PV->Option PV):Prop:=∀(F:af->Prop) (H:Hp) (x:PV) (v:V) (Q:VK) (pv:PV),aU K H F x v->f x=aa pv->(∀w g d,Al F g H d->aU K d g pv w->Q w d)->r v H Q
def d1(f:PV->Option PV)(m:ak->R PV):ak->R PV:=λε=>(m ε).bind λx ε1=>aJ (f x) ε1
theorem Qn{r:V->Hp->VK->Prop}{f:PV->Option PV}(z:P1 X.K r f)(C:DE X E a m){F:af->Prop}{S:Nat->af->Prop}{j:ak}{d:St}{H:Hp}{Q:VK}(u:aS X.K F S j d H)(h:Ok X.K E d F S H (d1 f m j) (λpv _ p _ i=>∀v,aU X.K i p pv v->Q v i)):jc X a d H λx o=>r x o Q:=by
 refine C F S j d H _ u ((Ok.bind h).imp λx q G D o y I g v s=>?_);cases e:f x with
 |none=>rw[e]at g;exact g.elim
 |some pv=>rw[e]at g;exact z G o x v Q pv s e λw p i al l=>g p D i (y.al al) al.grow w l
theorem GN{d:UnaryOp}{r:V->Hp->VK->Prop}{f:PV->Option PV}(j:zk X (unaryOp d) r)(i:P1 X.K r f)(l:DE X E a m):DE X E (.UnaryOp d a pos) (d1 f m):=λF S p o H Q g h=>bZ (Rg j bP) (Qn i l g h)
end
def pQ(X:Cx)(d:List aD):TA:=λb H Q=>Bx (∀a c s,Inv X c b H s->ar (aw X.prog X.w) X.A (spliced (cE a (aM d X.env))) (AP X c b Q) X.xe s)
def DA(X:Cx)(E:XK)(h:List aD)(d:ak->R (List PV)):Prop :=
 ∀F S c a H Q,aS X.K F S c a H->Ok X.K E a F S H (d c) (λb _ i _ g=>∀f,Reps X.K g i b f->Q f g)->pQ X h a H Q
section
variable{X:Cx}{E:XK}{a b c e:aD}{es:List aD}{B db D d:ak->R PV}{j:ak->R (List PV)}{pos:Pos}
theorem iq{es:List aD}:PA X es (pQ X es):=λpos f s _ _ _ I h=>h.run pos f s I
theorem pW{t:TA}(h:PA X es t){f:St}{H:Hp}{Q:List V->Hp->Prop}(q:t f H Q):pQ X es f H Q:=⟨λpos g s I=>h pos g s f H Q I q⟩
def aB:ak->R (List PV):=λε=>.ok [] ε
def ax(d:ak->R PV)(j:ak->R (List PV)):ak->R (List PV):=λε=>(d ε).bind λx ε1=>(j ε1).bind λxs f=>.ok (x::xs) f
theorem aY:DA X E [] aB:=λF S i g H Q f h=>pW iG (h F S H f (bA.refl ..) _ rfl)
theorem OH(w:DE X E e d)(u:DA X E es j)(s:aM (e::es) X.env=(am,aX e X.env)::aM es X.env:=by rfl):DA X E (e::es) (ax d j):=λF S m g H Q p h=>by refine pW (gB bP iq s) (w F S m g H _ p ((Ok.bind h).imp λx f L G J i M z v o=>?_));refine u L G f g J _ i ((Ok.bind z).imp λxs l K C I q A y n r=>?_);exact y K C I q (bA.refl ..) _ ⟨v,n,rfl,o.grow A i.fit,r⟩
theorem aS.more{K:ay}{F N:af->Prop}{S:Nat->af->Prop}{n:ak}{m:St}{H:Hp}(r:aS K F S n m H)(p:∀b,N b->¬U S b/\∃o,H b=aa o):aS K (λb=>F b\/N b) S n m H:=by
 have mono:∀x v,aU K H F x v->aU K H (λb=>F b\/N b) x v:=aU.mono (λ_ h=>.inl h) (λ_ _ _ q=>q) (λ_ _ q _=>q);have f:∀x v,Reps K H F x v->Reps K H (λb=>F b\/N b) x v:=Reps.mono (λ_ h=>.inl h) (λ_ _ _ q=>q) (λ_ _ q _=>q);refine⟨r.len,λb h=>h.elim (r.ex b) λz=>(p b z).2,λi pv e=>?_,λi s e=>?_,λi b h=>?_,r.dist⟩
 .obtain⟨v,l,g⟩:=r.val i pv e;exact⟨v,l,mono _ _ g⟩
 .obtain⟨v,l,g⟩:=r.own i s e;exact⟨v,l,g.mono mono f λ_ _ _ z=>z⟩
 .obtain⟨l,g,u⟩:=r.foot i b h;exact⟨l,λz=>z.elim g λw=>(p b w).1 ⟨i,h⟩,u⟩
def oJ:PO->Option PV
 |.lst xs=>aa (.lst xs)
 |_=>ae
def dF(d:ak->R PO):ak->R PV:=λε=>(d ε).bind λf ε1=>aJ (oJ f) ε1
theorem DN.de{d:ak->R PO}(h:DN X E e d):DE X E e (dF d):=λF S ε r H Q v q=>by
 unfold dF at q;refine h F S ε r H Q v ?_;cases i:d ε with
 |no=>rw[i]at q;exact q.elim
 |er c s=>rw[i]at q;exact q
 |ok A ε1=>
  rw[i]at q;intro N l m x g a p G n;cases A with
  |dK f=>exact q.elim
  |lls O=>exact q.elim
  |ins C fs=>exact q.elim
  |dT f=>exact q.elim
  |dN f=>exact q.elim
  |inl C fs y xs=>exact q.elim
  |lst xs=>
   have L:∀b,p b->¬U l b/\∃o,m b=aa o:=λb z=>let ⟨_,_,x3,o,x4,_⟩:=n b z;⟨x3,o,x4⟩
   obtain⟨⟨u,J,I⟩,K⟩:=G;have M:bA (U S) (U l) F (λb=>N b\/p b) H m:=⟨λb z=>.inl (g.fro b z),g.keep,g.there,λb z=>z.elim (g.fnew b) λw=>.inr (.inl (n b w).1),g.onew⟩
   exact q _ l m (x.more L) M _ ⟨a,u,rfl,.inl J,.inr ((K a).mpr rfl),Reps.mono (λ_ z=>.inl z) (λ_ _ _ z=>z) (λ_ _ z _=>z) _ _ I⟩
def bF(xs:List PV):Option PV:=if xs.length<=1000 then aa (.tup xs)else ae
def fH(xs:List PV):Option PO:=if xs.length<=1000 then aa (.lst xs)else ae
def dL{g:Type}(f:List PV->Option g)(j:ak->R (List PV)):ak->R g:=λε=>(j ε).bind λxs ε1=>aJ (f xs) ε1
def PL(K:ay)(r:List V->Hp->VK->Prop)(f:List PV->Option PV):Prop:=∀(F:af->Prop) (H:Hp) (xs:List PV) (h:List V) (Q:VK) (pv:PV),Reps K H F xs h->f xs=aa pv->(∀w i g,Al F i H g->aU K g i pv w->Q w g)->r h H Q
def jW(K:ay)(r:List V->Hp->VK->Prop)(f:List PV->Option PO):Prop:=∀(F:af->Prop) (H:Hp) (xs:List PV) (i:List V) (Q:VK) (l:PO),(∀a,F a->∃o,H a=aa o)->Reps K H F xs i->f xs=aa l ->
 (∀a h g m,Al F h H g->fI K g h l a m->(∀b,m b->H b=ae/\¬h b/\∃o,g b=aa o/\eJ o)->Q (.ref a) g)->r i H Q
theorem BJ{r:List V->Hp->VK->Prop}{f:List PV->Option PV}(z:PL X.K r f)(A:DA X E es j){F:af->Prop}{S:Nat->af->Prop}{m:ak}{g:St}{H:Hp}{Q:VK}(u:aS X.K F S m g H)(h:Ok X.K E g F S H (dL f j m) (λpv _ p _ l=>∀v,aU X.K l p pv v->Q v l)):pQ X es g H λxs o=>r xs o Q:=by
 refine A F S m g H _ u ((Ok.bind h).imp λxs q G C o x I i s y=>?_);cases e:f xs with
 |none=>rw[e]at i;exact i.elim
 |some pv=>rw[e]at i;exact z G o xs s Q pv y e λw p l al n=>i p C l (x.al al) al.grow w n
theorem oK{O i F l:af->Prop}{H f:Hp}(g:bA O i F l H f){b:af}(h:f b=ae):H b=ae:=by
 cases q:H b with
 |none=>rfl
 |some o=>obtain⟨o',e⟩:=g.there b o q;rw[h]at e;cases e
theorem sD{r:List V->Hp->VK->Prop}{f:List PV->Option PO}(N:jW X.K r f)(O:DA X E es j){F:af->Prop}{S:Nat->af->Prop}{q:ak}{l:St}{H:Hp}{Q:VK}(K:aS X.K F S q l H)(h:Ok X.K E l F S H (dL f j q) (λu _ p Y g=>∀a n,fI X.K g p u a n->(∀b,n b->H b=ae/\¬p b/\¬U Y b/\∃o,g b=aa o/\eJ o)->Q (.ref a) g)):pQ X es l H λxs v=>r xs v Q:=by
 refine O F S q l H _ K ((Ok.bind h).imp λxs A Z W v s P m J M=>?_);cases e:f xs with
 |none=>rw[e]at m;exact m.elim
 |some u=>
  rw[e]at m;refine N Z v xs J Q u s.ex M e λa p g n al L T=>m p W g (s.al al) al.grow a n L λb z=>?_;obtain⟨x,I,o,G,C⟩:=T b z;refine⟨oK P x,I,λ⟨i,w⟩=>?_,o,G,C⟩;obtain⟨_,_,o',y,_⟩:=s.foot i b w;rw[x]at y;cases y
theorem Bb{n:Nat}(h:n<=1000):n<=bn:=i7 (QS h)
theorem NU{K:ay}:PL K (λxs H Q=>xs.length<=bn/\∀p,H p=ae->Q (.ref p) (upd H p (.tup xs))) bF:=λF H xs h Q pv f e q=>by
 unfold bF at e;split at e
 .cases e;refine⟨by rw[f.len];exact Bb (by assumption),λp g=>q _ F _ (Al.new0 g) ⟨p,h,rfl,bV,(Al.new0 g).reps f⟩⟩
 .cases e
theorem ye{K:ay}{F:af->Prop}{H:Hp}{l:af}{xs:List PV}{f:List V}(h:H l=ae)(g:Reps K H F xs f):fI K (upd H l (.lst f)) F (.lst xs) l (λb=>b=l):=⟨⟨f,bV,(Al.new0 h).reps g⟩,λb=>nY⟩
theorem yv{F:af->Prop}{H:Hp}{l:af}{o:HO}(g:H l=ae)(i:∀a,F a->∃o,H a=aa o)(h:eJ o):∀b,b=l->H b=ae/\¬F b/\∃f,(upd H l o) b=aa f/\eJ f:=λb z=>by
 subst z;exact⟨g,(λw=>by obtain⟨o,q⟩:=i b w;rw[g]at q;cases q),o,bV,h⟩
theorem RL{K:ay}:jW K (λxs H Q=>xs.length<=bn/\∀p,H p=ae->Q (.ref p) (upd H p (.lst xs))) fH:=λF H xs i Q l h g e q=>by
 unfold fH at e;split at e
 .cases e;exact⟨by rw[g.len];exact Bb (by assumption),λp f=>q p F _ _ (Al.new0 f) (ye f g) (yv f h trivial)⟩
 .cases e
theorem fX{x1}(h:DA X E es j):DE X E (.Tuple es x1 pos) (dL bF j):=λF S i g H Q f q=>bZ (Mo iq) (BJ NU h f q)
theorem oM(h:DA X E es j):DN X E (.List es pos) (dL fH j):=λF S i g H Q f q=>bZ (R9 iq) (sD RL h f q)
theorem qg(h:DA X E es j):DE X E (.List es pos) (dF (dL fH j)):=(oM h).de
variable{x:Str}{p:Pos}{m T:String}{r:List V->Hp->VK->Prop}{f:List PV->Option PV}{A:List PV->Option PO}
theorem cZ(v:dE X (.builtin m) r)(l:PL X.K r f)(o:X.mg x=ae)(i:eA x=aa (.builtin m))(w:DA X E (e::es) j)(s:Gl X x:=by rfl)(n:x≠"__name__":=by decide)(h:(x==("__debug__":Str))=am:=by decide)(u:aM (e::es) X.env=(am,aX e X.env)::aM es X.env:=by rfl) (y:(cE pos (aM es X.env)).any (·.1)=am:=by rfl):DE X E (.Call (.Name x p) (e::es) [] pos) (dL f j):=λF S C z H Q g q=>bZ (nB v s o i iq n h u y) (BJ l w g q)
theorem AF(v:dE X (.builtin m) r)(l:jW X.K r A)(o:X.mg x=ae)(i:eA x=aa (.builtin m))(w:DA X E (e::es) j)(s:Gl X x:=by rfl)(n:x≠"__name__":=by decide)(h:(x==("__debug__":Str))=am:=by decide)(u:aM (e::es) X.env=(am,aX e X.env)::aM es X.env:=by rfl) (y:(cE pos (aM es X.env)).any (·.1)=am:=by rfl):DN X E (.Call (.Name x p) (e::es) [] pos) (dL A j):=λF S C z H Q g q=>bZ (nB v s o i iq n h u y) (sD l w g q)
theorem CA(v:dE X (.type T) r)(l:PL X.K r f)(o:X.mg x=ae)(i:eA x=aa (.type T))(w:DA X E (e::es) j)(s:Gl X x:=by rfl)(n:x≠"__name__":=by decide)(h:(x==("__debug__":Str))=am:=by decide)(u:aM (e::es) X.env=(am,aX e X.env)::aM es X.env:=by rfl) (y:(cE pos (aM es X.env)).any (·.1)=am:=by rfl):DE X E (.Call (.Name x p) (e::es) [] pos) (dL f j):=λF S C z H Q g q=>bZ (sS v s o i iq n h u y) (BJ l w g q)
theorem Be(v:dE X (.type T) r)(l:jW X.K r A)(o:X.mg x=ae)(i:eA x=aa (.type T))(w:DA X E (e::es) j)(s:Gl X x:=by rfl)(n:x≠"__name__":=by decide)(h:(x==("__debug__":Str))=am:=by decide)(u:aM (e::es) X.env=(am,aX e X.env)::aM es X.env:=by rfl) (y:(cE pos (aM es X.env)).any (·.1)=am:=by rfl):DN X E (.Call (.Name x p) (e::es) [] pos) (dL A j):=λF S C z H Q g q=>bZ (sS v s o i iq n h u y) (sD l w g q)
theorem gw{r:R2}{f:PV->PV->Option PV}(l:m_ X r)(n:P2 X.K r f)(q:DE X E a B)(o:DE X E b db)(i:GV b:=by exact λ_ _=>rfl):DE X E (.Subscript a b pos) (d2 f B db):=λF S u s H Q g h=>bZ (Od l bP bP i) (y6 n q o g h)
def BG(X:Cx)(e:Option aD):TO:=λg H Q=>Bx (∀h s,Inv X h g H s->ar (aw X.prog X.w) X.A (evalPart e X.env) (λu l=>∃o i,Inv X h g i l/\lE u o/\Q o i) X.xe s)
theorem Ey{o:Option aD}:L2.PO X o (BG X o):=λg s _ _ _ I h=>h.run g s I
theorem Iu{o:Option aD}{t:TO}(h:L2.PO X o t){g:St}{H:Hp}{Q:Option Int->Hp->Prop}(q:t g H Q):BG X o g H Q:=⟨λi s I=>h i s g H Q I q⟩
def DO(X:Cx)(E:XK)(e:Option aD)(d:ak->R (Option Int)):Prop:=∀F S ε g H Q,aS X.K F S ε g H->Ok X.K E g F S H (d ε) (λo _ _ _ h=>Q o h)->BG X e g H Q
def jd:ak->R (Option Int):=λε=>.ok ae ε
def HI:PV->Option Int
 |.int i=>aa i
 |_=>ae
def gA(d:ak->R PV):ak->R (Option Int):=λε=>(d ε).bind λx ε1=>aJ ((HI x).map aa) ε1
theorem vd:DO X E ae jd:=λF S l i H Q g h=>Iu N6 (h F S H g (bA.refl ..))
theorem pR(w:DE X E e d):DO X E (aa e) (gA d):=λF S o l H Q s h=>by
 refine Iu (Py bP) (w F S o l H _ s ((Ok.bind h).imp λx n C y z u G g v q=>?_));cases x <;> first|exact(show False from g).elim|skip
 rename_i i;exact⟨i,q,g C y z u (bA.refl ..)⟩
def il{i:Type}(f:PV->Option Int->Option Int->Option i)(d:ak->R PV)(o n:ak->R (Option Int)):ak->R i:=λε=>(d ε).bind λx ε1=>(o ε1).bind λl h=>(n h).bind λu g=>aJ (f x l u) g
def Bn(K:ay)(r:V->Option Int->Option Int->Hp->VK->Prop)(f:PV->Option Int->Option Int->Option PV):Prop:=∀(F:af->Prop) (H:Hp) (x:PV) (h i:Option Int) (v:V) (Q:VK) (pv:PV),aU K H F x v->f x h i=aa pv->(∀w l g,Al F l H g->aU K g l pv w->Q w g)->r v h i H Q
theorem s_{r:V->Option Int->Option Int->Hp->VK->Prop}{f:PV->Option Int->Option Int->Option PV}{C G:Option aD}{J I:ak->R (Option Int)}{P:Pos}(Y:k9 X r)(Z:Bn X.K r f)(he:DE X E e d)(hl:DO X E C J)(W:DO X E G I):DE X E (.Subscript e (.Slice C G ae P) pos) (il f d J I):=λF S L i H Q N h=>by
 refine bZ (OO Y bP Ey Ey) (he F S L i H _ N ((Ok.bind h).imp λx o F1 S1 H1 z g1 h1 v M=>?_));refine hl F1 S1 o i H1 _ z ((Ok.bind h1).imp λl n F2 S2 H2 y g2 h2=>?_);refine W F2 S2 n i H2 _ y ((Ok.bind h2).imp λu K F3 S3 H3 O g3 g=>?_);cases s:f x l u with
 |none=>rw[s]at g;exact g.elim
 |some pv=>rw[s]at g;exact Z F3 H3 x l u v Q pv ((M.grow g2 z.fit).grow g3 y.fit) s λw F' H' al q=>g F' S3 H' (O.al al) al.grow w q
end
inductive aH where
 |next|ret (s:Slot)|brk|cont
def oW(K:ay)(H:Hp)(F:af->Prop)(s:Slot)(v:V)(c:af->Prop):Prop:=match s with
 |.val pv=>aU K H F pv v/\∀b,¬c b
 |.own d=>∃a,v=.ref a/\fI K H F d a c
 |.none=>False
def jb(b:List Nat)(c a:St):Prop:=∀i∈b,a[i]?=c[i]?
theorem jb.refl(a:List Nat)(b:St):jb a b b:=λ_ _=>rfl
theorem jb.trans{c:List Nat}{g f d:St}(a:jb c g f)(b:jb c f d):jb c g d:=λi h=>(b i h).trans (a i h)
theorem jb.set{a:List Nat}{b:St}{i:Nat}{x:Option V}(h:i∉a):jb a b (b.set i x):=λj c=>by rw[eD (by rintro rfl;exact h c)]
def y8(f:af->Prop)(c:Nat->af->Prop)(d:Hp)(a:af->Prop):Prop:=∀b,a b->¬f b/\¬U c b/\∃o,d b=aa o/\eJ o
def gE(K:ay)(E:XK)(i:List Nat)(j:St)(F:af->Prop)(S:Nat->af->Prop)(H:Hp)(r:R aH)(D:kE):Prop:=match r with
 |.ok .next f=>∀g h a d,aS K g h f a d->bA (U S) (U h) F g H d->jb i j a->D.nx a d
 |.ok .brk f=>∀g h a d,aS K g h f a d->bA (U S) (U h) F g H d->jb i j a->D.bk a d
 |.ok .cont f=>∀g h a d,aS K g h f a d->bA (U S) (U h) F g H d->jb i j a->D.ct a d
 |.ok (.ret s) f=>∀v g h a d l,aS K g h f a d->bA (U S) (λb=>U h b\/l b) F g H d->jb i j a->oW K d g s v l->y8 g h d l->D.rt v d
 |.er c f=>∀x g h a d,aS K g h f a d->bA (U S) (U h) F g H d->jb i j a->E c x d
 |.no=>False
def DS(X:Cx)(E:XK)(b:List Nat)(f:bg)(d:ak->R aH):Prop:=∀F S c a H D,aS X.K F S c a H->gE X.K E b a F S H (d c) D->wpS X f D a H
def gv(X:Cx)(E:XK)(b:List Nat)(f:List bg)(d:ak->R aH):Prop:=∀F S c a H D,aS X.K F S c a H->gE X.K E b a F S H (d c) D->oP X f D a H
section
variable{K:ay}{E:XK}{b:List Nat}{d i:St}{F m:af->Prop}{S j:Nat->af->Prop}{H l:Hp}{D:kE}
theorem gE.from{r:R aH}(h:gE K E b d F S H r D)(g:bA (U S) (U j) F m H l)(p:jb b d i):gE K E b i m j l r D:=by
 cases r with
 |no=>exact h
 |er c y=>exact λx w q a u n g' o=>h x w q a u n (g.trans g') (p.trans o)
 |ok f y=>
  cases f with
  |next=>exact λw q a u n g' o=>h w q a u n (g.trans g') (p.trans o)
  |brk=>exact λw q a u n g' o=>h w q a u n (g.trans g') (p.trans o)
  |cont=>exact λw q a u n g' o=>h w q a u n (g.trans g') (p.trans o)
  |ret s=>exact λv w q a u z n g' o=>h v w q a u z n (g.trans g') (p.trans o)
theorem gE.bindE{o:Type}{r:R o}{k:o->ak->R aH}(h:gE K E b d F S H (r.bind k) D):Ok K E d F S H r (λa f m j l=>gE K E b d m j l (k a f) D):=by
 cases r with
 |no=>exact h
 |er c g=>exact λx u q s p n=>h x u q d s p n (jb.refl _ _)
 |ok a g=>exact λu q s p n=>h.from n (jb.refl _ _)
end
section
variable{X:Cx}{E:XK}{pin:List Nat}{l:bg}{rest:List bg}{d d1 d2:ak->R aH}{e:aD}{de:ak->R PV}{pos:Pos}
def eU:ak->R aH:=λa=>.ok .next a
theorem jV:gv X E pin [] eU:=λF S c a H D b h=>BY L7 (h F S a H b (bA.refl ..) (jb.refl _ _))
def aI(d1 d2:ak->R aH):ak->R aH:=λε=>match d1 ε with
 |.ok .next ε1=>d2 ε1
 |r=>r
theorem bq(u:DS X E pin l d1)(q:gv X E pin rest d2):gv X E pin (l::rest) (aI d1 d2):=λF S i m H D n h=>by
 refine BY (KP FD ql) (u F S i m H {D with nx:=oP X rest D} n ?_);unfold aI at h;split at h
 .rename_i g w;rw[w];exact λz x b y o v p=>q z x g b y D o (h.from v p)
 .rename_i r j;generalize d1 i=r1 at h j;cases r1 with
  |no=>exact h
  |er c a=>exact h
  |ok f a=>
   cases f with
   |next=>exact absurd rfl (j a)
   |brk=>exact h
   |cont=>exact h
   |ret s=>exact h
theorem bE(f:DS X E pin l d1):gv X E pin [l] d1:=λF S b a H D c h=>BY (LY FD) (f F S b a H D c h)
def Cr(f:aH):ak->R aH:=λa=>.ok f a
def RW(d:ak->R PV):ak->R aH:=λb=>(d b).bind λ_ a=>.ok .next a
def dj(d:ak->R PV):ak->R aH:=λε=>(d ε).bind λx ε1=>.ok (.ret (.val x)) ε1
theorem bA.cup{O c F i:af->Prop}{H f:Hp}(g:bA O c F i H f):bA O (λb=>c b\/False) F i H f:=⟨g.fro,g.keep,g.there,g.fnew,λa h=>h.elim (g.onew a) ix⟩
theorem fi(j:DE X E e de):DS X E pin (.Return (aa e) pos) (dj de):=λF S c a H D g h=>gC (xX bP) (j F S c a H _ g (h.bindE.imp λx b p n o i q m v f=>m v p n a o (λ_=>False) i (bA.refl ..).cup (jb.refl _ _) ⟨f,λ_ z=>z⟩ λ_ z=>z.elim))
theorem Sd:DS X E pin (.Return ae pos) (Cr (.ret (.val .non))):=λF S c a H D b h=>gC SS (h _ F S a H (λ_=>False) b (bA.refl ..).cup (jb.refl _ _) ⟨rfl,λ_ z=>z⟩ λ_ z=>z.elim)
def oC(d:ak->R PO):ak->R aH:=λε=>(d ε).bind λx ε1=>.ok (.ret (.own x)) ε1
theorem Gh{dn:ak->R PO}(u:DN X E e dn):DS X E pin (.Return (aa e) pos) (oC dn):=λF S j g H D p h=>by
 refine gC (xX bP) (u F S j g H _ p ?_);unfold oC at h;cases i:dn j with
 |no=>rw[i]at h;exact h.elim
 |er c o=>rw[i]at h;exact λx J B G r v=>h x J B g G r v (jb.refl _ _)
 |ok K n=>rw[i]at h;intro I A C q f a y s m;exact h _ I A g C y q ⟨f.fro,f.keep,f.there,f.fnew,λb z=>z.elim (f.onew b) λw=>.inr (m b w).1⟩ (jb.refl _ _) ⟨a,rfl,s⟩ λb z=>let ⟨_,x2,x3,x4⟩:=m b z;⟨x2,x3,x4⟩
def sP(i:Nat):ak->R aH:=λa=>match a[i]? with
 |some (.own b)=>.ok (.ret (.own b)) (a.set i .none)
 |_=>.no
theorem aS.drop{K:ay}{F:af->Prop}{S:Nat->af->Prop}{ε:ak}{n:St}{H:Hp}(r:aS K F S ε n H)(i:Nat):aS K F (λj b=>S j b/\j≠i) (ε.set i .none) n H:=by
 have no:∀{j s},(ε.set i .none)[j]?=aa s->s≠.none->j≠i/\ε[j]?=aa s:=λ{j s} e q=>by
  by_cases c:i=j
  .subst c;by_cases u:i<ε.length
   .rw[gi u]at e;exact absurd (c8 e).symm q
   .rw[mP (by rw[gL];lia)]at e;cases e
  .rw[eD c]at e;exact⟨eO c,e⟩
 refine⟨by rw[gL];exact r.len,r.ex,λj pv e=>r.val j pv (no e (by intro z;cases z)).2,λj f e=>?_,λj b h=>?_,λj k b m g=>r.dist j k b m.1 g.1⟩
 .obtain⟨c,e⟩:=no e (by intro z;cases z);obtain⟨a,m,g⟩:=r.own j f e;have v:(λb=>S j b/\j≠i)=S j:=by funext b;simp[c]
  exact⟨a,m,by rw[v];exact g⟩
 .obtain⟨⟨f,p⟩,o⟩:=r.foot j b h.1;exact⟨⟨f,by rw[eD (eO h.2)];exact p⟩,o⟩
theorem G3(i:Nat){x:Str}{p:Pos}(s:X.N[i]?=aa x:=by rfl)(n:eR X.env.scope x:=by first|exact Or.inl rfl|exact Or.inr (Or.inl rfl)|exact Or.inr (Or.inr rfl))(r:(x==("__debug__":Str))=am:=by decide)(v:(x==("__classdict__":Str))=am:=by decide):DS X E pin (.Return (aa (.Name x p)) pos) (sP i):=λF S y f H D c h=>by
 unfold sP at h;split at h
 .rename_i g e;obtain⟨a,u,m⟩:=c.own i g e;refine gC (xX (fJ s n r v)) ⟨_,u,h _ F (λj b=>S j b/\j≠i) f H (S i) (c.drop i) ⟨λ_ z=>z,λ_ _ z _=>z,λ_ o z=>⟨o,z⟩,λ_ z=>.inl z,λb z=>?_⟩ (jb.refl _ _) ⟨a,rfl,m⟩ λb z=>?_⟩
  .rcases z with⟨j,z,_⟩|z
   .exact .inl ⟨j,z⟩
   .exact .inl ⟨i,z⟩
  .exact⟨(c.foot i b z).2.1,λ⟨j,w,q⟩=>q (c.dist j i b w z),(c.foot i b z).2.2⟩
 .exact h.elim
theorem aS.set{K:ay}{F:af->Prop}{S:Nat->af->Prop}{f:ak}{m:St}{H:Hp}{i:Nat}{pv:PV}{v:V}(r:aS K F S f m H)(h:aU K H F pv v):aS K F (λj b=>S j b/\j≠i) (f.set i (.val pv)) (m.set i (aa v)) H:=by
 have s:=r.drop i;have len:(f.set i (.val pv)).length=(m.set i (aa v)).length:=by rw[gL,gL];exact r.len
 refine⟨len,r.ex,λj p e=>?_,λj n e=>?_,λj b h=>?_,s.dist⟩
 .by_cases c:i=j
  .subst c;have g:i<f.length:=by have:=(c9.mp e).1;rw[gL]at this;exact this
   rw[gi g]at e;cases e;exact⟨v,gi (by rw[<-r.len];exact g),h⟩
  .rw[eD c]at e;obtain⟨w,q,o⟩:=r.val j p e;exact⟨w,by rw[eD c];exact q,o⟩
 .have c:i≠j:=by
   rintro rfl;have g:i<f.length:=by have:=(c9.mp e).1;rw[gL]at this;exact this
   rw[gi g]at e;cases e
  rw[eD c]at e;obtain⟨a,q,o⟩:=r.own j n e;have y:(λb=>S j b/\j≠i)=S j:=by funext b;simp[eO c]
  exact⟨a,by rw[eD c];exact q,by rw[y];exact o⟩
 .obtain⟨⟨n,u⟩,x⟩:=s.foot j b h;refine⟨⟨n,?_⟩,x⟩;rw[eD (eO h.2)]at u ⊢;exact u
theorem bA.less{S:Nat->af->Prop}{F:af->Prop}{H:Hp}(i:Nat):bA (U S) (U λj b=>S j b/\j≠i) F F H H:=⟨λ_ z=>z,λ_ _ z _=>z,λ_ o z=>⟨o,z⟩,λ_ z=>.inl z,λb ⟨j,z⟩=>.inl ⟨j,z.1⟩⟩
theorem aS.setOwn{K:ay}{F:af->Prop}{S:Nat->af->Prop}{q:ak}{x:St}{H:Hp}{i:Nat}{s:PO}{a:af}{n:af->Prop}(r:aS K F S q x H)(o:i<q.length)(h:fI K H F s a n)(u:y8 F S H n):aS K F (λj b=>(S j b/\j≠i)\/(j=i/\n b)) (q.set i (.own s)) (x.set i (aa (.ref a))) H:=by
 have B:=r.drop i;refine⟨by rw[gL,gL];exact r.len,r.ex,λj p e=>?_,λj g e=>?_,λj b h=>?_,λj k b f c=>?_⟩
 .have m:i≠j:=by rintro rfl;rw[gi o]at e;cases e
  rw[eD m]at e;obtain⟨w,f,c⟩:=r.val j p e;exact⟨w,by rw[eD m];exact f,c⟩
 .by_cases m:i=j
  .subst m;rw[gi o]at e;cases e;have v:(λb=>(S i b/\i≠i)\/(i=i/\n b))=n:=by funext b;simp
   exact⟨a,gi (by rw[<-r.len];exact o),by rw[v];exact h⟩
  .rw[eD m]at e;obtain⟨D,f,c⟩:=r.own j g e;have v:(λb=>(S j b/\j≠i)\/(j=i/\n b))=S j:=by funext b;simp[eO m]
   exact⟨D,by rw[eD m];exact f,by rw[v];exact c⟩
 .rcases h with h|⟨rfl,h⟩
  .obtain⟨⟨g,y⟩,C⟩:=B.foot j b h;refine⟨⟨g,?_⟩,C⟩;rw[eD (eO h.2)]at y ⊢;exact y
  .obtain⟨A,G,z⟩:=u b h;exact⟨⟨s,gi o⟩,A,z⟩
 .rcases f with f|⟨rfl,f⟩ <;> rcases c with c|⟨rfl,c⟩
  .exact r.dist j k b f.1 c.1
  .exact absurd ⟨j,f.1⟩ (u b c).2.1
  .exact absurd ⟨k,c.1⟩ (u b f).2.1
  .rfl
def b8(i:Nat)(d:ak->R PV):ak->R aH:=λε=>(d ε).bind λx ε1=>.ok .next (ε1.set i (.val x))
theorem ff(i:Nat){x:Str}{p:Pos}(u:X.N.Nodup)(s:DE X E e de)(o:i∉pin:=by decide)(q:X.N[i]?=aa x:=by rfl)(m:Loc X.env.scope x:=by first|exact Or.inl rfl|exact Or.inr rfl)(n:jG e (aa (.Name x p)) pos.line X.env=pure am:=by rfl)(r:X.fn x=ag\/X.env.scope.names.lookup x=aa .local:=by first|exact .inl rfl|exact .inr rfl):DS X E pin (.Assign [.Name x p] e pos) (b8 i de):=λF S c a H D g h=>gC (Ip u q m bP n r) (s F S c a H _ g (h.bindE.imp λx b z B y j A w v f=>w z _ _ y (j.set f) (bA.less i) (jb.set o)))
def fu(i:Nat)(d:ak->R PO):ak->R aH:=λε=>(d ε).bind λx ε1=>if i<ε1.length then .ok .next (ε1.set i (.own x))else .no
theorem ln(i:Nat){x:Str}{p:Pos}{dn:ak->R PO}(K:X.N.Nodup)(J:DN X E e dn)(C:i∉pin:=by decide)(G:X.N[i]?=aa x:=by rfl)(A:Loc X.env.scope x:=by first|exact Or.inl rfl|exact Or.inr rfl)(B:jG e (aa (.Name x p)) pos.line X.env=pure am:=by rfl)(I:X.fn x=ag\/X.env.scope.names.lookup x=aa .local:=by first|exact .inl rfl|exact .inr rfl):DS X E pin (.Assign [.Name x p] e pos) (fu i dn):=λF S q o H D u h=>by
 refine gC (Ip K G A bP B I) (J F S q o H _ u ?_);unfold fu at h;cases n:dn q with
 |no=>rw[n]at h;exact h.elim
 |er c s=>rw[n]at h;exact λx Q M O w L=>h x Q M o O w L (jb.refl _ _)
 |ok T g=>
  rw[n]at h;simp only[R.bind_ok]at h;intro P Y N v f a W y r;by_cases m:i<g.length
  .rw[if_pos m]at h;refine h P _ _ N (v.setOwn m y λb z=>(r b z).2) ⟨f.fro,f.keep,f.there,f.fnew,λb ⟨j,z⟩=>?_⟩ (jb.set C);rcases z with z|⟨_,z⟩
   .exact f.onew b ⟨j,z.1⟩
   .exact .inr (r b z).1
  .rw[if_neg m]at h;exact h.elim
theorem j5{c:aD}{a b:List bg}{t:ak->R Bool}(r:DT X E c t)(u:gv X E pin a d1)(s:gv X E pin b d2):DS X E pin (.If c a b pos) (dq t d1 d2):=λF S p g H D q h=>by
 refine gC (Sm nt ql ql) (r F S p g H _ q (h.bindE.imp λk f o m n i v j=>?_));cases k with
 |true=>exact oV (u o m f g n D i j)
 |false=>exact oN (s o m f g n D i j)
def Gb:ak->R aH:=λ_=>.no
theorem Sg{a:List bg}:gv X E pin a Gb:=λ_ _ _ _ _ _ _ h=>h.elim
def dA(r:R aH):R aH:=match r with
 |.er _ _=>.no
 |r=>r
theorem mh(h:DS X.nox E0 pin l d):DS X E pin l (λa=>dA (d a)):=λF S a b H D i q=>Bx.mk λm s I=>by
 have q:gE X.K E pin b F S H (dA (d a)) D:=q;have j:gE X.K E0 pin b F S H (d a) D:=by
  cases e:d a with
  |no=>rw[e]at q;exact q
  |er c g=>rw[e]at q;exact q.elim
  |ok f g=>rw[e]at q;cases f <;> exact q
 exact eW ((h F S a b H D i j).run m s (I.wish _)) (λ_ _ z=>z.unwish) λ_ _ z=>z.elim
def tq(X:Cx)(f a:aD):TI:=λb H h=>Bx (∀c s,Inv X c b H s->ar (aw X.prog X.w) X.A (aX a X.env) (λv g=>ar (aw X.prog X.w) X.A (nI v) (xN X c b f h) X.xe g) X.xe s)
theorem zl{b a:aD}:PI X b a (tq X b a):=λc s _ _ _ I h=>h.run c s I
theorem Nn{f a:aD}{t:TI}(h:PI X f a t){b:St}{H:Hp}{c:It->Hp->Prop}(q:t b H c):tq X f a b H c:=⟨λg s I=>h g s b H c I q⟩
def DI(X:Cx)(E:XK)(p a:aD)(d:ak->R (List PV)):Prop:=∀F S ε c H m,aS X.K F S ε c H ->
 Ok X.K E c F S H (d ε) (λg _ o q i=>∀J f n,Reps X.K i o g f->f.length<=bn->Walk J f n->(∀h j b,bA (U q) (U h) o j i b->n b)->m J i)->tq X p a c H m
def dw(i:Nat)(db:ak->R aH):List PV->ak->R aH
 |[],ε=>.ok .next ε
 |x::xs,ε=>match db (ε.set i (.val x))with
  |.ok .next a=>dw i db xs a
  |.ok .cont a=>dw i db xs a
  |.ok .brk a=>.ok .next a
  |r=>r
def dS(i:Nat)(a:ak->R (List PV))(db:ak->R aH):ak->R aH:=λε=>(a ε).bind λxs ε1=>dw i db xs ε1
theorem k8(i:Nat){x:Str}{p:Pos}{o:aD}{r:List bg}{Z:ak->R (List PV)}{C:ak->R aH}(wT:zt (aw X.prog X.w) X.A X.env X.xe)(hc:X.calm=ag)(hN:X.N.Nodup)(hi:DI X E (.Name x p) o Z)(hb:gv X E pin r C)(hp:i∉pin:=by decide) (A:X.N[i]?=aa x:=by rfl) (O:Loc X.env.scope x:=by first|exact Or.inl rfl|exact Or.inr rfl) (hs:∀x,o8 o X.env x=pure x:=by intro _;rfl)(hf:X.fn x=ag\/X.env.scope.names.lookup x=aa .local:=by first|exact .inl rfl|exact .inr rfl):DS X E pin (.For (.Name x p) o r [] pos) (dS i Z C):=λF S ε σ H D rl h=>by
 refine gC (GA wT hc zl (tD hN A O hf) ql hs) (hi F S ε σ H _ rl (h.bindE.imp λxs I F1 S1 H1 Y g1 h1 J vs RR W hz hw keep=>?_));refine Ho hw (λk a n=>∃u w m,aS X.K u w m a n/\bA (U S1) (U w) F1 u H1 n/\gE X.K E pin a u w n (dw i C (xs.drop k) m) D) ⟨F1,S1,I,Y,bA.refl ..,h1⟩ (λk a n _ ⟨u,w,m,_,g,_⟩=>keep w u n g) ?_ ?_
 .rintro k v a n hv ⟨u,w,m,M,B,q⟩;obtain⟨x,A,rx⟩:=W.back hv;have hk:k<xs.length:=(c9.mp A).1;have ed:xs.drop k=x::xs.drop (k+1):=by rw[wc hk];congr 1;exact(c9.mp A).2
  rw[ed]at q;have K:=rx.grow B Y.fit;have r2:=M.set (i:=i) K;have P:bA (U w) (U λj b=>w j b/\j≠i) u u n n:=bA.less i;show oP X r _ (a.set i (aa v)) n;refine hb u _ _ _ n _ r2 ?_;unfold dw at q;have q:=q.from P (jb.set (x:=aa v) hp);cases e:C (m.set i (.val x))with
  |no=>rw[e]at q;exact q
  |er c y=>rw[e]at q;exact q
  |ok f y=>
   rw[e]at q;cases f with
   |next=>exact λT Q G H3 L z N=>⟨T,Q,y,L,(B.trans P).trans z,q.from z N⟩
   |cont=>exact λT Q G H3 L z N=>⟨T,Q,y,L,(B.trans P).trans z,q.from z N⟩
   |brk=>exact q
   |ret s=>exact q
 .rintro a n ⟨u,w,m,M,B,q⟩;have O:vs.length=xs.length:=W.len;rw[O,Jy]at q;exact q u w a n M (bA.refl ..) (jb.refl _ _)
def iK(t:ak->R Bool)(b:ak->R aH):Nat->ak->R aH
 |0,_=>.no
 |n+1,ε=>(t ε).bind λk ε1=>match k with
  |false=>.ok .next ε1
  |true=>match b ε1 with
   |.ok .next a=>iK t b n a
   |.ok .cont a=>iK t b n a
   |.ok .brk a=>.ok .next a
   |r=>r
theorem OE{c:aD}{n:List bg}{t:ak->R Bool}{j:ak->R aH}(O:ak->Nat)(P:zt (aw X.prog X.w) X.A X.env X.xe)(W:DT X E c t)(Y:gv X E pin n j):DS X E pin (.While c n [] pos) (λv=>iK t j (O v) v):=λF S v σ H D Q h=>by
 refine gC (RO P nt ql) ⟨λm b u=>∃y x a,aS X.K y x a b u/\gE X.K E pin b y x u (iK t j m a) D,⟨O v,F,S,v,Q,h⟩,?_⟩;rintro m i H1 ⟨F1,Z,A,T,q⟩;cases m with
 |zero=>exact q.elim
 |succ m=>
  refine W F1 Z A i H1 _ T (q.bindE.imp λk p M J K N g2 g=>?_);cases k with
  |false=>exact oN (g M J i K N (bA.refl ..) (jb.refl _ _))
  |true=>
   refine oV ⟨λb u=>∃y x a,aS X.K y x a b u/\gE X.K E pin b y x u (iK t j m a) D,λb u w=>⟨m,ju m,w⟩,Y M J p i K _ N ?_⟩;have g:gE X.K E pin i M J K (match j p with
    |.ok .next a=>iK t j m a
    |.ok .cont a=>iK t j m a
    |.ok .brk a=>.ok .next a
    |r=>r) D:=g
   cases e:j p with
   |no=>rw[e]at g;exact g
   |er c o=>rw[e]at g;exact g
   |ok f o=>
    rw[e]at g;cases f with
    |next=>exact λL I z H3 B G C=>⟨L,I,o,B,g.from G C⟩
    |cont=>exact λL I z H3 B G C=>⟨L,I,o,B,g.from G C⟩
    |brk=>exact g
    |ret s=>exact g
end
def yY(K:ay)(E:XK)(i:List V)(F:af->Prop)(S:Nat->af->Prop)(H:Hp)(r:R Slot)(Q:VK):Prop:=match r with
 |.ok s h=>∀v d f a g,aS K d f h (i.map aa) a->bA (U S) (λb=>U f b\/g b) F d H a->oW K a d s v g->y8 d f a g->(∀b,g b->H b=ae)->Q v a
 |.er c h=>∀x d f a,aS K d f h (i.map aa) a->bA (U S) (U f) F d H a->E c x a
 |.no=>False
def cg(K:ay)(g:ak->R Slot):Sp:=λa H Q E=>∃F S b,aS K F S b (a.map aa) H/\yY K E a F S H (g b) Q
structure dZ(CX:gS)(P:aO)(w:aG)(K:ay)(mg:Str->Option ai)(base:az)(x:Str)(k:Nat)(ps:List Str)(sp:Sp):Prop where
 ex:∃f fd,mg x=aa (.ref f)/\k6 P w K mg base CX k f fd ps sp/\Binds K fd ps []/\qC K (.ref f)=ag
def back:ak->ak->Option ak
 |[],_=>aa []
 |.own _::a,.own c::b=>(back a b).map (.own c::·)
 |.own _::_,_=>ae
 |s::a,_::b=>(back a b).map (s::·)
 |_::_,[]=>ae
theorem yu:∀{a c b:ak},back a c=aa b->b.length=a.length/\∀(i:Nat) (s:Slot),b[i]?=aa s->(∃g f,a[i]?=aa (.own g)/\c[i]?=aa (.own f)/\s=.own f)\/(a[i]?=aa s/\∀g,s≠.own g)
 |[],_,b,h=>by cases h;exact⟨rfl,λi s e=>by simp at e⟩
 |.own g::a,.own f::c,b,h=>by
  unfold back at h;cases e:back a c with
  |none=>rw[e]at h;cases h
  |some r=>
   rw[e]at h;cases h;obtain⟨l,q⟩:=yu e;refine⟨by simp[l],λi s d=>?_⟩;cases i with
   |zero=>simp at d;subst d;exact .inl ⟨g,f,rfl,rfl,rfl⟩
   |succ i=>simpa using q i s (by simpa using d)
 |.own g::a,.none::c,b,h=>by cases h
 |.own g::a,.val _::c,b,h=>by cases h
 |.own g::a,[],b,h=>by cases h
 |.none::a,[],b,h=>by cases h
 |.val _::a,[],b,h=>by cases h
 |.none::a,x::c,b,h=>by
  have h:(back a c).map (Slot.none::·)=aa b:=by unfold back at h;cases x <;> exact h
  cases e:back a c with
  |none=>rw[e]at h;cases h
  |some r=>
   rw[e]at h;cases h;obtain⟨l,q⟩:=yu e;refine⟨by simp[l],λi s d=>?_⟩;cases i with
   |zero=>simp at d;subst d;exact .inr ⟨rfl,λ_ z=>by cases z⟩
   |succ i=>simpa using q i s (by simpa using d)
 |.val pv::a,x::c,b,h=>by
  have h:(back a c).map (Slot.val pv::·)=aa b:=by unfold back at h;cases x <;> exact h
  cases e:back a c with
  |none=>rw[e]at h;cases h
  |some r=>
   rw[e]at h;cases h;obtain⟨l,q⟩:=yu e;refine⟨by simp[l],λi s d=>?_⟩;cases i with
   |zero=>simp at d;subst d;exact .inr ⟨rfl,λ_ z=>by cases z⟩
   |succ i=>simpa using q i s (by simpa using d)
def b_(n:Nat)(d:ak->R aH):ak->R Slot:=λf=>match d (f++bK n .none)with
 |.ok (.ret r) a=>(aJ (back f a) []).bind λb _=>.ok r b
 |.ok .next a=>(aJ (back f a) []).bind λb _=>.ok (.val .non) b
 |.er c a=>(aJ (back f a) []).bind λb _=>.er c b
 |_=>.no
section
variable{K:ay}{F x:af->Prop}{S o:Nat->af->Prop}{c l m:ak}{f:St}{H u:Hp}{d:List V}
theorem aS.start(r:aS K F S c (d.map aa) H)(n:Nat):aS K F S (c++bK n .none) (d.map aa++bK n ae) H:=by
 have y:c.length=(d.map aa).length:=r.len;have no:∀{j:Nat}{s:Slot},(c++bK n Slot.none)[j]?=aa s->s≠.none->c[j]?=aa s:=λ{j s} e w=>by
  by_cases A:j<c.length
  .rw[iP A]at e;exact e
  .rw[o9 ∅,List.getElem?_replicate]at e;split at e
   .exact absurd (c8 e).symm w
   .cases e
 have up:∀{j:Nat}{v:Option V},(d.map aa)[j]?=aa v->(d.map aa++bK n ae)[j]?=aa v:=λ{j v} e=>by rw[iP (c9.mp e).1];exact e
 refine⟨by simp[y],r.ex,λj pv e=>?_,λj a e=>?_,λj b h=>?_,r.dist⟩
 .obtain⟨v,i,g⟩:=r.val j pv (no e (by intro z;cases z));exact⟨v,up i,g⟩
 .obtain⟨v,i,g⟩:=r.own j a (no e (by intro z;cases z));exact⟨v,up i,g⟩
 .obtain⟨⟨a,q⟩,p⟩:=r.foot j b h;exact⟨⟨a,by rw[iP (c9.mp q).1];exact q⟩,p⟩
theorem FF{i:PO}{a:af}{n:af->Prop}(h:fI K H F i a n)(j:iX i=ag):∀b,n b↔b=a:=by
 cases i with
 |lst xs=>exact h.2
 |dK g=>exact h.2
 |lls p=>cases j
 |ins C fs=>exact h.2
 |dT g=>exact h.2
 |dN g=>exact h.2
 |inl C fs y xs=>cases j
theorem N9{g:PO}{a:af}{i:af->Prop}(h:fI K H F g a i):i a:=by
 cases g with
 |lst xs=>exact(h.2 a).mpr rfl
 |dK b=>exact(h.2 a).mpr rfl
 |lls j=>obtain⟨n,_,_,_,_,w⟩:=h;exact(w a).mpr (.inl rfl)
 |ins C fs=>exact(h.2 a).mpr rfl
 |dT b=>exact(h.2 a).mpr rfl
 |dN b=>exact(h.2 a).mpr rfl
 |inl C fs y xs=>obtain⟨_,_,_,_,_,_,_,_,_,_,w⟩:=h;exact(w a).mpr (.inl rfl)
theorem aS.back{Y:af->Prop}{D:List Nat}{n:Nat}(C:aS K F S c (d.map aa) H)(r:aS K x o l f u)(g:bA (U S) Y F x H u)(p:jb D (d.map aa++bK n ae) f)(P:∀(i:Nat) (s:PO),c[i]?=aa (.own s)->i∈D)(T:back c l=aa m):∃B,aS K x B m (d.map aa) u/\(∀b,U B b->U o b)/\((∀(i:Nat) (s:PO),c[i]?=aa (.own s)->iX s=ag)->∀b,U S b->U B b):=by
 obtain⟨M,G⟩:=yu T;have inj:∀(i:Nat) (s:PO),c[i]?=aa (.own s)->∃a,(d.map aa)[i]?=aa (aa (.ref a))/\f[i]?=aa (aa (.ref a))/\fI K H F s a (S i):=λi s e=>by obtain⟨a,y,A⟩:=C.own i s e;refine⟨a,y,?_,A⟩;rw[p i (P i s e),iP (c9.mp y).1];exact y
 have bk:∀(i:Nat) (s:PO),c[i]?=aa (.own s)->∃w,m[i]?=aa (.own w)/\l[i]?=aa (.own w):=λi s e=>by
  have N:i<m.length:=by rw[M];exact(c9.mp e).1
  rcases G i m[i] (by simp[N])with⟨p1,p2,q1,q2,q3⟩|⟨q1,q2⟩
  .exact⟨p2,by rw[eF N,q3],q2⟩
  .rw[e]at q1;exact absurd (c8 q1).symm (q2 s)
 refine⟨λi b=>o i b/\∃s,c[i]?=aa (.own s),⟨by rw[M];exact C.len,r.ex,λi pv e=>?_,λi s e=>?_,λi b h=>?_,λi j b y A=>r.dist i j b y.1 A.1⟩,λb ⟨i,h⟩=>⟨i,h.1⟩,λQ b ⟨i,h⟩=>?_⟩
 .rcases G i _ e with⟨_,_,_,_,z⟩|⟨q1,_⟩
  .cases z
  .obtain⟨v,y,A⟩:=C.val i pv q1;exact⟨v,y,A.grow g C.fit⟩
 .rcases G i _ e with⟨p1,p2,q1,q2,q3⟩|⟨_,q2⟩
  .cases q3;obtain⟨a,y,A,O⟩:=inj i p1 q1;obtain⟨X,E,I⟩:=r.own i s q2;rw[A]at E;cases E;refine⟨a,y,?_⟩;have W:(λb=>o i b/\∃s,c[i]?=aa (.own s))=o i:=by funext b;exact propext ⟨λz=>z.1,λz=>⟨z,p1,q1⟩⟩
   rw[W];exact I
  .exact absurd rfl (q2 s)
 .obtain⟨s,q⟩:=h.2;obtain⟨w,L,J⟩:=bk i s q;exact⟨⟨w,L⟩,(r.foot i b h.1).2⟩
 .obtain⟨⟨s,q⟩,_⟩:=C.foot i b h;obtain⟨a,y,A,O⟩:=inj i s q;obtain⟨w,L,J⟩:=bk i s q;obtain⟨X,E,I⟩:=r.own i w J;rw[A]at E;cases E;have e:b=a:=(FF O (Q i s q) b).mp h;exact⟨i,e ▸ N9 I,s,q⟩
end
theorem yT{K:ay}{E:XK}{a:List V}{F:af->Prop}{S:Nat->af->Prop}{H:Hp}{r:R Slot}{Q:VK}(h:yY K E a F S H r Q):r≠.no:=λz=>by rw[z]at h;exact h
theorem EL{K:ay}{g:ak->R Slot}{m:Nat}(f:∀a,g a≠.no->a.length=m):∀b H Q E,cg K g b H Q E->b.length=m:=λb H Q E ζ=>by obtain⟨F,S,a,c,ok⟩:=ζ;have:=f a (yT ok);have d:=c.len;rw[bX]at d;lia
theorem Iw{X:Cx}{E:XK}{u:List bg}{N P:List Str}{s:List V}{H:Hp}{Q:VK}{n:Nat}{g:ak->R Slot}{d:ak->R aH}{A:List Nat}(hn:N.length=P.length+n)(bt:∀a,g a≠.no->a.length=P.length) (Z:∀a,g a≠.no->∀(i:Nat) po,a[i]?=aa (.own po)->i∈A) (jN:∀a p m,g a=.ok p m->(∃pv,p=.val pv)\/∀(i:Nat) po,a[i]?=aa (.own po)->iX po=ag) (hg:∀a,g a≠.no->b_ n d a=g a)(hb:gv X E A u d) (iA:cg X.K g s H Q E):oP X u {nx:=λ_ l=>Q .non l,rt:=Q} (L2.start N s) H:=by
 obtain⟨F,S,a,K,ok⟩:=iA;have hl:=bt a (yT ok);have h2:=K.len;rw[bX]at h2;have es:L2.start N s=s.map aa++bK n ae:=by unfold L2.start;rw[show N.length-s.length=n by lia]
 rw[es];refine hb F S _ _ H _ (K.start n) ?_;have W:=Z a (yT ok);have Y:=hg a (yT ok);have M:=jN a;rw[<-Y]at ok M;unfold b_ at ok M;generalize d (a++bK n .none)=r at ok M ⊢;cases r with
 |no=>exact ok
 |er c h=>
  intro x q C j l D f G;have ok:yY X.K E s F S H ((aJ (back a h) []).bind λm _=>.er c m) Q:=ok;cases e:back a h with
  |none=>rw[e]at ok;exact ok.elim
  |some m=>rw[e]at ok;obtain⟨B,y,o,_⟩:=K.back D f G W e;exact ok x q B l y ⟨f.fro,f.keep,f.there,f.fnew,λb z=>f.onew b (o b z)⟩
 |ok fl h=>
  have I:∀(p:Slot),(∀m,back a h=aa m->(∃pv,p=.val pv)\/∀(i:Nat) po,a[i]?=aa (.own po)->iX po=ag)->yY X.K E s F S H ((aJ (back a h) []).bind λm _=>.ok p m) Q->∀(v:V) q C j l J,aS X.K q C h j l->bA (U S) (λb=>U C b\/J b) F q H l->jb A (s.map aa++bK n ae) j->oW X.K l q p v J->y8 q C l J->Q v l:=by
   intro p O ok v q C j l J D f G T L;cases e:back a h with
   |none=>rw[e]at ok;exact ok.elim
   |some m=>
    rw[e]at ok;obtain⟨B,y,o,up⟩:=K.back D f G W e;refine ok v q B l J y ⟨f.fro,f.keep,f.there,f.fnew,λb z=>f.onew b (z.imp (o b) id)⟩ T (λb z=>⟨(L b z).1,λw=>(L b z).2.1 (o b w),(L b z).2.2⟩) λb z=>?_;rcases O m e with⟨pv,rfl⟩|hf
    .exact absurd z (T.2 b)
    rcases f.onew b (.inr z)with w|w
    .exact absurd (o b (up hf b w)) (L b z).2.1
    .exact w
  cases fl with
  |brk=>exact ok.elim
  |cont=>exact ok.elim
  |ret p=>exact I p (λm e=>M p m (by show(aJ (back a h) []).bind _=_;rw[e];rfl)) ok
  |next=>exact λq C j l D f G=>I (.val .non) (λ_ _=>.inl ⟨_,rfl⟩) ok .non q C j l (λ_=>False) D ⟨f.fro,f.keep,f.there,f.fnew,λb z=>z.elim (f.onew b) ix⟩ G ⟨rfl,λ_ z=>z⟩ λ_ z=>z.elim
theorem Lg{f:af}{p:iw}{D:gS}{P:aO}{w:aG}{K:ay}{v:Str->Option ai}{j:az}{x b:Str}{h:bg}{N l:List Str}{k n:Nat}{g:ak->R Slot}{d:ak->R aH}{m:List Nat}(Z:pX K x b h f p)(Y:cO N l (bh h))(S:N.length=l.length+n)(hb:∀(kV o u:ai) (B:Option af) (C y:ai) (q:List ai),q.length=l.length->gI (i8 x b (jZ h) (gF h) (bh h) .none kV o u B C y) ⟨q,[]⟩=pure (l.zip q))(z:∀c,g c≠.no->c.length=l.length) (I:∀c,g c≠.no->∀(i:Nat) po,c[i]?=aa (.own po)->i∈m) (J:∀c r X,g c=.ok r X->(∃pv,r=.val pv)\/∀(i:Nat) po,c[i]?=aa (.own po)->iX po=ag) (T:∀c,g c≠.no->b_ n d c=g c)(L:∀(A:aR) (a:List Env) (s:ao) (H:Hp) (E:XK),f8 k (A.deeper (js b (bh h) s.heap.objs.size f p.code))->gv (jg D P w K v j N b (bh h) f p.code A a s H E) E m (gF h) d):k6 P w K v j D (k+1) f p l (cg K g):=by obtain⟨oc,od,kV,o,u,B,C,y,F,rfl,G,W⟩:=Z.ex;exact KB G W Y (EL z) λA a s H vs Q E O M=>⟨_,ql,Iw S z I J T (L A a s H E O) M⟩
theorem GH{f:af}{u:iw}{B:gS}{P:aO}{w:aG}{K:ay}{y:Str->Option ai}{l:az}{x b:Str}{j:bg}{N m:List Str}{k n:Nat}{g:ak->R Slot}{d:ak->R aH}{p:List Nat}(Q:pX K x b j f u)(O:cO N m (bh j))(F:N.length=m.length+n)(I:∀(kV v C:ai) (M:Option af) (q J:ai) (r:List ai),r.length=m.length->gI (i8 x b (jZ j) (gF j) (bh j) .none kV v C M q J) ⟨r,[]⟩=pure (m.zip r))(L:∀c,g c≠.no->c.length=m.length) (z:∀c,g c≠.no->∀(i:Nat) o,c[i]?=aa (.own o)->i∈p/\iX o=ag) (G:∀c,g c≠.no->b_ n d c=g c)(D:∀(f:af) (q:ai) (A:aR) (a:List Env) (s:ao) (H:Hp) (E:XK),f8 k (A.deeper (js b (bh j) s.heap.objs.size f q))->gv (jg B P w K y l N b (bh j) f q A a s H E) E p (gF j) d):k6 P w K y l B (k+1) f u m (cg K g):=Lg Q O F I L (λc h i o e=>(z c h i o e).1) (λc S T h=>.inr λi o e=>(z c (by rw[h];exact nofun) i o e).2) G λA a s H E=>D f u.code A a s H E
theorem Td{v:gS}{P:aO}{w:aG}{K:ay}{p:Str->Option ai}{c:az}{x:Str}{b:bg}{N j:List Str}{k n:Nat}{g:ak->R Slot}{d:ak->R aH}{l:List Nat}(D:dH K p x b)(O:cO N j (bh b))(C:N.length=j.length+n)(u:∀(kV q y:ai) (M:Option af) (m J:ai) (o:List ai),o.length=j.length->gI (i8 x x (jZ b) (gF b) (bh b) .none kV q y M m J) ⟨o,[]⟩=pure (j.zip o))(L:∀a,g a≠.no->a.length=j.length) (z:∀a,g a≠.no->∀(i:Nat) po,a[i]?=aa (.own po)->i∈l/\iX po=ag) (G:∀a,g a≠.no->b_ n d a=g a)(B:∀(f:af) (m:ai) (A:aR) (h:List Env) (s:ao) (H:Hp) (E:XK),f8 k (A.deeper (js x (bh b) s.heap.objs.size f m))->gv (jg v P w K p c N x (bh b) f m A h s H E) E l (gF b) d):dZ v P w K p c x (k+1) j (cg K g):=by obtain⟨f,I,F,r⟩:=D.ex;exact⟨f,I,F,GH r O C u L z G B,r.binds u,r.kp⟩
abbrev cp:=Sum PV Nat
def ja(K:ay)(b:St)(F:af->Prop)(H:Hp):List cp->List V->Prop
 |[],a=>a=[]
 |.inl pv::c,a=>∃v r,a=v::r/\aU K H F pv v/\ja K b F H c r
 |.inr i::c,a=>∃v r,a=v::r/\b[i]?=aa (aa v)/\ja K b F H c r
def DG(X:Cx)(E:XK)(g:List aD)(d:ak->R (List cp)):Prop :=
 ∀F S b a H Q,aS X.K F S b a H->Ok X.K E a F S H (d b) (λh _ i _ f=>∀c,ja X.K a i f h c->Q c f)->pQ X g a H Q
section
variable{X:Cx}{E:XK}{e:aD}{b:List aD}{de:ak->R PV}{c:ak->R (List cp)}{f:Pos}
def b9:ak->R (List cp):=λε=>.ok [] ε
def gV(d:ak->R PV)(c:ak->R (List cp)):ak->R (List cp):=λε=>(d ε).bind λx ε1=>(c ε1).bind λxs a=>.ok (.inl x::xs) a
def gO(i:Nat)(c:ak->R (List cp)):ak->R (List cp):=λd=>match d[i]? with
 |some (.own _)=>(c d).bind λxs a=>.ok (.inr i::xs) a
 |_=>.no
theorem cn:DG X E [] b9:=λF S g d H Q a h=>pW iG (h F S H a (bA.refl ..) _ rfl)
theorem Ma(s:DE X E e de)(r:DG X E b c)(q:aM (e::b) X.env=(am,aX e X.env)::aM b X.env:=by rfl):DG X E (e::b) (gV de c):=λF S j d H Q n h=>by refine pW (gB bP iq q) (s F S j d H _ n ((Ok.bind h).imp λx a G A C g I w v m=>?_));refine r G A a d C _ g ((Ok.bind w).imp λxs i D z B o y u l p=>?_);exact u D z B o (bA.refl ..) _ ⟨v,l,rfl,m.grow y g.fit,p⟩
theorem iV(i:Nat){x:Str}{p:Pos}(v:DG X E b c)(y:X.N[i]?=aa x:=by rfl)(s:eR X.env.scope x:=by first|exact Or.inl rfl|exact Or.inr (Or.inl rfl)|exact Or.inr (Or.inr rfl))(w:(x==("__debug__":Str))=am:=by decide)(A:(x==("__classdict__":Str))=am:=by decide) (u:aM (.Name x p::b) X.env=(am,aX (.Name x p) X.env)::aM b X.env:=by rfl):DG X E (.Name x p::b) (gO i c):=λF S m j H Q d h=>by
 unfold gO at h;split at h
 .rename_i q e;obtain⟨a,g,_⟩:=d.own i q e;refine pW (gB (fJ y s w A) iq u) ⟨_,g,v F S m j H _ d ((Ok.bind h).imp λxs l D B C o G z n r=>?_)⟩;exact z D B C o (bA.refl ..) _ ⟨_,n,rfl,g,r⟩
 .exact h.elim
end
def d4(a:ak):List cp->Option ak
 |[]=>aa []
 |.inl pv::b=>(d4 a b).map (.val pv::·)
 |.inr i::b=>match a[i]? with
  |some (.own c)=>(d4 a b).map (.own c::·)
  |_=>ae
def fG:ak->List cp->ak->ak
 |a,.inl _::c,_::b=>fG a c b
 |a,.inr i::c,s::b=>fG (a.set i s) c b
 |a,_,_=>a
def cz:List cp->List Nat
 |[]=>[]
 |.inl _::as=>cz as
 |.inr i::as=>i::cz as
theorem Ge:∀{as:List cp}{i:Nat},i∈cz as↔∃k:Nat,as[k]?=aa (.inr i)
 |[],i=>by simp[cz]
 |.inl _::as,i=>by
  unfold cz;rw[Ge];constructor
  .rintro⟨k,h⟩;exact⟨k+1,by simpa using h⟩
  .rintro⟨k,h⟩;cases k with
   |zero=>simp at h
   |succ k=>exact⟨k,by simpa using h⟩
 |.inr j::as,i=>by
  unfold cz;rw[bo,Ge];constructor
  .rintro(rfl|⟨k,h⟩)
   .exact⟨0,rfl⟩
   .exact⟨k+1,by simpa using h⟩
  .rintro⟨k,h⟩;cases k with
   |zero=>simp at h;exact .inl h.symm
   |succ k=>exact .inr ⟨k,by simpa using h⟩
theorem yL{d:ak}:∀{a:List cp}{c:ak},d4 d a=aa c->c.length=a.length/\∀(k:Nat) (s:Slot),c[k]?=aa s->(∃pv,a[k]?=aa (.inl pv)/\s=.val pv)\/∃i f,a[k]?=aa (.inr i)/\d[i]?=aa (.own f)/\s=.own f
 |[],c,h=>by cases h;exact⟨rfl,λk s e=>by simp at e⟩
 |.inl pv::a,c,h=>by
  unfold d4 at h;cases e:d4 d a with
  |none=>rw[e]at h;cases h
  |some r=>
   rw[e]at h;cases h;obtain⟨l,q⟩:=yL e;refine⟨by simp[l],λk s b=>?_⟩;cases k with
   |zero=>simp at b;exact .inl ⟨pv,rfl,b.symm⟩
   |succ k=>simpa using q k s (by simpa using b)
 |.inr i::a,c,h=>by
  unfold d4 at h;split at h
  .rename_i f g;cases e:d4 d a with
   |none=>rw[e]at h;cases h
   |some r=>
    rw[e]at h;cases h;obtain⟨l,q⟩:=yL e;refine⟨by simp[l],λk s b=>?_⟩;cases k with
    |zero=>simp at b;exact .inr ⟨i,f,rfl,g,b.symm⟩
    |succ k=>simpa using q k s (by simpa using b)
  .cases h
theorem xW:∀(c:List cp) (a b:ak),(fG a c b).length=a.length
 |[],a,b=>by cases b <;> rfl
 |.inl _::c,a,[]=>rfl
 |.inr _::c,a,[]=>rfl
 |.inl _::c,a,s::b=>xW c a b
 |.inr i::c,a,s::b=>by show(fG (a.set i s) c b).length=_;rw[xW,gL]
theorem tf:∀(a:List cp) (b c:ak) (j:Nat),j∉cz a->(fG b a c)[j]?=b[j]?
 |[],b,c,j,_=>by cases c <;> rfl
 |.inl _::a,b,[],j,_=>rfl
 |.inr _::a,b,[],j,_=>rfl
 |.inl _::a,b,s::c,j,h=>tf a b c j h
 |.inr i::a,b,s::c,j,h=>by
  have d:¬(j=i\/j∈cz a):=by simpa[cz]using h
  show(fG (b.set i s) a c)[j]?=_;rw[tf a _ c j λz=>d (.inr z),eD λz=>d (.inl z.symm)]
theorem uz:∀(a:List cp) (b c:ak) (j k:Nat) (s:Slot),(cz a).Nodup->j<b.length->a[k]?=aa (.inr j)->c[k]?=aa s->(fG b a c)[j]?=aa s
 |[],b,c,j,k,s,_,_,h,_=>by simp at h
 |_::a,b,[],j,k,s,_,_,_,h=>by simp at h
 |.inl _::a,b,t::c,j,0,s,_,_,h,_=>by simp at h
 |.inl _::a,b,t::c,j,k+1,s,nd,hj,h,g=>uz a b c j k s nd hj (by simpa using h) (by simpa using g)
 |.inr i::a,b,t::c,j,0,s,nd,hj,h,g=>by simp at h g;subst h g;have d:i∉cz a:=(jH.mp nd).1;show(fG (b.set i t) a c)[i]?=_;rw[tf a _ c i d,gi hj]
 |.inr i::a,b,t::c,j,k+1,s,nd,hj,h,g=>uz a (b.set i t) c j k s (jH.mp nd).2 (by rw[gL];exact hj) (by simpa using h) (by simpa using g)
theorem ja.len{K:ay}{c:St}{F:af->Prop}{H:Hp}:∀{a:List cp}{b:List V},ja K c F H a b->b.length=a.length
 |[],_,h=>by rw[show _=[] from h];rfl
 |.inl _::a,_,⟨v,r,e,_,h⟩=>by rw[e,cx,cx,ja.len h]
 |.inr _::a,_,⟨v,r,e,_,h⟩=>by rw[e,cx,cx,ja.len h]
theorem ja.val{K:ay}{d:St}{F:af->Prop}{H:Hp}:∀{as:List cp}{c:List V}{k:Nat}{pv:PV},ja K d F H as c->as[k]?=aa (.inl pv)->∃v,c[k]?=aa v/\aU K H F pv v
 |[],_,k,_,_,e=>by simp at e
 |.inl x::as,_,0,pv,⟨v,r,e,h,_⟩,q=>by simp at q;subst q e;exact⟨v,rfl,h⟩
 |.inr _::as,_,0,pv,_,q=>by simp at q
 |.inl x::as,_,k+1,pv,⟨v,r,e,_,h⟩,q=>by obtain⟨w,a,b⟩:=ja.val (k:=k) h (by simpa using q);subst e;exact⟨w,by simpa using a,b⟩
 |.inr x::as,_,k+1,pv,⟨v,r,e,_,h⟩,q=>by obtain⟨w,a,b⟩:=ja.val (k:=k) h (by simpa using q);subst e;exact⟨w,by simpa using a,b⟩
theorem ja.own{K:ay}{c:St}{F:af->Prop}{H:Hp}:∀{as:List cp}{d:List V}{k i:Nat},ja K c F H as d->as[k]?=aa (.inr i)->∃v,d[k]?=aa v/\c[i]?=aa (aa v)
 |[],_,k,_,_,e=>by simp at e
 |.inr x::as,_,0,pv,⟨v,r,e,h,_⟩,q=>by simp at q;subst q e;exact⟨v,rfl,h⟩
 |.inl _::as,_,0,pv,_,q=>by simp at q
 |.inl x::as,_,k+1,pv,⟨v,r,e,_,h⟩,q=>by obtain⟨w,a,b⟩:=ja.own (k:=k) h (by simpa using q);subst e;exact⟨w,by simpa using a,b⟩
 |.inr x::as,_,k+1,pv,⟨v,r,e,_,h⟩,q=>by obtain⟨w,a,b⟩:=ja.own (k:=k) h (by simpa using q);subst e;exact⟨w,by simpa using a,b⟩
section
variable{K:ay}{F A:af->Prop}{S m:Nat->af->Prop}{c s f:ak}{u:St}{H y:Hp}{as:List cp}{d:List V}
def mv(as:List cp)(S:Nat->af->Prop)(k:Nat)(b:af):Prop:=∃i,as[k]?=aa (.inr i)/\S i b
theorem yy(b:af)(h:U (mv as S) b):U S b:=let ⟨_,i,_,h⟩:=h;⟨i,h⟩
theorem zi:∀{as:List cp}{i k l:Nat},(cz as).Nodup->as[k]?=aa (.inr i)->as[l]?=aa (.inr i)->k=l
 |[],_,_,_,_,h,_=>by simp at h
 |.inl _::as,i,0,_,_,h,_=>by simp at h
 |.inl _::as,i,_,0,_,_,h=>by simp at h
 |.inl _::as,i,k+1,l+1,nd,h1,h2=>by rw[zi (as:=as) (i:=i) (k:=k) (l:=l) nd (by simpa using h1) (by simpa using h2)]
 |.inr j::as,i,0,0,_,_,_=>rfl
 |.inr j::as,i,0,l+1,nd,h1,h2=>by simp at h1;subst h1;exact absurd (Ge.mpr ⟨l,by simpa using h2⟩) (jH.mp nd).1
 |.inr j::as,i,k+1,0,nd,h1,h2=>by simp at h2;subst h2;exact absurd (Ge.mpr ⟨k,by simpa using h1⟩) (jH.mp nd).1
 |.inr j::as,i,k+1,l+1,nd,h1,h2=>by rw[zi (as:=as) (i:=i) (k:=k) (l:=l) (jH.mp nd).2 (by simpa using h1) (by simpa using h2)]
theorem aS.cal(r:aS K F S c u H)(C:ja K u F H as d)(J:d4 c as=aa s)(I:(cz as).Nodup):aS K F (mv as S) s (d.map aa) H:=by
 obtain⟨E,B⟩:=yL J;have up:∀{k:Nat}{v:V},d[k]?=aa v->(d.map aa)[k]?=aa (aa v):=λ{k v} e=>by rw[g_,e];rfl
 refine⟨by rw[E,bX,C.len],r.ex,λk pv e=>?_,λk D e=>?_,λk b h=>?_,λk l b g o=>?_⟩
 .rcases B k _ e with⟨p,q1,n⟩|⟨_,_,_,_,z⟩
  .cases n;obtain⟨v,x,w⟩:=C.val q1;exact⟨v,up x,w⟩
  .cases z
 .rcases B k _ e with⟨_,_,z⟩|⟨i,p,q1,n,q3⟩
  .cases z
  .cases q3;obtain⟨v,x,w⟩:=C.own q1;obtain⟨a,b1,b2⟩:=r.own i D n;rw[w]at b1;cases b1;have L:mv as S k=S i:=by
    funext b;exact propext ⟨λζ=>by obtain⟨j,g,o⟩:=ζ;rw[q1]at g;cases g;exact o,λh=>⟨i,q1,h⟩⟩
   exact⟨a,up x,by rw[L];exact b2⟩
 .obtain⟨i,g,o⟩:=h;obtain⟨⟨D,q⟩,n⟩:=r.foot i b o;have G:k<s.length:=by rw[E];exact(c9.mp g).1
  refine⟨?_,n⟩;rcases B k s[k] (by simp[G])with⟨_,z,_⟩|⟨j,p,z1,z2,z3⟩
  .rw[g]at z;cases z
  .exact⟨p,by rw[eF G,z3]⟩
 .obtain⟨i,x,w⟩:=g;obtain⟨j,b1,b2⟩:=o;have:=r.dist i j b w b2;subst this;exact zi I x b1
theorem aS.called{O':af->Prop}(r:aS K F S c u H)(ha:ja K u F H as d)(hs:d4 c as=aa s)(P:(cz as).Nodup)(N:aS K A m f (d.map aa) y)(g:bA (U (mv as S)) O' F A H y)(hO:∀b,U m b->O' b)(kW:∀(k:Nat) i,as[k]?=aa (.inr i)->∃D,f[k]?=aa (.own D)):∃Y,aS K A Y (fG c as f) u y/\bA (U S) (U Y) F A H y/\∀b,U Y b->U m b\/U S b:=by
 have up:∀{k:Nat}{v:V},(d.map aa)[k]?=aa (aa v)->d[k]?=aa v:=λ{k v} e=>by
  rw[g_]at e;cases q:d[k]? with
  |none=>rw[q]at e;cases e
  |some x=>rw[q]at e;cases e;rfl
 have fit:Fit (U (mv as S)) F H:=λb h=>r.fit b (yy b h);have L:∀i D,c[i]?=aa (.own D)->i<c.length:=λi D e=>(c9.mp e).1;have lt:∀(k:Nat) i,as[k]?=aa (.inr i)->i<c.length:=λk i e=>by
  obtain⟨hl,hg⟩:=yL hs;have E:k<s.length:=by rw[hl];exact(c9.mp e).1
  rcases hg k s[k] (by simp[E])with⟨_,z,_⟩|⟨j,p,z1,z2,z3⟩
  .rw[e]at z;cases z
  .rw[e]at z1;cases z1;exact L _ _ z2
 refine⟨λj b=>(∃k:Nat,as[k]?=aa (.inr j)/\m k b)\/(j∉cz as/\S j b),⟨by rw[xW];exact r.len,N.ex,λj pv e=>?_,λj D e=>?_,λj b h=>?_,λi j b B C=>?_⟩,⟨g.fro,λb o e n=>g.keep b o e λz=>n (yy b z),g.there,λa z=>(g.fnew a z).imp id λw=>w.imp id (yy a),λb ⟨j,z⟩=>?_⟩,λb ⟨j,z⟩=>?_⟩
 .by_cases I:j∈cz as
  .obtain⟨k,E⟩:=Ge.mp I;obtain⟨D,q⟩:=kW k j E;rw[uz as c f j k _ P (lt k j E) E q]at e;cases e
  .rw[tf as c f j I]at e;obtain⟨v,B,C⟩:=r.val j pv e;exact⟨v,B,C.grow g fit⟩
 .by_cases I:j∈cz as
  .obtain⟨k,E⟩:=Ge.mp I;obtain⟨po',q⟩:=kW k j E;rw[uz as c f j k _ P (lt k j E) E q]at e;cases e;obtain⟨a,B,C⟩:=N.own k D q;obtain⟨v,Q,X⟩:=ha.own E;rw[up B]at Q;cases Q;have W:(λb=>(∃k:Nat,as[k]?=aa (.inr j)/\m k b)\/(j∉cz as/\S j b))=m k:=by
    funext b;refine propext ⟨λz=>?_,λz=>.inl ⟨k,E,z⟩⟩;rcases z with⟨l,z1,z2⟩|⟨z,_⟩
    .rw[zi P E z1];exact z2
    .exact absurd I z
   exact⟨a,X,by rw[W];exact C⟩
  .rw[tf as c f j I]at e;obtain⟨a,B,C⟩:=r.own j D e;have W:(λb=>(∃k:Nat,as[k]?=aa (.inr j)/\m k b)\/(j∉cz as/\S j b))=S j:=by
    funext b;refine propext ⟨λz=>?_,λz=>.inr ⟨I,z⟩⟩;rcases z with⟨l,z1,z2⟩|⟨_,z⟩
    .exact absurd (Ge.mpr ⟨l,z1⟩) I
    .exact z
   have h3:fI K y A D a (S j):=by refine C.mono (λ_ _ q=>q.grow g fit) (λ_ _ q=>q.grow g fit) λb o z q=>g.keep b o q λ⟨l,i,M,J⟩=>?_;have:=r.dist i j b J z;subst this;exact I (Ge.mpr ⟨l,M⟩)
   exact⟨a,B,by rw[W];exact h3⟩
 .rcases h with⟨k,B,C⟩|⟨B,C⟩
  .obtain⟨⟨D,q⟩,T⟩:=N.foot k b C;exact⟨⟨D,uz as c f j k _ P (lt k j B) B q⟩,T⟩
  .obtain⟨⟨D,q⟩,T,o,O,q4⟩:=r.foot j b C;have no:¬U (mv as S) b:=λζ=>by obtain⟨l,i,M,J⟩:=ζ;have:=r.dist i j b J C;subst this;exact B (Ge.mpr ⟨l,M⟩)
   refine⟨⟨D,by rw[tf as c f j B];exact q⟩,λz=>?_,o,g.keep b o O no,q4⟩;rcases g.fnew b z with w|w|w
   .exact T w
   .rw[O]at w;cases w
   .exact no w
 .have G:∀{i j:Nat}{b:af},(∃k:Nat,as[k]?=aa (.inr i)/\m k b)->(j∉cz as/\S j b)->False:=λ{i j b} ⟨k,M,J⟩ ⟨w3,Z⟩=>by
   obtain⟨_,_,o,O,_⟩:=r.foot j b Z;rcases g.onew b (hO b ⟨k,J⟩)with⟨l,i',z1,z2⟩|z
   .have:=r.dist i' j b z2 Z;subst this;exact w3 (Ge.mpr ⟨l,z1⟩)
   .rw[O]at z;cases z
  rcases B with B|B <;> rcases C with C|C
  .obtain⟨k,Q,X⟩:=B;obtain⟨l,b1,b2⟩:=C;have:=N.dist k l b X b2;subst this;rw[Q]at b1;cases b1;rfl
  .exact(G B C).elim
  .exact(G C B).elim
  .exact r.dist i j b B.2 C.2
 .rcases z with⟨k,_,z⟩|⟨_,z⟩
  .rcases g.onew b (hO b ⟨k,z⟩)with w|w
   .exact .inl (yy b w)
   .exact .inr w
  .exact .inl ⟨j,z⟩
 .rcases z with⟨k,_,z⟩|⟨_,z⟩
  .exact .inl ⟨k,z⟩
  .exact .inr ⟨j,z⟩
end
def DR(X:Cx)(E:XK)(e:aD)(d:ak->R Slot):Prop :=
 ∀F S f a H Q,aS X.K F S f a H->Ok X.K E a F S H (d f) (λs _ h i c=>∀v g,oW X.K c h s v g->(∀b,g b->H b=ae/\¬h b/\¬U i b/\∃o,c b=aa o/\eJ o)->Q v c)->jc X e a H Q
def fz:List cp->ak->Bool
 |[],_=>ag
 |.inl _::as,_::ss=>fz as ss
 |.inr _::as,.own _::ss=>fz as ss
 |_,_=>am
theorem nr:∀{as:List cp}{ss:ak},fz as ss=ag->∀(k:Nat) i,as[k]?=aa (.inr i)->∃a,ss[k]?=aa (.own a)
 |[],_,_,k,i,h=>by simp at h
 |.inl _::as,s::ss,q,0,i,h=>by simp at h
 |.inl _::as,s::ss,q,k+1,i,h=>by simpa using nr (as:=as) (ss:=ss) (by unfold fz at q;exact q) k i (by simpa using h)
 |.inr _::as,.own a::ss,q,0,i,h=>⟨a,rfl⟩
 |.inr _::as,.own a::ss,q,k+1,i,h=>by simpa using nr (as:=as) (ss:=ss) (by unfold fz at q;exact q) k i (by simpa using h)
 |.inr _::as,.val _::ss,q,k,i,h=>by cases q
 |.inr _::as,.none::ss,q,k,i,h=>by cases q
 |.inl _::as,[],q,k,i,h=>by cases q
 |.inr _::as,[],q,k,i,h=>by cases q
def e_{f:Type}(d:ak)(b:List cp)(r:R f):R f:=match r with
 |.ok s a=>if fz b a then .ok s (fG d b a)else .no
 |.er c a=>if fz b a then .er c (fG d b a)else .no
 |.no=>.no
def aZ(g:ak->R Slot)(c:ak->R (List cp)):ak->R Slot:=λε=>(c ε).bind λa ε1=>(aJ (if(cz a).Nodup then d4 ε1 a else ae) ε1).bind λb ε1=>e_ ε1 a (g b)
section
variable{l:gS}{X:Cx}{E:XK}{pin:List Nat}{e:aD}{es:List aD}{j:ak->R (List cp)}{pos:Pos}{x:Str}{k:Nat}{m:List Str}{g:ak->R Slot}{p:Pos}{d:ak->R Slot}
theorem Hy{K:ay}{F0 r:af->Prop}{S0 C:Nat->af->Prop}{a:ak}{G:St}{H n:Hp}{c:List cp}{Z:List V}{Q:VK}(A:aS K r C a G n)(g1:bA (U S0) (U C) F0 r H n)(P:ja K G r n c Z)(q:Ok K E G r C n ((aJ (if(cz c).Nodup then d4 a c else ae) a).bind λD a=>e_ a c (g D)) λs _ u W h=>∀v F,oW K h u s v F->(∀b,F b->H b=ae/\¬u b/\¬U W b/\∃o,h b=aa o/\eJ o)->Q v h):cg K g Z n Q E:=by
 have q:=Ok.bind q;by_cases B:(cz c).Nodup
 .rw[if_pos B]at q;cases es:d4 a c with
  |none=>rw[es]at q;exact q.elim
  |some D=>
   rw[es]at q;have q:=q r C n A (bA.refl ..);dsimp only at q;refine⟨r,mv c C,D,A.cal P es B,?_⟩;cases O:g D with
   |no=>rw[O]at q;exact q.elim
   |er cv S=>
    rw[O]at q;intro y u W h J N;unfold e_ at q;dsimp only at q;by_cases f:fz c S=ag
    .rw[if_pos f]at q;obtain⟨T,I,M,_⟩:=A.called P es B J N (λ_ z=>z) (nr f);exact q y u T h I M
    .rw[if_neg f]at q;exact q.elim
   |ok s S=>
    rw[O]at q;intro v u W h F J N rv L fr;unfold e_ at q;dsimp only at q;by_cases f:fz c S=ag
    .rw[if_pos f]at q;obtain⟨T,I,M,u2⟩:=A.called P es B J N (λ_ z=>.inl z) (nr f);refine q u T h I M v F rv λb z=>⟨oK g1 (fr b z),(L b z).1,λw=>?_,(L b z).2.2⟩
     rcases u2 b w with w|⟨i,w⟩
     .exact(L b z).2.1 w
     .obtain⟨_,_,o,Y,_⟩:=A.foot i b w;rw[fr b z]at Y;cases Y
    .rw[if_neg f]at q;exact q.elim
 .rw[if_neg B]at q;exact q.elim
theorem cC(c:dZ l X.prog X.w X.K X.mg X.base x k m (cg X.K g))(s:f8 k X.A)(r:sJ l X E)(A:DG X E (e::es) j)(w:Gl X x:=by rfl)(y:(x==("__debug__":Str))=am:=by decide) (C:aM (e::es) X.env=(am,aX e X.env)::aM es X.env:=by rfl) (B:(cE pos (aM es X.env)).any (·.1)=am:=by rfl):DR X E (.Call (.Name x p) (e::es) [] pos) (aZ g j):=λF S i a H Q n h=>by obtain⟨f,K,u,I,z,v⟩:=c.ex;refine bZ (Fm I s w u v z .nil r iq y C B) (A F S i a H _ n ((Ok.bind h).imp λL b O M N o D q J G=>?_));rw[fQ];exact Hy o D G q
def tm:Slot->Option PV
 |.val pv=>aa pv
 |.own (.lst xs)=>aa (.lst xs)
 |_=>ae
def bd(d:ak->R Slot):ak->R PV:=λε=>(d ε).bind λs ε1=>aJ (tm s) ε1
def G8:Slot->Option PO
 |.own a=>aa a
 |_=>ae
def sv(d:ak->R Slot):ak->R PO:=λb=>(d b).bind λs a=>aJ (G8 s) a
theorem DR.dn(h:DR X E e d):DN X E e (sv d):=λF S ε f H Q o q=>by
 unfold sv at q;refine h F S ε f H Q o ?_;cases b:d ε with
 |no=>rw[b]at q;exact q.elim
 |er c i=>rw[b]at q;exact q
 |ok s ε1=>
  rw[b]at q;cases s with
  |none=>exact q.elim
  |val pv=>exact q.elim
  |own D=>intro C A B r w v z n y;obtain⟨a,rfl,u⟩:=n;exact q C A B r w a z u y
theorem DR.de(h:DR X E e d):DE X E e (bd d):=λF S ε f H Q i q=>by
 unfold bd at q;cases b:d ε with
 |no=>rw[b]at q;exact q.elim
 |er c n=>refine h F S ε f H Q i ?_;rw[b]at q ⊢;exact q
 |ok s ε1=>
  cases s with
  |none=>rw[b]at q;exact q.elim
  |val pv=>refine h F S ε f H Q i ?_;rw[b]at q ⊢;exact λB z A r w v I o G=>q B z A r w v o.1
  |own u=>
   refine h.dn.de F S ε f H Q i ?_;unfold dF sv;rw[b]at q ⊢;cases u with
   |lst xs=>exact q
   |dK a=>exact q
   |lls D=>exact q
   |ins C fs=>exact q
   |dT a=>exact q
   |dN a=>exact q
   |inl C fs y xs=>exact q
def uQ(d:ak->R Slot):ak->R aH:=λb=>(d b).bind λs a=>.ok (.ret s) a
theorem Eu(C:DR X E e d):DS X E pin (.Return (aa e) pos) (uQ d):=λF S n f H D y h=>by
 refine gC (xX bP) (C F S n f H _ y ?_);unfold uQ at h;cases i:d n with
 |no=>rw[i]at h;exact h.elim
 |er c r=>rw[i]at h;exact λx O K M B G=>h x O K f M B G (jb.refl _ _)
 |ok s q=>rw[i]at h;intro N J L A a v I u o;exact h v N J f L I A ⟨a.fro,a.keep,a.there,a.fnew,λb z=>z.elim (a.onew b) λw=>.inr (o b w).1⟩ (jb.refl _ _) u λb z=>(o b z).2
def lw(d:ak->R Slot):ak->R aH:=λb=>(d b).bind λ_ a=>.ok .next a
theorem uF(o:DR X E e d)(n:jG e ae pos.line X.env=pure am:=by rfl):DS X E pin (.Expr e pos) (lw d):=λF S c a H D f h=>gC (yC bP n) (o F S c a H _ f (h.bindE.imp λx b u r s i y q v A w z=>q u r a s i (bA.refl ..) (jb.refl _ _)))
end
end Pu
namespace L2
section
variable{X:Cx}{l:List (af×Obj)}{i:St}{H:Hp}{s:ao}{d:eB}{x:Str}{j:List Str}{g:List Nat}
theorem OD{E m O:aD}{y:Str}{py J F:Pos}{G k:Nat}{N:V->Hp->St->Prop}{A:List aD}{wi:TI}{ts:TT}{te:TE}(B:jY X d x j g)(hk:k<=g.length)(hc:X.calm=ag)(hi:PI X O m wi)(dW:∀C r w Y P,PG (cL X d j C r w Y P) O λv M H Q=>∃vs,vs.length=k+1/\M.length=j.length/\N v H vs/\Q (vs++M.drop (k+1)) H)(ht:∀C r w Y P,sO (cL X d j C r w Y P) A ts) (he:∀C r w Y P,PE (cL X d j C r w Y P) E te) (hN:X.N.Nodup) (wU:X.N[G]?=aa y) (hxy:Loc X.env.scope y) (wV:jG (.ListComp E [⟨O,m,A,0⟩] d J) (aa (.Name y py)) F.line X.env=pure ag) (hf:X.fn y=ag\/X.env.scope.names.lookup y=aa .local) (hs:∀x,o8 m X.env x=pure x):PS X (.Assign [.Name y py] (.ListComp E [⟨O,m,A,0⟩] d J) F) (λD i H=>CB wi N k ts te g i H λv H'=>D.nx (i.set G (aa v)) H'):=by
 intro l s i H D I h;rw[exec_Assign_Name_used _ _ _ _ wV];refine aq (wpAny_standAt (aq ?_));show ar _ X.A (do let _ <-comprehension (.ListComp E [⟨O,m,A,0⟩] d J) d X.env _ (newList []) am (aX m X.env) (aa (o7 (.Name y py) X.env))) _ _ s;refine aq (eW (?_:ar _ X.A _ (λ_ s'=>SP X l D .next s') X.xe s) (λ_ s' hq=>aC (aC hq)) λ_ _ e=>e);refine HF (use:=aa (o7 (.Name y py) X.env)) B hk hc hi dW ht he hs I h λ{K s6 H3 H5 fp σ5 a f} Z f3 I6 q=>?_;obtain⟨mm,hn6,_⟩:=I6.loc;have J6:Inv X l i _ _:=Z.unblock f3 I6 (Jp _ _);have S:K.heap.objs.size≠X.env.locals:=λe=>absurd Z.lt (by rw[<-e];exact eV _);have T:∀z c,X.env.cells.lookup z=aa c->c≠K.heap.objs.size:=λz c e e2=>by obtain⟨vv,oo,ho,_⟩:=Z.cell z c e;exact absurd (bz ho) (by rw[e2];exact eV _)
 refine wpAny_assign_Name (Hz (v:=.ref a) J6 hN wU hxy rfl (λs7 I7 ⟨a7,sb7,ha7⟩=>?_) hf);have na7:K.heap.objs.size≠a7:=by
  rcases ha7 with z|z
  .rw[z];exact S
  .exact(T _ _ z).symm
 refine⟨mm,hn6.sameBut sb7 na7,λmW sb=>⟨_,_,?_,q⟩⟩;have W:H5 K.heap.objs.size=ae:=I6.free;refine I7.call' (s':={s7 with heap:=mW}) (ch:=[K.heap.objs.size]) rfl ⟨λb o e n hb L=>?_,λb o e n hb L=>?_,λb o e n L=>n,λb o e L=>?_,λb xs e=>e,λb o u e=>e,λb ps e=>e⟩ ?_ I7.bare λb hb=>?_
 .exact(sb.2 b (by simpa using L)).trans e
 .exact⟨o.slots,(sb.2 b (by simpa using L)).trans (by simpa using e)⟩
 .exact⟨o,(sb.2 b (by simpa using L)).trans e⟩
 .intro b u e;refine(I7.hok b u e).stay (λc v hc q=>(sb.2 c ?_).trans q) (λ_ q=>q) λ_ _ q=>q;rintro rfl;rcases hc with z|z
  .rw[<-z,W]at e;cases e
  .rw[W]at z;cases z
 .have e:b=K.heap.objs.size:=by simpa using hb
  subst e;refine⟨.inr Z.sz,S,T,λp hp e2=>?_⟩;obtain⟨e3,_⟩:=Z.pin p hp;exact absurd (bz e3) (by rw[e2];exact eV _)
theorem Sn{n a:aD}{y:Str}{p w o f:Pos}{h:Nat}{m:List aD}{wi:TI}{ts:TT}{te:TE}(B:jY X d x j g)(K:X.calm=ag)(G:PI X (.Name x p) a wi)(E:∀C b c u q,sO (cL X d j C b c u q) m ts) (J:∀C b c u q,PE (cL X d j C b c u q) n te) (L:X.N.Nodup) (A:X.N[h]?=aa y) (r:Loc X.env.scope y) (z:jG (.ListComp n [⟨.Name x p,a,m,0⟩] d o) (aa (.Name y w)) f.line X.env=pure ag) (I:X.fn y=ag\/X.env.scope.names.lookup y=aa .local) (F:∀x,o8 a X.env x=pure x):PS X (.Assign [.Name y w] (.ListComp n [⟨.Name x p,a,m,0⟩] d o) f) (λD i H=>Cz wi ts te g i H λv M=>D.nx (i.set h (aa v)) M):=OD B (kg _) K G (EH B) E J L A r z I F
end
end L2
namespace Pu
open L2
def dX(ε:ak):List Nat->Option (List cp)
 |[]=>aa []
 |j::cap=>match ε[j]? with
  |some (.val pv)=>(dX ε cap).map (.inl pv::·)
  |some (.own _)=>(dX ε cap).map (.inr j::·)
  |_=>ae
def dO{b:Type}(cap:List Nat)(d:ak->R b)(x:PV):ak->R b:=λε=>(aJ (dX ε cap) ε).bind λa _=>(aJ (if(cz a).Nodup then d4 ε (.inl x::a)else ae) ε).bind λc _=>e_ ε (.inl x::a) (d c)
def b7{a:Type}(r:R a):R a:=match r with
 |.er _ _=>.no
 |r=>r
def lm(cap:List Nat)(dt:ak->R Bool)(de:ak->R PV):List PV->List PV->ak->R (List PV)
 |[],a,ε=>.ok a ε
 |x::xs,a,ε=>(b7 (dO cap dt x ε)).bind λk ε1=>match k with
  |true=>(b7 (dO cap de x ε1)).bind λy b=>lm cap dt de xs (a++[y]) b
  |false=>lm cap dt de xs a ε1
def cY(cap:List Nat)(c:ak->R (List PV))(dt:ak->R Bool)(de:ak->R PV):ak->R PO:=λε=>(c ε).bind λxs ε1=>(lm cap dt de xs [] ε1).bind λb a=>.ok (.lst b) a
theorem An{K:ay}{F:af->Prop}{S:Nat->af->Prop}{f:ak}{d:St}{H:Hp}(r:aS K F S f d H):∀{b:List Nat}{i:List cp},dX f b=aa i->∃c,ja K d F H i c/\iE d b=c.map aa
 |[],i,h=>by cases h;exact⟨[],rfl,rfl⟩
 |j::b,i,h=>by
  unfold dX at h;split at h
  .rename_i pv e;cases q:dX f b with
   |none=>rw[q]at h;cases h
   |some bs=>
    rw[q]at h;cases h;obtain⟨c,m,l⟩:=An r q;obtain⟨v,g,n⟩:=r.val j pv e;refine⟨v::c,⟨v,c,rfl,n,m⟩,?_⟩;show(d[j]?).join::iE d b=_;rw[g,l];rfl
  .rename_i o e;cases q:dX f b with
   |none=>rw[q]at h;cases h
   |some bs=>
    rw[q]at h;cases h;obtain⟨c,m,l⟩:=An r q;obtain⟨a,g,n⟩:=r.own j o e;refine⟨.ref a::c,⟨_,c,rfl,g,m⟩,?_⟩;show(d[j]?).join::iE d b=_;rw[g,l];rfl
  .cases h
theorem EN{K:ay}{E:XK}{F:af->Prop}{S:Nat->af->Prop}{s:ak}{f:St}{H:Hp}{I:Type}{b:List Nat}{d:ak->R I}{x:PV}{v:V}{C:I->ak->(af->Prop)->(Nat->af->Prop)->Hp->Prop}(r:aS K F S s f H) (O:aU K H F x v) (h:Ok K E f F S H (b7 (dO b d x s)) C):∃M l,aS K F M l (aa v::iE f b) H/\Ok K E0 (aa v::iE f b) F M H (d l) (λa _ q _ p=>∃j w,aS K q w j f p/\bA (U S) (U w) F q H p/\C a j q w p):=by
 unfold dO at h;cases D:dX s b with
 |none=>rw[D]at h;exact h.elim
 |some g=>
  rw[D]at h;simp only[cP,R.bind_ok]at h;by_cases A:(cz g).Nodup
  .rw[if_pos A]at h;cases u:d4 s (.inl x::g)with
   |none=>rw[u]at h;exact h.elim
   |some l=>
    rw[u]at h;simp only[cP,R.bind_ok]at h;obtain⟨y,W,T⟩:=An r D;have o:ja K f F H (.inl x::g) (v::y):=⟨v,y,rfl,O,W⟩
    have n:aa v::iE f b=(v::y).map aa:=by rw[T];rfl
    have m:(cz (.inl x::g)).Nodup:=A;refine⟨mv (.inl x::g) S,l,by rw[n];exact r.cal o u m,?_⟩;rw[n];cases B:d l with
    |no=>rw[B]at h;exact h.elim
    |er c G=>
     rw[B]at h;unfold e_ at h;dsimp only at h;by_cases i:fz (.inl x::g) G=ag
     .rw[if_pos i]at h;exact h.elim
     .rw[if_neg i]at h;exact h.elim
    |ok a G=>
     rw[B]at h;intro q w p P Q;unfold e_ at h;dsimp only at h;by_cases i:fz (.inl x::g) G=ag
     .rw[if_pos i]at h;obtain⟨N,J,L,_⟩:=r.called o u m P Q (λ_ z=>z) (nr i);exact⟨_,N,J,L,h q N p J L⟩
     .rw[if_neg i]at h;exact h.elim
  .rw[if_neg A]at h;exact h.elim
def yA(X:Cx)(a:List aD):TT:=λb H Q=>Bx (∀d s,Inv X d b H s->ar (aw X.prog X.w) X.A (forIn a ag λc r=>if r=ag then do let ok <-nH c X.env (aX c X.env);pure (ForInStep.yield ok)else pure (ForInStep.yield r)) (TP X d b Q) X.xe s)
def DF(X:Cx)(E:XK)(c:List aD)(d:ak->R Bool):Prop:=∀F S f a H Q,aS X.K F S f a H->Ok X.K E a F S H (d f) (λb _ _ _ g=>Q b g)->yA X c a H Q
def dYes:ak->R Bool:=λε=>.ok ag ε
theorem uS{X:Cx}{E:XK}:DF X E [] dYes:=λF S d a H Q b h=>⟨λc s I=>NT c s a H Q I (h F S H b (bA.refl ..))⟩
theorem sE{X:Cx}{E:XK}{c:aD}{d:ak->R Bool}(h:DT X E c d):DF X E [c] d:=λF S b a H Q f q=>⟨λg s I=>Tj nt g s a H Q I (h F S b a H Q f q)⟩
theorem Ok.bindB{K:ay}{E:XK}{b:St}{F s:af->Prop}{S n:Nat->af->Prop}{H p:Hp}{j i:Type}{D:i->ak->(af->Prop)->(Nat->af->Prop)->Hp->Prop}{r:R j}{k:j->ak->R i}(h:Ok K E b F S H (r.bind k) D)(g:bA (U S) (U n) F s H p):Ok K E b s n p r (λa d _ _ _=>Ok K E b F S H (k a d) D):=by
 cases r with
 |no=>exact h
 |er c f=>exact λx u o q l m=>h x u o q l (g.trans m)
 |ok a f=>exact λu o q l m=>h
section
variable{X:Cx}{E:XK}{c:eB}{x:Str}{N':List Str}{cap:List Nat}
theorem bA.stay{O a F d:af->Prop}{H b:Hp}(g:bA O a F d H b){l:af}{o:HO}(e:H l=aa o)(n:¬O l)(f:¬F l):b l=aa o/\¬d l/\¬a l :=
 ⟨g.keep l o e n,λz=>(g.fnew l z).elim f λw=>w.elim (λq=>by rw[e]at q;cases q) n,λz=>(g.onew l z).elim n λq=>by rw[e]at q;cases q⟩
theorem aS.lay{K:ay}{F:af->Prop}{S:Nat->af->Prop}{i:ak}{h:St}{H:Hp}{l:af}{o o':HO}(r:aS K F S i h H)(y:H l=aa o)(no:eJ o)(v:¬F l)(nS:¬U S l):bA (λb=>U S b\/b=l) (U S) F F H (L2.upd H l o')/\Fit (λb=>U S b\/b=l) F H/\aS K F S i h (L2.upd H l o'):=by
 have f:bA (λb=>U S b\/b=l) (U S) F F H (L2.upd H l o'):=⟨λ_ z=>z,λb o e n=>by rw[bO λz=>n (.inr z)];exact e,λb o e=>by
  by_cases m:b=l
  .subst m;exact⟨_,bV⟩
  .exact⟨o,by rw[bO m];exact e⟩,λ_ z=>.inl z,λ_ z=>.inl (.inl z)⟩
 have g:Fit (λb=>U S b\/b=l) F H:=λb z=>by
  rcases z with z|rfl
  .exact r.fit b z
  .exact⟨v,_,y,no⟩
 refine⟨f,g,r.len,λb z=>let ⟨o,q⟩:=r.ex b z;f.there b o q,λj pv e=>?_,λj u e=>?_,λj b z=>?_,r.dist⟩
 .obtain⟨w,d,a⟩:=r.val j pv e;exact⟨w,d,a.grow f g⟩
 .obtain⟨w,d,a⟩:=r.own j u e;refine⟨w,d,a.mono (λ_ _ q=>q.grow f g) (λ_ _ q=>q.grow f g) λb o z q=>?_⟩;rw[bO (by rintro rfl;exact nS ⟨j,z⟩)];exact q
 .obtain⟨d,a,o,s,p⟩:=r.foot j b z;exact⟨d,a,o,by rw[bO (by rintro rfl;exact nS ⟨j,z⟩)];exact s,p⟩
theorem bA.lay{O d F h:af->Prop}{H f:Hp}{l:af}{o':HO}(g:bA O d F h H f)(a:H l=ae):bA O d F h H (L2.upd f l o'):=by
 refine⟨g.fro,λb o e n=>?_,λb o e=>?_,g.fnew,g.onew⟩
 .rw[bO (by rintro rfl;rw[a]at e;cases e)];exact g.keep b o e n
 .obtain⟨i,q⟩:=g.there b o e;exact⟨i,by rw[bO (by rintro rfl;rw[a]at e;cases e)];exact q⟩
theorem Gr{elt A:aD}{px:Pos}{ifs:List aD}{di:ak->R (List PV)}{dt:ak->R Bool}{de:ak->R PV}(hi:DI X E (.Name x px) A di)(ht:∀C d f r p,DF (cL X c N' C d f r p) E0 ifs dt) (he:∀C d f r p,DE (cL X c N' C d f r p) E0 elt de){F:af->Prop}{S:Nat->af->Prop}{ε:ak}{j:St}{H:Hp}{Q:VK} (rl:aS X.K F S ε j H) (h:Ok X.K E j F S H (cY cap di dt de ε) (λpo _ s L g=>∀a Sa,fI X.K g s po a Sa->(∀b,Sa b->H b=ae/\¬s b/\¬U L b/\∃o,g b=aa o/\eJ o)->Q (.ref a) g)):Cz (tq X (.Name x px) A) (λj H Q=>∀C d f r p,yA (cL X c N' C d f r p) ifs j H Q) (λj H Q=>∀C d f r p,jc (cL X c N' C d f r p) elt j H Q) cap j H Q:=by
 refine hi F S ε j H _ rl ((Ok.bind h).imp λxs ε1 N S1 H1 r1 g1 h1 J vs RR rs hz hw keep l hl=>?_);have h1:=h1.bind;have hvl:vs.length=xs.length:=rs.len;have a0:Al N N H1 (upd H1 l (.lst [])):=Al.new0 hl;have nF1:¬N l:=λz=>by obtain⟨o,q⟩:=r1.ex l z;rw[hl]at q;cases q
 have nS1:¬U S1 l:=λζ=>by obtain⟨i,z⟩:=ζ;obtain⟨_,_,o,q,_⟩:=r1.foot i l z;rw[hl]at q;cases q
 have hH:H l=ae:=oK g1 hl;refine⟨λi m D g=>m=xs.length-i/\i<=xs.length/\∃s L Y P,aS X.K s L Y j g/\bA (U S1) (U L) N s H1 g/\g l=aa (.lst D)/\¬s l/\¬U L l/\Reps X.K g s P D/\D.length<=i /\ Ok X.K E j N S1 H1 (lm cap dt de (xs.drop i) P Y) (λys' w T S2 M=>Ok X.K E j T S2 M (R.ok (PO.lst ys') w) (λpo _ s L g=>∀a Sa,fI X.K g s po a Sa->(∀b,Sa b->H b=ae/\¬s b/\¬U L b/\∃o,g b=aa o/\eJ o)->Q (.ref a) g)),⟨_,rfl,kg _,N,S1,ε1,[],r1.al a0,a0.grow,bV,nF1,nS1,rfl,a8 _,h1⟩,?_⟩;rintro i m D M ⟨rfl,hi,T,S2,w,P,O,K,el,nF2,nS2,n,hyl,q2⟩;have RH:=keep S2 T M K;by_cases a9:i<xs.length
 .obtain⟨v,hv⟩:∃v,vs[i]?=aa v:=⟨_,eF ∅⟩
  obtain⟨go,yl⟩:=(hw M RH i).1 v hv;refine .inr ⟨go,λv' g y=>⟨[aa v'],rfl,rfl,?_⟩⟩;obtain⟨e1,e2⟩:=yl v' g y;subst e1 e2;obtain⟨px',hx,rx⟩:=rs.back hv;have ed:xs.drop i=px'::xs.drop (i+1):=by rw[wc a9];congr 1;exact(c9.mp hx).2
  rw[ed]at q2;have Z:=rx.grow K r1.fit;have q3:=Ok.bindB q2 K;obtain⟨Sb,ss,rb,okb⟩:=EN O Z q3;intro C d f r p;refine ht C d f r p T Sb ss _ g _ rb (okb.imp λb _ F3 _ H3 _ _ ζ=>?_);obtain⟨W,S3,r3,I,q4⟩:=ζ;obtain⟨el3,nF3,nS3⟩:=I.stay el nS2 nF2;cases b with
  |false=>exact oN ⟨_,∅,rfl,a9,F3,S3,W,P,r3,K.trans I,el3,nF3,nS3,n.grow I O.fit,∅,q4⟩
  |true=>refine oV ?_;have q5:Ok X.K E j N S1 H1 ((b7 (dO cap de px' W)).bind λy w=>lm cap dt de (xs.drop (i+1)) (P++[y]) w) _:=q4;obtain⟨Sc,sc,rc,okc⟩:=EN r3 (Z.grow I O.fit) (Ok.bindB q5 (K.trans I));intro C d f r p;refine he C d f r p F3 Sc sc _ H3 _ rc (okc.imp λy _ F4 _ H4 _ _ ⟨ε4,S4,r4,g4,q6⟩ u ru=>?_);obtain⟨el4,nF4,nS4⟩:=g4.stay el3 nS3 nF3;have G:=(n.grow I O.fit).grow g4 r3.fit;obtain⟨gl,B,r5⟩:=r4.lay (o':=.lst (D++[u])) el4 trivial nF4 nS4;have g5:=((K.trans I).trans g4).lay (o':=.lst (D++[u])) hl;refine⟨el4,?_,_,∅,rfl,a9,F4,S4,ε4,P++[y],r5,g5,bV,nF4,nS4,(G.grow gl B).app (.one (ru.grow gl B)),by simp;lia,q6⟩;lia
 .have e:i=xs.length:=∅
  subst e;refine .inl ⟨(hw M RH _).2 hvl.symm,?_⟩;rw[Jy]at q2;exact q2 T S2 M O K T S2 M O (bA.refl ..) l (λb=>b=l) ⟨⟨D,el,n⟩,λb=>nY⟩ λb z=>by subst z;exact⟨hH,nF2,nS2,_,el,trivial⟩
theorem l8{j d:aD}{m pos:Pos}{i:List aD}{o:ak->R (List PV)}{dt:ak->R Bool}{de:ak->R PV}(B:jY X c x N' cap)(w:X.calm=ag)(u:DI X E (.Name x m) d o)(q:∀C a b g f,DF (cL X c N' C a b g f) E0 i dt) (v:∀C a b g f,DE (cL X c N' C a b g f) E0 j de) (r:∀x,o8 d X.env x=pure x:=by intro _;rfl):DN X E (.ListComp j [⟨.Name x m,d,i,0⟩] c pos) (cY cap o dt de):=λF S y l H Q p h=>bZ (OA (wi:=tq X (.Name x m) d) (ts:=λl H Q=>∀C a b g f,yA (cL X c N' C a b g f) i l H Q) (te:=λl H Q=>∀C a b g f,jc (cL X c N' C a b g f) j l H Q) (pos:=pos) B w zl (λC a b g f n s l H Q I h=>(h C a b g f).run n s I) (λC a b g f n s l H Q I h=>(h C a b g f).run n s I) r) (Gr u q v p h)
end
theorem Mz(x y:Tx):tS x++tS y=tS (x++y):=by
 show(⟨x.toArray++y.toArray⟩:Str)=⟨(x++y).toArray⟩
 simp
def bf:PV->PV->Option PV
 |.int i,.int j=>aa (.int (i+j))
 |.str x,.str y=>if(x++y).length<=bG then aa (.str (x++y))else ae
 |.tup xs,.tup a=>if xs≠[]/\a≠[]/\xs.length+a.length<=1000 then aa (.tup (xs++a))else ae
 |.lst xs,.lst a=>if xs.length+a.length<=bG then aa (.lst (xs++a))else ae
 |_,_=>ae
def j7:PV->PV->Option PV
 |.int i,.int j=>aa (.int (i-j))
 |_,_=>ae
def vI(i:Int):Bool:=decide (-(2^64)<i/\i<2^64)
def jE:PV->PV->Option PV
 |.int i,.int j=>if vI i||vI j then aa (.int (i*j))else ae
 |.str x,.int j=>if 0<=j/\j<=100/\x.length<=100 then aa (.str (bK j.toNat x).flatten)else ae
 |_,_=>ae
def gT:PV->PV->Option PV
 |.int i,.int j=>if 0<j then aa (.int (i % j))else ae
 |_,_=>ae
def u5:PV->PV->Option PV
 |.int i,.int j=>if 0<=j/\j<=1000000/\i.natAbs<2^64 then aa (.int (i^j.toNat))else ae
 |_,_=>ae
def oO:PV->Option PV
 |.int i=>aa (.int (-i))
 |_=>ae
def GS:R2:=λx y H Q=>∃l b xs a,x=.ref l/\y=.ref b/\Rd H l (.lst xs)/\Rd H b (.lst a)/\xs.length+a.length<=bn/\∀p,H p=ae->Q (.ref p) (upd H p (.lst (xs++a)))
def yg(K:ay):R2:=λx y H Q=>((l9 λi j=>V.int (i+j)) x y H Q\/∃i j,x=.str i/\y=.str j/\i.length+j.length<=bn/\Q (.str (i++j)) H)\/(Ft K x y H Q\/GS x y H Q)
def G2:R2:=λx y H Q=>rI BH (λi j=>.int (i*j)) x y H Q\/∃(z:Tx) (n:Nat),x=tV z/\y=.int n/\n<=100/\z.length<=100/\Q (tV (bK n z).flatten) H
section
variable{X:Cx}{K:ay}
theorem uK:P2 K (l9 λi j=>.int (i-j)) j7:=λF H x y v u Q pv b a e q=>by
 unfold j7 at e;split at e
 .cases e;exact⟨_,_,b,a,q _ F H (Al.refl ..) rfl⟩
 .cases e
theorem tz:P2 K (rI (λ_ j=>0<j) λi j=>.int (i % j)) gT:=λF H x y v u Q pv b a e q=>by
 unfold gT at e;split at e
 .split at e
  .cases e;exact⟨_,_,b,a,by assumption,q _ F H (Al.refl ..) rfl⟩
  .cases e
 .cases e
theorem Tl:P2 K (rI FO λi j=>.int (i^j.toNat)) u5:=λF H x y v u Q pv b a e q=>by
 unfold u5 at e;split at e
 .split at e
  .cases e;exact⟨_,_,b,a,by assumption,q _ F H (Al.refl ..) rfl⟩
  .cases e
 .cases e
theorem Io:P1 K (rU λi=>.int (-i)) oO:=λF H x v Q pv a e q=>by
 unfold oO at e;split at e
 .cases e;exact⟨_,a,q _ F H (Al.refl ..) rfl⟩
 .cases e
theorem BZ{c:List (af×Obj)}{b:St}{H:Hp}{s:ao}{l:af}{xs:List V}(I:Inv X c b H s)(h:Rd H l (.lst xs)):∃(a:List ai) (n:Nat),bj xs a/\s.heap.get? l=aa {cls:=.type "list",data:=.seq a.toArray n}/\xs.length<=bn:=by obtain⟨z,a,n,r,e⟩:=h.ok I.hok;exact⟨a,n,r,e,z⟩
theorem Nq:bT X (iN .Add) GS:=by
 intro C s p H x y v u Q I i g h;obtain⟨l,b,xs,w,rfl,rfl,f,j,A,q⟩:=h;cases i;cases g;obtain⟨c,n,r,e,_⟩:=BZ I f;obtain⟨a,z,d,o,_⟩:=BZ I j;have f:=r.length;have B:=d.length;refine PySem.P.add_list e o ?_ (by rw[cc,cc];lia);have m:c.toArray++a.toArray=(c++a).toArray:=by simp
 rw[m];exact⟨.ref _,_,I.lnew (t':=s.toks) (r.append d) (by rw[c0];lia),rfl,q _ I.fresh⟩
theorem fg:bT X (iN .Add) (yg X.K):=(Ui.or Nb).or (Uc.or Nq)
theorem fe:P2 K (yg K) bf:=λF H x y v u Q pv l j e q=>by
 unfold bf at e;split at e
 .cases e;exact .inl (.inl ⟨_,_,l,j,q _ F H (Al.refl ..) rfl⟩)
 .rename_i x y;split at e
  .rename_i c;cases e;refine .inl (.inr ⟨_,_,l.1,j.1,?_,?_⟩)
   .rw[ml,ml];rw[c0]at c;exact cM c mr
   .exact q _ F H (Al.refl ..) ⟨by rw[Mz];rfl,c⟩
  .cases e
 .rename_i xs s;split at e
  .rename_i c;cases e;obtain⟨a,n,rfl,r,f⟩:=l;obtain⟨b,m,rfl,o,d⟩:=j;have h:=f.len;have g:=d.len;refine .inr (.inl ⟨a,b,n,m,rfl,rfl,cH.of r,cH.of o,λz=>c.1 (by rw[z]at h;exact pf h.symm),by rw[h,g];exact Bb c.2.2,λz=>absurd (by rw[z]at g;exact pf g.symm) c.2.1,λ_ p i=>?_⟩);exact q _ F _ (Al.new0 i) ⟨p,_,rfl,bV,(Al.new0 i).reps (f.app d)⟩
  .cases e
 .rename_i xs s;split at e
  .rename_i c;cases e;obtain⟨a,n,rfl,r,A,f⟩:=l;obtain⟨b,m,rfl,o,w,d⟩:=j;have h:=f.len;have g:=d.len;refine .inr (.inr ⟨a,b,n,m,rfl,rfl,r,o,by rw[h,g];exact cM c mr,λp i=>?_⟩);exact q _ _ _ (Al.new i) ⟨p,_,rfl,.inl bV,.inr rfl,(Al.new i).reps (f.app d)⟩
  .cases e
 .cases e
theorem yt:bT X (iN .Mult) G2:=T9.or P_
theorem yd:P2 K G2 jE:=λF H x y v u Q pv b a e q=>by
 unfold jE at e;split at e
 .rename_i i j;split at e
  .rename_i h;cases e;refine .inl ⟨_,_,b,a,?_,q _ F H (Al.refl ..) rfl⟩;rw[C0]at h;exact h.imp of_decide_eq_true of_decide_eq_true
  .cases e
 .rename_i x j;split at e
  .rename_i h;cases e;refine .inr ⟨x,j.toNat,b.1,?_,∅,h.2.2,q _ F H (Al.refl ..) ⟨rfl,?_⟩⟩
   .rw[show u=V.int j from a];congr 1;lia
   .rw[Bl];have c:j.toNat<=100:=∅
    exact cM (zE c h.2.2) (by decide)
  .cases e
 .cases e
def dQ(f:Int->Int->Bool):PV->PV->Option PV
 |.int i,.int j=>aa (.bl (f i j))
 |_,_=>ae
theorem kF{f:Int->Int->Bool}:P2 K (l9 λi j=>.bl (f i j)) (dQ f):=λF H x y v u Q pv b a e q=>by
 unfold dQ at e;split at e
 .cases e;exact⟨_,_,b,a,q _ F H (Al.refl ..) rfl⟩
 .cases e
def dG:PV->Option V
 |.non=>aa .non
 |.bl b=>aa (.bl b)
 |.int i=>aa (.int i)
 |.str x=>aa (tV x)
 |_=>ae
theorem jA{H:Hp}{F:af->Prop}{x:PV}{v w:V}(r:aU K H F x v)(e:dG x=aa w):v=w:=by
 cases x <;> simp[dG]at e <;> subst e
 .exact r
 .exact r
 .exact r
 .exact r.1
theorem rH{x:PV}{w:V}(e:dG x=aa w):gc w=ag:=by
 cases x <;> simp[dG]at e <;> subst e <;> rfl
mutual
def dr:PV->PV->Option Bool
 |.tup xs,y=>match y with
  |.tup a=>gb xs a
  |_=>ae
 |.lst xs,y=>match y with
  |.lst a=>gb xs a
  |_=>ae
 |.non,y=>(dG y).map (eI .non)
 |.bl b,y=>(dG y).map (eI (.bl b))
 |.int i,y=>(dG y).map (eI (.int i))
 |.str x,y=>(dG y).map (eI (tV x))
 |.raw _,_=>ae
 |.exc _,_=>ae
def gb:List PV->List PV->Option Bool
 |[],c=>aa c.isEmpty
 |x::xs,c=>match c with
  |[]=>aa am
  |y::c=>(dr x y).bind λa=>(gb xs c).map λb=>a&&b
end
mutual
def jm:PV->Nat
 |.tup xs=>gh xs+1
 |.lst xs=>gh xs+1
 |_=>0
def gh:List PV->Nat
 |[]=>0
 |x::xs=>max (jm x) (gh xs)
end
theorem IJ{H:Hp}{d a:Nat}{x y:V}{k:Bool}(h:iW K H d x y k)(l:d<=a):iW K H a x y k:=λX g i b s u v A I f c j=>h X g i b s u v A I f c ∅
theorem yB{H:Hp}{F:af->Prop}{w:V}{y:PV}{u:V}{k:Bool}{d:Nat}(b:gc w=ag)(e:(dG y).map (eI w)=aa k)(a:aU K H F y u):iW K H d w u k:=by
 cases q:dG y with
 |none=>rw[q]at e;cases e
 |some z=>
  rw[q]at e;cases e;rw[jA a q];exact LU b (rH q)
theorem Lp{H:Hp}{a:af}{xs b:List V}(h:Rd H a (.lst xs))(g:Rd H a (.lst b)):xs=b:=by
 rcases h with h|⟨o,h⟩ <;> rcases g with g|⟨c,g⟩ <;> rw[h]at g <;> cases g <;> rfl
theorem S7{a:Bool}{e:Nat->Bool}{n m:Nat}:gy (λj=>if j=0 then a else e (j-1)) (n+1) (m+1)=(a&&gy e n m):=by
 unfold gy;rw[show min (n+1) (m+1)=min n m+1 by lia,CZ,tK,zB,if_pos rfl,Bool.and_assoc];congr 1;congr 1
 .simp
mutual
theorem A9{H:Hp}{F:af->Prop}:∀(x y:PV) {v:V}{k:Bool},dr x y=aa k->aU K H F x v->aU K H F y v->k=ag
 |.tup xs,y,v,k,e,d,c=>by
  unfold dr at e;split at e
  .obtain⟨a,m,rfl,i,f⟩:=d;obtain⟨b,l,j,g,h⟩:=c;cases j;rw[i]at g;cases g;exact BQ xs _ e f h
  .cases e
 |.lst xs,y,v,k,e,d,c=>by
  unfold dr at e;split at e
  .obtain⟨a,m,rfl,i,_,f⟩:=d;obtain⟨b,l,j,g,_,h⟩:=c;cases j;rw[Lp i g]at f;exact BQ xs _ e f h
  .cases e
 |.non,y,v,k,e,d,c=>by
  unfold dr at e;cases q:dG y with
  |none=>rw[q]at e;cases e
  |some z=>rw[q]at e;cases e;rw[<-jA c q,show v=V.non from d];rfl
 |.bl b,y,v,k,e,d,c=>by
  unfold dr at e;cases q:dG y with
  |none=>rw[q]at e;cases e
  |some z=>rw[q]at e;cases e;rw[<-jA c q,show v=V.bl b from d];exact beq_self_eq_true b
 |.int b,y,v,k,e,d,c=>by
  unfold dr at e;cases q:dG y with
  |none=>rw[q]at e;cases e
  |some z=>rw[q]at e;cases e;rw[<-jA c q,show v=V.int b from d];exact beq_self_eq_true b
 |.str b,y,v,k,e,d,c=>by
  unfold dr at e;cases q:dG y with
  |none=>rw[q]at e;cases e
  |some z=>rw[q]at e;cases e;rw[<-jA c q,show v=tV b from d.1];exact beq_self_eq_true (tS b)
 |.raw _,_,_,_,e,_,_=>by unfold dr at e;cases e
 |.exc _,_,_,_,e,_,_=>by unfold dr at e;cases e
theorem BQ{H:Hp}{F:af->Prop}:∀(xs c:List PV) {d:List V}{k:Bool},gb xs c=aa k->Reps K H F xs d->Reps K H F c d->k=ag
 |[],c,d,k,e,h,f=>by
  unfold gb at e;rw[show d=[] from h]at f;have:=f.len;cases c with
  |nil=>cases e;rfl
  |cons=>simp at this
 |x::xs,c,d,k,e,h,f=>by
  unfold gb at e;obtain⟨v,r,rfl,l,j⟩:=h;cases c with
  |nil=>have:=f.len;simp at this
  |cons y c=>
   obtain⟨p,q,o,n,m⟩:=f;cases o;simp only at e;cases g:dr x y with
   |none=>rw[g]at e;cases e
   |some a=>
    cases i:gb xs c with
    |none=>rw[g,i]at e;cases e
    |some b=>
     rw[g,i]at e;cases e;rw[A9 x y g l n,BQ xs c i j m];rfl
end
mutual
theorem To{H:Hp}{F:af->Prop}:∀(x y:PV) {v u:V}{k:Bool},dr x y=aa k->aU K H F x v->aU K H F y u->iW K H (jm x) v u k
 |.tup xs,y,v,u,k,e,d,c=>by
  have o:=e;unfold dr at e;split at e
  .rename_i h;obtain⟨a,q,rfl,n,j⟩:=id d;obtain⟨b,p,rfl,m,i⟩:=id c;by_cases g:a=b
   .subst g;rw[A9 _ _ o d c];exact EK
   .obtain⟨f,l,rfl⟩:=vk xs h e j i;unfold jm;exact MR (cH.of n) (cH.of m) g l
  .cases e
 |.lst xs,y,v,u,k,e,d,c=>by
  have o:=e;unfold dr at e;split at e
  .rename_i h;obtain⟨a,q,rfl,n,_,j⟩:=id d;obtain⟨b,p,rfl,m,_,i⟩:=id c;by_cases g:a=b
   .subst g;rw[A9 _ _ o d c];exact EK
   .obtain⟨f,l,rfl⟩:=vk xs h e j i;unfold jm;exact Kx (.inl n) (.inl m) g l
  .cases e
 |.non,y,v,u,k,e,d,c=>by unfold dr at e;rw[show v=V.non from d];exact yB rfl e c
 |.bl b,y,v,u,k,e,d,c=>by unfold dr at e;rw[show v=V.bl b from d];exact yB rfl e c
 |.int b,y,v,u,k,e,d,c=>by unfold dr at e;rw[show v=V.int b from d];exact yB rfl e c
 |.str b,y,v,u,k,e,d,c=>by unfold dr at e;rw[show v=tV b from d.1];exact yB rfl e c
 |.raw _,_,_,_,_,e,_,_=>by unfold dr at e;cases e
 |.exc _,_,_,_,_,e,_,_=>by unfold dr at e;cases e
theorem vk{H:Hp}{F:af->Prop}:∀(xs c:List PV) {d g:List V}{k:Bool},gb xs c=aa k->Reps K H F xs d->Reps K H F c g -> ∃f:Nat->Bool,(∀(j:Nat) x y,d[j]?=aa x->g[j]?=aa y->iW K H (gh xs) x y (f j))/\k=gy f d.length g.length
 |[],c,d,g,k,e,m,i=>by
  unfold gb at e;rw[show d=[] from m];refine⟨λ_=>ag,λj x y h=>by simp at h,?_⟩;have:=i.len;cases e;unfold gy;cases c with
  |nil=>simp at this;simp[this]
  |cons=>rw[this];simp
 |x::xs,c,d,g,k,e,m,i=>by
  unfold gb at e;obtain⟨v,r,rfl,A,z⟩:=m;cases c with
  |nil=>
   cases e;rw[show g=[] from i];exact⟨λ_=>ag,λj x y _ h=>by simp at h,by simp[gy]⟩
  |cons y c=>
   obtain⟨u,D,rfl,C,B⟩:=i;simp only at e;cases l:dr x y with
   |none=>rw[l]at e;cases e
   |some a=>
    cases n:gb xs c with
    |none=>rw[l,n]at e;cases e
    |some b=>
     rw[l,n]at e;cases e;obtain⟨f,w,rfl⟩:=vk xs c n z B;refine⟨λj=>if j=0 then a else f (j-1),λj p q s o=>?_,by rw[cx,cx,S7]⟩;cases j with
     |zero=>simp at s o;subst s o;show iW K H _ _ _ (if(0:Nat)=0 then a else f (0-1));rw[if_pos rfl];exact IJ (To x y l A C) (by unfold gh;exact Nat.le_max_left _ _)
     |succ j=>show iW K H _ _ _ (if j+1=0 then a else f (j+1-1));rw[if_neg ∅];exact IJ (w j p q (by simpa using s) (by simpa using o)) (show gh xs<=max (jm x) (gh xs)from Nat.le_max_right _ _)
end
def eqT(neg:Bool)(x y:PV):Option PV:=match dG x,dG y with
 |some v,aa u=>if vo v u then aa (.bl (neg^^decide (v=u)))else ae
 |none,ae=>if jm x<=8 then(dr x y).map λk=>.bl (neg^^k)else ae
 |_,_=>ae
def HS(K:ay):R2:=λx y H Q=>GW x y H Q\/uW K am x y H Q
def EI(K:ay):R2:=λx y H Q=>FV x y H Q\/uW K ag x y H Q
theorem qo(a:X.A.units+64<cLine):bT X (eE .Eq) (HS X.K):=Ue.or (K0 a)
theorem rP(a:X.A.units+64<cLine):bT X (eE .NotEq) (EI X.K):=Ur.or (QC a)
theorem HV{H:Hp}{F:af->Prop}{x y:PV}{v u:V}{k:Bool}{Q:VK}{neg:Bool}(g:dG x=ae)(e:dr x y=aa k)(A:jm x<=8)(w:aU K H F x v)(s:aU K H F y u)(q:Q (.bl (neg^^k)) H):uW K neg v u H Q:=by
 have c:∀{d:Bool},k=d->Q (.bl (if neg=ag then !d else d)) H:=λ{d} z=>by subst z;cases neg <;> simpa using q
 cases x with
 |tup xs=>
  unfold dr at e;split at e
  .rename_i h;obtain⟨a,j,rfl,p,m⟩:=w;obtain⟨b,i,rfl,o,l⟩:=s;obtain⟨f,n,r⟩:=vk xs h e m l;unfold jm at A;exact⟨a,b,j,i,gh xs,f,rfl,rfl,.inr ⟨cH.of p,cH.of o⟩,∅,n,c r⟩
  .cases e
 |lst xs=>
  unfold dr at e;split at e
  .rename_i h;obtain⟨a,j,rfl,p,_,m⟩:=w;obtain⟨b,i,rfl,o,_,l⟩:=s;obtain⟨f,n,r⟩:=vk xs h e m l;unfold jm at A;exact⟨a,b,j,i,gh xs,f,rfl,rfl,.inl ⟨.inl p,.inl o⟩,∅,n,c r⟩
  .cases e
 |raw _=>unfold dr at e;cases e
 |exc _=>unfold dr at e;cases e
 |non=>cases g
 |bl _=>cases g
 |int _=>cases g
 |str _=>cases g
theorem pY:P2 K (HS K) (eqT am):=λF H x y v u Q pv g f e q=>by
 unfold eqT at e;split at e
 .rename_i a b d h;split at e
  .rename_i i;cases e;rw[jA g d,jA f h];refine .inl ⟨i,?_⟩;have:=q (.bl (decide (a=b))) F H (Al.refl ..) (by simp[aU]);exact this
  .cases e
 .rename_i d h;split at e
  .rename_i j;cases c:dr x y with
   |none=>rw[c]at e;cases e
   |some k=>
    rw[c]at e;cases e;exact .inr (HV (neg:=am) d c j g f (q _ F H (Al.refl ..) rfl))
  .cases e
 .cases e
theorem sQ:P2 K (EI K) (eqT ag):=λF H x y v u Q pv g f e q=>by
 unfold eqT at e;split at e
 .rename_i a b d h;split at e
  .rename_i i;cases e;rw[jA g d,jA f h];refine .inl ⟨i,?_⟩;have:=q (.bl (!decide (a=b))) F H (Al.refl ..) (by simp[aU]);exact this
  .cases e
 .rename_i d h;split at e
  .rename_i j;cases c:dr x y with
   |none=>rw[c]at e;cases e
   |some k=>
    rw[c]at e;cases e;exact .inr (HV (neg:=ag) d c j g f (q _ F H (Al.refl ..) rfl))
  .cases e
 .cases e
end
section
variable{X:Cx}{K:ay}
def xE(i j:Tx):Bool:=!(IS (tS j) (tS i) 0 (tS j).length 1).isEmpty
def iZ:List PV->Option (List V)
 |[]=>aa []
 |x::xs=>(dG x).bind λv=>(iZ xs).map λr=>v::r
theorem uN{H:Hp}{F:af->Prop}:∀{xs:List PV}{c a:List V},Reps K H F xs c->iZ xs=aa a->c=a/\a.all gc=ag
 |[],_,_,r,e=>by cases e;exact⟨r,rfl⟩
 |x::xs,_,a,⟨v,r,rfl,f,d⟩,e=>by
  unfold iZ at e;cases q:dG x with
  |none=>rw[q]at e;cases e
  |some w=>
   cases b:iZ xs with
   |none=>rw[q,b]at e;cases e
   |some i=>
    rw[q,b]at e;cases e;obtain⟨h,g⟩:=uN d b;exact⟨by rw[jA f q,h],by rw[tK,rH q,g];rfl⟩
def rO(neg:Bool):PV->PV->Option PV
 |.str x,.str y=>aa (.bl (neg^^xE x y))
 |x,.lst a=>(dG x).bind λv=>(iZ a).map λb=>.bl (neg^^u9 v b)
 |x,.tup a=>(dG x).bind λv=>(iZ a).map λb=>.bl (neg^^u9 v b)
 |_,_=>ae
def Is(K:ay):R2:=λx y H Q=>(∃i j,x=.str i/\y=.str j/\Q (.bl (!(IS j i 0 j.length 1).isEmpty)) H)\/Bi K am x y H Q
theorem Rs:bT X (eE .In) (Is X.K):=Ub.or Rz
theorem Fu{H:Hp}{F:af->Prop}{x:PV}{c:List PV}{v:V}{p:af}{b:List V}{Q:VK}{neg:Bool}{pv:PV}(g:aU K H F x v)(i:cf K H p b\/cH K H p b)(h:Reps K H F c b)(e:((dG x).bind λv=>(iZ c).map λf=>PV.bl (neg^^u9 v f))=aa pv) (q:∀w,aU K H F pv w->Q w H):Bi K neg v (.ref p) H Q:=by
 cases a:dG x with
 |none=>rw[a]at e;cases e
 |some w=>
  cases d:iZ c with
  |none=>rw[a,d]at e;cases e
  |some f=>
   rw[a,d]at e;cases e;obtain⟨rfl,j⟩:=uN h d;rw[jA g a];refine⟨p,b,rfl,i,rH a,j,?_⟩;have:=q _ rfl;cases neg <;> simpa using this
theorem KG:P2 K (Is K) (rO am):=λF H x y v u Q pv d c e q=>by
 unfold rO at e;split at e
 .cases e;exact .inl ⟨_,_,d.1,c.1,by have:=q _ F H (Al.refl ..) rfl;simpa[xE]using this⟩
 .obtain⟨a,h,rfl,g,_,f⟩:=c;exact .inr (Fu (neg:=am) d (.inl (.inl g)) f e λw b=>q w F H (Al.refl ..) b)
 .obtain⟨a,h,rfl,g,f⟩:=c;exact .inr (Fu (neg:=am) d (.inr (cH.of g)) f e λw b=>q w F H (Al.refl ..) b)
 .cases e
def bN:List PV->Option PV
 |[.str x]=>aa (.int x.length)
 |[.lst xs]=>aa (.int xs.length)
 |[.tup xs]=>aa (.int xs.length)
 |_=>ae
theorem gz{H:Hp}{F:af->Prop}{x:PV}{a:List V}(r:Reps K H F [x] a):∃v,a=[v]/\aU K H F x v:=by obtain⟨v,b,rfl,d,c⟩:=r;rw[show b=[] from c];exact⟨v,rfl,d⟩
theorem jo:PL K (λxs H Q=>∃x n,xs=[x]/\Fi K x H n/\Q (.int n) H) bN:=λF H xs h Q pv c e q=>by
 unfold bN at e;split at e
 .cases e;obtain⟨v,rfl,g⟩:=gz c;rw[g.1];exact⟨_,_,rfl,⟨by rw[ml];exact cM g.2 mr,rfl⟩,by rw[ml];exact q _ F H (Al.refl ..) rfl⟩
 .cases e;obtain⟨v,rfl,a,b,rfl,f,_,d⟩:=gz c;exact⟨_,_,rfl,.inl ⟨b,.inl f,rfl⟩,by rw[d.len];exact q _ F H (Al.refl ..) rfl⟩
 .cases e;obtain⟨v,rfl,a,b,rfl,f,d⟩:=gz c;exact⟨_,_,rfl,.inr ⟨b,cH.of f,rfl⟩,by rw[d.len];exact q _ F H (Al.refl ..) rfl⟩
 .cases e
def nu:List PV->Option PO
 |[.lst xs]=>aa (.lst xs)
 |[.tup xs]=>aa (.lst xs)
 |_=>ae
theorem Bt:jW K (λxs H Q=>∃p c,xs=[.ref p]/\(cf K H p c\/cH K H p c)/\∀l,H l=ae->Q (.ref l) (upd H l (.lst c))) nu:=λF H xs j Q m i h e q=>by
 unfold nu at e;split at e
 .cases e;obtain⟨v,rfl,a,d,rfl,g,_,f⟩:=gz h;exact⟨a,d,rfl,.inl (.inl g),λl b=>q l F _ _ (Al.new0 b) (ye b f) (yv b i trivial)⟩
 .cases e;obtain⟨v,rfl,a,d,rfl,g,f⟩:=gz h;exact⟨a,d,rfl,.inr (cH.of g),λl b=>q l F _ _ (Al.new0 b) (ye b f) (yv b i trivial)⟩
 .cases e
def jj:List PV->Option PV
 |[.lst xs]=>aa (.tup xs)
 |[.tup xs]=>aa (.tup xs)
 |_=>ae
theorem y0:PL K (λxs H Q=>∃p d,xs=[.ref p]/\((cf K H p d/\∀l,H l=ae->Q (.ref l) (upd H l (.tup d)))\/(cH K H p d/\Q (.ref p) H))) jj:=λF H xs i Q pv g e q=>by
 unfold jj at e;split at e
 .cases e;obtain⟨v,rfl,a,b,rfl,c,_,f⟩:=gz g;exact⟨a,b,rfl,.inl ⟨.inl c,λl h=>q _ F _ (Al.new0 h) ⟨l,b,rfl,bV,(Al.new0 h).reps f⟩⟩⟩
 .cases e;obtain⟨v,rfl,a,b,rfl,c,f⟩:=gz g;exact⟨a,b,rfl,.inr ⟨cH.of c,q _ F H (Al.refl ..) ⟨a,b,rfl,c,f⟩⟩⟩
 .cases e
def eM:List PV->Option (List Tx)
 |[]=>aa []
 |.str x::xs=>(eM xs).map (x::·)
 |_=>ae
def aj(ls:List Tx):List PV:=ls.map .str
theorem l_(ls:List Tx):eM (aj ls)=aa ls:=by
 induction ls with
 |nil=>rfl
 |cons x ls a=>show(eM (aj ls)).map (x::·)=_;rw[a];rfl
theorem nh:∀{xs:List PV}{a:List Tx},eM xs=aa a->xs=aj a
 |[],a,e=>by cases e;rfl
 |.str x::xs,a,e=>by
  unfold eM at e;cases q:eM xs with
  |none=>rw[q]at e;cases e
  |some r=>rw[q]at e;cases e;rw[nh q];rfl
 |.non::_,_,e=>by cases e
 |.bl _::_,_,e=>by cases e
 |.int _::_,_,e=>by cases e
 |.tup _::_,_,e=>by cases e
 |.lst _::_,_,e=>by cases e
 |.raw _::_,_,e=>by cases e
 |.exc _::_,_,e=>by cases e
theorem T_{H:Hp}{F:af->Prop}:∀{a:List Tx}{b:List V},Reps K H F (aj a) b↔b=bB a/\∀x∈a,x.length<=bG
 |[],b=>by simp[aj,Reps,bB]
 |x::a,b=>by
  show(∃v r,b=v::r/\(v=tV x/\x.length<=bG)/\Reps K H F (aj a) r)↔_;constructor
  .rintro⟨v,r,rfl,⟨rfl,f⟩,h2⟩;obtain⟨rfl,d⟩:=T_.mp h2;exact⟨rfl,λy c=>by
    rcases bo.mp c with rfl|c
    .exact f
    .exact d y c⟩
  .rintro⟨rfl,h⟩;exact⟨tV x,bB a,rfl,⟨rfl,h x (by simp)⟩,T_.mpr ⟨rfl,λy c=>h y (by simp[c])⟩⟩
def ng:List PV->Option (List Bool)
 |[]=>aa []
 |.bl b::xs=>(ng xs).map (b::·)
 |_=>ae
theorem Gw{H:Hp}{F:af->Prop}:∀{xs:List PV}{a:List V}{bs:List Bool},Reps K H F xs a->ng xs=aa bs->a=bs.map V.bl
 |[],_,_,r,e=>by cases e;exact r
 |.bl b::xs,_,bs,⟨v,r,rfl,d,c⟩,e=>by
  unfold ng at e;cases q:ng xs with
  |none=>rw[q]at e;cases e
  |some f=>rw[q]at e;cases e;rw[Gw c q,show v=V.bl b from d];rfl
 |.non::_,_,_,_,e=>by cases e
 |.str _::_,_,_,_,e=>by cases e
 |.int _::_,_,_,_,e=>by cases e
 |.tup _::_,_,_,_,e=>by cases e
 |.lst _::_,_,_,_,e=>by cases e
 |.raw _::_,_,_,_,e=>by cases e
 |.exc _::_,_,_,_,e=>by cases e
def sN:List PV->Option PV
 |[.lst xs]=>(ng xs).map λbs=>.bl (bs.all id)
 |_=>ae
theorem CF:PL K (λxs H Q=>∃(p:af) (bs:List Bool),xs=[.ref p]/\cf K H p (bs.map V.bl)/\Q (.bl (bs.all id)) H) sN:=λF H xs h Q pv f e q=>by
 unfold sN at e;split at e
 .rename_i d;cases b:ng d with
  |none=>rw[b]at e;cases e
  |some bs=>
   rw[b]at e;cases e;obtain⟨v,rfl,a,i,rfl,c,_,g⟩:=gz f;rw[Gw g b]at c;exact⟨a,bs,rfl,.inl c,q _ F H (Al.refl ..) rfl⟩
 .cases e
def vM:PV->Option String
 |.non=>aa "NoneType"
 |.bl _=>aa "bool"
 |.int _=>aa "int"
 |.str _=>aa "str"
 |.tup _=>aa "tuple"
 |.lst _=>aa "list"
 |_=>ae
def jn:List PV->Option PV
 |[x,.raw (.ty T)]=>(vM x).bind λt=>(iO [] (.type t) (.type T)).map λb=>.bl b
 |_=>ae
theorem rM:dE X (.builtin "isinstance") (λxs H Q=>∃x t T b,xs=[x,.ty T]/\i6 X.K H x (.type t)/\iO X.K (.type t) (.type T)=aa b/\Q (.bl b) H):=by
 intro l s g H xs i Q I r h;obtain⟨x,t,T,b,rfl,ty,e,q⟩:=h;cases r with
 |cons f d=>
  cases d with
  |cons c a=>
   cases a;cases c;exact NN I f ty e λj=>⟨.bl b,H,I.tok _,rfl,q⟩
theorem Op{H:Hp}{F:af->Prop}{x:PV}{v:V}{t:String}(r:aU K H F x v)(e:vM x=aa t):i6 K H v (.type t):=by
 cases x with
 |non=>cases e;rw[show v=V.non from r];exact .non
 |bl b=>cases e;rw[show v=V.bl b from r];exact .bl b
 |int b=>cases e;rw[show v=V.int b from r];exact .int b
 |str b=>cases e;rw[show v=tV b from r.1];exact .str _
 |tup xs=>cases e;obtain⟨a,d,rfl,c,_⟩:=r;exact .tup c
 |lst xs=>
  cases e;obtain⟨a,d,rfl,c,_⟩:=r;rcases c with c|⟨o,c⟩
  .exact .lst c
  .exact .frz c
 |raw _=>cases e
 |exc _=>cases e
theorem sr:PL K (λxs H Q=>∃x t T b,xs=[x,.ty T]/\i6 K H x (.type t)/\iO K (.type t) (.type T)=aa b/\Q (.bl b) H) jn:=λF H xs i Q pv d e q=>by
 unfold jn at e;split at e
 .rename_i x T;cases a:vM x with
  |none=>rw[a]at e;cases e
  |some t=>
   cases c:iO [] (.type t) (.type T)with
   |none=>rw[a,fj,c]at e;cases e
   |some b=>
    rw[a,fj,c]at e;cases e;obtain⟨v,j,rfl,h,g⟩:=d;obtain⟨u,rfl,f⟩:=gz g;rw[show u=V.ty T from f];exact⟨v,t,T,b,rfl,Op h a,c,q _ F H (Al.refl ..) rfl⟩
 .cases e
theorem rQ{E:XK}{x:Str}{T:String}{f:Pos}(c:X.mg x=ae)(a:eA x=aa (.type T))(d:Gl X x:=by rfl)(b:x≠"__name__":=by decide)(g:(x==("__debug__":Str))=am:=by decide):DE X E (.Name x f) (dC (.raw (.ty T))):=λF S i h H Q r q=>bZ (Oh (v:=.ty T) d c a rfl b g) (q F S H r (bA.refl ..) _ rfl)
def bv:PV->PV->Option PV
 |.lst xs,.int i=>io xs i
 |.tup xs,.int i=>io xs i
 |.str x,.int i=>(io x i).map λc=>.str [c]
 |_,_=>ae
theorem ES{H:Hp}{F:af->Prop}{xs:List PV}{a:List V}{i:Int}{x:PV}(r:Reps K H F xs a)(e:io xs i=aa x):∃v,io a i=aa v/\aU K H F x v:=by
 unfold io at e ⊢;rw[r.len];cases q:kw xs.length i with
 |none=>rw[q]at e;cases e
 |some j=>rw[q]at e;exact r.get e
theorem gG:P2 K (HL K) bv:=λF H x y v u Q pv b f e q=>by
 unfold bv at e;split at e
 .rename_i xs i;obtain⟨a,d,rfl,j,_,g⟩:=b;obtain⟨w,m,l⟩:=ES g e;exact .inl ⟨a,d,i,w,rfl,f,.inl j,m,q _ F H (Al.refl ..) l⟩
 .rename_i xs i;obtain⟨a,d,rfl,j,g⟩:=b;obtain⟨w,m,l⟩:=ES g e;exact .inr (.inl ⟨a,d,i,w,rfl,f,cH.of j,m,q _ F H (Al.refl ..) l⟩)
 .rename_i x i;cases h:io x i with
  |none=>rw[h]at e;cases e
  |some c=>
   rw[h]at e;cases e;rw[b.1];exact .inr (.inr ⟨_,i,c,rfl,f,by rw[ml];exact cM b.2 mr,by rw[fL];exact h,q _ F H (Al.refl ..) ⟨rfl,by show 1<=bG;decide⟩⟩)
 .cases e
def dU{a:Type}(xs:List a)(b c:Option Int):List a:=(xs.drop (HT.sIx xs.length 0 b)).take (HT.sIx xs.length xs.length c-HT.sIx xs.length 0 b)
theorem Po{a:Type}(xs:List a)(b c:Option Int):(dU xs b c).length<=xs.length:=by unfold dU;rw[mF,lF];lia
def gU:PV->Option Int->Option Int->Option PV
 |.str x,a,b=>aa (.str (dU x a b))
 |.lst xs,a,b=>aa (.lst (dU xs a b))
 |.tup xs,a,b=>if HT.sIx xs.length 0 a=0/\HT.sIx xs.length xs.length b=xs.length then ae else aa (.tup (dU xs a b))
 |_,_,_=>ae
def yk(K:ay):V->Option Int->Option Int->Hp->VK->Prop:=λx a b H Q=>Gz x a b H Q\/(F6 K x a b H Q\/Hq K x a b H Q)
theorem tu:k9 X (yk X.K):=T7.or (Ua.or NH)
theorem Fg{H:Hp}{F:af->Prop}{xs:List PV}{a:List V}(r:Reps K H F xs a)(b c:Option Int):Reps K H F (dU xs b c) (oI a b c):=by unfold dU oI;rw[r.len];exact(r.drop _).take _
theorem qp:Bn K (yk K) gU:=λF H x h i v Q pv b e q=>by
 unfold gU at e;split at e
 .cases e;rw[b.1];refine .inl ⟨_,rfl,by rw[ml];exact cM b.2 mr,?_⟩;refine q _ F H (Al.refl ..) ⟨?_,cM (Po ..) b.2⟩;unfold mi dU;rw[ml,fL];rfl
 .cases e;obtain⟨a,f,rfl,g,_,d⟩:=b;exact .inr (.inl ⟨a,f,rfl,.inl g,λp c=>q _ _ _ (Al.new c) ⟨p,_,rfl,.inl bV,.inr rfl,(Al.new c).reps (Fg d h i)⟩⟩)
 .split at e
  .cases e
  .rename_i j;cases e;obtain⟨a,f,rfl,g,d⟩:=b;exact .inr (.inr ⟨a,f,rfl,cH.of g,by rw[d.len];exact j,λp c=>q _ _ _ (Al.new0 c) ⟨p,_,rfl,bV,(Al.new0 c).reps (Fg d h i)⟩⟩)
 .cases e
variable{E:XK}{g l a b:aD}{d:ak->R PV}{m:ak->R (List PV)}{p f:Pos}
def ir:PV->Option (List PV)
 |.lst xs=>aa xs
 |.tup xs=>aa xs
 |.str x=>aa (x.map λc=>.str [c])
 |_=>ae
def bp(d:ak->R PV):ak->R (List PV):=λε=>(d ε).bind λx ε1=>aJ (ir x) ε1
theorem FN{H:Hp}{F:af->Prop}:∀(x:Tx),Reps K H F (x.map λc=>PV.str [c]) (x.map sg)
 |[]=>rfl
 |c::x=>⟨sg c,x.map sg,rfl,⟨rfl,by show 1<=bG;decide⟩,FN x⟩
theorem gf(he:DE X E l d):DI X E g l (bp d):=λF S ε Z H Rr rl h=>Bx.mk λah s I=>by
 have w:=he F S ε Z H (λv r=>∃B D u x,aS X.K B D u Z r/\aU X.K r B x v/\Ok X.K E Z B D r (aJ (ir x) u) (λpvs _ F' S' H'=>∀J L RR,Reps X.K H' F' pvs L->L.length<=bn->Walk J L RR->(∀S'' F'' Y,bA (U S') (U S'') F' F'' H' Y->RR Y)->Rr J H')) rl
  ((Ok.bind h).imp λx u B D r G g1 q v N=>⟨B,D,u,x,G,N,q⟩)
 refine a6 (w.run ah s I) λv c ζ=>?_;obtain⟨x,r,y,rx,B,D,u,pv,G,N,q⟩:=ζ;cases pv with
 |lst xs=>
  obtain⟨a,M,rfl,C,hF,ra⟩:=N;cases rx;obtain⟨O,rr,pp,P⟩:=y.list (.inl C);refine Jl pp.isList ?_;refine⟨c.heap.objs.size,[c.heap.objs.size],_,_,r,rfl,y.kept (t':=c.toks) λb o e=>bD _ e,O9 a _,⟨_,cD _ rfl,rfl,rfl⟩,λb T=>?_,q B D r G (bA.refl ..) (AD X.K a) M (λH=>cf X.K H a M) ra P Pl λS2 F2 H2 g2=>.inl (g2.lst G.fit hF C)⟩;have e:b=c.heap.objs.size:=by simpa using T
  subst e;exact y.fpOk (a8 _) (y.hok.fresh (a8 _))
 |tup xs=>
  obtain⟨a,M,rfl,C,ra⟩:=N;cases rx;obtain⟨O,rr,pp,P⟩:=y.tuple (cH.of C);refine De (show c.heap.IsTuple a O.toArray from pp) ?_;refine⟨c.heap.objs.size,[c.heap.objs.size],_,_,r,rfl,y.kept (t':=c.toks) λb o e=>bD _ e,Rv a _,⟨_,cD _ rfl,rfl,rfl⟩,λb T=>?_,q B D r G (bA.refl ..) (BL X.K a) M (λH=>cH X.K H a M) ra P K7 λS2 F2 H2 g2=>cH.of (g2.imm G.fit C id)⟩;have e:b=c.heap.objs.size:=by simpa using T
  subst e;exact y.fpOk (a8 _) (y.hok.fresh (a8 _))
 |str z=>
  obtain⟨rfl,P⟩:=N;obtain⟨t,rfl⟩:=rx;have qq:Rr (vL (tS z)) r:=q B D r G (bA.refl ..) (vL (tS z)) (z.map sg) (λ_=>True) (FN z) (by rw[bX];exact cM P mr) (by have:=Qo (z:=tS z);rw[fL]at this;exact this) λ_ _ _ _=>trivial;have W:∀(n:String) (j:Nat->az->Prop),(∀i h,j i h->∃o n L,h.get? c.heap.objs.size=aa o/\o.cls=.type n/\o.data=.fields L /\ ["enumerate","zip","dict_itemiterator","dict_reverseitemiterator","odict_iterator","itertools.zip_longest","itertools.pairwise"].contains n=am) ->
    (∀(A:aR) (i:Nat) (s:ao) (Q:ai->ao->Prop) (E:ai->ao->Prop),j i s.heap->Q (.ref c.heap.objs.size) s->ar (aw X.prog X.w) A (nI (.ref c.heap.objs.size)) Q E s) ->
    (∀A:aR,A.handled=ae->Walks X.prog X.w A c.heap.objs.size [c.heap.objs.size] [c.heap.objs.size] (tS z).cps.size (SignAt (tS z)) j) ->
    j 0 (c.heap.push {cls:=.type n,data:=.fields #[.str (tS z) t,.int 0 0]}) ->
    xN X ah Z g Rr (.ref c.heap.objs.size) {c with heap:=c.heap.push {cls:=.type n,data:=.fields #[.str (tS z) t,.int 0 0]}}:=λn j q h2 h3 h4=>by
   refine⟨c.heap.objs.size,[c.heap.objs.size],j,vL (tS z),r,rfl,y.kept (t':=c.toks) λb o e=>bD _ e,Re q h2 h3,h4,λb T=>?_,qq⟩;have e:b=c.heap.objs.size:=by simpa using T
   subst e;exact y.fpOk (a8 _) (y.hok.fresh (a8 _))
  cases C:(tS z).cps.all (· < 128)
  .refine wpAny_pyIter_wide C (W "str_iterator" (λi h=>h.IsStrIter c.heap.objs.size "str_iterator" (tS z) t i) (λi h ⟨o,e1,e2,e3⟩=>⟨o,_,_,e1,e2,e3,by decide⟩) (λA i s Q E st h=>wpAny_pyIter_striter_wide st h) (λA' hA=>Walks.strWide hA _ (tS z) t) ⟨_,cD _ rfl,rfl,rfl⟩)
  .refine wpAny_pyIter_ascii C (W "str_ascii_iterator" (λi h=>h.IsStrIter c.heap.objs.size "str_ascii_iterator" (tS z) t i) (λi h ⟨o,e1,e2,e3⟩=>⟨o,_,_,e1,e2,e3,by decide⟩) (λA i s Q E st h=>wpAny_pyIter_striter_ascii st h) (λA' hA=>Walks.strAscii hA _ (tS z) t) ⟨_,cD _ rfl,rfl,rfl⟩)
 |non=>exact(show False from q).elim
 |bl _=>exact(show False from q).elim
 |int _=>exact(show False from q).elim
 |raw _=>exact(show False from q).elim
 |exc _=>exact(show False from q).elim
def fF(c:Int)(n:Nat):List PV:=(cq n).map λi=>PV.int (c+(i:Nat))
theorem LQ{H:Hp}{F:af->Prop}(c:Int)(n:Nat):Reps K H F (fF c n) (si c n):=by
 unfold fF si
 induction (cq n)with
 |nil=>rfl
 |cons x xs h=>exact⟨_,_,rfl,rfl,h⟩
def lh:List PV->Option (List PV)
 |[.int j]=>if j<=1000000/\-1000000<=j then aa (fF 0 j.toNat)else ae
 |_=>ae
theorem xR(x:X.mg "range"=ae)(z:DA X E [a] m)(y:Gl X "range":=by rfl)(w:aM [a] X.env=[(am,aX a X.env)]:=by rfl):DI X E g (.Call (.Name "range" p) [a] [] f) (dL lh m):=λF S o i H J r h=>by
 refine Nn (SZ y x iq w) (z F S o i H _ r ((Ok.bind h).imp λxs n C A B s I c D u=>?_));unfold lh at c;split at c
 .rename_i j;split at c
  .rename_i G;obtain⟨v,rfl,q⟩:=gz u;refine⟨j,by rw[show v=V.int j from q],∅,∅,c C A B s (bA.refl ..) _ _ _ (LQ 0 j.toNat) (by rw[AT,qz];lia) NW λ_ _ _ _=>trivial⟩
  .exact c.elim
 .exact c.elim
end
section
variable{K:ay}{F:af->Prop}{S:Nat->af->Prop}{f:ak}{l:St}{H:Hp}{i:Nat}{p m:List PV}{d:List V}{a:af}
theorem aS.lstAt(r:aS K F S f l H)(e:f[i]?=aa (.own (.lst p))):∃a c,l[i]?=aa (aa (.ref a))/\H a=aa (.lst c)/\Reps K H F p c/\S i a/\∀b,S i b->b=a:=by obtain⟨a,o,⟨c,n,j⟩,g⟩:=r.own i _ e;exact⟨a,c,o,n,j,(g a).mpr rfl,λb h=>(g b).mp h⟩
theorem aS.upd(r:aS K F S f l H)(e:f[i]?=aa (.own (.lst p)))(E:l[i]?=aa (aa (.ref a)))(h:Reps K H F m d):aS K F S (f.set i (.own (.lst m))) l (upd H a (.lst d))/\bA (U S) (U S) F F H (upd H a (.lst d)):=by
 obtain⟨O,L,G,N,M,y,C⟩:=r.lstAt e;rw[E]at G;cases G;have B:i<f.length:=(c9.mp e).1;have g:bA (U S) (U S) F F H (L2.upd H a (.lst d)):=⟨λ_ z=>z,λb o q n=>by rw[bO (by rintro rfl;exact n ⟨i,y⟩)];exact q,λb o q=>by
  by_cases D:b=a
  .subst D;exact⟨_,bV⟩
  .exact⟨o,by rw[bO D];exact q⟩,λ_ z=>.inl z,λ_ z=>.inl z⟩
 refine⟨⟨by rw[gL];exact r.len,λb z=>let ⟨o,q⟩:=r.ex b z;g.there b o q,λj pv q=>?_,λj A q=>?_,λj b z=>?_,r.dist⟩,g⟩
 .have s:i≠j:=by rintro rfl;rw[gi B]at q;cases q
  rw[eD s]at q;obtain⟨v,x,u⟩:=r.val j pv q;exact⟨v,x,u.grow g r.fit⟩
 .by_cases s:i=j
  .subst s;rw[gi B]at q;cases q;exact⟨a,E,⟨d,bV,h.grow g r.fit⟩,λb=>⟨C b,λz=>by rw[z];exact y⟩⟩
  .rw[eD s]at q;obtain⟨c,x,u⟩:=r.own j A q;refine⟨c,x,u.mono (λ_ _ z=>z.grow g r.fit) (λ_ _ z=>z.grow g r.fit) λb o z w=>?_⟩;rw[bO (by rintro rfl;exact s (r.dist i j b y z))];exact w
 .obtain⟨⟨A,x⟩,u,o,J,I⟩:=r.foot j b z;by_cases s:i=j
  .subst s;rw[C b z];exact⟨⟨_,gi B⟩,by rw[<-C b z];exact u,_,bV,trivial⟩
  .exact⟨⟨A,by rw[eD s];exact x⟩,u,o,by rw[bO (by rintro rfl;exact s (r.dist i j b y z))];exact J,I⟩
end
section
variable{X:Cx}{E:XK}{pin:List Nat}{e b:aD}{de db:ak->R PV}{d:Pos}
def cB(ε:ak)(i:Nat):Option (List PV):=match ε[i]? with
 |some (.own (.lst xs))=>aa xs
 |_=>ae
theorem fM{a:ak}{i:Nat}{xs:List PV}(h:cB a i=aa xs):a[i]?=aa (.own (.lst xs)):=by
 unfold cB at h;split at h
 .cases h;assumption
 .cases h
def ji(i:Nat)(de:ak->R PV):ak->R aH:=λa=>(aJ (cB a i) a).bind λ_ a=>(de a).bind λy ε1=>(aJ (cB ε1 i) ε1).bind λxs ε1=>if xs.length<bG then .ok .next (ε1.set i (.own (.lst (xs++[y]))))else .no
theorem vg(i:Nat){x:Str}{p f c:Pos}(N:DE X E e de)(Q:X.N[i]?=aa x:=by rfl)(K:eR X.env.scope x:=by first|exact Or.inl rfl|exact Or.inr (Or.inl rfl)|exact Or.inr (Or.inr rfl))(O:(x==("__debug__":Str))=am:=by decide)(bu:(x==("__classdict__":Str))=am:=by decide) (Z:kf (.Name x p) "append" X.env (aX (.Name x p) X.env)=aX (.Name x p) X.env:=by rfl)(Y:((cE c (aM [e] X.env)).all (λx=>!x.1)&&(mD c (mE [] X.env)).all (λx=>x.1.isSome)&&decide ([e].length+([]:List gJ).length+(if([]:List gJ).isEmpty then 0 else 1)<30))=ag:=by rfl)(W:(f.endLine == c.line)=ag:=by rfl) (z:aM [e] X.env=(am,aX e X.env)::aM [] X.env:=by rfl) (T:(cE c (aM [] X.env)).any (·.1)=am:=by rfl)(L:jG (.Call (.Attribute (.Name x p) "append" f) [e] [] c) ae d.line X.env=pure am:=by rfl):DS X E pin (.Expr (.Call (.Attribute (.Name x p) "append" f) [e] [] c) d) (ji i de):=λF S r o H D s h=>by
 unfold ji at h;cases n:cB r i with
 |none=>rw[n]at h;exact h.elim
 |some A=>
  rw[n]at h;simp only[cP,R.bind_ok]at h;obtain⟨a,B,m,P,_,_,_⟩:=s.lstAt (fM n);refine gC (yC (sZ wd PySem.F.slot_list_append PySem.F.type_list_append GQ (fJ Q K O bu) (gB bP iG z) Z Y W z T) L) ⟨.ref a,m,.inl ⟨rfl,_,cf.of P⟩,?_⟩;refine N F S r o H _ s (h.bindE.imp λy l F1 S1 H1 w g1 q v G=>?_);cases j:cB l i with
  |none=>rw[j]at q;exact q.elim
  |some xs=>
   rw[j]at q;simp only[cP,R.bind_ok]at q;obtain⟨a',C,g,J,u,_,_⟩:=w.lstAt (fM j);rw[m]at g;cases g;split at q
   .rename_i M;obtain⟨I,g2⟩:=w.upd (fM j) m (u.app (.one G));exact⟨a,C,v,rfl,rfl,J,by rw[u.len];exact gH M mr,q F1 S1 o _ I g2 (jb.refl _ _)⟩
   .exact q.elim
def O3:V->List V->Hp->VK->Prop:=λx c H Q=>∃l b xs a,x=.ref l/\c=[.ref b]/\H l=aa (.lst xs)/\Rd H b (.lst a)/\xs.length+a.length<=bn/\Q .non (L2.upd H l (.lst (xs++a)))
theorem PD:qt X "list.extend" O3:=by
 intro M s B H x D v G Q I j m h;obtain⟨l,b,xs,C,rfl,rfl,i,w,J,q⟩:=h;cases j;obtain⟨u,rfl,o⟩:=m.one;cases o;obtain⟨z,c,n,r,K,e⟩:=I.lstM i;obtain⟨a,p,g,y,_⟩:=BZ I w;have L:=g.length;have f:c.toArray.size+a.toArray.size<=bn:=by rw[cc,cc];lia
 have A:¬(!c.toArray.isEmpty&&Jf (c.toArray.size+a.toArray.size))=ag:=by rw[Q5 f,zC];exact eP
 refine pe F.slot_list_extend ⟨_,e,rfl⟩ F.entry_list_extend (F.args_list_extend_2 _ _)
  (AutoSeq1.list_extend_list_list_0 l c.toArray n b a.toArray p A (by rw[cc];lia) ∅) ⟨e,y,?_⟩
 refine⟨.non,_,I.lset (its':=c++a) i e (by simp) (r.append g) ?_,rfl,q⟩;rw[c0];lia
def fK(i:Nat)(de:ak->R PV):ak->R aH:=λε=>(aJ (cB ε i) ε).bind λ_ ε=>(de ε).bind λy ε1=>(aJ (cB ε1 i) ε1).bind λxs ε1=>match y with
 |.lst a=>if xs.length+a.length<=bG then .ok .next (ε1.set i (.own (.lst (xs++a))))else .no
 |_=>.no
theorem u6(i:Nat){x:Str}{p g f:Pos}(Q:DE X E e de)(Z:X.N[i]?=aa x:=by rfl)(N:eR X.env.scope x:=by first|exact Or.inl rfl|exact Or.inr (Or.inl rfl)|exact Or.inr (Or.inr rfl))(T:(x==("__debug__":Str))=am:=by decide)(bu:(x==("__classdict__":Str))=am:=by decide) (h1:kf (.Name x p) "extend" X.env (aX (.Name x p) X.env)=aX (.Name x p) X.env:=by rfl)(h2:((cE f (aM [e] X.env)).all (λx=>!x.1)&&(mD f (mE [] X.env)).all (λx=>x.1.isSome)&&decide ([e].length+([]:List gJ).length+(if([]:List gJ).isEmpty then 0 else 1)<30))=ag:=by rfl)(h3:(g.endLine == f.line)=ag:=by rfl) (B:aM [e] X.env=(am,aX e X.env)::aM [] X.env:=by rfl) (h5:(cE f (aM [] X.env)).any (·.1)=am:=by rfl)(O:jG (.Call (.Attribute (.Name x p) "extend" g) [e] [] f) ae d.line X.env=pure am:=by rfl):DS X E pin (.Expr (.Call (.Attribute (.Name x p) "extend" g) [e] [] f) d) (fK i de):=λF S s r H D u h=>by
 unfold fK at h;cases o:cB s i with
 |none=>rw[o]at h;exact h.elim
 |some C=>
  rw[o]at h;simp only[cP,R.bind_ok]at h;obtain⟨a,G,n,Y,_,_,_⟩:=u.lstAt (fM o);refine gC (yC (sZ wd PySem.F.slot_list_extend PySem.F.type_list_extend PD (fJ Z N T bu) (gB bP iG B) h1 h2 h3 B h5) O) ⟨.ref a,n,.inl ⟨rfl,_,cf.of Y⟩,?_⟩;refine Q F S s r H _ u (h.bindE.imp λy m F1 S1 H1 A g1 q v K=>?_);cases l:cB m i with
  |none=>rw[l]at q;exact q.elim
  |some xs=>
   rw[l]at q;simp only[cP,R.bind_ok]at q;obtain⟨a',I,j,M,z,_,_⟩:=A.lstAt (fM l);rw[n]at j;cases j;split at q
   .rename_i ys;split at q
    .rename_i P;obtain⟨c,J,rfl,W,_,w⟩:=K;obtain⟨L,g2⟩:=A.upd (fM l) n (z.app w);exact⟨a,c,I,J,rfl,rfl,M,W,by rw[z.len,w.len];exact cM P mr,q F1 S1 r _ L g2 (jb.refl _ _)⟩
    .exact q.elim
   .exact q.elim
def zc(i:Nat)(db de:ak->R PV):ak->R aH:=λf=>(de f).bind λy c=>(aJ (cB c i) c).bind λ_ c=>(db c).bind λk a=>(aJ (cB a i) a).bind λxs a=>match k with
 |.int k=>match kw xs.length k with
  |some j=>.ok .next (a.set i (.own (.lst (xs.set j y))))
  |none=>.no
 |_=>.no
theorem Qj(i:Nat){x:Str}{p c:Pos}(Z:DE X E b db)(W:DE X E e de)(hN:X.N[i]?=aa x:=by rfl)(P:eR X.env.scope x:=by first|exact Or.inl rfl|exact Or.inr (Or.inl rfl)|exact Or.inr (Or.inr rfl))(Y:(x==("__debug__":Str))=am:=by decide)(bu:(x==("__classdict__":Str))=am:=by decide) (ha:∀v,o7 (.Subscript (.Name x p) b c) X.env v=(do
   let ov <-lA [v] (aX (.Name x p) X.env)
   let iv <-lA [v,ov] (aX b X.env)
   standAt c
   lA [v,ov,iv] (setItem ov iv v)
   release [v,ov,iv] []):=by intro _;rfl) (Q:swapsWithSole [.Subscript (.Name x p) b c] e d.line X.env=pure am:=by rfl) (O:swappedStores [.Subscript (.Name x p) b c] e X.env=pure ae:=by rfl)
  (h1:(tE [.Subscript (.Name x p) b c] X.env).map (·.2)=[o7 (.Subscript (.Name x p) b c) X.env]:=by rfl):DS X E pin (.Assign [.Subscript (.Name x p) b c] e d) (zc i db de):=λF S B n H D L h=>by
 refine gC (Gd bP (Kc (fJ hN P Y bu) bP Sx ha) Q O h1) (W F S B n H _ L (h.bindE.imp λy g F1 S1 H1 r g1 q v J=>?_));cases w:cB g i with
 |none=>rw[w]at q;exact q.elim
 |some C=>
  rw[w]at q;simp only[cP,R.bind_ok]at q;obtain⟨a,G,s,ha0,_,_,_⟩:=r.lstAt (fM w);refine⟨.ref a,s,Z F1 S1 g n H1 _ r (q.bindE.imp λk o F2 S2 H2 A g2 f u K=>?_)⟩;cases m:cB o i with
  |none=>rw[m]at f;exact f.elim
  |some xs=>
   rw[m]at f;simp only[cP,R.bind_ok]at f;obtain⟨a',I,l,N,z,_,_⟩:=A.lstAt (fM m);rw[s]at l;cases l;split at f
   .rename_i k;split at f
    .rename_i j T;obtain⟨M,g3⟩:=A.upd (fM m) s (z.set (J.grow g2 r.fit) j);exact⟨a,I,k,j,rfl,K,N,by rw[z.len];exact T,f F2 S2 n _ M g3 (jb.refl _ _)⟩
    .exact f.elim
   .exact f.elim
end
mutual
def imm:PV->Bool
 |.lst _=>am
 |.tup xs=>ip xs
 |_=>ag
def ip:List PV->Bool
 |[]=>ag
 |x::xs=>imm x&&ip xs
end
mutual
theorem aU.imm{K:ay}{H:Hp}{F g:af->Prop}:∀(x:PV) {v:V},imm x=ag->aU K H F x v->aU K H g x v
 |.non,_,_,h=>h
 |.bl _,_,_,h=>h
 |.int _,_,_,h=>h
 |.str _,_,_,h=>h
 |.raw _,_,_,h=>h
 |.exc _,_,_,h=>h
 |.lst _,_,e,_=>by simp[Pu.imm]at e
 |.tup xs,_,e,⟨a,b,f,d,c⟩=>⟨a,b,f,d,Reps.imm xs (by simpa[Pu.imm]using e) c⟩
theorem Reps.imm{K:ay}{H:Hp}{F g:af->Prop}:∀(xs:List PV) {a:List V},ip xs=ag->Reps K H F xs a->Reps K H g xs a
 |[],_,_,h=>h
 |x::xs,_,e,⟨v,r,f,d,c⟩=>by
  have b:imm x=ag/\ip xs=ag:=by simpa[ip]using e
  exact⟨v,r,f,aU.imm x b.1 d,Reps.imm xs b.2 c⟩
end
section
variable{K:ay}{F:af->Prop}{S:Nat->af->Prop}{d:ak}{c:St}{H:Hp}{i:Nat}{f:List PV}
theorem aS.look(r:aS K F S d c H)(e:d[i]?=aa (.own (.lst f))):∃a,c[i]?=aa (aa (.ref a))/\¬F a/\aU K H (λb=>F b\/b=a) (.lst f) (.ref a)/\(∀b,F b\/b=a->∃o,H b=aa o) /\ (∀{h g},Al (λb=>F b\/b=a) h H g->Al F (λb=>h b/\b≠a) H g):=by
 obtain⟨a,m,q,l,p,n,s⟩:=r.lstAt e;have j:¬F a:=(r.foot i a n).2.1;refine⟨a,q,j,⟨a,m,rfl,.inl l,.inr rfl,Reps.mono (λ_ z=>.inl z) (λ_ _ _ z=>z) (λ_ _ z _=>z) _ _ p⟩,λb z=>z.elim (r.ex b) λz=>by rw[z];exact⟨_,l⟩,λ{h g} al=>⟨λb z=>⟨al.fro b (.inl z),by rintro rfl;exact j z⟩,al.same,λb z=>?_⟩⟩;rcases al.fnew b z.1 with(w|w)|w
 .exact .inl w
 .exact absurd w z.2
 .exact .inr w
end
section
variable{X:Cx}{E:XK}{e b:aD}{de db:ak->R PV}{d p:Pos}{x y:Str}{l T:String}{r:List V->Hp->VK->Prop}{f:List PV->Option PV}{g:List PV->Option PO}
def je(o:Option PV):Option PV:=o.bind λv=>if imm v then aa v else ae
theorem Ep{o:Option PV}{v:PV}(h:je o=aa v):o=aa v/\imm v=ag:=by
 cases o with
 |none=>cases h
 |some w=>
  have h:(if imm w then aa w else ae)=aa v:=h;split at h
  .cases h;exact⟨rfl,by assumption⟩
  .cases h
def B4:PO->Bool
 |.lst xs=>ip xs
 |_=>am
def fh{a:Type}(f:List PV->Option a)(i:Nat):ak->R a:=λε=>(aJ (cB ε i) ε).bind λxs ε=>aJ (f [.lst xs]) ε
theorem IC{F:af->Prop}{S:Nat->af->Prop}{m:ak}{j:St}{H:Hp}{Q:VK}{i:Nat}(B:PL X.K r f)(s:aS X.K F S m j H)(h:Ok X.K E j F S H (fh (λxs=>je (f xs)) i m) (λpv _ z _ c=>∀v,aU X.K c z pv v->Q v c)):∃a,j[i]?=aa (aa (.ref a))/\r [.ref a] H Q:=by
 unfold fh at h;cases q:cB m i with
 |none=>rw[q]at h;exact h.elim
 |some xs=>
  rw[q]at h;simp only[cP,R.bind_ok]at h;obtain⟨a,D,J,A,C,u⟩:=s.look (fM q);refine⟨a,D,?_⟩;cases o:je (f [.lst xs])with
  |none=>rw[o]at h;exact h.elim
  |some pv=>rw[o]at h;obtain⟨I,G⟩:=Ep o;exact B _ H [.lst xs] [.ref a] Q pv (.one A) I λw z c al n=>h _ S c (s.al (u al)) (u al).grow w (aU.imm pv G n)
theorem Hj(i:Nat)(A:dE X (.builtin l) r)(s:PL X.K r f)(v:X.mg x=ae)(n:eA x=aa (.builtin l))(B:X.N[i]?=aa y:=by rfl)(C:eR X.env.scope y:=by first|exact Or.inl rfl|exact Or.inr (Or.inl rfl)|exact Or.inr (Or.inr rfl))(z:(y==("__debug__":Str))=am:=by decide) (I:(y==("__classdict__":Str))=am:=by decide) (w:Gl X x:=by rfl) (u:x≠"__name__":=by decide) (m:(x==("__debug__":Str))=am:=by decide) {c:Pos}(h:aM [.Name y c] X.env=(am,aX (.Name y c) X.env)::aM [] X.env:=by rfl) (G:(cE d (aM [] X.env)).any (·.1)=am:=by rfl):DE X E (.Call (.Name x p) [.Name y c] [] d) (fh (λxs=>je (f xs)) i):=λF S K J H Q j q=>by obtain⟨a,D,o⟩:=IC s j q;exact bZ (nB A w v n (gB (fJ B C z I) iG h) u m h G) ⟨_,D,o⟩
theorem O0(i:Nat)(A:dE X (.type T) r)(s:PL X.K r f)(v:X.mg x=ae)(n:eA x=aa (.type T))(B:X.N[i]?=aa y:=by rfl)(C:eR X.env.scope y:=by first|exact Or.inl rfl|exact Or.inr (Or.inl rfl)|exact Or.inr (Or.inr rfl))(z:(y==("__debug__":Str))=am:=by decide) (I:(y==("__classdict__":Str))=am:=by decide) (w:Gl X x:=by rfl) (u:x≠"__name__":=by decide) (m:(x==("__debug__":Str))=am:=by decide) {c:Pos}(h:aM [.Name y c] X.env=(am,aX (.Name y c) X.env)::aM [] X.env:=by rfl) (G:(cE d (aM [] X.env)).any (·.1)=am:=by rfl):DE X E (.Call (.Name x p) [.Name y c] [] d) (fh (λxs=>je (f xs)) i):=λF S K J H Q j q=>by obtain⟨a,D,o⟩:=IC s j q;exact bZ (sS A w v n (gB (fJ B C z I) iG h) u m h G) ⟨_,D,o⟩
def lp(o:Option PO):Option PO:=o.bind λv=>if B4 v then aa v else ae
theorem Rk{F:af->Prop}{S:Nat->af->Prop}{s:ak}{q:St}{H:Hp}{Q:VK}{i:Nat}(hp:jW X.K r g)(A:aS X.K F S s q H)(h:Ok X.K E q F S H (fh (λxs=>lp (g xs)) i s) (λB _ J S' n=>∀a u,fI X.K n J B a u->(∀b,u b->H b=ae/\¬J b/\¬U S' b/\∃o,n b=aa o/\eJ o)->Q (.ref a) n)):∃a,q[i]?=aa (aa (.ref a))/\r [.ref a] H Q:=by
 unfold fh at h;cases I:cB s i with
 |none=>rw[I]at h;exact h.elim
 |some xs=>
  rw[I]at h;simp only[cP,R.bind_ok]at h;obtain⟨a,ea,nF,Y,D,M⟩:=A.look (fM I);refine⟨a,ea,?_⟩;cases G:g [.lst xs]with
  |none=>rw[G]at h;exact h.elim
  |some B=>
   rw[G]at h;cases B with
   |dK m=>exact h.elim
   |lls kn=>exact h.elim
   |ins C fs=>exact h.elim
   |dT m=>exact h.elim
   |dN m=>exact h.elim
   |inl C fs y xs=>exact h.elim
   |lst v=>
    have h:Ok X.K E q F S H (aJ (if ip v then aa (PO.lst v)else ae) s) _:=h;split at h
    .rename_i hi;refine hp _ H [.lst xs] [.ref a] Q _ D (.one Y) G λc J n u al Z fr=>h _ S n (A.al (M al)) (M al).grow c u ?_ λb z=>?_
     .obtain⟨⟨W,o1,o2⟩,o3⟩:=Z;exact⟨⟨W,o1,Reps.imm v hi o2⟩,o3⟩
     .obtain⟨K,P,o,O,N⟩:=fr b z;refine⟨K,λw=>P w.1,λ⟨j,w⟩=>?_,o,O,N⟩;obtain⟨_,_,o',L,_⟩:=A.foot j b w;rw[K]at L;cases L
    .exact h.elim
theorem BK(i:Nat)(A:dE X (.builtin l) r)(s:jW X.K r g)(v:X.mg x=ae)(n:eA x=aa (.builtin l))(B:X.N[i]?=aa y:=by rfl)(C:eR X.env.scope y:=by first|exact Or.inl rfl|exact Or.inr (Or.inl rfl)|exact Or.inr (Or.inr rfl))(z:(y==("__debug__":Str))=am:=by decide) (I:(y==("__classdict__":Str))=am:=by decide) (w:Gl X x:=by rfl) (u:x≠"__name__":=by decide) (m:(x==("__debug__":Str))=am:=by decide) {c:Pos}(h:aM [.Name y c] X.env=(am,aX (.Name y c) X.env)::aM [] X.env:=by rfl) (G:(cE d (aM [] X.env)).any (·.1)=am:=by rfl):DN X E (.Call (.Name x p) [.Name y c] [] d) (fh (λxs=>lp (g xs)) i):=λF S K J H Q j q=>by obtain⟨a,D,o⟩:=Rk s j q;exact bZ (nB A w v n (gB (fJ B C z I) iG h) u m h G) ⟨_,D,o⟩
def rJ(f:PV->PV->Option PV)(i:Nat)(db:ak->R PV):ak->R PV:=λc=>(aJ (cB c i) c).bind λ_ c=>(db c).bind λk a=>(aJ (cB a i) a).bind λxs a=>aJ (je (f (.lst xs) k)) a
theorem RI{F:af->Prop}{S:Nat->af->Prop}{m:ak}{c:St}{H:Hp}{Q:VK}{i:Nat}{r:R2}{f:PV->PV->Option PV}(P:P2 X.K r f)(Y:DE X E b db)(G:aS X.K F S m c H)(h:Ok X.K E c F S H (rJ f i db m) (λpv _ L _ n=>∀v,aU X.K n L pv v->Q v n)):∃a,c[i]?=aa (aa (.ref a))/\jc X b c H λu D=>r (.ref a) u D Q:=by
 unfold rJ at h;cases C:cB m i with
 |none=>rw[C]at h;exact h.elim
 |some M=>
  rw[C]at h;simp only[cP,R.bind_ok]at h;obtain⟨a,vs,K,_⟩:=G.lstAt (fM C);refine⟨a,K,Y F S m c H _ G ((Ok.bind h).imp λk o F1 S1 D I g1 q u N=>?_)⟩;cases B:cB o i with
  |none=>rw[B]at q;exact q.elim
  |some xs=>
   rw[B]at q;simp only[cP,R.bind_ok]at q;obtain⟨a',j,nF,O,W,J⟩:=I.look (fM B);rw[K]at j;cases j;cases A:je (f (.lst xs) k)with
   |none=>rw[A]at q;exact q.elim
   |some pv=>rw[A]at q;obtain⟨e3,Z⟩:=Ep A;exact P _ D (.lst xs) k (.ref a) u Q pv O (aU.mono (λ_ z=>.inl z) (λ_ _ _ z=>z) (λ_ _ z _=>z) _ _ N) e3 λw L n al s=>q _ S1 n (I.al (J al)) (J al).grow w (aU.imm pv Z s)
end
def lc(h:az)(e T:af)(c g:ai):Prop:=∃a b f d,h.get? e=aa a/\a.cls=c/\(a.data=.fields b/\a.dict=ae)/\b[1]?=aa (.ref T)/\T≠e/\h.get? T=aa f/\f.data=.fields d/\d[3]?=aa g
def Made(h:az)(e:af)(c:ai):Prop:=∃a b,h.get? e=aa a/\a.cls=c/\(a.data=.fields b/\a.dict=ae)/\b[1]?=aa .none
structure Kp(fs:List af)(X:af->Prop)(h h':az):Prop where
 keep:∀b o,h.get? b=aa o->b∉fs->¬X b->h'.get? b=aa o
 slot:∀b o,h.get? b=aa o->b∈fs->¬X b->∃sl,h'.get? b=aa {o with slots:=sl}
 there:∀b o,h.get? b=aa o->∃o',h'.get? b=aa o'
theorem Kp.trans{fs:List af}{X Y:af->Prop}{h g f:az}(a:Kp fs X h g)(b:Kp fs Y g f):Kp fs (λc=>X c\/Y c) h f where
 keep:=λc o e n x=>b.keep c o (a.keep c o e n λz=>x (.inl z)) n λz=>x (.inr z)
 slot:=λc o e n x=>by obtain⟨l,j⟩:=a.slot c o e n λz=>x (.inl z);obtain⟨d,i⟩:=b.slot c _ j n λz=>x (.inr z);exact⟨d,i⟩
 there:=λc o e=>let ⟨o',e'⟩:=a.there c o e;b.there c o' e'
theorem Kp.imp{fs d:List af}{X Y:af->Prop}{h i:az}(a:Kp fs X h i)(f:∀b,b∈fs->b∈d)(hX:∀b o,h.get? b=aa o->X b->Y b):Kp d Y h i where
 keep:=λc o e n x=>a.keep c o e (λz=>n (f c z)) λz=>x (hX c o e z)
 slot:=λc o e n x=>by
  by_cases g:c∈fs
  .exact a.slot c o e g λz=>x (hX c o e z)
  .exact⟨o.slots,a.keep c o e g λz=>x (hX c o e z)⟩
 there:=a.there
theorem NL(f:Array ai->Array ai)(o:Obj):(lL f o).dict=o.dict:=by
 obtain⟨c,d,dt,a⟩:=o;cases dt <;> rfl
section
variable{M:Model}{A:aR}{E:ai->ao->Prop}{s:ao}
theorem FG{z:az}{l:Env}{g:List Env}{L e:af}{w:Obj}{G:Array ai}{F:ai}{TF:Bool}{Q:Unit->ao->Prop}(mV:A.frames=aa (l::g)) (P:s.heap.FunFrames z (l::g)) (hf:l.frame=aa L) (S:s.heap.get? e=aa w) (I:w.data=.fields G) (Z:w.dict=ae) (v:1<G.size)(h:∀K T,Kp (fo (l::g)) (λb=>b=e) s.heap K->lc K e T w.cls .none->s.heap.objs.size<=T->Q () {s with heap:=K}):ar M A (do let a <-frameOf l;let r <-entryPlaceOf L TF;let b <-EntryCells.newEntry F a .none (dP L) .none r;lJ (.ref e) 1 b) (λ_ Y=>ar M A (we (.ref e) ae) Q E Y) E s:=by
 have y:e∉(l::g).filterMap (·.frame):=λhm=>by obtain⟨_,o,D,X⟩:=P.mem hm;rw[S]at D;injection D with D;subst D;exact X G I
 refine aq (wpAny_frameOf_fun mV P hf λc d=>?_);refine aq (wpAny_entryPlaceOf λr W=>?_);unfold EntryCells.newEntry newFields;refine aq (kL ?_ (W.sizeOk5 _ _ _ _ _));have n:c.get? e=aa w:=(d.2.1 e y).trans S;have m:=bD (h:=c) {cls:=.type "traceback",dict:=ae,data:=.fields ([F,.ref L,.none,dP L,.none]++(if r.isEmpty then bK 6 Value.none else r)).toArray} n;refine pi m I v ?_;have B:c.objs.size≠e:=tG (bz n);have j:=qM I (·.setIfInBounds 1 (Value.ref c.objs.size));have i:=nK (lL (·.setIfInBounds 1 (Value.ref c.objs.size))) m (zK j);have p:=(mI (c.push {cls:=.type "traceback",dict:=ae,data:=.fields ([F,.ref L,.none,dP L,.none]++(if r.isEmpty then bK 6 Value.none else r)).toArray}) (lL (·.setIfInBounds 1 (Value.ref c.objs.size))) (eO B)).trans (cD c rfl);unfold we;refine aq (qE i j (x:=.ref c.objs.size) (by simp[v]) ?_);rw[if_pos (show(Value.ref c.objs.size != Value.none)=ag from by simp)];refine pi p rfl (by simp only[cc,c0,cx,mJ] <;> lia) (h _ c.objs.size ?_ ?_ ?_)
 .have keep:∀b o,b≠e->c.get? b=aa o ->
    (((c.push {cls:=.type "traceback",dict:=ae,data:=.fields ([F,.ref L,.none,dP L,.none]++(if r.isEmpty then bK 6 Value.none else r)).toArray}).update e (lL (·.setIfInBounds 1 (Value.ref c.objs.size)))).update c.objs.size (lL (·.setIfInBounds 3 ((ae:Option af).elim Value.none λf=>dP f)))).get? b=aa o:=λb o C u=>by
   have J:c.objs.size≠b:=tG (bz u);rw[mI _ _ J,mI _ _ (eO C)];exact bD _ u
  refine⟨λb o u O H=>keep b o H ((d.2.1 b O).trans u),λb o u O H=>?_,λb o u=>?_⟩
  .obtain⟨N,q⟩:=d.2.2 b o u;exact⟨N,keep b _ H q⟩
  .by_cases C:b=e
   .subst C;exact⟨_,(mI _ _ B).trans i⟩
   .obtain⟨N,q⟩:=d.2.2 b o u;exact⟨_,keep b _ C q⟩
 .refine⟨_,_,_,_,(mI _ _ B).trans i,Obj.cls_mapFields _ _,⟨j,by rw[NL];exact Z⟩,by simp[v],B,nK _ p (zK (qM rfl _)),qM rfl _,by first | (simp;done) | (rcases W with rfl|⟨_,_,_,_,_,_,_,rfl⟩ <;> simp)⟩
 .exact nO d.1.symm
theorem Qu{f:az}{d:Env}{a:List Env}{L e:af}{c:ai}{Q:Unit->ao->Prop}(o:A.frames=aa (d::a))(q:s.heap.FunFrames f (d::a))(i:d.frame=aa L)(p:Made s.heap e c)(h:∀g T,Kp (fo (d::a)) (λb=>b=e) s.heap g->lc g e T c .none->s.heap.objs.size<=T->Q () {s with heap:=g}):ar M A (leaving d (.ref e)) Q E s:=by obtain⟨v,u,j,r,⟨l,n⟩,m⟩:=p;subst r;unfold leaving zz;simp only[i];refine aq (aq (qE j l m ?_));rw[if_neg (by decide)];exact FG o q i j l n (mL.mp m).1 h
theorem G1{l:az}{g:Env}{outer:List Env}{L e T:af}{c:ai}{Q:Unit->ao->Prop}(H:A.frames=aa (g::outer))(N:s.heap.FunFrames l (g::outer))(u:g.frame=aa L)(J:lc s.heap e T c .none)(h:∀j T',Kp (fo (g::outer)) (λb=>b=e\/b=T) s.heap j->lc j e T' c .none->s.heap.objs.size<=T'->Q () {s with heap:=j}):ar M A (zz (.ref e) g) (λ_ C=>ar M A (we (.ref e) ae) Q E C) E s:=by
 obtain⟨S,r,W,B,v,G,⟨w,F⟩,y,D,n,m,x⟩:=J;subst G;unfold zz;simp only[u];refine aq (qE v w y ?_);rw[if_pos (show(Value.ref T != Value.none)=ag from by simp)];refine aq (qE n m x ?_);rw[if_neg (show ¬((Value.none == dP L)=ag)from by simp[dP])];refine aq (pi n m (mL.mp x).1 ?_);have a:∀b,b≠T->(s.heap.update T (lL (·.setIfInBounds 3 Value.none))).get? b=s.heap.get? b:=λb d=>mI _ _ (eO d);have f:∀b o,s.heap.get? b=aa o->(∀r,o.data≠.fields r)->b≠T:=λb o d p q=>by rw[q,n]at d;injection d with d;subst d;exact p B m
 refine FG H (N.of_keeps λb o d p=>⟨o,(a b (f b o d p)).trans d,rfl⟩) u ((a e (eO D)).trans v) w F (mL.mp y).1 λj T' k O K=>?_;have I:Kp (fo (g::outer)) (λb=>b=T) s.heap (s.heap.update T (lL (·.setIfInBounds 3 Value.none))):=by
  refine⟨λb o d _ i=>(a b i).trans d,λb o d _ i=>⟨o.slots,(a b i).trans d⟩,λb o d=>?_⟩;by_cases i:b=T
  .subst i;exact⟨_,nK _ n (zK (qM m _))⟩
  .exact⟨o,(a b i).trans d⟩
 refine h j T' ((I.trans k).imp (λ_ z=>z) λb o _ z=>z.symm) O ?_;have P:(s.heap.update T (lL (·.setIfInBounds 3 Value.none))).objs.size<=T':=K;rwa[Jz]at P
theorem RK{f:az}{d:Env}{a:List Env}{L e T:af}{c:ai}{Q:Unit->ao->Prop}(j:A.frames=aa (d::a))(m:s.heap.FunFrames f (d::a))(n:d.frame=aa L)(l:lc s.heap e T c .none)(h:∀g i,Kp (fo (d::a)) (λb=>b=e\/b=T) s.heap g->lc g e i c .none->s.heap.objs.size<=i->Q () {s with heap:=g}):ar M A (leaving d (.ref e)) Q E s:=by unfold leaving;exact aq (G1 j m n l h)
theorem Rt{e T:af}{c D:ai}{Q:Unit->ao->Prop}(B:lc s.heap e T c D)(h:∀l,Kp [] (λb=>b=T) s.heap l->lc l e T c .none->Q () {s with heap:=l}):ar M A (we (.ref e) ae) Q E s:=by
 obtain⟨z,v,F,w,n,y,⟨p,x⟩,r,m,q,j,C⟩:=B;have u:3<w.size:=(mL.mp C).1;have a:∀b,b≠T->(s.heap.update T (lL (·.setIfInBounds 3 ((ae:Option af).elim Value.none λf=>dP f)))).get? b=s.heap.get? b:=λb g=>mI _ _ (eO g);have d:=nK (lL (·.setIfInBounds 3 ((ae:Option af).elim Value.none λf=>dP f))) q (zK (qM j _));unfold we;refine aq (qE n p r ?_);rw[if_pos (show(Value.ref T != Value.none)=ag from by simp)];refine pi q j u (h _ ⟨λb o g _ i=>(a b i).trans g,λb o g _ i=>⟨o.slots,(a b i).trans g⟩,λb o g=>?_⟩ ⟨z,v,_,_,(a e (eO m)).trans n,y,⟨p,x⟩,r,m,d,qM j _,by simp[u]⟩);by_cases i:b=T
 .subst i;exact⟨_,d⟩
 .exact⟨o,(a b i).trans g⟩
end
def c7(P:aO)(w:aG):gS:=λb H s E e s'=>∃(a T:af) (c:ai) (d:Hp),e=.ref a/\s'.os=s.os/\nG s'.gens/\Un (fo b) [] H d s.heap s'.heap/\cX P w d s'.heap/\lc s'.heap a T c .none /\
 (s.heap.get? a=ae/\s.heap.get? T=ae/\d a=ae/\d T=ae)/\E c ae d
theorem Kw{P:aO}{w:aG}{H:Hp}{h:az}{a:af}{o:HO}(x:cm P w H h a o):∃u,h.get? a=aa u:=by
 cases o with
 |lst xs=>obtain⟨_,_,_,_,e⟩:=x;exact⟨_,e⟩
 |tup xs=>obtain⟨_,_,_,⟨o,e,_⟩,_⟩:=x;exact⟨_,e⟩
 |dK b=>obtain⟨_,_,_,_,o,_,_,e,_⟩:=x;exact⟨_,e⟩
 |dT b=>obtain⟨_,_,_,_,o,_,_,e,_⟩:=x;exact⟨_,e⟩
 |dN b=>obtain⟨_,_,_,_,o,_,_,e,_⟩:=x;exact⟨_,e⟩
 |set S n=>obtain⟨o,_,_,_,e,_⟩:=x;exact⟨_,e⟩
 |ins C l fs=>obtain⟨_,_,_,e,_⟩:=x;exact⟨_,e⟩
 |own y=>exact x
 |xd fs=>obtain⟨_,⟨_,_,_,e,_⟩,_⟩:=x;exact⟨_,e⟩
 |rng i j=>obtain⟨_,_,_,e⟩:=x;exact⟨_,e⟩
 |frz g u=>obtain⟨e,_⟩:=x;exact⟨_,e⟩
 |tbl d=>obtain⟨_,e,_⟩:=x;exact⟨_,e⟩
 |met f y=>exact⟨_,x⟩
 |ext c=>obtain⟨_,e,_⟩:=x;exact e
theorem M3{P:aO}{w:aG}{H:Hp}{h:az}{a:af}(x:cX P w H h)(e:h.get? a=ae):H a=ae:=by
 cases q:H a with
 |none=>rfl
 |some u=>obtain⟨o,z⟩:=Kw (x a u q);rw[e]at z;cases z
theorem tj{fs:List af}{H c:Hp}{h b:az}{a:af}(u:Un fs [] H c h b)(e:b.get? a=ae):h.get? a=ae:=by
 cases q:h.get? a with
 |none=>rfl
 |some o=>obtain⟨d,z⟩:=u.there a o q (by simp);rw[e]at z;cases z
theorem Cc{fs a:List af}{H m:Hp}{h j i:az}{X:af->Prop}(u:Un fs [] H m h j)(k:Kp a X j i)(q:∀b o,h.get? b=aa o->b∈a->b∈fs)(hX:∀b o,h.get? b=aa o->¬X b):Un fs [] H m h i where
 keep:=λb o e n d c=>k.keep b o (u.keep b o e n d c) (λz=>d (q b o e z)) (hX b o e)
 slot:=λb o e n d c=>by
  obtain⟨p,l⟩:=u.slot b o e n d c;by_cases g:b∈a
  .obtain⟨f,r⟩:=k.slot b _ l g (hX b o e);exact⟨f,r⟩
  .exact⟨p,k.keep b _ l g (hX b o e)⟩
 free:=u.free
 there:=λb o e c=>let ⟨o',e'⟩:=u.there b o e c;k.there b o' e'
 tups:=u.tups
 frzs:=u.frzs
 tbls:=u.tbls
theorem Bj{P:aO}{w:aG}{fs:List af}{H:Hp}{h d:az}{X:af->Prop}(x:cX P w H h)(k:Kp fs X h d)(f:∀b∈fs,H b=ae)(hX:∀b,X b->H b=ae):cX P w H d:=λb u e=>
 (x b u e).stay (λc v a q=>k.keep c v q (λz=>by
   have:=f c z;rcases a with rfl|a
   .rw[e]at this;cases this
   .rw[a]at this;cases this) λz=>by
   have:=hX c z;rcases a with rfl|a
   .rw[e]at this;cases this
   .rw[a]at this;cases this) (λ_ q=>q) λ_ _ q=>q
section
variable{P:aO}{w:aG}{K:ay}{n:Str->Option ai}{l:az}{N:List Str}{j:Str}{g:eB}{f:af}{p:ai}{A:aR}{i:List Env}{d:ao}{m:Hp}{E:XK}
theorem fc:sJ (c7 P w) (jg (c7 P w) P w K n l N j g f p A i d m E) E:=λah Y H s e s' I h=>by
 obtain⟨a,T,c,X,rfl,J,M,un,B,Q,⟨S,W,G,Z⟩,O⟩:=h;have r:=I.call' (s':=s') (ch:=[]) J un B M (λb z=>absurd z (by simp));refine RK (L:=d.heap.objs.size) I.ok.frames r.stack rfl Q λmW F k C y=>?_;have p_:(jg (c7 P w) P w K n l N j g f p A i d m E).ex=[]:=rfl;have v:d.heap.get? a=ae:=tj I.base S;have D:d.heap.get? T=ae:=tj I.base W;have x:d.heap.get? F=ae:=tj r.base (CI y);have u:∀b o,d.heap.get? b=aa o->b≠a/\b≠T:=λb o e=>⟨(by rintro rfl;rw[v]at e;cases e),(by rintro rfl;rw[D]at e;cases e)⟩
 refine⟨a,F,c,X,rfl,r.os,r.bare,Cc r.base k (λb o e z=>?_) (λb o e z=>z.elim (u b o e).1 (u b o e).2),Bj r.hok k r.stkFree (λb z=>by rcases z with rfl|rfl <;> assumption),C,⟨v,x,G,r.hok.fresh y⟩,O⟩;rcases bo.mp (I.stkSub b z)with q|q
 .exact absurd (bz e) (by rw[q];exact eV _)
 .exact q
end
section
variable{X:Cx}{E:XK}{pin:List Nat}{e:aD}{de:ak->R PV}{x:Str}{C:af}{i:List ai}{d f B:String}{l g j:Pos}
def Ek(X:Cx)(E:XK):Prop:=∀(n:List (af×Obj)) (m:St) (H:Hp) (s:ao) (a:af) (c:ai) (h:az),Inv X n m H s->(∀b o,s.heap.get? b=aa o->h.get? b=aa o)->Made h a c->s.heap.get? a=ae->(E c ae H)->X.xe (.ref a) {s with heap:=h}
def uU(c:ai)(de:ak->R PV):ak->R aH:=λb=>(de b).bind λ_ a=>.er c a
theorem Pt{h c:az}{e:af}{a:ai}{b:List ai}(m:Heap.MadeExcOf h c e a b):Made c e a:=by obtain⟨t,n,_,_⟩:=m.there;exact⟨_,_,n,rfl,⟨rfl,rfl⟩,rfl⟩
theorem GX(hx:Ek X E)(hc:X.calm=ag)(O:OwnCls x C i d X.mg X.base)(Q:ExcBaseFacts B d f i)(he:DE X.nox E0 e de)(hg:Gl X x:=by rfl)(hd:(x==("__debug__":Str))=am:=by decide)(M:aM [e] X.env=[(am,aX e X.env)]:=by rfl):DS X E pin (.Raise (aa (.Call (.Name x l) [e] [] g)) ae j) (uU (.ref C) (λw=>b7 (de w))):=λF S w n H D Z q=>Bx.mk λP s I=>by
 obtain⟨W,N,nm,qn,bs,hdct,sn,sub,ab,col,dd,k0,k1,k2,k3,k5,mN,hC,hN,J,T⟩:=O.obj;refine wpAny_Raise_call_subT (C:=C) (nm:=nm) (q:=qn) (N:=N) (bs:=bs) (bm:=W) (hdct:=hdct) (sn:=sn) (sub:=sub) (ab:=ab) (col:=col) (dd:=dd) (k0:=k0) (k1:=k1) (k2:=k2) (k3:=k3) (k5:=k5)
  Q (mN:=mN) (T.hasType Q.hasBase) (I.ok.hd hc) (by rw[M];rfl) J (tw I hg O.bound ⟨rfl,?_⟩ hd)
 have q2:Ok X.K E0 n F S H (de w) (λ_ b r o p=>gE X.K E pin n r o p (.er (.ref C) b) D):=by
  have q:gE X.K E pin n F S H ((b7 (de w)).bind λ_ b=>.er (.ref C) b) D:=q;cases K:de w with
  |no=>rw[K]at q;exact q.elim
  |er c A=>rw[K]at q;exact q.elim
  |ok v A=>rw[K]at q;exact λF' S' H' r' g'=>q.from g' (jb.refl _ _)
 rw[M];refine CU (eW (CK (eW ((he F S w n H (λv p=>∃r o b,aS X.K r o b n p/\gE X.K E pin n r o p (.er (.ref C) b) D) Z (q2.imp λv b r o p L g1 h v' rv=>⟨r,o,b,L,h⟩)).run P s (I.wish _)) (λu Y ⟨v,p,y,L,r,o,b,G,ok⟩=>?_) λ_ _ z=>z.elim)) (λ_ _ z=>z) λ_ _ z=>z);have y:=y.unwish;refine IV ⟨rfl,(by show 1<=bn;decide),y.bk _ _ hC,hN.keeps y.bk,T.keeps y.bk,λh' a m=>?_⟩;exact hx P n p Y a (.ref C) h' y m.keeps (Pt m) m.new (ok ae r o n p G (bA.refl ..) (jb.refl _ _))
end
section
variable{P:aO}{w:aG}{K:ay}{m:Str->Option ai}{j:az}{N:List Str}{i:Str}{g:eB}{f:af}{n:ai}{A:aR}{h:List Env}{d:ao}{l:Hp}{E:XK}
theorem EQ:Ek (jg (c7 P w) P w K m j N i g f n A h d l E) E:=λM D H s a c B I G F new J=>by
 have p:Inv _ M D H {s with heap:=B}:=I.kept (t':=s.toks) G;refine Qu (s:={s with heap:=B}) (L:=d.heap.objs.size) I.ok.frames p.stack rfl F λO C k x v=>?_;have r:d.heap.get? a=ae:=tj I.base new;have u:d.heap.get? C=ae:=tj p.base (CI v);have y:H a=ae:=M3 I.hok new;refine⟨a,C,c,H,rfl,p.os,p.bare,Cc p.base k (λb o e z=>?_) (λb o e z=>by rw[show b=a from z,r]at e;cases e),Bj p.hok k p.stkFree (λb z=>by rw[show b=a from z];exact y),x,⟨r,u,y,p.hok.fresh v⟩,J⟩;rcases bo.mp (I.stkSub b z)with q|q
 .exact absurd (bz e) (by rw[q];exact eV _)
 .exact q
end
section
variable{X:Cx}{f:List (af×Obj)}{a:St}{H:Hp}{s:ao}
theorem Nj{M:Model}{A:aR}{E:ai->ao->Prop}{i:Nat}{x:Str}{v:V}{Q:Unit->ao->Prop}(I:Inv X f a H s)(hN:X.N.Nodup)(S:X.N[i]?=aa x)(F:X.env.scope.names.lookup x=aa .local)(N:a[i]?=aa (aa v))(h:∀s',Inv X f (a.set i ae) H s'->Q () s'):ar M A (unbindName X.env x) Q E s:=by
 obtain⟨m,O,P⟩:=id I.loc;have oh:(X.env.scope.kind == .class||(X.env.scope.kind == .module&&X.env.locals != X.env.globals))=am:=by rw[I.ok.kind];rfl
 have r:i<a.length:=(c9.mp N).1;obtain⟨u,_,lk⟩:=P i x v S N (.inl F);have hm:m x=aa u:=by
  rcases lk with⟨_,z⟩|⟨z,_⟩
  .exact z
  .have z:X.env.scope.names.lookup x=aa .cell\/X.env.scope.names.lookup x=aa .free:=z;rcases z with z|z <;> rw[F]at z <;> cases z
 refine wpAny_unbindName_local F O hm oh λh' u' D l=>?_;obtain⟨oL,_,_,mT,_⟩:=id O;have up:∀b o,X.s₀.heap.get? b=aa o->h'.get? b=s.heap.get? b:=λb o e=>l.2 b (cR (gH (bz e) I.ok.above));refine h _ ⟨I.ok,I.os,I.bare,⟨λb o e n J g=>(up b o e).trans (I.base.keep b o e n J g),λb o e n J g=>?_,I.base.free,λb o e g=>?_,I.base.tups,I.base.frzs,I.base.tbls⟩,⟨_,D,λj y W T C e3=>?_⟩,λy c e=>?_,I.free,I.freeC,λp hp=>?_,λb ob e=>?_,by rw[gL];exact I.len⟩
 .obtain⟨Y,q⟩:=I.base.slot b o e n J g;exact⟨Y,(up b o e).trans q⟩
 .obtain⟨o',q⟩:=I.base.there b o e g;exact⟨o',(up b o e).trans q⟩
 .by_cases G:j=i
  .subst G;rw[gi r]at C;cases C
  .rw[eD (eO G)]at C;obtain⟨w,Z,q⟩:=P j y W T C e3;refine⟨w,Z,?_⟩;rcases q with⟨k,e⟩|⟨k,c,e,z⟩
   .have:y≠x:=λe=>G (Av hN T (e ▸ S));exact .inl ⟨k,by simp[this,e]⟩
   .exact .inr ⟨k,c,e,z.sameBut l (I.cne y c e)⟩
 .obtain⟨K,z⟩:=I.cell y c e;exact⟨K,z.sameBut l (I.cne y c e)⟩
 .obtain⟨e,n,L,nf,d⟩:=I.pin p hp;exact⟨(l.2 p.1 L).trans e,n,L,nf,d⟩
 .refine(I.hok b ob e).stay (λc K B q=>(l.2 c ?_).trans q) (λ_ q=>q) λ_ _ q=>q;rintro rfl;rcases B with rfl|B
  .rw[I.free]at e;cases e
  .rw[I.free]at B;cases B
end
def XP(X:Cx)(f:List (af×Obj))(d:St)(g:ai->Hp->Prop)(e:ai)(s':ao):Prop:=∃a b,Inv X f d b a/\c7 X.prog X.w X.stack b a (λc _ h=>g c h) e s'
def DX(X:Cx)(e:aD)(d:ak->R Slot):Prop :=
 ∀F S ε a H Q (h:ai->Hp->Prop),aS X.K F S ε a H->Ok X.K (λc _ f=>h c f) a F S H (d ε) (λs _ j l f=>∀v i,oW X.K f j s v i->(∀b,i b->H b=ae/\¬j b/\¬U l b/\∃o,f b=aa o/\eJ o)->Q v f) ->
  ∀g s,Inv X g a H s->ar (aw X.prog X.w) X.A (aX e X.env) (EP X g a Q) (XP X g a h) s
section
variable{X:Cx}{e:aD}{a:List aD}{l:ak->R (List cp)}{j:Pos}{x:Str}{k:Nat}{m:List Str}{g:ak->R Slot}{p:Pos}{d:ak->R Slot}
def sK(g:ak->R Slot)(l:ak->R (List cp)):ak->R Slot:=λf=>(b7 (l f)).bind λc b=>(aJ (if(cz c).Nodup then d4 b c else ae) b).bind λh b=>e_ b c (g h)
theorem Me(c:dZ (c7 X.prog X.w) X.prog X.w X.K X.mg X.base x k m (cg X.K g))(hr:f8 k X.A)(ha:DG X.nox E0 (e::a) l)(hg:Gl X x:=by rfl)(hd:(x==("__debug__":Str))=am:=by decide) (h1:aM (e::a) X.env=(am,aX e X.env)::aM a X.env:=by rfl) (h2:(cE j (aM a X.env)).any (·.1)=am:=by rfl):DX X (.Call (.Name x p) (e::a) [] j) (sK g l):=λF S ε N H Q XE rl h ah s I=>by
 obtain⟨f,fd,hm,Fn,hb,hk⟩:=c.ex;have q0:Ok X.K E0 N F S H (l ε) (λA n D E C=>Ok X.K (λc _ B=>XE c B) N D E C ((aJ (if(cz A).Nodup then d4 n A else ae) n).bind λO n=>e_ n A (g O)) (λs _ G Z B=>∀v L,oW X.K B G s v L->(∀b,L b->H b=ae/\¬G b/\¬U Z b/\∃o,B b=aa o/\eJ o)->Q v B)):=by
  unfold sK at h;cases e0:l ε with
  |no=>rw[e0]at h;exact h.elim
  |er c ε'=>rw[e0]at h;exact h.elim
  |ok A n=>rw[e0]at h;exact λD E C J g1=>Ok.from h g1
 refine zx (tw I hg hm ?_ hd);have wa:=(ha F S ε N H (λP C=>∃D E n A,aS X.K D E n N C/\ja X.K N D C A P/\(∀b,C b=ae->H b=ae)/\Ok X.K (λc _ B=>XE c B) N D E C ((aJ (if(cz A).Nodup then d4 n A else ae) n).bind λO n=>e_ n A (g O)) (λs _ G Z B=>∀v L,oW X.K B G s v L->(∀b,L b->H b=ae/\¬G b/\¬U Z b/\∃o,B b=aa o/\eJ o)->Q v B)) rl (q0.imp λA n D E C J g1 q P Y=>⟨D,E,n,A,J,Y,λb z=>oK g1 z,q⟩)).run j ah s (I.wish _);refine IW (h₀:=X.base) I.ok.mod.kin hk (eW wa (λus s1 ⟨P,C,M,r,D,E,n,A,J,Y,fb,q⟩=>⟨M.unwish.kIn,?_⟩) λ_ _ z=>z.elim) h1 h2;have M:=M.unwish;have q:=Ok.bind q;by_cases T:(cz A).Nodup
 .rw[if_pos T]at q;cases a:d4 n A with
  |none=>rw[a]at q;exact q.elim
  |some O=>
   rw[a]at q;have q:=q D E C J (bA.refl ..);dsimp only at q;have iA:cg X.K g P C Q (λc _ B=>XE c B):=by
    refine⟨D,mv A E,O,J.cal Y a T,?_⟩;cases eg:g O with
    |no=>rw[eg]at q;exact q.elim
    |er cv aP=>
     rw[eg]at q;intro y G Z B r' g';unfold e_ at q;dsimp only at q;by_cases K:fz A aP=ag
     .rw[if_pos K]at q;obtain⟨S2,r2,g2,_⟩:=J.called Y a T r' g' (λ_ z=>z) (nr K);exact q ae G S2 B r2 g2
     .rw[if_neg K]at q;exact q.elim
    |ok sl aP=>
     rw[eg]at q;intro v G Z B L r' g' rv lo fr;unfold e_ at q;dsimp only at q;by_cases K:fz A aP=ag
     .rw[if_pos K]at q;obtain⟨S2,r2,g2,u2⟩:=J.called Y a T r' g' (λ_ z=>.inl z) (nr K);refine q G S2 B r2 g2 v L rv λb z=>⟨fb b (fr b z),(lo b z).1,λw=>?_,(lo b z).2.2⟩
      rcases u2 b w with w|⟨i,w⟩
      .exact(lo b z).2.1 w
      .obtain⟨_,_,o,y1,_⟩:=J.foot i b w;rw[fr b z]at y1;cases y1
     .rw[if_neg K]at q;exact q.elim
   have hl:us.length=m.length:=by rw[<-r.length];exact Fn.len _ _ _ _ iA
   refine zw (qB (Fn.run X.A X.stack s1 C ⟨us,[]⟩ us P Q _ hr M.env0 (by have:=hb s1 us M.kIn (by rw[fQ];exact hl);rwa[fQ]at this) r iA) λrr s' W=>?_);cases rr with
   |error er=>exact⟨s1,C,M,W⟩
   |ok fl=>
    cases fl with
    |ret u=>exact M.after W
    |next=>exact ix W
    |brk=>exact ix W
    |cont=>exact ix W
 .rw[if_neg T]at q;exact q.elim
end
abbrev hand(X:Cx)(a:af):Cx:={X with A:=X.A.mark (aa (.ref a)),calm:=am,xe:=λ_ _=>False}
section
variable{X:Cx}{c:List (af×Obj)}{b:St}{H:Hp}{s:ao}{a:af}
theorem Inv.hand(I:Inv X c b H s)(d:(X.A.mark (aa (.ref a))).frames=X.A.frames:=by rfl):Inv (Pu.hand X a) c b H s :=
 ⟨⟨I.ok.mod,I.ok.kind,I.ok.glob,I.ok.blt,I.ok.above,I.ok.inj,I.ok.has,I.ok.cab,(λz=>by cases z),d.trans I.ok.frames,I.ok.stk,I.ok.exf,I.ok.bs,I.ok.bsz,I.ok.noex,I.ok.exfs,I.ok.funs,I.ok.frf,I.ok.tab⟩,I.os,I.bare,I.base,I.loc,I.cell,I.free,I.freeC,I.pin,I.hok,I.len⟩
theorem Inv.unhand(I:Inv (Pu.hand X a) c b H s)(ok:X.Ok):Inv X c b H s:=⟨ok,I.os,I.bare,I.base,I.loc,I.cell,I.free,I.freeC,I.pin,I.hok,I.len⟩
end
def Under(h:az)(D:af)(c:ai):Prop:=∃C g N j q bs b i d s f r p o n m l a,c=.ref C/\h.get? C=aa (Di j q C N bs g b i d s f r p o n m l a)/\(Value.ref C::g).contains (.ref D)=ag
def qm(h:az)(D:af):Prop:=∃f N i q bs b g c r d p o n m l j a,h.get? D=aa (Di i q D N bs f b g c r d p o n m l j a)/\f.contains (.type "BaseException")=ag
theorem Under.keeps{h d:az}{D:af}{c:ai}(x:Under h D c)(k:∀b o,h.get? b=aa o->d.get? b=aa o):Under d D c:=by obtain⟨C,bm,N,nm,q,bs,hdct,sn,sub,ab,col,dd,k0,k1,k2,k3,k5,a,e,g,f⟩:=x;exact⟨C,bm,N,nm,q,bs,hdct,sn,sub,ab,col,dd,k0,k1,k2,k3,k5,a,e,k _ _ g,f⟩
theorem qm.keeps{h c:az}{D:af}(x:qm h D)(k:∀b o,h.get? b=aa o->c.get? b=aa o):qm c D:=by obtain⟨bm,N,nm,q,bs,hdct,sn,sub,ab,col,dd,k0,k1,k2,k3,k5,a,f,d⟩:=x;exact⟨bm,N,nm,q,bs,hdct,sn,sub,ab,col,dd,k0,k1,k2,k3,k5,a,k _ _ f,d⟩
theorem LB{M:Model}{A:aR}{E:ai->ao->Prop}{s:ao}{e D:af}{o:Obj}{c:ai}{Q:Bool->ao->Prop}(I:Under s.heap D c)(b:qm s.heap D)(K:s.heap.get? e=aa o)(x:o.cls=c)(J:Q ag s):ar M A (excMatches (.ref e) (.ref D)) Q E s:=by
 obtain⟨C,bm,N,nm,q,bs,p,X,v,ab,S,dd,k0,k1,k2,k3,k5,i,rfl,r,O⟩:=I;obtain⟨m,N',y,Y,T,j,w,n,W,u,P,H,G,F,B,z,a,b,L⟩:=b;obtain⟨h,g,d,t,Z⟩:=s;have l:(Value.ref D::m).contains (.type "BaseException")=ag:=by rw[List.contains_cons,L,Bool.or_true]
 have f:=tc_notTuple;unfold excMatches
 repeat (first | (with_reducible refine JA K ?_;rw[x])|with_reducible refine JA r ?_|with_reducible refine JA b ?_ | (with_reducible refine wpAny_isSubtype_exc r ?_;rw[O]) | (with_reducible refine wpAny_isSubtype_exc b ?_;rw[l])|wp_step)
 exact J
section
variable{X:Cx}{E:XK}{x:List Nat}{e:aD}{G:ak->R Slot}{I:ak->R aH}{A B C p:Pos}{y n:Str}{D:af}{l:List bg}{m:bg}{g:ai->Bool}
theorem aS.unset{K:ay}{F:af->Prop}{S:Nat->af->Prop}{a:ak}{h:St}{H:Hp}{i:Nat}(r:aS K F S a h H):aS K F (λj b=>S j b/\j≠i) (a.set i .none) (h.set i ae) H:=by
 have c:=r.drop i;have o:∀{j:Nat}{s:Slot},(a.set i .none)[j]?=aa s->s≠.none->j≠i:=λ{j s} e u z=>by
  subst z;by_cases w:j<a.length
  .rw[gi w]at e;exact u (c8 e).symm
  .rw[mP (by rw[gL];lia)]at e;cases e
 refine⟨by rw[gL,gL];exact r.len,r.ex,λj pv e=>?_,λj q e=>?_,c.foot,c.dist⟩
 .obtain⟨v,f,d⟩:=c.val j pv e;exact⟨v,by rw[eD (eO (o e (by intro z;cases z)))];exact f,d⟩
 .obtain⟨v,f,d⟩:=c.own j q e;exact⟨v,by rw[eD (eO (o e (by intro z;cases z)))];exact f,d⟩
theorem RM{P:aO}{w:aG}{H:Hp}{h:az}{a T:af}{c L:ai}(ok:cX P w H h)(j:H a=ae)(f:lc h a T c L):cX P w (upd H a (nk a c)) h:=λb u q=>by
 by_cases s:b=a
 .subst s;rw[bV]at q;cases q;obtain⟨i,F,_,_,r,K,J,_⟩:=f;exact⟨⟨i,F,r,K,J⟩,⟨i,r⟩,λS Q ⟨o,v,O,N,M⟩ k=>⟨o,v,k o O,N,M⟩⟩
 .rw[bO s]at q;exact(ok b u q).stay (λ_ _ _ z=>z) (λd z=>by rw[bO (kt z j)];exact z) λd xs z=>by rw[bO (kt z j)];exact z
end
structure kD(k:Nat)(A:aR):Prop where
 dp:A.depth+3*k+5<recursionLimit
 un:A.units+16*k+200<cLine
theorem f8.hand{k:Nat}{A:aR}{v:Option ai}(r:f8 k A):kD k (A.mark v):=⟨r.dp,r.un⟩
theorem kD.mono{j k:Nat}{A:aR}(r:kD k A)(h:j<=k):kD j A:=⟨by have:=r.dp;lia,by have:=r.un;lia⟩
theorem kD.deeper{k:Nat}{A:aR}(r:kD (k+1) A)(a:Env):kD k (A.deeper a) :=⟨by have:=r.dp;show A.depth+1+3*k+5<_;lia,by have:=r.un;show A.units+3+16*k+200<_;lia⟩
theorem kD.units{k:Nat}{A:aR}(r:kD k A):A.units+64<cLine:=by have:=r.un;lia
def vK(P:aO)(w:aG)(K:ay)(g:Str->Option ai)(d:az)(N:List Str)(c:Str)(a:eB)(f:af)(h:ai)(A:aR)(b:List Env)(s:ao)(H:Hp):Cx :=
 {(jg A7 P w K g d N c a f h A b s H E0)with calm:=am,xe:=λ_ _=>False}
structure AO(P:aO)(w:aG)(K:ay)(mg:Str->Option ai)(base:az)(k:Nat)(f:af)(fd:iw)(ps:List Str)(sp:Sp):Prop where
 len:∀vs H Q E,sp vs H Q E->vs.length=ps.length
 run:∀(A:aR) (outer:List Env) (s:ao) (H:Hp) (args:Args) (us:List ai) (vs:List V) (Q:VK),kD k A->rZ P w K mg base A outer s H->BindsTo s fd args (ps.zip us)->bj vs us->sp vs H Q E0 ->
  mC (aw P w) A (.call (.ref f) args) (CR A7 outer P w H s Q E0) s
structure ya(P:aO)(w:aG)(K:ay)(mg:Str->Option ai)(base:az)(x:Str)(k:Nat)(ps:List Str)(sp:Sp):Prop where
 ex:∃f fd,mg x=aa (.ref f)/\AO P w K mg base k f fd ps sp/\Binds K fd ps []/\qC K (.ref f)=ag
theorem Np{P:aO}{w:aG}{K:ay}{F:Str->Option ai}{h:az}{k:Nat}{f:af}{B g:Str}{i:Arguments}{l:List bg}{a:eB}{dV kV M pm C ct oc:ai}{an od:Option af}{Z:Array (Option ai)}{N O:List Str}{T:Sp} (lk:K.lookup f=aa ⟨oc,od,.func (i8 B g i l a dV kV M pm an C ct),Z⟩) (bu:vW K C g=ag) (S:cO N O a)(len:∀p H Q E,T p H Q E->p.length=O.length)(iR:∀(A:aR) (c:List Env) (s:ao) (H:Hp) (p:List V) (Q:VK),kD k (A.deeper (js g a s.heap.objs.size f C))->T p H Q E0 -> oP (vK P w K F h N g a f C A c s H) l {nx:=λ_ D=>Q .non D,rt:=Q} (L2.start N p) H):AO P w K F h (k+1) f (i8 B g i l a dV kV M pm an C ct) O T:=by
 refine⟨len,λA c s H args us p Q hr j hb r iA=>?_⟩;have hl:=len _ _ _ _ iA;have KX:K.In s.heap:=j.mod.kin.keeps λb o e=>(j.bs b o e).1;have lim:s.heap.NoLimit:=j.mod.nolimit.keeps λb o e=>(j.bs b o e).1;have D5:∀y∈O.zip us,a.names.lookup y.1=aa .local\/(a.names.lookup y.1=aa .cell/\((fR (s.heap.objs.size+1) a.names []).lookup y.1).isSome=ag):=λ⟨n,v⟩ hy=>(S.par n (vV hy).1).imp id λq=>⟨q,IX _ _ _ (.inl q)⟩
 refine codeAny_call_function (by have:=hr.dp;lia) (KX _ _ lk) rfl S.co S.gen rfl (PySem.W.codeRec_of KX bu) (hb _ _ _ _ ?_);refine wpAny_newFunctionEnv_cells S.kind D5 λenv he W x=>?_;subst he;refine⟨lim.keeps x.toInCall.keep,codeAny_func ?_⟩;have e1:rZ P w K F h {A with handled:=ae} c s H:=⟨j.frames,j.mod,j.bs,j.bsz,j.funs,j.frf,j.hok,j.bare,j.tab⟩
 have d:Inv (jg A7 P w K F h N g a f C {A with handled:=ae} c s H E0) [] (L2.start N p) H W:=Gp S rfl e1 hl r x;have I:Inv (vK P w K F h N g a f C A c s H) [] (L2.start N p) H W :=
  ⟨⟨d.ok.mod,d.ok.kind,d.ok.glob,d.ok.blt,d.ok.above,d.ok.inj,d.ok.has,d.ok.cab,(λz=>by cases z),Around.frames_deeper j.frames,d.ok.stk,d.ok.exf,d.ok.bs,d.ok.bsz,d.ok.noex,d.ok.exfs,d.ok.funs,d.ok.frf,d.ok.tab⟩,d.os,d.bare,d.base,d.loc,d.cell,d.free,d.freeC,d.pin,d.hok,d.len⟩
 refine eW ((iR A c s H p Q (hr.deeper _) iA).run [] W I) (λfl X G=>?_) λe X G=>G.elim;have L:∀{m:St}{D:Hp}{v:V}{u:ai},Inv (vK P w K F h N g a f C A c s H) [] m D X->RelV v u->Q v D->CE c P w H s Q u X:=λ{m D v u} J Y q=>⟨v,D,J.os,J.bare,J.base,J.hok,Y,q⟩
 cases fl with
 |ret u=>obtain⟨v,m,D,J,Y,q⟩:=G;exact L J Y q
 |next=>obtain⟨m,D,J,q⟩:=G;exact L (v:=V.non) (u:=Value.none) J rfl q
 |brk=>obtain⟨_,_,_,q⟩:=G;exact ix q
 |cont=>obtain⟨_,_,_,q⟩:=G;exact ix q
theorem Kf{P:aO}{w:aG}{K:ay}{u:Str->Option ai}{j:az}{x:Str}{c:bg}{N l:List Str}{k n:Nat}{g:ak->R Slot}{d:ak->R aH}{p:List Nat}(D:dH K u x c)(Y:cO N l (bh c))(M:N.length=l.length+n)(T:∀(kV q y:ai) (E:Option af) (o B:ai) (r:List ai),r.length=l.length->gI (i8 x x (jZ c) (gF c) (bh c) .none kV q y E o B) ⟨r,[]⟩=pure (l.zip r))(C:∀b,g b≠.no->b.length=l.length) (z:∀b,g b≠.no->∀(i:Nat) m,b[i]?=aa (.own m)->i∈p/\iX m=ag) (S:∀b,g b≠.no->b_ n d b=g b)(I:∀(f:af) (o:ai) (A:aR) (a:List Env) (s:ao) (H:Hp),kD k (A.deeper (js x (bh c) s.heap.objs.size f o))->gv (vK P w K u j N x (bh c) f o A a s H) E0 p (gF c) d):ya P w K u j x (k+1) l (cg K g):=by obtain⟨f,W,O,v⟩:=D.ex;refine⟨f,W,O,?_,v.binds T,v.kp⟩;obtain⟨oc,od,kV,q,y,E,o,B,F,rfl,G,X⟩:=v.ex;exact Np G X Y (EL C) λA a s H Z Q L J=>Iw M C (λb h i m e=>(z b h i m e).1) (λb rs aP h=>.inr λi m e=>(z b (by rw[h];exact nofun) i m e).2) S (I f o A a s H L) J
section
variable{X:Cx}{E:XK}{e:aD}{d:List aD}{j:ak->R (List cp)}{b:Pos}{x:Str}{k:Nat}{i:List Str}{g:ak->R Slot}{p:Pos}
theorem QB{f:af}{y:iw}{v:Sp}{t:TA}(z:AO X.prog X.w X.K X.mg X.base k f y i v)(B:kD k X.A)(G:Gl X x)(C:X.mg x=aa (.ref f))(F:qC X.K (.ref f)=ag)(L:Binds X.K y i [])(M:PA X (e::d) t) (K:(x==("__debug__":Str))=am) (J:aM (e::d) X.env=(am,aX e X.env)::aM d X.env) (O:(cE b (aM d X.env)).any (·.1)=am):PE X (.Call (.Name x p) (e::d) [] b) (λm H Q=>t m H λn o=>v n o Q E0):=λP s m H Q I h=>by
 refine zx (tw I G C ?_ K);refine IW (h₀:=X.base) I.ok.mod.kin F (a6 (M b P s m H _ I h) λc w ⟨n,o,l,r,q⟩=>⟨l.kIn,?_⟩) J O;have D:c.length=i.length:=by rw[<-r.length];exact z.len _ _ _ _ q
 refine zw (qB (z.run X.A X.stack w o ⟨c,[]⟩ c n Q B l.env0 (by have:=L w c l.kIn (by rw[fQ];exact D);rwa[fQ]at this) r q) λA S a=>?_);cases A with
 |error er=>exact(show False from a).elim
 |ok N=>
  cases N with
  |ret u=>exact l.after a
  |next=>exact ix a
  |brk=>exact ix a
  |cont=>exact ix a
theorem Kd{n m:Type}{K:ay}{E o:XK}{c:St}{F:af->Prop}{S:Nat->af->Prop}{H:Hp}{C:m->ak->(af->Prop)->(Nat->af->Prop)->Hp->Prop}{r:R n}{f:n->ak->R m}(h:Ok K E c F S H (b7 (r.bind f)) C):Ok K E c F S H r λa l F S H=>Ok K o c F S H (f a l) C:=by
 cases r with
 |ok a l=>
  intro w u v s q;have h:Ok K E c F S H (b7 (f a l)) C:=h;cases e:f a l with
  |ok=>rw[e]at h;exact Ok.from (E:=o) h q
  |_=>rw[e]at h;exact h.elim
 |_=>exact h.elim
theorem Pa(c:ya X.prog X.w X.K X.mg X.base x k i (cg X.K g))(r:kD k X.A)(z:DG X E (e::d) j)(v:Gl X x:=by rfl)(w:(x==("__debug__":Str))=am:=by decide) (B:aM (e::d) X.env=(am,aX e X.env)::aM d X.env:=by rfl) (A:(cE b (aM d X.env)).any (·.1)=am:=by rfl):DR X E (.Call (.Name x p) (e::d) [] b) (λa=>b7 (aZ g j a)):=λF S a l H Q n h=>by obtain⟨f,J,s,G,y,u⟩:=c.ex;exact bZ (QB G r v s u y iq w B A) (z F S a l H _ n ((Kd h).imp λK m N L M o C q I D=>Hy o C D q))
end
structure oU(K:ay)(C:af):Prop where
 ga:qA K (.ref C) "__getattribute__"=aa (aa (.builtin "BaseException.__getattribute__"))
 gt:qA K (.ref C) "__getattr__"=aa ae
 cl:qA K (.ref C) "__class__"=aa (aa (.builtin "object.__class__"))
 gs:IU K (.builtin "object.__class__") "__get__"=aa (aa (.builtin "getset_descriptor.__get__"))
 tk:PySem.W.takesIn K (.builtin "object.__class__")=aa ag
 ob:zv K C (.type "object")=aa ag
 be:zv K C (.type "BaseException")=aa ag
 cs:(Dj K C).isSome=ag
section
variable{b:aO}{w:aG}{A:aR}{E:ai->ao->Prop}{K:ay}{h:az}{g:Array GenState}{d:Drawn}{t:Nat}{c:OsState}{a C:af}{o:Obj}
theorem Rp{M:Model}{f:ai}{Q:Unit->ao->Prop}(X:K.In h)(k:oU K C)(I:vU h a o C ae)(j:Q () ⟨h,g,d,t,c⟩):ar M A (Js "BaseException.__getattribute__" ⟨[.ref a,f],[]⟩) Q E ⟨h,g,d,t,c⟩:=by
 have l:builtinKind "BaseException.__getattribute__"=aa .slot:=by decide +kernel
 have m:splitId "BaseException.__getattribute__"=aa ("BaseException","__getattribute__"):=by decide +kernel
 have p:=F.args_bexc_ga (.ref a) f;have n:=I.type (M:=M);have i:=PySem.W.looks_mroIn (M:=M) X k.be;simp only[Js,l,m];refine aq ?_
 .unfold zG
  repeat (first|with_reducible refine aq (n.at ?_)|with_reducible refine i.at ?_|with_reducible refine aq (i.at ?_)|wp_step)
  exact j
theorem Qr{i:Tok}{Q:Fin->ao->Prop}(X:K.In h)(k:oU K C)(I:vU h a o C ae)(j:Q (.done (.ret (.ref C))) ⟨h,g,d,t,c⟩):ar (aw b w) A (Builtin.«object.__getattribute__» ⟨[.ref a,.str "__class__" i],[]⟩) Q E ⟨h,g,d,t,c⟩:=by
 have q:=I.type (M:=aw b w);have l:PySem.W.findObj K C ae "__class__"=aa (.bind (.builtin "getset_descriptor.__get__") (.builtin "object.__class__")):=by obtain⟨u,m⟩:=CL.mp k.cs;unfold PySem.W.findObj;rw[m,fj,k.cl,fj];simp[k.gs,k.tk]
 have p:=PySem.W.looks_find (M:=aw b w) X I l;have n:mC (aw b w) A (.call (.builtin "getset_descriptor.__get__") ⟨[.builtin "object.__class__",.ref a,.ref C],[]⟩) (λr f=>r=.ok (.ret (.ref C))/\f=⟨h,g,d,t,c⟩) ⟨h,g,d,t,c⟩:=PySem.W.class_get (s:=⟨h,g,d,t,c⟩) X I k.ob ⟨rfl,rfl⟩;refine aq (aC (aq (aC (aq (q.at (aq (p.at ?_)))))));show ar _ _ (do ret (<-lA [Value.builtin "object.__class__"] (call (.builtin "getset_descriptor.__get__") [.builtin "object.__class__",.ref a,.ref C]))) _ _ _;refine aq (iM (zw (qB n λr f z=>?_)));obtain⟨rfl,rfl⟩:=z;exact aC j
theorem K_{i:Tok}{Q:ai->ao->Prop}(X:K.In h)(k:oU K C)(I:vU h a o C ae)(q:Q (.ref C) ⟨h,g,d,t,c⟩):ar (aw b w) A (getAttrBy (.ref a) (.str "__class__" i) am) Q E ⟨h,g,d,t,c⟩:=by
 have p:=I.type (M:=aw b w);have n:=PySem.W.looks_findIn (M:=aw b w) X k.ga;have f:=PySem.W.looks_findIn (M:=aw b w) X k.gt;have l:(Value.builtin "BaseException.__getattribute__" == Value.builtin "object.__getattribute__")=am:=by decide +kernel
 have j:(onTheHeap (Value.ref C)&&Value.builtin "BaseException.__getattribute__" == Value.builtin "object.__getattribute__")=am:=by rw[l];rfl
 unfold getAttrBy;refine iM (aq (p.at (aq (n.at ?_))));dsimp only;rw[j];rw[if_neg (by decide)];have f3:=F.attr_ValueError.ga.bind (.ref a);have m:(am&&onTheHeap (Value.builtin "BaseException.__getattribute__"))=am:=rfl
 repeat (any_goals (first|assumption|with_reducible refine f.at ?_|with_reducible refine aq (f.at ?_)|wp_step))
 refine codeAny_call_builtin F.attr_ValueError.ga.plain F.entry_bexc_ga (Rp X k I (Qr X k I ?_))
 repeat (any_goals (first|assumption|wp_step))
theorem Kh{Q:Option ai->ao->Prop}(X:K.In h)(k:oU K C)(I:vU h a o C ae)(f:Q (aa (.ref C)) ⟨h,g,d,t+1,c⟩):ar (aw b w) A (getAttr? (.ref a) "__class__") Q E ⟨h,g,d,t,c⟩:=by
 unfold getAttr? getAttrBy?
 repeat (any_goals (first|assumption|with_reducible apply K_ X k I|wp_step))
theorem Ni(k:oU K C):PySem.W.KitX K (.ref a) (.ref C) (λh=>∃o,vU h a o C ae) where
 ty:=λ_ _ _ ⟨o,I⟩=>I.type
 it:=λ_ _ X _=>by
  obtain⟨x,f⟩:=CL.mp k.cs;unfold Dj at f;split at f
  .rename_i y v m i l;intro J G H D r q;unfold isType loadHead;exact aq (wpAny_loadPart (r _ _ (X _ _ l)) (aC q))
  .cases f
 ne:=λh p F u n B X j=>by
  obtain⟨x,f⟩:=CL.mp k.cs;refine zL.mpr λq=>?_;have e:C=p:=Value.ref.inj (beq_iff_eq.mp q);subst e;unfold Dj at f;split at f
  .rename_i y v m i l;have z:=(X _ _ l).symm.trans j;cases z
  .cases f
 ca:=λ{_ _ _ _ _ s} X I q=>by obtain⟨o,I⟩:=I;obtain⟨h,g,d,t,c⟩:=s;exact Kh X k I q
end
def yI:V->Option ai
 |.ref D=>aa (.ref D)
 |.ty T=>aa (.type T)
 |_=>ae
theorem Lx{v:V}{u a:ai}(e:yI v=aa u)(r:RelV v a):a=u:=by
 cases v <;> simp[yI]at e <;> subst e <;> exact r
section
variable{X:Cx}{K:ay}
def IM(K:ay):List V->Hp->VK->Prop:=λxs H Q=>∃a C D u b,xs=[.ref a,D]/\H a=aa (nk a (.ref C))/\oU K C/\yI D=aa u/\iO K (.ref C) u=aa b/\Q (.bl b) H
theorem T5:dE X (.builtin "isinstance") (IM X.K):=by
 intro B s w H xs y Q I r h;obtain⟨a,C,D,u,b,rfl,j,k,i,e,q⟩:=h;cases r with
 |cons g f=>
  cases f with
  |cons d c=>
   cases c;cases g;have v:=Lx i d;subst v;obtain⟨⟨o,x,p,n,m,l⟩,_,_⟩:=I.hok a _ j;refine lC (Ni (a:=a) k) I.kIn ⟨o,p,n,?_,?_⟩ e (by intro z;cases z) λA=>⟨.bl b,H,I.tok _,rfl,q⟩
   .unfold PySem.W.notCls;rw[m]
   .rw[l];trivial
def jB(tab:ai->V->Option Bool):List PV->Option PV
 |[.exc c,.raw D]=>(tab c D).map .bl
 |xs=>jn xs
def Gn(K:ay):List V->Hp->VK->Prop:=λxs H Q=>IM K xs H Q\/∃x t T b,xs=[x,.ty T]/\i6 K H x (.type t)/\iO K (.type t) (.type T)=aa b/\Q (.bl b) H
theorem kG:dE X (.builtin "isinstance") (Gn X.K):=T5.or rM
def AY(K:ay)(tab:ai->V->Option Bool):Prop:=∀c D b,tab c D=aa b->∃C u,c=.ref C/\oU K C/\yI D=aa u/\iO K (.ref C) u=aa b
theorem kB{tab:ai->V->Option Bool}(j:AY K tab):PL K (Gn K) (jB tab):=λF H xs g Q pv f e q=>by
 unfold jB at e;split at e
 .rename_i c D;cases d:tab c D with
  |none=>rw[d]at e;cases e
  |some b=>
   rw[d]at e;cases e;obtain⟨C,u,rfl,k,i,l⟩:=j c D b d;obtain⟨v,p,rfl,⟨a,rfl,m⟩,o⟩:=f;obtain⟨h,rfl,n⟩:=gz o;rw[show h=D from n];exact .inl ⟨a,C,D,u,b,rfl,m,k,i,l,q _ F H (Al.refl ..) rfl⟩
 .exact .inr (sr F H _ g Q pv f e q)
theorem lj{E:XK}{x:Str}{D:af}{d:Pos}(a:X.mg x=aa (.ref D))(b:Gl X x:=by rfl)(c:(x==("__debug__":Str))=am:=by decide):DE X E (.Name x d) (dC (.raw (.ref D))):=λF S g f H Q r q=>bZ (BB (v:=.ref D) b a rfl c) (q F S H r (bA.refl ..) _ rfl)
variable{E:XK}{e:aD}{de:ak->R PV}{d:Pos}{y:Str}
def mn(xs:List PV)(y:PV):Option PV:=(dG y).bind λv=>(iZ xs).map λa=>.int (a.countP λz=>eI z v)
def BR(xs:List PV)(y:PV):Option PV:=(dG y).bind λv=>(iZ xs).bind λa=>(a.findIdx? λz=>eI z v).map λj=>.int j
def sy(f:List PV->PV->Option PV)(i:Nat)(de:ak->R PV):ak->R PV:=λb=>(aJ (cB b i) b).bind λ_ b=>(de b).bind λk a=>(aJ (cB a i) a).bind λxs a=>aJ (f xs k) a
theorem MZ(i:Nat){p c b:Pos}(N:DE X E e de)(T:X.N[i]?=aa y:=by rfl)(L:eR X.env.scope y:=by first|exact Or.inl rfl|exact Or.inr (Or.inl rfl)|exact Or.inr (Or.inr rfl))(O:(y==("__debug__":Str))=am:=by decide)(bu:(y==("__classdict__":Str))=am:=by decide) (h1:kf (.Name y p) "count" X.env (aX (.Name y p) X.env)=aX (.Name y p) X.env:=by rfl)(Z:((cE b (aM [e] X.env)).all (λx=>!x.1)&&(mD b (mE [] X.env)).all (λx=>x.1.isSome)&&decide ([e].length+([]:List gJ).length+(if([]:List gJ).isEmpty then 0 else 1)<30))=ag:=by rfl)(Y:(c.endLine == b.line)=ag:=by rfl) (u:aM [e] X.env=(am,aX e X.env)::aM [] X.env:=by rfl) (W:(cE b (aM [] X.env)).any (·.1)=am:=by rfl):DE X E (.Call (.Attribute (.Name y p) "count" c) [e] [] b) (sy mn i de):=λF S o A H Q r h=>by
 unfold sy at h;cases n:cB o i with
 |none=>rw[n]at h;exact h.elim
 |some B=>
  rw[n]at h;simp only[cP,R.bind_ok]at h;obtain⟨a,C,z,P,_,_,_⟩:=r.lstAt (fM n);refine bZ (sZ wd PySem.F.slot_list_count PySem.F.type_list_count Na (fJ T L O bu) (gB bP iG u) h1 Z Y u W) ⟨.ref a,z,.inl ⟨rfl,_,cf.of P⟩,?_⟩;refine N F S o A H _ r ((Ok.bind h).imp λk j F1 S1 H1 s g1 q v G=>?_);cases m:cB j i with
  |none=>rw[m]at q;exact q.elim
  |some xs=>
   rw[m]at q;simp only[cP,R.bind_ok]at q;obtain⟨a',D,g,J,I,_,_⟩:=s.lstAt (fM m);rw[z]at g;cases g;unfold mn at q;cases f:dG k with
   |none=>rw[f]at q;exact q.elim
   |some w=>
    cases l:iZ xs with
    |none=>rw[f,l]at q;exact q.elim
    |some ws=>rw[f,l]at q;obtain⟨rfl,M⟩:=uN I l;rw[jA G f];exact⟨a,D,w,rfl,rfl,J,rH f,M,q F1 S1 H1 s (bA.refl ..) _ rfl⟩
theorem Ln(i:Nat){p c b:Pos}(he:DE X E e de)(hN:X.N[i]?=aa y:=by rfl)(Y:eR X.env.scope y:=by first|exact Or.inl rfl|exact Or.inr (Or.inl rfl)|exact Or.inr (Or.inr rfl))(hd:(y==("__debug__":Str))=am:=by decide)(bu:(y==("__classdict__":Str))=am:=by decide) (h1:kf (.Name y p) "index" X.env (aX (.Name y p) X.env)=aX (.Name y p) X.env:=by rfl)(h2:((cE b (aM [e] X.env)).all (λx=>!x.1)&&(mD b (mE [] X.env)).all (λx=>x.1.isSome)&&decide ([e].length+([]:List gJ).length+(if([]:List gJ).isEmpty then 0 else 1)<30))=ag:=by rfl)(h3:(c.endLine == b.line)=ag:=by rfl) (G:aM [e] X.env=(am,aX e X.env)::aM [] X.env:=by rfl) (h5:(cE b (aM [] X.env)).any (·.1)=am:=by rfl):DE X E (.Call (.Attribute (.Name y p) "index" c) [e] [] b) (sy BR i de):=λF S A J H Q B h=>by
 unfold sy at h;cases u:cB A i with
 |none=>rw[u]at h;exact h.elim
 |some L=>
  rw[u]at h;simp only[cP,R.bind_ok]at h;obtain⟨a,N,I,ha,_,_,_⟩:=B.lstAt (fM u);refine bZ (sZ wd PySem.F.slot_list_index PySem.F.type_list_index Qh (fJ hN Y hd bu) (gB bP iG G) h1 h2 h3 G h5) ⟨.ref a,I,.inl ⟨rfl,_,cf.of ha⟩,?_⟩;refine he F S A J H _ B ((Ok.bind h).imp λk r F1 S1 H1 C g1 q v P=>?_);cases s:cB r i with
  |none=>rw[s]at q;exact q.elim
  |some xs=>
   rw[s]at q;simp only[cP,R.bind_ok]at q;obtain⟨a',O,l,W,T,_,_⟩:=C.lstAt (fM s);rw[I]at l;cases l;unfold BR at q;cases f:dG k with
   |none=>rw[f]at q;exact q.elim
   |some w=>
    cases o:iZ xs with
    |none=>rw[f,o]at q;exact q.elim
    |some M=>
     cases n:M.findIdx? λz=>eI z w with
     |none=>rw[f,o]at q;simp only[fj]at q;rw[n]at q;exact q.elim
     |some j=>
      rw[f,o]at q;simp only[fj]at q;rw[n]at q;obtain⟨rfl,hf⟩:=uN T o;rw[jA P f];rw[Tu]at n;obtain⟨D,h6,h7⟩:=n;refine⟨a,O,w,j,rfl,rfl,W,rH f,hf,D,λz g=>?_,λm z Z g=>?_,q F1 S1 H1 C (bA.refl ..) _ rfl⟩
      .rw[eF D]at g;cases g;exact h6
      .have:=h7 m Z;rw[eF ∅]at g;cases g;simpa using this
end
theorem LH(c:Nat)(x:Tx):xE [c] x=x.contains c:=by unfold xE;have:=StrLaws.found_one (tS x) c;rw[fL]at this;rw[show(tS [c])=⟨#[c]⟩from rfl,this];simp[List.contains_eq_mem]
theorem SJ:fillsNumberSlot (.type "tuple") "mul"=pure am :=PySem.fillsNumberSlot_seq (id:="tuple.__mul__") (r:=aa (.builtin "tuple.__rmul__")) F.slot_tuple_mul.lookup (by decide +kernel) F.slot_tuple_rmul.lookup (by decide +kernel)
theorem P4:seqRepeat? (.type "tuple")=pure (aa (.builtin "tuple.__mul__")):=by unfold seqRepeat?;rw[PySem.seqSlot_of (T:="tuple") (name:="__mul__") (id:="tuple.__mul__") F.slot_tuple_mul.lookup (by decide +kernel),PySem.seqSlot_of (T:="tuple") (name:="__rmul__") (id:="tuple.__rmul__") F.slot_tuple_rmul.lookup (by decide +kernel)];rfl
theorem Th(a:Int)(t:Tok)(l:af)(b:Array ai)(n:Nat)(i:Option af)(f:Array (Option ai)):Meets (Builtin.«int.__rmul__» ⟨[.int a t,.ref l],[]⟩) (λ_ R s=>s.heap.get? l=aa {cls:=.type "tuple",dict:=i,data:=.seq b n,slots:=f}/\R (.ok (.ret Value.notImplemented)) s) :=.of_wp λc w A R s h=>by obtain⟨o,g,d,j,m⟩:=s;obtain⟨p,h⟩:=h;wp_walk;exact⟨_,rfl,h⟩
theorem Og(l:af)(a:Array ai)(n:Nat)(j:Option af)(c:Array (Option ai))(x:Int)(u:Tok)(i:(decide (x < -(2^63))||decide (x ≥ 2^63))=am)(z:(a.isEmpty||x == 1)=am)(y:(decide (x<=0)||a.isEmpty)=am)(f:¬(a.size*x > (2^63-1) / 8))(v:Builtin.Tuple.tupleTooMany (a.size*x)=am)(r:((bK x.toNat a).foldl (·++·) #[]).size<=bn):Meets (Builtin.«tuple.__mul__» ⟨[.ref l,.int x u],[]⟩) (λ_ R s=>s.heap.get? l=aa {cls:=.type "tuple",dict:=j,data:=.seq a n,slots:=c}/\R (.ok (.ret (.ref s.heap.objs.size))) {s with heap:=s.heap.push {cls:=.type "tuple",data:=.seq ((bK x.toNat a).foldl (·++·) #[])}}) :=
 .of_wp λb w A R s h=>by
  obtain⟨p,g,d,m,o⟩:=s;obtain⟨q,h⟩:=h
  wp_walk
  refine wpAny_ite_false (decide_eq_false (by rw[i];exact eP)) ?_
  wp_walk
  refine wpAny_ite_false (decide_eq_false f) ?_
  wp_walk
  exact⟨_,rfl,h⟩
section
variable{X:Cx}{K:ay}
def Hn(K:ay):R2:=λx y H Q=>∃a k xs,x=.ref a/\y=.int k/\cH K H a xs/\xs≠[]/\2<=k/\k<=1000/\xs.length<=1000/\∀p,H p=ae->Q (.ref p) (upd H p (.tup (bK k.toNat xs).flatten))
theorem Ti:bT X (iN .Mult) (Hn X.K):=by
 intro ah s W H x y v u Q I E D h;obtain⟨l,k,xs,rfl,rfl,M,S,h1,N,J,q⟩:=h;cases E;obtain⟨t,rfl⟩:=D;obtain⟨a,r,G,_⟩:=I.tuple M;obtain⟨⟨P,p,w,f⟩,c,j,n,i⟩:=id G;simp only at j i;subst j i;have Z:=r.length;have d:a≠[]:=λz=>S (r.nil_iff.mp z);have m:List.foldl (λB A=>B++A) #[] (bK k.toNat a.toArray)=(bK k.toNat a).flatten.toArray:=by have:=foldl_rep a k.toNat [];rw[iy]at this;exact this
 have g:a.toArray.isEmpty=am:=by cases a with|nil=>exact absurd rfl d|cons=>rfl
 have O:(k == 1)=am:=by rw[beq_eq_false_iff_ne];lia
 have Ec:a.toArray.size*k<=1000000:=by
  rw[cc];have L:(a.length:Int)<=1000:=∅
  have:=Int.mul_le_mul L N ∅ ∅;lia
 refine wpAny_binaryOp_repeat_ref (T:="tuple") (U:="int") (by decide) ⟨_,c,rfl⟩ (λC=>typeIs_int C k t) SJ F.fills_int_mul F.slot_int_rmul P4 F.slot_int_index.lookup
  (pe F.slot_int_rmul (typeIs_int s k t) F.entry_int_rmul (F.args_int_rmul_2 _ _) (Th k t l a.toArray n p f) ⟨c,rfl,⟨_,c,rfl⟩,pe F.slot_tuple_mul ⟨_,c,rfl⟩ F.entry_tuple_mul (F.args_tuple_mul_2 _ _) (Og l a.toArray n p f k t ?_ ?_ ?_ ?_ ?_ ?_) ⟨c,?_⟩⟩)
 .rw[decide_eq_false ∅,decide_eq_false ∅];rfl
 .rw[g,O];rfl
 .rw[g,decide_eq_false ∅];rfl
 .lia
 .unfold Builtin.Tuple.tupleTooMany;exact decide_eq_false (by rw[qz];lia)
 .rw[m,cc,Bl,qz];have:=zE (show k.toNat<=1000 by lia) (show a.length<=1000 by lia);lia
 .rw[m];refine⟨.ref s.heap.objs.size,_,I.laid (t':=s.toks) (o:=.tup (bK k.toNat xs).flatten) (λb Y q=>bD _ q) (a8 _) ?_,rfl,q _ (I.hok.fresh (a8 _))⟩;refine⟨?_,_,r.rep k.toNat,IN.new _ _⟩;rw[Bl,qz];have:=zE (show k.toNat<=1000 by lia) J;lia
theorem _root_.Pu.Reps.rep{H:Hp}{F:af->Prop}{xs:List PV}{a:List V}(r:Reps K H F xs a):∀n:Nat,Reps K H F (bK n xs).flatten (bK n a).flatten
 |0=>rfl
 |n+1=>by rw[pc,pc,tL,tL];exact r.app (r.rep n)
def uX:PV->PV->Option PV
 |.tup xs,.int k=>if xs≠[]/\2<=k/\k<=1000/\xs.length<=1000 then aa (.tup (bK k.toNat xs).flatten)else ae
 |_,_=>ae
theorem SM:P2 K (Hn K) uX:=λF H x y v u Q pv i g e q=>by
 unfold uX at e;split at e
 .split at e
  .rename_i xs k h;cases e;obtain⟨a,f,rfl,j,b⟩:=i;have d:=b.len;exact⟨a,k,f,rfl,g,cH.of j,(λz=>h.1 (by rw[z]at d;exact pf d.symm)),h.2.1,h.2.2.1,∅,λp c=>q _ F _ (Al.new0 c) ⟨p,_,rfl,bV,(Al.new0 c).reps (b.rep _)⟩⟩
  .cases e
 .cases e
end
section
variable{X:Cx}{E:XK}{n:eB}{x:Str}{N':List Str}{cap:List Nat}
variable{pin:List Nat}
theorem Ql{F:af->Prop}{S:Nat->af->Prop}{l:ak}{d:St}{H:Hp}{D:kE}{i:Nat}{dn:ak->R PO}(G:i∉pin)(L:aS X.K F S l d H)(h:gE X.K E pin d F S H (fu i dn l) D):Ok X.K E d F S H (dn l) (λv _ m u g=>∀a s,fI X.K g m v a s->(∀b,s b->H b=ae/\¬m b/\¬U u b/\∃o,g b=aa o/\eJ o)->D.nx (d.set i (aa (.ref a))) g):=by
 unfold fu at h;cases r:dn l with
 |no=>rw[r]at h;exact h.elim
 |er c y=>rw[r]at h;exact λx m u g B I=>h x m u d g B I (jb.refl _ _)
 |ok v p=>
  rw[r]at h;simp only[R.bind_ok]at h;intro K M J A f a s C w;by_cases q:i<p.length
  .rw[if_pos q]at h;refine h K _ _ J (A.setOwn q C λb z=>(w b z).2) ⟨f.fro,f.keep,f.there,f.fnew,λb ⟨j,z⟩=>?_⟩ (jb.set G);rcases z with z|⟨_,z⟩
   .exact f.onew b ⟨j,z.1⟩
   .exact .inr (w b z).1
  .rw[if_neg q]at h;exact h.elim
section
variable{c a:aD}{y:Str}{g j f d:Pos}{l:ak->R (List PV)}{dt:ak->R Bool}{de:ak->R PV}{m:ak->R PO}{b:List aD}
theorem S6(i:Nat)(T:X.N.Nodup)(B:jY X n x N' cap)(P:X.calm=ag)(M:DI X E (.Name x g) a l)(J:∀C o p r q,DF (cL X n N' C o p r q) E0 b dt) (O:∀C o p r q,DE (cL X n N' C o p r q) E0 c de)(L:i∉pin:=by decide) (A:X.N[i]?=aa y:=by rfl) (G:Loc X.env.scope y:=by first|exact Or.inl rfl|exact Or.inr rfl) (z:jG (.ListComp c [⟨.Name x g,a,b,0⟩] n f) (aa (.Name y j)) d.line X.env=pure ag:=by rfl)(N:X.fn y=ag\/X.env.scope.names.lookup y=aa .local:=by first|exact .inl rfl|exact .inr rfl) (K:∀x,o8 a X.env x=pure x:=by intro _;rfl):DS X E pin (.Assign [.Name y j] (.ListComp c [⟨.Name x g,a,b,0⟩] n f) d) (fu i (cY cap l dt de)):=λF S W u H D w h=>gC (Sn (wi:=tq X (.Name x g) a) (ts:=λu H Q=>∀C o p r q,yA (cL X n N' C o p r q) b u H Q) (te:=λu H Q=>∀C o p r q,jc (cL X n N' C o p r q) c u H Q) B P zl (λC o p r q v s u H Q I h=>(h C o p r q).run v s I) (λC o p r q v s u H Q I h=>(h C o p r q).run v s I) T A G z N K) (Gr M J O w (Ql L w h))
end
end
def gW(a:List Nat):Nat->ak->Bool
 |_,[]=>ag
 |i,.own c::b=>a.contains i&&iX c&&gW a (i+1) b
 |i,_::b=>gW a (i+1) b
theorem rT{c:List Nat}:∀{b:ak}{k:Nat},gW c k b=ag->∀(i:Nat) a,b[i]?=aa (.own a)->k+i∈c/\iX a=ag
 |[],_,_,i,a,e=>by simp at e
 |.own q::b,k,h,0,a,e=>by simp only[List.getElem?_cons_zero,Option.some.injEq,Slot.own.injEq]at e;subst e;simp only[gW,gK]at h;exact⟨by simpa using h.1.1,h.1.2⟩
 |.own q::b,k,h,i+1,a,e=>by simp only[gW,gK]at h;have:=rT (k:=k+1) h.2 i a (by simpa using e);rwa[wf,zM]at this
 |.val q::b,k,h,0,a,e=>by simp at e
 |.none::b,k,h,0,a,e=>by simp at e
 |.val q::b,k,h,i+1,a,e=>by have:=rT (k:=k+1) (by simpa[gW]using h) i a (by simpa using e);rwa[wf,zM]at this
 |.none::b,k,h,i+1,a,e=>by have:=rT (k:=k+1) (by simpa[gW]using h) i a (by simpa using e);rwa[wf,zM]at this
def cb(len:Nat)(b:List Nat)(g:ak->R Slot):ak->R Slot:=λa=>if a.length=len/\gW b 0 a=ag then g a else .no
theorem eT{q:gS}{P:aO}{w:aG}{K:ay}{o:Str->Option ai}{g:az}{x:Str}{c:bg}{N b:List Str}{k n:Nat}{d:ak->R aH}{pin:List Nat}(D:dH K o x c)(G:cO N b (bh c))(y:N.length=b.length+n)(B:∀(kV p u:ai) (F:Option af) (l C:ai) (m:List ai),m.length=b.length->gI (i8 x x (jZ c) (gF c) (bh c) .none kV p u F l C) ⟨m,[]⟩=pure (b.zip m))(v:∀(f:af) (l:ai) (A:aR) (j:List Env) (s:ao) (H:Hp) (E:XK),f8 k (A.deeper (js x (bh c) s.heap.objs.size f l))->gv (jg q P w K o g N x (bh c) f l A j s H E) E pin (gF c) d):dZ q P w K o g x (k+1) b (cg K (cb b.length pin (b_ n d))):=by
 have no:∀{a},cb b.length pin (b_ n d) a≠.no->a.length=b.length/\gW pin 0 a=ag:=λ{a} h=>by
  unfold cb at h;by_cases z:a.length=b.length/\gW pin 0 a=ag
  .exact z
  .rw[if_neg z]at h;exact absurd rfl h
 exact Td D G y B (λa h=>(no h).1) (λa h i r e=>by have:=rT (no h).2 i r e;rwa[t9]at this) (λa h=>by unfold cb;rw[if_pos (no h)]) v
theorem N7{f:af}{r:iw}{u:gS}{P:aO}{w:aG}{K:ay}{q:Str->Option ai}{j:az}{x a:Str}{g:bg}{N c:List Str}{k n:Nat}{d:ak->R aH}{pin:List Nat}(J:pX K x a g f r)(I:cO N c (bh g))(C:N.length=c.length+n)(D:∀(kV p y:ai) (G:Option af) (m F:ai) (o:List ai),o.length=c.length->gI (i8 x a (jZ g) (gF g) (bh g) .none kV p y G m F) ⟨o,[]⟩=pure (c.zip o))(B:∀(f:af) (m:ai) (A:aR) (l:List Env) (s:ao) (H:Hp) (E:XK),f8 k (A.deeper (js a (bh g) s.heap.objs.size f m))->gv (jg u P w K q j N a (bh g) f m A l s H E) E pin (gF g) d):k6 P w K q j u (k+1) f r c (cg K (cb c.length pin (b_ n d))):=by
 have no:∀{b},cb c.length pin (b_ n d) b≠.no->b.length=c.length/\gW pin 0 b=ag:=λ{b} h=>by
  unfold cb at h;by_cases z:b.length=c.length/\gW pin 0 b=ag
  .exact z
  .rw[if_neg z]at h;exact absurd rfl h
 exact GH J I C D (λb h=>(no h).1) (λb h i v e=>by have:=rT (no h).2 i v e;rwa[t9]at this) (λb h=>by unfold cb;rw[if_pos (no h)]) B
theorem Ms{P:aO}{w:aG}{K:ay}{o:Str->Option ai}{g:az}{x:Str}{c:bg}{N b:List Str}{k n:Nat}{d:ak->R aH}{pin:List Nat}(D:dH K o x c)(E:cO N b (bh c))(v:N.length=b.length+n)(y:∀(kV p r:ai) (C:Option af) (l B:ai) (m:List ai),m.length=b.length->gI (i8 x x (jZ c) (gF c) (bh c) .none kV p r C l B) ⟨m,[]⟩=pure (b.zip m))(u:∀(f:af) (l:ai) (A:aR) (j:List Env) (s:ao) (H:Hp),kD k (A.deeper (js x (bh c) s.heap.objs.size f l))->gv (vK P w K o g N x (bh c) f l A j s H) E0 pin (gF c) d):ya P w K o g x (k+1) b (cg K (cb b.length pin (b_ n d))):=by
 have no:∀{a},cb b.length pin (b_ n d) a≠.no->a.length=b.length/\gW pin 0 a=ag:=λ{a} h=>by
  unfold cb at h;by_cases z:a.length=b.length/\gW pin 0 a=ag
  .exact z
  .rw[if_neg z]at h;exact absurd rfl h
 exact Kf D E v y (λa h=>(no h).1) (λa h i q e=>by have:=rT (no h).2 i q e;rwa[t9]at this) (λa h=>by unfold cb;rw[if_pos (no h)]) u
theorem Ig{P:List ai->Prop}(h:∀a,P [a])(c:List ai)(d:c.length=1):P c:=by
 cases c with
 |nil=>cases d
 |cons a r=>cases r with
  |nil=>exact h a
  |cons b r=>cases d
theorem Iz{P:List ai->Prop}(h:∀a b,P [a,b])(c:List ai)(d:c.length=2):P c:=by
 cases c with
 |nil=>cases d
 |cons a r=>exact Ig (P:=λr=>P (a::r)) (h a) r (Dk d)
theorem Fq{P:List ai->Prop}(h:∀a b c,P [a,b,c])(d:List ai)(f:d.length=3):P d:=by
 cases d with
 |nil=>cases f
 |cons a r=>exact Iz (P:=λr=>P (a::r)) (h a) r (Dk f)
theorem R4{P:List ai->Prop}(h:∀a b c d,P [a,b,c,d])(f:List ai)(g:f.length=4):P f:=by
 cases f with
 |nil=>cases g
 |cons a r=>exact Fq (P:=λr=>P (a::r)) (h a) r (Dk g)
theorem Ug{d:iw}{c:List Str}(h:∀a,gI d ⟨[a],[]⟩=pure (c.zip [a]))(b:List ai)(f:b.length=1):gI d ⟨b,[]⟩=pure (c.zip b):=Ig (P:=λb=>gI d ⟨b,[]⟩=pure (c.zip b)) h b f
theorem T6{f:iw}{d:List Str}(h:∀a b,gI f ⟨[a,b],[]⟩=pure (d.zip [a,b]))(c:List ai)(g:c.length=2):gI f ⟨c,[]⟩=pure (d.zip c):=Iz (P:=λc=>gI f ⟨c,[]⟩=pure (d.zip c)) h c g
theorem Ud{g:iw}{f:List Str}(h:∀a b c,gI g ⟨[a,b,c],[]⟩=pure (f.zip [a,b,c]))(d:List ai)(i:d.length=3):gI g ⟨d,[]⟩=pure (f.zip d):=Fq (P:=λd=>gI g ⟨d,[]⟩=pure (f.zip d)) h d i
theorem Uq{i:iw}{g:List Str}(h:∀a b c d,gI i ⟨[a,b,c,d],[]⟩=pure (g.zip [a,b,c,d]))(f:List ai)(j:f.length=4):gI i ⟨f,[]⟩=pure (g.zip f):=R4 (P:=λf=>gI i ⟨f,[]⟩=pure (g.zip f)) h f j
theorem iL{P:aO}{w:aG}{X:Cx}:sJ (c7 P w) X E0:=λ_ _ _ _ _ _ _ h=>by obtain⟨a,T,c,b,_,_,_,_,_,_,_,z⟩:=h;exact z.elim
theorem jh:eA "len"=aa (.builtin "len"):=by decide +kernel
theorem Cy:eA "all"=aa (.builtin "all"):=by decide +kernel
theorem P7:eA "any"=aa (.builtin "any"):=by decide +kernel
theorem mw:eA "sorted"=aa (.builtin "sorted"):=by decide +kernel
theorem iH:eA "isinstance"=aa (.builtin "isinstance"):=by decide +kernel
theorem Qi:eA "int"=aa (.type "int"):=by decide +kernel
theorem P8:eA "bool"=aa (.type "bool"):=by decide +kernel
theorem Ou:eA "str"=aa (.type "str"):=by decide +kernel
theorem AS:eA "list"=aa (.type "list"):=by decide +kernel
theorem r_:eA "tuple"=aa (.type "tuple"):=by decide +kernel
theorem Bd:eA "set"=aa (.type "set"):=by decide +kernel
theorem Q8:eA "ValueError"=aa (.type "ValueError"):=by decide +kernel
def li:aD->Bool
 |.Starred _ _=>ag
 |_=>am
theorem ik{e:aD}{es:List aD}{env:Env}(h:li e=am):aM (e::es) env=(am,aX e env)::aM es env:=by
 cases e <;> first|rfl|cases h
section
variable{X:Cx}{E:XK}{e:aD}{a:List aD}{d:ak->R PV}{b:ak->R (List PV)}{c:ak->R (List cp)}
theorem aF(g:DE X E e d)(f:DA X E a b)(h:li e=am:=by rfl):DA X E (e::a) (ax d b):=OH g f (ik h)
theorem a_(g:DE X E e d)(f:DG X E a c)(h:li e=am:=by rfl):DG X E (e::a) (gV d c):=Ma g f (ik h)
end
def vf:List ai:=[.type "ValueError",.type "Exception",.type "BaseException",.type "object"]
theorem Ch{K:ay}{h:az}{C:af}{B:List ai}{nw:String}(X:K.In h)(q:pq K C B nw=ag):∃i N w p bs E j a G c F D A z y x g,h.get? C=aa (Di w p C N bs i E j a G c F D A z y x nw)/\h.Ns N g/\g "__init__"=ae/\OwnTail h B i:=by
 unfold pq at q;split at q
 case h_2=>cases q
 case h_1 d0 cdata slots look=>
  split at q
  case h_2=>cases q
  case h_1 C2 tl s0 s1 s2 s3 nn s5 em es=>
   rw[gK,gK,gK,gK,gK]at q;obtain⟨⟨⟨⟨⟨v,u⟩,f⟩,s⟩,b⟩,r⟩:=q;have o:=beq_iff_eq.mp v;have n:=beq_iff_eq.mp u;have d:=beq_iff_eq.mp r;subst o n;cases cdata;dsimp only at em f b d;subst em;have m:=JB _ |>.mp f
   subst m;have l:slots=#[s0,s1,s2,s3,aa (.builtin nn),s5]:=by cases slots;exact congrArg Array.mk es
   subst l;exact⟨tl,_,_,_,_,_,_,_,_,_,d0,s0,s1,s2,s3,s5,_,X _ _ look,Heap.Ns.of_isNs (PySem.W.isNs_of_in X b),PySem.W.nsMap_none_of_in X b d,PySem.W.tail_of_in X s⟩
theorem E8{K:ay}{h:az}{a:Str->Option ai}{x:Str}{C:af}{B:List ai}{nw:String}(X:K.In h)(e:a x=aa (.ref C))(q:pq K C B nw=ag):OwnCls x C B nw a h:=⟨e,Ch X q⟩
theorem Ry{K:ay}{h:az}{C:af}{nw:String}(X:K.In h)(q:pq K C vf nw=ag):qm h C:=by obtain⟨p,N,f,d,bs,n,c,a,r,b,o,m,l,j,i,g,s,e,_,_,t⟩:=Ch X q;exact⟨p,N,f,d,bs,n,c,a,r,b,o,m,l,j,i,g,nw,e,t.hasType rfl⟩
def subB(K:ay)(D C:af):Bool:=match K.lookup C with
 |some ⟨_,_,.cls a,_⟩=>a.mro.contains (.ref D)
 |_=>am
theorem MU{K:ay}{h:az}{C D:af}{B:List ai}{nw:String}(X:K.In h)(q:pq K C B nw=ag)(s:subB K D C=ag):Under h D (.ref C):=by
 obtain⟨r,N,g,f,bs,o,d,a,u,c,p,n,m,l,j,i,y,e,_⟩:=Ch X q;refine⟨C,r,N,g,f,bs,o,d,a,u,c,p,n,m,l,j,i,nw,rfl,e,?_⟩;unfold subB at s;split at s
 .rename_i x w z v look;have b:=X _ _ look;rw[e]at b;unfold Di at b;cases b;exact s
 .cases s
def yw(K:ay)(C:af):Bool :=
 qA K (.ref C) "__getattribute__" == aa (aa (.builtin "BaseException.__getattribute__"))&&qA K (.ref C) "__getattr__" == aa ae&&qA K (.ref C) "__class__" == aa (aa (.builtin "object.__class__")) &&
 IU K (.builtin "object.__class__") "__get__" == aa (aa (.builtin "getset_descriptor.__get__"))&&PySem.W.takesIn K (.builtin "object.__class__") == aa ag&&zv K C (.type "object") == aa ag&&zv K C (.type "BaseException") == aa ag&&(Dj K C).isSome
theorem Fw{K:ay}{C:af}(h:yw K C=ag):oU K C:=by simp only[yw,gK,beq_iff_eq]at h;obtain⟨⟨⟨⟨⟨⟨⟨j,i⟩,g⟩,f⟩,d⟩,c⟩,b⟩,a⟩:=h;exact⟨j,i,g,f,d,c,b,a⟩
def Ai(K:ay):Bool:=K.all λp=>match p.2.cls with
 |.type t=>t != "list"
 |_=>ag
theorem HH{a:af}{o:Obj}:∀{K:ay},K.lookup a=aa o->(a,o)∈K
 |[],e=>by cases e
 | (b,u)::K,e=>by
  rw[kP]at e;cases q:a == b with
  |true=>rw[q]at e;cases e;rw[beq_iff_eq.mp q];exact eC ..
  |false=>rw[q]at e;exact dy _ (HH e)
theorem Gx{K:ay}{H:Hp}{F:af->Prop}:∀a:List Int,Reps K H F (a.map .int) (a.map V.int)
 |[]=>rfl
 |x::a=>⟨.int x,a.map V.int,rfl,rfl,Gx a⟩
theorem Rf{K:ay}{H:Hp}{a:af}{xs:List V}(h:Ai K=ag)(s:cf K H a xs):Rd H a (.lst xs):=by
 rcases s with s|⟨o,c,n,b,d,_⟩
 .exact s
 .have:=nR.mp h _ (HH b);rw[d]at this;simp at this
theorem RX{K:ay}{g:ak->R Slot}{H:Hp}{a:af}{c:List Int}{E:XK}(d:Rd H a (.lst (c.map V.int)))(h:g [.val (.lst (c.map .int))]=.ok (.val (.bl ag)) [.val (.lst (c.map .int))]):cg K g [.ref a] H (λv _=>v=.bl ag) E:=by
 refine⟨λb=>b=a,λ_ _=>False,[.val (.lst (c.map .int))],⟨rfl,λb e=>?_,λi pv e=>?_,λi l e=>?_,λi b z=>z.elim,λi j b z=>z.elim⟩,?_⟩
 .subst e;rcases d with d|⟨o,d⟩ <;> exact⟨_,d⟩
 .cases i with
  |zero=>cases e;exact⟨_,rfl,a,_,rfl,d,rfl,Gx c⟩
  |succ i=>simp at e
 .cases i with
  |zero=>cases e
  |succ i=>simp at e
 .rw[h];exact λv q n p m _ _ f _ _=>f.1
theorem Ul{K:ay}{x:Str}{i:Int}{t:Tok}(e:cU K bW x=aa (aa (.int i t))):∃t,cU K bW x=aa (aa (.int i t)):=⟨t,e⟩
theorem Uh{K:ay}{x:Str}{l:Tx}{t:Tok}(e:cU K bW x=aa (aa (.str (tS l) t))):∃t,cU K bW x=aa (aa (.str (tS l) t)):=⟨t,e⟩
def ef(K:ay)(x:Str)(a:bg):Prop:=∃f oc g kV h d j b i c,cU K bW x=aa (aa (.ref f))/\K.lookup f=aa ⟨oc,g,.func (i8 x x (jZ a) (gF a) (bh a) .none kV h d j b i),c⟩/\vW K b x=ag/\qC K (.ref f)=ag
theorem T3{K:ay}{x:Str}{b:bg}{f:af}{oc kV j h d m:ai}{i n:Option af}{g:Array (Option ai)}(a:cU K bW x=aa (aa (.ref f)))(l:K.lookup f=aa ⟨oc,i,.func (i8 x x (jZ b) (gF b) (bh b) .none kV j h n d m),g⟩)(c:vW K d x=ag) (k:qC K (.ref f)=ag):ef K x b:=⟨f,oc,i,kV,j,h,n,d,m,g,a,l,c,k⟩
theorem ef.at{K:ay}{h:az}{b:Str->Option ai}{x:Str}{st:bg}(d:ef K x st)(X:K.In h)(G:h.Ns bW b):dH K b x st:=by obtain⟨f,oc,j,kV,m,i,o,n,ct,g,a,l,c,k⟩:=d;exact⟨f,_,hU X G a,HC l c k⟩
def me(a:List (aN×PV))(k:aN):Option PV:=(a.find? λb=>decide (b.1=k)).map (·.2)
def rR(a:List (aN×PV))(k:aN)(v:PV):List (aN×PV):=if(a.any λb=>decide (b.1=k))=ag then a.map (λb=>if b.1=k then(b.1,v)else b)else a++[(k,v)]
def jX:PV->Option aN
 |.int i=>aa (.inl i)
 |.str x=>aa (.inr (tS x))
 |_=>ae
section
variable{K:ay}{F:af->Prop}{S:Nat->af->Prop}{ε:ak}{f:St}{H:Hp}{i:Nat}{d:List (aN×PV)}{ws:List (aN×V)}{a:af}
theorem yZ{x:PV}{v:V}{k:aN}(r:aU K H F x v)(e:jX x=aa k):v=kV k:=by
 cases x <;> simp[jX]at e
 .subst e;exact r
 .subst e;exact r.1
theorem i5.len(h:i5 K H F d ws):ws.length=d.length:=by
 unfold i5 at h
 induction h with
 |nil=>rfl
 |cons _ _ b=>simp[b]
theorem i5.val(h:i5 K H F d ws)(k:aN):(∃x v,me d k=aa x/\j0 ws k=aa v/\aU K H F x v)\/(me d k=ae/\j0 ws k=ae):=by
 unfold i5 at h
 induction h with
 |nil=>exact .inr ⟨rfl,rfl⟩
 |@cons p q ps qs r _ ih=>
  by_cases e:p.1=k
  .refine .inl ⟨p.2,q.2,by simp[me,kN,e],?_,r.2⟩;rw[yN (by rw[<-r.1];exact e)]
  .have b:¬q.1=k:=by rw[<-r.1];exact e
   rw[yn b];have:me (p::ps) k=me ps k:=by simp[me,kN,e]
   rw[this];exact ih
theorem i5.any(h:i5 K H F d ws)(k:aN):(d.any λb=>decide (b.1=k))=ws.any λb=>decide (b.1=k):=by
 unfold i5 at h
 induction h with
 |nil=>rfl
 |cons r _ c=>rw[nL,nL,c,r.1]
theorem i5.put(h:i5 K H F d ws)(k:aN){x:PV}{v:V}(r:aU K H F x v):i5 K H F (rR d k x) (iu ws k v):=by
 unfold rR iu;rw[h.any k];split
 .rename_i b;clear b;unfold i5 at h ⊢
  induction h with
  |nil=>exact .nil
  |@cons p q ps qs r1 _ ih=>
   refine .cons ?_ ih;dsimp only;by_cases e:p.1=k
   .rw[if_pos e,if_pos (by rw[<-r1.1];exact e)];exact⟨r1.1,r⟩
   .rw[if_neg e,if_neg (by rw[<-r1.1];exact e)];exact r1
 .exact CV h ⟨rfl,r⟩
theorem aS.dkAt(r:aS K F S ε f H)(e:ε[i]?=aa (.own (.dK d))):∃a ws,f[i]?=aa (aa (.ref a))/\H a=aa (.dK ws)/\i5 K H F d ws/\S i a/\∀b,S i b->b=a:=by obtain⟨a,m,⟨g,l,j⟩,c⟩:=r.own i _ e;exact⟨a,g,m,l,j,(c a).mpr rfl,λb h=>(c b).mp h⟩
theorem aS.updO{m po':PO}{o':HO}(r:aS K F S ε f H)(e:ε[i]?=aa (.own m))(O:iX m=ag)(E:f[i]?=aa (aa (.ref a)))(N:eJ o')(h:∀y,(∀x v,aU K H F x v->aU K y F x v)->(∀x v,Reps K H F x v->Reps K y F x v)->y a=aa o'->∀I:af->Prop,(∀b,I b↔b=a)->fI K y F po' a I):aS K F S (ε.set i (.own po')) f (L2.upd H a o')/\bA (U S) (U S) F F H (L2.upd H a o'):=by
 obtain⟨P,G,M⟩:=r.own i m e;rw[E]at G;cases G;have p:=FF M O;have B:S i a:=(p a).mpr rfl;have D:∀b,S i b->b=a:=λb z=>(p b).mp z;have A:i<ε.length:=(c9.mp e).1;have g:bA (U S) (U S) F F H (L2.upd H a o'):=⟨λ_ z=>z,λb o q n=>by rw[bO (by rintro rfl;exact n ⟨i,B⟩)];exact q,λb o q=>by
  by_cases C:b=a
  .subst C;exact⟨_,bV⟩
  .exact⟨o,by rw[bO C];exact q⟩,λ_ z=>.inl z,λ_ z=>.inl z⟩
 refine⟨⟨by rw[gL];exact r.len,λb z=>let ⟨o,q⟩:=r.ex b z;g.there b o q,λj pv q=>?_,λj m q=>?_,λj b z=>?_,r.dist⟩,g⟩
 .have l:i≠j:=by rintro rfl;rw[gi A]at q;cases q
  rw[eD l]at q;obtain⟨v,u,s⟩:=r.val j pv q;exact⟨v,u,s.grow g r.fit⟩
 .by_cases l:i=j
  .subst l;rw[gi A]at q;cases q;exact⟨a,E,h _ (λ_ _ z=>z.grow g r.fit) (λ_ _ z=>z.grow g r.fit) bV _ p⟩
  .rw[eD l]at q;obtain⟨c,u,s⟩:=r.own j m q;refine⟨c,u,s.mono (λ_ _ z=>z.grow g r.fit) (λ_ _ z=>z.grow g r.fit) λb o z w=>?_⟩;rw[bO (by rintro rfl;exact l (r.dist i j b B z))];exact w
 .obtain⟨⟨m,u⟩,s,o,L,J⟩:=r.foot j b z;by_cases l:i=j
  .subst l;rw[D b z];exact⟨⟨_,gi A⟩,by rw[<-D b z];exact s,_,bV,N⟩
  .exact⟨⟨m,by rw[eD l];exact u⟩,s,o,by rw[bO (by rintro rfl;exact l (r.dist i j b B z))];exact L,J⟩
end
def fA(b:ak)(i:Nat):Option (List (aN×PV)):=match b[i]? with
 |some (.own (.dK a))=>aa a
 |_=>ae
theorem oZ{b:ak}{i:Nat}{a:List (aN×PV)}(h:fA b i=aa a):b[i]?=aa (.own (.dK a)):=by
 unfold fA at h;split at h
 .cases h;assumption
 .cases h
section
variable{X:Cx}{E:XK}{pin:List Nat}{e b c:aD}{de db f:ak->R PV}{d:Pos}
def Ba:ak->R PO:=λa=>.ok (.dK []) a
theorem Mi:DN X E (.Dict [] [] d) Ba:=λF S l i H Q g h=>bZ M8 λp a=>by
 have al:Al F F H (upd H p (.dK [])):=Al.new0 a;refine h F S _ (g.al al) al.grow p (λb=>b=p) ⟨⟨[],bV,.nil⟩,λb=>nY⟩ λb z=>?_;subst z;refine⟨a,λz=>?_,λ⟨j,z⟩=>?_,_,bV,trivial⟩
 .obtain⟨o,q⟩:=g.ex b z;rw[a]at q;cases q
 .obtain⟨_,_,o,q,_⟩:=g.foot j b z;rw[a]at q;cases q
def nz(i:Nat)(db:ak->R PV):ak->R PV:=λg=>(aJ (fA g i) g).bind λ_ g=>(db g).bind λk a=>(aJ (fA a i) a).bind λh a=>aJ ((jX k).bind λk=>me h k) a
theorem F7(i:Nat){y:Str}{A:Pos}(hu:X.A.units+64<cLine)(L:DE X E b db)(N:X.N[i]?=aa y:=by rfl)(O:eR X.env.scope y:=by first|exact Or.inl rfl|exact Or.inr (Or.inl rfl)|exact Or.inr (Or.inr rfl))(K:(y==("__debug__":Str))=am:=by decide) (P:(y==("__classdict__":Str))=am:=by decide) (I:Bo b:=by exact λ_ _=>rfl):DE X E (.Subscript (.Name y A) b d) (nz i db):=λF S o z H Q p h=>by
 unfold nz at h;cases n:fA o i with
 |none=>rw[n]at h;exact h.elim
 |some s=>
  rw[n]at h;simp only[cP,R.bind_ok]at h;obtain⟨a,B,w,_⟩:=p.dkAt (oZ n);refine bZ (Kq ∅ (fJ N O K P) bP I) ⟨.ref a,w,L F S o z H _ p ((Ok.bind h).imp λk j Y T W r g1 q u C=>?_)⟩;cases m:fA j i with
  |none=>rw[m]at q;exact q.elim
  |some G=>
   rw[m]at q;simp only[cP,R.bind_ok]at q;obtain⟨a',Z,g,M,J,_⟩:=r.dkAt (oZ m);rw[w]at g;cases g;cases l:jX k with
   |none=>rw[l]at q;exact q.elim
   |some D=>
    rw[l,fj]at q;rw[yZ C l];rcases J.val D with⟨x,v,h1,h2,h3⟩|⟨h1,h2⟩
    .rw[h1]at q;exact⟨a,v,rfl,by rw[<-h2];exact rW.k M,q Y T W r (bA.refl ..) v h3⟩
    .rw[h1]at q;exact q.elim
def nv(i:Nat)(db f:ak->R PV):ak->R PV:=λg=>(aJ (fA g i) g).bind λ_ g=>(db g).bind λk h=>(f h).bind λz a=>(aJ (fA a i) a).bind λj a=>aJ ((jX k).map λk=>(me j k).getD z) a
theorem Hw(i:Nat){y:Str}{j g:Pos}(hu:X.A.units+64<cLine)(hb:DE X E b db)(hc:DE X E c f)(hN:X.N[i]?=aa y:=by rfl)(fE:eR X.env.scope y:=by first|exact Or.inl rfl|exact Or.inr (Or.inl rfl)|exact Or.inr (Or.inr rfl))(hd:(y==("__debug__":Str))=am:=by decide) (bu:(y==("__classdict__":Str))=am:=by decide)(l:kf (.Name y j) "get" X.env (aX (.Name y j) X.env)=aX (.Name y j) X.env:=by rfl) (B:(g.endLine == d.line)=ag:=by rfl) (s1:li b=am:=by rfl) (Z:li c=am:=by rfl):DE X E (.Call (.Attribute (.Name y j) "get" g) [b,c] [] d) (nv i db f):=λF S J I H Q L h=>by
 have K:aM [b,c] X.env=[(am,aX b X.env),(am,aX c X.env)]:=by rw[ik s1,ik Z];rfl
 have m:M2 X (.Name y j) "get" g b c d:=⟨l,by rw[K];rfl,B,by rw[K];rfl⟩
 unfold nv at h;cases G:fA J i with
 |none=>rw[G]at h;exact h.elim
 |some M=>
  rw[G]at h;simp only[cP,R.bind_ok]at h;obtain⟨a,Y,O,A,_⟩:=L.dkAt (oZ G);refine bZ (Nh ∅ (fJ hN fE hd bu) bP bP m) ⟨.ref a,O,a,rfl,.inl ⟨_,.inl A⟩,hb F S J I H _ L ((Ok.bind h).imp λk p F1 S1 H1 r1 g1 q u ru=>?_)⟩;refine hc F1 S1 p I H1 _ r1 ((Ok.bind q).imp λz o W P T s g2 q w r=>?_);cases D:fA o i with
  |none=>rw[D]at q;exact q.elim
  |some kvs=>
   rw[D]at q;simp only[cP,R.bind_ok]at q;obtain⟨a',ws,n,N,hk,_⟩:=s.dkAt (oZ D);rw[O]at n;cases n;cases C:jX k with
   |none=>rw[C]at q;exact q.elim
   |some ky=>
    rw[C,tZ]at q;rw[yZ ru C];rcases hk.val ky with⟨x,v,l,h2,B⟩|⟨l,h2⟩
    .rw[l]at q;exact⟨aa v,by rw[<-h2];exact rW.k N,q W P T s (bA.refl ..) v B⟩
    .rw[l]at q;exact⟨ae,by rw[<-h2];exact rW.k N,q W P T s (bA.refl ..) w r⟩
def nc(i:Nat)(db de:ak->R PV):ak->R aH:=λj=>(de j).bind λy g=>(aJ (fA g i) g).bind λ_ g=>(db g).bind λk a=>(aJ (fA a i) a).bind λh a=>(aJ (jX k) a).bind λk a=>if h.length<bG then .ok .next (a.set i (.own (.dK (rR h k y))))else .no
theorem Cs(i:Nat){y:Str}{G j:Pos}(hu:X.A.units+64<cLine)(hb:DE X E b db)(he:DE X E e de)(hN:X.N[i]?=aa y:=by rfl)(fE:eR X.env.scope y:=by first|exact Or.inl rfl|exact Or.inr (Or.inl rfl)|exact Or.inr (Or.inr rfl))(hd:(y==("__debug__":Str))=am:=by decide) (bu:(y==("__classdict__":Str))=am:=by decide) (Y:jG e (aa (.Subscript (.Name y G) b j)) d.line X.env=pure am:=by rfl):DS X E pin (.Assign [.Subscript (.Name y G) b j] e d) (nc i db de):=λF S L o H D Q h=>by
 refine gC (E3 ∅ (fJ hN fE hd bu) bP bP Y) (he F S L o H _ Q (h.bindE.imp λy l F1 S1 H1 r g1 q v O=>?_));cases C:fA l i with
 |none=>rw[C]at q;exact q.elim
 |some J=>
  rw[C]at q;simp only[cP,R.bind_ok]at q;obtain⟨a,M,A,ha0,_⟩:=r.dkAt (oZ C);refine⟨.ref a,A,hb F1 S1 l o H1 _ r (q.bindE.imp λk p F2 S2 H2 I g2 g u P=>?_)⟩;cases n:fA p i with
  |none=>rw[n]at g;exact g.elim
  |some w=>
   rw[n]at g;simp only[cP,R.bind_ok]at g;obtain⟨a',N,m,ha,K,_⟩:=I.dkAt (oZ n);rw[A]at m;cases m;cases B:jX k with
   |none=>rw[B]at g;exact g.elim
   |some s=>
    rw[B]at g;simp only[cP,R.bind_ok]at g;split at g
    .rename_i Z;rw[yZ P B];have gq:=K.put s (O.grow g2 r.fit);obtain⟨T,g3⟩:=I.updO (po':=.dK (rR w s y)) (o':=.dK (iu N s v)) (oZ n) rfl A trivial λH' W m2 z Sa x=>⟨⟨_,z,gq.mono W⟩,x⟩
     exact⟨a,_,rfl,zq.k ha (by rw[K.len];exact gH Z mr),g F2 S2 o _ T g3 (jb.refl _ _)⟩
    .exact g.elim
end
section
variable{X:Cx}
def vn(a d:af):HO:=.ext λh=>h.IsValuesView a d
theorem O_:zn X "dict.values" (λx xs H Q=>∃d b,x=.ref d/\xs=[]/\H d=aa (.dK b)/\∀a,H a=ae->Q (.ref a) (upd H a (vn a d))):=by
 intro A s r H x xs v u Q I g i h;obtain⟨d,b,rfl,rfl,p,q⟩:=h;cases g;cases i.zero;obtain⟨z,n,f,j,c⟩:=BF I.hok p;refine call_meetsIn PySem.F.slot_dict_values c.typeIs PySem.F.entry_dict_values (PySem.F.args_dict_values_1 _) (meets_dict_values (iY X.prog X.w) d n) ⟨⟨f,c⟩,?_⟩;refine⟨.ref s.heap.objs.size,_,I.laid (a:=s.heap.objs.size) (o:=vn s.heap.objs.size d) (t':=s.toks) (λ_ _ q=>bD _ q) (a8 _) ?_,rfl,q _ I.fresh⟩;exact⟨⟨_,cD _ rfl,rfl,rfl⟩,⟨_,cD _ rfl⟩,λy w ⟨o,m,l⟩ k=>⟨o,k o m,l⟩⟩
theorem KV.at{a:List (aN×V)}{b:List (aN×ai)}(r:KV a b){i:Nat}{k:aN}{u:ai}(h:b[i]?=aa (k,u)):∃v,a[i]?=aa (k,v)/\RelV v u:=by
 unfold KV at r
 induction r generalizing i with
 |nil=>simp at h
 |@cons p q ps qs r1 _ ih=>
  cases i with
  |zero=>simp at h;subst h;exact⟨p.2,by simp[show k=p.1 from r1.1.symm],r1.2⟩
  |succ i=>exact ih (by simpa using h)
def kH(a:List (aN×V)):Option Bool:=match a with
 |[]=>aa am
 | (_,.int i)::r=>(kH r).map λb=>(decide (i≠0))||b
 |_=>ae
theorem Gi:∀{a:List (aN×V)}{b:Bool},kH a=aa b->(∀(i:Nat) k v,a[i]?=aa (k,v)->∃n,v=.int n)/\b=(cq a.length).any λi=>match a[i]? with|aa (_,.int n)=>decide (n≠0)|_=>am
 |[],b,h=>by simp[kH]at h;subst h;exact⟨by simp,rfl⟩
 | (k,.int n)::r,b,h=>by
  simp only[kH,mK]at h;obtain⟨l,j,g⟩:=h;obtain⟨f,d⟩:=Gi j;refine⟨λi c v e=>?_,?_⟩
  .cases i with
   |zero=>simp at e;exact⟨n,e.2.symm⟩
   |succ i=>exact f i c v (by simpa using e)
  .rw[cx,CZ,nL,List.any_map,<-g,d];rfl
 | (_,.non)::_,_,h=>by simp[kH]at h
 | (_,.bl _)::_,_,h=>by simp[kH]at h
 | (_,.str _)::_,_,h=>by simp[kH]at h
 | (_,.ref _)::_,_,h=>by simp[kH]at h
 | (_,.ty _)::_,_,h=>by simp[kH]at h
theorem Mh(O:X.calm=ag):dE X (.builtin "any") (λxs H Q=>∃(p d:af) (a:List (aN×V)) (b:Bool),xs=[.ref p]/\H p=aa (vn p d)/\H d=aa (.dK a)/\kH a=aa b/\Q (.bl b) H):=by
 intro Z s C H xs us Q I r h;obtain⟨p,d,a,b,rfl,m,N,S,q⟩:=h;obtain⟨u,rfl,E⟩:=vals1 r;cases E;obtain⟨l,_,_⟩:=(show cm X.prog X.w H s.heap p (vn p d)from I.hok p _ m)
 obtain⟨z,hs,g,f,Y⟩:=BF I.hok N;obtain⟨A,j⟩:=Y.dictAt;obtain⟨L,K⟩:=Gi S;refine call_any_walk (wpAny_pyIter_values l j ?_);refine⟨s.heap.objs.size,_,_,_,_,_,λi=>match a[i]? with|aa (_,.int n)=>decide (n≠0)|_=>am,rfl,Walks.dictValues (uC (I.ok.hd O)) _ d (cR j.lt_size) g A,⟨⟨_,cD _ rfl,rfl,rfl⟩,j.push _⟩,λi v s' Q' E' l y=>?_,λh' D k=>?_⟩
 .obtain⟨J,M⟩:=l;obtain⟨w,B,W⟩:=KV.at f M;obtain⟨n,rfl⟩:=L i J w B;obtain⟨t,rfl⟩:=W;dsimp only at y;rw[B]at y;exact PyProof.Rows.truthy_int (by rw[show(n != 0)=decide (n≠0) by by_cases z:n=0 <;> simp[z]];exact y)
 .have I1:Inv X Z C H {s with heap:=s.heap.push {cls:=.type "dict_valueiterator",data:=.fields #[.ref d,.int 0 0,.int g.length 0,.int A 0]},toks:=s.toks}:=I.kept (t':=s.toks) λb o e=>bD _ e;have T:(cq g.length).any (λi=>match a[i]? with|aa (_,.int n)=>decide (n≠0)|_=>am)=b:=by rw[<-f.length];exact K.symm
  rw[T];exact⟨.bl _,H,Inv.turned (t':=D) I1 (it:=s.heap.objs.size) (λb o P e=>k b o (by simpa using P) e) I.fresh (tG I.lt) (.inr I.sz) (λx c e z=>by obtain⟨v,F⟩:=I.cell x c e;exact absurd F.lt (by rw[z];exact eV _)) (λG m z=>absurd (bz (I.pin G m).1) (by rw[z];exact eV _)),rfl,q⟩
end
section
variable{X:Cx}{E:XK}{pin:List Nat}{e b c:aD}{de db I:ak->R PV}{A:Pos}
def qf:List (aN×PV)->Option Bool
 |[]=>aa am
 | (_,.int i)::r=>(qf r).map λb=>(decide (i≠0))||b
 |_=>ae
theorem Qw{K:ay}{H:Hp}{F:af->Prop}{a:List (aN×PV)}{d:List (aN×V)}{k:Bool}(h:i5 K H F a d)(e:qf a=aa k):kH d=aa k:=by
 unfold i5 at h
 induction h generalizing k with
 |nil=>exact e
 |@cons p q D qs r _ ih=>
  obtain⟨l,pv⟩:=p;obtain⟨j,g⟩:=q;cases pv <;> simp only[qf,mK]at e <;> try cases e
  obtain⟨i,f⟩:=r;obtain rfl:g=V.int _:=f;rename_i h;simp only[kH,ih h.1,tZ];rw[<-h.2]
def vc(i:Nat):ak->R PV:=λa=>(aJ (fA a i) a).bind λd a=>aJ ((qf d).map .bl) a
theorem Pg(i:Nat){y:Str}{g p f d:Pos}(G:X.calm=ag)(z:X.mg "any"=ae)(J:X.N[i]?=aa y:=by rfl)(K:eR X.env.scope y:=by first|exact Or.inl rfl|exact Or.inr (Or.inl rfl)|exact Or.inr (Or.inr rfl))(D:(y==("__debug__":Str))=am:=by decide) (N:(y==("__classdict__":Str))=am:=by decide) (C:Gl X "any":=by rfl)(x:kf (.Name y g) "values" X.env (aX (.Name y g) X.env)=aX (.Name y g) X.env:=by rfl) (w:(f.endLine == d.line)=ag:=by rfl)(u:aM [.Call (.Attribute (.Name y g) "values" f) [] [] d] X.env=(am,aX (.Call (.Attribute (.Name y g) "values" f) [] [] d) X.env)::aM [] X.env:=by rfl) (M:(cE A (aM [] X.env)).any (·.1)=am:=by rfl):DE X E (.Call (.Name "any" p) [.Call (.Attribute (.Name y g) "values" f) [] [] d] [] A) (vc i):=λF S v P H Q s h=>by
 unfold vc at h;cases o:fA v i with
 |none=>rw[o]at h;exact h.elim
 |some l=>
  rw[o]at h;simp only[cP,R.bind_ok]at h;obtain⟨a,r,L,j,B,T,_⟩:=s.dkAt (oZ o);cases n:qf l with
  |none=>rw[n]at h;exact h.elim
  |some k=>
   rw[n,tZ]at h;refine bZ (nB (Mh G) C z P7 (gB (MQ PySem.F.plainAttrs_dict PySem.F.slot_dict_values PySem.F.type_dict_values O_ (fJ J K D N) x w) iG u) (by decide) (by decide) u M) ⟨.ref a,L,.inr (.inr (.inl ⟨rfl,.inl ⟨_,j⟩⟩)),a,r,rfl,rfl,j,λq m=>?_⟩;have al:Al F F H (L2.upd H q (vn q a)):=Al.new0 m;have O:a≠q:=by rintro rfl;rw[j]at m;cases m
   exact⟨q,a,r,k,rfl,bV,by rw[bO O];exact j,Qw B n,h F S _ (s.al al) al.grow _ rfl⟩
def yh(X:Cx)(E:XK)(m:List aD)(d:ak->R (PO×List cp)):Prop :=
 ∀F S i f H Q,aS X.K F S i f H->Ok X.K E f F S H (d i) (λp _ h n g=>∀a l j,fI X.K g h p.1 a l->(∀b,l b->H b=ae/\¬h b/\¬U n b/\∃o,g b=aa o/\eJ o)->ja X.K (f++[aa (.ref a)]) h g p.2 j->Q j g)->pQ X m f H Q
theorem ja.app{K:ay}{g:St}{F:af->Prop}{H:Hp}(d:St):∀{l:List cp}{j:List V},ja K g F H l j->ja K (g++d) F H l j
 |[],_,h=>h
 |.inl _::_,_,⟨v,r,e,a,f⟩=>⟨v,r,e,a,f.app d⟩
 |.inr i::_,_,⟨v,r,e,a,f⟩=>⟨v,r,e,by rw[iP (c9.mp a).1];exact a,f.app d⟩
theorem fI.stay{K:ay}{O l F i:af->Prop}{H h:Hp}{j:PO}{a:af}{d:af->Prop}(q:fI K H F j a d)(g:bA O l F i H h)(fit:Fit O F H)(f:∀b,d b->¬F b/\¬O b/\∃o,H b=aa o/\eJ o):fI K h i j a d/\∀b,d b->¬i b/\¬l b/\∃o,h b=aa o/\eJ o:=by refine⟨q.mono (λ_ _ z=>z.grow g fit) (λ_ _ z=>z.grow g fit) λb o z w=>(g.stay w (f b z).2.1 (f b z).1).1,λb z=>?_⟩;obtain⟨v,u,o,s,r⟩:=f b z;obtain⟨p,n,m⟩:=g.stay s u v;exact⟨n,m,o,p,r⟩
variable{m:List aD}{dn:ak->R PO}{C:ak->R (List cp)}{B:ak->R (PO×List cp)}
def gN(dn:ak->R PO)(C:ak->R (List cp)):ak->R (PO×List cp):=λf=>(dn f).bind λg d=>(C d).bind λh a=>.ok (g,.inr a.length::h) a
theorem Ng(w:DN X E e dn)(v:DG X E m C)(u:li e=am:=by rfl):yh X E (e::m) (gN dn C):=λF S q i H Q r h=>by refine pW (gB bP iq (ik u)) (w F S q i H _ r ((Ok.bind h).imp λT d P L N n W y a J s o=>?_));refine v P L d i N _ n ((Ok.bind y).imp λY p O K M l D x j G=>?_);obtain⟨f,g⟩:=s.stay D n.fit λb z=>(o b z).2;refine x O K M l (bA.refl ..) a J (.ref a::j) f (λb z=>⟨(o b z).1,g b z⟩) ⟨.ref a,j,rfl,?_,G.app _⟩;rw[l.len,o9 (a8 _),Dl];rfl
def su(d:ak->R PV)(B:ak->R (PO×List cp)):ak->R (PO×List cp):=λg=>(d g).bind λx f=>(B f).bind λp a=>.ok (p.1,.inl x::p.2) a
theorem EF(y:DE X E e de)(w:yh X E m B)(u:li e=am:=by rfl):yh X E (e::m) (su de B):=λF S l f H Q q h=>by refine pW (gB bP iq (ik u)) (y F S l f H _ q ((Ok.bind h).imp λx d Y O T g K G v o=>?_));refine w Y O d f T _ g ((Ok.bind G).imp λp j W N P r J D a M n s i L=>?_);exact D W N P r (bA.refl ..) a M _ s (λb z=>⟨oK K (i b z).1,(i b z).2⟩) ⟨v,n,rfl,o.grow J g.fit,L⟩
theorem aS.push{K:ay}{F:af->Prop}{S:Nat->af->Prop}{d:ak}{y:St}{H:Hp}{w:PO}{a:af}{i:af->Prop}(r:aS K F S d y H)(D:fI K H F w a i)(x:∀b,i b->¬F b/\¬U S b/\∃o,H b=aa o/\eJ o):aS K F (λj b=>S j b\/(j=d.length/\i b)) (d++[.own w]) (y++[aa (.ref a)]) H:=by
 have lt:∀j b,S j b->j<d.length:=λj b z=>by obtain⟨⟨p,q⟩,_⟩:=r.foot j b z;exact(c9.mp q).1
 refine⟨by simp[r.len],r.ex,λj pv q=>?_,λj p q=>?_,λj b z=>?_,λj k b g f=>?_⟩
 .by_cases h:j<d.length
  .rw[iP h]at q;obtain⟨v,u,l⟩:=r.val j pv q;exact⟨v,by rw[iP (by rw[<-r.len];exact h)];exact u,l⟩
  .rw[o9 ∅]at q;cases s:j-d.length with
   |zero=>rw[s]at q;simp at q
   |succ n=>rw[s]at q;simp at q
 .by_cases h:j<d.length
  .rw[iP h]at q;obtain⟨v,u,l⟩:=r.own j p q;refine⟨v,by rw[iP (by rw[<-r.len];exact h)];exact u,?_⟩;have:(λb=>S j b\/(j=d.length/\i b))=S j:=by funext b;exact propext ⟨λz=>z.elim id λz=>absurd z.1 (cR h),.inl⟩
   rw[this];exact l
  .rw[o9 ∅]at q;cases s:j-d.length with
   |zero=>
    rw[s]at q;simp at q;subst q;have L:j=d.length:=∅
    subst L;refine⟨a,by rw[r.len,o9 (a8 _),Dl];rfl,?_⟩;have:(λb=>S d.length b\/(d.length=d.length/\i b))=i:=by funext b;exact propext ⟨λz=>z.elim (λz=>absurd (lt _ _ z) (eV _)) (·.2),λz=>.inr ⟨rfl,z⟩⟩
    rw[this];exact D
   |succ n=>rw[s]at q;simp at q
 .rcases z with z|⟨rfl,z⟩
  .obtain⟨⟨p,q⟩,l⟩:=r.foot j b z;exact⟨⟨p,by rw[iP (lt j b z)];exact q⟩,l⟩
  .obtain⟨J,M,G⟩:=x b z;exact⟨⟨w,by rw[o9 (a8 _),Dl];rfl⟩,J,G⟩
 .rcases g with g|⟨rfl,g⟩ <;> rcases f with f|⟨rfl,f⟩
  .exact r.dist j k b g f
  .exact absurd ⟨j,g⟩ (x b f).2.1
  .exact absurd ⟨k,f⟩ (x b g).2.1
  .rfl
theorem aS.pop{K:ay}{F:af->Prop}{S:Nat->af->Prop}{d:ak}{n:Slot}{h:St}{u:Option V}{H:Hp}(r:aS K F S (d++[n]) (h++[u]) H):aS K F (λj b=>S j b/\j<d.length) d h H:=by
 have len:d.length=h.length:=by have:=r.len;simpa using this
 refine⟨len,r.ex,λj pv q=>?_,λj p q=>?_,λj b z=>?_,λj k b l i=>r.dist j k b l.1 i.1⟩
 .have a:=(c9.mp q).1;obtain⟨v,g,f⟩:=r.val j pv (by rw[iP a];exact q);exact⟨v,by rw[iP (by rw[<-len];exact a)]at g;exact g,f⟩
 .have a:=(c9.mp q).1;obtain⟨v,g,f⟩:=r.own j p (by rw[iP a];exact q);refine⟨v,by rw[iP (by rw[<-len];exact a)]at g;exact g,?_⟩;have:(λb=>S j b/\j<d.length)=S j:=by funext b;simp[a]
  rw[this];exact f
 .obtain⟨⟨p,q⟩,f⟩:=r.foot j b z.1;exact⟨⟨p,by rw[iP z.2]at q;exact q⟩,f⟩
def F_{d:Type}:R d->R d
 |.ok s a=>.ok s a.dropLast
 |.er c a=>.er c a.dropLast
 |.no=>.no
def uD(g:ak->R Slot)(B:ak->R (PO×List cp)):ak->R Slot:=λd=>(B d).bind λp a=>(aJ (if(cz p.2).Nodup then d4 (a++[.own p.1]) p.2 else ae) a).bind λf a=>F_ (e_ (a++[.own p.1]) p.2 (g f))
theorem Ew{a:ak}{n:Nat}(h:a.length=n+1):∃l x,a=l++[x]/\l.length=n:=by
 refine⟨a.dropLast,a.getLast (by intro z;rw[z]at h;cases h),(List.dropLast_concat_getLast _).symm,by rw[Dm,h];rfl⟩
theorem bA.pushed{K:ay}{F s:af->Prop}{S i:Nat->af->Prop}{f H p:Hp}{n:Nat}{h:af->Prop}(g:bA (U λj b=>S j b\/(j=n/\h b)) (U i) F s H p){r:af->Prop}{l:Nat->af->Prop}(a:bA (U l) (U S) r F f H)(d:∀b,h b->f b=ae):bA (U l) (U λj b=>i j b/\j<n) r s f p where
 fro:=λb z=>g.fro b (a.fro b z)
 keep:=λb o q no=>g.keep b o (a.keep b o q no) λ⟨j,z⟩=>by
  rcases z with z|⟨_,z⟩
  .rcases a.onew b ⟨j,z⟩with w|w
   .exact no w
   .rw[w]at q;cases q
  .rw[d b z]at q;cases q
 there:=λb o q=>let ⟨o',q'⟩:=a.there b o q;g.there b o' q'
 fnew:=λb z=>by
  rcases g.fnew b z with w|w|⟨j,w|⟨_,w⟩⟩
  .exact a.fnew b w
  .exact .inr (.inl (oK a w))
  .exact .inr ((a.onew b ⟨j,w⟩).symm)
  .exact .inr (.inl (d b w))
 onew:=λb ⟨j,z,_⟩=>by
  rcases g.onew b ⟨j,z⟩with⟨k,w|⟨_,w⟩⟩|w
  .exact a.onew b ⟨k,w⟩
  .exact .inr (d b w)
  .exact .inr (oK a w)
variable{G:gS}{x:Str}{k:Nat}{D:List Str}{g:ak->R Slot}{p:Pos}
theorem Q_(c:dZ G X.prog X.w X.K X.mg X.base x k D (cg X.K g))(hr:f8 k X.A)(hx:sJ G X E)(ha:yh X E (e::m) B)(hg:Gl X x:=by rfl)(hd:(x==("__debug__":Str))=am:=by decide) (h1:aM (e::m) X.env=(am,aX e X.env)::aM m X.env:=by rfl) (h2:(cE A (aM m X.env)).any (·.1)=am:=by rfl):DR X E (.Call (.Name x p) (e::m) [] A) (uD g B):=λF S ε W H Q rl h=>by
 obtain⟨f,fd,hm,Fn,hb,hk⟩:=c.ex;refine bZ (Fm Fn hr hg hm hk hb .nil hx iq hd h1 h2) (ha F S ε W H _ rl ?_);unfold uD at h;cases ed:B ε with
 |no=>rw[ed]at h;exact h.elim
 |er cv d=>rw[ed]at h;exact h
 |ok pa d=>
  obtain⟨P,q⟩:=pa;rw[ed]at h;simp only[R.bind_ok]at h;intro F1 S1 H1 r1 g1 a Sa vs ow Z T;dsimp only at h T ow;have O:=r1.push ow λb z=>(Z b z).2;by_cases L:(cz q).Nodup
  .rw[if_pos L]at h;cases m:d4 (d++[.own P]) q with
   |none=>rw[m]at h;exact h.elim
   |some ss=>
    rw[m]at h;simp only[cP,R.bind_ok]at h;rw[fQ];refine⟨F1,mv q _,ss,O.cal T m L,?_⟩;have len:∀n,(fG (d++[.own P]) q n).length=d.length+1:=λn=>by rw[xW];simp
    cases eg:g ss with
    |no=>rw[eg]at h;exact h.elim
    |er cv n=>
     rw[eg]at h;intro y F' S' H' Y g';unfold e_ at h;dsimp only at h;by_cases u:fz q n=ag
     .rw[if_pos u]at h;obtain⟨S2,J,g2,_⟩:=O.called T m L Y g' (λ_ z=>z) (nr u);obtain⟨l,sl,N,ll⟩:=Ew (len n);rw[N]at J;have h:Ok X.K E W F S H (R.er cv (fG (d++[.own P]) q n).dropLast:R Slot) _:=h;rw[N,List.dropLast_concat]at h;have M:=bA.pushed (K:=X.K) g2 g1 λb z=>(Z b z).1;rw[<-ll]at M;exact h y F' _ H' J.pop M
     .rw[if_neg u]at h;exact h.elim
    |ok s n=>
     rw[eg]at h;intro v F' S' H' Sr Y g' rv r fr;unfold e_ at h;dsimp only at h;by_cases u:fz q n=ag
     .rw[if_pos u]at h;obtain⟨S2,J,g2,u2⟩:=O.called T m L Y g' (λ_ z=>.inl z) (nr u);obtain⟨l,sl,N,ll⟩:=Ew (len n);rw[N]at J;have h:Ok X.K E W F S H (R.ok s (fG (d++[.own P]) q n).dropLast:R Slot) _:=h;rw[N,List.dropLast_concat]at h;have M:=bA.pushed (K:=X.K) g2 g1 λb z=>(Z b z).1;rw[<-ll]at M;refine h F' _ H' J.pop M v Sr rv λb z=>⟨oK g1 (fr b z),(r b z).1,λ⟨j,w,_⟩=>?_,(r b z).2.2⟩
      rcases u2 b ⟨j,w⟩with w|⟨i,w⟩
      .exact(r b z).2.1 w
      .obtain⟨_,_,o,y1,_⟩:=O.foot i b w;rw[fr b z]at y1;cases y1
     .rw[if_neg u]at h;exact h.elim
  .rw[if_neg L]at h;exact h.elim
end
section
variable{X:Cx}{E:XK}{pin:List Nat}{e b c o:aD}{de db n d:ak->R PV}{m:ak->R (List PV)}{g p q l:Pos}
def QA(X:Cx)(r:List V->Hp->VK->Prop):List V->Hp->VK->Prop:=λxs H Q=>∃(p:af) (f:List Tx),xs=[.ref p]/\cf X.K H p (bB f)/\(bR f).length<4000/\∀a,H a=ae->r [.ref a] (upd H a (kY X a (bR f))) Q
def Bu(i j:Nat)(d:ak->R PV):ak->R aH:=λε=>(d ε).bind λx ε1=>match x with
 |.tup [a,b]=>.ok .next ((ε1.set i (.val a)).set j (.val b))
 |_=>.no
theorem SG(i j:Nat){x y:Str}{k:Nat}{f s r:Pos}(hc:X.calm=ag)(w:X.N.Nodup)(he:DE X E e de)(Z:i∉pin:=by decide)(cW:j∉pin:=by decide)(hi:X.N[i]?=aa x:=by rfl)(hj:X.N[j]?=aa y:=by rfl)(T:Loc X.env.scope x:=by first|exact Or.inl rfl|exact Or.inr rfl) (Q:Loc X.env.scope y:=by first|exact Or.inl rfl|exact Or.inr rfl)(hf:X.fn x=ag\/X.env.scope.names.lookup x=aa .local:=by first|exact .inl rfl|exact .inr rfl) (G:X.fn y=ag\/X.env.scope.names.lookup y=aa .local:=by first|exact .inl rfl|exact .inr rfl)(Y:swapsWithSole [.Tuple [.Name x s,.Name y r] k f] e g.line X.env=pure am:=by rfl) (W:swappedStores [.Tuple [.Name x s,.Name y r] k f] e X.env=pure ae:=by rfl):DS X E pin (.Assign [.Tuple [.Name x s,.Name y r] k f] e g) (Bu i j de):=λF S C A H D M h=>by
 refine gC (Gd bP (Hv hc (zf (tD w hi T hf) (zf (tD w hj Q G) Hr))) Y W rfl) (he F S C A H _ M (h.bindE.imp λz B F1 S1 H1 P g1 u v K=>?_));split at u
 .rename_i a b;obtain⟨p,us,rfl,cN,L⟩:=K;obtain⟨J,ra,rfl,O,I,rb,rfl,N,rfl⟩:=L;refine⟨p,_,rfl,cH.of cN,rfl,J,_,rfl,I,_,rfl,rfl,?_⟩;exact u F1 _ _ H1 ((P.set O).set N) ((bA.less i).trans (bA.less j)) ((jb.set Z).trans (jb.set cW))
 .exact u.elim
def NF(K:ay)(r:V->List V->Hp->VK->Prop)(h:TE)(t:TA):TE:=λa H Q=>h a H λx f=>(∃p xs,x=.ref p/\f p=aa (.tup xs))/\t a f λxs i=>r x xs i Q
theorem K2{i:Str}{w:String}{r:V->List V->Hp->VK->Prop}{B:TE}{t:TA}{j f:Pos}{es:List aD}(u:PySem.Slot "tuple" i w)(S:typeOf (.builtin w)=pure (.type "method_descriptor"))(hm:zn X w r)(ho:PE X o B)(ha:PA X (e::es) t)(Z:kf o i X.env (aX o X.env)=aX o X.env:=by rfl)(D9:((cE f (aM (e::es) X.env)).all (λx=>!x.1)&&(mD f (mE [] X.env)).all (λx=>x.1.isSome)&&decide ((e::es).length+([]:List gJ).length+(if([]:List gJ).isEmpty then 0 else 1)<30))=ag:=by rfl)(T:(j.endLine == f.line)=ag:=by rfl) (hs:aM (e::es) X.env=(am,aX e X.env)::aM es X.env:=by rfl) (D4:(cE f (aM es X.env)).any (·.1)=am:=by rfl):PE X (.Call (.Attribute o i j) (e::es) [] f) (NF X.K r B t):=by
 intro A s y H Q I h;refine wpAny_Call_method_late Z D9 T rfl (a6 (ho A s y H _ I h) λv C h'=>?_);obtain⟨x,G,F,N,⟨p,xs,rfl,hp⟩,P⟩:=h';cases N;obtain⟨_,its,_,⟨W,e1,e2,_⟩,Y,e3,e4⟩:=(show cm X.prog X.w G C.heap p (.tup xs)from F.hok p _ hp)
 refine⟨"tuple",w,PySem.F.plainAttrs_tuple,u,S,⟨W,e1,e2⟩,λa z=>?_,?_⟩
 .cases z;exact⟨Y,e3,e4⟩
 have D:=ha f A C y G _ F P;rw[hs]at D ⊢;refine CT (by show(am||(cE f (aM es X.env)).any (·.1))=am;rw[D4] <;> rfl) (CU ?_);exact a6 D λK L h2=>by obtain⟨J,H2,I2,M,O⟩:=h2;exact hm A L y H2 (.ref p) J (.ref p) K Q I2 rfl M O
def rV(f:List PV->PV->Option PV)(d de:ak->R PV):ak->R PV:=λε=>(d ε).bind λx h=>match x with
 |.tup xs=>(de h).bind λk a=>aJ (f xs k) a
 |_=>.no
theorem GP{f a:Pos}(T:DE X E o d)(Y:DE X E e de)(P:kf o "count" X.env (aX o X.env)=aX o X.env:=by rfl)(O:(f.endLine == a.line)=ag:=by rfl) (Z:li e=am:=by rfl):DE X E (.Call (.Attribute o "count" f) [e] [] a) (rV mn d de):=λF S J B H Q M h=>by
 have y:=ik (es:=[]) (env:=X.env) Z;refine bZ (K2 PySem.F.slot_tuple_count PySem.F.type_tuple_count Kl bP (gB bP iG y) P (by rw[y];rfl) O y rfl) (T F S J B H _ M ((Ok.bind h).imp λx j F1 S1 H1 s g1 A v K=>?_));split at A
 .rename_i xs;obtain⟨p,C,rfl,D,L⟩:=K;refine⟨⟨p,C,rfl,D⟩,Y F1 S1 j B H1 _ s ((Ok.bind A).imp λk I F2 S2 H2 N G q w r=>?_)⟩;unfold mn at q;cases i:dG k with
  |none=>rw[i]at q;exact q.elim
  |some z=>
   cases u:iZ xs with
   |none=>rw[i,u]at q;exact q.elim
   |some ws=>rw[i,u]at q;obtain⟨rfl,W⟩:=uN (L.grow G s.fit) u;rw[jA r i];exact⟨p,C,z,rfl,rfl,cH.of (G.imm s.fit D id),rH i,W,q F2 S2 H2 N (bA.refl ..) _ rfl⟩
 .exact A.elim
theorem LS(i:Nat){y:Str}{s:Pos}{j:CmpOp}{r:R2}{f:PV->PV->Option PV}(z:bT X (eE j) r)(w:P2 X.K r f)(C:DE X E b db)(A:zu j b=am)(D:X.N[i]?=aa y:=by rfl)(G:eR X.env.scope y:=by first|exact Or.inl rfl|exact Or.inr (Or.inl rfl)|exact Or.inr (Or.inr rfl))(B:(y==("__debug__":Str))=am:=by decide) (J:(y==("__classdict__":Str))=am:=by decide):DT X E (.Compare (.Name y s) [j] [b] g) (dB (rJ f i db)):=λF S M L H Q u h=>by obtain⟨a,I,v⟩:=RI (Q:=λx K=>∃k,x=.bl k/\Q k K) w C u (uL h);exact vJ (FQ z (fJ D G B J) bP A) ⟨_,I,v⟩
end
section
variable{X:Cx}
theorem Ke:eA "min"=aa (.builtin "min"):=by decide +kernel
def Hf:List (aN×PV)->Option (List Tx)
 |[]=>aa []
 | (.inr k,_)::r=>(Hf r).map (k.cps.toList::·)
 |_=>ae
def NR(b:List (aN×PV)):Option PO:=(Hf b).bind λa=>if a.length<64/\(∀x∈a,x.length<=bG)then aa (.lst (aj (aK a)))else ae
def SO(i:Nat):ak->R PO:=λa=>(aJ (fA a i) a).bind λb a=>aJ (NR b) a
end
end Pu
namespace L2
def yx:Bool->Keyed->Array Keyed->Nat->Nat->Nat->StateT bL Sem (Option Nat):=sortPriv% PySem.Builtin.gallop
def Hs:Array Keyed->Array Keyed->StateT bL Sem (Array Keyed):=sortPriv% PySem.Builtin.mergeLo
def Ht:Array Keyed->Array Keyed->StateT bL Sem (Array Keyed):=sortPriv% PySem.Builtin.mergeHi
def kO(κ:KeyKind)(p:Keyed):κ.α:=(κ.keyOf p.1).getD κ.dflt
def im(b:KeyKind)(p:Keyed):Prop:=∃a,b.keyOf p.1=aa a
theorem im.k{κ:KeyKind}{p:Keyed}(h:im κ p):κ.keyOf p.1=aa (kO κ p):=by obtain⟨a,e⟩:=h;unfold kO;rw[e];rfl
def gY(κ:KeyKind)(kz:gk)(c:aO)(w:aG)(A:aR)(s:ao):Prop :=
 ∀(E:ai->ao->Prop) (x y:ai) (a b:κ.α) {Q:Bool->ao->Prop},κ.keyOf x=aa a->κ.keyOf y=aa b->Q (κ.blt a b) s->ar (aw c w) A (keyLt' kz x y) Q E s
theorem OneLt.ok{κ:KeyKind}(f:κ.OneLt){prog:aO}{w:aG}{A:aR}{s:ao}:gY κ oneType' prog w A s:=λE x y a b _ d c h=>by rw[keyLt'_oneType];exact f prog w A E s x y a b d c h
structure SB(kz:gk)(st:bL):Prop where
 kind:kindOf st=kz
 failed:failedOf st=ae
section
variable{a:aO}{w:aG}{A:aR}{E:ai->ao->Prop}{s:ao}{d:KeyKind}{f:gk}
theorem vP(j:gY d f a w A s){b:bL}{x y:Keyed}{Q:Option Bool->bL->Prop}(i:SB f b)(g:im d x)(c:im d y)(h:Q (aa (d.blt (kO d x) (kO d y))) b):wpS (aw a w) A E s (lt' x y) Q b:=by rw[lt'_eq];refine aL (lM ?_);rw[i.kind];exact aL (t_ (C_ (j _ x.1 y.1 _ _ g.k c.k ⟨rfl,aV h⟩)))
theorem fq{c:bL}{b:Array Keyed}{i:Nat}(g:i<b.size){Q:Keyed->bL->Prop}(h:Q b[i] c):wpS (aw a w) A E s (elem' b i) Q c:=by rw[elem'_eq,getElem?_pos b i g];exact aV h
def Er(c:Bool)(g:Keyed)(j:Array Keyed)(h i:Nat):StateT bL Sem (Option Bool) :=elem' j (h+i) >>= λx=>if c=ag then lt' x g else lt' g x >>= λb=>pure (b.map (!·))
def mf(d:KeyKind)(b:Bool)(c x:Keyed):Bool:=if b=ag then d.blt (kO d x) (kO d c)else !d.blt (kO d c) (kO d x)
theorem N2(p:gY d f a w A s){l:bL}{c:Bool}{j:Keyed}{g:Array Keyed}{b i:Nat}{Q:Option Bool->bL->Prop}(o:SB f l)(n:im d j)(q:b+i<g.size)(m:im d g[b+i])(h:Q (aa (mf d c j g[b+i])) l):wpS (aw a w) A E s (Er c j g b i) Q l:=by
 refine aL (fq q ?_);cases c
 .rw[if_neg (by simp)];exact aL (vP p o n m (aV h))
 .rw[if_pos rfl];exact vP p o m n h
theorem HA(hO:gY d f a w A s){K:bL}(hk:SB f K){G:Bool}{L:Keyed}{z:Array Keyed}{u n b:Nat}{Q:Option Nat->bL->Prop}(kT:im d L)(hn:u+n<=z.size)(hA:∀i (g:i<z.size),im d z[i]) (B:Nat->Bool) (hB:∀i (g:i<n),B i=mf d G L (z[u+i]'∅))(mono:∀i j,i<=j->j<n->B j=ag->B i=ag) (hh:b<n)(h:∀r,r<=n->(∀i,i<r->B i=ag)->(∀i,r<=i->i<n->B i=am)->Q (aa r) K):wpS (aw a w) A E s (yx G L z u n b) Q K:=by
 have O:∀{i:Nat}{Q:Option Bool->bL->Prop},i<n->Q (aa (B i)) K->wpS (aw a w) A E s (Er G L z u i) Q K:=λ{i Q} g q=>N2 hO hk kT ∅ (hA _ _) (by rw[<-hB i g];exact q);have dn:∀{i j:Nat},i<=j->j<n->B i=am->B j=am:=λ{i j} bM hj hf=>by
  cases e:B j with
  |false=>rfl
  |true=>rw[mono i j bM hj e]at hf;cases hf
 unfold yx;refine aL (O hh ?_);cases hr:B b with
 |true=>
  dsimp only;rw[if_pos rfl];refine aL (hV (h_ (I:=λx c m=>m=K/\∃l o,c=(ae,l,o)/\l<o/\x<o/\l<n-b/\B (b+l)=ag) (Q:=λc m=>m=K/\∃l o,c=(ae,l,o)/\l<o/\l<n-b/\B (b+l)=ag/\(n-b<=o\/(o<n-b/\B (b+o)=am))) ?_ ?_ ?_) ?_)
  .rintro x c m _ P ⟨rfl,l,o,rfl,J,T,H,p⟩;dsimp only;by_cases v:o ≥ n-b
   .rw[if_pos v];exact aV ⟨rfl,l,o,rfl,J,H,p,.inl v⟩
   .rw[if_neg v];refine aL (O ∅ ?_);cases e:B (b+o)with
    |true=>exact aV ⟨rfl,o,2*o+1,rfl,∅,∅,∅,e⟩
    |false=>exact aV ⟨rfl,l,o,rfl,J,H,p,.inr ⟨∅,e⟩⟩
  .rintro c m ⟨rfl,l,o,rfl,J,T,H,p⟩;exact⟨rfl,l,o,rfl,J,H,p,.inl ∅⟩
  .exact⟨rfl,0,1,rfl,∅,∅,∅,hr⟩
  rintro c m ⟨rfl,l,o,rfl,J,H,p,M⟩;dsimp only;have Z:b+l+1<=b+min o (n-b):=∅
  have Y:b+min o (n-b)<=n:=∅
  have X:∀i,i<b+l+1->B i=ag:=λi g=>mono i (b+l) ∅ ∅ p;have W:∀i,b+min o (n-b)<=i->i<n->B i=am:=by
   intro i g N;rcases M with M|⟨M,S⟩
   .lia
   .exact dn (i:=b+o) ∅ N S
  clear M;generalize b+l+1=lo at *;generalize b+min o (n-b)=g at *;refine aL (hV (h_ (I:=λx c y=>y=m/\∃l r,c=(ae,l,r)/\l<=r/\r<=n/\r-l<=n-x/\(∀i,i<l->B i=ag)/\(∀i,r<=i->i<n->B i=am)) (Q:=λc y=>y=m/\∃l r,c=(ae,l,r)/\r<=n/\(∀i,i<r->B i=ag)/\(∀i,r<=i->i<n->B i=am)) ?_ ?_ ?_) ?_)
  .rintro x c y _ P ⟨rfl,l,r,rfl,a1,F,a3,D,C⟩;dsimp only;by_cases v:l ≥ r
   .rw[if_pos v];have:l=r:=∅
    subst this;exact aV ⟨rfl,l,l,rfl,F,D,C⟩
   .rw[if_neg v];refine aL (O ∅ ?_);cases e:B (l+(r-l) / 2)with
    |true=>exact aV ⟨rfl,_,r,rfl,∅,F,∅,λi g=>mono _ _ ∅ ∅ e,C⟩
    |false=>exact aV ⟨rfl,l,_,rfl,∅,∅,∅,D,λi g N=>dn (i:=l+(r-l) / 2) g N e⟩
  .rintro c y ⟨rfl,l,r,rfl,a1,F,a3,D,C⟩;have:l=r:=∅
   subst this;exact⟨rfl,l,l,rfl,F,D,C⟩
  .exact⟨rfl,lo,g,rfl,Z,Y,∅,X,W⟩
  .rintro c y ⟨rfl,l,r,rfl,F,D,C⟩;exact aV (h r F D C)
 |false=>
  dsimp only;rw[if_neg (by simp)];refine aL (hV (h_ (I:=λx c m=>m=K/\∃l o,c=(ae,l,o)/\l<o/\x<o/\l<=b/\B (b-l)=am) (Q:=λc m=>m=K/\∃l o,c=(ae,l,o)/\l<o/\l<=b/\B (b-l)=am/\(b+1<=o\/(o<=b/\B (b-o)=ag))) ?_ ?_ ?_) ?_)
  .rintro x c m _ P ⟨rfl,l,o,rfl,J,T,H,p⟩;dsimp only;by_cases v:o ≥ b+1
   .rw[if_pos v];exact aV ⟨rfl,l,o,rfl,J,H,p,.inl v⟩
   .rw[if_neg v];refine aL (O ∅ ?_);cases e:B (b-o)with
    |false=>exact aV ⟨rfl,o,2*o+1,rfl,∅,∅,∅,e⟩
    |true=>exact aV ⟨rfl,l,o,rfl,J,H,p,.inr ⟨∅,e⟩⟩
  .rintro c m ⟨rfl,l,o,rfl,J,T,H,p⟩;exact⟨rfl,l,o,rfl,J,H,p,.inl ∅⟩
  .exact⟨rfl,0,1,rfl,∅,∅,∅,hr⟩
  rintro c m ⟨rfl,l,o,rfl,J,H,p,M⟩;dsimp only;have Z:b+1-min o (b+1)<=b-l:=∅
  have Y:b-l<=n:=∅
  have X:∀i,i<b+1-min o (b+1)->B i=ag:=by
   intro i g;rcases M with M|⟨M,S⟩
   .lia
   .exact mono i (b-o) ∅ ∅ S
  have W:∀i,b-l<=i->i<n->B i=am:=λi g N=>dn (i:=b-l) ∅ N p;clear M p;generalize b+1-min o (b+1)=lo at *;generalize b-l=g at *;refine aL (hV (h_ (I:=λx c y=>y=m/\∃l r,c=(ae,l,r)/\l<=r/\r<=n/\r-l<=n-x/\(∀i,i<l->B i=ag)/\(∀i,r<=i->i<n->B i=am)) (Q:=λc y=>y=m/\∃l r,c=(ae,l,r)/\r<=n/\(∀i,i<r->B i=ag)/\(∀i,r<=i->i<n->B i=am)) ?_ ?_ ?_) ?_)
  .rintro x c y _ P ⟨rfl,l,r,rfl,a1,F,a3,D,C⟩;dsimp only;by_cases v:l ≥ r
   .rw[if_pos v];have:l=r:=∅
    subst this;exact aV ⟨rfl,l,l,rfl,F,D,C⟩
   .rw[if_neg v];refine aL (O ∅ ?_);cases e:B (l+(r-l) / 2)with
    |true=>exact aV ⟨rfl,_,r,rfl,∅,F,∅,λi g=>mono _ _ ∅ ∅ e,C⟩
    |false=>exact aV ⟨rfl,l,_,rfl,∅,∅,∅,D,λi g N=>dn (i:=l+(r-l) / 2) g N e⟩
  .rintro c y ⟨rfl,l,r,rfl,a1,F,a3,D,C⟩;have:l=r:=∅
   subst this;exact⟨rfl,l,l,rfl,F,D,C⟩
  .exact⟨rfl,lo,g,rfl,Z,Y,∅,X,W⟩
  .rintro c y ⟨rfl,l,r,rfl,F,D,C⟩;exact aV (h r F D C)
end
section
variable{κ:KeyKind}{kz:gk}
def bQ(κ:KeyKind)(x y:Keyed):Prop:=κ.kle (kO κ x) (kO κ y)
theorem bQ.trans{x y z:Keyed}(b:bQ κ x y)(a:bQ κ y z):bQ κ x z:=qN b a
structure MS(κ:KeyKind)(T o ra rb:List Keyed):Prop where
 perm:(o++(ra++rb)).Perm T
 so:o.Pairwise (bQ κ)
 sa:ra.Pairwise (bQ κ)
 sb:rb.Pairwise (bQ κ)
 oa:∀x∈o,∀y∈ra,bQ κ x y
 ob:∀x∈o,∀y∈rb,bQ κ x y
theorem MS.stepA{T o x f d:List Keyed}(h:MS κ T o (x++f) d)(i:∀u∈x,∀v∈d,bQ κ u v):MS κ T (o++x) f d:=by
 obtain⟨n,m,c,l,g,j⟩:=h;rw[zN]at c;refine⟨by simpa[lG]using n,?_,c.2.1,l,?_,?_⟩
 .rw[zN];exact⟨m,c.1,λu a v b=>g u a v (zr _ b)⟩
 .intro u a v b;rcases fO.mp a with a|a
  .exact g u a v (lB _ b)
  .exact c.2.2 u a v b
 .intro u a v b;rcases fO.mp a with a|a
  .exact j u a v b
  .exact i u a v b
theorem MS.swap{T o b a:List Keyed}(h:MS κ T o b a):MS κ T o a b :=⟨(Ju _ wg).trans h.perm,h.so,h.sb,h.sa,h.ob,h.oa⟩
theorem MS.stepB{T o x a b:List Keyed}(h:MS κ T o a (x++b))(c:∀u∈x,∀v∈a,bQ κ u v):MS κ T (o++x) a b :=(h.swap.stepA c).swap
def g7(κ:KeyKind)(T:List Keyed)(r:Array Keyed):Prop:=r.toList.Perm T/\r.toList.Pairwise (bQ κ)
theorem MS.endA{T o a:List Keyed}{r:Array Keyed}(h:MS κ T o a [])(e:r.toList=o++a):g7 κ T r:=by obtain⟨f,d,c,i,b,g⟩:=h;refine⟨by rw[e];simpa using f,?_⟩;rw[e,zN];exact⟨d,c,b⟩
theorem MS.last{T o b a:List Keyed}{r:Array Keyed}(h:MS κ T o b a)(c:∀u∈a,∀v∈b,bQ κ u v)(e:r.toList=o++(a++b)):g7 κ T r:=by
 have d:MS κ T o b (a++[]):=by simpa using h
 exact(d.stepB c).endA (by rw[e];simp)
theorem lv(a:Array Keyed)(i j:Nat):(a.extract i j).toList=(a.toList.drop i).take (j-i):=by simp[Array.toList_extract,List.extract_eq_take_drop]
theorem sG(a:Array Keyed)(i:Nat):(a.extract i a.size).toList=a.toList.drop i:=by rw[lv,qH];simp
theorem Gm{a:Array Keyed}{i:Nat}(h:i<a.size):a.toList.drop i=a[i]::a.toList.drop (i+1):=by rw[wc (by simpa using h)];simp
theorem IE(a:Array Keyed)(i k:Nat):a.toList.drop i=(a.extract i (i+k)).toList++a.toList.drop (i+k):=by rw[lv,show i+k-i=k by lia,<-List.drop_drop,nP]
theorem rL{a:Array Keyed}{i:Nat}{x:Keyed}(h:x∈a.toList.drop i):∃j,∃d:j<a.size,i<=j/\a[j]=x:=by
 obtain⟨k,c,e⟩:=nZ h;rw[zO]at e;have b:i+k<a.size:=by simp at c;lia
 exact⟨i+k,b,∅,by simpa using e⟩
theorem Gj{a:Array Keyed}{i k:Nat}{x:Keyed}(h:x∈(a.extract i (i+k)).toList):∃j,∃c:j<a.size,i<=j/\j<i+k/\a[j]=x:=by
 rw[lv]at h;obtain⟨m,b,e⟩:=nZ h;rw[Do,zO]at e;refine⟨i+m,?_,∅,?_,by simpa using e⟩
 all_goals simp at b;lia
def ve(κ:KeyKind)(a:Array Keyed):Prop:=∀i j (b:j<a.size) (c:i<=j),bQ κ (a[i]'∅) a[j]
theorem ve.pw{a:Array Keyed}(h:ve κ a):a.toList.Pairwise (bQ κ):=by rw[ua];intro i j c b d;have:=h i j (by simpa using b) ∅;simpa using this
structure fY(κ:KeyKind)(a b c:Array Keyed)(d f:Nat):Prop where
 ms:MS κ (a.toList++b.toList) c.toList (a.toList.drop d) (b.toList.drop f)
 la:d<=a.size
 lb:f<=b.size
variable{a b c:Array Keyed}{d f:Nat}
theorem fY.pushA(h:fY κ a b c d f)(i:d<a.size)(l:∀j (g:j<b.size),f<=j->bQ κ a[d] b[j]):fY κ a b (c.push a[d]) (d+1) f:=by refine⟨?_,i,h.lb⟩;rw[tW];refine MS.stepA (by rw[Dp,<-Gm i];exact h.ms) λu n v m=>?_;obtain⟨j,g,o,rfl⟩:=rL m;rw[gP.mp n];exact l j g o
theorem fY.pushB(h:fY κ a b c d f)(i:f<b.size)(l:∀j (g:j<a.size),d<=j->bQ κ b[f] a[j]):fY κ a b (c.push b[f]) d (f+1):=by refine⟨?_,h.la,i⟩;rw[tW];refine MS.stepB (by rw[Dp,<-Gm i];exact h.ms) λu n v m=>?_;obtain⟨j,g,o,rfl⟩:=rL m;rw[gP.mp n];exact l j g o
theorem fY.extA{k:Nat}(h:fY κ a b c d f)(p:d+k<=a.size)(m:∀i (l:i<a.size),d<=i->i<d+k->∀j (g:j<b.size),f<=j->bQ κ a[i] b[j]):fY κ a b (c++a.extract d (d+k)) (d+k) f:=by refine⟨?_,p,h.lb⟩;rw[i_];refine MS.stepA (by rw[<-IE];exact h.ms) λu o v n=>?_;obtain⟨j,g,s,rfl⟩:=rL n;obtain⟨i,l,r,q,rfl⟩:=Gj o;exact m i l r q j g s
theorem fY.extB{k:Nat}(h:fY κ a b c d f)(p:f+k<=b.size)(m:∀i (l:i<b.size),f<=i->i<f+k->∀j (g:j<a.size),d<=j->bQ κ b[i] a[j]):fY κ a b (c++b.extract f (f+k)) d (f+k):=by refine⟨?_,h.la,p⟩;rw[i_];refine MS.stepB (by rw[<-IE];exact h.ms) λu o v n=>?_;obtain⟨j,g,s,rfl⟩:=rL n;obtain⟨i,l,r,q,rfl⟩:=Gj o;exact m i l r q j g s
theorem fY.doneA(h:fY κ a b c d f)(e:f=b.size):g7 κ (a.toList++b.toList) (c++a.extract d a.size++b.extract f b.size):=by have:=h.ms;rw[show b.toList.drop f=[] by rw[Dq];simp[e]]at this;refine this.endA ?_;rw[i_,i_,sG,sG,show b.toList.drop f=[] by rw[Dq];simp[e],fQ]
theorem fY.doneB(h:fY κ a b c d f)(e:d=a.size):g7 κ (a.toList++b.toList) (c++a.extract d a.size++b.extract f b.size):=by have:=h.ms;rw[show a.toList.drop d=[] by rw[Dq];simp[e]]at this;refine this.swap.endA ?_;rw[i_,i_,sG,sG,show a.toList.drop d=[] by rw[Dq];simp[e],fQ]
theorem fY.last(h:fY κ a b c d f)(e:d+1=a.size)(n:∀j (g:j<b.size),bQ κ b[j] (a[d]'∅)):g7 κ (a.toList++b.toList) (c++b.extract f b.size++a.extract d a.size):=by
 refine h.ms.last (λu m v l=>?_) (by rw[i_,i_,sG,sG,lG]);obtain⟨j,g,q,rfl⟩:=rL m;obtain⟨i,o,p,rfl⟩:=rL l;have:i=d:=∅
 subst this;exact n j g
end
section
variable{b:aO}{w:aG}{A:aR}{E:ai->ao->Prop}{s:ao}{a:KeyKind}{c:gk}
theorem BW(z:gY a c b w A s){l:bL}(v:SB c l){f:Keyed}{d:Array Keyed}{base n hint:Nat}{Q:Option Nat->bL->Prop}(o:im a f)(u:base+n<=d.size)(B:∀i (g:i<d.size),im a d[i]) (p:∀i j (F:i<=j) (m:j<base+n),base<=i->bQ a (d[i]'∅) (d[j]'∅)) (x:hint<n)(h:∀r,r<=n->(∀i (g:i<d.size),base<=i->i<base+r->bQ a d[i] f)->(∀i (g:i<d.size),base+r<=i->i<base+n->a.klt (kO a f) (kO a d[i]))->Q (aa r) l):wpS (aw b w) A E s (yx am f d base n hint) Q l:=by
 refine HA z v o u B (λi=>if g:i<n then mf a am f (d[base+i]'∅)else am) (λi g=>by rw[dif_pos g]) ?_ x ?_
 .intro i j F m e;rw[dif_pos m]at e;rw[dif_pos ∅];simp only[mf,eX,if_false,JB]at e ⊢;exact qN (p (base+i) (base+j) ∅ ∅ ∅) e
 .intro r q D C;refine h r q (λi g y G=>?_) (λi g y G=>?_)
  .have:=D (i-base) ∅;rw[dif_pos ∅]at this;simp only[mf,eX,if_false,JB,show base+(i-base)=i by lia]at this;exact this
  .have:=C (i-base) ∅ ∅;rw[dif_pos ∅]at this;simp only[mf,eX,if_false,Bool.not_eq_false',show base+(i-base)=i by lia]at this;exact this
theorem Bq(z:gY a c b w A s){l:bL}(v:SB c l){f:Keyed}{d:Array Keyed}{base n hint:Nat}{Q:Option Nat->bL->Prop}(o:im a f)(u:base+n<=d.size)(B:∀i (g:i<d.size),im a d[i]) (p:∀i j (F:i<=j) (m:j<base+n),base<=i->bQ a (d[i]'∅) (d[j]'∅)) (x:hint<n)(h:∀r,r<=n->(∀i (g:i<d.size),base<=i->i<base+r->a.klt (kO a d[i]) (kO a f))->(∀i (g:i<d.size),base+r<=i->i<base+n->bQ a f d[i])->Q (aa r) l):wpS (aw b w) A E s (yx ag f d base n hint) Q l:=by
 refine HA z v o u B (λi=>if g:i<n then mf a ag f (d[base+i]'∅)else am) (λi g=>by rw[dif_pos g]) ?_ x ?_
 .intro i j F m e;rw[dif_pos m]at e;rw[dif_pos ∅];simp only[mf,if_true]at e ⊢;exact KeyOrd.klt_of_kle_of_klt (p (base+i) (base+j) ∅ ∅ ∅) e
 .intro r q D C;refine h r q (λi g y G=>?_) (λi g y G=>?_)
  .have:=D (i-base) ∅;rw[dif_pos ∅]at this;simp only[mf,if_true,show base+(i-base)=i by lia]at this;exact this
  .have:=C (i-base) ∅ ∅;rw[dif_pos ∅]at this;simp only[mf,if_true,show base+(i-base)=i by lia]at this;exact this
end
structure gZ(st aA:bL):Prop where
 kind:kindOf aA=kindOf st
 arr:arrOf aA=arrOf st
 pend:bw aA=bw st
 failed:failedOf aA=failedOf st
theorem gZ.rfl{st:bL}:gZ st st:=⟨_root_.rfl,_root_.rfl,_root_.rfl,_root_.rfl⟩
theorem gZ.sb{b:gk}{a c:bL}(h:gZ a c)(k:SB b a):SB b c:=⟨h.kind.trans k.kind,h.failed.trans k.failed⟩
section
variable{d:aO}{w:aG}{A:aR}{E:ai->ao->Prop}{s:ao}{κ:KeyKind}{kz:gk}
theorem cK{a f:Type}{M:Model}{c:Prop}[Decidable c]{t e:StateT a Sem f}{Q:f->a->Prop}{b:a}(h:c->wpS M A E s t Q b)(g:¬c->wpS M A E s e Q b):wpS M A E s (if c then t else e) Q b:=by
 split
 .exact h ‹_›
 .exact g ‹_›
def Pq:Nat->StateT bL Sem Unit:=sortPriv% PySem.Builtin.setMinGallop
theorem gZ.trans{a b c:bL}(g:gZ a b)(f:gZ b c):gZ a c:=⟨f.kind.trans g.kind,f.arr.trans g.arr,f.pend.trans g.pend,f.failed.trans g.failed⟩
theorem AZ{a b:bL}{g:Nat}{Q:Unit->bL->Prop}(f:gZ b a)(h:∀c,gZ b c->Q () c):wpS (aw d w) A E s (Pq g) Q a :=n0 (h _ (f.trans ⟨rfl,rfl,rfl,rfl⟩))
theorem QN(hO:gY κ kz d w A s){M:bL}(hk:SB kz M){a b:Array Keyed}{Q:Array Keyed->bL->Prop}(ha:0<a.size)(hb:0<b.size)(hA:∀i (P:i<a.size),im κ a[i]) (hB:∀i (P:i<b.size),im κ b[i]) (sa:ve κ a) (sb:ve κ b)(h0:bQ κ b[0] a[0]) (hl:∀j (q:j<b.size),bQ κ b[j] a[a.size-1])(h:∀r G,gZ M G->g7 κ (a.toList++b.toList) r->Q r G):wpS (aw d w) A E s (Hs a b) Q M:=by
 have eZ:∀{i:Nat} (P:i<a.size),i+1=a.size->∀j (q:j<b.size),bQ κ b[j] a[i]:=λ{i} P e j q=>by
  have:i=a.size-1:=∅
  subst this;exact hl j q
 have I0:fY κ a b #[b[0]] 0 1:=by
  have B:fY κ a b #[] 0 0:=⟨⟨by simp,by simp,by simpa using sa.pw,by simpa using sb.pw,by simp,by simp⟩,∅,∅⟩
  exact B.pushB hb λj q _=>h0.trans (sa 0 j q ∅)
 unfold Hs;refine aL (t_ (mO ⟨rfl,?_⟩));refine aL (fq hb ?_);by_cases e1:1=b.size
 .rw[if_pos (by simp[<-e1])];exact aV (h _ _ .rfl (I0.doneA e1))
 rw[if_neg (by simpa using e1)];by_cases e2:0+1=a.size
 .rw[if_pos (by simp[<-e2])];exact aV (h _ _ .rfl (I0.last e2 (eZ ∅ ∅)))
 rw[if_neg (by simpa using e2)];refine aL (lM ?_);refine aL (hV (h_ (I:=λx c G=>gZ M G/\∃f l p K,c=(ae,f,l,p,K)/\fY κ a b f l p/\l+1<a.size/\p<b.size/\x+1<=l+p) (Q:=λc G=>gZ M G/\∃r,c.1=aa r/\g7 κ (a.toList++b.toList) r) ?_ ?_ ?_) ?_);rotate_left
 .rintro c G ⟨_,f,l,p,K,rfl,z,B,u,N⟩;lia
 .exact⟨.rfl,_,0,1,_,rfl,I0,∅,∅,∅⟩
 .rintro⟨c1,c⟩ G ⟨v,r,rfl,Y⟩;exact aV (h r G v Y)
 rintro x c G _ hx ⟨v,f,l,p,K,rfl,z,B,u,N⟩;refine aL (hV (h_ (I:=λy c C=>C=G/\∃f l p F D,c=(ae,f,l,p,F,D)/\fY κ a b f l p/\l+1<a.size/\p<b.size/\x+1+y<=l+p) (Q:=λc C=>C=G/\((∃r Z,c=(aa r,Z)/\g7 κ (a.toList++b.toList) r)\/∃f l p F D,c=(ae,f,l,p,F,D)/\fY κ a b f l p/\l+1<a.size/\p<b.size/\x+1+1<=l+p)) ?_ ?_ ?_) ?_)
 .rintro y c C _ hy ⟨rfl,f,l,p,F,D,rfl,z,B,u,N⟩;dsimp only;refine aL (fq u (aL (fq ∅ (aL (vP hO (v.sb hk) (hB p u) (hA l ∅) ?_)))));cases e:κ.blt (kO κ b[p]) (kO κ (a[l]'∅))with
  |true=>
   dsimp only;rw[if_pos rfl];refine aL (fq u ?_);have O:=z.pushB u λj q d7=>bQ.trans (lN e) (sa l j q d7);by_cases J:p+1=b.size
   .rw[if_pos (by simp[J])];exact aV ⟨rfl,.inl ⟨_,_,rfl,O.doneA J⟩⟩
   rw[if_neg (by simpa using J)];split
   .exact aV ⟨rfl,.inr ⟨_,_,_,_,_,rfl,O,∅,∅,∅⟩⟩
   .exact aV ⟨rfl,_,_,_,_,_,rfl,O,∅,∅,∅⟩
  |false=>
   dsimp only;rw[if_neg (by simp)];refine aL (fq ∅ ?_);have O:=z.pushA ∅ λj q d7=>bQ.trans (show bQ κ (a[l]'∅) b[p] from e) (sb p j q d7);by_cases J:l+1+1=a.size
   .rw[if_pos (by simp[J])];exact aV ⟨rfl,.inl ⟨_,_,rfl,O.last J (eZ ∅ ∅)⟩⟩
   rw[if_neg (by simpa using J)];split
   .exact aV ⟨rfl,.inr ⟨_,_,_,_,_,rfl,O,∅,∅,∅⟩⟩
   .exact aV ⟨rfl,_,_,_,_,_,rfl,O,∅,∅,∅⟩
 .rintro c C ⟨rfl,f,l,p,F,D,rfl,z,B,u,N⟩;lia
 .exact⟨rfl,_,_,_,_,_,rfl,z,B,u,∅⟩
 rintro c C ⟨rfl,⟨r,Z,rfl,Y⟩|⟨f,l,p,F,D,rfl,z,B,u,N⟩⟩
 .exact aV ⟨v,r,rfl,Y⟩
 refine aL (t_ (mO ⟨rfl,?_⟩));refine aL (hV (h_ (I:=λy c C=>gZ M C/\∃f l p K F D,c=(ae,f,l,p,K,F,D)/\fY κ a b f l p/\l+1<a.size/\p<b.size/\x+2+y<=l+p) (Q:=λc C=>gZ M C/\((∃r Z,c=(aa r,Z)/\g7 κ (a.toList++b.toList) r)\/∃f l p K F D,c=(ae,f,l,p,K,F,D)/\fY κ a b f l p/\l+1<a.size/\p<b.size/\x+1+1<=l+p)) ?_ ?_ ?_) ?_);rotate_left
 .rintro c C ⟨_,f,l,p,K,F,D,rfl,z,B,u,N⟩;lia
 .exact⟨v,_,_,_,_,_,_,rfl,z,B,u,∅⟩
 .rintro c C ⟨v,⟨r,Z,rfl,Y⟩|⟨f,l,p,K,F,D,rfl,z,B,u,N⟩⟩
  .exact aV ⟨v,r,rfl,Y⟩
  .dsimp only;refine aL (n0 (aV ⟨⟨v.kind,v.arr,v.pend,v.failed⟩,_,_,_,_,rfl,z,B,u,∅⟩))
 clear B u N z v I0 e1 e2;rintro y c C _ hy ⟨v,f,l,p,K,F,D,rfl,z,B,u,N⟩;clear hx hy;have jM:∀{i j:Nat} (L:i<=j) (q:j<b.size),bQ κ (b[i]'∅) b[j]:=λ{i j} L q=>sb i j q L;have rg:∀{i j:Nat} (L:i<=j) (q:j<a.size),bQ κ (a[i]'∅) a[j]:=λ{i j} L q=>sa i j q L;refine(?_:wpS (aw d w) A E s _ ?Q _);extract_lets -merge x1 x2 x3 x4 x5 x6 x7 x8 x9 xa xb xc jp;have q:∀g W,gZ M W->wpS (aw d w) A E s (jp () g) ?Q W:=by
  intro g W H;dsimp -zeta only[jp,x1,x2,x3,x4,x5,x6,x7,x8,x9,xa,xb,xc];refine aL (AZ H λW H=>?_);refine aL (fq u ?_);refine aL (BW hO (H.sb hk) (base:=l) (n:=a.size-l) (hint:=0) (hB p u) ∅ hA (λi j L q _=>rg L ∅) ∅ λk ou gq fW=>?_);dsimp -zeta only;extract_lets -merge y1 jp2;have wX:∀o n,fY κ a b o n p->l+k<=n->n+1<a.size->wpS (aw d w) A E s (jp2 () o n) ?Q W:=by
   intro o n X pI e4;dsimp -zeta only[jp2,y1];refine aL (fq u ?_);have S:=X.pushB u λj q g=>lN (fW j q ∅ ∅);refine cK (λe5=>?_) λe5=>?_
   .exact aV ⟨H,.inl ⟨_,_,rfl,S.doneA (by simpa using e5)⟩⟩
   have e5':p+1≠b.size:=by simpa using e5
   refine aL (fq ∅ ?_);refine aL (Bq hO (H.sb hk) (base:=p+1) (n:=b.size-(p+1)) (hint:=0) (hA _ _) ∅ hB (λi j L q _=>jM L ∅) ∅ λk' m1 m2 m3=>?_);dsimp -zeta only;extract_lets -merge z1 z2 jp3;have wZ:∀o m,fY κ a b o n m->p+1+k'<=m->m<b.size->wpS (aw d w) A E s (jp3 () o m) ?Q W:=by
    intro o m w6 e6 e7;dsimp -zeta only[jp3,z1,z2];refine aL (fq ∅ ?_);have w8:=w6.pushA ∅ (λj q g=>m3 j q ∅ ∅);refine cK (λe7=>?_) λe7=>?_
    .have T:n+1+1=a.size:=by simpa using e7
     exact aV ⟨H,.inl ⟨_,_,rfl,w8.last T (eZ ∅ T)⟩⟩
    have T:n+1+1≠a.size:=by simpa using e7
    refine cK (λe8=>?_) λe8=>?_
    .exact aV ⟨H,.inr ⟨_,_,_,_,_,_,rfl,w8,∅,∅,∅⟩⟩
    .exact aV ⟨H,_,_,_,_,_,_,rfl,w8,∅,∅,∅⟩
   clear_value jp3;refine cK (λEd=>?_) (λEd=>?_)
   .have w6:=S.extB (k:=k') ∅ (λi P g1 g2 j q g3=>bQ.trans (lN (m2 i P g1 g2)) (rg g3 q));refine cK (λe6=>?_) λe6=>?_
    .exact aV ⟨H,.inl ⟨_,_,rfl,w6.doneA (by simpa using e6)⟩⟩
    have e6':p+1+k'≠b.size:=by simpa using e6
    exact wZ _ _ w6 ∅ ∅
   .exact wZ _ _ S ∅ ∅
  clear_value jp2;refine cK (λhk0=>?_) (λhk0=>?_)
  .have X:fY κ a b (f++a.extract l (l+k)) (l+k) p:=z.extA ∅ λi P g1 g2 j q g3=>(gq i P g1 g2).trans (jM g3 q);refine cK (λJ=>?_) λJ=>?_
   .have pI:l+k+1=a.size:=by simpa using J
    exact aV ⟨H,.inl ⟨_,_,rfl,X.last pI (eZ ∅ pI)⟩⟩
   have pI:l+k+1≠a.size:=by simpa using J
   refine cK (λe4=>?_) λe4=>?_
   .exact aV ⟨H,.inl ⟨_,_,rfl,X.doneB (by simpa using e4)⟩⟩
   have e4':l+k≠a.size:=by simpa using e4
   exact wX _ _ X ∅ ∅
  .exact wX _ _ z ∅ ∅
 exact cK (λ_=>q _ _ v) λ_=>q _ _ v
end
def BS(d:KeyKind):KeyKind where
 α:=d.α
 blt:=λa b=>d.blt b a
 irrefl:=d.irrefl
 trans:=λa b c g f=>d.trans c b a f g
 negTrans:=λa b c h=>(d.negTrans c b a h).symm
 total:=λa b g f=>d.total a b f g
 keyOf:=d.keyOf
 dflt:=d.dflt
section
variable{κ:KeyKind}{g:gk}
theorem uE{x y:Keyed}(h:bQ κ y x):bQ (BS κ) x y:=h
theorem Es{a:Array Keyed}{n:Nat}(h:0<n)(b:n<=a.size):(a.toList.take n).reverse=(a[n-1]'∅)::(a.toList.take (n-1)).reverse:=by
 obtain⟨m,rfl⟩:∃m,n=m+1:=⟨n-1,∅⟩
 rw[zP (by simp;lia),JC];simp
theorem HM(a:Array Keyed)(p n:Nat)(b:p<=n):a.toList.take n=a.toList.take p++(a.extract p n).toList:=by
 rw[lv]
 conv=>lhs;rw[show n=p+(n-p) by lia]
 rw[List.take_add]
theorem rY{a:Array Keyed}{n:Nat}(d:n<=a.size){x:Keyed}(h:x∈a.toList.take n):∃j,∃f:j<a.size,j<n/\a[j]=x:=by
 obtain⟨m,b,e⟩:=nZ h;rw[Do]at e;have c:m<n:=by simp at b;lia
 exact⟨m,∅,c,by simpa using e⟩
theorem Bs{a:Array Keyed}{p n:Nat}(d:n<=a.size){x:Keyed}(h:x∈(a.extract p n).toList):∃j,∃f:j<a.size,p<=j/\j<n/\a[j]=x:=by
 rw[lv]at h;obtain⟨m,b,e⟩:=nZ h;rw[Do,zO]at e;have c:p+m<n:=by simp at b;lia
 exact⟨p+m,∅,∅,c,by simpa using e⟩
theorem p_(a:Array Keyed)(n:Nat):(a.extract 0 n).toList=a.toList.take n:=by rw[lv];simp
structure f9(κ:KeyKind)(a b c:Array Keyed)(f d:Nat):Prop where
 ms:MS (BS κ) (a.toList++b.toList) c.toList (a.toList.take f).reverse (b.toList.take d).reverse
 la:f<=a.size
 lb:d<=b.size
variable{a b c:Array Keyed}{f d:Nat}
theorem f9.pushA(h:f9 κ a b c f d)(o:0<f)(p:f-1<a.size)(l:∀j (i:j<b.size),j<d->bQ κ b[j] a[f-1]):f9 κ a b (c.push a[f-1]) (f-1) d:=by refine⟨?_,∅,h.lb⟩;rw[tW];refine MS.stepA (by rw[Dp,<-Es o h.la];exact h.ms) λu n v m=>?_;obtain⟨j,i,q,rfl⟩:=rY h.lb (qO.mp m);rw[gP.mp n];exact uE (l j i q)
theorem f9.pushB(h:f9 κ a b c f d)(o:0<d)(q:d-1<b.size)(l:∀j (i:j<a.size),j<f->bQ κ a[j] b[d-1]):f9 κ a b (c.push b[d-1]) f (d-1):=by refine⟨?_,h.la,∅⟩;rw[tW];refine MS.stepB (by rw[Dp,<-Es o h.lb];exact h.ms) λu n v m=>?_;obtain⟨j,i,p,rfl⟩:=rY h.la (qO.mp m);rw[gP.mp n];exact uE (l j i p)
theorem f9.extA{p:Nat}(h:f9 κ a b c f d)(l:p<=f)(o:∀i (n:i<a.size),p<=i->i<f->∀j (m:j<b.size),j<d->bQ κ b[j] a[i]):f9 κ a b (c++(a.extract p f).reverse) p d:=by refine⟨?_,cM l h.la,h.lb⟩;rw[i_,Array.toList_reverse];refine MS.stepA (by rw[<-JC,<-HM _ _ _ l];exact h.ms) λu r v q=>?_;obtain⟨j,m,x,rfl⟩:=rY h.lb (qO.mp q);obtain⟨i,n,w,s,rfl⟩:=Bs h.la (qO.mp r);exact uE (o i n w s j m x)
theorem f9.extB{p:Nat}(h:f9 κ a b c f d)(l:p<=d)(o:∀i (n:i<b.size),p<=i->i<d->∀j (m:j<a.size),j<f->bQ κ a[j] b[i]):f9 κ a b (c++(b.extract p d).reverse) f p:=by refine⟨?_,h.la,cM l h.lb⟩;rw[i_,Array.toList_reverse];refine MS.stepB (by rw[<-JC,<-HM _ _ _ l];exact h.ms) λu r v q=>?_;obtain⟨j,m,x,rfl⟩:=rY h.la (qO.mp q);obtain⟨i,n,w,s,rfl⟩:=Bs h.lb (qO.mp r);exact uE (o i n w s j m x)
theorem Aq{T:List Keyed}{r q:Array Keyed}(h:g7 (BS κ) T q)(e:r.toList=q.toList.reverse):g7 κ T r:=by refine⟨by rw[e];exact(JD _).trans h.1,?_⟩;rw[e,JE];exact h.2
theorem f9.doneA(h:f9 κ a b c f d)(e:f=0):g7 κ (a.toList++b.toList) (a.extract 0 f++b.extract 0 d++c.reverse):=by have:=h.ms;rw[e,Dh,List.reverse_nil]at this;refine Aq (q:=(c.toList++(b.toList.take d).reverse).toArray) (this.swap.endA (by simp)) ?_;rw[i_,i_,p_,p_,e];simp
theorem f9.doneB(h:f9 κ a b c f d)(e:d=0):g7 κ (a.toList++b.toList) (a.extract 0 f++b.extract 0 d++c.reverse):=by have:=h.ms;rw[e,Dh,List.reverse_nil]at this;refine Aq (q:=(c.toList++(a.toList.take f).reverse).toArray) (this.endA (by simp)) ?_;rw[i_,i_,p_,p_,e];simp
theorem f9.first(h:f9 κ a b c f d)(e:d=1)(p:∀j (n:j<a.size),bQ κ (b[0]'(by have:=h.lb;lia)) a[j]):g7 κ (a.toList++b.toList) (b.extract 0 d++a.extract 0 f++c.reverse):=by
 refine Aq (q:=(c.toList++((a.toList.take f).reverse++(b.toList.take d).reverse)).toArray) (h.ms.swap.last (λu m v l=>?_) (by simp)) ?_
 .obtain⟨i,o,s,rfl⟩:=rY h.la (qO.mp m);obtain⟨j,n,r,rfl⟩:=rY h.lb (qO.mp l);have:j=0:=∅
  subst this;exact uE (p i o)
 .rw[i_,i_,p_,p_];simp
end
section
variable{f:aO}{w:aG}{A:aR}{E:ai->ao->Prop}{s:ao}{d:KeyKind}{l:gk}
theorem Nv(hO:gY d l f w A s){T:bL}(hk:SB l T){a b:Array Keyed}{Q:Array Keyed->bL->Prop}(ha:0<a.size)(hb:0<b.size)(hA:∀i (hi:i<a.size),im d a[i]) (hB:∀i (hi:i<b.size),im d b[i]) (sa:ve d a) (sb:ve d b)(h0:bQ d b[0] a[0]) (hl:∀j (z:j<b.size),bQ d b[j] a[a.size-1])(h:∀r K,gZ T K->g7 d (a.toList++b.toList) r->Q r K):wpS (aw f w) A E s (Ht a b) Q T:=by
 have jM:∀{i j:Nat} (S:i<=j) (z:j<b.size),bQ d (b[i]'∅) b[j]:=λ{i j} S z=>sb i j z S;have rg:∀{i j:Nat} (S:i<=j) (z:j<a.size),bQ d (a[i]'∅) a[j]:=λ{i j} S z=>sa i j z S;have hf:∀j (z:j<a.size),bQ d b[0] a[j]:=λj z=>h0.trans (rg ∅ z);have I0:f9 d a b #[a[a.size-1]] (a.size-1) b.size:=by
  have C:f9 d a b #[] a.size b.size:=by
   refine⟨⟨?_,by simp,?_,?_,by simp,by simp⟩,∅,∅⟩
   .simp only[<-fP,wj,iy];exact List.Perm.append (JD _) (JD _)
   .simp only[<-fP,wj,JE];exact sa.pw
   .simp only[<-fP,wj,JE];exact sb.pw
  exact C.pushA ha ∅ λj z _=>hl j z
 unfold Ht;refine aL (t_ (mO ⟨rfl,?_⟩));refine aL (fq ∅ ?_);refine cK (λe1=>aV (h _ _ .rfl (I0.doneA (by simpa using e1)))) λe1=>?_;have uo:a.size-1≠0:=by simpa using e1
 refine cK (λe2=>?_) λe2=>?_
 .have lR:b.size=1:=by simpa using e2
  exact aV (h _ _ .rfl (I0.first lR hf))
 have lR:b.size≠1:=by simpa using e2
 refine aL (lM ?_);refine aL (hV (h_ (I:=λx c K=>gZ T K/\∃u v q P,c=(ae,v,q,u,P)/\f9 d a b u v q/\0<v/\v<=a.size/\1<q/\q<=b.size/\x+1+v+q<=a.size+b.size) (Q:=λc K=>gZ T K/\∃r,c.1=aa r/\g7 d (a.toList++b.toList) r) ?_ ?_ ?_) ?_);rotate_left
 .rintro c K ⟨_,u,v,q,P,rfl,B,C,N,L,O,W⟩;lia
 .exact⟨.rfl,_,_,_,_,rfl,I0,∅,∅,∅,∅,∅⟩
 .rintro⟨c1,c⟩ K ⟨J,r,rfl,hD⟩;exact aV (h r K J hD)
 rintro x c K _ hx ⟨J,u,v,q,P,rfl,B,C,N,L,O,W⟩;refine aL (hV (h_ (I:=λy c F=>F=K/\∃u v q H G,c=(ae,v,q,u,H,G)/\f9 d a b u v q/\0<v/\v<=a.size/\1<q/\q<=b.size/\x+1+y+v+q<=a.size+b.size) (Q:=λc F=>F=K/\((∃r c',c=(aa r,c')/\g7 d (a.toList++b.toList) r)\/∃u v q H G,c=(ae,v,q,u,H,G)/\f9 d a b u v q/\0<v/\v<=a.size/\1<q/\q<=b.size/\x+1+1+v+q<=a.size+b.size)) ?_ ?_ ?_) ?_)
 .rintro y c F _ hy ⟨rfl,u,v,q,H,G,rfl,B,C,N,L,O,W⟩;dsimp only;refine aL (fq ∅ (aL (fq ∅ (aL (vP hO (J.sb hk) (hB (q-1) ∅) (hA (v-1) ∅) ?_)))));cases e:d.blt (kO d (b[q-1]'∅)) (kO d (a[v-1]'∅))with
  |true=>
   dsimp only;rw[if_pos rfl];refine aL (fq ∅ ?_);have X:=B.pushA C ∅ λj z d7=>bQ.trans (jM (show j<=q-1 by lia) ∅) (lN e);refine cK (λM=>?_) λM=>?_
   .exact aV ⟨rfl,.inl ⟨_,_,rfl,X.doneA (by simpa using M)⟩⟩
   have pI:v-1≠0:=by simpa using M
   refine cK (λe4=>?_) λe4=>?_
   .exact aV ⟨rfl,.inr ⟨_,_,_,_,_,rfl,X,∅,∅,∅,∅,∅⟩⟩
   .exact aV ⟨rfl,_,_,_,_,_,rfl,X,∅,∅,∅,∅,∅⟩
  |false=>
   dsimp only;rw[if_neg (by simp)];refine aL (fq ∅ ?_);have X:=B.pushB ∅ ∅ λj z d7=>bQ.trans (rg (show j<=v-1 by lia) ∅) (show bQ d (a[v-1]'∅) (b[q-1]'∅)from e);refine cK (λM=>?_) λM=>?_
   .exact aV ⟨rfl,.inl ⟨_,_,rfl,X.first (by simpa using M) hf⟩⟩
   have pI:q-1≠1:=by simpa using M
   refine cK (λe4=>?_) λe4=>?_
   .exact aV ⟨rfl,.inr ⟨_,_,_,_,_,rfl,X,∅,∅,∅,∅,∅⟩⟩
   .exact aV ⟨rfl,_,_,_,_,_,rfl,X,∅,∅,∅,∅,∅⟩
 .rintro c F ⟨rfl,u,v,q,H,G,rfl,B,C,N,L,O,W⟩;lia
 .exact⟨rfl,_,_,_,_,_,rfl,B,C,N,L,O,∅⟩
 rintro c F ⟨rfl,⟨r,c',rfl,hD⟩|⟨u,v,q,H,G,rfl,B,C,N,L,O,W⟩⟩
 .exact aV ⟨J,r,rfl,hD⟩
 refine aL (t_ (mO ⟨rfl,?_⟩));refine aL (hV (h_ (I:=λy c F=>gZ T F/\∃u v q P H G,c=(ae,v,q,u,P,H,G)/\f9 d a b u v q/\0<v/\v<=a.size/\1<q/\q<=b.size/\x+2+y+v+q<=a.size+b.size) (Q:=λc F=>gZ T F/\((∃r c',c=(aa r,c')/\g7 d (a.toList++b.toList) r)\/∃u v q P H G,c=(ae,v,q,u,P,H,G)/\f9 d a b u v q/\0<v/\v<=a.size/\1<q/\q<=b.size/\x+1+1+v+q<=a.size+b.size)) ?_ ?_ ?_) ?_);rotate_left
 .rintro c F ⟨_,u,v,q,P,H,G,rfl,B,C,N,L,O,W⟩;lia
 .exact⟨J,_,_,_,_,_,_,rfl,B,C,N,L,O,∅⟩
 .rintro c F ⟨J,⟨r,c',rfl,hD⟩|⟨u,v,q,P,H,G,rfl,B,C,N,L,O,W⟩⟩
  .exact aV ⟨J,r,rfl,hD⟩
  .dsimp only;exact aL (AZ J λZ D=>aV ⟨D,_,_,_,_,rfl,B,C,N,L,O,∅⟩)
 clear C N L O W B J I0 e1 e2;rintro y c F _ hy ⟨J,u,v,q,P,H,G,rfl,B,C,N,L,O,W⟩;clear hx hy;refine(?_:wpS (aw f w) A E s _ ?Q _);extract_lets -merge x1 x2 x3 x4 x5 x6 x7 x8 x9 xa xb xc jp;have z:∀g Z,gZ T Z->wpS (aw f w) A E s (jp () g) ?Q Z:=by
  intro g Z D;dsimp -zeta only[jp,x1,x2,x3,x4,x5,x6,x7,x8,x9,xa,xb,xc];refine aL (AZ D λZ D=>?_);refine aL (fq ∅ ?_);refine aL (BW hO (D.sb hk) (base:=0) (n:=v) (hint:=v-1) (hB (q-1) ∅) ∅ hA (λi j S z _=>rg S ∅) ∅ λp ou gq fW=>?_);dsimp -zeta only;extract_lets -merge y1 y2 jp2;have wX:∀n o,f9 d a b o n q->0<n->n<=p->wpS (aw f w) A E s (jp2 () n o) ?Q Z:=by
   intro n o wY pI e4;dsimp -zeta only[jp2,y1,y2];refine aL (fq ∅ ?_);have Y:=wY.pushB ∅ ∅ λj z g=>gq j z ∅ ∅;refine cK (λe5=>?_) λe5=>?_
   .exact aV ⟨D,.inl ⟨_,_,rfl,Y.first (by simpa using e5) hf⟩⟩
   have e5':q-1≠1:=by simpa using e5
   refine aL (fq ∅ ?_);refine aL (Bq hO (D.sb hk) (base:=0) (n:=q-1) (hint:=q-1-1) (hA _ _) ∅ hB (λi j S z _=>jM S ∅) ∅ λp' m1 m2 m3=>?_);dsimp -zeta only;extract_lets -merge z1 z2 z3 jp3;have wZ:∀m o,f9 d a b o n m->1<m->m<=p'->wpS (aw f w) A E s (jp3 () m o) ?Q Z:=by
    intro m o w6 e6 e7;dsimp -zeta only[jp3,z1,z2,z3];refine aL (fq ∅ ?_);have w8:=w6.pushA ∅ ∅ (λj z g=>lN (m2 j z ∅ ∅));refine cK (λe7=>?_) λe7=>?_
    .exact aV ⟨D,.inl ⟨_,_,rfl,w8.doneA (by simpa using e7)⟩⟩
    have e7':n-1≠0:=by simpa using e7
    refine cK (λe8=>?_) λe8=>?_
    .exact aV ⟨D,.inr ⟨_,_,_,_,_,_,rfl,w8,∅,∅,∅,∅,∅⟩⟩
    .exact aV ⟨D,_,_,_,_,_,_,rfl,w8,∅,∅,∅,∅,∅⟩
   clear_value jp3;refine cK (λEd=>?_) (λEd=>?_)
   .have w6:=Y.extB (p:=p') ∅ (λi hi g1 g2 j z g3=>bQ.trans (rg (show j<=n-1 by lia) ∅) (m3 i hi ∅ ∅));refine cK (λe6=>?_) λe6=>?_
    .exact aV ⟨D,.inl ⟨_,_,rfl,w6.first (by simpa using e6) hf⟩⟩
    refine cK (λe9=>?_) λe9=>?_
    .exact aV ⟨D,.inl ⟨_,_,rfl,w6.doneB (by simpa using e9)⟩⟩
    have e6':p'≠1:=by simpa using e6
    have e9':p'≠0:=by simpa using e9
    exact wZ _ _ w6 ∅ ∅
   .exact wZ _ _ Y ∅ ∅
  clear_value jp2;refine cK (λhk0=>?_) (λhk0=>?_)
  .have wY:f9 d a b (u++(a.extract p v).reverse) p q:=B.extA ∅ λi hi g1 g2 j z g3=>bQ.trans (jM (show j<=q-1 by lia) ∅) (lN (fW i hi ∅ ∅));refine cK (λM=>?_) λM=>?_
   .exact aV ⟨D,.inl ⟨_,_,rfl,wY.doneA (by simpa using M)⟩⟩
   have pI:p≠0:=by simpa using M
   exact wX _ _ wY ∅ ∅
  .exact wX _ _ B ∅ ∅
 exact cK (λ_=>z _ _ J) λ_=>z _ _ J
end
def putL(a:Array Keyed)(c:Nat)(l:List Keyed):Array Keyed:=l.zipIdx.foldl (λa (b:Keyed×Nat)=>a.setIfInBounds (c+b.2) b.1) a
theorem AH:∀(l:List Keyed) (n b:Nat) (a:Array Keyed),b+n+l.length<=a.size -> ((l.zipIdx n).foldl (λa (c:Keyed×Nat)=>a.setIfInBounds (b+c.2) c.1) a).size=a.size /\ ∀k,((l.zipIdx n).foldl (λa (c:Keyed×Nat)=>a.setIfInBounds (b+c.2) c.1) a)[k]?=if b+n<=k/\k<b+n+l.length then l[k-(b+n)]? else a[k]?
 |[],n,b,a,_=>⟨rfl,λk=>by rw[if_neg (by simp)];rfl⟩
 |x::l,n,b,a,h=>by
  have g:b+(n+1)+l.length<=(a.setIfInBounds (b+n) x).size:=by simp at h ⊢;lia
  obtain⟨j,i⟩:=AH l (n+1) b (a.setIfInBounds (b+n) x) g;rw[List.zipIdx_cons,kM];refine⟨by rw[j];simp,λk=>?_⟩;rw[i];by_cases f:b+n=k
  .subst f;rw[if_neg ∅,if_pos (by simp)];rw[Array.getElem?_setIfInBounds_self_of_lt (by simp at h;lia)];simp
  .by_cases d:b+(n+1)<=k/\k<b+(n+1)+l.length
   .rw[if_pos d,if_pos (by simp;lia)];rw[show k-(b+n)=k-(b+(n+1))+1 by lia,List.getElem?_cons_succ]
   .rw[if_neg d,if_neg (by simp;lia),Array.getElem?_setIfInBounds_ne f]
theorem Mq{a:Array Keyed}{b:Nat}{l:List Keyed}(h:b+l.length<=a.size):(putL a b l).size=a.size:=(AH l 0 b a ∅).1
theorem Bz{a:Array Keyed}{b:Nat}{l:List Keyed}(h:b+l.length<=a.size)(k:Nat):(putL a b l)[k]?=if b<=k/\k<b+l.length then l[k-b]? else a[k]? :=(AH l 0 b a ∅).2 k
theorem QO{a:Array Keyed}{b n:Nat}{l:List Keyed}(h:b+n<=a.size)(d:l.Perm ((a.toList.drop b).take n)):(putL a b l).toList.Perm a.toList:=by
 have f:l.length=n:=by rw[d.length_eq,mF,lF];simp;lia
 have e:(putL a b l).toList=a.toList.take b++(l++a.toList.drop (b+n)):=by
  apply t8;intro k;rw[nN,Bz ∅,List.getElem?_append,List.getElem?_append,mF,JF,Jx,f];simp only[fP,nN];rw[show min b a.size=b by lia];by_cases c:k<b
  .rw[if_neg ∅,if_pos c,if_pos c]
  .rw[if_neg c];by_cases i:k<b+n
   .rw[if_pos ∅,if_pos ∅]
   .rw[if_neg ∅,if_neg ∅];congr 1;lia
 rw[e];have g:a.toList=a.toList.take b++((a.toList.drop b).take n++a.toList.drop (b+n)):=by rw[<-List.drop_drop,nP,nP]
 conv=>rhs;rw[g]
 exact Ju _ (List.Perm.append_right _ d)
section
variable{κ:KeyKind}{kz:gk}
def Run(κ:KeyKind)(a:Array Keyed)(b n:Nat):Prop:=∀i j x y,b<=i->i<=j->j<b+n->a[i]?=aa x->a[j]?=aa y->bQ κ x y
theorem bQ.refl(x:Keyed):bQ κ x x:=mQ _
structure Wr(a a':Array Keyed)(lo n:Nat):Prop where
 perm:a'.toList.Perm a.toList
 size:a'.size=a.size
 out:∀k,k<lo\/lo+n<=k->a'[k]?=a[k]?
theorem Run.keep{a m:Array Keyed}{c n b f:Nat}(h:Run κ a c n)(w:Wr a m b f)(d:c+n<=b\/b+f<=c):Run κ m c n:=by intro i j x y q p o l g;rw[w.out i ∅]at l;rw[w.out j ∅]at g;exact h i j x y q p o l g
end
section
variable{b:aO}{w:aG}{A:aR}{E:ai->ao->Prop}{s:ao}{κ:KeyKind}{kz:gk}
theorem Ru{a:Type}{M:Model}{Q:PUnit->a->Prop}{d c:a}(h:Q ⟨⟩ c):wpS M A E s (set c:StateT a Sem PUnit) Q d:=by unfold wpS;rw[StateT.run_set];exact aC ⟨rfl,h⟩
theorem Ts(a:Array Keyed){p q t:Nat}(d:p<=q)(c:q<=t):(a.extract p q).toList++(a.extract q t).toList=(a.extract p t).toList:=by rw[lv,lv,lv,show t-p=(q-p)+(t-q) by lia,List.take_add,List.drop_drop,show p+(q-p)=q by lia]
theorem Sq{a:Array Keyed}{c d o k f:Nat}(Y:c+d+o<=a.size)(hk:k<d)(h0:0<f)(Z:f<=o)(X:Run κ a c d)(W:Run κ a (c+d) o)(a1:∀i (l:i<a.size),c<=i->i<c+k->bQ κ a[i] (a[c+d]'∅)) (b2:∀i (l:i<a.size),c+d+f<=i->i<c+d+o->bQ κ (a[c+d-1]'∅) a[i]){r:Array Keyed} (u:g7 κ ((a.extract (c+k) (c+d)).toList++(a.extract (c+d) (c+d+f)).toList) r):Wr a (putL a (c+k) r.toList) c (d+o)/\Run κ (putL a (c+k) r.toList) c (d+o):=by
 rw[Ts _ ∅ ∅]at u;have bt:r.toList.length=d-k+f:=by rw[u.1.length_eq,lv,mF,lF,fP];lia
 have D:c+k+r.toList.length<=a.size:=∅
 have B:∀m∈r.toList,∃t,∃C:t<a.size,c+k<=t/\t<c+d+f/\a[t]=m:=λm B=>Bs ∅ (u.1.mem_iff.mp B);have G:∀{i j:Nat} (z:i<=j) (h:j<c+d),c<=i->bQ κ (a[i]'∅) (a[j]'∅):=λ{i j} z h l=>X i j _ _ l z h (getElem?_pos _ _ _) (getElem?_pos _ _ _);have F:∀{i j:Nat} (z:i<=j) (h:j<c+d+o),c+d<=i->bQ κ (a[i]'∅) (a[j]'∅):=λ{i j} z h l=>W i j _ _ l z h (getElem?_pos _ _ _) (getElem?_pos _ _ _);have pS:∀i (l:i<a.size) j (h:j<a.size),c<=i->i<c+k->c+d<=j->j<c+d+o->bQ κ a[i] a[j]:=λi l j h c1 I M c4=>(a1 i l c1 I).trans (F M c4 (a8 _));refine⟨⟨?_,Mq D,λq hq=>?_⟩,?_⟩
 .refine QO (n:=d-k+f) ∅ ?_;have:=u.1;rwa[lv,show c+d+f-(c+k)=d-k+f by lia]at this
 .rw[Bz D,if_neg ∅]
 .intro i j x y h1 J h3 p g;rw[Bz D]at p g;by_cases L:c+k<=i/\i<c+k+r.toList.length
  .rw[if_pos L]at p;obtain⟨t,C,T,S,rfl⟩:=B x (o_ p);by_cases v:c+k<=j/\j<c+k+r.toList.length
   .rw[if_pos v]at g;by_cases H:i=j
    .subst H;rw[p]at g;cases g;exact bQ.refl _
    .obtain⟨Q,P⟩:=c9.mp p;obtain⟨O,N⟩:=c9.mp g;have:=ua.mp u.2 (i-(c+k)) (j-(c+k)) Q O ∅;rw[P,N]at this;exact this
   .rw[if_neg v]at g;obtain⟨h,rfl⟩:=mL.mp g;by_cases K:t<c+d
    .exact(G (show t<=c+d-1 by lia) ∅ ∅).trans (b2 j h ∅ ∅)
    .exact F ∅ ∅ ∅
  .rw[if_neg L]at p;obtain⟨l,rfl⟩:=mL.mp p;by_cases v:c+k<=j/\j<c+k+r.toList.length
   .rw[if_pos v]at g;obtain⟨t,C,T,S,rfl⟩:=B y (o_ g);by_cases K:t<c+d
    .exact G ∅ K ∅
    .exact pS i l t C ∅ ∅ ∅ ∅
   .rw[if_neg v]at g;obtain⟨h,rfl⟩:=mL.mp g;by_cases I:i<c+k
    .by_cases M:j<c+k
     .exact G J ∅ h1
     .exact pS i l j h ∅ I ∅ ∅
    .exact F J ∅ ∅
theorem ED{a:Array Keyed}{d c f:Nat}(p:d+c+f<=a.size)(v:0<c)(q:0<f)(m:Run κ a d c)(l:Run κ a (d+c) f)(r:bQ κ (a[d+c-1]'∅) (a[d+c]'∅)):Run κ a d (c+f):=by
 intro i j x y o n z h g;by_cases u:j<d+c
 .exact m i j x y o n u h g
 .by_cases B:i<d+c
  .exact((m i (d+c-1) x _ o ∅ ∅ h (getElem?_pos _ _ _)).trans r).trans (l (d+c) j _ y ∅ ∅ ∅ (getElem?_pos _ _ _) g)
  .exact l i j x y ∅ n ∅ h g
theorem Wr.same{a:Array Keyed}{lo n:Nat}:Wr a a lo n:=⟨qJ _,rfl,λ_ _=>rfl⟩
theorem QL(I:gY κ kz b w A s){m:bL}(hk:SB kz m)(v:∀i (l:i<(arrOf m).size),im κ (arrOf m)[i]){i c a pw f C:Nat}(M:(bw m)[i]?=aa (c,a,pw)) (L:(bw m)[i+1]?=aa (c+a,f,C)) (J:0<a) (D:0<f) (o:c+a+f<=(arrOf m).size)(y:Run κ (arrOf m) c a) (x:Run κ (arrOf m) (c+a) f) {Q:Bool->bL->Prop}(h:∀q,SB kz q->bw q=((bw m).setIfInBounds i (c,a+f,pw)).eraseIdxIfInBounds (i+1)->Wr (arrOf m) (arrOf q) c (a+f)->Run κ (arrOf q) c (a+f)->Q ag q):wpS (aw b w) A E s (mergeAt' i) Q m:=by
 obtain⟨kd,d,H,mg,fl⟩:=m;have P:kz=kd:=hk.kind.symm;have jN:fl=ae:=hk.failed;subst jN;subst P;replace v:∀i (l:i<d.size),im κ d[i]:=v;replace o:c+a+f<=d.size:=o;replace y:Run κ d c a:=y;replace x:Run κ d (c+a) f:=x;replace M:H[i]?=aa (c,a,pw):=M;replace L:H[i+1]?=aa (c+a,f,C):=L;replace h:∀q,SB kz q->bw q=(H.setIfInBounds i (c,a+f,pw)).eraseIdxIfInBounds (i+1)->Wr d (arrOf q) c (a+f)->Run κ (arrOf q) c (a+f)->Q ag q:=h;have g1:∀{i j:Nat} (p:i<=j) (g:j<c+a),c<=i->bQ κ (d[i]'∅) (d[j]'∅):=λ{i j} p g l=>y i j _ _ l p g (getElem?_pos _ _ _) (getElem?_pos _ _ _);have g2:∀{i j:Nat} (p:i<=j) (g:j<c+a+f),c+a<=i->bQ κ (d[i]'∅) (d[j]'∅):=λ{i j} p g l=>x i j _ _ l p g (getElem?_pos _ _ _) (getElem?_pos _ _ _);unfold mergeAt';refine aL (lM ?_);dsimp only;rw[M,L];dsimp only;refine aL (Ru ?_);generalize (H.setIfInBounds i (c,a+f,pw)).eraseIdxIfInBounds (i+1)=pend at *;refine aL (fq ∅ ?_);refine aL (BW I ⟨rfl,rfl⟩ (base:=c) (n:=a) (hint:=0) (v _ _) ∅ v (λi j p g l=>g1 p g l) J λk m1 Z m3=>?_);dsimp only;refine cK (λW=>?_) λW=>?_
 .have X:a<=k:=by have:a-k=0:=(by simpa using W);lia
  refine aV (h _ ⟨rfl,rfl⟩ rfl Wr.same (ED o J D y x (Z _ _ ∅ ∅)))
 have X:k<a:=by have:a-k≠0:=(by simpa using W);lia
 refine aL (fq ∅ ?_);refine aL (Bq I ⟨rfl,rfl⟩ (base:=c+a) (n:=f) (hint:=f-1) (v _ _) ∅ v (λi j p g l=>g2 p g l) ∅ λu n1 Y N=>?_);dsimp only;have F:c+k+(a-k)-1=c+a-1:=∅
 simp only[F]at Y N;refine cK (λT=>?_) λT=>?_
 .have lR:u=0:=by simpa using T
  refine aV (h _ ⟨rfl,rfl⟩ rfl Wr.same (ED o J D y x (N _ _ ∅ ∅)))
 have lR:u≠0:=by simpa using T
 have xs:(d.extract (c+k) (c+a)).size=a-k:=by simp;lia
 have ys:(d.extract (c+a) (c+a+u)).size=u:=by simp;lia
 refine cK (λ_=>?_) λ_=>?_
 all_goals
  first
   |refine aL (QN I ⟨rfl,rfl⟩ ∅ ∅ ?_ ?_ ?_ ?_ ?_ ?_ ?_)
   |refine aL (Nv I ⟨rfl,rfl⟩ ∅ ∅ ?_ ?_ ?_ ?_ ?_ ?_ ?_)
  .intro j g;rw[n4];exact v _ _
  .intro j g;rw[n4];exact v _ _
  .intro i j g p;rw[n4,n4];exact g1 ∅ ∅ ∅
  .intro i j g p;rw[n4,n4];exact g2 ∅ ∅ ∅
  .rw[n4,n4];exact lN (m3 _ _ ∅ ∅)
  .intro j g;rw[n4,n4];have:=Y (c+a+j) ∅ ∅ ∅;have e:c+k+((d.extract (c+k) (c+a)).size-1)=c+a-1:=∅
   simp only[e];exact lN this
  .rintro r ⟨O,G,K,mg',S⟩ ⟨B,z,c3,c4⟩ hD;change O=kz at B;change G=d at z;change K=pend at c3;change S=ae at c4;subst B z c3 c4;refine aL (n0 ?_);refine aL (lM ?_);obtain⟨w1,w2⟩:=Sq o X ∅ n1 y x (λi l B z=>Z i l B z) (λi l B z=>N i l B z) hD;exact aV (h _ ⟨rfl,rfl⟩ rfl w1 w2)
end
section
variable{κ:KeyKind}{kz:gk}
theorem AV{a:Array Keyed}{i:Nat}{x:Keyed}(h:a[i]?=aa x):KK κ a i=kO κ x:=by unfold KK kO;rw[h]
theorem sR{a:Array Keyed}{i:Nat}(h:i<a.size):KK κ a i=kO κ a[i]:=AV (getElem?_pos _ _ _)
def iC(κ:KeyKind)(a:Array Keyed)(lo n:Nat):Prop:=∀i j,lo<=i->i<=j->j<lo+n->κ.kle (KK κ a i) (KK κ a j)
def oD(κ:KeyKind)(a:Array Keyed)(lo n:Nat):Prop:=∀i j,lo<=i->i<=j->j<lo+n->κ.kle (KK κ a j) (KK κ a i)
theorem iC.run{a:Array Keyed}{b n:Nat}(h:iC κ a b n):Run κ a b n:=by intro i j x y l g f d c;have:=h i j l g f;rw[AV d,AV c]at this;exact this
theorem Wr.trans{a b c:Array Keyed}{d n:Nat}(g:Wr a b d n)(f:Wr b c d n):Wr a c d n :=⟨f.perm.trans g.perm,f.size.trans g.size,λk h=>(f.out k h).trans (g.out k h)⟩
theorem Wr.mono{a b:Array Keyed}{d n c f:Nat}(h:Wr a b d n)(j:c<=d)(i:d+n<=c+f):Wr a b c f :=⟨h.perm,h.size,λk g=>h.out k ∅⟩
theorem Ku{a:Array Keyed}{i j:Nat}(b:j<=a.size)(d:i<=j):Wr a (mirror a i j ((j-i) / 2)) i (j-i) :=⟨Dr.mp (mirror_perm _ _ _ _),mirror_size _ _ _ _,λk c=>by rw[getElem?_mirror_all b,if_neg ∅]⟩
theorem OM{a:Array Keyed}{b d:Nat}(c:b<a.size)(f:d<=b):Wr a (bubble a b d) (b-d) (d+1) :=⟨Dr.mp (bubble_perm _ _ _),bubble_size _ _ _,λk g=>by rw[getElem?_bubble c d f,if_neg ∅,if_neg ∅]⟩
def AllK(κ:KeyKind)(a:Array Keyed):Prop:=∀i (b:i<a.size),im κ a[i]
theorem AllK.of{a b:Array Keyed}(h:AllK κ a)(p:b.toList.Perm a.toList):AllK κ b:=by intro i f;have c:b[i]∈a.toList:=p.mem_iff.mp (by simp);obtain⟨j,d,e⟩:=nZ c;rw[<-e];simpa using h j (by simpa using d)
end
section
variable{d:aO}{w:aG}{A:aR}{E:ai->ao->Prop}{s:ao}{κ:KeyKind}{f:gk}
theorem pV(m:gY κ f d w A s){a:bL}(l:SB f a)(g:AllK κ (arrOf a)){i j:Nat}{Q:Option Bool->bL->Prop}(c:i<(arrOf a).size)(b:j<(arrOf a).size)(h:Q (aa (κ.blt (KK κ (arrOf a) i) (KK κ (arrOf a) j))) a):wpS (aw d w) A E s (ltAt' i j) Q a:=by rw[sR c,sR b]at h;rw[ltAt'_eq];refine aL (lM ?_);exact aL (fq c (aL (fq b (vP m l (g i c) (g j b) h))))
theorem vh{b a:bL}{lo n i j:Nat}{Q:Unit->bL->Prop}(m:SB f a)(o:bw a=bw b)(l:Wr (arrOf b) (arrOf a) lo n)(r:i<=j)(p:j<=(arrOf b).size)(q:lo<=i)(u:j<=lo+n)(h:∀c,SB f c->bw c=bw b->Wr (arrOf b) (arrOf c) lo n->(∀k,KK κ (arrOf c) k=if i<=k/\k<j then KK κ (arrOf a) (i+j-1-k)else KK κ (arrOf a) k)->Q () c):wpS (aw d w) A E s (reverseSlice' i j) Q a:=by
 have g:j<=(arrOf a).size:=by rw[l.size];exact p
 exact wpS_reverse (h _ ⟨m.kind,m.failed⟩ o (l.trans ((Ku g r).mono q ∅)) λk=>KK_mirror g k)
theorem Tk{i:Type}{c:Prop}[Decidable c]{j h:StateT bL Sem i}{Q:i->bL->Prop}{g:bL}{J:bL->Prop}(l:¬c->J g)(a:∀b,J b->wpS (aw d w) A E s h Q b)(m:c->(∀b,J b->wpS (aw d w) A E s h Q b)->wpS (aw d w) A E s j Q g):wpS (aw d w) A E s (if c then j else h) Q g :=cK (λe=>m e a) λe=>a g (l e)
theorem Br{a:Array Keyed}{lo x:Nat}(b:iC κ a lo x)(h:1<=x)(e:κ.kle (KK κ a (lo+x-1)) (KK κ a (lo+x))):iC κ a lo (x+1):=λi j c n o=>by
 by_cases l:j<lo+x
 .exact b i j c n l
 .have g:j=lo+x:=∅
  subst g;by_cases m:i=lo+x
  .subst m;exact mQ _
  .exact qN (b i (lo+x-1) c ∅ ∅) e
theorem Ev{a:Array Keyed}{lo x:Nat}(b:oD κ a lo x)(h:1<=x)(e:κ.kle (KK κ a (lo+x)) (KK κ a (lo+x-1))):oD κ a lo (x+1):=λi j c n o=>by
 by_cases l:j<lo+x
 .exact b i j c n l
 .have g:j=lo+x:=∅
  subst g;by_cases m:i=lo+x
  .subst m;exact mQ _
  .exact qN e (b i (lo+x-1) c ∅ ∅)
theorem N_{a:Array Keyed}{lo x b:Nat}(g:∀i,lo+x-(b+1)<=i->i<lo+x->KK κ a i=KK κ a (lo+x-1))(h:KK κ a (lo+x)=KK κ a (lo+x-1)):∀i,lo+(x+1)-(b+1+1)<=i->i<lo+(x+1)->KK κ a i=KK κ a (lo+(x+1)-1):=λi l j=>by
 rw[show lo+(x+1)-1=lo+x by lia];by_cases c:i=lo+x
 .rw[c]
 .rw[g i ∅ ∅,h]
theorem Fa{a b:Array Keyed}{i j n:Nat}(g:∀k,KK κ b k=if i<=k/\k<j then KK κ a (i+j-1-k)else KK κ a k)(c:∀k,i<=k->k<j->KK κ a k=KK κ a n):∀k,KK κ b k=KK κ a k:=λk=>by
 rw[g];split
 .rw[c _ ∅ ∅,c k ∅ ∅]
 .rfl
theorem LI(S:gY κ f d w A s){v:bL}(P:SB f v)(T:AllK κ (arrOf v)){lo a:Nat}(h1:1<=a)(hsz:lo+a<=(arrOf v).size){Q:Option Nat->bL->Prop}(h:∀n p,SB f p->bw p=bw v->Wr (arrOf v) (arrOf p) lo a->1<=n->n<=a->iC κ (arrOf p) lo n->Q (aa n) p):wpS (aw d w) A E s (countRun' lo a) Q v:=by
 have one:iC κ (arrOf v) lo 1:=λi j r y D=>by
  have:i=j:=∅
  subst this;exact mQ _
 have go:∀{u:bL},Wr (arrOf v) (arrOf u) lo a->(arrOf u).size=(arrOf v).size:=λw=>w.size;unfold countRun';refine aL (hV (h_ (I:=λx c g=>g=v/\c=(ae,x)/\iC κ (arrOf v) lo x) (Q:=λc g=>g=v/\∃n,c=(ae,n)/\1<=n/\n<=a/\iC κ (arrOf v) lo n/\(n=a\/κ.klt (KK κ (arrOf v) (lo+n)) (KK κ (arrOf v) (lo+n-1)))) ?_ ?_ ?_) ?_)
 .rintro x c g pH oq ⟨rfl,rfl,o⟩;dsimp only;refine aL (pV S P T ∅ ∅ ?_);cases e:κ.blt (KK κ (arrOf g) (lo+x)) (KK κ (arrOf g) (lo+x-1))with
  |true=>exact aV ⟨rfl,x,rfl,∅,∅,o,.inr e⟩
  |false=>exact aV ⟨rfl,rfl,Br o ∅ e⟩
 .rintro c g ⟨rfl,rfl,o⟩;rw[show max 1 a=a by lia]at o ⊢;exact⟨rfl,a,rfl,∅,∅,o,.inl rfl⟩
 .exact⟨rfl,rfl,one⟩
 rintro c p ⟨rfl,n,rfl,n1,n2,o,hn⟩;dsimp only;refine cK (λe1=>aV (h n p P rfl Wr.same n1 n2 o)) λe1=>?_;have uo:n≠a:=by simpa using e1
 replace hn:κ.klt (KK κ (arrOf p) (lo+n)) (KK κ (arrOf p) (lo+n-1)):=hn.resolve_left uo;refine Tk (J:=λC=>SB f C/\bw C=bw p/\Wr (arrOf p) (arrOf C) lo a/\oD κ (arrOf C) lo (n+1)) (λen=>⟨P,rfl,Wr.same,λi j r y D=>?_⟩) (λC ⟨gq,cW,rh,hD⟩=>?_) λen key=>?_
 .have en':n=1:=∅
  by_cases hi:i=j
  .subst hi;exact mQ _
  .have e1:i=lo+n-1:=∅
   have e2:j=lo+n:=∅
   rw[e1,e2];exact lN hn
 .refine aL (t_ (mO ⟨rfl,?_⟩));refine aL (hV (h_ (I:=λx c l=>∃b,c=(ae,x,b)/\SB f l/\bw l=bw p/\Wr (arrOf p) (arrOf l) lo a/\oD κ (arrOf l) lo x/\b+1<=x/\(∀i,lo+x-(b+1)<=i->i<lo+x->KK κ (arrOf l) i=KK κ (arrOf l) (lo+x-1))) (Q:=λc l=>∃m b,c=(ae,m,b)/\SB f l/\bw l=bw p/\Wr (arrOf p) (arrOf l) lo a/\1<=m/\m<=a/\oD κ (arrOf l) lo m/\b+1<=m/\(∀i,lo+m-(b+1)<=i->i<lo+m->KK κ (arrOf l) i=KK κ (arrOf l) (lo+m-1))) ?_ ?_ ?_) ?_)
  .rintro x c l pH oq ⟨b,rfl,B,G,z,F,hq,H⟩;have sz3:=z.size;dsimp only;refine aL (pV S B (T.of z.perm) ∅ ∅ ?_);cases e3:κ.blt (KK κ (arrOf l) (lo+x)) (KK κ (arrOf l) (lo+x-1))with
   |true=>
    have mS:oD κ (arrOf l) lo (x+1):=Ev F ∅ (lN e3);dsimp only;rw[if_pos rfl];refine cK (λEe=>?_) λEe=>?_
    .refine aL (vh (κ:=κ) (lo:=lo) (n:=a) B G z ∅ ∅ ∅ ∅ λbS ko iT W Ef=>?_);have Y:=Fa Ef H;exact aV ⟨0,rfl,ko,iT,W,λi j r y D=>by rw[Y,Y];exact mS i j r y D,∅,λi r y=>by congr 1;lia⟩
    .exact aV ⟨0,rfl,B,G,z,mS,∅,λi r y=>by congr 1;lia⟩
   |false=>
    dsimp only;rw[if_neg (by simp)];refine aL (pV S B (T.of z.perm) ∅ ∅ ?_);cases e4:κ.blt (KK κ (arrOf l) (lo+x-1)) (KK κ (arrOf l) (lo+x))with
    |true=>exact aV ⟨x,b,rfl,B,G,z,∅,∅,F,hq,H⟩
    |false=>have ex:KK κ (arrOf l) (lo+x)=KK κ (arrOf l) (lo+x-1):=KeyOrd.kle_antisymm e4 e3;exact aV ⟨b+1,rfl,B,G,z,Ev F ∅ (by rw[ex];exact mQ _),∅,N_ H ex⟩
  .rintro c l ⟨b,rfl,B,G,z,F,hq,H⟩;rw[show max (n+1) a=a by lia]at F hq H ⊢;exact⟨a,b,rfl,B,G,z,∅,∅,F,hq,H⟩
  .exact⟨0,rfl,gq,cW,rh,hD,∅,λi r y=>by congr 1;lia⟩
  rintro c l ⟨m,b,rfl,B,G,z,m1,m2,F,hq,H⟩;dsimp only;refine cK (λEe=>?_) λEe=>?_
  .refine aL (vh (κ:=κ) (lo:=lo) (n:=a) B G z ∅ ∅ ∅ ∅ λbS ko iT W Ef=>?_);have Y:=Fa Ef H;have O:oD κ (arrOf bS) lo m:=λi j r y D=>by rw[Y,Y];exact F i j r y D
   refine aL (vh (κ:=κ) (lo:=lo) (n:=a) ko iT W ∅ ∅ ∅ ∅ λu Z N K X=>?_);have M:iC κ (arrOf u) lo m:=λi j r y D=>by rw[X,X,if_pos ⟨r,∅⟩,if_pos ⟨∅,D⟩];exact O _ _ ∅ ∅ ∅
   have sz5:=K.size;refine aL (hV (h_ (I:=λx c g=>g=u/\c=(ae,x)/\iC κ (arrOf u) lo x) (Q:=λc g=>g=u/\∃n,c=(ae,n)/\1<=n/\n<=a/\iC κ (arrOf u) lo n/\(n=a\/κ.klt (KK κ (arrOf u) (lo+n)) (KK κ (arrOf u) (lo+n-1)))) ?_ ?_ ?_) ?_)
   .rintro x c g pH oq ⟨rfl,rfl,o⟩;dsimp only;refine aL (pV S Z (T.of K.perm) ∅ ∅ ?_);cases e:κ.blt (KK κ (arrOf g) (lo+x)) (KK κ (arrOf g) (lo+x-1))with
    |true=>exact aV ⟨rfl,x,rfl,∅,∅,o,.inr e⟩
    |false=>exact aV ⟨rfl,rfl,Br o ∅ e⟩
   .rintro c g ⟨rfl,rfl,o⟩;rw[show max m a=a by lia]at o ⊢;exact⟨rfl,a,rfl,∅,∅,o,.inl rfl⟩
   .exact⟨rfl,rfl,M⟩
   rintro c g ⟨rfl,q,rfl,q1,q2,L,_⟩;exact aV (h q g Z N K q1 q2 L)
  .have ko:=B;have iT:=G;have W:=z;have O:=F;refine aL (vh (κ:=κ) (lo:=lo) (n:=a) ko iT W ∅ ∅ ∅ ∅ λu Z N K X=>?_);have M:iC κ (arrOf u) lo m:=λi j r y D=>by rw[X,X,if_pos ⟨r,∅⟩,if_pos ⟨∅,D⟩];exact O _ _ ∅ ∅ ∅
   have sz5:=K.size;refine aL (hV (h_ (I:=λx c g=>g=u/\c=(ae,x)/\iC κ (arrOf u) lo x) (Q:=λc g=>g=u/\∃n,c=(ae,n)/\1<=n/\n<=a/\iC κ (arrOf u) lo n/\(n=a\/κ.klt (KK κ (arrOf u) (lo+n)) (KK κ (arrOf u) (lo+n-1)))) ?_ ?_ ?_) ?_)
   .rintro x c g pH oq ⟨rfl,rfl,o⟩;dsimp only;refine aL (pV S Z (T.of K.perm) ∅ ∅ ?_);cases e:κ.blt (KK κ (arrOf g) (lo+x)) (KK κ (arrOf g) (lo+x-1))with
    |true=>exact aV ⟨rfl,x,rfl,∅,∅,o,.inr e⟩
    |false=>exact aV ⟨rfl,rfl,Br o ∅ e⟩
   .rintro c g ⟨rfl,rfl,o⟩;rw[show max m a=a by lia]at o ⊢;exact⟨rfl,a,rfl,∅,∅,o,.inl rfl⟩
   .exact⟨rfl,rfl,M⟩
   rintro c g ⟨rfl,q,rfl,q1,q2,L,_⟩;exact aV (h q g Z N K q1 q2 L)
 .refine aL (pV S P T ∅ ∅ ?_);cases e2:κ.blt (KK κ (arrOf p) lo) (KK κ (arrOf p) (lo+n-1))with
  |true=>exact aV (h n p P rfl Wr.same n1 n2 o)
  |false=>
   dsimp only;rw[if_neg (by simp)];have fS:∀i,lo<=i->i<lo+n->KK κ (arrOf p) i=KK κ (arrOf p) lo:=λi r y=>KeyOrd.kle_antisymm (qN (o i (lo+n-1) r ∅ ∅) e2) (o lo i (a8 _) r y);refine aL (vh (κ:=κ) (lo:=lo) (n:=a) P rfl Wr.same ∅ ∅ ∅ ∅ λC gq cW rh oy=>?_);have hD:oD κ (arrOf C) lo (n+1):=by
    have hv:∀i,lo<=i->i<lo+n->KK κ (arrOf C) i=KK κ (arrOf p) lo:=λi r y=>by rw[oy,if_pos ⟨r,y⟩];exact fS _ ∅ ∅
    have hl:κ.klt (KK κ (arrOf C) (lo+n)) (KK κ (arrOf p) lo):=by rw[oy,if_neg ∅,<-fS (lo+n-1) ∅ ∅];exact hn
    intro i j r y D;by_cases hj:j<lo+n
    .rw[hv i r ∅,hv j ∅ hj];exact mQ _
    .have iB:j=lo+n:=∅
     subst iB;by_cases hi:i=lo+n
     .subst hi;exact mQ _
     .rw[hv i r ∅];exact lN hl
   exact key C ⟨gq,cW,rh,hD⟩
theorem Qk{g c:bL}{lo n a b:Nat}{Q:Unit->bL->Prop}(m:SB f c)(o:bw c=bw g)(l:Wr (arrOf g) (arrOf c) lo n)(u:b<=a)(p:a<(arrOf g).size)(r:lo<=b)(q:a<lo+n)(h:∀i,SB f i->bw i=bw g->Wr (arrOf g) (arrOf i) lo n->(∀k,KK κ (arrOf i) k=if k=b then KK κ (arrOf c) a else if b<k/\k<=a then KK κ (arrOf c) (k-1)else KK κ (arrOf c) k)->Q () i):wpS (aw d w) A E s (moveDown' a b) Q c:=by
 have j:a<(arrOf c).size:=by rw[l.size];exact p
 rw[moveDown'_eq];refine n0 (h _ ⟨m.kind,m.failed⟩ o (l.trans ((OM j (show a-b<=a by lia)).mono ∅ ∅)) λk=>?_);have:=KK_bubble (κ:=κ) j (show a-b<=a by lia) k;rw[show a-(a-b)=b by lia]at this;exact this
theorem KL(O:gY κ f d w A s){b:bL}(N:SB f b)(P:AllK κ (arrOf b)){lo n ok:Nat}(M:ok<=n)(K:lo+n<=(arrOf b).size)(L:iC κ (arrOf b) lo ok){Q:Bool->bL->Prop}(h:∀y,SB f y->bw y=bw b->Wr (arrOf b) (arrOf y) lo n->iC κ (arrOf y) lo n->Q ag y):wpS (aw d w) A E s (binarySort' lo n ok) Q b:=by
 unfold binarySort';refine aL (hV (h_ (I:=λk c a=>c=(ae,())/\SB f a/\bw a=bw b/\Wr (arrOf b) (arrOf a) lo n/\iC κ (arrOf a) lo (min k n)) (Q:=λc a=>c=(ae,())/\SB f a/\bw a=bw b/\Wr (arrOf b) (arrOf a) lo n/\iC κ (arrOf a) lo n) ?_ ?_ ?_) ?_)
 .rintro k c a Z gq ⟨rfl,p,v,o,g⟩;have sz:=o.size;rw[show min k n=k by lia]at g;refine aL (hV (h_ (I:=λx c m=>m=a/\∃l r,c=(ae,l,r)/\l<=r/\r<=k/\r-l<=k-x /\ (∀i,i<l->κ.kle (KK κ (arrOf a) (lo+i)) (KK κ (arrOf a) (lo+k)))/\(∀i,r<=i->i<k->κ.klt (KK κ (arrOf a) (lo+k)) (KK κ (arrOf a) (lo+i)))) (Q:=λc m=>m=a/\∃l r,c=(ae,l,r)/\l<=k /\ (∀i,i<l->κ.kle (KK κ (arrOf a) (lo+i)) (KK κ (arrOf a) (lo+k)))/\(∀i,l<=i->i<k->κ.klt (KK κ (arrOf a) (lo+k)) (KK κ (arrOf a) (lo+i)))) ?_ ?_ ?_) ?_)
  .rintro x c m _ hx ⟨rfl,l,r,rfl,Y,z,X,u,q⟩;dsimp only;refine cK (λH=>?_) λH=>?_
   .have:l=r:=∅
    subst this;exact aV ⟨rfl,l,l,rfl,z,u,q⟩
   .refine aL (pV O p (P.of o.perm) ∅ ∅ ?_);cases e:κ.blt (KK κ (arrOf m) (lo+k)) (KK κ (arrOf m) (lo+(l+r) / 2))with
    |true=>exact aV ⟨rfl,l,(l+r) / 2,rfl,∅,∅,∅,u,λi C S=>KeyOrd.klt_of_klt_of_kle e (g _ _ ∅ ∅ ∅)⟩
    |false=>exact aV ⟨rfl,(l+r) / 2+1,r,rfl,∅,∅,∅,λi C=>qN (g (lo+i) (lo+(l+r) / 2) ∅ ∅ ∅) e,q⟩
  .rintro c m ⟨rfl,l,r,rfl,Y,z,X,u,q⟩;have:l=r:=∅
   subst this;exact⟨rfl,l,l,rfl,z,u,q⟩
  .exact⟨rfl,0,k,rfl,∅,∅,∅,λi hi=>∅,λi C S=>∅⟩
  .rintro c m ⟨rfl,l,r,rfl,z,u,q⟩;dsimp only;refine aL (Qk (κ:=κ) (lo:=lo) (n:=n) p v o ∅ ∅ ∅ ∅ λbI B T J D=>aV ⟨rfl,B,T,J,?_⟩);rw[show min (k+1) n=k+1 by lia];intro i j G F W;rw[D,D]
   repeat' split
   all_goals first
    | (exfalso;lia)
    |exact mQ _
    | (have:=u (i-lo) ∅;rw[show lo+(i-lo)=i by lia]at this;exact this)
    | (have:=q (j-1-lo) ∅ ∅;rw[show lo+(j-1-lo)=j-1 by lia]at this;exact lN this)
    |exact g _ _ ∅ ∅ ∅
 .rintro c a ⟨rfl,p,v,o,g⟩;rw[show min (max (max ok 1) n) n=n by lia]at g;exact⟨rfl,p,v,o,g⟩
 .refine⟨rfl,N,rfl,Wr.same,λi j G F W=>?_⟩;by_cases C:ok=0
  .have:i=j:=∅
   subst this;exact mQ _
  .exact L i j G F ∅
 .rintro c a ⟨rfl,p,v,o,g⟩;exact aV (h a p v o g)
end
theorem Qe{c:Prop}[Decidable c]{a b n:Nat}(f:a+1<n)(d:b+1<n):(if c then a else b)+1<n:=by split <;> assumption
def kJ:Nat->List (Nat×Nat)->Nat->Prop
 |f,[],t=>f=t
 |f,(a,n)::l,t=>a=f/\0<n/\kJ (f+n) l t
theorem kJ.app:∀{l1:List (Nat×Nat)}{f t:Nat}{b:List (Nat×Nat)},kJ f (l1++b) t↔∃m,kJ f l1 m/\kJ m b t
 |[],f,t,b=>by simp[kJ]
 | (a,n)::l1,f,t,b=>by
  simp only[zQ,kJ,kJ.app (l1:=l1)];constructor
  .rintro⟨h,g,m,d,c⟩;exact⟨m,⟨h,g,d⟩,c⟩
  .rintro⟨m,⟨h,g,d⟩,c⟩;exact⟨h,g,m,d,c⟩
theorem kJ.le:∀{l:List (Nat×Nat)}{f t:Nat},kJ f l t->f+l.length<=t/\∀e∈l,f<=e.1/\e.1+e.2<=t
 |[],f,t,h=>⟨by cases h;simp,by simp⟩
 | (a,n)::l,f,t,⟨g,j,d⟩=>by
  obtain⟨i,c⟩:=kJ.le d;refine⟨by simp;lia,λe b=>?_⟩;rcases bo.mp b with rfl|b
  .subst g;exact⟨a8 _,by simp;lia⟩
  .have:=c e b;exact⟨∅,this.2⟩
def PL(a:Array (Nat×Nat×Nat)):List (Nat×Nat):=a.toList.map λe=>(e.1,e.2.1)
structure i4(κ:KeyKind)(arr:Array Keyed)(pd:Array (Nat×Nat×Nat))(lo:Nat):Prop where
 ch:kJ 0 (PL pd) lo
 run:∀e∈PL pd,Run κ arr e.1 e.2
theorem yH(a:Array (Nat×Nat×Nat)):(PL a).length=a.size:=by simp[PL]
theorem oF(a:Array (Nat×Nat×Nat))(e:Nat×Nat×Nat):PL (a.push e)=PL a++[(e.1,e.2.1)]:=by simp[PL]
theorem yj(a:Array (Nat×Nat×Nat))(k pw:Nat):PL (a.modify k λx=>(x.1,x.2.1,pw))=PL a:=by
 apply t8;intro i;simp only[PL,g_,nN,Array.getElem?_modify];split
 .cases a[i]? <;> rfl
 .rfl
theorem OQ{j:Array (Nat×Nat×Nat)}{i:Nat}(h:i+1<j.size):∃a f b d g sb c m,j[i]?=aa (b,d,g)/\j[i+1]?=aa (sb,c,m)/\PL j=a++(b,d)::(sb,c)::f /\ PL ((j.setIfInBounds i (b,d+c,g)).eraseIdxIfInBounds (i+1))=a++(b,d+c)::f:=by
 obtain⟨l⟩:=j;simp only[cc]at h;have e:l=l.take i++l[i]::l[i+1]::l.drop (i+2):=by rw[<-wc,<-wc,nP]
 obtain⟨a,x,y,f,n,p⟩:∃a x y f,a.length=i/\l=a++x::y::f:=⟨l.take i,l[i],l[i+1],l.drop (i+2),by simp;lia,e⟩
 subst n p;obtain⟨b,d,g⟩:=x;obtain⟨sb,c,m⟩:=y;refine⟨a.map λe=>(e.1,e.2.1),f.map λe=>(e.1,e.2.1),b,d,g,sb,c,m,by simp,by simp[o9],by simp[PL],?_⟩;have o:((a++(b,d,g)::(sb,c,m)::f).toArray.setIfInBounds a.length (b,d+c,g)).eraseIdxIfInBounds (a.length+1)=(a++(b,d+c,g)::f).toArray:=by rw[List.setIfInBounds_toArray,List.set_append_right _ _ (a8 _),Jg];congr 1;rw[List.eraseIdx_append_of_length_le ∅];simp
 rw[o];simp[PL]
section
variable{prog:aO}{w:aG}{A:aR}{E:ai->ao->Prop}{s:ao}{κ:KeyKind}{kz:gk}
theorem i4.keep{a f:Array Keyed}{c:Array (Nat×Nat×Nat)}{b n:Nat}(h:i4 κ a c b)(w:Wr a f b n):i4 κ f c b :=⟨h.ch,λe d=>(h.run e d).keep w (.inl (h.ch.le.2 e d).2)⟩
theorem BE(I:gY κ kz prog w A s){a:bL}(G:SB kz a)(J:AllK κ (arrOf a)){i l:Nat}(g:i4 κ (arrOf a) (bw a) l)(F:l<=(arrOf a).size)(H:i+1<(bw a).size){Q:Bool->bL->Prop}(h:∀c,SB kz c->Wr (arrOf a) (arrOf c) 0 l->i4 κ (arrOf c) (bw c) l->(bw c).size+1=(bw a).size->Q ag c):wpS (aw prog w) A E s (mergeAt' i) Q a:=by
 obtain⟨X,W,f,j,T,sb,u,S,L,K,d,p⟩:=OQ H;have v:=g.ch;rw[d]at v;obtain⟨m,y,P,O,N,M,x⟩:=kJ.app.mp v;subst P N;have b1:=y.le;have b2:=x.le;have B:Run κ (arrOf a) f j:=g.run (f,j) (by rw[d];simp);have z:Run κ (arrOf a) (f+j) u:=g.run (f+j,u) (by rw[d];simp);refine QL I G J L K O M ∅ B z λc C n o D=>h c C (o.mono ∅ ∅) ⟨?_,?_⟩ ?_
 .rw[n,p];exact kJ.app.mpr ⟨f,y,rfl,∅,by rw[<-zM];exact x⟩
 .rw[n,p];intro e b;rcases fO.mp b with b|b
  .exact(g.run e (by rw[d];exact zr _ b)).keep o (.inl (b1.2 e b).2)
  .rcases bo.mp b with rfl|b
   .exact D
   .exact(g.run e (by rw[d];simp[b])).keep o (.inr (by have:=(b2.2 e b).1;lia))
 .have r:=yH (bw c);have q:=yH (bw a);rw[n,p]at r;rw[d]at q;rw[n,<-r,<-q];simp;lia
theorem LV(hO:gY κ kz prog w A s){st:bL}(hk:SB kz st)(hA:AllK κ (arrOf st))(hp:bw st=#[]){Q:Unit->bL->Prop}(h:∀aA,SB kz aA->(arrOf aA).toList.Perm (arrOf st).toList->Run κ (arrOf aA) 0 (arrOf st).size->Q () aA):wpS (aw prog w) A E s sortRuns' Q st:=by
 unfold sortRuns';refine aL (lM ?_);dsimp only;obtain⟨b,TW⟩:∃b,b=(arrOf st).size:=⟨_,rfl⟩
 have TJ:((sortPriv% PySem.Builtin.SortState.a) st).size=b:=TW.symm;simp only[TJ];refine aL (hV (h_ (I:=λx c o=>∃f,c=(ae,f)/\x<=f/\f<=b/\SB kz o/\(arrOf o).toList.Perm (arrOf st).toList/\(arrOf o).size=b/\i4 κ (arrOf o) (bw o) f) (Q:=λc o=>c=(ae,b)/\SB kz o/\(arrOf o).toList.Perm (arrOf st).toList/\(arrOf o).size=b/\i4 κ (arrOf o) (bw o) b) ?_ ?_ ?_) ?_);rotate_left
 .rintro c o ⟨f,rfl,b1,b2,ou,K,W,O⟩;have:f=b:=∅
  subst this;exact⟨rfl,ou,K,W,O⟩
 .exact⟨0,rfl,∅,∅,hk,qJ _,TW.symm,by rw[hp];exact⟨rfl,by simp[PL]⟩⟩
 .rintro c o ⟨rfl,ou,K,W,O⟩;dsimp only;refine aL (hV (h_ (I:=λx c l=>c=(ae,())/\SB kz l/\(arrOf l).toList.Perm (arrOf st).toList/\(arrOf l).size=b/\i4 κ (arrOf l) (bw l) b/\(bw l).size+x<=b+1) (Q:=λc l=>c=(ae,())/\SB kz l/\(arrOf l).toList.Perm (arrOf st).toList/\(arrOf l).size=b/\i4 κ (arrOf l) (bw l) b/\(bw l).size<=1) ?_ ?_ ?_) ?_)
  .rintro x c l _ hx ⟨rfl,F,cW,oA,P,hb⟩;refine aL (lM ?_);refine cK (λe1=>aV ⟨rfl,F,cW,oA,P,e1⟩) λe1=>?_;have uo:1<(bw l).size:=Nat.lt_of_not_le e1;refine aL (BE hO F (hA.of cW) P ∅ ?_ λN M jP G hq=>?_)
   .exact Qe (show(bw l).size-2-1+1<(bw l).size by lia) (show(bw l).size-2+1<(bw l).size by lia)
   .exact aV ⟨rfl,M,jP.perm.trans cW,jP.size.trans oA,G,∅⟩
  .rintro c l ⟨rfl,F,cW,oA,P,hb⟩;exact⟨rfl,F,cW,oA,P,∅⟩
  .have:=O.ch.le.1;rw[yH]at this;exact⟨rfl,ou,K,W,O,∅⟩
  .rintro c l ⟨rfl,F,cW,oA,P,hb⟩;refine aV (h l F cW ?_);rw[<-TW];have hc:=P.ch;have hr:=P.run;have hl:=yH (bw l)
   match hq:PL (bw l),hc,hr,hl with
   |[],hc,hr,hl=>
    cases hc;intro i j x y a1 a2 a3;lia
   |[(a,n)],hc,hr,hl=>
    obtain⟨d1,d2,d3⟩:=hc;cases d1;have d3':0+n=b:=d3;have:=hr (0,n) (by simp);rw[show b=n by lia];exact this
   |_::_::_,hc,hr,hl=>simp at hl;lia
 rintro x c o _ hx ⟨f,rfl,b1,b2,ou,K,W,O⟩;dsimp only;refine cK (λe1=>?_) λe1=>?_
 .have:f=b:=∅
  subst this;exact aV ⟨rfl,ou,K,W,O⟩
 refine aL (LI hO ou (hA.of K) ∅ ∅ λr l F xi rh f1 f2 uj=>?_);dsimp only;refine cK (λe2=>?_) λe2=>?_
 .refine aL (t_ (mO ⟨rfl,?_⟩));refine aL (KL hO F ((hA.of K).of rh.perm) ∅ (by rw[rh.size];lia) uj λN M hq3 jP Y=>?_);rw[if_neg (by simp)];have L:Wr (arrOf o) (arrOf N) f (b-f):=rh.trans (jP.mono ∅ ∅);have xj:bw N=bw o:=hq3.trans xi;generalize hn:min (b-f) _=n at *;have n1:0<n:=∅
  have n2:f+n<=b:=∅
  clear F rh uj xi jP hq3;have G:i4 κ (arrOf N) (bw N) f:=by rw[xj];exact O.keep L
  have gn:(arrOf N).toList.Perm (arrOf st).toList:=L.perm.trans K;have pF:(arrOf N).size=b:=L.size.trans W;have hR:Run κ (arrOf N) f n:=Y.run;clear L xj;refine aL (lM ?_);obtain⟨kd,arr,T,mg,fl⟩:=N;dsimp only;cases hbk:T.back? with
  |none=>
   dsimp only;refine aL (n0 (aV ⟨f+n,rfl,∅,n2,⟨M.kind,M.failed⟩,gn,pF,?_⟩));refine⟨?_,?_⟩
   .show kJ 0 (PL (T.push (f,n,0))) _;rw[oF];exact kJ.app.mpr ⟨f,G.ch,rfl,n1,rfl⟩
   .show ∀e∈PL (T.push (f,n,0)),_;rw[oF];intro e m;rcases fO.mp m with m|m
    .exact G.run e m
    .rw[gP.mp m];exact hR
  |some bk=>
   obtain⟨s1,m1,q1⟩:=bk;dsimp only;refine aL (hV (h_ (I:=λx c g=>c=(ae,())/\SB kz g/\(arrOf g).toList.Perm (arrOf st).toList/\(arrOf g).size=b/\i4 κ (arrOf g) (bw g) f/\Run κ (arrOf g) f n) (Q:=λc g=>c=(ae,())/\SB kz g/\(arrOf g).toList.Perm (arrOf st).toList/\(arrOf g).size=b/\i4 κ (arrOf g) (bw g) f/\Run κ (arrOf g) f n) ?_ (λ_ _ hh=>hh) ?_) ?_)
   .rintro y c g _ hy ⟨rfl,z,C,J,u,H⟩;refine aL (lM ?_);have wE:∀{p:bL},p=g->((ae,()):Option Unit×Unit)=(ae,())/\SB kz p/\(arrOf p).toList.Perm (arrOf st).toList/\(arrOf p).size=b/\i4 κ (arrOf p) (bw p) f/\Run κ (arrOf p) f n:=λe=>by subst e;exact⟨rfl,z,C,J,u,H⟩
    by_cases hg:1<(bw g).size
    .obtain⟨B,q,d,v,D⟩:=g;have X:d.size > 1:=hg;dsimp only;rw[if_pos X,getElem?_pos d (d.size-2) ∅];obtain⟨u1,u2,u3⟩:=d[d.size-2];dsimp only;refine cK (λ_=>aV (wE rfl)) λ_=>?_;refine aL (BE hO z (hA.of C) u ∅ (show d.size-2+1<d.size by lia) λp oz S Z _=>?_);exact aV ⟨rfl,oz,S.perm.trans C,S.size.trans J,Z,H.keep S (.inr ∅)⟩
    .obtain⟨B,q,d,v,D⟩:=g;have X:¬d.size > 1:=hg;dsimp only;rw[if_neg X];exact aV (wE rfl)
   .exact⟨rfl,M,gn,pF,G,hR⟩
   rintro c g ⟨rfl,z,C,J,u,H⟩;obtain⟨B,q,d,v,D⟩:=g;dsimp only;refine aL (n0 (aL (n0 (aV ⟨f+n,rfl,∅,n2,⟨z.kind,z.failed⟩,C,J,?_⟩))));refine⟨?_,?_⟩
   .show kJ 0 (PL ((d.modify (d.size-1) λx=>(x.1,x.2.1,_)).push (f,n,0))) _;rw[oF,yj];exact kJ.app.mpr ⟨f,u.ch,rfl,n1,rfl⟩
   .show ∀e∈PL ((d.modify (d.size-1) λx=>(x.1,x.2.1,_)).push (f,n,0)),_;rw[oF,yj];intro e m;rcases fO.mp m with m|m
    .exact u.run e m
    .rw[gP.mp m];exact H
 .have M:=F;have Y:=uj;have L:Wr (arrOf o) (arrOf l) f (b-f):=rh;have xj:bw l=bw o:=xi;have n1:0<r:=∅
  have n2:f+r<=b:=∅
  have G:i4 κ (arrOf l) (bw l) f:=by rw[xj];exact O.keep L
  have gn:(arrOf l).toList.Perm (arrOf st).toList:=L.perm.trans K;have pF:(arrOf l).size=b:=L.size.trans W;have hR:Run κ (arrOf l) f r:=Y.run;clear L xj;refine aL (lM ?_);obtain⟨kd,arr,T,mg,fl⟩:=l;dsimp only;cases hbk:T.back? with
  |none=>
   dsimp only;refine aL (n0 (aV ⟨f+r,rfl,∅,n2,⟨M.kind,M.failed⟩,gn,pF,?_⟩));refine⟨?_,?_⟩
   .show kJ 0 (PL (T.push (f,r,0))) _;rw[oF];exact kJ.app.mpr ⟨f,G.ch,rfl,n1,rfl⟩
   .show ∀e∈PL (T.push (f,r,0)),_;rw[oF];intro e m;rcases fO.mp m with m|m
    .exact G.run e m
    .rw[gP.mp m];exact hR
  |some bk=>
   obtain⟨s1,m1,q1⟩:=bk;dsimp only;refine aL (hV (h_ (I:=λx c g=>c=(ae,())/\SB kz g/\(arrOf g).toList.Perm (arrOf st).toList/\(arrOf g).size=b/\i4 κ (arrOf g) (bw g) f/\Run κ (arrOf g) f r) (Q:=λc g=>c=(ae,())/\SB kz g/\(arrOf g).toList.Perm (arrOf st).toList/\(arrOf g).size=b/\i4 κ (arrOf g) (bw g) f/\Run κ (arrOf g) f r) ?_ (λ_ _ hh=>hh) ?_) ?_)
   .rintro y c g _ hy ⟨rfl,z,C,J,u,H⟩;refine aL (lM ?_);have wE:∀{p:bL},p=g->((ae,()):Option Unit×Unit)=(ae,())/\SB kz p/\(arrOf p).toList.Perm (arrOf st).toList/\(arrOf p).size=b/\i4 κ (arrOf p) (bw p) f/\Run κ (arrOf p) f r:=λe=>by subst e;exact⟨rfl,z,C,J,u,H⟩
    by_cases hg:1<(bw g).size
    .obtain⟨B,q,d,v,D⟩:=g;have X:d.size > 1:=hg;dsimp only;rw[if_pos X,getElem?_pos d (d.size-2) ∅];obtain⟨u1,u2,u3⟩:=d[d.size-2];dsimp only;refine cK (λ_=>aV (wE rfl)) λ_=>?_;refine aL (BE hO z (hA.of C) u ∅ (show d.size-2+1<d.size by lia) λp oz S Z _=>?_);exact aV ⟨rfl,oz,S.perm.trans C,S.size.trans J,Z,H.keep S (.inr ∅)⟩
    .obtain⟨B,q,d,v,D⟩:=g;have X:¬d.size > 1:=hg;dsimp only;rw[if_neg X];exact aV (wE rfl)
   .exact⟨rfl,M,gn,pF,G,hR⟩
   rintro c g ⟨rfl,z,C,J,u,H⟩;obtain⟨B,q,d,v,D⟩:=g;dsimp only;refine aL (n0 (aL (n0 (aV ⟨f+r,rfl,∅,n2,⟨z.kind,z.failed⟩,C,J,?_⟩))));refine⟨?_,?_⟩
   .show kJ 0 (PL ((d.modify (d.size-1) λx=>(x.1,x.2.1,_)).push (f,r,0))) _;rw[oF,yj];exact kJ.app.mpr ⟨f,u.ch,rfl,n1,rfl⟩
   .show ∀e∈PL ((d.modify (d.size-1) λx=>(x.1,x.2.1,_)).push (f,r,0)),_;rw[oF,yj];intro e m;rcases fO.mp m with m|m
    .exact u.run e m
    .rw[gP.mp m];exact H
end
theorem mq{n:Nat}(h:n<=1000000):n<bn:=v6 h (by decide)
theorem Run.sortedTo{κ:KeyKind}{a:Array Keyed}{n:Nat}(h:Run κ a 0 n)(c:n<=a.size):SortedToK κ a n:=by intro i j b d;have:=h i j _ _ (kg _) b ∅ (getElem?_pos a i ∅) (getElem?_pos a j ∅);rw[sR (show i<a.size by lia),sR (show j<a.size by lia)];exact this
theorem KeysOf.all{κ:KeyKind}{a:Array Keyed}(h:KeysOf κ a):AllK κ a:=λi b=>h _ (by simp)
section
variable{P:aO}{w:aG}{A:aR}{E:ai->ao->Prop}{s:ao}
theorem E4{κ:KeyKind}{kz:gk}{a:af}{c:List ai}{n:Nat}{F:Fin->ao->Prop}(q:s.heap.get? a=aa (gQ "list" c.toArray n))(J:KeysOf κ (kR c))(C:c.length<=1000000)(D:∀r:az,(∀b o,b≠a->s.heap.get? b=aa o->r.get? b=aa o)->2<=c.length->gY κ kz P w A {s with heap:=r}/\∀{E:ai->ao->Prop}{Q:gk->ao->Prop},Q kz {s with heap:=r}->ar (aw P w) A (wl c.toArray) Q E {s with heap:=r})(h:∀d:bL,(arrOf d).Perm (kR c)->SortedToK κ (arrOf d) (kR c).size->F (.done (.ret .none)) {s with heap:=sortedHeap s.heap a c ((arrOf d).map (·.2))}):ar (aw P w) A (Builtin.«list.sort» ⟨[.ref a],[]⟩) F E s:=by
 rw[list_sort_plain];have z:a<s.heap.objs.size:=bz q;have y:c.length<=bn:=i7 (mq C);refine aq (listItems_at q rfl ?_);refine aq (Df q rfl ?_);obtain⟨u,x⟩:∃u,(s.heap.update a (jt λ_=>#[])).get? a=aa (gQ "list" #[] u):=⟨_,get?_update_seq q (λ_=>#[])⟩
 refine aq (seqEpoch_at x rfl ?_);refine aq (wpAny_newTuple ?_ (hsz:=by rw[qI];exact y));refine aq (wpAny_newList ?_);refine iM ?_;have l:(((s.heap.update a (jt λ_=>#[])).push (gQ "tuple" c.toArray 0)).push (gQ "list" #[] 0)).get? a=aa (gQ "list" #[] u):=by rw[Heap.get?_push_ne _ _ _ (by rw[jI,Jz];exact cR (kh z)),Heap.get?_push_ne _ _ _ (by rw[Jz];exact cR z)];exact x
 have keep:∀b o,b≠a->s.heap.get? b=aa o->(((s.heap.update a (jt λ_=>#[])).push (gQ "tuple" c.toArray 0)).push (gQ "list" #[] 0)).get? b=aa o:=λb o m e=>bD _ (bD _ (by rw[Jw _ _ _ _ m];exact e));show ar (aw P w) A _ F E {s with heap:=((s.heap.update a (jt λ_=>#[])).push (gQ "tuple" c.toArray 0)).push (gQ "list" #[] 0)};dsimp only;have f:∀d:bL,failedOf d=ae->(arrOf d).Perm (kR c)->SortedToK κ (arrOf d) (kR c).size ->
   ar (aw P w) A (do
    let touched:=(<-seqEpoch a) != u
    Builtin.List.listUpdate (.ref a) λ_=>(arrOf d).map (·.2)
    if let aa e:=failedOf d then rule "list.sort.comparison-raised";throw e
    if touched then rule "list.sort.modified";raiseError "ValueError" "list modified during sort"
    ret .none) F E {s with heap:=((s.heap.update a (jt λ_=>#[])).push (gQ "tuple" c.toArray 0)).push (gQ "list" #[] 0)}:=λd m p v=>by
  refine aq (seqEpoch_at l rfl ?_);refine aq (Df l rfl ?_ (hsz2:=by refine cM (nO ((Array.size_map ..).trans (p.size_eq.trans (pairsOf_size _)))) (Nat.le_succ_of_le y)));rw[m];simp only[bne_self_eq_false,eX,if_false];exact aC (h d p v)
 by_cases g:c.toArray.size<2
 .rw[if_pos g,if_pos g];refine aq (aC ?_);refine aq (aC ?_);refine f (SortSt.mk' general' (c.toArray.zip c.toArray) #[] 7 ae) rfl (Array.Perm.refl _) λi j N G=>?_;have:i=j:=by rw[pairsOf_size]at G;rw[cc]at g;lia
  subst this;exact mQ _
 .rw[if_neg g,if_neg g];obtain⟨H,I⟩:=D _ keep (by rw[cc]at g;lia);refine aq (I ?_);refine aq (eW (LV (κ:=κ) (kz:=kz) H (st:=SortSt.mk' kz (c.toArray.zip c.toArray) #[] 7 ae) (Q:=λ_ d=>SB kz d/\(arrOf d).toList.Perm (kR c).toList/\Run κ (arrOf d) 0 (kR c).size) ⟨rfl,rfl⟩ (KeysOf.all J) rfl λd M L K=>⟨M,L,K⟩) ?_ λ_ _ e=>e);rintro⟨⟨⟩,d⟩ s' ⟨rfl,m,p,v⟩;have B:(arrOf d).Perm (kR c):=Dr.mpr p;exact f d m.failed B (v.sortedTo (by rw[B.size_eq];exact a8 _))
theorem RQ{g:KeyKind}(o:g.OneLt){a:af}{d:List ai}{n:Nat}{F:Fin->ao->Prop}(m:s.heap.get? a=aa (gQ "list" d.toArray n))(p:KeysOf g (kR d)) (j:∀c b rest,d=c::b::rest->wl (c::b::rest).toArray=pure oneType') (l:d.length<=1000000)(h:∀i:bL,(arrOf i).Perm (kR d)->SortedToK g (arrOf i) (kR d).size->F (.done (.ret .none)) {s with heap:=sortedHeap s.heap a d ((arrOf i).map (·.2))}):ar (aw P w) A (Builtin.«list.sort» ⟨[.ref a],[]⟩) F E s :=
 E4 m p l (λr _ f=>⟨OneLt.ok o,λq=>by
  obtain⟨c,b,rest,rfl⟩:∃c b rest,d=c::b::rest:=by
   match d,f with
   |[],f=>simp at f
   |[_],f=>simp at f
   |c::b::rest,_=>exact⟨c,b,rest,rfl⟩
  rw[j _ _ _ rfl];exact aC q⟩) h
theorem Gq{v:ai}{Q:ai->ao->Prop}(x:ar (aw P w) A.in1 (collect v) (λd s1=>∃ss:List Str,cT d ss/\d.length<=1000000/\∀(i:az) (out:Array ai) (f:List Str) (e:Nat),(∀b o,s1.heap.get? b=aa o->i.get? b=aa o) -> i.get? s1.heap.objs.size=aa (gQ "list" out e)->cT out.toList f->f.Perm ss->sortedS f=ag->Q (.ref s1.heap.objs.size) {s1 with heap:=i}) E s):ar (aw P w) A (call (.builtin "sorted") [v]) Q E s:=by refine Calls.call_function_entry kind_sorted plain_sorted entry_sorted (args_sorted1 _) ?_;unfold Builtin.«sorted»;refine aq (m:=checkCount "sorted" 1 1 _) (aC ?_);refine aq (a6 x λd s1 ζ=>?_);obtain⟨ss,h,p,j⟩:=ζ;refine aq (wpAny_newList ?_);have g:(s1.heap.push (gQ "list" d.toArray 0)).get? s1.heap.objs.size=aa (gQ "list" d.toArray 0):=cD _ rfl;refine aq (iM (mH slot_list_sort ⟨_,g,rfl⟩ entry_list_sort (RQ strKind_oneLt g h.keysOf (λa b c e=>keyKind_strs (by rw[<-e];exact h)) p λy r q=>⟨_,rfl,?_⟩) (args_list_sort _)));obtain⟨f,C,B,z⟩:=sorted_out_str h r q;obtain⟨e,u⟩:=sortedHeap_at (out:=(arrOf y).map (·.2)) g;refine aC ⟨_,rfl,j _ _ f e (λb o l=>?_) u C B z⟩;have n:b<s1.heap.objs.size:=bz l;rw[sortedHeap_old (cR n) (by rw[jI];exact kh n)];exact bD _ l
end
section
variable{X:Cx}
theorem Inv.sorted2{h:List (af×Obj)}{g:St}{H:Hp}{s1:ao}{c:List Tx}{ss d:List Str}{f:az}{a:Array ai}{e:Nat}(I:Inv X h g H s1)(l:ss=c.map tS)(s:c.length<=1000000)(k:∀b o,s1.heap.get? b=aa o->f.get? b=aa o) (j:f.get? s1.heap.objs.size=aa (gQ "list" a e)) (r:cT a.toList d) (q:d.Perm ss) (p:sortedS d=ag):Inv X h g (upd H s1.heap.objs.size (.lst (bB (aK c)))) {s1 with heap:=f}:=by
 have n:d.map (λz=>z.cps.toList)=aK c:=by
  refine yS ?_ (SD p);have:=q.map λz=>z.cps.toList;rw[l,cJ]at this;have m:(c.map ((λz:Str=>z.cps.toList) ∘ tS))=c:=by simp[qP,fL]
  rw[m]at this;exact this
 have i:bj (bB (aK c)) a.toList:=by rw[<-n];exact PN r
 refine I.laid (t':=s1.toks) k (a8 _) ⟨?_,a.toList,e,i,?_⟩
 .rw[yV,BV];exact i7 (mq ∅)
 .rw[zR];exact j
theorem xT:dE X (.builtin "sorted") (λxs H Q=>∃(p:af) (d:List Tx),xs=[.ref p]/\(cf X.K H p (bB d)\/cH X.K H p (bB d))/\d.length<=1000000/\∀l,H l=ae->Q (.ref l) (upd H l (.lst (bB (aK d))))):=by
 intro F s w H xs L Q I r h;obtain⟨p,d,rfl,f,A,q⟩:=h;obtain⟨u,rfl,x⟩:=vals1 r;cases x;have b:∀(T:String) (o:Obj) (a:List ai) (n:Nat),(T = "list"\/T = "tuple")->s.heap.get? p=aa o->o.cls=.type T->o.data=.seq a.toArray n->bj (bB d) a ->
   ar (aw X.prog X.w) X.A (call (.builtin "sorted") [Value.ref p]) (EP X F w Q) X.xe s:=λT o a n E j i g c=>by
  have D:=c.length;rw[yV]at D;have m:=mq (n:=a.length) ∅;refine Gq (wpAny_collect_seq p E j i g (λM B=>?_) (by rw[cc];lia));have v:=I.kept (t':=s.toks) B;refine⟨_,pO c,by rw[qI];lia,λN z O e k j K J G=>?_⟩;exact⟨.ref _,_,Inv.sorted2 v rfl A k j K J G,rfl,q _ v.fresh⟩
 rcases f with f|f
 .obtain⟨a,c,y,C⟩:=I.list f;obtain⟨o,e,i,n,g⟩:=y.isList;exact b "list" o a n (.inl rfl) e i g c
 .obtain⟨a,c,⟨o,e,i,n,g⟩,C⟩:=I.tuple f;exact b "tuple" o a n (.inr rfl) e i g c
end
end L2
namespace Pu
open L2
section
variable{X:Cx}{K:ay}
def my:List PV->Option PO
 |[.lst xs]=>(eM xs).bind λls=>if ls.length<=1000000 then aa (.lst (aj (aK ls)))else ae
 |[.tup xs]=>(eM xs).bind λls=>if ls.length<=1000000 then aa (.lst (aj (aK ls)))else ae
 |_=>ae
theorem zd:jW K (λxs H Q=>∃(p:af) (b:List Tx),xs=[.ref p]/\(cf K H p (bB b)\/cH K H p (bB b))/\b.length<=1000000/\∀l,H l=ae->Q (.ref l) (upd H l (.lst (bB (aK b))))) my:=λF H xs y Q n w m e q=>by
 have f:∀{g:List PV}{c:List V}{a:af},((eM g).bind λb=>if b.length<=1000000 then aa (PO.lst (aj (aK b)))else ae)=aa n->Reps K H F g c->(cf K H a c\/cH K H a c) ->
   ∃(p:af) (b:List Tx),[V.ref a]=[.ref p]/\(cf K H p (bB b)\/cH K H p (bB b))/\b.length<=1000000/\∀l,H l=ae->Q (.ref l) (upd H l (.lst (bB (aK b)))):=λ{g c a} e d s=>by
  cases h:eM g with
  |none=>rw[h]at e;cases e
  |some b=>
   rw[h]at e;simp only[fj]at e;split at e
   .rename_i o;cases e;rw[nh h]at d;obtain⟨rfl,u⟩:=T_.mp d;refine⟨a,b,rfl,s,o,λl i=>q l F _ _ (Al.new0 i) (ye i (T_.mpr ⟨rfl,λx r=>u x ((d9 b).mem_iff.mp r)⟩)) (yv i w trivial)⟩
   .cases e
 unfold my at e;split at e
 .obtain⟨v,rfl,a,c,rfl,j,_,d⟩:=gz m;exact f e d (.inl (.inl j))
 .obtain⟨v,rfl,a,c,rfl,j,d⟩:=gz m;exact f e d (.inr (cH.of j))
 .cases e
end
section
variable{X:Cx}{E:XK}{g:List Nat}{e:aD}{B:ak->R Slot}{q:ak->R aH}{A y r x:Pos}{m n:Str}{D:af}{h:List bg}{l:bg}{d:ai->Bool}
theorem Kv(i:Nat)(hN:X.N.Nodup)(hD:X.mg m=aa (.ref D))(hE:qm X.base D)(hcg:∀c,d c=ag->Under X.base D c)(hh:∀a,gv (hand X a) E0 g (l::h) q)(cN:i∉g:=by decide) (hi:X.N[i]?=aa n:=by rfl) (hl:X.env.scope.names.lookup n=aa .local:=by rfl) (hg:Gl X m:=by rfl) (hd:(m==("__debug__":Str))=am:=by decide) (dW:X.stack=X.env::X.outer:=by rfl) (hfm:X.env.frame=aa X.env.locals:=by rfl) (hf:X.fn n=ag\/X.env.scope.names.lookup n=aa .local:=by first|exact .inl rfl|exact .inr rfl) {F:af->Prop}{S:Nat->af->Prop}{W:St}{H:Hp}{Dn:kE}{ah:List (af×Obj)}{ev:ai}{M:ao}(xp:XP X ah W (λc I=>∃L O ε',aS X.K L O ε' W I/\bA (U S) (U O) F L H I/\d c=ag/\i<ε'.length/\gE X.K E g W F S H (match q (ε'.set i (.val (.exc c)))with
  |.ok f Z=>(match Z[i]? with
   |some (.val _)=>.ok f (Z.set i .none)
   |_=>.no)
  |_=>.no) Dn) ev M) :
  ar (aw X.prog X.w) X.A (zz ev X.env) (λ_ s₂=>ar (aw X.prog X.w) X.A (we ev ae) (λ_ s₃=>ar (aw X.prog X.w) X.A (handleBy ev X.env [.ExceptHandler (aa (.Name m y)) (aa n) (l::h) r]) (SP X ah Dn) X.xe s₃) X.xe s₂) X.xe M:=by
 obtain⟨s0,H0,I0,a,T,c,P,rfl,ho,hg1,un,hok,fl,⟨fa,fT,na,nT⟩,F1,S1,ε1,rl1,g1,qX,a9,G⟩:=xp;have I1:=I0.call' (s':=M) (ch:=[]) ho un hok hg1 (λb z=>absurd z (by simp));have kpI:∀{h2:az}{Y:af->Prop}{T':af},Kp (fo X.stack) Y M.heap h2->(∀b o,s0.heap.get? b=aa o->¬Y b)->(∀b,Y b->P b=ae)->lc h2 a T' c .none->∀tk,Inv X ah W (upd P a (nk a c)) {M with heap:=h2,toks:=tk}:=λ{h2 Y T'} k hY1 hY2 f2 tk=>by
  refine I0.call' (s':={M with heap:=h2,toks:=tk}) (ch:=[]) ho ?_ (RM (Bj hok k (λb hb=>I1.stkFree b hb) hY2) na f2) hg1 (λb z=>absurd z (by simp));have u2:=Cc un k (λb o _ z=>z) hY1;have na':∀b o,P b=aa o->b≠a:=λb o e=>kt e na;refine⟨u2.keep,u2.slot,λb o e n hx=>?_,u2.there,λb xs e=>?_,λb o u e=>?_,λb ps e=>?_⟩
  .rw[bO (by rintro rfl;rw[fa]at e;cases e)];exact u2.free b o e n hx
  .have:=u2.tups b xs e;rw[bO (na' b _ this)];exact this
  .have:=u2.frzs b o u e;rw[bO (na' b _ this)];exact this
  .have:=u2.tbls b ps e;rw[bO (na' b _ this)];exact this
 have H1T:∀b,b=a\/b=T->P b=ae:=λb z=>by rcases z with rfl|rfl <;> assumption
 have old1:∀b o,s0.heap.get? b=aa o->¬(b=a\/b=T):=λb o e z=>by
  rcases z with hz|hz
  .rw[hz,fa]at e;cases e
  .rw[hz,fT]at e;cases e
 refine G1 (outer:=X.outer) (by rw[I0.ok.frames,dW]) (by rw[<-dW];exact I1.stack) hfm fl λh2 T' k fl2 fT'=>?_;rw[<-dW]at k;have I2:=kpI k old1 H1T fl2 M.toks;refine wpAny_handleBy_cons (codeAny_handlers_test ?_) (by intro z;cases z);have I2h:Inv (hand X a) ah W (upd P a (nk a c)) {M with heap:=h2}:=Inv.hand I2;refine tw (X:=hand X a) I2h hg hD ?_ hd;obtain⟨oe,vs,oT,ts,he2,TY,_⟩:=id fl2;refine LB (s:={M with heap:=h2}) ((hcg c qX).keeps I2.bk) (hE.keeps I2.bk) he2 TY ?_;show mC _ _ _ _ _;refine codeAny_handlers_suite_as (Rt (s:={M with heap:=h2}) fl2 λh3 k3 fl3=>?_);have k':Kp (fo X.stack) (λb=>(b=a\/b=T)\/b=T') M.heap h3:=k.trans (k3.imp (λb z=>by simp at z) λb o _ z=>z);have I3:=kpI (T':=T') k' (λb o e z=>by
  rcases z with z|rfl
  .exact old1 b o e z
  .rw[tj un (CI fT')]at e;cases e) (λb z=>by
  rcases z with z|rfl
  .exact H1T b z
  .exact I1.hok.fresh fT') fl3 M.toks
 have I3h:Inv (hand X a) ah W (upd P a (nk a c)) {M with heap:=h3}:=Inv.hand I3;refine yK (X:=hand X a) (v:=.ref a) I3h hN hi (.inl hl) rfl (λs4 I4=>?_) hf;have al:Al F1 F1 P (upd P a (nk a c)):=Al.new0 na;have r2:=rl1.al al;have r3:=r2.set (i:=i) (pv:=.exc c) (v:=.ref a) ⟨a,rfl,bV⟩;have g3:bA (U S) (U λj b=>S1 j b/\j≠i) F F1 H (upd P a (nk a c)):=(g1.trans al.grow).trans (bA.less i);have less:∀{O:Nat->af->Prop}{L:af->Prop}{I:Hp},bA (U O) (U λj b=>O j b/\j≠i) L L I I:=λ{O L I}=>bA.less i;have pn:∀{C:St},jb g (W.set i (aa (.ref a))) C->jb g W (C.set i ae):=λ{C} p=>((jb.set cN).trans p).trans (jb.set cN);have okd:gE (hand X a).K E0 g (W.set i (aa (.ref a))) F1 (λj b=>S1 j b/\j≠i) (upd P a (nk a c)) (q (ε1.set i (.val (.exc c)))) {nx:=λC I=>Dn.nx (C.set i ae) I,rt:=Dn.rt,bk:=λC I=>Dn.bk (C.set i ae) I,ct:=λC I=>Dn.ct (C.set i ae) I}:=by
  cases ed:q (ε1.set i (.val (.exc c)))with
  |no=>rw[ed]at G;exact G.elim
  |er c' Z=>rw[ed]at G;exact G.elim
  |ok f Z=>
   rw[ed]at G;dsimp only at G;split at G
   .cases f with
    |next=>exact λL O C I r' g' p'=>G L _ _ I r'.unset ((g3.trans g').trans less) (pn p')
    |brk=>exact λL O C I r' g' p'=>G L _ _ I r'.unset ((g3.trans g').trans less) (pn p')
    |cont=>exact λL O C I r' g' p'=>G L _ _ I r'.unset ((g3.trans g').trans less) (pn p')
    |ret sl=>
     intro v L O C I Sr r' g' p' rv lo;refine G v L _ _ I Sr r'.unset ?_ (pn p') rv λb z=>⟨(lo b z).1,λ⟨j,w⟩=>(lo b z).2.1 ⟨j,w.1⟩,(lo b z).2.2⟩
     have gg:=g3.trans g';exact⟨gg.fro,gg.keep,gg.there,gg.fnew,λb z=>gg.onew b (z.imp (λ⟨j,w⟩=>⟨j,w.1⟩) id)⟩
   .exact G.elim
 refine eW ((hh a F1 _ _ _ _ _ r3 okd).run ah s4 I4) (λf s5 sp=>?_) λ_ _ z=>z.elim;have K:∀{J:St}{N:Hp}{Q:Unit->ao->Prop},Inv (hand X a) ah J N s5->(∀s6,Inv X ah (J.set i ae) N s6->Q () s6)->ar (aw X.prog X.w) X.A (do bindName X.env n .none;unbindBehindTheSuite X.env n r) Q X.xe s5:=λ{J N Q} I5 hQ=>by
  have I5':=Inv.unhand I5 I0.ok;refine aq (wpAny_bindName (yK (v:=.non) I5' hN hi (.inl hl) rfl (λs6 I6=>?_) hf));unfold unbindBehindTheSuite;refine wpAny_onRaise ?_;have hiσ:i<J.length:=by rw[I5'.len];exact(c9.mp hi).1
  refine Nj I6 hN hi hl (gi hiσ) λs7 I7=>hQ s7 ?_;rw[List.set_set]at I7;exact I7
 cases f with
 |next=>obtain⟨J,N,I5,q5⟩:=sp;exact K I5 λs6 I6=>⟨_,N,I6,q5⟩
 |brk=>obtain⟨J,N,I5,q5⟩:=sp;exact K I5 λs6 I6=>⟨_,N,I6,q5⟩
 |cont=>obtain⟨J,N,I5,q5⟩:=sp;exact K I5 λs6 I6=>⟨_,N,I6,q5⟩
 |ret u=>obtain⟨v,J,N,I5,rv,q5⟩:=sp;exact K I5 λs6 I6=>⟨v,_,N,I6,rv,q5⟩
end
end Pu
namespace L2
section
variable{X:Cx}
theorem Gu(w:X.calm=ag):dE X (.builtin "sorted") (λxs H Q=>∃(p:af) (a:List Tx),xs=[.ref p]/\H p=aa (kY X p a)/\a.length<4000/\∀l,H l=ae->Q (.ref l) (upd H l (.lst (bB (aK a))))):=by
 intro B s f H xs F Q I r h;obtain⟨p,a,rfl,o,G,q⟩:=h;obtain⟨u,rfl,i⟩:=vals1 r;cases i;obtain⟨S,_,_⟩:=(show cm X.prog X.w H s.heap p (kY X p a)from I.hok p _ o)
 refine Gq (OJ (uC (I.ok.hd w)) S λg E ss D C L k z y=>?_);obtain⟨c,g',d',t',m⟩:=g;obtain rfl:g'=s.gens:=z;obtain rfl:m=s.os:=y;have d:Inv X B f H {s with heap:=c,drawn:=d',toks:=t'}:=by have:=Inv.call (ch:=[]) I (g':=s.gens) (d':=d') (t':=t') (Un.kept (fs:=fo X.stack) (ex:=[]) k) (I.hok.kept k) I.bare (λb x=>absurd x (by simp));exact this
 refine⟨ss,D,∅,λJ j K e n v b1 b2 A=>?_⟩;exact⟨.ref _,_,Inv.sorted2 (s1:={s with heap:=c,drawn:=d',toks:=t'}) (ss:=a.map tS) d rfl ∅ n v b1 (b2.trans C) A,rfl,q _ d.fresh⟩
end
end L2
namespace Pu
open L2
section
variable{X:Cx}{E:XK}{pin:List Nat}{e f:aD}{j m:ak->R (List PV)}{g p q d r n i:Pos}
theorem Hc(l:List Tx):(bR l).Nodup:=by
 unfold bR;have:∀(l a:List Tx),a.Nodup->(l.foldl (λks x=>if x∈ks then ks else ks++[x]) a).Nodup:=by
  intro l
  induction l with
  |nil=>exact λa h=>h
  |cons x l c=>
   intro a h;rw[kM];refine c _ ?_;split
   .exact h
   .rename_i s;rw[Dg];exact⟨h,by simp,λy o z b e=>by simp at b;subst b;subst e;exact s o⟩
 exact this l [] List.nodup_nil
def vD:List PV->Option PO
 |[.lst xs]=>(eM xs).bind λa=>if(bR a).length<4000 then aa (.lst (aj (aK (bR a))))else ae
 |_=>ae
def E7(X:Cx):List V->Hp->VK->Prop:=λxs H Q=>∃(p:af) (a:List Tx),xs=[.ref p]/\H p=aa (kY X p a)/\a.length<4000/\∀l,H l=ae->Q (.ref l) (upd H l (.lst (bB (aK a))))
theorem L9:jW X.K (QA X (E7 X)) vD:=λF H xs M Q O K C e q=>by
 unfold vD at e;split at e
 .obtain⟨v,rfl,a,N,rfl,J,_,u⟩:=gz C;obtain⟨s,L,f⟩:=jv.mp e;rw[nh L]at u;obtain⟨rfl,G⟩:=T_.mp u;split at f
  .rename_i A;cases f;refine⟨a,s,rfl,.inl J,A,λb I=>⟨b,bR s,rfl,bV,A,λl h=>?_⟩⟩;have B:l≠b:=by rintro rfl;rw[bV]at h;cases h
   have y:H l=ae:=by rw[bO B]at h;exact h
   have al:Al F F H (upd (upd H b (kY X b (bR s))) l (.lst (bB (aK (bR s))))):=(Al.new0 I).trans (Al.new0 h);refine q l F _ (λc=>c=l) al ⟨⟨_,bV,T_.mpr ⟨rfl,λx D=>G x ((k_ _ _).mp ((d9 _).mem_iff.mp D))⟩⟩,λc=>nY⟩ λc z=>?_;subst z;exact⟨y,λz=>ub (K _ z) (λo w=>by rw[y]at w;cases w),_,bV,trivial⟩
  .cases f
 .cases e
theorem Nk(a:X.calm=ag)(u:DA X E [e] j)(o:X.mg "sorted"=ae)(c:X.mg "set"=ae)(s:Gl X "sorted":=by rfl)(b:Gl X "set":=by rfl)(h:li e=am:=by rfl):DN X E (.Call (.Name "sorted" p) [.Call (.Name "set" q) [e] [] d] [] g) (dL vD j):=λF S x w H Q l v=>bZ (nB (Gu a) s o mw (gB (sS (NJ a) b c Bd iq (by decide) (by decide) (ik h) rfl) iG (ik rfl)) (by decide) (by decide) (ik rfl) rfl) (sD L9 u l v)
end
theorem NV:eA "max"=aa (.builtin "max"):=by decide +kernel
end Pu
namespace Mx
theorem LC(p:Nat):∃o,5^(2^p)=1+2^(p+2)*(2*o+1):=by
 induction p with
 |zero=>exact⟨0,by decide⟩
 |succ p a=>
  obtain⟨o,h⟩:=a;refine⟨o+2^p*(2*o+1)*(2*o+1),?_⟩;rw[show 2^(p+1)=2^p*2 from qQ ..,Nat.pow_mul,h];rw[show(2:Nat)^(p+1+2)=8*2^p from by rw[Ds,qQ];lia,show(2:Nat)^(p+2)=4*2^p from by rw[Ds];lia];generalize 2^p=q
  grind
def F5:Nat->Nat->Nat
 |0,x=>x
 |n+1,x=>F5 n (5*x+1)
theorem Le(m n x:Nat):F5 (m+n) x=F5 n (F5 m x):=by
 induction m generalizing x with
 |zero=>simp[F5]
 |succ m a=>rw[wf];exact a _
theorem LD(n x:Nat):4*F5 n x+1=5^n*(4*x+1):=by
 induction n generalizing x with
 |zero=>simp[F5]
 |succ n a=>show 4*F5 n (5*x+1)+1=_;rw[a,qQ];grind
theorem RU(p x:Nat):∃o,F5 (2^p) x=x+2^p*(2*o+1):=by
 obtain⟨o,h⟩:=LC p;have c:=LD (2^p) x;rw[h,show(2:Nat)^(p+2)=4*2^p from by rw[Ds];lia]at c;refine⟨o*(4*x+1)+2*x,?_⟩;generalize 2^p=q at c;generalize F5 q x=y at c
 grind
theorem Ij(p:Nat):∀x y,y<2^p->∃n,n<2^p/\F5 n x % 2^p=y:=by
 induction p with
 |zero=>intro x y h;exact⟨0,by decide,by simp at h;subst h;simp[Nat.mod_one]⟩
 |succ p f=>
  intro x y d;obtain⟨n,v,e⟩:=f x (y % 2^p) (nW _ (Nat.two_pow_pos p));have i:(2:Nat)^(p+1)=2*2^p:=by rw[qQ];lia
  obtain⟨o,j⟩:=RU p (F5 n x);have c:=Nat.two_pow_pos p;by_cases q:F5 n x % 2^(p+1)=y
  .exact⟨n,∅,q⟩
  .refine⟨n+2^p,∅,?_⟩;rw[Le,j];rw[i]at q d ⊢;generalize 2^p=N at *;generalize F5 n x=z at *;have r:z % (2*N) % N=z % N:=Nat.mod_mod_of_dvd _ ⟨2,∅⟩;have m:(z+N*(2*o+1)) % (2*N)=(z+N) % (2*N):=by rw[show z+N*(2*o+1)=(z+N)+(2*N)*o by grind,Nat.add_mul_mod_self_left]
   rw[m];have g:=nW z (show 2*N > 0 by lia);have l:(z+N) % (2*N)=(z % (2*N)+N) % (2*N):=by rw[Dt];simp[Dt,zS (show N<2*N by lia)]
   rw[l];generalize z % (2*N)=u at *;rw[<-r]at e;have a:=Nat.div_add_mod u N;have b:=Nat.div_add_mod y N;have b1:u / N<2:=Nat.div_lt_of_lt_mul (by rw[wm];exact g);have b2:y / N<2:=Nat.div_lt_of_lt_mul (by rw[wm];exact d);rw[e]at a;generalize u / N=uq at a b1;generalize y / N=yq at b b2;have s:=nW y c;rcases(show uq=0\/uq=1 by lia)with c1|c1 <;> rcases(show yq=0\/yq=1 by lia)with c2|c2 <;> subst c1 <;> subst c2 <;> simp only[Nat.mul_zero,Nat.mul_one,t9]at a b
   .exact absurd (a.symm.trans b) q
   .rw[zS ∅];lia
   .rw[show u+N=y+2*N by lia,Nat.add_mod_right,zS ∅]
   .exact absurd (a.symm.trans b) q
end Mx
namespace L2
open Mx
def eK(mask:Nat):Nat->Nat->Nat->Nat×Nat
 |0,i,p=>(i,p)
 |n+1,i,p=>eK mask n (mR mask i p).1 (mR mask i p).2
theorem AR(mask:Nat):∀(m n i p:Nat),eK mask (m+n) i p=eK mask n (eK mask m i p).1 (eK mask m i p).2
 |0,n,i,p=>by rw[t9];rfl
 |m+1,n,i,p=>by rw[wf];exact AR mask m n _ _
theorem BD(mask:Nat):∀(m i p:Nat),(eK mask m i p).2=p / 32^m
 |0,i,p=>by simp[eK]
 |m+1,i,p=>by show(eK mask m _ _).2=_;rw[BD mask m];show p / 32 / 32^m=_;rw[Nat.div_div_eq_div_mul,qQ,wm]
theorem Bv(mask:Nat):∀(n i:Nat),(eK mask n i 0).1 % (mask+1)=F5 n i % (mask+1)
 |0,i=>rfl
 |n+1,i=>by show(eK mask n ((i*5+1+0 / 32) % (mask+1)) (0 / 32)).1 % _=F5 n (5*i+1) % _;rw[show 0 / 32=0 from rfl,Bv mask n,Nat.add_zero,wm i 5];exact F5_mod n (mask+1) (5*i+1)
where
 F5_mod:∀(n N x:Nat),F5 n (x % N) % N=F5 n x % N
  |0,N,x=>by simp[F5]
  |n+1,N,x=>by show F5 n (5*(x % N)+1) % N=F5 n (5*x+1) % N;rw[<-F5_mod n N (5*(x % N)+1),<-F5_mod n N (5*x+1)];congr 2;rw[Dt,Nat.mul_mod,Nat.mod_mod,<-Nat.mul_mod,<-Dt]
theorem Ck(mask:Nat):∀(n i p:Nat),(eK mask (n+1) i p).1<mask+1
 |0,i,p=>nW _ (uc _)
 |n+1,i,p=>Ck mask n _ _
theorem E2{mask:Nat}{owner:Array (Option Nat)}:∀(a i p:Nat),(∃t,t<a/\(owner.getD (eK mask t i p).1 (aa 0)).isNone=ag)->∃j,pr mask owner a i p=aa j/\(owner.getD j (aa 0)).isNone=ag
 |0,i,p,⟨t,h,_⟩=>absurd h (nX _)
 |a+1,i,p,⟨t,h,e⟩=>by
  unfold pr;cases q:(cq (fD mask i+1-i)).find? (λk=>(owner.getD (i+k) (aa 0)).isNone)with
  |some k=>exact⟨i+k,rfl,by have:=List.find?_some q;exact this⟩
  |none=>
   cases t with
   |zero=>have:=Du.mp q 0 (by rw[kK];unfold fD;split <;> lia);exact absurd (show(owner.getD (i+0) (aa 0)).isNone=ag from e) this
   |succ t=>exact E2 a _ _ ⟨t,∅,e⟩
theorem Lj{mask q:Nat}{owner:Array (Option Nat)}(a:mask+1=2^q)(d:owner.size=mask+1){y:Nat}(c:y<owner.size)(g:owner[y]?=aa ae)(i p:Nat)(f:p<2^64):∃j,pr mask owner (qR mask) i p=aa j/\owner[j]?=aa ae:=by
 obtain⟨n,u,e⟩:=Ij q (eK mask 13 i p).1 y (by rw[<-a,<-d];exact c);have h:(eK mask 13 i p).2=0:=by rw[BD];exact Nat.div_eq_of_lt (gH f (by decide))
 have s:(eK mask (13+n) i p).1<mask+1:=by rw[show 13+n=(12+n)+1 by lia];exact Ck mask _ _ _
 have r:(eK mask (13+n) i p).1=y:=by
  have m:(eK mask (13+n) i p).1 % (mask+1)=y:=by rw[AR,h,Bv,a];exact e
  rwa[zS s]at m
 obtain⟨j,l,f2⟩:=E2 (mask:=mask) (owner:=owner) (qR mask) i p ⟨13+n,by unfold qR;lia,by rw[r,wn,g];rfl⟩;refine⟨j,l,?_⟩;rw[wn]at f2;cases b:owner[j]? with
 |none=>rw[b]at f2;cases f2
 |some o=>
  rw[b]at f2;cases o with
  |none=>rfl
  |some v=>cases f2
theorem Il:∀(l:List (Option Nat)) (j k:Nat),l[j]?=aa ae->((l.set j (aa k)).filterMap id).Perm (k::l.filterMap id)
 |[],j,k,h=>by simp at h
 |x::l,0,k,h=>by simp at h;subst h;simp
 |x::l,j+1,k,h=>by
  have a:=Il l j k (by simpa using h);cases x with
  |none=>simpa using a
  |some v=>simp only[List.set_cons_succ,mz,id];exact(a.cons v).trans (List.Perm.swap ..)
theorem G6:∀(l:List (Option Nat)),(∀y,y<l.length->l[y]?≠aa ae)->(l.filterMap id).length=l.length
 |[],_=>rfl
 |x::l,h=>by
  have a:=G6 l λy b e=>h (y+1) (by simp;lia) (by simpa using e);cases x with
  |none=>exact absurd rfl (h 0 (by simp))
  |some v=>simp[a]
def Laid(b:Nat)(a:Array (Option Nat))(k:Nat):Prop:=a.size=b+1/\(a.toList.filterMap id).Perm (cq k)
theorem Sw{b q k:Nat}{a:Array (Option Nat)}(g:b+1=2^q)(L:Laid b a k)(n:k<b+1)(h:Int):∃j,pr b a (qR b) (et h % (b+1)) (et h)=aa j/\Laid b (a.setIfInBounds j (aa k)) (k+1):=by
 obtain⟨d,f⟩:=L;have:∃y,y<a.toList.length/\a.toList[y]?=aa ae:=by
  by_cases z:∃y,y<a.toList.length/\a.toList[y]?=aa ae
  .exact z
  .have:=G6 a.toList λy c e=>z ⟨y,c,e⟩;have:=f.length_eq;simp at this;simp at *;lia
 obtain⟨y,c,i⟩:=this;have l:et h<2^64:=by unfold et;have:=zT h (show(0:Int)<2^64 by decide);have:=zU h (show(2^64:Int)≠0 by decide);lia
 obtain⟨j,m,f2⟩:=Lj g d (by simpa using c) (by simpa using i) (et h % (b+1)) _ l;refine⟨j,m,by simpa using d,?_⟩;rw[Array.toList_setIfInBounds,qG];exact(Il a.toList j k (by simpa using f2)).trans ((f.cons k).trans (List.perm_append_singleton ..).symm)
section
variable{X:Cx}{f:List (af×Obj)}{d:St}{H:Hp}{s:ao}{a:af}
theorem Inv.recast{p q:HO}(I:Inv X f d H s)(e:H a=aa p)(m:∀xs,p≠.tup xs)(C:∀o u,X.H₀ a≠aa (.frz o u))(B:∀j,p≠.tbl j)(A:∀x,p≠.own x)(new:cm X.prog X.w (upd H a q) s.heap a q):Inv X f d (upd H a q) s:=by
 have g:∀b,H b=ae->(upd H a q) b=ae:=λb i=>by rw[bO (by rintro rfl;rw[e]at i;cases i)];exact i
 refine⟨I.ok,I.os,I.bare,⟨I.base.keep,I.base.slot,λb o h n w=>g b (I.base.free b o h n w),I.base.there,λb xs h=>?_,λb o u h=>?_,λb j h=>?_⟩,I.loc,I.cell,g _ I.free,λx c h=>g _ (I.freeC x c h),λp y=>?_,λb u i=>?_,I.len⟩
 .have z:=I.base.tups b xs h;rw[bO (by rintro rfl;rw[e]at z;exact m xs (c8 z))];exact z
 .have z:=I.base.frzs b o u h;rw[bO (by rintro rfl;exact C o u h)];exact z
 .have z:=I.base.tbls b j h;rw[bO (by rintro rfl;rw[e]at z;exact B _ (c8 z))];exact z
 .obtain⟨F,E,D⟩:=I.pin p y;exact⟨F,g _ E,D⟩
 .by_cases l:b=a
  .subst l;rw[bV]at i;cases i;exact new
  .rw[bO l]at i;refine(I.hok b u i).stay (λc v _ r=>r) (λc r=>?_) λc xs r=>?_
   .rw[bO (by rintro rfl;rw[e]at r;exact A _ (c8 r))];exact r
   .rw[bO (by rintro rfl;rw[e]at r;exact m _ (c8 r))];exact r
def uG(o:Obj):Nat:=match o.data with
 |.dict _ ep=>ep
 |_=>0
end
end L2
namespace Pu
open L2
section
variable{X:Cx}{E:XK}{f:List Nat}{e b c:aD}{de a g:ak->R PV}{d:Pos}
def M4(j:Bool)(i:Nat)(a:ak->R PV):ak->R PV:=λm=>(a m).bind λk h=>(aJ (fA h i) h).bind λl h=>aJ ((jX k).map λk=>.bl (j^^(me l k).isSome)) h
theorem sC(x:Str):tS x.cps.toList=x:=by simp[tS]
end
end Pu
namespace L2
open Att
theorem B9:∀{xs:List V}{c:List ai}{i:Nat}{v:ai},bj xs c->c[i]?=aa v->∃x,xs[i]?=aa x/\RelV x v
 |_,_,_,_,.nil,e=>by simp at e
 |_,_,0,_,.cons h _,e=>by simp at e;subst e;exact⟨_,rfl,h⟩
 |_,_,i+1,_,.cons _ t,e=>by obtain⟨x,a,b⟩:=B9 (i:=i) t (by simpa using e);exact⟨x,by simpa using a,b⟩
open Mx
theorem perm_mapE{g q:Type}{f:g->q}{l:List q}{m:List g}(h:l.Perm (m.map f)):∃d:List g,l=d.map f/\d.Perm m:=by
 generalize c:m.map f=mm at h
 induction h generalizing m with
 |nil=>
  cases m with
  |nil=>exact⟨[],rfl,.nil⟩
  |cons=>cases c
 |cons x _ w=>
  cases m with
  |nil=>cases c
  |cons y r=>rw[cS]at c;injection c with o n;obtain⟨d,e,p⟩:=w n;exact⟨y::d,by rw[cS,<-e,o],p.cons y⟩
 |swap x y l=>
  match m,c with
  |a::b::r,c=>simp only[cS,wo]at c;obtain⟨o,n,z⟩:=c;exact⟨b::a::r,by simp[o,n,z],.swap ..⟩
 |trans _ _ j i=>obtain⟨C,A,s⟩:=i c;obtain⟨v,B,u⟩:=j A.symm;exact⟨v,B,u.trans s⟩
theorem below_go{xs:Array Nat}{j:Nat}(l:xs.toList.Pairwise (· < ·)):∀(f d c:Nat),c-d<=f->d<=c->c<=xs.size -> (∀i (h:i<xs.size),i<d->xs[i]<j)->(∀i (h:i<xs.size),c<=i->j<=xs[i]) -> t7 xs j f d c<=xs.size/\(∀i (h:i<xs.size),i<t7 xs j f d c->xs[i]<j)/\∀i (h:i<xs.size),t7 xs j f d c<=i->j<=xs[i]
 |0,d,c,h,hl,hs,h1,h2=>by
  have:d=c:=∅
  subst this;exact⟨hs,h1,h2⟩
 |f+1,d,c,h,hl,hs,h1,h2=>by
  unfold t7;split
  .rename_i u;have m:(d+c) / 2<xs.size:=∅
   have mono:∀a b (q:a<xs.size) (p:b<xs.size),a<b->xs[a]<xs[b]:=λa b q p r=>by have:=ua.mp l a b (by simpa using q) (by simpa using p) r;simpa using this
   have s:xs.getD ((d+c) / 2) j=xs[(d+c) / 2]:=by simp[Array.getD,m]
   dsimp only;rw[s];split
   .rename_i o;refine below_go l f _ _ ∅ ∅ hs (λi g n=>?_) h2;by_cases e:i=(d+c) / 2
    .subst e;exact o
    .have:=mono i _ g m ∅;lia
   .rename_i o;refine below_go l f _ _ ∅ ∅ ∅ h1 (λi g n=>?_);by_cases e:i=(d+c) / 2
    .subst e;lia
    .have:=mono _ i m g ∅;lia
  .have:d=c:=∅
   subst this;exact⟨hs,h1,h2⟩
theorem below_ok{xs:Array Nat}(a:xs.toList.Pairwise (· < ·))(j:Nat):iQ xs j<=xs.size/\(∀i (h:i<xs.size),i<iQ xs j->xs[i]<j)/\∀i (h:i<xs.size),iQ xs j<=i->j<=xs[i] :=below_go a xs.size 0 xs.size ∅ ∅ (a8 _) (λi _ h=>absurd h (nX _)) λi h b=>absurd h ∅
structure TOk(t:ce):Prop where
 dm:t.dummies=#[]
 ris:t.place.toList.Pairwise (· < ·)
 le:∀j∈t.place.toList,j<=t.mask
 sz:t.mask∈[7,31,127,511,2047,8191]
 roomy:t.place.size*5<t.mask*3
theorem TOk.pow{t:ce}(h:TOk t):∃q,t.mask+1=2^q:=by
 have:=h.sz;simp only[bo,hG,or_false]at this;rcases this with e|e|e|e|e|e <;> rw[e]
 .exact⟨3,rfl⟩
 .exact⟨5,rfl⟩
 .exact⟨7,rfl⟩
 .exact⟨9,rfl⟩
 .exact⟨11,rfl⟩
 .exact⟨13,rfl⟩
theorem TOk.most{t:ce}(h:TOk t):t.mask<=8191/\7<=t.mask/\t.mask % 2=1:=by have:=h.sz;simp only[bo,hG,or_false]at this;lia
theorem slot_of{t:ce}(l:t.dummies=#[])(a:t.place.toList.Pairwise (· < ·))(j:Nat):(j∉t.place.toList/\t.slot j=.empty)\/∃i,t.place[i]?=aa j/\t.slot j=.live i:=by
 obtain⟨o,b1,b2⟩:=below_ok a j;unfold SetTable.slot;dsimp only;by_cases b:t.place[iQ t.place j]?=aa j
 .exact .inr ⟨_,b,by rw[b];simp⟩
 .refine .inl ⟨λf=>?_,?_⟩
  .obtain⟨i,g,e⟩:=nZ f;have c:i<t.place.size:=by simpa using g
   have h:t.place[i]=j:=by simpa using e
   have n:¬i<iQ t.place j:=λz=>by have:=b1 i c z;lia
   have d:iQ t.place j<t.place.size:=∅
   have m:=b2 _ d (a8 _);have:iQ t.place j=i:=by
    by_cases q:iQ t.place j=i
    .exact q
    .have:=ua.mp a _ i (by simpa using d) (by simpa using c) ∅;simp at this;lia
   exact b (by rw[this,i9 c,h])
  .rw[if_neg (by simpa using b),l];simp[SetTable.has]
def stp(a i p:Nat):ki:={j:=i,more:=fD a i-i,i:=i,perturb:=p,dummy:=ae}
def pth(t:ce):Nat->ki->ki
 |0,p=>p
 |n+1,p=>pth t n (t.advance p)
theorem pth_add(t:ce):∀(m n:Nat) (p:ki),pth t (m+n) p=pth t n (pth t m p)
 |0,n,p=>by rw[t9];rfl
 |m+1,n,p=>by rw[wf];exact pth_add t m n _
theorem pth_succ(t:ce)(n:Nat)(p:ki):pth t (n+1) p=t.advance (pth t n p):=pth_add t n 1 p
theorem adv_dummy(t:ce)(p:ki):(t.advance p).dummy=p.dummy:=by unfold Dv;split <;> rfl
theorem pth_dummy(t:ce):∀(n:Nat) (p:ki),(pth t n p).dummy=p.dummy
 |0,p=>rfl
 |n+1,p=>(pth_dummy t n _).trans (adv_dummy t p)
theorem pth_mask{t a:ce}(h:t.mask=a.mask):∀(n:Nat) (p:ki),pth t n p=pth a n p
 |0,p=>rfl
 |n+1,p=>by
  have:t.advance p=a.advance p:=by unfold Dv;rw[h]
  show pth t n (t.advance p)=pth a n (a.advance p);rw[this,pth_mask h n]
theorem pth_run(t:ce):∀(k:Nat) (p:ki),k<=p.more->pth t k p={p with j:=p.j+k,more:=p.more-k}
 |0,p,_=>rfl
 |k+1,p,h=>by
  show pth t k (t.advance p)=_;have:t.advance p={p with j:=p.j+1,more:=p.more-1}:=by unfold Dv;rw[if_pos ∅]
  rw[this,pth_run t k _ (by dsimp only;lia)];dsimp only;rw[show p.j+1+k=p.j+(k+1) by lia,show p.more-1-k=p.more-(k+1) by lia]
theorem run_le(a i:Nat):fD a i-i<=9:=by unfold fD;split <;> lia
theorem pth_leap(t:ce)(i p:Nat):pth t (fD t.mask i-i+1) (stp t.mask i p)=stp t.mask (mR t.mask i p).1 (mR t.mask i p).2:=by rw[pth_succ,pth_run t (fD t.mask i-i) (stp t.mask i p) (a8 _)];exact(if_neg (show ¬(fD t.mask i-i-(fD t.mask i-i) > 0) by lia)).trans rfl
theorem pth_orb(t:ce):∀(m i p:Nat),∃n,n<=10*m/\pth t n (stp t.mask i p)=stp t.mask (eK t.mask m i p).1 (eK t.mask m i p).2
 |0,i,p=>⟨0,a8 _,rfl⟩
 |m+1,i,p=>by obtain⟨n,b,a⟩:=pth_orb t m (mR t.mask i p).1 (mR t.mask i p).2;refine⟨fD t.mask i-i+1+n,by have:=run_le t.mask i;lia,?_⟩;rw[pth_add,pth_leap];exact a
theorem nat_len_sub:∀{l m:List Nat},l.Nodup->(∀x∈l,x∈m)->l.length<=m.length
 |[],m,_,_=>kg _
 |x::l,m,d,h=>by
  have c:x∈m:=h x (eC ..);have a:=jH.mp d;have:=nat_len_sub (l:=l) (m:=m.erase x) a.2 λy b=>by have:y≠x:=λe=>a.1 (e ▸ b);exact(List.mem_erase_of_ne this).mpr (h y (dy _ b))
  rw[Dw c]at this;have:0<m.length:=List.length_pos_of_mem c;simp;lia
theorem bits_lt(h:Int):et h<2^64:=by unfold et;have:=zT h (show(0:Int)<2^64 by decide);have:=zU h (show(2^64:Int)≠0 by decide);lia
theorem pth_empty{t:ce}(ok:TOk t)(h:Int):∃n,n<=10*(t.mask+14)/\(pth t n (t.probeStart h)).j∉t.place.toList:=by
 obtain⟨q,c⟩:=ok.pow;have:∃y,y<t.mask+1/\y∉t.place.toList:=by
  by_cases z:∃y,y<t.mask+1/\y∉t.place.toList
  .exact z
  .have:=nat_len_sub (l:=cq (t.mask+1)) (m:=t.place.toList) List.nodup_range λx b=>by
    by_cases a:x∈t.place.toList
    .exact a
    .exact absurd ⟨x,kK.mp b,a⟩ z
   have:=ok.roomy;simp at *;lia
 obtain⟨y,p,d⟩:=this;obtain⟨n,r,e⟩:=Ij q (eK t.mask 13 (et h % (t.mask+1)) (et h)).1 y ∅;have f:(eK t.mask 13 (et h % (t.mask+1)) (et h)).2=0:=by rw[BD];exact Nat.div_eq_of_lt (gH (bits_lt h) (by decide))
 have o:(eK t.mask (13+n) (et h % (t.mask+1)) (et h)).1<t.mask+1:=by rw[show 13+n=(12+n)+1 by lia];exact Ck t.mask _ _ _
 have j:(eK t.mask (13+n) (et h % (t.mask+1)) (et h)).1=y:=by
  have i:(eK t.mask (13+n) (et h % (t.mask+1)) (et h)).1 % (t.mask+1)=y:=by rw[AR,f,Bv];generalize (eK t.mask 13 (et h % (t.mask+1)) (et h)).1=z at e ⊢;rw[c];exact e
  rwa[zS o]at i
 obtain⟨k,s,g⟩:=pth_orb t (13+n) (et h % (t.mask+1)) (et h);refine⟨k,∅,?_⟩;show(pth t k (stp t.mask (et h % (t.mask+1)) (et h))).j∉_;rw[g];show(eK t.mask (13+n) _ _).1∉_;rw[j];exact d
theorem least{p:Nat->Prop}:∀(n:Nat),p n->∃m,m<=n/\p m/\∀k,k<m->¬p k
 |0,h=>⟨0,a8 _,h,λk d=>absurd d (nX _)⟩
 |n+1,h=>by
  by_cases z:∃m,m<=n/\p m/\∀k,k<m->¬p k
  .obtain⟨m,a,b,c⟩:=z;exact⟨m,∅,b,c⟩
  .refine⟨n+1,a8 _,h,λk d f=>z ?_⟩;obtain⟨m,a,b,c⟩:=least k f;exact⟨m,∅,b,c⟩
theorem go_met{t:ce}(l:t.dummies=#[])(b:t.place.toList.Pairwise (· < ·))(qS:Nat->Int)(h:Int):∀(d n:Nat) (p:ki),n<d->p.dummy=ae->(pth t n p).j∉t.place.toList->(∀k,k<n->(pth t k p).j∈t.place.toList) -> ((wp t qS h d p=aa (.empty (pth t n p).j ae)/\∀k i,k<n->t.place[i]?=aa (pth t k p).j->t.slot (pth t k p).j=.live i->qS i≠h) \/ ∃m i,m<n/\t.place[i]?=aa (pth t m p).j/\t.slot (pth t m p).j=.live i/\qS i=h/\wp t qS h d p=aa (.candidate (pth t m p).j i (pth t (m+1) p))/\∀k i,k<m->t.slot (pth t k p).j=.live i->qS i≠h)
 |0,n,p,hf,_,_,_=>absurd hf (nX _)
 |d+1,0,p,hf,hd,he,_=>by
  left;refine⟨?_,λk i c=>absurd c (nX _)⟩;rcases slot_of l b p.j with⟨_,e⟩|⟨i,e,_⟩
  .unfold wp;rw[e,hd];rfl
  .exact absurd (o_ (show t.place.toList[i]?=aa p.j by simpa using e)) he
 |d+1,n+1,p,hf,hd,he,hb=>by
  rcases slot_of l b p.j with⟨e,_⟩|⟨i,e1,e2⟩
  .exact absurd (hb 0 (uc _)) e
  .unfold wp;rw[e2];dsimp only;by_cases f:qS i=h
   .right;refine⟨0,i,uc _,e1,e2,f,?_,λk i c=>absurd c (nX _)⟩;rw[if_pos (by simpa using f)];rfl
   .rw[if_neg (by simpa using f)];rcases go_met l b qS h d n (t.advance p) ∅ ((adv_dummy t p).trans hd) he (λk c=>hb (k+1) ∅)with⟨g1,g2⟩|⟨m,a,g1,g2,g3,g4,g5,g6⟩
    .refine .inl ⟨g1,λk a c o g=>?_⟩;cases k with
     |zero=>
      have:a=i:=by have j:t.slot p.j=.live a:=g;rw[e2]at j;injection j with z;exact z.symm
      subst this;exact f
     |succ k=>exact g2 k a ∅ o g
    .refine .inr ⟨m+1,a,∅,g2,g3,g4,g5,λk a c g=>?_⟩;cases k with
     |zero=>
      have:a=i:=by have j:t.slot p.j=.live a:=g;rw[e2]at j;injection j with z;exact z.symm
      subst this;exact f
     |succ k=>exact g6 k a ∅ g
theorem ins_list{a:Type}(xs:Array a)(p:Nat)(x:a):(qK xs p x).toList=xs.toList.take p++x::xs.toList.drop p:=by unfold qK;simp[i_,tW,Array.toList_extract,List.extract,lG];exact qH (by simp)
theorem zip_ins{d c:Type}{a:List d}{b:List c}(h:a.length=b.length)(p:Nat)(x:d)(y:c)(q:d×c):q∈(a.take p++x::a.drop p).zip (b.take p++y::b.drop p)↔q=(x,y)\/q∈a.zip b:=by
 rw[List.zip_append (by simp[h]),fO,zV,bo];have:a.zip b=(a.take p).zip (b.take p)++(a.drop p).zip (b.drop p):=by rw[<-List.zip_append (by simp[h]),nP,nP]
 rw[this,fO];constructor
 .rintro(h|h|h)
  .exact .inr (.inl h)
  .exact .inl h
  .exact .inr (.inr h)
 .rintro(h|h|h)
  .exact .inr (.inl h)
  .exact .inl h
  .exact .inr (.inr h)
def Rch(t:ce)(a:List Nat)(j:Nat)(h:Int):Prop:=∃n,(pth t n (t.probeStart h)).j=j/\∀k,k<n->(pth t k (t.probeStart h)).j∈a
structure TPl(t:ce)(hs:List Int):Prop where
 ok:TOk t
 len:t.place.size=hs.length
 rch:∀q∈t.place.toList.zip hs,Rch t t.place.toList q.1 q.2
theorem put_ris{a:Array Nat}(b:a.toList.Pairwise (· < ·)){j:Nat}(i:j∉a.toList):(qK a (iQ a j) j).toList.Pairwise (· < ·):=by
 obtain⟨l,b1,b2⟩:=below_ok b j;rw[ins_list];have up:∀y∈a.toList.drop (iQ a j),j<y:=λy c=>by
  obtain⟨k,f,e⟩:=nZ c;rw[zO]at e;rw[lF,fP]at f;have g:=b2 (iQ a j+k) ∅ ∅;have h:a[iQ a j+k]'∅=y:=by simpa using e
  rw[h]at g;have:y∈a.toList:=JG c;have:j≠y:=λz=>i (z ▸ this);lia
 have dn:∀x∈a.toList.take (iQ a j),x<j:=λx d=>by
  obtain⟨k,f,e⟩:=nZ d;rw[Do]at e;rw[mF,fP]at f;have g:=b1 k ∅ ∅;have h:a[k]'∅=x:=by simpa using e
  lia
 refine zN.mpr ⟨b.sublist (IY _ _),lH.mpr ⟨up,b.sublist (List.drop_sublist _ _)⟩,λx d y c=>?_⟩;rcases bo.mp c with rfl|c
 .exact dn x d
 .exact tP (dn x d) (up y c)
theorem Rch.up{t t':ce}{c a:List Nat}{j:Nat}{h:Int}(b:t.mask=t'.mask)(g:∀x∈c,x∈a)(r:Rch t c j h):Rch t' a j h:=by
 obtain⟨n,e,f⟩:=r;have d:t'.probeStart h=t.probeStart h:=by unfold SetTable.probeStart;rw[b]
 exact⟨n,by rw[d,<-pth_mask b];exact e,λk i=>by rw[d,<-pth_mask b];exact g _ (f k i)⟩
theorem put_tp{t:ce}{a:List Int}(T:TPl t a)(h:Int){n:Nat}(o:(pth t n (t.probeStart h)).j∉t.place.toList)(p:∀k,k<n->(pth t k (t.probeStart h)).j∈t.place.toList)(l:(pth t n (t.probeStart h)).j<=t.mask):let t':=(t.put (pth t n (t.probeStart h)).j).1
  let c:=a.take (t.put (pth t n (t.probeStart h)).j).2++h::a.drop (t.put (pth t n (t.probeStart h)).j).2
  t'.dummies=#[]/\t'.place.toList.Pairwise (· < ·)/\(∀j∈t'.place.toList,j<=t'.mask)/\t'.mask=t.mask/\t'.place.size=t.place.size+1/\c.length=a.length+1 /\
   ∀q∈t'.place.toList.zip c,Rch t' t'.place.toList q.1 q.2:=by
 intro t' c;have f:t'.place.toList=t.place.toList.take (iQ t.place (pth t n (t.probeStart h)).j)++(pth t n (t.probeStart h)).j::t.place.toList.drop (iQ t.place (pth t n (t.probeStart h)).j):=ins_list _ _ _;have mem:∀x,x∈t'.place.toList↔x=(pth t n (t.probeStart h)).j\/x∈t.place.toList:=λx=>by
  rw[f,fO,bo];have:=congrArg (x∈·) (nP (iQ t.place (pth t n (t.probeStart h)).j) t.place.toList);simp only[fO,eq_iff_iff]at this;rw[<-this];constructor
  .rintro(h|h|h)
   .exact .inr (.inl h)
   .exact .inl h
   .exact .inr (.inr h)
  .rintro(h|h|h)
   .exact .inr (.inl h)
   .exact .inl h
   .exact .inr (.inr h)
 have g:t'.mask=t.mask:=rfl;have r:t.place.toList.length=a.length:=by have:=T.len;simpa using this
 refine⟨?_,put_ris T.ok.ris o,λj d=>?_,rfl,?_,?_,λq b=>?_⟩
 .show(if SetTable.has t.dummies _ then _ else t.dummies)=#[];rw[T.ok.dm];simp[SetTable.has]
 .rcases(mem j).mp d with rfl|d
  .exact l
  .exact T.ok.le j d
 .rw[<-fP,f];simp;lia
 .show(a.take _++h::a.drop _).length=_;simp;lia
 .rw[f]at b;rcases(zip_ins r _ _ _ q).mp b with rfl|b
  .exact⟨n,by rw[pth_mask g];rfl,λk m=>by rw[pth_mask g];exact(mem _).mpr (.inr (p k m))⟩
  .exact(T.rch q b).up g.symm λx i=>(mem x).mpr (.inr i)
theorem adv_le{t:ce}{p:ki}(h:p.j+p.more<=t.mask):(t.advance p).j+(t.advance p).more<=t.mask:=by
 unfold Dv;split
 .dsimp only;lia
 .show(mR t.mask p.i p.perturb).1+(fD t.mask (mR t.mask p.i p.perturb).1-(mR t.mask p.i p.perturb).1)<=t.mask;have:(mR t.mask p.i p.perturb).1<t.mask+1:=nW _ (uc _);generalize (mR t.mask p.i p.perturb).1=i at *;unfold fD;split <;> lia
theorem pth_le{t:ce}:∀(n:Nat) {p:ki},p.j+p.more<=t.mask->(pth t n p).j+(pth t n p).more<=t.mask
 |0,p,h=>h
 |n+1,p,h=>pth_le n (adv_le h)
theorem stp_le{a i p:Nat}(h:i<a+1):(stp a i p).j+(stp a i p).more<=a:=by show i+(fD a i-i)<=a;unfold fD;split <;> lia
theorem start_le(t:ce)(h:Int)(n:Nat):(pth t n (t.probeStart h)).j<=t.mask:=by have:=pth_le (t:=t) n (p:=t.probeStart h) (stp_le (p:=et h) (nW (et h) (uc t.mask)));lia
def Occ(a:Array (Option Nat))(j:Nat):Prop:=∃k,a[j]?=aa (aa k)
theorem free_path(t:ce){a:Array (Option Nat)}(w:a.size=t.mask+1):∀(f i p j:Nat),i<t.mask+1->pr t.mask a f i p=aa j -> ∃n,(pth t n (stp t.mask i p)).j=j/\∀k,k<n->Occ a (pth t k (stp t.mask i p)).j
 |0,i,p,j,_,h=>by unfold pr at h;cases h
 |f+1,i,p,j,hi,h=>by
  have c:∀k,k<=fD t.mask i-i->(a.getD (i+k) (aa 0)).isNone=am->Occ a (i+k):=λk d e=>by
   have s:i+k<a.size:=by have:=stp_le (p:=p) hi;have:i+(fD t.mask i-i)<=t.mask:=this;lia
   rw[wn,i9 s]at e;unfold Occ;rw[i9 s];cases q:a[i+k]with
   |none=>rw[q]at e;cases e
   |some v=>exact⟨v,rfl⟩
  have b:∀k,k<=fD t.mask i-i->(pth t k (stp t.mask i p)).j=i+k:=λk d=>by rw[pth_run t k (stp t.mask i p) d];rfl
  unfold pr at h;cases q:(cq (fD t.mask i+1-i)).find? (λk=>(a.getD (i+k) (aa 0)).isNone)with
  |some k=>
   rw[q]at h;cases h;obtain⟨_,g,bs,r,y⟩:=List.find?_eq_some_iff_append.mp q;have d:k<fD t.mask i+1-i:=kK.mp (List.mem_of_find?_eq_some q);refine⟨k,b k ∅,λm z=>?_⟩;rw[b m ∅];refine c m ∅ ?_;have:m∈g:=by
    have A:g.length=k:=by have:=congrArg (λl=>l[g.length]?) r;simp only[o9 (a8 _),Dl,List.getElem?_cons_zero]at this;rw[c9]at this;obtain⟨B,e⟩:=this;rw[List.getElem_range]at e;exact e
    have:=congrArg (λl=>l[m]?) r;rw[iP ∅,zA ∅]at this;exact o_ this.symm
   have:=y m this;cases u:(a.getD (i+m) (aa 0)).isNone with
   |false=>rfl
   |true=>rw[u]at this;cases this
  |none=>
   rw[q]at h;obtain⟨n,x,f2⟩:=free_path t w f _ _ j (nW _ (uc _)) h;refine⟨fD t.mask i-i+1+n,by rw[pth_add,pth_leap];exact x,λk d=>?_⟩;by_cases o:k<fD t.mask i-i+1
   .rw[b k ∅];refine c k ∅ ?_;have:=Du.mp q k (kK.mpr (by unfold fD at o ⊢;split at o <;> split <;> lia));exact zL.mpr this
   .have e:k=fD t.mask i-i+1+(k-(fD t.mask i-i+1)):=∅
    rw[e,pth_add,pth_leap];exact f2 _ ∅
def LaidR(t:ce)(a:Array (Option Nat))(b:List Int):Prop:=∀(j k:Nat),a[j]?=aa (aa k)->∃h,b[k]?=aa h/\∃n,(pth t n (t.probeStart h)).j=j/\∀m,m<n->Occ a (pth t m (t.probeStart h)).j
theorem layClean_ok2(t:ce){q:Nat}(A:t.mask+1=2^q)(g:Array Int)(J:g.size<=t.mask):∃a,C4 t.mask g=aa a/\Laid t.mask a g.size/\LaidR t a g.toList:=by
 unfold C4;have o:∀(l c:List Int) (a:Array (Option Nat)),Laid t.mask a c.length->LaidR t a c->c.length+l.length<=t.mask+1->∃b,l.foldl (λG h=>do
   let (a,k) <-G
   let j <-pr t.mask a (qR t.mask) (et h % (t.mask+1)) (et h)
   pure (a.setIfInBounds j (aa k),k+1)) (aa (a,c.length))=aa (b,(c++l).length)/\Laid t.mask b (c++l).length/\LaidR t b (c++l):=by
  intro l
  induction l with
  |nil=>intro c a L R _;rw[fQ];exact⟨a,rfl,L,R⟩
  |cons h l z=>
   intro c a L R B;simp only[cx]at B;obtain⟨j,s,L2⟩:=Sw A L ∅ h;obtain⟨n,r,v⟩:=free_path t L.1 _ _ _ _ (nW _ (uc _)) s;have C:j<a.size:=by rw[L.1,<-r];exact Nat.lt_succ_of_le (start_le t h n)
   have grow:∀x,Occ a x->Occ (a.setIfInBounds j (aa c.length)) x:=λx ⟨k,e⟩=>by
    unfold Occ;rw[Array.getElem?_setIfInBounds];by_cases d:j=x
    .rw[if_pos d,if_pos ∅];exact⟨_,rfl⟩
    .rw[if_neg d];exact⟨k,e⟩
   have R2:LaidR t (a.setIfInBounds j (aa c.length)) (c++[h]):=λx k e=>by
    rw[Array.getElem?_setIfInBounds]at e;by_cases d:j=x
    .subst d;rw[if_pos rfl,if_pos ∅]at e;cases e;exact⟨h,by simp,n,r,λm i=>grow _ (v m i)⟩
    .rw[if_neg d]at e;obtain⟨D,u,y,F,E⟩:=R x k e;have w:k<c.length:=(c9.mp u).1;exact⟨D,by rw[iP w];exact u,y,F,λm i=>grow _ (E m i)⟩
   have p:Laid t.mask (a.setIfInBounds j (aa c.length)) (c++[h]).length:=by rw[c0];exact L2
   obtain⟨b,e,I,H⟩:=z (c++[h]) _ p R2 (by simp;lia);refine⟨b,?_,by simpa using I,by simpa using H⟩;rw[kM];show l.foldl _ ((pr t.mask a (qR t.mask) (et h % (t.mask+1)) (et h)).bind λj=>aa (a.setIfInBounds j (aa c.length),c.length+1))=_;rw[s];have f:=e;rw[lG]at f;rw[c0]at f;exact f
 obtain⟨b,e,L,R⟩:=o g.toList [] (Array.replicate (t.mask+1) ae) ⟨by simp,by simp⟩ (λj k e=>by
  rw[Array.getElem?_replicate]at e;split at e <;> cases e) (by simp;lia)
 refine⟨b,?_,by simpa using L,by simpa using R⟩;rw[<-Array.foldl_toList];have f:=congrArg (Option.map (·.1)) e;exact f
theorem laid_tp{mask:Nat}(finger moves:Nat)(led plain:Bool){q:Nat}(Q:mask+1=2^q)(O:mask∈[7,31,127,511,2047,8191])(b:Array (Int×ai))(P:b.size*5<mask*3):∃t c,C3 mask finger moves led plain (b.map (·.1))=aa (t,c)/\t.led=led/\t.plain=plain/\t.mask=mask/\t.moves=moves/\(c.filterMap (b[·]?)).toList.Perm b.toList/\TPl t ((c.filterMap (b[·]?)).toList.map (·.1)):=by
 let t0:ce:={mask:=mask,place:=#[],dummies:=#[],finger:=finger,led:=led,moves:=moves,plain:=plain}
 obtain⟨a,e,L,R⟩:=layClean_ok2 t0 (q:=q) Q (b.map (·.1)) (by show(b.map _).size<=mask;simp;lia)
 let live:=(cq (mask+1)).filterMap λj=>(a.getD j ae).map (j,·)
 let t:ce:={mask:=mask,place:=(live.map (·.1)).toArray,dummies:=#[],finger:=finger,led:=led,moves:=moves,plain:=plain}
 have X:C3 mask finger moves led plain (b.map (·.1))=aa (t,(live.map (·.2)).toArray):=by unfold C3;have e':C4 mask (b.map (·.1))=aa a:=e;rw[e'];rfl
 have g:∀x:Nat×Nat,x∈live↔x.1<mask+1/\a[x.1]?=aa (aa x.2):=λx=>by
  show x∈(cq (mask+1)).filterMap _↔_;rw[IR];constructor
  .rintro⟨j,z,e⟩;have u:j<a.size:=by rw[L.1];exact kK.mp z
   rw[wn,i9 u]at e;simp only[zW,mK]at e;obtain⟨k,Z,rfl⟩:=e;exact⟨kK.mp z,by rw[i9 u,Z]⟩
  .rintro⟨H,E⟩;exact⟨x.1,kK.mpr H,by rw[wn,E];rfl⟩
 have Y:live.map (·.2)=a.toList.filterMap id:=by
  show((cq (mask+1)).filterMap _).map _=_;rw[Jv];have:a.toList=(cq (mask+1)).map λj=>a.getD j ae:=by
   refine t8 λi=>?_;rw[g_];by_cases D:i<mask+1
   .rw[zA D];simp[wn,show i<a.size by rw[L.1];exact D]
   .rw[mP (by rw[fP,L.1];show mask+1<=i;lia),mP (by simpa using D)];rfl
  rw[this,List.filterMap_map];refine fm_congr' λj _=>?_;show Option.map (λx=>x.snd) (Option.map (λx=>(j,x)) (a.getD j ae))=a.getD j ae;cases a.getD j ae <;> rfl
 have f:(live.map (·.2)).Perm (cq b.size):=by rw[Y];have:=L.2;simpa using this
 have a9:∀k∈live.map (·.2),k<b.size:=λk w=>kK.mp (f.mem_iff.mp w);have s:∀l:List (Nat×Nat),(∀x∈l,x.2<b.size)->((l.map (·.2)).filterMap (b[·]?)).map (·.1)=l.map λx=>((b[x.2]?).map (·.1)).getD 0:=by
  intro l
  induction l with
  |nil=>intro _;rfl
  |cons x r N=>intro h;have d:=h x (eC ..);rw[cS,mz,i9 d];dsimp only;rw[cS,cS,N λy C=>h y (dy _ C),i9 d];rfl
 have I:∀x∈live,x.2<b.size:=λx d=>a9 _ (bH.mpr ⟨x,d,rfl⟩);have o:(((live.map (·.2)).toArray).filterMap (b[·]?)).toList=(live.map (·.2)).filterMap (b[·]?):=by simp
 have M:((live.map (·.2)).filterMap (b[·]?)).Perm b.toList:=by have:=f.filterMap (b[·]?);rwa[filterMap_getElem?_range]at this
 have p:live.length=b.size:=by have:=f.length_eq;simpa using this
 have B:∀x,Occ a x->x∈t.place.toList:=λx ⟨k,w⟩=>by
  show x∈(live.map (·.1)).toArray.toList;have d:x<mask+1:=by have:=(mL.mp w).1;rw[L.1]at this;exact this
  exact bH.mpr ⟨(x,k),(g _).mpr ⟨d,w⟩,rfl⟩
 refine⟨t,_,X,rfl,rfl,rfl,rfl,by rw[o];exact M,⟨⟨rfl,?_,λj z=>?_,O,?_⟩,?_,λx d=>?_⟩⟩
 .show(live.map (·.1)).Pairwise (· < ·);have A:(live.map (·.1)).Sublist (cq (mask+1)):=by
   show(((cq (mask+1)).filterMap _).map _).Sublist _;rw[Jv];refine fm_sub _ λj k e=>?_;rw[Option.map_map]at e;cases q:a.getD j ae with
   |none=>rw[q]at e;cases e
   |some v=>rw[q]at e;exact(c8 e).symm
  exact List.pairwise_lt_range.sublist A
 .have u:j∈live.map (·.1):=z;obtain⟨x,d,rfl⟩:=bH.mp u;exact Nat.le_of_lt_succ ((g x).mp d).1
 .show(live.map (·.1)).toArray.size*5<mask*3;simp[p];exact P
 .rw[o];show(live.map (·.1)).toArray.size=_;rw[s live I];simp
 .rw[o,s live I]at d;have G:x∈(live.map (·.1)).zip (live.map λx=>((b[x.2]?).map (·.1)).getD 0):=d;rw[List.zip_map']at G;obtain⟨y,C,rfl⟩:=bH.mp G;obtain⟨H,E⟩:=(g y).mp C;obtain⟨h,W,n,T,S⟩:=R _ _ E;have F:((b[y.2]?).map (·.1))=aa h:=by have:(b.map (·.1)).toList[y.2]?=aa h:=W;simpa using this
  show Rch t t.place.toList y.1 (((b[y.2]?).map (·.1)).getD 0);rw[F];have K:t0.mask=t.mask:=rfl;refine Rch.up (t:=t0) K (λx d=>d) ⟨n,T,λm J=>B _ (S m J)⟩
where
 fm_congr' {α β:Type}{f g:α->Option β}:∀{l:List α},(∀k∈l,f k=g k)->l.filterMap f=l.filterMap g
  |[],_=>rfl
  |x::l,h=>by rw[mz,mz,h x (eC ..),fm_congr' λk hk=>h k (dy _ hk)]
 fm_sub {f:Nat->Option Nat}:∀(l:List Nat),(∀j k,f j=aa k->k=j)->(l.filterMap f).Sublist l
  |[],_=>.slnil
  |x::l,h=>by
   rw[mz];cases q:f x with
   |none=>exact(fm_sub l h).cons _
   |some k=>rw[h x k q];exact(fm_sub l h).cons₂ _
section
variable{P:aO}{w:aG}{A:aR}{E:ai->ao->Prop}{s:ao}
structure Keyd(P:aO)(w:aG)(K:Type)[DecidableEq K] where
 is:az->K->ai->Prop
 hash:K->Int
 room:aR->Prop
 keep:∀{h h':az}{k:K}{v:ai},is h k v->(∀b o,h.get? b=aa o->o.cls=.type "tuple"->h'.get? b=aa o)->is h' k v
 ref:∀{h:az}{k:K}{v:ai},is h k v->∃a o,v=.ref a/\h.get? a=aa o
 eqBool:∀{A:aR}{E:ai->ao->Prop}{s:ao}{x y:K}{u v:ai}{Q:Bool->ao->Prop},room A->is s.heap x u->is s.heap y v->Q (decide (x=y)) s->ar (aw P w) A (PySem.eqBool u v) Q E s
 quiet:∀{A:aR}{E:ai->ao->Prop}{s:ao}{k:K}{v:ai}{Q:Bool->ao->Prop},is s.heap k v->Q ag s->ar (aw P w) A (wq 8 v) Q E s
 cls:∀{A:aR}{E:ai->ao->Prop}{s:ao}{k:K}{v:ai}{Q:Bool->ao->Prop},is s.heap k v->Q am s->ar (aw P w) A (wt 8 v) Q E s
 hbv:∀{A:aR}{E:ai->ao->Prop}{s:ao}{k:K}{v:ai}{Q:Bool->ao->Prop},is s.heap k v->Q am s->ar (aw P w) A (wu 8 v) Q E s
variable{K:Type}[DecidableEq K]{kd:Keyd P w K}
def Els(kd:Keyd P w K)(h:az)(a:List (Int×ai))(ks:List K):Prop:=a.length=ks.length/\∀q∈a.zip ks,q.1.1=kd.hash q.2/\kd.is h q.2 q.1.2
theorem seen_not{x:ai}{k:K}(h:kd.is s.heap k x):∀(c:List ai),(∀y∈c,∃k,kd.is s.heap k y)->∀{Q:Bool->ao->Prop},Q am s->ar (aw P w) A (JH x c) Q E s:=by
 intro c m Q q;unfold JH;refine aq ?_;refine wv _ (λrest r f=>r.1=ae/\f=s/\∀y∈rest,∃k,kd.is s.heap k y) _ ?_ ?_ _ _ ⟨rfl,rfl,m⟩
 .rintro y rest r f ⟨i,rfl,j⟩;obtain⟨v,d⟩:=j y eC;have next:∀z,z=(ForInStep.yield ((ae:Option Bool),()):ForInStep (Option Bool×Unit))->(∃l,z=ForInStep.yield l/\l.1=ae):=λz e=>⟨_,e,rfl⟩
  obtain⟨a,o,rfl,B⟩:=kd.ref h;obtain⟨b,u,rfl,C⟩:=kd.ref d;dsimp only;split
  .exact aC ⟨rfl,rfl,λz g=>j z (dy _ g)⟩
  .refine aq (kd.quiet h ?_);simp only[n5,eX,if_false];refine aq (kd.quiet d ?_);simp only[n5,eX,if_false];refine aq (kd.cls h ?_);simp only[eX,if_false];refine aq (kd.cls d ?_);simp only[eX,if_false];exact aC ⟨rfl,rfl,λz g=>j z (dy _ g)⟩
 .rintro⟨p,n⟩ f ⟨i,rfl,_⟩;simp only at i;subst i;exact aC q
theorem search_eq(a:af)(x:ai)(h:Int)(b:Bool)(l:Nat)(c:Option ki):ud a x h b (l+1) c=(do
  let (es,_,t) <-setState a
  if t.gaveWay then lK "set:on-a-table-that-gave-way"
  let aa met:=t.probe (λi=>(es[i]?.map (·.1)).getD 0) h (c.getD (t.probeStart h))|lK "internal:set-table-without-an-empty-slot"
  match met with
  |.empty j f=>
   match f with
   |none=>return .free j am
   |some d=>
    if b&&t.slot d != .dummy then rule "set.search.the-dummy-was-taken";return <-ud a x h b l ae
    return .free d ag
  |.candidate j i next=>
   if !t.led then
    if <-JH x ((es.filter (·.1 == h)).toList.map (·.2))then lK "set:the-search-would-show-the-table"
   let aa (_,y):=es[i]?|lK "internal:set-entry"
   let equal <-lA [y] (eqBool y x)
   let (es',_,t') <-setState a
   if b&&equal then return .there ae
   let aa same:=t'.sameMemory t.moves t.mask|lK "set.changed-during-lookup:is-the-new-block-at-the-old-address"
   let still <-match (if same then t'.slot j else .empty)with
    |.live g=>match es'[g]? with
     |some (_,m)=>do pure (if <-isSame m y then aa g else ae)
     |none=>pure ae
    |_=>pure ae
   match still with
   |none=>rule "set.search.anew";ud a x h b l ae
   |some g=>if equal then return .there (aa g)else ud a x h b l (aa next)):=rfl
theorem same_self{a:af}{o:Obj}{Q:Bool->ao->Prop}(h:s.heap.get? a=aa o)(q:Q ag s):ar (aw P w) A (isSame (.ref a) (.ref a)) Q E s:=by unfold isSame;dsimp only;rw[if_pos (by simp)];exact aC q
theorem live_at{t:ce}(ok:TOk t){i:Nat}(a:i<t.place.size):t.slot t.place[i]=.live i:=by
 rcases slot_of ok.dm ok.ris t.place[i]with⟨e,_⟩|⟨i',e1,e2⟩
 .exact absurd (by simp) e
 .rw[e2];obtain⟨b,c⟩:=mL.mp e1;have:i'=i:=by
   rcases Nat.lt_trichotomy i' i with z|z|z
   .have:=ua.mp ok.ris i' i (by simpa using b) (by simpa using a) z;simp at this;lia
   .exact z
   .have:=ua.mp ok.ris i i' (by simpa using a) (by simpa using b) z;simp at this;lia
  rw[this]
theorem searchV{a:af}{d:Array (Int×ai)}{ep:Nat}{t:ce}{ks:List K}{k:K}{x:ai}(hr:kd.room A)(W:s.heap.get? a=aa {cls:=.type "set",dict:=ae,data:=.set d ep t})(Z:t.fits d.size=ag)(T:TPl t (d.toList.map (·.1))) (f:Els kd s.heap d.toList ks) (M:kd.is s.heap k x) {N:Nat} (I:(pth t N (t.probeStart (kd.hash k))).j∉t.place.toList) (hb:∀m,m<N->(pth t m (t.probeStart (kd.hash k))).j∈t.place.toList) (hN:N<10*(t.mask+15)){Q:SetFound->ao->Prop} (q1:k∈ks->Q (.there ae) s) (q2:k∉ks->Q (.free (pth t N (t.probeStart (kd.hash k))).j am) s):∀(C m:Nat) (c:Option ki),N-m<C->m<=N->c.getD (t.probeStart (kd.hash k))=pth t m (t.probeStart (kd.hash k)) -> (∀j i g,j<m->t.slot (pth t j (t.probeStart (kd.hash k))).j=.live i->ks[i]?=aa g->g≠k)->ar (aw P w) A (ud a x (kd.hash k) ag C c) Q E s
 |0,m,c,h,_,_,_=>absurd h (nX _)
 |C+1,m,c,h1,h2,h3,h4=>by
  rw[search_eq];refine aq (lI W rfl Z ?_);dsimp only;have hg:t.gaveWay=am:=by unfold SetTable.gaveWay;have:=T.ok.most.2.2;simp[this]
  rw[hg];simp only[eX,if_false];have dW:∀i j,t.place[i]?=aa j->∃(q:Int×ai) (g:K),d[i]?=aa q/\ks[i]?=aa g/\q.1=kd.hash g/\kd.is s.heap g q.2:=λi j Y=>by
   have a9:i<d.size:=by have:=(mL.mp Y).1;have:=T.len;simp at this;lia
   have F:i<ks.length:=by have:=f.1;simp at this;lia
   refine⟨d[i],ks[i],i9 a9,eF F,?_⟩;exact f.2 (d[i],ks[i]) (o_ (i:=i) (by rw[zJ];exact⟨by simp[a9],by simp[F]⟩))
  rcases go_met T.ok.dm T.ok.ris (λi=>((d[i]?).map (·.1)).getD 0) (kd.hash k) (10*qR t.mask) (N-m) (pth t m (t.probeStart (kd.hash k))) (by unfold qR;lia) (pth_dummy t m _)
    (by rw[<-pth_add,show m+(N-m)=N by lia];exact I) (λj hj=>by rw[<-pth_add];exact hb _ ∅)with⟨g1,g2⟩|⟨n,i,g1,g2,g3,g4,g5,g6⟩
  .have e1:t.probe (λi=>((d[i]?).map (·.1)).getD 0) (kd.hash k) (c.getD (t.probeStart (kd.hash k)))=aa (.empty (pth t N (t.probeStart (kd.hash k))).j ae):=by
    rw[h3];show wp t _ _ _ _=_;rw[g1,<-pth_add,show m+(N-m)=N by lia]
   rw[e1];refine aC (q2 λu=>?_);obtain⟨i,Y,ek⟩:=nZ u;have o:i<t.place.size:=by have:=T.len;have:=f.1;simp at *;lia
   obtain⟨q,g,J,B,e4,e5⟩:=dW i _ (i9 o);have ek':g=k:=by rw[eF Y,ek]at B;exact(c8 B).symm
   subst ek';obtain⟨n,L,r2⟩:=T.rch (t.place[i],q.1) (o_ (i:=i) (by rw[zJ];exact⟨by simp[o],by rw[g_,nN,J];rfl⟩));rw[e4]at L r2;have gR:t.place[i]∈t.place.toList:=by simp
   have hnN:n<N:=by
    rcases Nat.lt_trichotomy n N with z|z|z
    .exact z
    .subst z;rw[L]at I;exact absurd gR I
    .exact absurd (r2 N z) I
   have pK:t.slot (pth t n (t.probeStart (kd.hash g))).j=.live i:=by rw[L];exact live_at T.ok o
   by_cases v:n<m
   .exact h4 n i g v pK B rfl
   .have:=g2 (n-m) i ∅ (by rw[<-pth_add,show m+(n-m)=n by lia,L];exact i9 o) (by rw[<-pth_add,show m+(n-m)=n by lia];exact pK);exact this (by rw[J];exact e4)
  .rw[<-pth_add]at g2 g3;have e1:t.probe (λi=>((d[i]?).map (·.1)).getD 0) (kd.hash k) (c.getD (t.probeStart (kd.hash k)))=aa (.candidate (pth t (m+n) (t.probeStart (kd.hash k))).j i (pth t (m+n+1) (t.probeStart (kd.hash k)))):=by rw[h3];show wp t _ _ _ _=_;rw[g5,<-pth_add,<-pth_add,zM]
   rw[e1];dsimp only;obtain⟨q,g,J,B,e4,e5⟩:=dW i _ g2;have rest:ar (aw P w) A (do
     let aa (_,y):=d[i]?|lK "internal:set-entry"
     let equal <-lA [y] (PySem.eqBool y x)
     let (es',_,t') <-setState a
     if ag&&equal then return .there ae
     let aa same:=t'.sameMemory t.moves t.mask|lK "set.changed-during-lookup:is-the-new-block-at-the-old-address"
     let still <-match (if same then t'.slot (pth t (m+n) (t.probeStart (kd.hash k))).j else .empty)with
      |.live l=>match es'[l]? with
       |some (_,y')=>do pure (if <-isSame y' y then aa l else ae)
       |none=>pure ae
      |_=>pure ae
     match still with
     |none=>rule "set.search.anew";ud a x (kd.hash k) ag C ae
     |some l=>if equal then return .there (aa l)else ud a x (kd.hash k) ag C (aa (pth t (m+n+1) (t.probeStart (kd.hash k))))) Q E s:=by
    rw[J];dsimp only;refine aq (iM (kd.eqBool hr e5 M ?_));refine aq (lI W rfl Z ?_);dsimp only;by_cases v:g=k
    .rw[decide_eq_true v];simp only[Bool.and_self,if_true];exact aC (q1 (by subst v;exact o_ B))
    .rw[decide_eq_false v];simp only[zC,eX,if_false];have O:t.sameMemory t.moves t.mask=aa ag:=by unfold SetTable.sameMemory;simp
     rw[O];dsimp only;rw[if_pos rfl,g3];dsimp only;rw[J];dsimp only;obtain⟨b,ob,eb,S⟩:=kd.ref e5;rw[eb];refine aq (same_self S ?_);rw[if_pos rfl];refine aq (aC ?_);dsimp only;refine searchV hr W Z T f M I hb hN q1 q2 C (m+n+1) _ ∅ ∅ rfl λj l p hj r u=>?_;by_cases c1:j<m
     .exact h4 j l p c1 r u
     .by_cases c2:j=m+n
      .subst c2;rw[g3]at r;injection r with z;subst z;rw[B]at u;cases u;exact v
      .intro z;subst z;have mZ:t.slot (pth t (j-m) (pth t m (t.probeStart (kd.hash p)))).j=.live l:=by rw[<-pth_add,show m+(j-m)=j by lia];exact r
       have:=g6 (j-m) l ∅ mZ;rcases slot_of T.ok.dm T.ok.ris (pth t j (t.probeStart (kd.hash p))).j with⟨_,y⟩|⟨i2,y1,y2⟩
       .rw[r]at y;cases y
       .rw[r]at y2;injection y2 with z2;subst z2;obtain⟨xn,k2,f2,f3,f4,f5⟩:=dW l _ y1;rw[u]at f3;cases f3;exact this (by rw[f2];exact f4)
   cases hl:t.led with
   |true=>simp only[n5,eX,if_false];exact rest
   |false=>
    simp only[ww,if_true];refine aq (seen_not (kd:=kd) M _ (λy hy=>?_) ?_)
    .obtain⟨e,H,rfl⟩:=bH.mp hy;have he2:e∈d.toList:=by rw[Array.toList_filter]at H;exact(ka.mp H).1
     obtain⟨D,G,e6⟩:=nZ he2;have X:D<ks.length:=by rw[<-f.1];exact G
     exact⟨ks[D],by have:=(f.2 (d.toList[D],ks[D]) (o_ (i:=D) (by rw[zJ];exact⟨eF G,eF X⟩))).2;rw[e6]at this;exact this⟩
    .simp only[eX,if_false];exact rest
end
section
variable{P:aO}{w:aG}{A:aR}{E:ai->ao->Prop}{s:ao}{K:Type}[DecidableEq K]
def elV(a:Keyd P w K)(p:K×ai):Int×ai:=(a.hash p.1,p.2)
structure SetV(kd:Keyd P w K)(h:az)(a:af)(ps:List (K×ai)):Prop where
 ex:∃(es:Array (Int×ai)) (ep:Nat) (t:ce) (qs:List (K×ai)),h.get? a=aa {cls:=.type "set",dict:=ae,data:=.set es ep t}/\qs.Perm ps/\es.toList=qs.map (elV kd)/\es.size<4090/\TPl t (es.toList.map (·.1))/\t.led=(!d_ w)/\(ps≠[]->t.plain=am)
variable{kd:Keyd P w K}
theorem SetV.at{h c:az}{a:af}{b:List (K×ai)}(S:SetV kd h a b)(k:∀o,h.get? a=aa o->c.get? a=aa o):SetV kd c a b:=by obtain⟨es,ep,t,d,e,r⟩:=S.ex;exact⟨es,ep,t,d,k _ e,r⟩
theorem TPl.fits{t:ce}{a:List Int}(T:TPl t a){n:Nat}(b:n=a.length):t.fits n=ag:=by unfold SetTable.fits SetTable.fill;have:=T.len;have:=T.ok.roomy;rw[T.ok.dm];simp;lia
def addV(a:List (K×ai))(p:K×ai):List (K×ai):=if p.1∈a.map (·.1)then a else a++[p]
theorem relay_eq(a:af)(b:Nat):setRelay a b=(do
  let (es,_,t) <-setState a
  if Jo b > bn then lK "set:memory"
  let (es,t) <-(do
   let aa (t,order):=t.relaid (es.map (·.1)) b|lK "internal:set-table-without-room"
   let es':=order.filterMap (es[·]?)
   if es'.size != es.size then lK "internal:set-table-lost-an-element"
   pure (es',t))
  storeSet a es t):=rfl
theorem grow_ok{mask n:Nat}(b:mask∈[7,31,127,511,2047,8191])(f:(n-1)*5<mask*3)(d:mask*3<=n*5)(c:n<4090):∃a q,Jo (nU n)=a+1/\a+1=2^q/\a∈[7,31,127,511,2047,8191]/\n*5<a * 3/\a+1<=bn:=by
 simp only[bo,hG,or_false]at b;rcases b with e|e|e|e|e|e <;> subst e
 .obtain rfl:n=5:=∅
  exact⟨31,5,by decide,rfl,by decide,by decide,by decide⟩
 .obtain rfl:n=19:=∅
  exact⟨127,7,by decide,rfl,by decide,by decide,by decide⟩
 .obtain rfl:n=77:=∅
  exact⟨511,9,by decide,rfl,by decide,by decide,by decide⟩
 .obtain rfl:n=307:=∅
  exact⟨2047,11,by decide,rfl,by decide,by decide,by decide⟩
 .obtain rfl:n=1229:=∅
  exact⟨8191,13,by decide,rfl,by decide,by decide,by decide⟩
 .lia
theorem els_of{h:az}{c:List (Int×ai)}{a:List (K×ai)}(e:c=a.map (elV kd))(f:∀p∈a,kd.is h p.1 p.2):Els kd h c (a.map (·.1)):=by subst e;refine⟨by simp,λq b=>?_⟩;rw[List.zip_map']at b;obtain⟨p,d,rfl⟩:=bH.mp b;exact⟨rfl,f p d⟩
theorem set_addV{a:af}{B:List (K×ai)}{k:K}{x:ai}{Q:Bool->ao->Prop}(hr:kd.room A)(S:SetV kd s.heap a B)(hk:∀p∈B,kd.is s.heap p.1 p.2)(X:kd.is s.heap k x)(hn:B.length<4000)(h:∀o b,kb a s.heap o->SetV kd o a (addV B (k,x))->Q b {s with heap:=o}):ar (aw P w) A (C5 a x (kd.hash k)) Q E s:=by
 obtain⟨f,ep,t,D,Z,hp,kq,hsz,T,lO,cV⟩:=S.ex;have hqk:∀p∈D,kd.is s.heap p.1 p.2:=λp hq=>hk p (hp.mem_iff.mp hq);have els:=els_of kq hqk;have bt:f.size=B.length:=by have e1:=congrArg qD kq;have v:=hp.length_eq;simp at e1;lia
 have hf:t.fits f.size=ag:=T.fits (by simp);have l:k∈D.map (·.1)↔k∈B.map (·.1):=(hp.map (·.1)).mem_iff;obtain⟨u,ox,rfl,hox⟩:=kd.ref X;unfold C5 setAddHashedIn;refine iM (aq (lI Z rfl hf ?_));dsimp only;have hbs:byScan (.ref u) f=am:=by unfold byScan;simp[Value.scannable]
 rw[hbs];simp only[eX,if_false];obtain⟨N0,hN0,hE0⟩:=pth_empty T.ok (kd.hash k);obtain⟨N,hN,hE,hB⟩:=least (p:=λn=>(pth t n (t.probeStart (kd.hash k))).j∉t.place.toList) N0 hE0;have hB':∀m,m<N->(pth t m (t.probeStart (kd.hash k))).j∈t.place.toList:=λm hm=>Classical.not_not.mp (hB m hm);have h8:=T.ok.most.1;unfold setSearch;refine aq (searchV hr Z hf T els X hE hB' ∅ (λgR=>?_) (λKa=>?_) 100000 0 ae ∅ (kg _) rfl λj i k' hj=>absurd hj (nX _))
 .refine aC (h s.heap _ (Jp a s.heap) ?_);unfold addV;rw[if_pos (l.mp gR)];exact S
 .dsimp only;refine aq (lI Z rfl hf ?_);dsimp only;have a9:=start_le t (kd.hash k) N;obtain⟨p1,p2,p3,W,I,O,M⟩:=put_tp T (kd.hash k) hE hB' a9;have G:(t.put (pth t N (t.probeStart (kd.hash k))).j).1.led=t.led:=rfl;have Y:(t.put (pth t N (t.probeStart (kd.hash k))).j).2<=f.size:=by
   have:=(below_ok T.ok.ris (pth t N (t.probeStart (kd.hash k))).j).1;have e:t.place.size=f.size:=by have:=T.len;simpa using this
   rw[<-e];exact this
  generalize hPut:t.put (pth t N (t.probeStart (kd.hash k))).j=TP at p1 p2 p3 W I O M G Y ⊢;obtain⟨J,g⟩:=TP;dsimp only at p1 p2 p3 W I O M G Y ⊢;have Eg:(qK f g (kd.hash k,.ref u)).toList=(D.take g++(k,.ref u)::D.drop g).map (elV kd):=by rw[ins_list,kq,mM,cS,List.map_take,List.map_drop];rfl
  have hhs:(qK f g (kd.hash k,.ref u)).toList.map (·.1)=(f.toList.map (·.1)).take g++kd.hash k::(f.toList.map (·.1)).drop g:=by rw[ins_list,mM,cS,List.map_take,List.map_drop]
  have pL:(D.take g++(k,Value.ref u)::D.drop g).Perm (addV B (k,.ref u)):=by unfold addV;rw[if_neg (λz=>Ka (l.mpr z))];refine Dx.trans ?_;rw[nP];exact(hp.cons _).trans (List.perm_append_singleton _ _).symm
  have Ea:(qK f g (kd.hash k,.ref u)).size=f.size+1:=by rw[<-fP,ins_list];simp;lia
  have bY:addV B (k,Value.ref u)≠[]:=by unfold addV;rw[if_neg (λz=>Ka (l.mpr z))];simp
  rw[<-hhs]at O M;generalize hes2:qK f g (kd.hash k,Value.ref u)=es1 at Eg hhs Ea O M ⊢;have C:∀c:ce,c={J with plain:=am}->ar (aw P w) A (do
    storeSet a es1 c
    if(!am&&c.tooFull)=ag then do
      setRelay a (nU (f.size+1))
      pure ag
     else pure ag) (λr s'=>∃o,r=ag/\s'={s with heap:=o}/\kb a s.heap o/\SetV kd o a (addV B (k,.ref u))) E s:=by
   intro c v;have fV:c.led=(!d_ w):=by rw[v];exact G.trans lO
   have cW:c.plain=am:=by rw[v]
   have d1:c.dummies=#[]:=by rw[v];exact p1
   have d2:c.place=J.place:=by rw[v]
   have d3:c.mask=J.mask:=by rw[v]
   have L:∀q∈c.place.toList.zip (es1.toList.map (·.1)),Rch c c.place.toList q.1 q.2:=λq hq=>by rw[d2]at hq ⊢;exact(M q hq).up d3.symm λx X=>X
   have D7:c.fill=f.size+1:=by unfold SetTable.fill;rw[d1,d2,I];have:=T.len;simp at this ⊢;lia
   have J5:c.mask∈[7,31,127,511,2047,8191]:=by rw[d3,W];exact T.ok.sz
   have TZ:c.fits es1.size=ag:=by unfold SetTable.fits;rw[D7,Ea,d2,I];have h1:=T.len;have h2:=T.ok.roomy;have h3:=T.ok.most.2.1;simp at h1 ⊢;rw[d3,W];lia
   refine aq (C7 Z rfl ?_ (C8 (tP (show es1.size<4090 by lia) (by decide))));have o1:=j9.put (es':=es1) (t':=c) Z;have iS:=ph s.heap a (Obj.putSet es1 c);by_cases F:c.tooFull=ag
   .rw[F];simp only[ww,Bool.and_self,if_true];have TL:c.mask*3<=(f.size+1)*5:=by unfold SetTable.tooFull at F;rw[D7]at F;simpa using F
    have H:(f.size+1-1)*5<c.mask*3:=by have h1:=T.len;have h2:=T.ok.roomy;simp at h1;rw[d3,W];lia
    obtain⟨m',q,g1,g2,g3,g4,g5⟩:=grow_ok J5 H TL ∅;rw[relay_eq];refine aq (aq (lI o1 rfl TZ ?_));dsimp only;rw[g1,if_neg ∅];obtain⟨t3,d,f1,f2,f3,f4,f5,f6,f7⟩:=laid_tp (mask:=m') c.finger (c.movedTo m') c.led c.plain g2 g3 es1 ∅;have er:c.relaid (es1.map (·.1)) (nU (f.size+1))=aa (t3,d):=by unfold SetTable.relaid;rw[g1];exact f1
    rw[er];dsimp only;have Ah:(d.filterMap (es1[·]?)).size=es1.size:=by have:=f6.length_eq;rwa[fP,fP]at this
    refine aq ?_;rw[if_neg (by rw[Ah];simp)];refine aC ?_;dsimp only;obtain⟨y,r1,r2⟩:∃y:List (K×ai),(d.filterMap (es1[·]?)).toList=y.map (elV kd)/\y.Perm (D.take g++(k,Value.ref u)::D.drop g):=by rw[Eg]at f6;exact perm_mapE f6
    refine C7 o1 rfl ?_ (C8 (tP (show(d.filterMap (es1[·]?)).size<4090 by lia) (by decide)));refine aC ⟨_,rfl,rfl,iS.trans (ph _ a _),⟨_,_,t3,y,j9.put o1,r2.trans pL,r1,∅,f7,f2.trans fV,λ_=>f3.trans cW⟩⟩
   .rw[zL.mpr F];simp only[zC,eX,if_false];have H:c.place.size*5<c.mask*3:=by unfold SetTable.tooFull at F;rw[D7]at F;have h1:=T.len;simp at F h1;rw[d2,I];lia
    refine aC ⟨_,rfl,rfl,iS,⟨es1,_,c,_,o1,pL,Eg,∅,⟨⟨d1,by rw[d2];exact p2,by rw[d2,d3];exact p3,J5,H⟩,?_,L⟩,fV,λ_=>cW⟩⟩;rw[d2,I,O];have:=T.len;lia
  split
  .refine aq (kd.hbv X ?_);simp only[eX,if_false];refine a6 (C _ rfl) λr s' ζ=>?_;obtain⟨o,e1,v,e3,e4⟩:=ζ;subst e1 v;exact h o _ e3 e4
  .rename_i Eb;refine aq (aC ?_);simp only[if_true];refine a6 (C J (by
    have:J.plain=am:=by simpa using Eb
    rw[<-this])) λr s' ⟨o,e1,v,e3,e4⟩=>?_
   subst e1 v;exact h o _ e3 e4
end
section
variable{P:aO}{w:aG}{A:aR}{E:ai->ao->Prop}{s:ao}
theorem tupTy{a:af}{b:Array ai}(h:IsTup s.heap a b):s.TypeIs (.ref a) "tuple":=let ⟨o,ho,hc,_⟩:=h;⟨o,ho,hc⟩
def HsAt(P:aO)(w:aG)(A:aR)(s:ao)(v:ai)(x:Int):Prop :=
 ∀(b:Nat) (E:ai->ao->Prop) (Q:Int->ao->Prop),(∀a,b<=a->Q x {s with toks:=a})->ar (aw P w) A (pyHash v) Q E {s with toks:=b}
theorem hash_tup{a:af}{g:Array ai}{hs:List (ai×Int)}(z:A.units<cLine)(v:IsTup s.heap a g)(D:g.toList=hs.map (·.1))(G:∀p∈hs,HsAt P w A.in1 s p.1 p.2):HsAt P w A s (.ref a) (vR (nE (hs.map (·.2)))):=λl E Q h=>by
 have m:Shared.TypeIs {s with toks:=l} (.ref a) "tuple":=tupTy v;obtain⟨o,C,_,n,H⟩:=v;unfold pyHash
 first|unfold pyHashByItsType|skip
 first|refine aq (wpAny_cRoomFor_or (.inr z) ?_)|skip
 refine aq (v4 m F.slot_tuple_hash.lookup ?_);show ar _ _ (if(aa (Value.builtin "tuple.__hash__") == aa Value.none)=ag then _ else _) Q E _;rw[if_neg (by rw[beq_builtin_none];exact eP)];refine aq (v4 m F.slot_tuple_hash.lookup ?_);show ar _ _ (callSpecialIfBoundUnlessNone? (.ref a) "__hash__" _ >>= _) Q E _;refine aq (wpAny_callSpecialIfBoundUnlessNone?_slot m Tz (mH Tz m F.entry_tuple_hash ?_ (F.args_tuple_hash_1 _)));show ar _ _ (Jd (.ref a) >>= _) _ _ _;refine aq (wpAny_tupleItemsOf (s:={s with toks:=l}) C H ?_);refine aq ?_;rw[<-Dy,D];refine wv _
  (λrest (b:Array Int) u=>∃d c f,hs=d++c/\rest=c.map (·.1)/\b.toList=d.map (·.2)/\l<=f/\u={s with toks:=f})
  _ ?_ ?_ _ _ ⟨[],hs,l,rfl,rfl,rfl,a8 _,rfl⟩
 .rintro x rest b u ⟨d,c,f,rfl,j,r,B,rfl⟩;cases c with
  |nil=>cases j
  |cons p c=>
   rw[cS]at j;injection j with h1 y;subst h1 y;refine aq (G p (by simp) f _ _ λi y=>?_)
   first
    |exact aC ⟨d++[p],c,i,by simp,rfl,by simp[r],∅,rfl⟩
    |exact aq (aC (aC ⟨d++[p],c,i,by simp,rfl,by simp[r],∅,rfl⟩))
 .rintro b u ⟨d,c,f,rfl,j,r,B,rfl⟩;have:c=[]:=by cases c with|nil=>rfl|cons=>cases j
  subst this;rw[fQ]at h;show ar _ _ (retInt (nE b.toList)) _ _ _;rw[r];refine wpAny_ret_mkInt ?_;show ar _ _ (if(decide (-(2:Int)^63<=nE (d.map (·.2)))&&decide (nE (d.map (·.2))<2^63))=ag then _ else _) Q E _;unfold vR at h;by_cases q:(decide (-(2:Int)^63<=nE (d.map (·.2)))&&decide (nE (d.map (·.2))<2^63))=ag
  .rw[if_pos q];rw[if_pos q]at h;exact aC (h _ (by simp;lia))
  .rw[if_neg q];rw[if_neg q]at h;exact aq (mO (aC (h _ (by simp;lia))))
theorem hash_str(z:Str)(t:Tok):HsAt P w A s (.str z t) ((gM P w).hash z):=λa E Q h=>(gM P w).pyHash (s:={s with toks:=a}) (k:=z) (by show qu z (.str z t)=ag;simp[qu]) (h _ (vZ _))
theorem quiet_tup{n:Nat}{a:af}{b:Array ai}{Q:Bool->ao->Prop}(g:IsTup s.heap a b)(q:∀v∈b.toList,∀(E:ai->ao->Prop) (Q:Bool->ao->Prop),Q ag s->ar (aw P w) A (wq n v) Q E s)(h:Q ag s):ar (aw P w) A (wq (n+1) (.ref a)) Q E s:=by
 have f:=tupTy g;obtain⟨o,p,_,m,x⟩:=g;unfold wq;refine aq (v4 f F.slot_tuple_eq.lookup ?_);show ar _ _ (zG (.ref a) (.type "tuple") >>= _) _ _ s;refine aq (Dc f isSubtype_tuple_tuple ?_);simp only[n5,eX,if_false];refine aq (Dd p x ?_);refine aq ?_;show ar _ _ (forIn b _ _) _ _ s;rw[<-Dy];refine wv _ (λrest r c=>r.1=ae/\c=s/\∀v∈rest,v∈b.toList) _ ?_ ?_ _ _ ⟨rfl,rfl,λv l=>l⟩
 .rintro v rest r c ⟨d,rfl,i⟩;refine aq (q v (i v eC) _ _ ?_);simp only[n5,eX,if_false];exact aC ⟨rfl,rfl,λu j=>i u (dy _ j)⟩
 .rintro⟨z,y⟩ c ⟨d,rfl,_⟩;simp only at d;subst d;exact aC h
theorem cls_tup{n:Nat}{a:af}{b:Array ai}{Q:Bool->ao->Prop}(f:IsTup s.heap a b)(q:∀v∈b.toList,∀(E:ai->ao->Prop) (Q:Bool->ao->Prop),Q am s->ar (aw P w) A (wt n v) Q E s)(h:Q am s):ar (aw P w) A (wt (n+1) (.ref a)) Q E s:=by
 have j:=tupTy f;obtain⟨o,p,_,m,x⟩:=f;unfold wt;refine aq (tI j ?_);dsimp only;rw[if_pos (by decide)];refine aq (aC ?_);simp only[n5,eX,if_false];refine aq (Dd p x ?_);dsimp only;refine aq ?_;rw[<-Dy];refine wv _ (λrest r c=>r.1=ae/\c=s/\∀v∈rest,v∈b.toList) _ ?_ ?_ _ _ ⟨rfl,rfl,λv l=>l⟩
 .rintro v rest r c ⟨d,rfl,g⟩;refine aq (q v (g v eC) _ _ ?_);simp only[eX,if_false];exact aC ⟨rfl,rfl,λu i=>g u (dy _ i)⟩
 .rintro⟨z,y⟩ c ⟨d,rfl,_⟩;simp only at d;subst d;exact aC h
theorem hbv_tup{n:Nat}{a:af}{b:Array ai}{Q:Bool->ao->Prop}{pre post:List ai}{x:ai}(f:IsTup s.heap a b)(e:b.toList=pre++x::post)(B:∀v∈pre,∀(E:ai->ao->Prop) (Q:Bool->ao->Prop),Q ag s->ar (aw P w) A (wu n v) Q E s)(l:∀(E:ai->ao->Prop) (Q:Bool->ao->Prop),Q am s->ar (aw P w) A (wu n x) Q E s) (h:Q am s):ar (aw P w) A (wu (n+1) (.ref a)) Q E s:=by
 have j:=tupTy f;obtain⟨o,C,_,m,D⟩:=f;unfold wu;refine aq (v4 j F.slot_tuple_hash.lookup ?_);show ar _ _ (seqItems? (.ref a) >>= _) _ _ s;refine aq (Dd C D ?_);refine aq ?_;show ar _ _ (forIn b _ _) _ _ s;rw[<-Dy,e];refine wv _ (λrest r d=>r.1=ae/\d=s/\∃p,rest=p++x::post/\∀v∈p,v∈pre) _ ?_ ?_ _ _ ⟨rfl,rfl,pre,rfl,λv q=>q⟩
 .rintro v rest r d ⟨z,rfl,p,c,g⟩;cases p with
  |nil=>rw[iy]at c;injection c with h1 h2;subst h1;refine aq (l _ _ ?_);simp only[ww,if_true];exact aC (aC h)
  |cons y p=>rw[zQ]at c;injection c with h1 h2;subst h1;refine aq (B v (g v eC) _ _ ?_);simp only[n5,eX,if_false];exact aC ⟨rfl,rfl,p,h2,λu i=>g u (dy _ i)⟩
 .rintro⟨H,G⟩ d ⟨z,rfl,p,c,_⟩;cases p <;> cases c
theorem tup_uniq{h:az}{a:af}{x y:Array ai}(g:IsTup h a x)(f:IsTup h a y):x=y:=by
 obtain⟨o,e,_,n,d⟩:=g;obtain⟨i,b,_,j,c⟩:=f;rw[e]at b;cases b;rw[d]at c;cases c;rfl
theorem strs_uniq{a:List ai}{x y:List Str}(r:cT a x)(s:cT a y):x=y:=by
 induction r generalizing y with
 |nil=>cases s;rfl
 |cons _ _ _ g=>
  cases s with
  |cons _ _ t=>rw[g t]
theorem all_getD{a b:List Str}:((cq (min a.length b.length)).all (λj=>a.getD j ke == b.getD j ke)&&a.length == b.length)=decide (a=b):=by
 rw[kc,gK,nR,decide_eq_true_iff,beq_iff_eq];constructor
 .rintro⟨g,f⟩;refine List.ext_getElem f λi d c=>?_;have:=g i (kK.mpr ∅);rw[beq_iff_eq]at this;simpa[d,c]using this
 .rintro rfl;exact⟨λx _=>by simp,rfl⟩
theorem strs_len{a:List ai}{b:List Str}(h:cT a b):a.length=b.length:=h.length
theorem eq_strs{b h:af}{c a:Array ai}{i d:List Str}(u:A.units<cLine)(o:IsTup s.heap b c)(f:cT c.toList i)(p:IsTup s.heap h a)(g:cT a.toList d):vY A s (.ref b) (.ref h) (decide (i=d)):=by
 by_cases n:b=h
 .subst n;obtain rfl:=tup_uniq o p;obtain rfl:=strs_uniq f g;rw[decide_eq_true rfl];exact .same _
 .have m:=strs_len f;have l:=strs_len g;rw[fP]at m l;rw[<-all_getD,<-m,<-l];refine .of_refs n (.tuples o p u λj r q=>?_);obtain⟨t,e⟩:=yF j c[j] f (by simp[r]);obtain⟨x,v⟩:=yF j a[j] g (by simp[q]);rw[e,v];exact CS _ _ _ _
theorem tup_kept{h d:az}{a:af}{x:Array ai}(f:IsTup h a x)(k:∀b o,h.get? b=aa o->o.cls=.type "tuple"->d.get? b=aa o):IsTup d a x:=by obtain⟨o,e,c,r⟩:=f;exact⟨o,k a o e c,c,r⟩
theorem strs_pairs{a:List ai}{b:List Str}(h:cT a b):a=(a.zip (b.map (gM P w).hash)).map (·.1)/\(a.zip (b.map (gM P w).hash)).map (·.2)=b.map (gM P w).hash/\∀p∈a.zip (b.map (gM P w).hash),HsAt P w A s p.1 p.2:=by
 induction h with
 |nil=>exact⟨rfl,rfl,λp c=>by simp at c⟩
 |cons z t _ d=>
  obtain⟨i,g,f⟩:=d;rw[cS,zV,cS,cS];refine⟨by rw[<-i],by rw[g],λp c=>?_⟩;rcases bo.mp c with rfl|c
  .exact hash_str z t
  .exact f p c
theorem strs_mem_shape{a:List ai}{b:List Str}(h:cT a b):∀v∈a,∃z t,v=Value.str z t:=λv c=>h.all v c
end
def ltL(a b:List Tx):Bool:=decide (a<b)
theorem ltL_cons(x y:Tx)(xs a:List Tx):ltL (x::xs) (y::a)=if x=y then ltL xs a else decide (x<y):=by
 unfold ltL;by_cases h:x=y
 .subst h;rw[if_pos rfl,kc,decide_eq_true_iff,decide_eq_true_iff,Dz];exact⟨λz=>z.elim (λq=>absurd q (List.lt_irrefl _)) λq=>q.2,λq=>.inr ⟨rfl,q⟩⟩
 .rw[if_neg h,kc,decide_eq_true_iff,decide_eq_true_iff,Dz];exact⟨λz=>z.elim id λq=>absurd q.1 h,.inl⟩
def ordL:KeyOrd where
 α:=List Tx
 blt:=ltL
 irrefl:=λa=>decide_eq_false (List.lt_irrefl a)
 trans:=λa b c f d=>decide_eq_true (List.lt_trans (of_decide_eq_true f) (of_decide_eq_true d))
 negTrans:=λa b c h=>by
  unfold ltL;by_cases g:a<b
  .exact .inl (decide_eq_true g)
  .have i:b<=a:=wx.mp g;exact .inr (decide_eq_true (List.lt_of_le_of_lt i (of_decide_eq_true h)))
 total:=λa b f d=>Jn (wx.mp (of_decide_eq_false d)) (wx.mp (of_decide_eq_false f))
section
open PySem.SeqAt
open PySem.AutoSeq1 (wpAny_loadPart')
open PySem.MeetsSeq PySem.MeetsSeq2 PySem.MeetsSeq3
def cpsL(a:List Str):List Tx:=a.map λz=>z.cps.toList
theorem cps_inj{x y:Str}(h:x.cps.toList=y.cps.toList):x=y:=by rw[<-sC x,<-sC y,h]
theorem tuple_lt_strs(l b:af)(i f:Array ai)(n n2:Nat)(dd X:Option af)(sl S:Array (Option ai))(J K:List Str)(hi:cT i.toList J)(Z:cT f.toList K):Meets (Builtin.«tuple.__lt__» ⟨[.ref l,.ref b],[]⟩) (λ_ R s=>s.heap.get? l=aa {cls:=.type "tuple",dict:=dd,data:=.seq i n,slots:=sl}/\s.heap.get? b=aa {cls:=.type "tuple",dict:=X,data:=.seq f n2,slots:=S} /\ R (.ok (.ret (.bool (ltL (cpsL J) (cpsL K))))) s) :=
 .of_wp λo w A R s h=>by
  obtain⟨F,g,d,v,B⟩:=s;obtain⟨hl,hb,h⟩:=h;have f2:=AutoSeq1.sub_tuple_tuple;have z1:i.size=J.length:=by rw[<-hi.length];simp
  have z2:f.size=K.length:=by rw[<-Z.length];simp
  wp_walk using CM hl,CM hb,wv _ (λrest b T=>b.1=ae/\T=⟨F,g,d,v,B⟩/\∃(I H:List ai) (j m:List Str),rest=I.zip H /\ cT I j/\cT H m/\j.length+f.size=m.length+i.size/\R (.ok (.ret (.bool (ltL (cpsL j) (cpsL m))))) ⟨F,g,d,v,B⟩) _
  case turn=>
   rintro⟨y,x⟩ rest b T ⟨P,rfl,I,H,j,m,p,O,q,G,L⟩;cases O with
   |nil=>rw[List.zip_nil_left]at p;cases p
   |cons a t D=>
    cases q with
    |nil=>rw[List.zip_nil_right]at p;cases p
    |cons c u C=>
     rw[zV]at p;injection p with hyx T0;injection hyx with hy hx;subst hy hx;rename_i vs1 N vs2 M;have r:R (.ok (.ret (.bool (if a.cps.toList=c.cps.toList then ltL (cpsL N) (cpsL M)else decide (a.cps.toList<c.cps.toList))))) ⟨F,g,d,v,B⟩:=by rw[<-ltL_cons];exact L
     simp only[cx]at G;refine aq (EqAt.str_str a t c u o w _ _ ?_);by_cases e:a=c
     .subst e;rw[if_pos rfl]at r;rw[beq_self_eq_true]
      wp_walk
      exact⟨rfl,rfl,_,_,_,_,T0,D,C,∅,r⟩
     .rw[if_neg (λz=>e (cps_inj z))]at r;rw[beq_false_of_ne e];have W:∀(E:ai->ao->Prop) (Q:ai->ao->Prop),Q (.bool (decide (a.cps.toList<c.cps.toList))) ⟨F,g,d,v,B⟩->ar (aw o w) A.in1 (richCompare .Lt (.str a t) (.str c u)) Q E ⟨F,g,d,v,B⟩:=λE Q h=>(JI h:ar (aw o w) A.in1 (eE .Lt (.str a t) (.str c u)) Q E _)
      wp_walk using W
      exact⟨_,rfl,by simpa using r⟩
  case fin=>
   rintro⟨b1,b2⟩ T ⟨P,rfl,I,H,j,m,p,O,q,G,L⟩;simp only at P;subst P;have Y:ltL (cpsL j) (cpsL m)=decide (i.size<f.size):=by
    cases O with
    |nil=>
     cases q with
     |nil=>simp only[mJ]at G;exact(decide_eq_false (by simp[cpsL])).trans (decide_eq_false ∅).symm
     |cons c u hw=>simp only[mJ,cx]at G;exact(decide_eq_true (by simp[cpsL])).trans (decide_eq_true ∅).symm
    |cons a t Y=>
     cases q with
     |nil=>simp only[mJ,cx]at G;exact(decide_eq_false (by simp[cpsL])).trans (decide_eq_false ∅).symm
     |cons c u hw=>
      rw[zV]at p;cases p
   rw[Y]at L
   wp_walk
   exact⟨_,rfl,by simpa[Builtin.Tuple.tupleCompareSizes]using L⟩
  case h=>exact⟨rfl,rfl,i.toList,f.toList,J,K,rfl,hi,Z,∅,h⟩
end
section
variable{P:aO}{w:aG}{A:aR}{E:ai->ao->Prop}{s:ao}
theorem lt_tupStrs{l b:af}{c a:Array ai}{d f:List Str}{Q:ai->ao->Prop}(D:IsTup s.heap l c)(H:IsTup s.heap b a)(G:cT c.toList d)(F:cT a.toList f)(C:A.units<cLine) (h:Q (.bool (ltL (cpsL d) (cpsL f))) s):ar (aw P w) A (eE .Lt (.ref l) (.ref b)) Q E s:=by
 obtain⟨⟨J,I,v,z⟩,p,r,n,q⟩:=id D;obtain⟨⟨y,i,j,g⟩,u,m,B,o⟩:=id H;simp only at r q m o;subst r q m o;exact richCompare_meets_room (op:=.Lt) ⟨_,p,rfl⟩ ⟨_,u,rfl⟩ PySem.F.slot_tuple_lt PySem.F.entry_tuple_lt (PySem.F.args_tuple_lt_2 _ _) (tuple_lt_strs l b c a n B I i z g d f G F)
  ⟨p,u,show Value.bool (ltL (cpsL d) (cpsL f))≠Value.notImplemented/\Q (.bool (ltL (cpsL d) (cpsL f))) s from⟨(λx=>nomatch x),h⟩⟩ C
theorem cpsL_inj{x y:List Str}(h:cpsL x=cpsL y):x=y:=by have:=congrArg (List.map tS) h;simpa[cpsL,cJ,qP,sC]using this
theorem sorted_genK{v:ai}{Q:ai->ao->Prop}(hu:A.units+32<cLine)(O:ar (aw P w) A.in1 (collect v) (λa c=>∃(κ:KeyKind) (kz:gk),(∀v∈a,∃k,κ.keyOf v=aa k)/\a.length<=1000000 /\ (∀(D:aR) (f:az),D.units+8<cLine->(∀b o,c.heap.get? b=aa o->f.get? b=aa o)->2<=a.length->gY κ kz P w D {c with heap:=f}/\∀{E:ai->ao->Prop}{Q:gk->ao->Prop},Q kz {c with heap:=f}->ar (aw P w) D (wl a.toArray) Q E {c with heap:=f}) /\ ∀(f:az) (out:Array ai) (e:Nat),(∀b o,c.heap.get? b=aa o->f.get? b=aa o) -> f.get? c.heap.objs.size=aa (gQ "list" out e)->out.toList.Perm a->out.toList.Pairwise (λx y=>∀p q,κ.keyOf x=aa p->κ.keyOf y=aa q->κ.blt q p=am)->Q (.ref c.heap.objs.size) {c with heap:=f}) E s):ar (aw P w) A (call (.builtin "sorted") [v]) Q E s:=by
 refine Calls.call_function_entry kind_sorted plain_sorted entry_sorted (args_sorted1 _) ?_;unfold Builtin.«sorted»;refine aq (m:=checkCount "sorted" 1 1 _) (aC ?_);refine aq (a6 O λa c ζ=>?_);obtain⟨κ,kz,S,I,n,C⟩:=ζ;refine aq (wpAny_newList ?_);have r:(c.heap.push (gQ "list" a.toArray 0)).get? c.heap.objs.size=aa (gQ "list" a.toArray 0):=cD _ rfl;refine aq (iM (mH slot_list_sort ⟨_,r,rfl⟩ entry_list_sort (E4 (κ:=κ) (kz:=kz) r (λp g=>?_) I (λf k T=>n _ f (by simp;lia) (λb o e=>k b o (cR (bz e)) (bD _ e)) T) λd g M=>⟨_,rfl,?_⟩) (args_list_sort _)))
 .have:p.1∈a:=by
   have H:p∈(a.toArray.zip a.toArray).toList:=g;rw[Array.toList_zip]at H;exact vV H |>.1
  exact S _ this
 .obtain⟨e,N⟩:=sortedHeap_at (out:=(arrOf d).map (·.2)) r;have l:(arrOf d).toList.Perm (a.zip a):=by
   have:=Dr.mp g;have e0:(kR a).toList=a.zip a:=by show(a.toArray.zip a.toArray).toList=_;rw[Array.toList_zip]
   rwa[e0]at this
  have same:∀p∈(arrOf d).toList,p.1=p.2:=λp g=>by have:=l.mem_iff.mp g;rw[<-List.map_id a,List.zip_map']at this;obtain⟨x,_,rfl⟩:=bH.mp this;rfl
  have Z:((arrOf d).map (·.2)).toList.Perm a:=by rw[Array.toList_map];have:=l.map (·.2);rwa[JJ (a8 _)]at this
  refine aC ⟨_,rfl,C _ _ e (λb o G=>?_) N Z ?_⟩
  .have n:b<c.heap.objs.size:=bz G;rw[sortedHeap_old (cR n) (by rw[jI];exact kh n)];exact bD _ G
  .rw[Array.toList_map];refine kQ.mpr (ua.mpr λi j F z bM p q L K=>?_);have J:j<(kR a).size:=by rw[<-g.size_eq];simpa using z
   have B:i<(arrOf d).size:=by simpa using F
   have u:j<(arrOf d).size:=by simpa using z
   have h:=M i j (i7 bM) J;rw[sR B,sR u]at h;have Y:=same _ (v8 F);have f2:=same _ (v8 z);have X:kO κ (arrOf d)[i]=p:=by
    unfold kO;have:(arrOf d)[i].1=(arrOf d).toList[i].2:=by rw[<-Y];simp
    rw[this,L];rfl
   have W:kO κ (arrOf d)[j]=q:=by
    unfold kO;have:(arrOf d)[j].1=(arrOf d).toList[j].2:=by rw[<-f2];simp
    rw[this,K];rfl
   rw[X,W]at h;exact h
end
end L2
namespace Pu
open L2
def Hm{f:Type}(b:List Nat)(d:ak->R f)(x y:PV):ak->R f:=λa=>(aJ (dX a b) a).bind λc _=>(aJ (if(cz c).Nodup then d4 a (.inl x::.inl y::c)else ae) a).bind λg _=>e_ a (.inl x::.inl y::c) (d g)
def A_(a:List Nat)(dt:ak->R Bool)(de:ak->R PV):List (PV×PV)->List PV->ak->R (List PV)
 |[],c,f=>.ok c f
 |x::xs,c,f=>(b7 (Hm a dt x.1 x.2 f)).bind λk b=>match k with
  |true=>(b7 (Hm a de x.1 x.2 b)).bind λy d=>A_ a dt de xs (c++[y]) d
  |false=>A_ a dt de xs c b
def PZ(c:List Nat)(g:ak->R (List (PV×PV)))(dt:ak->R Bool)(de:ak->R PV):ak->R PO:=λd=>(g d).bind λxs b=>(A_ c dt de xs [] b).bind λf a=>.ok (.lst f) a
section
variable{X:Cx}{E:XK}{a:eB}{x y:Str}{c:List Str}{b:List Nat}
def Fe{g d:Type}(f:Nat->d):Nat->List g->List (d×g)
 |_,[]=>[]
 |n,x::xs=>(f n,x)::Fe f (n+1) xs
def QG(xs:List PV):List (PV×PV):=Fe (λi=>PV.int (i:Nat)) 0 xs
end
section
variable{X:Cx}{E:XK}
def Ox(c:ak->R (List PV)):ak->R (List (PV×PV)):=λb=>(c b).bind λx a=>match x with
 |[.tup xs]=>.ok (QG xs) a
 |_=>.no
end
abbrev fZ:=List aN
def rK(a:List (fZ×PV))(k:fZ)(v:PV):List (fZ×PV):=if(a.any λb=>decide (b.1=k))=ag then a.map (λb=>if b.1=k then(b.1,v)else b)else a++[(k,v)]
def xU:List PV->Option fZ
 |[]=>aa []
 |x::xs=>(jX x).bind λk=>(xU xs).map (k::·)
def vH:PV->Option fZ
 |.tup xs=>xU xs
 |_=>ae
section
variable{K:ay}{F:af->Prop}{S:Nat->af->Prop}{ε:ak}{d:St}{H:Hp}{i:Nat}{c:List (fZ×PV)}{ws:List (fZ×V)}{a:af}
theorem Gk:∀{xs:List PV}{b:List V}{k:fZ},Reps K H F xs b->xU xs=aa k->b=k.map kV
 |[],b,k,r,e=>by cases r;cases e;rfl
 |x::xs,b,k,⟨v,r,h,g,f⟩,e=>by simp only[xU,jv,mK]at e;obtain⟨m,l,ks,j,rfl⟩:=e;rw[h,yZ g l,Gk f j];rfl
theorem KU{x:PV}{v:V}{k:fZ}(r:aU K H F x v)(e:vH x=aa k):∃b,v=.ref b/\H b=aa (.tup (k.map kV)):=by
 cases x <;> simp[vH]at e;obtain⟨b,h,rfl,g,f⟩:=r;exact⟨b,rfl,by rw[g,Gk f e]⟩
theorem jF.len(h:jF K H F c ws):ws.length=c.length:=by
 unfold jF at h
 induction h with
 |nil=>rfl
 |cons _ _ b=>simp[b]
theorem jF.any(h:jF K H F c ws)(k:fZ):(c.any λb=>decide (b.1=k))=ws.any λb=>decide (b.1=k):=by
 unfold jF at h
 induction h with
 |nil=>rfl
 |cons r _ f=>rw[nL,nL,f,r.1]
theorem jF.put(h:jF K H F c ws)(k:fZ){x:PV}{v:V}(r:aU K H F x v):jF K H F (rK c k x) (iu ws k v):=by
 unfold rK iu;rw[h.any k];split
 .rename_i b;clear b;unfold jF at h ⊢
  induction h with
  |nil=>exact .nil
  |@cons p q ps qs r1 _ ih=>
   refine .cons ?_ ih;dsimp only;by_cases e:p.1=k
   .rw[if_pos e,if_pos (by rw[<-r1.1];exact e)];exact⟨r1.1,r⟩
   .rw[if_neg e,if_neg (by rw[<-r1.1];exact e)];exact r1
 .exact CV h ⟨rfl,r⟩
theorem aS.dtAt(r:aS K F S ε d H)(e:ε[i]?=aa (.own (.dT c))):∃a ws,d[i]?=aa (aa (.ref a))/\H a=aa (.dT ws)/\jF K H F c ws/\S i a/\∀b,S i b->b=a:=by obtain⟨a,m,⟨g,l,j⟩,f⟩:=r.own i _ e;exact⟨a,g,m,l,j,(f a).mpr rfl,λb h=>(f b).mp h⟩
end
def ni(b:ak)(i:Nat):Option (List (fZ×PV)):=match b[i]? with
 |some (.own (.dT a))=>aa a
 |_=>ae
theorem ym{b:ak}{i:Nat}{a:List (fZ×PV)}(h:ni b i=aa a):b[i]?=aa (.own (.dT a)):=by
 unfold ni at h;split at h
 .cases h;assumption
 .cases h
section
variable{X:Cx}{E:XK}{pin:List Nat}{e b c:aD}{de f g:ak->R PV}{d:Pos}
def yc(i:Nat)(f de:ak->R PV):ak->R aH:=λl=>(de l).bind λy h=>(aJ (ni h i) h).bind λ_ h=>(f h).bind λk a=>(aJ (ni a i) a).bind λj a=>(aJ (vH k) a).bind λk a=>if j.length<bG then .ok .next (a.set i (.own (.dT (rK j k y))))else .no
theorem Tc(i:Nat){y:Str}{J l:Pos}(hu:X.A.units+64<cLine)(hb:DE X E b f)(he:DE X E e de)(hN:X.N[i]?=aa y:=by rfl)(fE:eR X.env.scope y:=by first|exact Or.inl rfl|exact Or.inr (Or.inl rfl)|exact Or.inr (Or.inr rfl))(hd:(y==("__debug__":Str))=am:=by decide) (bu:(y==("__classdict__":Str))=am:=by decide) (hs:jG e (aa (.Subscript (.Name y J) b l)) d.line X.env=pure am:=by rfl):DS X E pin (.Assign [.Subscript (.Name y J) b l] e d) (yc i f de):=λF S N p H D W h=>by
 refine gC (E3 ∅ (fJ hN fE hd bu) bP bP hs) (he F S N p H _ W (h.bindE.imp λy m F1 S1 H1 s g1 q v Q=>?_));cases I:ni m i with
 |none=>rw[I]at q;exact q.elim
 |some L=>
  rw[I]at q;simp only[cP,R.bind_ok]at q;obtain⟨a,O,C,ha0,_⟩:=s.dtAt (ym I);refine⟨.ref a,C,hb F1 S1 m p H1 _ s (q.bindE.imp λk r F2 S2 H2 K g2 j u T=>?_)⟩;cases o:ni r i with
  |none=>rw[o]at j;exact j.elim
  |some x=>
   rw[o]at j;simp only[cP,R.bind_ok]at j;obtain⟨a',P,n,ha,M,_⟩:=K.dtAt (ym o);rw[C]at n;cases n;cases G:vH k with
   |none=>rw[G]at j;exact j.elim
   |some w=>
    rw[G]at j;simp only[cP,R.bind_ok]at j;split at j
    .rename_i hl;obtain⟨bb,rfl,z⟩:=KU T G;have gq:=M.put w (Q.grow g2 s.fit);obtain⟨Y,g3⟩:=K.updO (po':=.dT (rK x w y)) (o':=.dT (iu P w v)) (ym o) rfl C trivial λH' Z m2 B Sa A=>⟨⟨_,B,gq.mono Z⟩,A⟩
     exact⟨a,_,rfl,zq.t ha z (by rw[M.len];exact gH hl mr),j F2 S2 p _ Y g3 (jb.refl _ _)⟩
    .exact j.elim
def B5:ak->R PO:=λa=>.ok (.dT []) a
theorem M9:DN X E (.Dict [] [] d) B5:=λF S m l H Q i h=>bZ R5 λp a=>by
 have al:Al F F H (upd H p (.dT [])):=Al.new0 a;refine h F S _ (i.al al) al.grow p (λb=>b=p) ⟨⟨[],bV,.nil⟩,λb=>nY⟩ λb z=>?_;subst z;refine⟨a,λz=>?_,λ⟨j,z⟩=>?_,_,bV,trivial⟩
 .obtain⟨o,q⟩:=i.ex b z;rw[a]at q;cases q
 .obtain⟨_,_,o,q,_⟩:=i.foot j b z;rw[a]at q;cases q
end
end Pu
namespace L2
def kX(h:az)(d:af)(a:Array tR)(b:Nat):Prop:=∃o,h.get? d=aa o/\o.ExactDict/\o.data=.dict a b
section
variable{P:aO}{w:aG}{A:aR}{E:ai->ao->Prop}{s:ao}{d it:af}{es:Array tR}{ep i:Nat}
theorem kX.ty(r:kX s.heap d es ep):s.TypeIs (.ref d) "dict":=let ⟨o,ho,hc,_⟩:=r;⟨o,ho,hc.1⟩
theorem kX.at{h a:az}(r:kX h d es ep)(k:∀o,h.get? d=aa o->a.get? d=aa o):kX a d es ep:=let ⟨o,ho,z⟩:=r;⟨o,k o ho,z⟩
theorem kX.lt{h:az}(r:kX h d es ep):d<h.objs.size:=let ⟨o,ho,_⟩:=r;bz ho
theorem N8{Q:ai->ao->Prop}(f:(d == jr)=am)(r:kX s.heap d es ep)(q:Q (.ref s.heap.objs.size) {s with heap:=s.heap.push {cls:=.type "dict_keyiterator",data:=.fields #[.ref d,.int 0 0,.int es.size 0,.int ep 0]}}):ar (aw P w) A (nI (.ref d)) Q E s:=by have a:=r.ty;obtain⟨o,c,g,b⟩:=id r;refine Jt a F.slot_dict_iter (mH F.slot_dict_iter a F.entry_dict_iter ?_ (F.args_dict_iter_1 _));unfold Builtin.«dict.__iter__» Builtin.Dict.dictSlotNone;refine aq (aq (wpAny_notOrdered_dict a ?_));refine aC (show ar _ _ (Builtin.Dict.showsAll d >>= _) _ _ s from ?_);unfold Builtin.Dict.showsAll;rw[if_neg (by rw[f];exact eP)];refine aq (aC (aq (JK c b (aq (wpAny_dictEpoch c b ?_)))));refine aq (kL (aC ⟨_,rfl,"dict_keyiterator",_,⟨_,cD _ rfl,rfl⟩,F.slot_dict_keyiterator_next.lookup,?_⟩));simpa[dP]using q
theorem KC{Q:Option ai->ao->Prop}(a:s.heap.IsKeyIter it d i es.size ep)(r:kX s.heap d es ep)(m:i<es.size)(q:∀g,g.IsKeyIter it d (i+1) es.size ep->kb it s.heap g->Q (aa es[i].key) {s with heap:=g}):ar (aw P w) A (mB (.ref it)) Q E s:=by
 obtain⟨n,c,f,b⟩:=id a;obtain⟨o,j,p,h⟩:=id r;unfold mB;refine aq (C_ (zy (name:=vX "__next__") a.typeIs DB (mH DB a.typeIs TB ?_ (TD _))));refine aq (aC (aq (aq ?_)))
 first|refine aq (DC a.typeIs (aC ?_))|refine aq (DH a.typeIs (aC ?_))
 refine aq (wpAny_fieldsOf c b ?_);simp only[show Builtin.Dict_items.ownsTuple "dict_keyiterator"=am by decide,eX,if_false];show ar _ _ (if(Value.ref d == Value.none)=ag then _ else _) _ _ s;rw[if_neg (show ¬((Value.ref d == Value.none)=ag)from eP)];refine aq (aC (aq (JK j h ?_)));rw[if_neg (by simp)];refine aq (aC (aq (wpAny_dictEpoch j h ?_)));rw[if_neg (by simp)];refine aC ?_;simp only[show ¬((i:Int)<0)from by lia,if_false,mG,i9 m];refine aq ?_
 first|refine aq (DC a.typeIs (aC ?_))|refine aq (DH a.typeIs (aC ?_))
 refine aq (wpAny_isOneOf_keyiter a.typeIs ?_);refine show ar _ _ (lJ (.ref it) 1 (dP ((i:Int)+1)) >>= _) _ _ s from aq (pi c b (by simp) ?_)
 have l:(s.heap.update it (lL (·.setIfInBounds 1 (dP ((i:Int)+1))))).IsKeyIter it d (i+1) es.size ep :=⟨_,nK _ c (zK (qM b _)),(Obj.cls_mapFields ..).trans f,by rw[qM b];simp[dP]⟩
 refine aq (iM (aq (wpAny_isOneOf_keyiter (s:={s with heap:=s.heap.update it (lL (·.setIfInBounds 1 (dP ((i:Int)+1))))}) l.typeIs ?_)));exact show ar _ _ (pure es[i].key) _ _ _ from aC (aC ⟨_,rfl,aC (q _ l (ph ..))⟩)
theorem Sv{Q:Option ai->ao->Prop}(o:A.handled=ae)(c:s.heap.IsKeyIter it d i es.size ep)(r:kX s.heap d es ep)(n:es.size<=i)(q:∀l,Heap.ExtBut it s.heap l->Q ae {s with heap:=l}):ar (aw P w) A (mB (.ref it)) Q E s:=by
 obtain⟨u,h,p,j⟩:=id c;obtain⟨v,g,x,f⟩:=id r;unfold mB;refine aq (C_ (zy (name:=vX "__next__") c.typeIs DB (mH DB c.typeIs TB ?_ (TD _))));refine aq (aC (aq (aq ?_)))
 first|refine aq (DC c.typeIs (aC ?_))|refine aq (DH c.typeIs (aC ?_))
 refine aq (wpAny_fieldsOf h j ?_);simp only[show Builtin.Dict_items.ownsTuple "dict_keyiterator"=am by decide,eX,if_false];show ar _ _ (if(Value.ref d == Value.none)=ag then _ else _) _ _ s;rw[if_neg (show ¬((Value.ref d == Value.none)=ag)from eP)];refine aq (aC (aq (JK g f ?_)));rw[if_neg (by simp)];refine aq (aC (aq (wpAny_dictEpoch g f ?_)));rw[if_neg (by simp)];refine aC ?_;simp only[show ¬((i:Int)<0)from by lia,if_false,mG,Array.getElem?_eq_none n];refine aq ?_
 first|refine aq (DC c.typeIs (aC ?_))|refine aq (DH c.typeIs (aC ?_))
 refine show ar _ _ (lJ (.ref it) 0 .none >>= _) _ _ s from aq (pi h j (by simp) ?_)
 refine show ar _ _ (newExc (.type "StopIteration") [] >>= _) _ _ _ from aq ?_
 simp only[newExc,newTuple];refine aq (kL ?_ (by size_fits));refine aq (m:=Db _ _) (qL (a:=Value.none) (by first|rfl | (simp only[Db];rfl)) ?_);refine kL ?_ (by size_fits);simp only[raiseNew];refine aq (wpAny_handled ?_);rw[show A.in1.handled=ae from o];refine aq (aC (wpAny_throw ?_));refine aq (Dc (T:="StopIteration") (b:=ag) ⟨_,cD _ rfl,rfl⟩ isSubtype_stop ?_);exact aC (q _ (((ph ..).extBut.push _).push _))
theorem Nu(q:A.handled=ae)(I d:af)(r:d≠I)(es:Array tR)(ep:Nat):Walks P w A I [I,d] [I] es.size (λi v=>∃e,es[i]?=aa e/\v=e.key) (λi h=>h.IsKeyIter I d i es.size ep/\kX h d es ep) where
 sub:=λb c=>by simp at c;simp[c]
 frame:=λ_ _ _ a n=>⟨a.1.at λo e=>n I (by simp) o e,a.2.at λo e=>n d (by simp) o e⟩
 item:=λi s Q E p a g=>KC a.1 a.2 p λl f m=>g _ l s.toks ⟨es[i],by simp[p],rfl⟩ ⟨f,a.2.at λo e=>by rw[m.2 d r];exact e⟩ λb o c e=>m.extBut b o (λh=>c (by simp[h])) e
 done:=λs Q E a g=>Sv q a.1 a.2 (a8 _) λl j=>g l s.toks λb o c e=>j b o (λh=>c (by simp[h])) e
 self:=λ_ _ _ _ a g=>wpAny_pyIter_keyiter a.1 g
theorem Qm(c:(d == jr)=am):PySem.W.KdlSrc P w "dict" d d es.size (λi v=>∃e,es[i]?=aa e/\v=e.key) (λh=>kX h d es ep) where
 type:=λ_ a=>a.ty
 there:=λ_ a=>⟨a.lt,a.lt⟩
 keep:=λ_ _ a f=>a.at λo e=>f d (.inl rfl) o e
 notList:=by decide
 notTuple:=by decide
 hint:=λ_ _ _ _ a b=>PySem.W.kdl_hint_dict a.ty b
 iter:=λ_ _ g a=>⟨_,_,(λ_ _ b=>N8 c a b),Nu g _ d (cR a.lt) es ep,⟨⟨_,cD _ rfl,rfl,rfl⟩,a.at λo e=>bD _ e⟩⟩
end
section
variable{X:Cx}{f:List (af×Obj)}{d:St}{H:Hp}{s:ao}{a:af}{c:List (List aN×V)}
theorem P9{P:aO}{w:aG}{h:az}{o:Obj}(z:h.get? a=aa o)(k:cm P w H h a (.dT c)):(a == jr)=am/\∃j,kX h a j (uG o)/\j.size=c.length/\(c.map (·.1)).Nodup /\
  ∀(i:Nat) (e:tR),j[i]?=aa e->∃p b,c[i]?=aa p/\e.key=.ref b/\H b=aa (.tup (p.1.map kV)):=by
 obtain⟨u,F,xs,g,L,j,J,E,v,D,y,A⟩:=k;rw[z]at E;cases E;have K:uG o=J:=by unfold uG;rw[D]
 have B:=CH g;refine⟨F,j,⟨o,z,v,by rw[K];exact D⟩,by rw[<-fP,y,bX];exact B.symm,?_,λi e C=>?_⟩
 .have:c.map (·.1)=xs.map (·.1):=by
   clear y A B u
   induction g with
   |nil=>rfl
   |cons r _ n=>simp[n,r.1]
  rw[this];exact A
 .rw[<-nN,y,g_]at C;obtain⟨x,v,rfl⟩:=mK.mp C;have:∀{l:List (List aN×V)}{m:List (List aN×af×ai)} (i:Nat) (x:List aN×af×ai),j_ (λ(p:List aN×V) (q:List aN×af×ai)=>p.1=q.1/\H q.2.1=aa (.tup (p.1.map kV))/\RelV p.2 q.2.2) l m->m[i]?=aa x->∃p,l[i]?=aa p/\H x.2.1=aa (.tup (p.1.map kV)):=by
   intro l m i x r
   induction r generalizing i with
   |nil=>intro e;simp at e
   |cons r _ n=>
    intro e;cases i with
    |zero=>simp at e;subst e;exact⟨_,rfl,r.2.1⟩
    |succ i=>exact n i (by simpa using e)
  obtain⟨p,G,I⟩:=this i x g v;exact⟨p,x.2.1,G,rfl,I⟩
theorem Inv.freezeT(I:Inv X f d H s)(e:H a=aa (.dT c)):∃o,s.heap.get? a=aa o/\Inv X f d (upd H a (.frz o (.dT c))) s:=by
 have k:cm X.prog X.w H s.heap a (.dT c):=I.hok a _ e;obtain⟨z,h,xs,b,o,es,ep,g,r⟩:=id k;refine⟨o,g,I.recast e (λ_ q=>by cases q) (λo u q=>?_) (λ_ q=>by cases q) (λ_ q=>by cases q) ⟨g,z,h,xs,Paired.mapP b λp q z=>⟨z.1,?_,z.2.2⟩,o,es,ep,g,r⟩⟩
 .have:=I.base.frzs a o u q;rw[e]at this;cases this
 .rw[bO (EA z.2.1 e (λz=>nomatch z))];exact z.2.1
end
def j8(o:Obj):List af:=match o.data with
 |.dict es _=>es.toList.map λe=>match e.key with
  |.ref b=>b
  |_=>0
 |_=>[]
def KD(H:Hp)(a:List (List aN×V))(bs:List af):Prop:=bs.length=a.length/\∀(i:Nat) (b:af),bs[i]?=aa b->∃p,a[i]?=aa p/\H b=aa (.tup (p.1.map kV))
theorem Nd{P:aO}{w:aG}{H:Hp}{h:az}{a:af}{o:Obj}{d:List (List aN×V)}(q:h.get? a=aa o)(k:cm P w H h a (.dT d)):(a == jr)=am/\∃es,kX h a es (uG o)/\es.size=d.length/\(d.map (·.1)).Nodup/\KD H d (j8 o)/\∀(i:Nat) (e:tR),es[i]?=aa e->∃b,(j8 o)[i]?=aa b/\e.key=.ref b:=by
 obtain⟨A,es,rd,n,z,m⟩:=P9 q k;have j:j8 o=es.toList.map λe=>match e.key with
  |.ref b=>b
  |_=>0:=by
  obtain⟨C,y,_,B⟩:=rd;rw[q]at y;cases y;unfold j8;rw[B]
 have l:∀(i:Nat) (e:tR),es[i]?=aa e->∃b,(j8 o)[i]?=aa b/\e.key=.ref b:=λi e f=>by obtain⟨p,b,x,g,v⟩:=m i e f;refine⟨b,?_,g⟩;rw[j,g_,nN,f,tZ,g]
 refine⟨A,es,rd,n,z,⟨by rw[j,bX,fP];exact n,λi b r=>?_⟩,l⟩;have f:i<es.size:=by have:=(c9.mp r).1;rw[j,bX,fP]at this;exact this
 obtain⟨p,c,x,g,v⟩:=m i es[i] (by simp[f]);obtain⟨D,u,s⟩:=l i es[i] (by simp[f]);rw[r]at u;cases u;rw[g]at s;cases s;exact⟨p,x,v⟩
open Mx
section
variable{P:aO}{w:aG}{A:aR}{E:ai->ao->Prop}{s:ao}
def FtIs(h:az)(c:List Str)(v:ai):Prop:=c≠[]/\∃(a:af) (b:Array ai),v=.ref a/\IsTup h a b/\cT b.toList c
theorem FtIs.inj{h:az}{k b:List Str}{v:ai}(x:FtIs h k v)(y:FtIs h b v):k=b:=by
 obtain⟨_,a,d,rfl,g,f⟩:=x;obtain⟨_,l,c,e,i,j⟩:=y;cases e;obtain rfl:=tup_uniq g i;exact strs_uniq f j
theorem FtIs.keep{h c:az}{k:List Str}{v:ai}(x:FtIs h k v)(g:∀b o,h.get? b=aa o->c.get? b=aa o):FtIs c k v:=by obtain⟨n,a,its,rfl,f,d⟩:=x;exact⟨n,a,its,rfl,tup_kept f λb o e _=>g b o e,d⟩
def ftKey(h:az):KeyKind where
 toKeyOrd:=ordL
 keyOf:=λv=>open Classical in if z:∃a,FtIs h a v then aa (cpsL z.choose)else ae
 dflt:=([]:List Tx)
theorem ftKey_of{h:az}{a:List Str}{v:ai}(x:FtIs h a v):(ftKey h).keyOf v=aa (cpsL a):=by
 have z:∃a,FtIs h a v:=⟨a,x⟩
 show(open Classical in if z:∃a,FtIs h a v then aa (cpsL z.choose)else ae)=_;rw[dif_pos z,z.choose_spec.inj x]
theorem ftKey_some{h:az}{k:List Tx}{v:ai}(x:(ftKey h).keyOf v=aa k):∃a,FtIs h a v/\cpsL a=k:=by
 by_cases z:∃a,FtIs h a v
 .obtain⟨a,z⟩:=z;rw[ftKey_of z]at x;exact⟨a,z,c8 x⟩
 .have:(ftKey h).keyOf v=ae:=dif_neg z;rw[this]at x;cases x
theorem lex_strs{b:Bool}{Q:Bool->ao->Prop}{m g:List ai}{j f:List Str}(i:Nat){d:Bool}(q:cT m j)(o:cT g f)(l:d=decide (j.length<f.length))(h:Q (ltL (cpsL j) (cpsL f)) s):PySem.W.KatLex P w A b d Q (m.zip g) i s:=by
 induction q generalizing g f i d with
 |nil=>
  rw[List.zip_nil_left];refine DJ ?_;rw[l];refine cast (congrArg (λz=>Q z s) ?_) h;cases o with
  |nil=>exact(decide_eq_false (by simp[cpsL])).trans (decide_eq_false (by simp)).symm
  |cons c u n=>exact(decide_eq_true (by simp[cpsL])).trans (decide_eq_true (by simp)).symm
 |cons a t r p=>
  cases o with
  |nil=>rw[List.zip_nil_right];refine DJ ?_;rw[l];refine cast (congrArg (λz=>Q z s) ?_) h;exact(decide_eq_false (by simp[cpsL])).trans (decide_eq_false (by simp)).symm
  |cons c u n=>
   rw[zV];refine zX (CS a t c u _ _ _ _ ?_);have h:=ltL_cons .. ▸ h;by_cases e:a=c
   .subst e;rw[if_pos rfl]at h;rw[beq_self_eq_true];exact zY (p (i+1) n (by rw[l];simp) h)
   .rw[if_neg (λz=>e (cps_inj z))]at h;rw[beq_false_of_ne e];refine zZ ?_;cases (b&&i == 0)with
    |true=>exact oneLt_str h
    |false=>exact DK _ _ (JI h)
theorem ftLt{h j:az}(J:A.units+8<cLine)(k:∀b o,h.get? b=aa o->j.get? b=aa o):gY (ftKey h) (n6 ag) P w A {s with heap:=j}:=λE x y a b Q B z r=>by obtain⟨G,q,rfl⟩:=ftKey_some B;obtain⟨K,p,rfl⟩:=ftKey_some z;obtain⟨_,M,n,rfl,C,i⟩:=q.keep k;obtain⟨_,L,f,rfl,F,g⟩:=p.keep k;obtain⟨o,u,_,m,v⟩:=C;obtain⟨H,D,_,I,l⟩:=F;refine PySem.W.kat_lt u v D l (lex_strs 0 i g ?_ r);have d:=strs_len i;have c:=strs_len g;rw[fP]at d c;rw[d,c]
theorem ft_kind{b:List ai}{Q:gk->ao->Prop}(c:∀v∈b,∃d,FtIs s.heap d v)(I:2<=b.length)(h:Q (n6 ag) s):ar (aw P w) A (wl b.toArray) Q E s:=by
 have i:∀(b:List ai),(∀v∈b,∃d,FtIs s.heap d v)->∃fs,JL s.heap b fs/\fs.length=b.length/\∀f∈fs,∃z t,f=Value.str z t:=by
  intro b
  induction b with
  |nil=>intro _;exact⟨[],JM,rfl,λf g=>by simp at g⟩
  |cons v b x=>
   intro c;obtain⟨fs,p,r,n⟩:=x λu y=>c u (dy _ y);obtain⟨d,G,a,j,rfl,⟨o,B,F,m,D⟩,q⟩:=c v eC;cases d with
   |nil=>exact absurd rfl G
   |cons z H=>
    generalize C:j.toList=l at q;cases q with
    |cons _ t q=>
     refine⟨.str z t::fs,JN B F D (by rw[<-nN,C];rfl) p,by simp[r],λf g=>?_⟩;rcases bo.mp g with rfl|g
     .exact⟨z,t,rfl⟩
     .exact n f g
 obtain⟨fs,p,r,n⟩:=i b c;refine JO (T:=.type "str") p ∅ (λv c=>?_) (by decide) ?_
 .obtain⟨z,t,rfl⟩:=n v c;exact .now
 .have:(Value.type "str" != Value.type "tuple")=ag:=by decide
  rw[this];exact h
end
end L2
namespace Pu
open L2
section
variable{K:ay}{F:af->Prop}{H:Hp}
theorem jF.keys{a:List (fZ×PV)}{b:List (fZ×V)}(h:jF K H F a b):b.map (·.1)=a.map (·.1):=by
 unfold jF at h
 induction h with
 |nil=>rfl
 |cons r _ c=>rw[cS,cS,c,r.1]
end
end Pu
namespace L2
open Mx
def g8(a b:List Tx):Bool:=!ltL b a
def gX(ks:List (List Tx)):List (List Tx):=ks.mergeSort g8
theorem Iy(a b:List Tx):(g8 a b||g8 b a)=ag:=by
 unfold g8;cases h:ltL b a with
 |false=>rfl
 |true=>
  have:ltL a b=am:=by
   cases c:ltL a b with
   |false=>rfl
   |true=>exact absurd (ordL.trans _ _ _ h c) (by have:ltL b b=am:=ordL.irrefl _;show ¬ltL b b=ag;rw[this];decide)
  rw[this];rfl
theorem E1(a b c:List Tx)(f:g8 a b=ag)(d:g8 b c=ag):g8 a c=ag:=by unfold g8 at *;have:ltL c a=am:=qN (O:=ordL) (a:=a) (b:=b) (c:=c) (show ltL b a=am by simpa using f) (show ltL c b=am by simpa using d);rw[this];rfl
theorem HU(a b:List Tx)(d:g8 a b=ag)(c:g8 b a=ag):a=b:=by unfold g8 at *;exact ordL.total a b (show ltL a b=am by simpa using c) (show ltL b a=am by simpa using d)
theorem BC(ks:List (List Tx)):(gX ks).Perm ks:=tT ks g8
theorem Ix(ks:List (List Tx)):(gX ks).Pairwise (λa b=>g8 a b=ag):=C1 E1 Iy ks
theorem BU{ks c:List (List Tx)}(f:c.Perm ks)(d:c.Pairwise (λx y=>g8 x y=ag)):c=gX ks :=zD (le:=λa b=>g8 a b=ag) (λa b _ _=>HU a b) d (Ix ks) (f.trans (BC ks).symm)
def gx(k:List Tx):List aN:=k.map λx=>Sum.inr (tS x)
theorem Ls(k:List Tx):(gx k).map kV=bB k:=by simp[gx,bB,kV,tV]
section
variable{X:Cx}
theorem Hk{P:aO}{w:aG}{H:Hp}{h:az}{k:List Tx}{a:af}(ok:cX P w H h)(e:H a=aa (.tup (bB k)))(c:k≠[]):FtIs h (k.map tS) (.ref a):=by
 obtain⟨_,b,r,p,_⟩:=(show cm P w H h a (.tup (bB k))from ok a _ e)
 exact⟨λz=>c (by simpa using z),a,b.toArray,rfl,p,by have:=pO r;rw[qI];exact this⟩
theorem LL(hu:X.A.units+64<cLine)(hc:X.calm=ag):dE X (.builtin "sorted") (λxs H Q=>∃(d:af) (a:List (List aN×V)) (ks:List (List Tx)),xs=[.ref d]/\H d=aa (.dT a)/\a.map (·.1)=ks.map gx/\(∀k∈ks,k≠[])/\ks.length<=1000000 /\ ∀l (S:List (List Tx×af)),H l=ae->(∀q∈S,H q.2=aa (.tup (bB q.1)))->S.map (·.1)=gX ks->Q (.ref l) (upd H l (.lst (S.map λq=>.ref q.2)))):=by
 intro ah s σ H xs us Q I r h;obtain⟨d,a,ks,rfl,hd,hk,bY,Y,q⟩:=h;obtain⟨u,rfl,ru⟩:=vals1 r;cases ru;obtain⟨o,ho,_⟩:=I.freezeT hd;obtain⟨hs,es,rd,W,nd,B,ot⟩:=Nd ho (show cm X.prog X.w H s.heap d (.dT a)from I.hok d _ hd);have A:a.length=ks.length:=by have:=congrArg qD hk;simpa using this
 have D:∀x∈ks.zip (j8 o),H x.2=aa (.tup (bB x.1)):=λx c=>by
  obtain⟨n,F⟩:=List.getElem?_of_mem c;rw[zJ]at F;obtain⟨p,h1,f⟩:=B.2 n _ F.2;have M:(a.map (·.1))[n]?=aa p.1:=by rw[g_,h1];rfl
  rw[hk,g_,F.1,tZ]at M;rw[f,<-c8 M,Ls]
 refine sorted_genK ∅ (PySem.W.kdu_collect (Qm (P:=X.prog) (w:=X.w) (es:=es) (ep:=uG o) hs) (uC (I.ok.hd hc)) rd (by rw[W,A];exact i7 (mq Y)) λm J O k L=>?_);have I1:Inv X ah σ H {s with heap:=m,toks:=J}:=I.kept (t':=J) k;have kj:O.toList=(ks.zip (j8 o)).map λx=>Value.ref x.2:=by
  have G:(ks.zip (j8 o)).map (λx=>Value.ref x.2)=(j8 o).map Value.ref:=by rw[<-JJ (l₁:=ks) (l₂:=j8 o) (by rw[B.1,A];exact a8 _),cJ];simp[JJ,B.1,A]
  rw[G];apply t8;intro n;by_cases F:n<es.size
  .have ur:n<O.size:=by rw[L.1];exact F
   obtain⟨e,h1,f⟩:=L.2 n O[n] (by rw[i9]);obtain⟨b,M,h4⟩:=ot n e h1;rw[g_,M,nN,i9 ur,f,h4];rfl
  .rw[mP (by rw[fP,L.1];lia),mP (by rw[bX,B.1,<-W];lia)]
 have g:∀(f:az),(∀b o,m.get? b=aa o->f.get? b=aa o)->∀x∈ks.zip (j8 o),FtIs f (x.1.map tS) (.ref x.2):=λf i x c=>(Hk I1.hok (D x c) (bY _ (vV c).1)).keep i;have mem:∀v∈O.toList,∃x∈ks.zip (j8 o),v=.ref x.2:=λv j=>by rw[kj]at j;obtain⟨x,c,rfl⟩:=bH.mp j;exact⟨x,c,rfl⟩
 refine⟨ftKey m,n6 ag,λv j=>?_,by rw[fP,L.1,W,A];exact Y,λA' f hA i fV=>⟨ftLt hA i,λ{E Q} qq=>ft_kind (s:={s with heap:=f,toks:=J}) (λv j=>?_) fV qq⟩,λf T e i fU b1 b2=>?_⟩
 .obtain⟨x,c,rfl⟩:=mem v j;exact⟨_,ftKey_of (g m (λ_ _ z=>z) x c)⟩
 .obtain⟨x,c,rfl⟩:=mem v j;exact⟨_,g f i x c⟩
 .rw[kj]at b1;obtain⟨C,G,N⟩:=perm_mapE b1;have K:∀q∈C,q∈ks.zip (j8 o):=λq Z=>N.mem_iff.mp Z;refine⟨.ref _,_,I1.laid (t':=J) (o:=.lst (C.map λq=>.ref q.2)) i (a8 _) ⟨?_,T.toList,e,?_,by rw[zR];exact fU⟩,rfl,q _ C I1.fresh (λq Z=>D q (K q Z)) ?_⟩
  .rw[bX,N.length_eq,List.length_zip];have:=mq Y;lia
  .rw[G];clear G N K
   induction C with
   |nil=>exact .nil
   |cons q C ih=>exact .cons rfl ih
  .refine BU ?_ ?_
   .have:=N.map (·.1);rwa[List.map_fst_zip (by rw[B.1,A];exact a8 _)]at this
   .rw[G]at b2;refine kQ.mpr ((kQ.mp b2).imp_of_mem λ{x y} c hy hh=>?_);have:=hh _ _ (ftKey_of (g m (λ_ _ z=>z) x (K x c))) (ftKey_of (g m (λ_ _ z=>z) y (K y hy)));have:ltL (cpsL (y.1.map tS)) (cpsL (x.1.map tS))=am:=this;simp only[cpsL,cJ,qP,fL,z7]at this;unfold g8;rw[this];rfl
end
end L2
namespace Pu
open L2
def pN:fZ->Option (List Tx)
 |[]=>aa []
 |.inr z::r=>(pN r).map (z.cps.toList::·)
 |_=>ae
def qh:List (fZ×PV)->Option (List (List Tx))
 |[]=>aa []
 | (k,_)::r=>(pN k).bind λt=>(qh r).map (t::·)
theorem EZ:∀{k:fZ}{t:List Tx},pN k=aa t->k=gx t
 |[],t,h=>by cases h;rfl
 |.inr z::r,t,h=>by simp only[pN,mK]at h;obtain⟨l,a,rfl⟩:=h;rw[EZ a];simp[gx,sC]
 |.inl _::_,_,h=>by cases h
theorem GU:∀{a:List (fZ×PV)}{ks:List (List Tx)},qh a=aa ks->a.map (·.1)=ks.map gx
 |[],ks,h=>by cases h;rfl
 | (k,_)::r,ks,h=>by simp only[qh,jv,mK]at h;obtain⟨t,c,d,b,rfl⟩:=h;rw[cS,cS,GU b,EZ c]
theorem A5(t:List Tx):pN (gx t)=aa t:=by
 induction t with
 |nil=>rfl
 |cons x t a=>show pN (Sum.inr (tS x)::gx t)=_;simp[pN,a,fL]
theorem Qt(ks:List (List Tx))(v:PV):qh (ks.map λk=>(gx k,v))=aa ks:=by
 induction ks with
 |nil=>rfl
 |cons k ks a=>simp[qh,a,A5]
def br(k:List Tx):PV:=.tup (aj k)
def x_(a:List (fZ×PV)):Option PO:=(qh a).bind λks=>if ks.length<=1000000/\(∀k∈ks,k≠[]/\∀x∈k,x.length<=bG)then aa (.lst ((gX ks).map br))else ae
def qc(i:Nat):ak->R PO:=λa=>(aJ (ni a i) a).bind λb a=>aJ (x_ b) a
theorem Sz{X:Cx}{E:XK}(i:Nat){y:Str}{G p r:Pos}(L:X.A.units+64<cLine)(P:X.calm=ag)(M:X.mg "sorted"=ae)(W:X.N[i]?=aa y:=by rfl)(fE:eR X.env.scope y:=by first|exact Or.inl rfl|exact Or.inr (Or.inl rfl)|exact Or.inr (Or.inr rfl))(O:(y==("__debug__":Str))=am:=by decide) (bu:(y==("__classdict__":Str))=am:=by decide) (N:Gl X "sorted":=by rfl):DN X E (.Call (.Name "sorted" p) [.Name y G] [] r) (qc i):=λF S D σ H Q g h=>by
 unfold qc at h;cases B:ni D i with
 |none=>rw[B]at h;exact h.elim
 |some s=>
  rw[B]at h;simp only[cP,R.bind_ok]at h;obtain⟨a,I,ea,T,u,ia,_⟩:=g.dtAt (ym B);unfold x_ at h;cases A:qh s with
  |none=>rw[A]at h;exact h.elim
  |some ks=>
   rw[A,fj]at h;split at h
   .rename_i v;refine bZ (nB (LL L P) N M mw (gB (fJ W fE O bu) iG (ik rfl)) (by decide) (by decide) (ik rfl) rfl) ⟨.ref a,ea,a,I,ks,rfl,T,by rw[u.keys];exact GU A,λk u=>(v.2 k u).1,v.1,λl d n m f=>?_⟩;have al:Al F F H (L2.upd H l (.lst (d.map λq=>.ref q.2))):=Al.new0 n;have reps:∀(d:List (List Tx×af)),(∀q∈d,H q.2=aa (.tup (bB q.1))/\∀x∈q.1,x.length<=bG)->Reps X.K H F ((d.map (·.1)).map br) (d.map λq=>.ref q.2):=by
     intro d
     induction d with
     |nil=>intro _;rfl
     |cons q d J=>intro m;obtain⟨Z,Y⟩:=m q eC;exact⟨_,_,rfl,⟨q.2,bB q.1,rfl,Z,T_.mpr ⟨rfl,Y⟩⟩,J λz K=>m z (dy _ K)⟩
    refine h F S _ (g.al al) al.grow l (λc=>c=l) ⟨⟨_,bV,?_⟩,λc=>nY⟩ λb z=>?_
    .rw[<-f];refine al.reps (reps d λq C=>⟨m q C,?_⟩);have:q.1∈gX ks:=by rw[<-f];exact bH.mpr ⟨q,C,rfl⟩
     exact(v.2 _ ((BC ks).mem_iff.mp this)).2
    .subst z;exact⟨n,λz=>ub (g.ex _ z) (λo w=>by rw[n]at w;cases w),λ⟨j,z⟩=>ub (g.foot j b z).2.2 (λo w=>by rw[n]at w;cases w.1),_,bV,trivial⟩
   .exact h.elim
end Pu
namespace L2
theorem Pk{P:aO}{w:aG}{A:aR}{E:ai->ao->Prop}{s:ao}{t b:af}{f:List ai}{Q:ai->ao->Prop}(v:IsTup s.heap t #[])(x:IsTup s.heap b f.toArray)(h:Q (.ref b) s):ar (aw P w) A (iN .Add (.ref t) (.ref b)) Q E s:=by
 obtain⟨⟨z,y,p,r⟩,j,m,n,l⟩:=id v;obtain⟨⟨q,c,d,a⟩,o,g,u,i⟩:=id x;simp only at m l g i;subst m l g i;exact concat_meets ⟨_,j,rfl⟩ ⟨_,o,rfl⟩ IZ seq_tuple_add I_ Ja (Jb _ _)
  (tuple_addW0 t b #[] f.toArray n u y c r a rfl) ⟨j,o,h⟩
def B_(K:ay):R2:=λx y H Q=>∃a b c,x=.ref a/\y=.ref b/\cH K H a []/\cH K H b c/\Q (.ref b) H
theorem Up{X:Cx}:bT X (iN .Add) (B_ X.K):=by
 intro w s o H x y v u Q I f d h;obtain⟨a,b,p,rfl,rfl,n,m,q⟩:=h;cases f;cases d;obtain⟨l,g,j,_⟩:=I.tuple n;obtain⟨c,r,i,_⟩:=I.tuple m;cases g;exact Pk j i ⟨.ref b,H,I,rfl,q⟩
end L2
namespace Pu
open L2
def nA:PV->PV->Option PV
 |.tup [],.tup a=>aa (.tup a)
 |x,y=>bf x y
theorem EW{X:Cx}:bT X (iN .Add) (λx y H Q=>B_ X.K x y H Q\/yg X.K x y H Q):=Up.or fg
theorem GC{K:ay}:P2 K (λx y H Q=>B_ K x y H Q\/yg K x y H Q) nA:=λF H x y v u Q pv d c e q=>by
 unfold nA at e;split at e
 .cases e;obtain⟨a,h,rfl,f,i⟩:=d;obtain⟨b,g,rfl,j,l⟩:=id c;rw[show h=[] from i]at f;exact .inl ⟨a,b,g,rfl,rfl,cH.of f,cH.of j,q _ F H (Al.refl ..) c⟩
 .exact .inr (fe F H _ _ v u Q pv d c e q)
end Pu
namespace L2
section
variable{X:Cx}
theorem Si(z:X.calm=ag):dE X (.type "set") (λxs H Q=>∃(p:af) (c:List Tx),xs=[.ref p]/\cH X.K H p (bB c)/\(bR c).length<4000/\∀a,H a=ae->Q (.ref a) (upd H a (kY X a (bR c)))):=by
 intro L s B H xs C Q I r h;obtain⟨p,c,rfl,x,f,q⟩:=h;obtain⟨u,rfl,l⟩:=vals1 r;cases l;obtain⟨d,g,v,E⟩:=I.tuple x;have y:=g.length;rw[yV]at y;refine Gv (P:=X.prog) (w:=X.w) (I.ok.hd z) (.inr v) (by simpa using pO g) (by rw[cc,show d.length=c.length by lia,xO,bX];exact f) λA j S k=>?_;have i:j9 X.prog X.w A s.heap.objs.size ((bR c).map tS):=by
  have e:d.toArray.size=c.length:=by rw[cc];lia
  rw[e,xO]at S;exact S
 refine⟨.ref s.heap.objs.size,_,I.laid (t':=j) (o:=kY X s.heap.objs.size (bR c)) (λb o e=>k b o (bz e) e) (a8 _) ?_,rfl,q _ I.fresh⟩;obtain⟨J,K,t,D,e,_⟩:=i.ex;exact⟨i,⟨_,e⟩,λG F n m=>n.at m⟩
end
end L2
namespace Pu
open L2
section
variable{X:Cx}{E:XK}{e:aD}{g:ak->R (List PV)}{p q f d:Pos}
def qi:List PV->Option PO
 |[.tup xs]=>(eM xs).bind λa=>if(bR a).length<4000 then aa (.lst (aj (aK (bR a))))else ae
 |_=>ae
def MG(X:Cx)(r:List V->Hp->VK->Prop):List V->Hp->VK->Prop:=λxs H Q=>∃(p:af) (b:List Tx),xs=[.ref p]/\cH X.K H p (bB b)/\(bR b).length<4000/\∀a,H a=ae->r [.ref a] (upd H a (kY X a (bR b))) Q
theorem Mb:jW X.K (MG X (E7 X)) qi:=λF H xs I Q K D u e q=>by
 unfold qi at e;split at e
 .obtain⟨v,rfl,a,J,rfl,C,m⟩:=gz u;obtain⟨i,G,j⟩:=jv.mp e;rw[nh G]at m;obtain⟨rfl,A⟩:=T_.mp m;split at j
  .rename_i r;cases j;refine⟨a,i,rfl,cH.of C,r,λb B=>⟨b,bR i,rfl,bV,r,λl h=>?_⟩⟩;have s:l≠b:=by rintro rfl;rw[bV]at h;cases h
   have n:H l=ae:=by rw[bO s]at h;exact h
   have al:Al F F H (upd (upd H b (kY X b (bR i))) l (.lst (bB (aK (bR i))))):=(Al.new0 B).trans (Al.new0 h);refine q l F _ (λc=>c=l) al ⟨⟨_,bV,T_.mpr ⟨rfl,λx y=>A x ((k_ _ _).mp ((d9 _).mem_iff.mp y))⟩⟩,λc=>nY⟩ λc z=>?_;subst z;exact⟨n,λz=>ub (D _ z) (λo w=>by rw[n]at w;cases w),_,bV,trivial⟩
  .cases j
 .cases e
theorem LJ(a:X.calm=ag)(m:DA X E [e] g)(j:X.mg "sorted"=ae)(c:X.mg "set"=ae)(l:Gl X "sorted":=by rfl)(b:Gl X "set":=by rfl)(h:li e=am:=by rfl):DN X E (.Call (.Name "sorted" p) [.Call (.Name "set" q) [e] [] d] [] f) (dL qi g):=λF S r o H Q i n=>bZ (nB (Gu a) l j mw (gB (sS (Si a) b c Bd iq (by decide) (by decide) (ik h) rfl) iG (ik rfl)) (by decide) (by decide) (ik rfl) rfl) (sD Mb m i n)
end
end Pu
namespace L2
section
variable{X:Cx}
def Km:V->List V->Hp->VK->Prop:=λx a H Q=>∃(l:af) (xs:List Tx) (y:Tx),x=.ref l/\a=[tV y]/\H l=aa (.lst (bB xs))/\y∈xs/\Q .non (upd H l (.lst (bB (xs.erase y))))
theorem Qz{y:Tx}{xs:List Tx}{b:List ai}(r:bj (bB xs) b):∀u∈b,∃z t,u=Value.str (tS z) t:=by intro u c;obtain⟨i,d⟩:=List.mem_iff_getElem?.mp c;obtain⟨v,a,f⟩:=B9 r d;unfold bB at a;rw[g_]at a;obtain⟨z,_,rfl⟩:=mK.mp a;obtain⟨t,rfl⟩:=f;exact⟨z,t,rfl⟩
theorem Hi{y:Tx}:∀{xs:List Tx},y∈xs->∃j,j<xs.length/\xs[j]?=aa y/\(∀i z,i<j->xs[i]?=aa z->z≠y)/\xs.eraseIdx j=xs.erase y
 |x::xs,h=>by
  by_cases e:x=y
  .subst e;exact⟨0,by simp,rfl,λi z b=>∅,by simp⟩
  .obtain⟨j,g,f,d,c⟩:=Hi ((bo.mp h).resolve_left λz=>e z.symm);refine⟨j+1,by simp;lia,by simpa using f,λi z b a=>?_,by rw[Da,c,List.erase_cons_tail (by simpa using e)]⟩;cases i with
   |zero=>simp at a;subst a;exact e
   |succ i=>exact d i z ∅ (by simpa using a)
theorem FE{a b:Type}(f:a->b):∀(l:List a) (j:Nat),(l.map f).eraseIdx j=(l.eraseIdx j).map f
 |[],_=>rfl
 |x::l,0=>rfl
 |x::l,j+1=>by rw[cS,Da,Da,cS,FE f l j]
theorem Pr:qt X "list.remove" Km:=by
 intro ah s S H x T v W Q I B C h;obtain⟨l,xs,y,rfl,rfl,A,K,q⟩:=h;cases B;obtain⟨u,rfl,D⟩:=C.one;obtain⟨ty,rfl⟩:=D;obtain⟨z,a,n,r,N,e⟩:=I.lstM A;obtain⟨j,Y,G,E,o⟩:=Hi K;have bt:a.length=xs.length:=by rw[<-N];simp[bB]
 have g:∀(i:Nat) (p:i<a.toArray.size),∃w t,xs[i]?=aa w/\a.toArray[i]=Value.str (tS w) t:=λi p=>by
  have J:i<a.length:=by simpa using p
  obtain⟨v,b,d⟩:=B9 r (eF J);unfold bB at b;rw[g_]at b;obtain⟨w,P,rfl⟩:=mK.mp b;obtain⟨t,O⟩:=d;exact⟨w,t,P,by simpa using O⟩
 let eb:ai->Bool:=λv=>match v with|.str z _=>z.cps.toList == y|_=>am
 have c:∀(w:Tx) (t:Tok),eb (.str (tS w) t)=(w == y):=λw t=>by show((tS w).cps.toList == y)=_;rw[fL]
 refine pe F.slot_list_remove ⟨_,e,rfl⟩ F.entry_list_remove (F.args_list_remove_2 _ _) (MeetsSeq.list_remove l a.toArray n (.str (tS y) ty) eb (λw L=>?_) j (by simp;lia) ?_ (λm M f=>?_) (by rw[cc];lia)) ⟨e,?_⟩
 .obtain⟨w,t,rfl⟩:=Qz (y:=y) r w (by simpa using L);have:=SeqRoads2.EqGives.str (tS w) (tS y) t ty;rw[fL,fL]at this;rw[show eb (.str (tS w) t)=(w == y)from c w t];exact this
 .obtain⟨w,t,b,d⟩:=g j (by simp;lia);rw[G]at b;cases b;exact(congrArg eb d).trans ((c _ t).trans (by simp))
 .obtain⟨w,t,b,d⟩:=g m M;exact(congrArg eb d).trans ((c _ t).trans (by simpa using E m w f b))
 .refine⟨.non,_,I.lset (its':=a.eraseIdx j) A e (ys:=bB (xs.erase y)) ?_ ?_ ?_,rfl,q⟩
  .show a.toArray.eraseIdxIfInBounds j=(a.eraseIdx j).toArray;rw[Jg]
  .have:=r.eraseIdx j;rw[<-o];unfold bB at this ⊢;rw[show(xs.eraseIdx j).map tV=(xs.map tV).eraseIdx j from(FE tV xs j).symm];exact this
  .have:=Aw xs j;rw[o]at this;have e2:(bB xs).length=xs.length:=by simp[bB]
   have Z:(bB (xs.erase y)).length=(xs.erase y).length:=by simp[bB]
   lia
end
end L2
namespace Pu
open L2
section
variable{X:Cx}{E:XK}{pin:List Nat}{e:aD}{de:ak->R PV}{b:Pos}
def mj(i:Nat)(de:ak->R PV):ak->R aH:=λc=>(aJ (cB c i) c).bind λ_ c=>(de c).bind λy a=>(aJ (cB a i) a).bind λxs a=>match y with
 |.str y=>(aJ (eM xs) a).bind λd a=>if y∈d then .ok .next (a.set i (.own (.lst (aj (d.erase y)))))else .no
 |_=>.no
theorem Tn(i:Nat){x:Str}{p d c:Pos}(T:DE X E e de)(Z:X.N[i]?=aa x:=by rfl)(O:eR X.env.scope x:=by first|exact Or.inl rfl|exact Or.inr (Or.inl rfl)|exact Or.inr (Or.inr rfl))(W:(x==("__debug__":Str))=am:=by decide)(bu:(x==("__classdict__":Str))=am:=by decide) (h1:kf (.Name x p) "remove" X.env (aX (.Name x p) X.env)=aX (.Name x p) X.env:=by rfl)(h2:((cE c (aM [e] X.env)).all (λx=>!x.1)&&(mD c (mE [] X.env)).all (λx=>x.1.isSome)&&decide ([e].length+([]:List gJ).length+(if([]:List gJ).isEmpty then 0 else 1)<30))=ag:=by rfl)(h3:(d.endLine == c.line)=ag:=by rfl) (A:aM [e] X.env=(am,aX e X.env)::aM [] X.env:=by rfl) (h5:(cE c (aM [] X.env)).any (·.1)=am:=by rfl)(P:jG (.Call (.Attribute (.Name x p) "remove" d) [e] [] c) ae b.line X.env=pure am:=by rfl):DS X E pin (.Expr (.Call (.Attribute (.Name x p) "remove" d) [e] [] c) b) (mj i de):=λF S s r H D u h=>by
 unfold mj at h;cases o:cB s i with
 |none=>rw[o]at h;exact h.elim
 |some C=>
  rw[o]at h;simp only[cP,R.bind_ok]at h;obtain⟨a,G,m,Y,_,_,_⟩:=u.lstAt (fM o);refine gC (yC (sZ wd PySem.F.slot_list_remove PySem.F.type_list_remove Pr (fJ Z O W bu) (gB bP iG A) h1 h2 h3 A h5) P) ⟨.ref a,m,.inl ⟨rfl,_,cf.of Y⟩,?_⟩;refine T F S s r H _ u (h.bindE.imp λy j B S1 H1 w g1 q v I=>?_);cases g:cB j i with
  |none=>rw[g]at q;exact q.elim
  |some xs=>
   rw[g]at q;simp only[cP,R.bind_ok]at q;obtain⟨a',vs,f,M,K,_,_⟩:=w.lstAt (fM g);rw[m]at f;cases f;split at q
   .rename_i y;cases n:eM xs with
    |none=>rw[n]at q;exact q.elim
    |some l=>
     rw[n]at q;simp only[cP,R.bind_ok]at q;obtain rfl:=nh n;obtain⟨rfl,bt⟩:=T_.mp K;split at q
     .rename_i Q;have J:Reps X.K H1 B (aj (l.erase y)) (bB (l.erase y)):=T_.mpr ⟨rfl,λz N=>bt z (List.mem_of_mem_erase N)⟩;obtain⟨L,g2⟩:=w.upd (fM g) m J;exact⟨a,l,y,rfl,by rw[I.1],M,Q,q B S1 r _ L g2 (jb.refl _ _)⟩
     .exact q.elim
   .exact q.elim
end
end Pu
namespace L2
open Mx
section
variable{P:aO}{w:aG}{A:aR}{E:ai->ao->Prop}{s:ao}
def QrIs(h:az)(k:Str×List Str)(v:ai):Prop:=∃(a b:af) (t:Tok) (c:Array ai),v=.ref a/\IsTup h a #[.str k.1 t,.ref b]/\IsTup h b c/\cT c.toList k.2
theorem QrIs.inj{h:az}{k c:Str×List Str}{v:ai}(x:QrIs h k v)(y:QrIs h c v):k=c:=by
 obtain⟨a,b,t,f,rfl,l,j,i⟩:=x;obtain⟨q,p,o,d,e,m,n,g⟩:=y;cases e;have:=tup_uniq l m;injection this with this;injection this with e1 e2;injection e2 with e2 _;injection e1 with e1 _;injection e2 with e2;subst e2;obtain rfl:=tup_uniq j n;exact Prod.ext e1 (strs_uniq i g)
theorem QrIs.keep{h c:az}{k:Str×List Str}{v:ai}(x:QrIs h k v)(g:∀b o,h.get? b=aa o->c.get? b=aa o):QrIs c k v:=by obtain⟨a,b,t,its,rfl,i,f,d⟩:=x;exact⟨a,b,t,its,rfl,tup_kept i λb o e _=>g b o e,tup_kept f λb o e _=>g b o e,d⟩
def qrK(k:Str×List Str):List Tx:=k.1.cps.toList::cpsL k.2
def qrKey(h:az):KeyKind where
 toKeyOrd:=ordL
 keyOf:=λv=>open Classical in if z:∃k,QrIs h k v then aa (qrK z.choose)else ae
 dflt:=([]:List Tx)
theorem qrKey_of{h:az}{k:Str×List Str}{v:ai}(x:QrIs h k v):(qrKey h).keyOf v=aa (qrK k):=by
 have z:∃k,QrIs h k v:=⟨k,x⟩
 show(open Classical in if z:∃k,QrIs h k v then aa (qrK z.choose)else ae)=_;rw[dif_pos z,z.choose_spec.inj x]
theorem qrKey_some{h:az}{q:List Tx}{v:ai}(x:(qrKey h).keyOf v=aa q):∃k,QrIs h k v/\qrK k=q:=by
 by_cases z:∃k,QrIs h k v
 .obtain⟨k,z⟩:=z;rw[qrKey_of z]at x;exact⟨k,z,c8 x⟩
 .have:(qrKey h).keyOf v=ae:=dif_neg z;rw[this]at x;cases x
theorem qrLt{h i:az}(N:A.units+8<cLine)(k:∀b o,h.get? b=aa o->i.get? b=aa o):gY (qrKey h) (n6 ag) P w A {s with heap:=i}:=λE x y a b Q H G C=>by
 obtain⟨d,B,rfl⟩:=qrKey_some H;obtain⟨c,v,rfl⟩:=qrKey_some G;obtain⟨S,b1,t,u,rfl,I,p,n⟩:=B.keep k;obtain⟨O,b2,t',j,rfl,K,q,l⟩:=v.keep k;obtain⟨o,D,_,m,F⟩:=I;obtain⟨L,J,_,M,r⟩:=K;have f:Q (if d.1.cps.toList=c.1.cps.toList then ltL (cpsL d.2) (cpsL c.2)else decide (d.1.cps.toList<c.1.cps.toList)) {s with heap:=i}:=by rw[<-ltL_cons];exact C
 refine PySem.W.kat_lt D F J r ?_;show PySem.W.KatLex P w A ag _ Q [(Value.str d.1 t,Value.str c.1 t'),(Value.ref b1,Value.ref b2)] 0 _;refine zX (CS d.1 t c.1 t' _ _ _ _ ?_);by_cases g:d.1=c.1
 .rw[if_pos (by rw[g])]at f;rw[g,beq_self_eq_true];refine zY (zX (eq_strs ∅ p n q l _ _ _ _ ?_));by_cases e:d.2=c.2
  .rw[e]at f;rw[decide_eq_true e];refine zY (DJ ?_);have:ltL (cpsL c.2) (cpsL c.2)=am:=ordL.irrefl _;rw[this]at f;simpa using f
  .rw[decide_eq_false e];refine zZ ?_;show ar _ _ (oneLt' (ag&&(1 == 0)) _ _) _ _ _;simp only[show((1:Nat) == 0)=am from rfl,zC];exact DK _ _ (lt_tupStrs p q n l ∅ f)
 .rw[if_neg (λz=>g (cps_inj z))]at f;rw[beq_false_of_ne g];refine zZ ?_;exact oneLt_str f
theorem qr_kind{c:List ai}{Q:gk->ao->Prop}(d:∀v∈c,∃k,QrIs s.heap k v)(C:2<=c.length)(h:Q (n6 ag) s):ar (aw P w) A (wl c.toArray) Q E s:=by
 have i:∀(c:List ai),(∀v∈c,∃k,QrIs s.heap k v)->∃fs,JL s.heap c fs/\fs.length=c.length/\∀f∈fs,∃z t,f=Value.str z t:=by
  intro c
  induction c with
  |nil=>intro _;exact⟨[],JM,rfl,λf g=>by simp at g⟩
  |cons v c q=>
   intro d;obtain⟨fs,l,n,j⟩:=q λu r=>d u (dy _ r);obtain⟨k,a,b,t,p,rfl,⟨o,x,B,m,y⟩,_⟩:=d v eC;refine⟨.str k.1 t::fs,JN x B y rfl l,by simp[n],λf g=>?_⟩;rcases bo.mp g with rfl|g
   .exact⟨_,t,rfl⟩
   .exact j f g
 obtain⟨fs,l,n,j⟩:=i c d;refine JO (T:=.type "str") l ∅ (λv d=>?_) (by decide) ?_
 .obtain⟨z,t,rfl⟩:=j v d;exact .now
 .have:(Value.type "str" != Value.type "tuple")=ag:=by decide
  rw[this];exact h
abbrev QrK:=Tx×List Tx
def QrH(H:Hp)(k:QrK)(a:af):Prop:=∃b,H a=aa (.tup [tV k.1,.ref b])/\H b=aa (.tup (bB k.2))
theorem QrH.is{P:aO}{w:aG}{H:Hp}{h:az}{k:QrK}{a:af}(ok:cX P w H h)(x:QrH H k a):QrIs h (tS k.1,k.2.map tS) (.ref a):=by
 obtain⟨b,j,i⟩:=x;obtain⟨_,g,r,p,_⟩:=(show cm P w H h a (.tup [tV k.1,.ref b])from ok a _ j)
 obtain⟨_,c,d,f,_⟩:=(show cm P w H h b (.tup (bB k.2))from ok b _ i)
 cases r with
 |cons m r=>cases r with
  |cons l r=>
   cases r;obtain⟨t,rfl⟩:=m;cases l;exact⟨a,b,t,c.toArray,rfl,p,f,by have:=pO d;rw[qI];exact this⟩
def refsQ(a:List (QrK×af)):List V:=a.map λq=>.ref q.2
theorem refsQ_vals:∀{a:List (QrK×af)}{b:List ai},bj (refsQ a) b->b=a.map λq=>Value.ref q.2
 |[],_,h=>by cases h;rfl
 |q::a,_,h=>by
  cases h with
  |cons d c=>cases d;rw[refsQ_vals c];rfl
theorem vals_refsQ:∀(a:List (QrK×af)),bj (refsQ a) (a.map λq=>Value.ref q.2)
 |[]=>.nil
 |q::a=>.cons rfl (vals_refsQ a)
section
variable{X:Cx}
theorem call_sortedQr(hu:X.A.units+64<cLine)(hc:X.calm=ag):dE X (.builtin "sorted") (λxs H Q=>∃(p:af) (j:List (QrK×af)),xs=[.ref p]/\cf X.K H p (refsQ j)/\(∀q∈j,QrH H q.1 q.2)/\j.length<=1000000 /\ ∀l f,H l=ae->wy f j->f.Pairwise (λx y=>ltL (y.1.1::y.1.2) (x.1.1::x.1.2)=am)->Q (.ref l) (upd H l (.lst (refsQ f)))):=by
 intro ah s L H xs us Q I r h;obtain⟨p,j,rfl,W,Z,F,q⟩:=h;obtain⟨u,rfl,N⟩:=vals1 r;cases N;obtain⟨D,M,S,hz⟩:=I.list W;have a:=refsQ_vals M;have c:∀(i:az),(∀b o,s.heap.get? b=aa o->i.get? b=aa o)->∀x∈j,QrIs i (tS x.1.1,x.1.2.map tS) (.ref x.2):=λi k x g=>((Z x g).is I.hok).keep k;refine sorted_genK ∅ (collect_list S.isList ?_ (by rw[a,bX];exact i7 (mq F)));obtain⟨d,G⟩:∃d,d=(s.heap.push (gQ "list" #[] 0)).update s.heap.objs.size (jt (·++D.toArray)):=⟨_,rfl⟩
 have k:∀b o,s.heap.get? b=aa o->d.get? b=aa o:=λb o e=>by rw[G];exact(mI _ _ (λz:s.heap.objs.size=b=>eV _ (z ▸ bz e))).trans (bD _ e)
 rw[<-G];clear G;have K:Inv X ah L H {s with heap:=d,toks:=s.toks}:=I.kept (t':=s.toks) k;refine⟨qrKey d,n6 ag,λv m=>?_,by rw[a,bX];exact F,λA' i hA n fV=>⟨qrLt hA n,λ{E Q} O=>qr_kind (s:={s with heap:=i,toks:=s.toks}) (λv m=>?_) fV O⟩,λi C e n fU b1 b2=>?_⟩
 .rw[a]at m;obtain⟨x,g,rfl⟩:=bH.mp m;exact⟨_,qrKey_of (c d k x g)⟩
 .rw[a]at m;obtain⟨x,g,rfl⟩:=bH.mp m;exact⟨_,c i (λb o e=>n b o (k b o e)) x g⟩
 .rw[a]at b1;obtain⟨f,J,B⟩:=perm_mapE b1;refine⟨.ref _,_,K.laid (t':=s.toks) (o:=.lst (refsQ f)) n (a8 _) ⟨?_,C.toList,e,by rw[J];exact vals_refsQ f,by rw[zR];exact fU⟩,rfl,q _ f K.fresh B ?_⟩
  .unfold refsQ;rw[bX,B.length_eq];exact i7 (mq F)
  .rw[J]at b2;refine(kQ.mp b2).imp_of_mem λ{x y} g T Y=>?_;have:ltL _ _=am:=Y _ _ (qrKey_of (c d k x (B.mem_iff.mp g))) (qrKey_of (c d k y (B.mem_iff.mp T)));simpa[qrK,cpsL,cJ,qP,fL]using this
end
end
end L2
namespace Pu
open L2
section
variable{X:Cx}{E:XK}{pin:List Nat}{d:Pos}
def sm(i:Nat):ak->R PV:=λa=>(aJ (cB a i) a).bind λxs a=>match xs with
 |v::r=>.ok v (a.set i (.own (.lst r)))
 |[]=>.no
theorem Sf(i:Nat){x:Str}{p c b f:Pos}{z:Nat}(G:X.N[i]?=aa x:=by rfl)(B:eR X.env.scope x:=by first|exact Or.inl rfl|exact Or.inr (Or.inl rfl)|exact Or.inr (Or.inr rfl))(D:(x==("__debug__":Str))=am:=by decide)(M:(x==("__classdict__":Str))=am:=by decide) (L:kf (.Name x p) "pop" X.env (aX (.Name x p) X.env)=aX (.Name x p) X.env:=by rfl)(K:((cE b (aM [.Constant (.int 0) z f] X.env)).all (λx=>!x.1)&&(mD b (mE [] X.env)).all (λx=>x.1.isSome)&&decide ([Expr.Constant (.int 0) z f].length+([]:List gJ).length+(if([]:List gJ).isEmpty then 0 else 1)<30))=ag:=by rfl)(J:(c.endLine == b.line)=ag:=by rfl) (m:aM [.Constant (.int 0) z f] X.env=(am,aX (.Constant (.int 0) z f) X.env)::aM [] X.env:=by rfl) (I:(cE b (aM [] X.env)).any (·.1)=am:=by rfl):DE X E (.Call (.Attribute (.Name x p) "pop" c) [.Constant (.int 0) z f] [] b) (sm i):=λF S q N H Q j h=>by
 unfold sm at h;cases g:cB q i with
 |none=>rw[g]at h;exact h.elim
 |some xs=>
  rw[g]at h;simp only[cP,R.bind_ok]at h;obtain⟨a,O,o,l,A,_,_⟩:=j.lstAt (fM g);cases xs with
  |nil=>exact h.elim
  |cons v r=>
   obtain⟨u,s,rfl,w,C⟩:=A;obtain⟨y,n⟩:=j.upd (fM g) o C;refine bZ (sZ wd PySem.F.slot_list_pop PySem.F.type_list_pop Nf (fJ G B D M) (gB Iq iG m) L K J m I) ⟨.ref a,o,.inl ⟨rfl,_,cf.of l⟩,a,u::s,0,0,u,rfl,rfl,l,by decide,by decide,?_,rfl,?_⟩
   .simp[seqIndex?]
   .exact h F S _ y n u (w.grow n j.fit)
def fN(i j:Nat)(b:ak->R aH):List PV->ak->R aH
 |[],ε=>.ok .next ε
 |x::xs,ε=>match x with
  |.tup [u,v]=>match b ((ε.set i (.val u)).set j (.val v))with
   |.ok .next a=>fN i j b xs a
   |.ok .cont a=>fN i j b xs a
   |.ok .brk a=>.ok .next a
   |r=>r
  |_=>.no
def jC(i j:Nat)(b:ak->R (List PV))(c:ak->R aH):ak->R aH:=λa=>(b a).bind λxs ε1=>fN i j c xs ε1
theorem Cv(i j:Nat){x y:Str}{p p2 B:Pos}{k:Nat}{n:aD}{o:List bg}{di:ak->R (List PV)}{L:ak->R aH}(wT:zt (aw X.prog X.w) X.A X.env X.xe)(hc:X.calm=ag)(hN:X.N.Nodup)(hi:DI X E (.Tuple [.Name x p,.Name y p2] k B) n di)(hb:gv X E pin o L)(hp:i∉pin:=by decide) (cW:j∉pin:=by decide) (I:X.N[i]?=aa x:=by rfl) (hy:X.N[j]?=aa y:=by rfl) (Y:Loc X.env.scope x:=by first|exact Or.inl rfl|exact Or.inr rfl) (fV:Loc X.env.scope y:=by first|exact Or.inl rfl|exact Or.inr rfl) (hs:∀x,o8 n X.env x=pure x:=by intro _;rfl)(hf:X.fn x=ag\/X.env.scope.names.lookup x=aa .local:=by first|exact .inl rfl|exact .inr rfl) (wP:X.fn y=ag\/X.env.scope.names.lookup y=aa .local:=by first|exact .inl rfl|exact .inr rfl):DS X E pin (.For (.Tuple [.Name x p,.Name y p2] k B) n o [] d) (jC i j di L):=λF S ε σ H D rl h=>by
 refine gC (GA wT hc zl (Hv hc (zf (tD hN I Y hf) (zf (tD hN hy fV wP) Hr))) ql hs) (hi F S ε σ H _ rl (h.bindE.imp λxs N F1 S1 H1 r1 g1 h1 J vs RR rs hz hw keep=>?_));refine Ho hw (λk a m=>∃r z l,aS X.K r z l a m/\bA (U S1) (U z) F1 r H1 m/\gE X.K E pin a r z m (fN i j L (xs.drop k) l) D) ⟨F1,S1,N,r1,bA.refl ..,h1⟩ (λk a m _ ⟨r,z,l,_,g,_⟩=>keep z r m g) ?_ ?_
 .rintro k v a m hv ⟨r,z,l,T,K,q⟩;obtain⟨x,I,rx⟩:=rs.back hv;have hk:k<xs.length:=(c9.mp I).1;have ed:xs.drop k=x::xs.drop (k+1):=by rw[wc hk];congr 1;exact(c9.mp I).2
  rw[ed]at q;have Q:=rx.grow K r1.fit;unfold fN at q;split at q
  .rename_i u w;obtain⟨pp,us,rfl,cN,ru⟩:=Q;obtain⟨P,ra,rfl,r2,O,rb,rfl,C,rfl⟩:=ru;have r5:=(T.set (i:=i) r2).set (i:=j) C;have Z:bA (U z) (U λW b=>(z W b/\W≠i)/\W≠j) r r m m:=(bA.less i).trans (bA.less j);refine⟨pp,_,rfl,cH.of cN,rfl,P,_,rfl,O,_,rfl,rfl,?_⟩;show oP X o _ ((a.set i (aa P)).set j (aa O)) m;refine hb r _ _ _ m _ r5 ?_;have q:=q.from Z ((jb.set (x:=aa P) hp).trans (jb.set (x:=aa O) cW));cases e:L ((l.set i (.val u)).set j (.val w))with
   |no=>rw[e]at q;exact q
   |er c A=>rw[e]at q;exact q
   |ok f A=>
    rw[e]at q;cases f with
    |next=>exact λF3 S3 M H3 C G B=>⟨F3,S3,A,C,(K.trans Z).trans G,q.from G B⟩
    |cont=>exact λF3 S3 M H3 C G B=>⟨F3,S3,A,C,(K.trans Z).trans G,q.from G B⟩
    |brk=>exact q
    |ret s=>exact q
  .exact q.elim
 .rintro a m ⟨r,z,l,T,K,q⟩;have Y:vs.length=xs.length:=rs.len;rw[Y,Jy]at q;exact q r z a m T (bA.refl ..) (jb.refl _ _)
def vA:PV->Option QrK
 |.tup [.str x,.tup xs]=>(eM xs).map λa=>(x,a)
 |_=>ae
def uV:List PV->Option (List QrK)
 |[]=>aa []
 |x::xs=>(vA x).bind λk=>(uV xs).bind λks=>aa (k::ks)
def df(k:QrK):PV:=.tup [.str k.1,.tup (aj k.2)]
def sT(a b:QrK):Bool:=g8 (a.1::a.2) (b.1::b.2)
def kZ(ks:List QrK):List QrK:=ks.mergeSort sT
def qr:List PV->Option PO
 |[.lst xs]=>(uV xs).bind λks=>if ks.length<=1000000 then aa (.lst ((kZ ks).map df))else ae
 |_=>ae
theorem NI{x:PV}{k:QrK}(h:vA x=aa k):x=df k:=by
 unfold vA at h;split at h
 .obtain⟨b,a,rfl⟩:=mK.mp h;rw[nh a];rfl
 .cases h
theorem EM:∀{xs:List PV}{ks:List QrK},uV xs=aa ks->xs=ks.map df
 |[],ks,h=>by cases h;rfl
 |x::xs,ks,h=>by
  obtain⟨k,g,f⟩:=jv.mp h;obtain⟨a,c,b⟩:=jv.mp f;cases b;rw[EM c,NI g];rfl
theorem F8:∀ks:List QrK,uV (ks.map df)=aa ks
 |[]=>rfl
 |k::ks=>by
  show(vA (df k)).bind _=_;have:vA (df k)=aa k:=by show(eM (aj k.2)).map _=_;rw[l_];rfl
  rw[this,fj,F8 ks];rfl
theorem PY{K:ay}{H:Hp}{F:af->Prop}{k:QrK}{v:V}(h:aU K H F (df k) v):∃a,v=.ref a/\QrH H k a:=by obtain⟨a,n,rfl,f,p,q,rfl,l,o,g,rfl,⟨b,m,rfl,c,j⟩,i⟩:=h;rw[show g=[] from i,l.1]at f;rw[(T_.mp j).1]at c;exact⟨a,rfl,b,f,c⟩
theorem HN{K:ay}{H:Hp}{F:af->Prop}:∀{ks:List QrK}{f:List V},Reps K H F (ks.map df) f->∃b:List (QrK×af),b.map (·.1)=ks/\f=refsQ b/\∀q∈b,QrH H q.1 q.2/\aU K H F (df q.1) (.ref q.2)
 |[],_,h=>⟨[],rfl,h,λq c=>by cases c⟩
 |k::ks,_,⟨v,r,e,g,n⟩=>by
  obtain⟨a,rfl,m⟩:=PY g;obtain⟨b,l,j,i⟩:=HN n;refine⟨(k,a)::b,by rw[cS,l],by rw[e,j];rfl,λq c=>?_⟩;rcases bo.mp c with rfl|c
  .exact⟨m,g⟩
  .exact i q c
theorem Fy{K:ay}{H:Hp}{F:af->Prop}:∀{a:List (QrK×af)},(∀q∈a,aU K H F (df q.1) (.ref q.2))->Reps K H F ((a.map (·.1)).map df) (refsQ a)
 |[],_=>rfl
 |q::a,h=>⟨_,_,rfl,h q eC,Fy λx b=>h x (dy _ b)⟩
theorem RY{ks f:List QrK}(i:f.Perm ks)(g:f.Pairwise (λx y=>ltL (y.1::y.2) (x.1::x.2)=am)):f=kZ ks:=by refine zD (le:=λa b=>sT a b=ag) (λa b _ _ l j=>?_) (g.imp λh=>by unfold sT g8;rw[h];rfl) (C1 (le:=sT) (λa b c=>E1 (a.1::a.2) (b.1::b.2) (c.1::c.2)) (λa b=>Iy (a.1::a.2) (b.1::b.2)) ks) (i.trans (tT ks sT).symm);have:=HU _ _ l j;injection this with e1 e2;exact Prod.ext e1 e2
theorem As(ks:List QrK):(kZ ks).Perm ks:=tT ks sT
theorem Tf:jW X.K (λxs H Q=>∃(p:af) (b:List (QrK×af)),xs=[.ref p]/\cf X.K H p (refsQ b)/\(∀q∈b,QrH H q.1 q.2)/\b.length<=1000000 /\ ∀l g,H l=ae->wy g b->g.Pairwise (λx y=>ltL (y.1.1::y.1.2) (x.1.1::x.1.2)=am)->Q (.ref l) (upd H l (.lst (refsQ g)))) qr:=λF H xs L Q N I g e q=>by
 unfold qr at e;split at e
 .obtain⟨v,rfl,a,M,rfl,G,_,u⟩:=gz g;obtain⟨ks,K,j⟩:=jv.mp e;have:=EM K;subst this;obtain⟨b,r,rfl,n⟩:=HN u;split at j
  .rename_i D;cases j;refine⟨a,b,rfl,.inl G,λq C=>(n q C).1,by rw[<-bX (f:=(·.1)),r];exact D,λl m i s B=>?_⟩;have al:Al F F H (upd H l (.lst (refsQ m))):=Al.new0 i;have J:m.map (·.1)=kZ ks:=by rw[<-r];exact RY (s.map _) (kQ.mpr B)
   refine q l F _ (λc=>c=l) al ⟨⟨_,bV,?_⟩,λc=>nY⟩ λc z=>?_
   .rw[<-J];refine Fy λy A=>?_;exact aU.mono (λ_ h=>h) (λ_ _ _ h=>al.same.rd h) (λc o h _=>al.same c o h) _ _ (n y (s.mem_iff.mp A)).2
   .subst z;exact⟨i,λz=>ub (I _ z) (λo w=>by rw[i]at w;cases w),_,bV,trivial⟩
  .cases j
 .cases e
end
end Pu
namespace HT
theorem getItem_tuple_whole{c:aO}{w:aG}{A:aR}{E:ai->ao->Prop}{s:ao}{t i:af}{a:Array ai}{n m:ai}{b g:Option Int}{Q:ai->ao->Prop}(f:IsTup s.heap t a)(o:s.heap.IsSliceOf i n m .none)(r:lE n b)(q:lE m g)(x:sIx a.size 0 b=0) (v:sIx a.size a.size g=a.size) (h:Q (.ref t) s):ar (aw c w) A (nJ (.ref t) (.ref i)) Q E s:=by
 obtain⟨u,p,j,y⟩:=id o;have l:s.TypeIs (.ref i) "slice":=⟨u,p,j⟩
 unfold nJ
 try with_reducible refine iM ?_
 first|refine aq (aC ?_)|skip
 refine aq (wpAny_sequenceKey f.typeIs (by decide) ?_);refine aq (zy (name:=vX "__getitem__") f.typeIs CO (mH CO f.typeIs entry_tuple_getitem ?_ (args_tuple_getitem _ _)));show ar _ _ (Jd (.ref t) >>= _) _ _ s;refine aq (tupleItemsOf_ f ?_);refine aq (tI l ?_);rw[if_pos (by decide)];refine aq (HD o r q ?_);have d:(((sIx a.size 0 b:Nat):Int) == 0&&(1:Int) == 1&&(sIx a.size a.size g-sIx a.size 0 b) == a.size)=ag:=by rw[x,v];simp
 show ar _ _ (if(((sIx a.size 0 b:Nat):Int) == 0&&(1:Int) == 1&&(sIx a.size a.size g-sIx a.size 0 b) == a.size)=ag then _ else _) _ _ s;rw[if_pos d];unfold Builtin.Tuple.tupleIsExact;refine aq (aq (tI f.typeIs (aC ?_)));rw[if_pos (by decide)];exact aq (mO (aC ⟨_,rfl,aC h⟩))
end HT
namespace L2
def Cg(K:ay):V->Option Int->Option Int->Hp->VK->Prop:=λx b c H Q=>∃a xs,x=.ref a/\cH K H a xs/\HT.sIx xs.length 0 b=0/\HT.sIx xs.length xs.length c=xs.length/\Q (.ref a) H
theorem T8{X:Cx}:k9 X (Cg X.K):=by
 intro B s o H x v u p y A w Q I f l i g h;obtain⟨a,xs,rfl,j,n,m,q⟩:=h;cases f;obtain⟨b,r,c,z⟩:=I.tuple j;have d:b.toArray.size=xs.length:=by rw[cc];exact r.length.symm
 refine⟨"tuple",_,PyProof.Rows.slot_tuple_getitem.lookup,c.typeIs,?_⟩;exact HT.getItem_tuple_whole c l i g (by rw[d];exact n) (by rw[d];exact m) ⟨.ref a,H,I,rfl,q⟩
end L2
namespace Pu
open L2
def zm:PV->Option Int->Option Int->Option PV
 |.tup xs,a,b=>if HT.sIx xs.length 0 a=0/\HT.sIx xs.length xs.length b=xs.length then aa (.tup xs)else aa (.tup (dU xs a b))
 |x,a,b=>gU x a b
theorem OT{X:Cx}:k9 X (λx a b H Q=>Cg X.K x a b H Q\/yk X.K x a b H Q):=T8.or tu
theorem KY{K:ay}:Bn K (λx b c H Q=>Cg K x b c H Q\/yk K x b c H Q) zm:=λF H x b c v Q pv d e q=>by
 cases x with
 |tup xs=>
  unfold zm at e;dsimp only at e;split at e
  .rename_i f;cases e;obtain⟨a,h,rfl,i,g⟩:=id d;exact .inl ⟨a,h,rfl,cH.of i,by rw[g.len];exact f.1,by rw[g.len];exact f.2,q _ F H (Al.refl ..) d⟩
  .rename_i f;exact .inr (qp F H _ b c v Q pv d ((if_neg f).trans e) q)
 |_=>exact .inr (qp F H _ b c v Q pv d e q)
end Pu
namespace L2
open Mx
section
variable{P:aO}{w:aG}{A:aR}{E:ai->ao->Prop}{s:ao}
def DrIs(h:az)(k:List Str×List Str)(v:ai):Prop:=k.1≠[]/\∃(a b c:af) (f d:Array ai),v=.ref a/\IsTup h a #[.ref b,.ref c]/\IsTup h b f/\cT f.toList k.1/\IsTup h c d/\cT d.toList k.2
theorem DrIs.inj{h:az}{k f:List Str×List Str}{v:ai}(x:DrIs h k v)(y:DrIs h f v):k=f:=by
 obtain⟨_,a,b,c,m,g,rfl,u,r,q,p,o⟩:=x;obtain⟨_,G,F,D,i,d,e,B,C,n,l,j⟩:=y;cases e;have z:b=F/\c=D:=by have:=congrArg Array.toList (tup_uniq u B);simp at this;exact this
 obtain⟨rfl,rfl⟩:=z;obtain rfl:=tup_uniq r C;obtain rfl:=tup_uniq p l;exact Prod.ext (strs_uniq q n) (strs_uniq o j)
def hashTs(P:aO)(w:aG)(a:List Str):Int:=vR (nE (a.map (gM P w).hash))
def hashDr(P:aO)(w:aG)(k:List Str×List Str):Int:=vR (nE [hashTs P w k.1,hashTs P w k.2])
theorem hash_ts{b:af}{a:Array ai}{c:List Str}(j:A.units+1<cLine)(i:IsTup s.heap b a)(h:cT a.toList c):HsAt P w A s (.ref b) (hashTs P w c):=by obtain⟨g,f,d⟩:=strs_pairs (P:=P) (w:=w) (A:=A.in1) (s:=s) h;have:=hash_tup (P:=P) (w:=w) (A:=A) (s:=s) ∅ i g d;rw[f]at this;exact this
theorem hash_dr{k:List Str×List Str}{v:ai}(n:A.units+4<cLine)(x:DrIs s.heap k v):HsAt P w A s v (hashDr P w k):=by
 obtain⟨_,a,b,c,g,d,rfl,m,l,j,i,h⟩:=x;refine hash_tup (hs:=[(.ref b,hashTs P w k.1),(.ref c,hashTs P w k.2)]) ∅ m rfl λp f=>?_;simp only[bo,hG,or_false]at f;rcases f with rfl|rfl
 .exact hash_ts (show A.units+1+1<cLine by lia) l j
 .exact hash_ts (show A.units+1+1<cLine by lia) i h
def drKd(P:aO)(w:aG):Keyd P w (List Str×List Str) where
 is:=DrIs
 hash:=hashDr P w
 room:=λA=>A.units+4<cLine
 keep:=λ⟨D,a,b,c,g,d,e,i,l,h,p,m⟩ k=>⟨D,a,b,c,g,d,e,tup_kept i k,tup_kept l k,h,tup_kept p k,m⟩
 ref:=λ⟨_,a,_,_,_,_,e,⟨o,i,_⟩,_⟩=>⟨a,o,e,i⟩
 eqBool:=λ{A E s x y u v Q} Y H G q=>by
  by_cases B:u=v
  .subst B;obtain rfl:=H.inj G;rw[decide_eq_true rfl]at q;exact SeqAt.EqAt.same _ _ _ _ _ q
  .obtain⟨_,a,b,c,g,d,rfl,i,l,h,p,m⟩:=H;obtain⟨_,a',b',Z,F,C,rfl,M,N,K,r,I⟩:=G;have L:decide (x=y)=((cq (min 2 2)).all (λj=>if j=0 then decide (x.1=y.1)else decide (x.2=y.2))&&2 == 2):=by obtain⟨W,T⟩:=x;obtain⟨S,O⟩:=y;rw[kc];simp[qG]
   rw[L]at q;refine SeqAt.EqAt.of_refs (λz=>B (by rw[z])) (.tuples i M ∅ λj J X=>?_) _ _ _ _ q
   match j,J with
   |0,_=>exact eq_strs (show A.units+1<cLine by lia) l h N K
   |1,_=>exact eq_strs (show A.units+1<cLine by lia) p m r I
 quiet:=λ⟨_,a,b,c,g,d,e,i,l,h,p,m⟩ q=>by
  subst e;refine quiet_tup (n:=7) i (λv f E Q q=>?_) q;simp only[bo,hG,or_false]at f;rcases f with rfl|rfl
  .refine quiet_tup (n:=6) l (λv f E Q q=>?_) q;obtain⟨z,t,rfl⟩:=strs_mem_shape h v f;exact qL (by unfold wq;rfl) q
  .refine quiet_tup (n:=6) p (λv f E Q q=>?_) q;obtain⟨z,t,rfl⟩:=strs_mem_shape m v f;exact qL (by unfold wq;rfl) q
 cls:=λ⟨_,a,b,c,g,d,e,i,l,h,p,m⟩ q=>by
  subst e;refine cls_tup (n:=7) i (λv f E Q q=>?_) q;simp only[bo,hG,or_false]at f;rcases f with rfl|rfl
  .refine cls_tup (n:=6) l (λv f E Q q=>?_) q;obtain⟨z,t,rfl⟩:=strs_mem_shape h v f;exact qL (by unfold wt;rfl) q
  .refine cls_tup (n:=6) p (λv f E Q q=>?_) q;obtain⟨z,t,rfl⟩:=strs_mem_shape m v f;exact qL (by unfold wt;rfl) q
 hbv:=λ⟨D,a,b,c,g,d,e,i,l,h,p,m⟩ q=>by
  subst e;refine hbv_tup (n:=7) (pre:=[]) (x:=.ref b) (post:=[.ref c]) i rfl (λv f=>by simp at f) (λE Q q=>?_) q;cases r:g.toList with
  |nil=>rw[r]at h;have:=strs_len h;exact absurd (pf this.symm) D
  |cons v rest=>refine hbv_tup (n:=6) (pre:=[]) (x:=v) (post:=rest) l r (λv f=>by simp at f) (λE Q q=>?_) q;obtain⟨z,t,rfl⟩:=strs_mem_shape h v (by rw[r];simp);exact qL (by unfold wu;rfl) q
def ltD(a b:List Tx×List Tx):Bool:=if a.1=b.1 then ltL a.2 b.2 else ltL a.1 b.1
theorem ltL_tot{a b:List Tx}(h:a≠b):ltL a b=am->ltL b a=ag:=λd=>by
 cases c:ltL b a with
 |true=>rfl
 |false=>exact absurd (ordL.total a b d c) h
theorem ltL_irr(a:List Tx):ltL a a=am:=ordL.irrefl a
def ordD:KeyOrd where
 α:=List Tx×List Tx
 blt:=ltD
 irrefl:=λa=>by unfold ltD;rw[if_pos rfl];exact ltL_irr _
 trans:=λa b c g f=>by
  unfold ltD at *;by_cases i:a.1=b.1
  .rw[if_pos i]at g;by_cases d:b.1=c.1
   .rw[if_pos d]at f;rw[if_pos (i.trans d)];exact ordL.trans _ _ _ g f
   .rw[if_neg d]at f;rw[if_neg (by rw[i];exact d),i];exact f
  .rw[if_neg i]at g;by_cases d:b.1=c.1
   .rw[if_neg (by rw[<-d];exact i),<-d];exact g
   .rw[if_neg d]at f;have m:=ordL.trans _ _ _ g f;have l:ltL a.1 c.1=ag:=m;rw[if_neg (λz=>by rw[z,ltL_irr]at l;cases l)];exact m
 negTrans:=λa b c h=>by
  unfold ltD at *;by_cases j:a.1=b.1
  .rw[if_pos j];by_cases d:b.1=c.1
   .rw[if_pos (j.trans d)]at h;rw[if_pos d];exact ordL.negTrans _ _ _ h
   .rw[if_neg (by rw[j];exact d)]at h;rw[if_neg d,<-j];exact .inr h
  .rw[if_neg j];by_cases d:b.1=c.1
   .rw[if_neg (by rw[<-d];exact j)]at h;rw[d];exact .inl h
   .rw[if_neg d];by_cases i:a.1=c.1
    .cases n:ltL a.1 b.1 with
     |true=>exact .inl rfl
     |false=>have:=ltL_tot j n;rw[i]at this;exact .inr this
    .rw[if_neg i]at h;exact ordL.negTrans _ _ _ h
 total:=λa b g f=>by
  unfold ltD at *;by_cases e:a.1=b.1
  .rw[if_pos e]at g;rw[if_pos e.symm]at f;exact Prod.ext e (ordL.total _ _ g f)
  .rw[if_neg e]at g;rw[if_neg (λz=>e z.symm)]at f;exact absurd (ordL.total _ _ g f) e
def cpsD(k:List Str×List Str):List Tx×List Tx:=(cpsL k.1,cpsL k.2)
def drKey(h:az):KeyKind where
 toKeyOrd:=ordD
 keyOf:=λv=>open Classical in if z:∃k,DrIs h k v then aa (cpsD z.choose)else ae
 dflt:=(([],[]):List Tx×List Tx)
theorem drKey_of{h:az}{k:List Str×List Str}{v:ai}(x:DrIs h k v):(drKey h).keyOf v=aa (cpsD k):=by
 have z:∃k,DrIs h k v:=⟨k,x⟩
 show(open Classical in if z:∃k,DrIs h k v then aa (cpsD z.choose)else ae)=_;rw[dif_pos z,z.choose_spec.inj x]
theorem drKey_some{h:az}{q:List Tx×List Tx}{v:ai}(x:(drKey h).keyOf v=aa q):∃k,DrIs h k v/\cpsD k=q:=by
 by_cases z:∃k,DrIs h k v
 .obtain⟨k,z⟩:=z;rw[drKey_of z]at x;exact⟨k,z,c8 x⟩
 .have:(drKey h).keyOf v=ae:=dif_neg z;rw[this]at x;cases x
theorem drLt{h:az}(Z:A.units+8<cLine)(k:∀b o,h.get? b=aa o->o.cls=.type "tuple"->s.heap.get? b=aa o):gY (drKey h) (n6 am) P w A s:=λE x y a b Q M L I=>by
 obtain⟨f,H,rfl⟩:=drKey_some M;obtain⟨d,G,rfl⟩:=drKey_some L;obtain⟨_,a1,b1,W,F,n,rfl,N,B,v,u,r⟩:=(drKd P w).keep H k;obtain⟨_,a2,b2,T,p,i,rfl,S,C,q,l,j⟩:=(drKd P w).keep G k;obtain⟨o,J,_,m,K⟩:=N;obtain⟨X,O,_,Y,D⟩:=S;have c:Q (if cpsL f.1=cpsL d.1 then ltL (cpsL f.2) (cpsL d.2)else ltL (cpsL f.1) (cpsL d.1)) s:=I;refine PySem.W.kat_lt J K O D ?_;show PySem.W.KatLex P w A am _ Q [(Value.ref b1,Value.ref b2),(Value.ref W,Value.ref T)] 0 s;refine zX (eq_strs ∅ B v C q _ _ _ _ ?_);by_cases g:f.1=d.1
 .rw[if_pos (by rw[g])]at c;rw[decide_eq_true g];refine zY (zX (eq_strs ∅ u r l j _ _ _ _ ?_));by_cases e:f.2=d.2
  .rw[e,ltL_irr]at c;rw[decide_eq_true e];exact zY (DJ (by simpa using c))
  .rw[decide_eq_false e];exact zZ (DK _ _ (lt_tupStrs u l r j ∅ c))
 .rw[if_neg (λz=>g (cpsL_inj z))]at c;rw[decide_eq_false g];exact zZ (DK _ _ (lt_tupStrs B C v q ∅ c))
theorem drKind{d:List ai}{Q:gk->ao->Prop}(i:∀v∈d,∃k,DrIs s.heap k v)(B:2<=d.length)(h:Q (n6 am) s):ar (aw P w) A (wl d.toArray) Q E s:=by
 have l:∀(d:List ai),(∀v∈d,∃k,DrIs s.heap k v)->∃fs,JL s.heap d fs/\fs.length=d.length/\∀f∈fs,∃b g,f=Value.ref b/\IsTup s.heap b g:=by
  intro d
  induction d with
  |nil=>intro _;exact⟨[],JM,rfl,λf j=>by simp at j⟩
  |cons v d C=>
   intro i;obtain⟨fs,p,z,n⟩:=C λu D=>i u (dy _ D);obtain⟨k,_,a,b,c,g,y,rfl,⟨o,r,x,m,F⟩,B,_⟩:=i v eC;refine⟨.ref b::fs,JN r x F rfl p,by simp[z],λf j=>?_⟩;rcases bo.mp j with rfl|j
   .exact⟨b,g,rfl,B⟩
   .exact n f j
 obtain⟨fs,p,z,n⟩:=l d i;refine JO (T:=.type "tuple") p ∅ (λv i=>?_) (by decide) ?_
 .obtain⟨b,g,rfl,o,r,x,_⟩:=n v i;exact λ_ _ _ _ k q=>tI ⟨o,k _ _ r,x⟩ q
 .have:(Value.type "tuple" != Value.type "tuple")=am:=by decide
  rw[this];exact h
end
section
variable{X:Cx}
abbrev DrK:=List Tx×List Tx
def kSD(k:DrK):List Str×List Str:=(k.1.map tS,k.2.map tS)
theorem kSD_inj{a b:DrK}(h:kSD a=kSD b):a=b:=by obtain⟨g,f⟩:=a;obtain⟨b1,b2⟩:=b;have d:=congrArg (λx=>cpsL x.1) h;have c:=congrArg (λx=>cpsL x.2) h;simp only[kSD,cpsL,cJ,qP,fL,z7]at d c;rw[d,c]
def DrH(H:Hp)(k:DrK)(a:af):Prop:=k.1≠[]/\∃b c,H a=aa (.tup [.ref b,.ref c])/\H b=aa (.tup (bB k.1))/\H c=aa (.tup (bB k.2))
theorem DrH.is{P:aO}{w:aG}{H:Hp}{h:az}{k:DrK}{a:af}(ok:cX P w H h)(x:DrH H k a):DrIs h (kSD k) (.ref a):=by
 obtain⟨v,b,c,u,s,q⟩:=x;obtain⟨_,o,r,p,_⟩:=(show cm P w H h a (.tup [.ref b,.ref c])from ok a _ u)
 obtain⟨_,f,l,n,_⟩:=(show cm P w H h b (.tup (bB k.1))from ok b _ s)
 obtain⟨_,d,j,m,_⟩:=(show cm P w H h c (.tup (bB k.2))from ok c _ q)
 obtain _|⟨i,_|⟨g,_|_⟩⟩:=r;cases i;cases g;exact⟨λz=>v (by simpa[kSD]using z),a,b,c,f.toArray,d.toArray,rfl,p,n,by have:=pO l;rw[qI];exact this,m,by have:=pO j;rw[qI];exact this⟩
def toVD(q:DrK×af):(List Str×List Str)×ai:=(kSD q.1,.ref q.2)
def addQD(a:List (DrK×af))(q:DrK×af):List (DrK×af):=if q.1∈a.map (·.1)then a else a++[q]
def uniqQD(a:List (DrK×af)):List (DrK×af):=a.foldl addQD []
theorem addV_toVD(a:List (DrK×af))(q:DrK×af):addV (a.map toVD) (toVD q)=(addQD a q).map toVD:=by
 unfold addV addQD;have c:(toVD q).1∈(a.map toVD).map (·.1)↔q.1∈a.map (·.1):=by rw[cJ,bH,bH];exact⟨λ⟨y,b,e⟩=>⟨y,b,kSD_inj e⟩,λ⟨y,b,e⟩=>⟨y,b,by show kSD y.1=kSD q.1;rw[e]⟩⟩
 by_cases h:q.1∈a.map (·.1)
 .rw[if_pos h,if_pos (c.mpr h)]
 .rw[if_neg h,if_neg λz=>h (c.mp z),mM];rfl
theorem uniqQD_take(a:List (DrK×af))(i:Nat)(h:i<a.length):uniqQD (a.take (i+1))=addQD (uniqQD (a.take i)) a[i]:=by unfold uniqQD;rw[zP h,Jq];rfl
theorem addQD_len(a:List (DrK×af))(q:DrK×af):a.length<=(addQD a q).length:=by
 unfold addQD;split
 .exact a8 _
 .simp
theorem uniqQD_mono(l a:List (DrK×af)):a.length<=(l.foldl addQD a).length:=by
 induction l generalizing a with
 |nil=>exact a8 _
 |cons x r b=>exact cM (addQD_len a x) (b _)
theorem uniqQD_le(a:List (DrK×af))(i:Nat):(uniqQD (a.take i)).length<=(uniqQD a).length:=by
 have e:uniqQD a=(a.drop i).foldl addQD (uniqQD (a.take i)):=by unfold uniqQD;rw[<-Jq,nP]
 rw[e];exact uniqQD_mono _ _
theorem uniqQD_mem(l b:List (DrK×af)):∀x∈l.foldl addQD b,x∈b\/x∈l:=by
 induction l generalizing b with
 |nil=>exact λx a=>.inl a
 |cons y r c=>
  intro x a;rcases c _ x a with z|z
  .unfold addQD at z;split at z
   .exact .inl z
   .rcases fO.mp z with z|z
    .exact .inl z
    .exact .inr (by rw[gP.mp z];exact eC)
  .exact .inr (dy _ z)
theorem uniqQD_sub{a:List (DrK×af)}{x:DrK×af}(h:x∈uniqQD a):x∈a:=(uniqQD_mem a [] x h).elim (λz=>by simp at z) id
def setDHO(X:Cx)(a:af)(b:List (DrK×af)):HO:=.ext λh=>SetV (drKd X.prog X.w) h a (b.map toVD)
def refsD(a:List (DrK×af)):List V:=a.map λq=>.ref q.2
theorem refsD_vals:∀{a:List (DrK×af)}{b:List ai},bj (refsD a) b->b=a.map λq=>Value.ref q.2
 |[],_,.nil=>rfl
 |q::a,_,.cons r h=>by cases r;rw[refsD_vals h];rfl
theorem vals_refsD:∀(a:List (DrK×af)),bj (refsD a) (a.map λq=>Value.ref q.2)
 |[]=>.nil
 |q::a=>.cons rfl (vals_refsD a)
theorem call_setLD(hu:X.A.units+64<cLine)(hc:X.calm=ag):dE X (.type "set") (λxs H Q=>∃(p:af) (c:List (DrK×af)),xs=[.ref p]/\cf X.K H p (refsD c)/\(∀q∈c,DrH H q.1 q.2)/\(uniqQD c).length<4000/\∀a,H a=ae->Q (.ref a) (upd H a (setDHO X a (uniqQD c)))):=by
 intro ah s σ H xs us Q I r h;obtain⟨p,c,rfl,D,hP,h4,q⟩:=h;obtain⟨u,rfl,N⟩:=vals1 r;cases N;obtain⟨y,M,Y,hz⟩:=I.list D;have K:=refsD_vals M;have C:y.toArray.size=c.length:=by rw[cc,K,bX]
 have f:∀(h:az),(∀b o,b<s.heap.objs.size->s.heap.get? b=aa o->h.get? b=aa o)->∀x∈c,(drKd X.prog X.w).is h (kSD x.1) (.ref x.2):=λh k x A=>(drKd X.prog X.w).keep ((hP x A).is I.hok) λb o e _=>k b o (bz e) e;refine IF (P:=X.prog) (w:=X.w) (I.ok.hd hc) (.inl Y.isList) (J:=λi h=>SetV (drKd X.prog X.w) h s.heap.objs.size ((uniqQD (c.take i)).map toVD)/\∀b o,b<s.heap.objs.size->s.heap.get? b=aa o->h.get? b=aa o)
  (λi h n ⟨S,k⟩ g=>⟨S.at λo e=>g _ o (a8 _) e,λb o l e=>g b o (i7 l) (k b o l e)⟩) ⟨⟨#[],0,_,[],cD _ rfl,qJ _,rfl,by decide,⟨⟨rfl,List.Pairwise.nil,(λj hj=>by cases hj),(by show 7∈_;decide),(by show 0*5<7*3;decide)⟩,rfl,(λq D=>by cases D)⟩,rfl,λh=>absurd rfl h⟩,λb o _ e=>bD _ e⟩
  (λi v d E Q hi B ⟨S,k⟩ q=>?_) λn m ⟨S,_⟩ k=>?_
 .have z:i<c.length:=∅
  obtain rfl:v=.ref c[i].2:=by rw[K]at B;simp[z]at B;exact B.symm
  have F:=f d.heap k c[i] (v8 z);unfold setAdd;refine iM (aq (hash_dr (P:=X.prog) (w:=X.w) (s:=d) (show X.A.units+3+4<cLine by lia) F d.toks _ _ λm O=>?_));refine set_addV (kd:=drKd X.prog X.w) (s:={d with toks:=m}) (k:=kSD c[i].1) (show X.A.units+3+4<cLine by lia) S (λp hp=>?_) F (by rw[bX];exact v6 (uniqQD_le c i) h4) λn b G Z=>?_
  .obtain⟨x,A,rfl⟩:=bH.mp hp;exact f d.heap k x (DL (uniqQD_sub A))
  .refine q n m b O G ⟨?_,λb o l e=>by rw[G.2 b (cR l)];exact k b o l e⟩;rw[uniqQD_take c i z,<-addV_toVD];exact Z
 .have L:SetV (drKd X.prog X.w) n s.heap.objs.size ((uniqQD c).map toVD):=by
   rw[C,wj]at S;exact S
  refine⟨.ref s.heap.objs.size,_,I.laid (t':=m) (o:=setDHO X s.heap.objs.size (uniqQD c)) (λb o e=>k b o (bz e) e) (a8 _) ?_,rfl,q _ I.fresh⟩;obtain⟨es,ep,t,ss,e,_⟩:=L.ex;exact⟨L,⟨_,e⟩,λh1 h2 W T=>W.at T⟩
theorem call_sortedSetD(hu:X.A.units+64<cLine)(hc:X.calm=ag):dE X (.builtin "sorted") (λxs H Q=>∃(p:af) (d:List (DrK×af)),xs=[.ref p]/\H p=aa (setDHO X p d)/\(∀q∈d,DrH H q.1 q.2)/\d.length<4000 /\ ∀l g,H l=ae->wy g d->g.Pairwise (λx y=>ltD y.1 x.1=am)->Q (.ref l) (upd H l (.lst (refsD g)))):=by
 intro ah s K H xs us Q I r h;obtain⟨p,d,rfl,Y,hP,h4,q⟩:=h;obtain⟨u,rfl,M⟩:=vals1 r;cases M;obtain⟨S,_,_⟩:=(show cm X.prog X.w H s.heap p (setDHO X p d)from I.hok p _ Y)
 obtain⟨J,ep,t,ps,Z,G,F,B,T,P,cV⟩:=S.ex;have SE:sd X.w s.heap p J:=⟨ep,t,Z,B,T.fits (by simp),P,λh0=>cV λz=>h0 (by have j:=congrArg qD F;have f:=G.length_eq;rw[z]at f;simp at j f;rw[j,f];rfl)⟩
 have n:(J.toList.map (·.2)).Perm (d.map λq=>Value.ref q.2):=by rw[F,cJ];have:=G.map (·.2);rwa[cJ]at this
 refine sorted_genK ∅ (EB (uC (I.ok.hd hc)) SE λL vs pv k eg eo=>?_);obtain⟨C,g',d',t',O⟩:=L;obtain rfl:g'=s.gens:=eg;obtain rfl:O=s.os:=eo;have D:Inv X ah K H {s with heap:=C,drawn:=d',toks:=t'}:=by have:=Inv.call (ch:=[]) I (g':=s.gens) (d':=d') (t':=t') (Un.kept (fs:=fo X.stack) (ex:=[]) k) (I.hok.kept k) I.bare (λb hb=>absurd hb (by simp));exact this
 have a:=pv.trans n;have c:∀x∈d,DrIs C (kSD x.1) (.ref x.2):=λx i=>(hP x i).is D.hok;refine⟨drKey C,n6 am,λv A=>?_,by have:=a.length_eq;rw[bX]at this;lia,λA' h2 hA m fV=>⟨drLt hA λb o e _=>m b o e,λ{E Q} N=>drKind (λv A=>?_) fV N⟩,λh2 w e m fU b1 b2=>?_⟩
 .obtain⟨x,i,rfl⟩:=bH.mp (a.mem_iff.mp A);exact⟨_,drKey_of (c x i)⟩
 .obtain⟨x,i,rfl⟩:=bH.mp (a.mem_iff.mp A);exact⟨_,(drKd X.prog X.w).keep (c x i) λb o e _=>m b o e⟩
 .obtain⟨g,j,f⟩:=perm_mapE (b1.trans a);refine⟨.ref _,_,D.laid (t':=t') (o:=.lst (refsD g)) m (a8 _) ⟨?_,w.toList,e,by rw[j];exact vals_refsD g,by rw[zR];exact fU⟩,rfl,q _ g D.fresh f ?_⟩
  .unfold refsD;rw[bX,f.length_eq];exact i7 (mq ∅)
  .rw[j]at b2;refine(kQ.mp b2).imp_of_mem λ{x y} i W hh=>?_;have:ltD _ _=am:=hh _ _ (drKey_of (c x (f.mem_iff.mp i))) (drKey_of (c y (f.mem_iff.mp W)));simpa[cpsD,kSD,cpsL,cJ,qP,fL]using this
end
end L2
namespace Pu
open L2
section
variable{X:Cx}{E:XK}{e:aD}{j:ak->R (List PV)}{i p q g:Pos}
def dr1:PV->Option DrK
 |.tup [.tup a,.tup xs]=>(eM a).bind λks=>(eM xs).bind λb=>if ks≠[] then aa (ks,b)else ae
 |_=>ae
def drs:List PV->Option (List DrK)
 |[]=>aa []
 |x::xs=>(dr1 x).bind λk=>(drs xs).bind λks=>aa (k::ks)
def drV(k:DrK):PV:=.tup [.tup (aj k.1),.tup (aj k.2)]
def uniqKD(ks:List DrK):List DrK:=ks.foldl (λa k=>if k∈a then a else a++[k]) []
def leKD(a b:DrK):Bool:=!ltD b a
def sortKD(ks:List DrK):List DrK:=ks.mergeSort leKD
def sortSetDP:List PV->Option PO
 |[.lst xs]=>(drs xs).bind λks=>if(uniqKD ks).length<4000 then aa (.lst ((sortKD (uniqKD ks)).map drV))else ae
 |_=>ae
theorem dr1_eq{x:PV}{k:DrK}(h:dr1 x=aa k):x=drV k/\k.1≠[]:=by
 unfold dr1 at h;split at h
 .obtain⟨ks,d,e⟩:=jv.mp h;obtain⟨f,c,a⟩:=jv.mp e;split at a
  .rename_i b;cases a;rw[nh c,nh d];exact⟨rfl,b⟩
  .cases a
 .cases h
theorem drs_eq:∀{xs:List PV}{ks:List DrK},drs xs=aa ks->xs=ks.map drV/\∀k∈ks,k.1≠[]
 |[],ks,h=>by cases h;exact⟨rfl,λk c=>by cases c⟩
 |x::xs,ks,h=>by
  obtain⟨k,m,l⟩:=jv.mp h;obtain⟨b,f,d⟩:=jv.mp l;cases d;obtain⟨o,n⟩:=drs_eq f;obtain⟨b1,b2⟩:=dr1_eq m;refine⟨by rw[o,b1];rfl,λy a=>?_⟩;rcases bo.mp a with rfl|a
  .exact b2
  .exact n y a
theorem dr_rep{K:ay}{H:Hp}{F:af->Prop}{k:DrK}{v:V}(h:aU K H F (drV k) v)(n:k.1≠[]):∃a,v=.ref a/\DrH H k a:=by obtain⟨a,w,rfl,l,y,A,rfl,⟨c,z,rfl,d,o⟩,x,m,rfl,⟨b,u,rfl,f,s⟩,r⟩:=h;rw[show m=[] from r]at l;rw[(T_.mp s).1]at f;rw[(T_.mp o).1]at d;exact⟨a,rfl,n,c,b,l,d,f⟩
theorem drs_rep{K:ay}{H:Hp}{F:af->Prop}:∀{ks:List DrK}{d:List V},Reps K H F (ks.map drV) d->(∀k∈ks,k.1≠[])->∃b:List (DrK×af),b.map (·.1)=ks/\d=refsD b/\∀q∈b,DrH H q.1 q.2/\aU K H F (drV q.1) (.ref q.2)
 |[],_,h,_=>⟨[],rfl,h,λq c=>by cases c⟩
 |k::ks,_,⟨v,r,e,l,w⟩,f=>by
  obtain⟨a,rfl,u⟩:=dr_rep l (f k eC);obtain⟨b,o,n,m⟩:=drs_rep w λy s=>f y (dy _ s);refine⟨(k,a)::b,by rw[cS,o],by rw[e,n];rfl,λq c=>?_⟩;rcases bo.mp c with rfl|c
  .exact⟨u,l⟩
  .exact m q c
theorem reps_refsD{K:ay}{H:Hp}{F:af->Prop}:∀{a:List (DrK×af)},(∀q∈a,aU K H F (drV q.1) (.ref q.2))->Reps K H F ((a.map (·.1)).map drV) (refsD a)
 |[],_=>rfl
 |q::a,h=>⟨_,_,rfl,h q eC,reps_refsD λx b=>h x (dy _ b)⟩
theorem uniqQD_keys(l a:List (DrK×af)):(l.foldl addQD a).map (·.1)=(l.map (·.1)).foldl (λa k=>if k∈a then a else a++[k]) (a.map (·.1)):=by
 induction l generalizing a with
 |nil=>rfl
 |cons x r b=>
  rw[kM,b,cS,kM];congr 1;unfold addQD;split
  .rfl
  .rw[mM];rfl
theorem sortKD_uniq{ks l:List DrK}(n:l.Perm ks)(m:l.Pairwise (λx y=>ltD y x=am)):l=sortKD ks:=by
 refine zD (le:=λa b=>leKD a b=ag) (λa b s r f d=>?_) (m.imp λh=>by unfold leKD;rw[h];rfl) (C1 (le:=leKD) (λa b c=>?_) (λa b=>?_) ks) (n.trans (tT ks leKD).symm)
 .unfold leKD at f d;exact ordD.total a b (show ltD a b=am by simpa using d) (show ltD b a=am by simpa using f)
 .unfold leKD;intro f d;have:ltD c a=am:=qN (O:=ordD) (a:=a) (b:=b) (c:=c) (show ltD b a=am by simpa using f) (show ltD c b=am by simpa using d);rw[this];rfl
 .unfold leKD;cases h:ltD b a with
  |false=>rfl
  |true=>
   have:ltD a b=am:=by
    cases o:ltD a b with
    |false=>rfl
    |true=>exact absurd (ordD.trans _ _ _ h o) (by have:ltD b b=am:=ordD.irrefl _;show ¬ltD b b=ag;rw[this];decide)
   rw[this];rfl
def rSetThenD(X:Cx)(r:List V->Hp->VK->Prop):List V->Hp->VK->Prop:=λxs H Q=>∃(p:af) (b:List (DrK×af)),xs=[.ref p]/\cf X.K H p (refsD b)/\(∀q∈b,DrH H q.1 q.2)/\(uniqQD b).length<4000/\∀a,H a=ae->r [.ref a] (upd H a (setDHO X a (uniqQD b))) Q
def rSortD(X:Cx):List V->Hp->VK->Prop:=λxs H Q=>∃(p:af) (a:List (DrK×af)),xs=[.ref p]/\H p=aa (setDHO X p a)/\(∀q∈a,DrH H q.1 q.2)/\a.length<4000 /\
  ∀l b,H l=ae->wy b a->b.Pairwise (λx y=>ltD y.1 x.1=am)->Q (.ref l) (upd H l (.lst (refsD b)))
theorem pln_sortSetD:jW X.K (rSetThenD X (rSortD X)) sortSetDP:=λF H xs vs Q po Y N e q=>by
 unfold sortSetDP at e;split at e
 .obtain⟨v,rfl,a,us,rfl,W,_,M⟩:=gz N;obtain⟨ks,e1,A⟩:=jv.mp e;obtain⟨rfl,bY⟩:=drs_eq e1;obtain⟨m,O,rfl,u⟩:=drs_rep M bY;split at A
  .rename_i T;cases A;have G:(uniqQD m).map (·.1)=uniqKD ks:=by unfold uniqQD uniqKD;rw[uniqQD_keys,O];rfl
   have n:(uniqQD m).length<4000:=by rw[<-bX (f:=(·.1)),G];exact T
   refine⟨a,m,rfl,.inl W,λq x=>(u q x).1,n,λb s=>⟨b,uniqQD m,rfl,bV,λq x=>?_,n,λl B r D S=>?_⟩⟩
   .obtain⟨Z,c,d,K,J,I⟩:=(u q (uniqQD_sub x)).1;exact⟨Z,c,d,by rw[bO (kt K s)];exact K,by rw[bO (kt J s)];exact J,by rw[bO (kt I s)];exact I⟩
   .have L:l≠b:=by rintro rfl;rw[bV]at r;cases r
    have C:H l=ae:=by rw[bO L]at r;exact r
    have al:Al F F H (upd (upd H b (setDHO X b (uniqQD m))) l (.lst (refsD B))):=(Al.new0 s).trans (Al.new0 r);have ez:B.map (·.1)=sortKD (uniqKD ks):=by rw[<-G];exact sortKD_uniq (D.map _) (kQ.mpr S)
    refine q l F _ (λc=>c=l) al ⟨⟨_,bV,?_⟩,λc=>nY⟩ λc z=>?_
    .rw[<-ez];refine reps_refsD λy P=>?_;exact aU.mono (λ_ h=>h) (λ_ _ _ h=>al.same.rd h) (λc o h _=>al.same c o h) _ _ (u y (uniqQD_sub (D.mem_iff.mp P))).2
    .subst z;exact⟨C,λz=>ub (Y _ z) (λo w=>by rw[C]at w;cases w),_,bV,trivial⟩
  .cases A
 .cases e
theorem dn_sortSetD(a:X.A.units+64<cLine)(b:X.calm=ag)(n:DA X E [e] j)(l:X.mg "sorted"=ae)(d:X.mg "set"=ae)(m:Gl X "sorted":=by rfl)(c:Gl X "set":=by rfl)(h:li e=am:=by rfl):DN X E (.Call (.Name "sorted" p) [.Call (.Name "set" q) [e] [] g] [] i) (dL sortSetDP j):=λF S s r H Q f o=>bZ (nB (call_sortedSetD a b) m l mw (gB (sS (call_setLD a b) c d Bd iq (by decide) (by decide) (ik h) rfl) iG (ik rfl)) (by decide) (by decide) (ik rfl) rfl) (sD pln_sortSetD n f o)
end
end Pu
namespace L2
section
variable{a:aO}{w:aG}{A:aR}{E:ai->ao->Prop}{s:ao}
def ge(x y:Str)(i:Nat):Str:=if i=0 then x else y
theorem y3{x y:Str}{t u:Tok}{i:Nat}{v:ai}(h:(#[Value.str x t,Value.str y u])[i]?=aa v):∃b,v=.str (ge x y i) b:=by
 match i with
 |0=>simp at h;exact⟨t,h.symm⟩
 |1=>simp at h;exact⟨u,h.symm⟩
 |n+2=>simp at h
theorem MV{x y:Str}{t u:Tok}{Q:ai->ao->Prop}(C:A.handled=ae)(h:∀f m,(∀c o,s.heap.get? c=aa o->f.get? c=aa o)->Q (if y.cps.toList<x.cps.toList then .str y u else .str x t) {s with heap:=f,toks:=m}):ar (aw a w) A (call (.builtin "min") [.str x t,.str y u]) Q E s:=by
 have p:(s.heap.push {cls:=.type "tuple",data:=.seq #[.str x t,.str y u]}).IsTuple s.heap.objs.size #[.str x t,.str y u]:=⟨_,cD _ rfl,rfl,0,rfl⟩
 refine call_min_two (De p ?_);have b:(s.heap.push {cls:=.type "tuple",data:=.seq #[.str x t,.str y u]}).objs.size=s.heap.objs.size+1:=qF ..;refine⟨_,[_,s.heap.objs.size],[_],_,_,_,λi j=>decide ((ge x y i).cps.toList<(ge x y j).cps.toList),rfl,Walks.tuple (A:=A.in1) C _ s.heap.objs.size (by rw[b];exact cR (ju _)) #[.str x t,.str y u],
  ⟨⟨_,cD _ rfl,rfl,rfl⟩,p.push _⟩,λc d=>?_,by simp,λi j J I M N O B z D=>?_,λv f m F r=>?_⟩
 .show c<((s.heap.push _).push _).objs.size;rw[qF,b];rcases bo.mp d with rfl|d
  .rw[b];exact ju _
  .rcases bo.mp d with rfl|d
   .exact kh (ju _)
   .cases d
 .obtain⟨L,rfl⟩:=y3 B;obtain⟨K,rfl⟩:=y3 z;exact JI D
 .have H:∀c o,s.heap.get? c=aa o->f.get? c=aa o:=λc o e=>by
   refine r c o (λn=>?_) (bD _ (bD _ e));rcases bo.mp n with G|n
   .have:=bz e;rw[G,b]at this;exact eV _ (Nat.lt_of_succ_lt this)
   .cases n
  have:=h f m H;have q:v=if y.cps.toList<x.cps.toList then Value.str y u else Value.str x t:=by
   have g:(#[Value.str x t,Value.str y u])[n8 (λi j=>decide ((ge x y i).cps.toList<(ge x y j).cps.toList)) 1]?=aa v:=F;by_cases l:y.cps.toList<x.cps.toList
   .have e:n8 (λi j=>decide ((ge x y i).cps.toList<(ge x y j).cps.toList)) 1=1:=by simp[n8,ge,l]
    rw[e]at g;rw[if_pos l];simpa using g.symm
   .have e:n8 (λi j=>decide ((ge x y i).cps.toList<(ge x y j).cps.toList)) 1=0:=by simp only[n8,ge];exact if_neg (by simpa using l)
    rw[e]at g;rw[if_neg l];simpa using g.symm
  rw[q];exact this
theorem Nw{x y:Str}{t u:Tok}{Q:ai->ao->Prop}(C:A.handled=ae)(h:∀f m,(∀c o,s.heap.get? c=aa o->f.get? c=aa o)->Q (if x.cps.toList<y.cps.toList then .str y u else .str x t) {s with heap:=f,toks:=m}):ar (aw a w) A (call (.builtin "max") [.str x t,.str y u]) Q E s:=by
 have p:(s.heap.push {cls:=.type "tuple",data:=.seq #[.str x t,.str y u]}).IsTuple s.heap.objs.size #[.str x t,.str y u]:=⟨_,cD _ rfl,rfl,0,rfl⟩
 refine call_max_two (De p ?_);have b:(s.heap.push {cls:=.type "tuple",data:=.seq #[.str x t,.str y u]}).objs.size=s.heap.objs.size+1:=qF ..;refine⟨_,[_,s.heap.objs.size],[_],_,_,_,λi j=>decide ((ge x y j).cps.toList<(ge x y i).cps.toList),rfl,Walks.tuple (A:=A.in1) C _ s.heap.objs.size (by rw[b];exact cR (ju _)) #[.str x t,.str y u],
  ⟨⟨_,cD _ rfl,rfl,rfl⟩,p.push _⟩,λc d=>?_,by simp,λi j J I M N O B z D=>?_,λv f m F r=>?_⟩
 .show c<((s.heap.push _).push _).objs.size;rw[qF,b];rcases bo.mp d with rfl|d
  .rw[b];exact ju _
  .rcases bo.mp d with rfl|d
   .exact kh (ju _)
   .cases d
 .obtain⟨L,rfl⟩:=y3 B;obtain⟨K,rfl⟩:=y3 z;exact PySem.P.gt_str D
 .have H:∀c o,s.heap.get? c=aa o->f.get? c=aa o:=λc o e=>by
   refine r c o (λn=>?_) (bD _ (bD _ e));rcases bo.mp n with G|n
   .have:=bz e;rw[G,b]at this;exact eV _ (Nat.lt_of_succ_lt this)
   .cases n
  have:=h f m H;have q:v=if x.cps.toList<y.cps.toList then Value.str y u else Value.str x t:=by
   have g:(#[Value.str x t,Value.str y u])[n8 (λi j=>decide ((ge x y j).cps.toList<(ge x y i).cps.toList)) 1]?=aa v:=F;by_cases l:x.cps.toList<y.cps.toList
   .have e:n8 (λi j=>decide ((ge x y j).cps.toList<(ge x y i).cps.toList)) 1=1:=by simp[n8,ge,l]
    rw[e]at g;rw[if_pos l];simpa using g.symm
   .have e:n8 (λi j=>decide ((ge x y j).cps.toList<(ge x y i).cps.toList)) 1=0:=by simp only[n8,ge];exact if_neg (by simpa using l)
    rw[e]at g;rw[if_neg l];simpa using g.symm
  rw[q];exact this
end
section
variable{X:Cx}
theorem RP(b:X.calm=ag):dE X (.builtin "min") (λxs H Q=>∃x y:Tx,xs=[tV x,tV y]/\Q (tV (if y<x then y else x)) H):=by
 intro l s c H xs f Q I r h;obtain⟨x,y,rfl,q⟩:=h;obtain⟨u,d,rfl,⟨t,rfl⟩,⟨i,rfl⟩⟩:=vals2 r;refine MV (I.ok.hd b) λj g k=>⟨_,H,I.kept k,?_,q⟩
 rw[fL,fL];by_cases a:y<x
 .rw[if_pos a,if_pos a];exact⟨_,rfl⟩
 .rw[if_neg a,if_neg a];exact⟨_,rfl⟩
theorem RJ(b:X.calm=ag):dE X (.builtin "max") (λxs H Q=>∃x y:Tx,xs=[tV x,tV y]/\Q (tV (if x<y then y else x)) H):=by
 intro l s c H xs f Q I r h;obtain⟨x,y,rfl,q⟩:=h;obtain⟨u,d,rfl,⟨t,rfl⟩,⟨i,rfl⟩⟩:=vals2 r;refine Nw (I.ok.hd b) λj g k=>⟨_,H,I.kept k,?_,q⟩
 rw[fL,fL];by_cases a:x<y
 .rw[if_pos a,if_pos a];exact⟨_,rfl⟩
 .rw[if_neg a,if_neg a];exact⟨_,rfl⟩
end
end L2
namespace Pu
open L2
section
variable{K:ay}
def uR:List PV->Option PV
 |[.str x,.str y]=>aa (.str (if y<x then y else x))
 |_=>ae
def vm:List PV->Option PV
 |[.str x,.str y]=>aa (.str (if x<y then y else x))
 |_=>ae
theorem My:PL K (λxs H Q=>∃x y:Tx,xs=[tV x,tV y]/\Q (tV (if y<x then y else x)) H) uR:=λF H xs f Q pv c e q=>by
 unfold uR at e;split at e
 .rename_i x y;cases e;obtain⟨v,g,rfl,b,d⟩:=c;obtain⟨u,rfl,a⟩:=gz d;refine⟨x,y,by rw[b.1,a.1],q _ F H (Al.refl ..) ⟨rfl,?_⟩⟩;split
  .exact a.2
  .exact b.2
 .cases e
theorem KO:PL K (λxs H Q=>∃x y:Tx,xs=[tV x,tV y]/\Q (tV (if x<y then y else x)) H) vm:=λF H xs f Q pv c e q=>by
 unfold vm at e;split at e
 .rename_i x y;cases e;obtain⟨v,g,rfl,b,d⟩:=c;obtain⟨u,rfl,a⟩:=gz d;refine⟨x,y,by rw[b.1,a.1],q _ F H (Al.refl ..) ⟨rfl,?_⟩⟩;split
  .exact a.2
  .exact b.2
 .cases e
end
end Pu
local macro_rules | `(⇑$x) => `(.val (.int $x))
local macro_rules | `(↥$x) => `(.val (.str $x))
namespace Sh
open L2 Pu
set_option genInjectivity false in
structure Ad where
 SlitError:af
 NoText:af
 NoWidth:af
 NoView:af
 NoWindow:af
 Never:af
 Full:af
 Nothing:af
 Unlike:af
 NoPlace:af
 NoLetters:af
 BadText:af
 Seeker:af
 Slit:af
def iJ(a:Ad):List af:=[a.NoText,a.NoWidth,a.NoView,a.NoWindow,a.Never,a.Full,a.Nothing,a.Unlike,a.NoPlace,a.NoLetters,a.BadText]
def pP(a:Ad)(c:ai):Bool:=match c with
 |.ref x=>(iJ a).contains x
 |_=>am
def jk(a:Ad)(c:ai)(D:V):Option Bool:=match c,D with
 |.ref x,.ref d=>if(iJ a).contains x&&(iJ a).contains d then aa (x == d)else ae
 |.ref x,.ty T=>if(iJ a).contains x&&T == "ValueError" then aa ag else ae
 |_,_=>ae
def yar(a:Ad):ak->R aH:=dj (dL sN (ax (dF (cY [1] (bp (dV 0)) (dYes) (d2 (rO am) (dV 0) (dV 1)))) (aB)))
def zb(a:Ad):ak->R Slot:=cb 2 [] (b_ 0 (yar a))
def yau(a:Ad):ak->R aH:=dj (pT (dL jn (ax (dV 0) (ax (dC (.raw (.ty "int"))) (aB)))) (Ce (dL jn (ax (dV 0) (ax (dC (.raw (.ty "bool"))) (aB))))))
def xL(a:Ad):ak->R Slot:=cb 1 [] (b_ 0 (yau a))
def yav(a:Ad):ak->R aH:=dj (pT (bd (aZ (xL a) (gV (dV 0) (b9)))) (sk (dQ λi j=>decide (i<=j)) (dQ λi j=>decide (i<=j)) (dC (.int 1)) (dV 0) (dC (.int 4))))
def tt(a:Ad):ak->R Slot:=cb 1 [] (b_ 0 (yav a))
def yaw(a:Ad):ak->R aH:=dj (pT (dL jn (ax (dV 0) (ax (dC (.raw (.ty "str"))) (aB)))) (pT (d2 (eqT am) (dL bN (ax (dV 0) (aB))) (dV 1)) (bd (aZ (zb a) (gV (dV 0) (gV (dV 2) (b9)))))))
def sV(a:Ad):ak->R Slot:=cb 3 [] (b_ 0 (yaw a))
def yan(a:Ad):ak->R aH:=aI (dq (uB (nj (dB (dL jn (ax (dV 0) (ax (dC (.raw (.ty "tuple"))) (aB)))))) (nj (dB (sk (dQ λi j=>decide (i<=j)) (dQ λi j=>decide (i<=j)) (dC (.int 1)) (dL bN (ax (dV 0) (aB))) (dC (.int 9)))))) (dj (dC (.bl am))) (eU))
 (aI (dq (nj (dB (dL sN (ax (dF (cY [1,2] (bp (dV 0)) (dYes) (bd (aZ (sV a) (gV (dV 0) (gV (dV 1) (gV (dV 2) (b9)))))))) (aB))))) (dj (dC (.bl am))) (eU))
 (dj (d2 (eqT am) (dF (dL nu (ax (dV 0) (aB)))) (dF (dL my (ax (dV 0) (aB)))))))
def oS(a:Ad):ak->R Slot:=cb 3 [] (b_ 0 (yan a))
def yat(a:Ad):ak->R aH:=aI (dq (uB (nj (dB (dL jn (ax (dV 0) (ax (dC (.raw (.ty "tuple"))) (aB)))))) (dB (d2 (eqT ag) (dL bN (ax (dV 0) (aB))) (dC (.int 2))))) (dj (dC (.bl am))) (eU))
 (dj (pT (bd (aZ (tt a) (gV (d2 bv (dV 0) (dC (.int 0))) (b9)))) (bd (aZ (oS a) (gV (d2 bv (dV 0) (dC (.int 1))) (gV (d2 bv (dV 0) (dC (.int 0))) (gV (dV 1) (b9))))))))
def sF(a:Ad):ak->R Slot:=cb 2 [] (b_ 0 (yat a))
def yas(a:Ad):ak->R aH:=uQ (aZ (sF a) (gV (dV 0) (gV (dC (.str [97,98,99])) (b9))))
def yG(a:Ad):ak->R Slot:=cb 1 [] (b_ 0 (yas a))
def yap(a:Ad):ak->R aH:=dq (nj (dB (bd (aZ (yG a) (gV (dV 0) (b9)))))) (uU (.ref a.NoView) (λb=>b7 ((dC (.str [97,32,118,105,101,119,32,105,115,32,97,32,116,117,112,108,101,32,111,102,32,97,32,119,105,100,116,104,32,97,110,100,32,97,32,114,105,115,105,110,103,32,116,117,112,108,101,32,111,102,32,49,32,116,111,32,57,32,119,105,110,100,111,119,115])) b))) (eU)
def p8(a:Ad):ak->R Slot:=cb 1 [] (b_ 0 (yap a))
def yaq(a:Ad):ak->R aH:=aI (fu 1 (Ba))
 (aI (λb=>dA (dS 2 (bp (dV 0)) (nc 1 (dV 2) (d2 bf (nv 1 (dV 2) (dC (.int 0))) (dC (.int 1)))) b))
 (sP 1))
def vO(a:Ad):ak->R Slot:=cb 1 [] (b_ 2 (yaq a))
def yam(a:Ad)(c:ak->R Slot):ak->R aH:=aI (dq (nj (dB (vc 2))) (aI (ji 3 (dV 0)) (Cr (.ret (.val .non)))) (eU))
 (aI (b8 4 (il gU (dV 0) (gA (d2 bf (d2 j7 (dL bN (ax (dV 0) (aB))) (dV 1)) (dC (.int 1)))) (jd)))
 (λb=>dA (dS 5 (bp (dC (.str [97,98,99]))) (aI (b8 6 (d2 bf (dV 4) (dV 5)))
 (dq (dB (d2 (dQ λi j=>decide (j<i)) (nv 2 (dV 6) (dC (.int 0))) (dC (.int 0)))) (aI (nc 2 (dV 6) (d2 j7 (nz 2 (dV 6)) (dC (.int 1))))
 (aI (lw (aZ (c) (gV (d2 bf (dV 0) (dV 5)) (gV (dV 1) (gO 2 (gO 3 (b9)))))))
 (nc 2 (dV 6) (d2 bf (nz 2 (dV 6)) (dC (.int 1)))))) (eU))) b)))
def o0(a:Ad):Nat->ak->R Slot
 |0=>cb 4 [2,3] (b_ 3 Gb)
 |k+1=>cb 4 [2,3] (b_ 3 (yam a (o0 a k)))
def yaL(a:Ad):ak->R aH:=aI (lw (aZ (p8 a) (gV (dV 0) (b9))))
 (aI (b8 1 (d2 bv (dV 0) (dC (.int 0))))
 (aI (fu 2 (dL fH (aB)))
 (aI (λb=>dA (dS 3 (bp (dF (dL vD (ax (dF (cY [] (bp (d2 bv (dV 0) (dC (.int 1)))) (dYes) (il gU (dV 0) (jd) (gA (d1 oO (dC (.int 1))))))) (aB))))) (lw (uD (o0 a 12) (su (dV 3) (su (dV 1) (gN (sv (aZ (vO a) (gV (d2 bv (dV 0) (dC (.int 1))) (b9)))) (gO 2 (b9))))))) b))
 (sP 2))))
def oY(a:Ad):ak->R Slot:=cb 1 [] (b_ 3 (yaL a))
def yaz(a:Ad):ak->R aH:=aI (dq (dB (d2 (dQ λi j=>decide (i<j)) (dV 1) (dL bN (ax (dV 0) (aB))))) (dj (d2 bv (dV 0) (dV 1))) (eU))
 (aI (dq (dB (d2 (eqT am) (dV 0) (dF (dL fH (aB))))) (dj (dC (.int 0))) (eU))
 (dj (d2 bf (d2 jE (d2 bv (dV 0) (d2 gT (dV 1) (dL bN (ax (dV 0) (aB))))) (dC (.int 31))) (dV 1))))
def sq(a:Ad):ak->R Slot:=cb 2 [] (b_ 0 (yaz a))
def yaB(a:Ad):ak->R aH:=aI (b8 3 (d2 gT (d2 bf (d2 bf (d2 jE (bd (aZ (sq a) (gV (dV 0) (gV (dV 1) (b9))))) (dC (.int 1103515245))) (d2 jE (dC (.int 7919)) (dV 1))) (dC (.int 12345))) (dC (.int 2147483647))))
 (dj (d2 gT (d2 gT (d2 gT (d2 u5 (dV 3) (dC (.int 5))) (dC (.int 2147483647))) (dC (.int 999983))) (dV 2)))
def y9(a:Ad):ak->R Slot:=cb 3 [] (b_ 1 (yaB a))
def yaA(a:Ad):ak->R aH:=aI (ji 1 (dC (.int 0)))
 (uQ (aZ (y9 a) (gV (dV 0) (gV (fh (λxs=>je (bN xs)) 1) (gV (dV 2) (b9))))))
def jq(a:Ad):ak->R Slot:=cb 3 [1] (b_ 0 (yaA a))
def yaC(a:Ad):ak->R aH:=dj (d2 bv (dV 2) (bd (aZ (jq a) (gV (dV 0) (gO 1 (gV (dL bN (ax (dV 2) (aB))) (b9)))))))
def yo(a:Ad):ak->R Slot:=cb 3 [1] (b_ 0 (yaC a))
def yaE(a:Ad):ak->R aH:=aI (b8 4 (bd (aZ (yo a) (gV (dV 0) (gO 1 (gV (dF (dL fH (ax (dC (.int 1)) (ax (dC (.int 2)) (ax (dC (.int 2)) (ax (dC (.int 3)) (ax (dC (.int 3)) (ax (dC (.int 3)) (aB))))))))) (b9)))))))
 (aI (b8 5 (dC (.str [])))
 (aI (λb=>dA (dS 6 (dL lh (ax (d2 bf (dV 2) (bd (aZ (jq a) (gV (dV 0) (gO 1 (gV (d2 bf (d2 j7 (dV 3) (dV 2)) (dC (.int 1))) (b9))))))) (aB))) (b8 5 (d2 bf (dV 5) (d2 bv (dC (.str [97,98,99])) (bd (aZ (jq a) (gV (dV 0) (gO 1 (gV (dV 4) (b9))))))))) b))
 (dj (dV 5))))
def oH(a:Ad):ak->R Slot:=cb 4 [1] (b_ 3 (yaE a))
def yaD(a:Ad):ak->R aH:=dj (dL jj (ax (dF (dL my (ax (dF (cY [0,1] (dL lh (ax (dL bN (ax (dV 0) (aB))) (aB))) (dB (d2 (dQ λi j=>decide (i<=j)) (d2 bf (dV 0) (dV 2)) (dL bN (ax (dV 1) (aB))))) (il gU (dV 1) (gA (dV 0)) (gA (d2 bf (dV 0) (dV 2)))))) (aB)))) (aB)))
def ku(a:Ad):ak->R Slot:=cb 2 [] (b_ 0 (yaD a))
def yaH(a:Ad):ak->R aH:=aI (b8 4 (dq (dB (d2 (eqT ag) (dV 2) (dC (.int 2)))) (d2 bf (dC (.int 2)) (bd (aZ (jq a) (gV (dV 0) (gO 1 (gV (dC (.int 3)) (b9))))))) (d2 bf (dC (.int 1)) (bd (aZ (jq a) (gV (dV 0) (gO 1 (gV (dC (.int 4)) (b9)))))))))
 (aI (fu 5 (dL nu (ax (bd (aZ (ku a) (gV (bd (aZ (oH a) (gV (dV 0) (gO 1 (gV (dV 4) (gV (d2 j7 (d2 bf (dV 4) (dV 3)) (dC (.int 1))) (b9))))))) (gV (dV 4) (b9))))) (aB))))
 (aI (λb=>dA (dS 6 (dL lh (ax (d2 gT (dV 2) (dC (.int 3))) (aB))) (zc 5 (bd (aZ (jq a) (gV (dV 0) (gO 1 (gV (fh (λxs=>je (bN xs)) 5) (b9)))))) (bd (aZ (oH a) (gV (dV 0) (gO 1 (gV (dV 4) (gV (dV 4) (b9)))))))) b))
 (dj (dL bF (ax (dV 4) (ax (dL jj (ax (dF (fh (λxs=>lp (my xs)) 5)) (aB))) (aB)))))))
def rF(a:Ad):ak->R Slot:=cb 4 [1] (b_ 3 (yaH a))
def yaI(a:Ad):ak->R aH:=aI (fu 1 (dL fH (ax (dL (jB (jk a)) (ax (dV 0) (ax (dC (.raw (.ref a.NoText))) (aB)))) (ax (dL (jB (jk a)) (ax (dV 0) (ax (dC (.raw (.ref a.NoWidth))) (aB)))) (ax (dL (jB (jk a)) (ax (dV 0) (ax (dC (.raw (.ref a.NoView))) (aB)))) (ax (dL (jB (jk a)) (ax (dV 0) (ax (dC (.raw (.ref a.NoWindow))) (aB)))) (aB)))))))
 (aI (fK 1 (dF (dL fH (ax (dL (jB (jk a)) (ax (dV 0) (ax (dC (.raw (.ref a.Never))) (aB)))) (ax (dL (jB (jk a)) (ax (dV 0) (ax (dC (.raw (.ref a.Full))) (aB)))) (ax (dL (jB (jk a)) (ax (dV 0) (ax (dC (.raw (.ref a.Nothing))) (aB)))) (ax (dL (jB (jk a)) (ax (dV 0) (ax (dC (.raw (.ref a.Unlike))) (aB)))) (aB))))))))
 (aI (fK 1 (dF (dL fH (ax (dL (jB (jk a)) (ax (dV 0) (ax (dC (.raw (.ref a.NoPlace))) (aB)))) (ax (dL (jB (jk a)) (ax (dV 0) (ax (dC (.raw (.ref a.NoLetters))) (aB)))) (ax (dL (jB (jk a)) (ax (dV 0) (ax (dC (.raw (.ref a.BadText))) (aB)))) (aB)))))))
 (aI (dq (uB (dB (d2 (eqT ag) (sy mn 1 (dC (.bl ag))) (dC (.int 1)))) (nj (dB (dL (jB (jk a)) (ax (dV 0) (ax (dC (.raw (.ty "ValueError"))) (aB))))))) (dj (dL bF (ax (dC (.str [114,101,102,117,115,101,100])) (ax (d1 oO (dC (.int 1))) (aB))))) (eU))
 (dj (dL bF (ax (dC (.str [114,101,102,117,115,101,100])) (ax (sy BR 1 (dC (.bl ag))) (aB))))))))
def vq(a:Ad):ak->R Slot:=cb 1 [] (b_ 1 (yaI a))
def yaG(a:Ad):ak->R aH:=aI (b8 3 (bd (aZ (ku a) (gV (dV 0) (gV (dV 1) (b9))))))
 (dj (dL sN (ax (dF (cY [3,2] (bp (dV 3)) (dYes) (d2 (dQ λi j=>decide (i<=j)) (rV mn (dV 1) (dV 0)) (rV mn (dV 2) (dV 0))))) (aB))))
def kI(a:Ad):ak->R Slot:=cb 3 [] (b_ 1 (yaG a))
def yay(a:Ad):ak->R aH:=aI (Bu 1 2 (dV 0))
 (aI (b8 3 (dF (dL fH (ax (dC (.str [])) (aB)))))
 (aI (λε=>dA (dS 4 (dL lh (ax (d2 j7 (d2 bf (dL bN (ax (dV 2) (aB))) (dV 1)) (dC (.int 1))) (aB))) (aI (fu 5 (dL fH (aB)))
 (aI (dS 6 (bp (dV 3)) (fK 5 (dF (cY [6,1,2] (bp (dC (.str [97,98,99]))) (dB (bd (aZ (kI a) (gV (d2 bf (dV 1) (dV 0)) (gV (dV 2) (gV (dV 3) (b9))))))) (d2 bf (dV 1) (dV 0))))))
 (b8 3 (dM 5)))) ε))
 (oC (cY [1,2] (bp (dV 3)) (dB (d2 (eqT am) (bd (aZ (ku a) (gV (dV 0) (gV (dV 1) (b9))))) (dV 2))) (dV 0)))))
def pZ(a:Ad):ak->R Slot:=cb 1 [] (b_ 6 (yay a))
def yao(a:Ad):ak->R aH:=aI (lw (aZ (p8 a) (gV (dV 0) (b9))))
 (dq (dB (d2 (dQ λi j=>decide (j<i)) (dL bN (ax (d2 bv (dV 0) (dC (.int 1))) (aB))) (dC (.int 6)))) (uU (.ref a.Full) (λb=>b7 ((dC (.str [97,32,118,105,101,119,32,116,104,97,116,32,105,115,32,115,104,97,114,101,100,32,111,117,116,32,97,109,111,110,103,32,116,101,120,116,115,32,104,97,115,32,117,112,32,116,111,32,54,32,119,105,110,100,111,119,115])) b))) (eU))
def sj(a:Ad):ak->R Slot:=cb 1 [] (b_ 0 (yao a))
def yaK(a:Ad):ak->R aH:=aI (b8 1 (dF (dL fH (ax (dL bF (ax (il zm (dV 0) (jd) (gA (dC (.int 1)))) (ax (dL bF (aB)) (aB)))) (aB)))))
 (aI (λε=>dA (dS 2 (bp (il gU (dV 0) (gA (dC (.int 1))) (jd))) (aI (fu 3 (dL fH (aB)))
 (aI (jC 4 5 (bp (dV 1)) (aI (ji 3 (dL bF (ax (d2 nA (dV 4) (dL bF (ax (dV 2) (aB)))) (ax (dV 5) (aB)))))
 (ji 3 (dL bF (ax (dV 4) (ax (d2 nA (dV 5) (dL bF (ax (dV 2) (aB)))) (aB)))))))
 (b8 1 (dM 3)))) ε))
 (oC (cY [] (bp (dF (dL sortSetDP (ax (dV 1) (aB))))) (dB (d2 (dQ λi j=>decide (j<i)) (dL bN (ax (d2 bv (dV 0) (dC (.int 1))) (aB))) (dC (.int 0)))) (dV 0))))
def qj(a:Ad):ak->R Slot:=cb 1 [] (b_ 5 (yaK a))
def yaJ(a:Ad):ak->R aH:=aI (lw (aZ (sj a) (gV (dV 0) (b9))))
 (aI (fu 1 B5)
 (aI (λb=>dA (jC 2 3 (bp (bd (aZ (qj a) (gV (d2 bv (dV 0) (dC (.int 1))) (b9))))) (aI (b8 4 (bd (aZ (oY a) (gV (dL bF (ax (d2 bv (dV 0) (dC (.int 0))) (ax (dV 3) (aB)))) (b9)))))
 (dS 5 (bp (bd (aZ (oY a) (gV (dL bF (ax (d2 bv (dV 0) (dC (.int 0))) (ax (dV 2) (aB)))) (b9))))) (dS 6 (bp (dV 4)) (yc 1 (dL bF (ax (dL uR (ax (dV 5) (ax (dV 6) (aB)))) (ax (dL vm (ax (dV 5) (ax (dV 6) (aB)))) (aB)))) (dC (.bl ag)))))) b))
 (dj (dF (qc 1)))))
def oQ(a:Ad):ak->R Slot:=cb 1 [] (b_ 6 (yaJ a))
def yaF(a:Ad):ak->R aH:=aI (fu 2 (dL fH (aB)))
 (aI (fu 3 (cY [] (bp (dF (dL qi (ax (dV 1) (aB))))) (dYes) (dV 0)))
 (aI (λε=>dA (iK (dB (rJ (eqT ag) 3 (dF (dL fH (aB))))) (aI (b8 4 (sm 3))
 (aI (fu 5 (dL nu (ax (dV 1) (aB))))
 (aI (dS 6 (bp (bd (aZ (ku a) (gV (dV 4) (gV (dV 0) (b9)))))) (mj 5 (dV 6)))
 (aI (ji 2 (dL bF (ax (dV 4) (ax (fh (λxs=>je (jj xs)) 5) (aB)))))
 (fK 3 (dF (cY [4,0,1] (bp (dC (.str [97,98,99]))) (dB (bd (aZ (kI a) (gV (d2 bf (dV 1) (dV 0)) (gV (dV 2) (gV (dV 3) (b9))))))) (d2 bf (dV 1) (dV 0))))))))) 100000 ε))
 (dj (dF (fh (λxs=>lp (qr xs)) 2)))))
def sU(a:Ad):ak->R Slot:=cb 2 [] (b_ 5 (yaF a))
end Sh
namespace L2
open Mx
section
variable{X:Cx}
def IL:R2:=λx y H Q=>∃s t:Tx,x=tV s/\y=tV t/\Q (.bl (decide (s<=t))) H
theorem NM:bT X (eE .LtE) IL:=by
 intro i s f H x y v u Q I d c h;obtain⟨a,b,rfl,rfl,q⟩:=h;obtain⟨t,rfl⟩:=d;obtain⟨g,rfl⟩:=c;refine PySem.P.le_str ?_;rw[fL,fL];have e:(!decide (b<a))=decide (a<=b):=by rw[kc];simp[wx]
 rw[e];exact⟨.bl _,H,I,rfl,q⟩
def k7(a:List (List Tx×af)):List V:=a.map λq=>.ref q.2
theorem Fj:∀{a:List (List Tx×af)}{b:List ai},bj (k7 a) b->b=a.map λq=>Value.ref q.2
 |[],_,h=>by cases h;rfl
 |q::a,_,h=>by
  cases h with
  |cons d c=>cases d;rw[Fj c];rfl
theorem EY:∀(a:List (List Tx×af)),bj (k7 a) (a.map λq=>Value.ref q.2)
 |[]=>.nil
 |q::a=>.cons rfl (EY a)
theorem Ly(hu:X.A.units+64<cLine)(hc:X.calm=ag):dE X (.builtin "sorted") (λxs H Q=>∃(p:af) (j:List (List Tx×af)),xs=[.ref p]/\cf X.K H p (k7 j)/\(∀q∈j,q.1≠[]/\H q.2=aa (.tup (bB q.1)))/\j.length<=1000000 /\ ∀l g,H l=ae->wy g j->g.Pairwise (λx y=>ltL y.1 x.1=am)->Q (.ref l) (upd H l (.lst (k7 g)))):=by
 intro ah s K H xs us Q I r h;obtain⟨p,j,rfl,S,F,C,q⟩:=h;obtain⟨u,rfl,M⟩:=vals1 r;cases M;obtain⟨B,L,O,hz⟩:=I.list S;have a:=Fj L;have c:∀(i:az),(∀b o,s.heap.get? b=aa o->i.get? b=aa o)->∀x∈j,FtIs i (x.1.map tS) (.ref x.2):=λi k x d=>(Hk I.hok (F x d).2 (F x d).1).keep k;refine sorted_genK ∅ (collect_list O.isList ?_ (by rw[a,bX];exact i7 (mq C)));obtain⟨f,D⟩:∃f,f=(s.heap.push (gQ "list" #[] 0)).update s.heap.objs.size (jt (·++B.toArray)):=⟨_,rfl⟩
 have k:∀b o,s.heap.get? b=aa o->f.get? b=aa o:=λb o e=>by rw[D];exact(mI _ _ (λz:s.heap.objs.size=b=>eV _ (z ▸ bz e))).trans (bD _ e)
 rw[<-D];clear D;have J:Inv X ah K H {s with heap:=f,toks:=s.toks}:=I.kept (t':=s.toks) k;refine⟨ftKey f,n6 ag,λv m=>?_,by rw[a,bX];exact C,λA' i W n Y=>⟨ftLt W n,λ{E Q} N=>ft_kind (s:={s with heap:=i,toks:=s.toks}) (λv m=>?_) Y N⟩,λi A e n Z b1 b2=>?_⟩
 .rw[a]at m;obtain⟨x,d,rfl⟩:=bH.mp m;exact⟨_,ftKey_of (c f k x d)⟩
 .rw[a]at m;obtain⟨x,d,rfl⟩:=bH.mp m;exact⟨_,c i (λb o e=>n b o (k b o e)) x d⟩
 .rw[a]at b1;obtain⟨g,G,w⟩:=perm_mapE b1;refine⟨.ref _,_,J.laid (t':=s.toks) (o:=.lst (k7 g)) n (a8 _) ⟨?_,A.toList,e,by rw[G];exact EY g,by rw[zR];exact Z⟩,rfl,q _ g J.fresh w ?_⟩
  .unfold k7;rw[bX,w.length_eq];exact i7 (mq C)
  .rw[G]at b2;refine(kQ.mp b2).imp_of_mem λ{x y} d P T=>?_;have:ltL _ _=am:=T _ _ (ftKey_of (c f k x (w.mem_iff.mp d))) (ftKey_of (c f k y (w.mem_iff.mp P)));simpa[cpsL,cJ,qP,fL]using this
end
end L2
namespace Pu
open L2
section
variable{K:ay}
def vx:PV->PV->Option PV
 |.str x,.str y=>aa (.bl (decide (x<=y)))
 |_,_=>ae
theorem NX:P2 K IL vx:=λF H x y v u Q pv b a e q=>by
 unfold vx at e;split at e
 .cases e;exact⟨_,_,b.1,a.1,q _ F H (Al.refl ..) rfl⟩
 .cases e
end
section
variable{X:Cx}
def xP:PV->Option (List Tx)
 |.tup xs=>(eM xs).bind λa=>if a≠[] then aa a else ae
 |_=>ae
def u7:List PV->Option (List (List Tx))
 |[]=>aa []
 |x::xs=>(xP x).bind λk=>(u7 xs).bind λks=>aa (k::ks)
def vy:List PV->Option PO
 |[.lst xs]=>(u7 xs).bind λks=>if ks.length<=1000000 then aa (.lst ((gX ks).map br))else ae
 |_=>ae
theorem FM:∀{xs:List PV}{ks:List (List Tx)},u7 xs=aa ks->xs=ks.map br/\∀k∈ks,k≠[]
 |[],ks,h=>by cases h;exact⟨rfl,λk g=>by cases g⟩
 |x::xs,ks,h=>by
  obtain⟨k,a,m⟩:=jv.mp h;obtain⟨d,l,j⟩:=jv.mp m;cases j;obtain⟨o,n⟩:=FM l;have b:x=br k/\k≠[]:=by
   unfold xP at a;split at a
   .obtain⟨p,i,f2⟩:=jv.mp a;split at f2
    .rename_i f;cases f2;rw[nh i];exact⟨rfl,f⟩
    .cases f2
   .cases a
  refine⟨by rw[o,b.1];rfl,λy c=>?_⟩;rcases bo.mp c with rfl|c
  .exact b.2
  .exact n y c
theorem Hb:∀{ks:List (List Tx)},(∀k∈ks,k≠[])->u7 (ks.map br)=aa ks
 |[],_=>rfl
 |k::ks,h=>by
  show(xP (br k)).bind _=_;have:xP (br k)=aa k:=by show(eM (aj k)).bind _=_;rw[l_,fj,if_pos (h k (by simp))]
  rw[this,fj,Hb λx a=>h x (by simp[a])];rfl
theorem HG{K:ay}{H:Hp}{F:af->Prop}:∀{ks:List (List Tx)}{d:List V},Reps K H F (ks.map br) d->∃a:List (List Tx×af),a.map (·.1)=ks/\d=k7 a/\∀q∈a,H q.2=aa (.tup (bB q.1))/\aU K H F (br q.1) (.ref q.2)
 |[],_,h=>⟨[],rfl,h,λq c=>by cases c⟩
 |k::ks,_,⟨v,r,e,g,n⟩=>by
  obtain⟨b,o,rfl,f,m⟩:=id g;rw[(T_.mp m).1]at f;obtain⟨a,l,j,i⟩:=HG n;refine⟨(k,b)::a,by rw[cS,l],by rw[e,j];rfl,λq c=>?_⟩;rcases bo.mp c with rfl|c
  .exact⟨f,g⟩
  .exact i q c
theorem Fp{K:ay}{H:Hp}{F:af->Prop}:∀{a:List (List Tx×af)},(∀q∈a,aU K H F (br q.1) (.ref q.2))->Reps K H F ((a.map (·.1)).map br) (k7 a)
 |[],_=>rfl
 |q::a,h=>⟨_,_,rfl,h q eC,Fp λx b=>h x (dy _ b)⟩
theorem LW:jW X.K (λxs H Q=>∃(p:af) (b:List (List Tx×af)),xs=[.ref p]/\cf X.K H p (k7 b)/\(∀q∈b,q.1≠[]/\H q.2=aa (.tup (bB q.1)))/\b.length<=1000000 /\ ∀l d,H l=ae->wy d b->d.Pairwise (λx y=>ltL y.1 x.1=am)->Q (.ref l) (upd H l (.lst (k7 d)))) vy:=λF H xs L Q N E d e q=>by
 unfold vy at e;split at e
 .obtain⟨v,rfl,a,M,rfl,D,_,u⟩:=gz d;obtain⟨ks,I,j⟩:=jv.mp e;obtain⟨J,K⟩:=FM I;subst J;obtain⟨b,g,rfl,n⟩:=HG u;split at j
  .rename_i C;cases j;refine⟨a,b,rfl,.inl D,λq r=>⟨K _ (by rw[<-g];exact bH.mpr ⟨q,r,rfl⟩),(n q r).1⟩,by rw[<-bX (f:=(·.1)),g];exact C,λl m i s B=>?_⟩;have al:Al F F H (upd H l (.lst (k7 m))):=Al.new0 i;have G:m.map (·.1)=gX ks:=by rw[<-g];exact BU (s.map _) (kQ.mpr (B.imp λh=>by unfold g8;rw[h];rfl))
   refine q l F _ (λc=>c=l) al ⟨⟨_,bV,?_⟩,λc=>nY⟩ λc z=>?_
   .rw[<-G];refine Fp λy A=>?_;exact aU.mono (λ_ h=>h) (λ_ _ _ h=>al.same.rd h) (λc o h _=>al.same c o h) _ _ (n y (s.mem_iff.mp A)).2
   .subst z;exact⟨i,λz=>ub (E _ z) (λo w=>by rw[i]at w;cases w),_,bV,trivial⟩
  .cases j
 .cases e
end
def vp(i:Nat)(b:ai->Bool)(h:ak->R Slot)(j:ak->R aH):ak->R aH:=λg=>match h g with
 |.ok (.val _) a=>.ok .next a
 |.ok _ _=>.no
 |.er c a=>if b c=ag/\i<a.length then(match j (a.set i (.val (.exc c)))with
  |.ok f d=>(match d[i]? with
   |some (.val _)=>.ok f (d.set i .none)
   |_=>.no)
  |_=>.no)else .no
 |.no=>.no
section
variable{X:Cx}{E:XK}{pin:List Nat}{e:aD}{l:ak->R Slot}{m:ak->R aH}{r o p j:Pos}{h n:Str}{D:af}{d:List bg}{g:bg}{b:ai->Bool}
theorem Ll(i:Nat){T:Pos}(hN:X.N.Nodup)(hx:DX X e l)(hD:X.mg h=aa (.ref D))(hE:qm X.base D)(N:∀c,b c=ag->Under X.base D c)(hh:∀a,gv (hand X a) E0 pin (g::d) m)(cN:i∉pin:=by decide) (hi:X.N[i]?=aa n:=by rfl) (hl:X.env.scope.names.lookup n=aa .local:=by rfl) (hg:Gl X h:=by rfl) (hd:(h==("__debug__":Str))=am:=by decide) (dW:X.stack=X.env::X.outer:=by rfl) (M:X.env.frame=aa X.env.locals:=by rfl) (hf:X.fn n=ag\/X.env.scope.names.lookup n=aa .local:=by first|exact .inl rfl|exact .inr rfl)(L:jG e ae T.line X.env=pure am:=by rfl):DS X E pin (.Try [.Expr e T] [.ExceptHandler (aa (.Name h o)) (aa n) (g::d) p] [] [] j) (vp i b l m):=λF S Q B H W rl q=>Bx.mk λah s I=>by
 refine wpAny_Try_except ?_;have G:=hx F S Q B H (λv x=>W.nx B x) (λc x=>∃A z w,aS X.K A z w B x/\bA (U S) (U z) F A H x/\b c=ag/\i<w.length/\gE X.K E pin B F S H (match m (w.set i (.val (.exc c)))with
  |.ok f C=>(match C[i]? with
   |some (.val _)=>.ok f (C.set i .none)
   |_=>.no)
  |_=>.no) W) rl (by
  unfold vp at q;cases P:l Q with
  |no=>rw[P]at q;exact q.elim
  |ok Z w=>
   rw[P]at q;intro A z x K O v Sr rv fr;cases Z with
   |none=>exact q.elim
   |val pv=>exact q A z B x K O (jb.refl _ _)
   |own po=>exact q.elim
  |er c w=>
   rw[P]at q;intro y A z x K O;dsimp only at q;by_cases J:b c=ag/\i<w.length
   .rw[if_pos J]at q;exact⟨A,z,w,K,O,J.1,J.2,q⟩
   .rw[if_neg J]at q;exact q.elim) ah s I
 refine IQ (wpAny_Expr_any (eW G (λu s1 ⟨v,H1,I1,r1,q1⟩=>?_) λev s1 Y=>?_) I.quiet L)
 .exact vT (vT ⟨_,H1,I1,q1⟩)
 .exact Kv i hN hD hE N hh cN hi hl hg hd dW M hf Y
end
end Pu
local macro_rules | `(tactic| simp! [$xs,*]) => `(tactic| simp [Pu.aI, Pu.dq, Pu.dB, Pu.d2, Pu.d1, Pu.dV, Pu.dC, Pu.dL, Pu.dF, Pu.ax, Pu.aB, Pu.dj, Pu.uQ, Pu.b8, Pu.fu, Pu.aZ, Pu.gV, Pu.gO, Pu.b9, Pu.e_, Pu.fz, Pu.cz, Pu.d4, Pu.fG, Pu.R.bind, Pu.aJ, Pu.cb, Pu.gW, Pu.b_, Pu.back, Pu.iX, Pu.jT, Pu.HI, Pu.oJ, Pu.tm, Pu.G8, Pu.bd, Pu.sv, Pu.fH, Pu.bF, Pu.eU, Pu.Cr, Pu.lw, Pu.RW, Pu.nj, Pu.Ce, Pu.oG, Pu.uB, Pu.pT, Pu.PU, Pu.sk, Pu.dQ, Pu.cB, Pu.ji, Pu.fh, Pu.je, Pu.imm, Pu.lp, Pu.ip, bK, qD, $xs,*])
local macro_rules | `(tactic| and_intros) => `(tactic| (refine' Pu.T3 ?a ?l ?c ?k; (case a => k_is); (case l => k_is); (case c => k_is); (case k => k_is)))
namespace K26
open L2 Pu Sh
def eN(i:Nat):bg:=PySem.Challenge.pw_slitview_k26_whole_pairs.main.body.getD i (.Pass ⟨0,0,0,0⟩)
abbrev Au:bg:=eN 35
abbrev Am:bg:=eN 36
abbrev Bm:bg:=eN 37
abbrev xH:bg:=eN 40
abbrev Cn:bg:=eN 38
abbrev Bc:bg:=eN 39
abbrev AQ:bg:=eN 41
abbrev ze:bg:=eN 42
abbrev vE:bg:=eN 44
abbrev uJ:bg:=eN 43
abbrev AU:bg:=eN 18
abbrev CC:bg:=eN 19
abbrev x0:bg:=eN 17
abbrev B8:bg:=eN 20
abbrev yb:bg:=eN 21
abbrev BX:bg:=eN 22
abbrev By:bg:=eN 23
abbrev CD:bg:=eN 24
abbrev Bp:bg:=eN 31
abbrev xD:bg:=eN 32
abbrev A6:bg:=eN 27
abbrev AJ:bg:=eN 26
abbrev zh:bg:=eN 28
abbrev AM:bg:=eN 33
abbrev A8:bg:=eN 45
abbrev uA:bg:=eN 46
structure eu(K:ay)(mg:Str->Option ai)(base:az)(a:Ad):Prop where
 yaz:dH K mg "_law_cell_at" Au
 yaB:dH K mg "_law_mixed" Am
 yaA:dH K mg "_law_draw" Bm
 yaD:dH K mg "_law_seen" xH
 yaC:dH K mg "_law_pick" Cn
 yaE:dH K mg "_law_text" Bc
 yaH:dH K mg "_law_view" AQ
 yaG:dH K mg "_law_under" ze
 yaF:dH K mg "_law_trails" vE
 yay:dH K mg "_law_all" uJ
 yau:dH K mg "is_whole_number" AU
 yav:dH K mg "is_width" CC
 yar:dH K mg "has_only" x0
 yaw:dH K mg "is_window" B8
 yan:dH K mg "are_windows" yb
 yat:dH K mg "is_view_with" BX
 yas:dH K mg "is_view" By
 yap:dH K mg "check_view" CD
 yao:dH K mg "check_shared_view" Bp
 yaK:dH K mg "partings" xD
 yam:dH K mg "add_endings" A6
 yaq:dH K mg "counted" AJ
 yaL:dH K mg "texts" zh
 yaJ:dH K mg "pairs" AM
 yaI:dH K mg "_law_which" A8
 yax:dH K mg "law" uA
 yaM:mg "ValueError"=ae
 yaN:mg "all"=ae
 yaO:mg "any"=ae
 yaP:mg "bool"=ae
 yaQ:mg "int"=ae
 yaR:mg "isinstance"=ae
 yaS:mg "len"=ae
 yaT:mg "list"=ae
 yaU:mg "max"=ae
 yaV:mg "min"=ae
 yaW:mg "range"=ae
 yaX:mg "set"=ae
 yaY:mg "sorted"=ae
 yaZ:mg "str"=ae
 ya0:mg "tuple"=ae
 ya3:∃t,mg "LETTERS"=aa (.str (tS [97,98,99]) t)
 ya4:∃t,mg "MOST_WINDOWS"=aa (.int 9 t)
 ya5:∃t,mg "MOST_WINDOWS_SHARED"=aa (.int 6 t)
 ya6:∃t,mg "WIDEST"=aa (.int 4 t)
 yak:mg "SlitError"=aa (.ref a.SlitError)
 yaf:mg "NoText"=aa (.ref a.NoText)
 yah:mg "NoWidth"=aa (.ref a.NoWidth)
 yag:mg "NoView"=aa (.ref a.NoView)
 yai:mg "NoWindow"=aa (.ref a.NoWindow)
 yac:mg "Never"=aa (.ref a.Never)
 yab:mg "Full"=aa (.ref a.Full)
 yaj:mg "Nothing"=aa (.ref a.Nothing)
 yal:mg "Unlike"=aa (.ref a.Unlike)
 yae:mg "NoPlace"=aa (.ref a.NoPlace)
 yad:mg "NoLetters"=aa (.ref a.NoLetters)
 yaa:mg "BadText"=aa (.ref a.BadText)
 ya2:OwnCls "NoView" a.NoView [.type "ValueError",.type "Exception",.type "BaseException",.type "object"] "ValueError.__new__" mg base
 ya1:OwnCls "Full" a.Full [.type "ValueError",.type "Exception",.type "BaseException",.type "object"] "ValueError.__new__" mg base
 err_SlitError:qm base a.SlitError
 und:∀c,pP a c=ag->Under base a.SlitError c
 tab:AY K (jk a)
section
variable{P:aO}{w:aG}{K:ay}{c:Str->Option ai}{b:az}{a:Ad}
theorem QH:cO ["_law_script","_law_k"] ["_law_script","_law_k"] (bh Au):=by ac_nf
theorem QQ(G:eu K c b a):dZ (c7 P w) P w K c b "_law_cell_at" 1 ["_law_script","_law_k"] (cg K (sq a)) :=
 eT (k:=0) (pin:=[]) G.yaz QH rfl (λ_ _ _ _ _ _ g i=>Pu.T6 (λ_ _=>rfl) g i) (λf j A d s H E h=>by exact
  (bq (j5 (iD Ro kF (au 1) (cZ jl jo G.yaS jh (aF (au 0) aY)) rfl) (bE (fi (gw gD gG (au 0) (au 1)))) jV)
  (bq (j5 (iD (qo h.units) pY (au 0) (qg aY) rfl) (bE (fi bi)) jV)
  (bE (fi (cu fg fe (cu yt yd (gw gD gG (au 0) (cu rN tz (au 1) (cZ jl jo G.yaS jh (aF (au 0) aY)))) bi) (au 1)))))))
theorem Pz:cO ["_law_script","_law_k","_law_many","_law_drawn"] ["_law_script","_law_k","_law_many"] (bh Am):=by ac_nf
theorem Ki(G:eu K c b a):dZ (c7 P w) P w K c b "_law_mixed" 2 ["_law_script","_law_k","_law_many"] (cg K (y9 a)) :=
 eT (k:=1) (pin:=[]) G.yaB Pz rfl (λ_ _ _ _ _ _ g i=>Pu.Ud (λ_ _ _=>rfl) g i) (λf j A d s H E h=>by exact
  (bq (ff 3 Pz.nd (cu rN tz (cu fg fe (cu fg fe (cu yt yd ((cC (QQ G) (h.mono (by decide)) fc (a_ (au 0) (a_ (au 1) cn)))).de bi) (cu yt yd bi (au 1))) bi) bi))
  (bE (fi (cu rN tz (cu rN tz (cu rN tz (cu Rh Tl (au 3) bi) bi) bi) (au 2))))))
theorem Se:cO ["_law_script","_law_town","_law_many"] ["_law_script","_law_town","_law_many"] (bh Bm):=by ac_nf
theorem oE(G:eu K c b a):dZ (c7 P w) P w K c b "_law_draw" 3 ["_law_script","_law_town","_law_many"] (cg K (jq a)) :=
 eT (k:=2) (pin:=[1]) G.yaA Se rfl (λ_ _ _ _ _ _ g i=>Pu.Ud (λ_ _ _=>rfl) g i) (λf j A d s H E h=>by exact
  (bq (vg 1 bi)
  (bE (Eu (cC (Ki G) (h.mono (by decide)) fc (a_ (au 0) (a_ (Hj 1 jl jo G.yaS jh) (a_ (au 2) cn))))))))
theorem RA:cO ["_law_text_here","_law_width"] ["_law_text_here","_law_width"] (bh xH):=by ac_nf
theorem uI(G:eu K c b a):dZ (c7 P w) P w K c b "_law_seen" 1 ["_law_text_here","_law_width"] (cg K (ku a)) :=
 eT (k:=0) (pin:=[]) G.yaD RA rfl (λ_ _ _ _ _ _ i l=>Pu.T6 (λ_ _=>rfl) i l) (λf o A h s H E n=>by exact
  (bE (fi (CA yX y0 G.ya0 r_ (aF (AF xT zd G.yaY mw (aF (l8 (cap:=[0,1]) (N':=["_law_at","_law_text_here","_law_width"]) (jY.of ["_law_text_here","_law_width"] (bh xH) rfl rfl (by decide +kernel)) rfl (xR G.yaW (aF (cZ jl jo G.yaS jh (aF (au 0) aY)) aY)) (λC d g m j=>by exact sE (iD rG kF (cu fg fe (au 0) (au 2)) (cZ jl jo G.yaS jh (aF (au 1) aY)) rfl)) (λC d g m j=>by exact(s_ tu qp (au 1) (pR (au 0)) (pR (cu fg fe (au 0) (au 2)))))).de aY)).de aY)))))
theorem PH:cO ["_law_script","_law_town","_law_some"] ["_law_script","_law_town","_law_some"] (bh Cn):=by ac_nf
theorem SY(G:eu K c b a):dZ (c7 P w) P w K c b "_law_pick" 4 ["_law_script","_law_town","_law_some"] (cg K (yo a)) :=
 eT (k:=3) (pin:=[1]) G.yaC PH rfl (λ_ _ _ _ _ _ g i=>Pu.Ud (λ_ _ _=>rfl) g i) (λf j A d s H E h=>by exact
  (bE (fi (gw gD gG (au 2) ((cC (oE G) (h.mono (by decide)) fc (a_ (au 0) (iV 1 (a_ (cZ jl jo G.yaS jh (aF (au 2) aY)) cn))))).de))))
theorem S8:cO ["_law_script","_law_town","_law_low","_law_most","_law_few","_law_made","_law_k"] ["_law_script","_law_town","_law_low","_law_most"] (bh Bc):=by ac_nf
theorem Az(G:eu K c b a):dZ (c7 P w) P w K c b "_law_text" 5 ["_law_script","_law_town","_law_low","_law_most"] (cg K (oH a)) :=
 eT (k:=4) (pin:=[1]) G.yaE S8 rfl (λ_ _ _ _ _ _ h i=>Pu.Uq (λ_ _ _ _=>rfl) h i) (λf j A d s H E g=>by exact
  (bq (ff 4 S8.nd ((cC (SY G) (g.mono (by decide)) fc (a_ (au 0) (iV 1 (a_ (qg (aF bi (aF bi (aF bi (aF bi (aF bi (aF bi aY))))))) cn))))).de)
  (bq (ff 5 S8.nd (lq []))
  (bq (mh (k8 6 jJ rfl S8.nd (xR G.yaW (aF (cu fg fe (au 2) ((cC (oE G) (g.mono (by decide)) iL (a_ (au 0) (iV 1 (a_ (cu fg fe (cu uH uK (au 3) (au 2)) bi) cn))))).de) aY)) (bE (ff 5 S8.nd (cu fg fe (au 5) (gw gD gG (lq [97,98,99]) ((cC (oE G) (g.mono (by decide)) iL (a_ (au 0) (iV 1 (a_ (au 4) cn))))).de))))))
  (bE (fi (au 5)))))))
theorem RV:cO ["_law_script","_law_town","_law_spoil","_law_most","_law_width","_law_windows","_law_k"] ["_law_script","_law_town","_law_spoil","_law_most"] (bh AQ):=by ac_nf
theorem Ra(G:eu K c b a):dZ (c7 P w) P w K c b "_law_view" 6 ["_law_script","_law_town","_law_spoil","_law_most"] (cg K (rF a)) :=
 eT (k:=5) (pin:=[1]) G.yaH RV rfl (λ_ _ _ _ _ _ h i=>Pu.Uq (λ_ _ _ _=>rfl) h i) (λf j A g s H E d=>by exact
  (bq (ff 4 RV.nd (GZ (iD (rP d.units) sQ (au 2) bi rfl) (cu fg fe bi ((cC (oE G) (d.mono (by decide)) fc (a_ (au 0) (iV 1 (a_ bi cn))))).de) (cu fg fe bi ((cC (oE G) (d.mono (by decide)) fc (a_ (au 0) (iV 1 (a_ bi cn))))).de)))
  (bq (ln 5 RV.nd (Be Cw Bt G.yaT AS (aF ((cC (uI G) (d.mono (by decide)) fc (a_ ((cC (Az G) (d.mono (by decide)) fc (a_ (au 0) (iV 1 (a_ (au 4) (a_ (cu uH uK (cu fg fe (au 4) (au 3)) bi) cn)))))).de (a_ (au 4) cn)))).de aY)))
  (bq (mh (k8 6 jJ rfl RV.nd (xR G.yaW (aF (cu rN tz (au 2) bi) aY)) (bE (Qj 5 ((cC (oE G) (d.mono (by decide)) iL (a_ (au 0) (iV 1 (a_ (Hj 5 jl jo G.yaS jh) cn))))).de ((cC (Az G) (d.mono (by decide)) iL (a_ (au 0) (iV 1 (a_ (au 4) (a_ (au 4) cn)))))).de))))
  (bE (fi (fX (aF (au 4) (aF (CA yX y0 G.ya0 r_ (aF (BK 5 xT zd G.yaY mw).de aY)) aY)))))))))
theorem K5:cO ["_law_text_here","_law_width","_law_windows","_law_made"] ["_law_text_here","_law_width","_law_windows"] (bh ze):=by ac_nf
theorem GF(G:eu K c b a):dZ (c7 P w) P w K c b "_law_under" 2 ["_law_text_here","_law_width","_law_windows"] (cg K (kI a)) :=
 eT (k:=1) (pin:=[]) G.yaG K5 rfl (λ_ _ _ _ _ _ i m=>Pu.Ud (λ_ _ _=>rfl) i m) (λf o A h s H E l=>by exact
  (bq (ff 3 K5.nd ((cC (uI G) (l.mono (by decide)) fc (a_ (au 0) (a_ (au 1) cn)))).de)
  (bE (fi (cZ (Cf rfl) CF G.yaN Cy (aF (l8 (cap:=[3,2]) (N':=["_law_window","_law_made","_law_windows"]) (jY.of ["_law_text_here","_law_width","_law_windows","_law_made"] (bh ze) rfl rfl (by decide +kernel)) rfl (gf (au 3)) (λC d g n j=>by exact uS) (λC d g n j=>by exact(vF rG kF (GP (au 1) (au 0)) (GP (au 2) (au 0)) rfl))).de aY))))))
theorem LF:cO ["_law_width","_law_windows","_law_made","_law_rows","_law_text_here","_law_rest","_law_window"] ["_law_width","_law_windows"] (bh vE):=by ac_nf
theorem RB(G:eu K c b a):dZ (c7 P w) P w K c b "_law_trails" 3 ["_law_width","_law_windows"] (cg K (sU a)) :=
 eT (k:=2) (pin:=[]) G.yaF LF rfl (λ_ _ _ _ _ _ m n=>Pu.T6 (λ_ _=>rfl) m n) (λf o A j s H E h=>by exact
  (bq (ln 2 LF.nd (oM aY))
  (bq (S6 3 LF.nd (cap:=[]) (N':=["_law_window"]) (jY.of ["_law_width","_law_windows","_law_made","_law_rows","_law_text_here","_law_rest","_law_window"] (bh vE) rfl rfl (by decide +kernel)) rfl (gf (LJ rfl (aF (au 1) aY) G.yaY G.yaX).de) (λC d g l i=>by exact uS) (λC d g l i=>by exact(au 0)))
  (bq (mh (OE (λ_=>100000) jJ (LS 3 (rP h.units) sQ (qg aY) rfl) (bq (ff 4 LF.nd (Sf 3))
  (bq (ln 5 LF.nd (Be Cw Bt G.yaT AS (aF (au 1) aY)))
  (bq (k8 6 jJ rfl LF.nd (gf ((cC (uI G) (h.mono (by decide)) iL (a_ (au 4) (a_ (au 0) cn)))).de) (bE (Tn 5 (au 6))))
  (bq (vg 2 (fX (aF (au 4) (aF (O0 5 yX y0 G.ya0 r_) aY))))
  (bE (u6 3 (l8 (cap:=[4,0,1]) (N':=["_law_letter","_law_text_here","_law_width","_law_windows"]) (jY.of ["_law_width","_law_windows","_law_made","_law_rows","_law_text_here","_law_rest","_law_window"] (bh vE) rfl rfl (by decide +kernel)) rfl (gf (lq [97,98,99])) (λC d g l i=>by exact sE (o6 ((cC (GF G) (h.mono (by decide)) iL (a_ (cu fg fe (au 1) (au 0)) (a_ (au 2) (a_ (au 3) cn))))).de)) (λC d g l i=>by exact(cu fg fe (au 1) (au 0)))).de))))))))
  (bE (fi (BK 2 (call_sortedQr h.units rfl) Tf G.yaY mw).de))))))
theorem MT:cO ["_law_asked","_law_width","_law_windows","_law_rows","_law_k","_law_longer","_law_line"] ["_law_asked"] (bh uJ):=by ac_nf
theorem Mr(G:eu K c b a):dZ (c7 P w) P w K c b "_law_all" 3 ["_law_asked"] (cg K (pZ a)) :=
 eT (k:=2) (pin:=[]) G.yay MT rfl (λ_ _ _ _ _ _ m n=>Pu.Ug (λ_=>rfl) m n) (λf o A i s H E j=>by exact
  (bq (SG 1 2 rfl MT.nd (au 0))
  (bq (ff 3 MT.nd (qg (aF (lq []) aY)))
  (bq (mh (k8 4 jJ rfl MT.nd (xR G.yaW (aF (cu uH uK (cu fg fe (cZ jl jo G.yaS jh (aF (au 2) aY)) (au 1)) bi) aY)) (bq (ln 5 MT.nd (oM aY))
  (bq (k8 6 jJ rfl MT.nd (gf (au 3)) (bE (u6 5 (l8 (cap:=[6,1,2]) (N':=["_law_letter","_law_line","_law_width","_law_windows"]) (jY.of ["_law_asked","_law_width","_law_windows","_law_rows","_law_k","_law_longer","_law_line"] (bh uJ) rfl rfl (by decide +kernel)) rfl (gf (lq [97,98,99])) (λC d g l h=>by exact sE (o6 ((cC (GF G) (j.mono (by decide)) iL (a_ (cu fg fe (au 1) (au 0)) (a_ (au 2) (a_ (au 3) cn))))).de)) (λC d g l h=>by exact(cu fg fe (au 1) (au 0)))).de)))
  (bE (ff 3 MT.nd (IB 5)))))))
  (bE (Gh (l8 (cap:=[1,2]) (N':=["_law_line","_law_width","_law_windows"]) (jY.of ["_law_asked","_law_width","_law_windows","_law_rows","_law_k","_law_longer","_law_line"] (bh uJ) rfl rfl (by decide +kernel)) rfl (gf (au 3)) (λC d g l h=>by exact sE (iD (qo j.units) pY ((cC (uI G) (j.mono (by decide)) iL (a_ (au 0) (a_ (au 1) cn)))).de (au 2) rfl)) (λC d g l h=>by exact(au 0)))))))))
theorem NY:cO ["thing"] ["thing"] (bh AU):=by ac_nf
theorem LK(G:eu K c b a):dZ (c7 P w) P w K c b "is_whole_number" 1 ["thing"] (cg K (xL a)) :=
 eT (k:=0) (pin:=[]) G.yau NY rfl (λ_ _ _ _ _ _ g h=>Pu.Ug (λ_=>rfl) g h) (λf j A d s H E i=>by exact
  (bE (fi (vt (cZ rM sr G.yaR iH (aF (au 0) (aF (rQ G.yaQ Qi) aY))) (xG (Q3 (cZ rM sr G.yaR iH (aF (au 0) (aF (rQ G.yaP P8) aY)))))))))
theorem RT:cO ["thing"] ["thing"] (bh CC):=by ac_nf
theorem NQ(G:eu K c b a):dZ (c7 P w) P w K c b "is_width" 2 ["thing"] (cg K (tt a)) :=
 eT (k:=1) (pin:=[]) G.yav RT rfl (λ_ _ _ _ _ _ g i=>Pu.Ug (λ_=>rfl) g i) (λf j A d s H E h=>by exact
  (bE (fi (vt ((cC (LK G) (h.mono (by decide)) fc (a_ (au 0) cn))).de (xG (SC rG rG kF kF bi (au 0) (Cd G.ya6)))))))
theorem L6:cO ["text","signs"] ["text","signs"] (bh x0):=by ac_nf
theorem P0(G:eu K c b a):dZ (c7 P w) P w K c b "has_only" 1 ["text","signs"] (cg K (zb a)) :=
 eT (k:=0) (pin:=[]) G.yar L6 rfl (λ_ _ _ _ _ _ i l=>Pu.T6 (λ_ _=>rfl) i l) (λf o A h s H E n=>by exact
  (bE (fi (cZ (Cf rfl) CF G.yaN Cy (aF (l8 (cap:=[1]) (N':=["sign","signs"]) (jY.of ["text","signs"] (bh x0) rfl rfl (by decide +kernel)) rfl (gf (au 0)) (λC d g m j=>by exact uS) (λC d g m j=>by exact(vF Rs KG (au 0) (au 1) rfl))).de aY)))))
theorem Md:cO ["thing","width","signs"] ["thing","width","signs"] (bh B8):=by ac_nf
theorem NE(G:eu K c b a):dZ (c7 P w) P w K c b "is_window" 2 ["thing","width","signs"] (cg K (sV a)) :=
 eT (k:=1) (pin:=[]) G.yaw Md rfl (λ_ _ _ _ _ _ h i=>Pu.Ud (λ_ _ _=>rfl) h i) (λf j A d s H E g=>by exact
  (bE (fi (vt (cZ rM sr G.yaR iH (aF (au 0) (aF (rQ G.yaZ Ou) aY))) (vt (vF (qo g.units) pY (cZ jl jo G.yaS jh (aF (au 0) aY)) (au 1) rfl) (xG ((cC (P0 G) (g.mono (by decide)) fc (a_ (au 0) (a_ (au 2) cn)))).de))))))
theorem Q7:cO ["thing","width","signs"] ["thing","width","signs"] (bh yb):=by ac_nf
theorem On(G:eu K c b a):dZ (c7 P w) P w K c b "are_windows" 3 ["thing","width","signs"] (cg K (oS a)) :=
 eT (k:=2) (pin:=[]) G.yan Q7 rfl (λ_ _ _ _ _ _ j m=>Pu.Ud (λ_ _ _=>rfl) j m) (λf o A h s H E i=>by exact
  (bq (j5 ((AC (pU (o6 (cZ rM sr G.yaR iH (aF (au 0) (aF (rQ G.ya0 r_) aY))))) (Ax (pU (L_ rG rG kF kF bi (cZ jl jo G.yaS jh (aF (au 0) aY)) (Cd G.ya4)))))).dt (bE (fi qa)) jV)
  (bq (j5 (pU (o6 (cZ (Cf rfl) CF G.yaN Cy (aF (l8 (cap:=[1,2]) (N':=["window","width","signs"]) (jY.of ["thing","width","signs"] (bh yb) rfl rfl (by decide +kernel)) rfl (gf (au 0)) (λC d g n l=>by exact uS) (λC d g n l=>by exact((cC (NE G) (i.mono (by decide)) iL (a_ (au 0) (a_ (au 1) (a_ (au 2) cn))))).de)).de aY)))) (bE (fi qa)) jV)
  (bE (fi (vF (qo i.units) pY (Be Cw Bt G.yaT AS (aF (au 0) aY)).de (AF xT zd G.yaY mw (aF (au 0) aY)).de rfl))))))
theorem Kt:cO ["thing","signs"] ["thing","signs"] (bh BX):=by ac_nf
theorem Mf(G:eu K c b a):dZ (c7 P w) P w K c b "is_view_with" 4 ["thing","signs"] (cg K (sF a)) :=
 eT (k:=3) (pin:=[]) G.yat Kt rfl (λ_ _ _ _ _ _ h i=>Pu.T6 (λ_ _=>rfl) h i) (λf j A d s H E g=>by exact
  (bq (j5 ((AC (pU (o6 (cZ rM sr G.yaR iH (aF (au 0) (aF (rQ G.ya0 r_) aY))))) (Ax (iD (rP g.units) sQ (cZ jl jo G.yaS jh (aF (au 0) aY)) bi rfl)))).dt (bE (fi qa)) jV)
  (bE (fi (vt ((cC (NQ G) (g.mono (by decide)) fc (a_ (gw gD gG (au 0) bi) cn))).de (xG ((cC (On G) (g.mono (by decide)) fc (a_ (gw gD gG (au 0) bi) (a_ (gw gD gG (au 0) bi) (a_ (au 1) cn))))).de))))))
theorem Lr:cO ["thing"] ["thing"] (bh By):=by ac_nf
theorem Q4(G:eu K c b a):dZ (c7 P w) P w K c b "is_view" 5 ["thing"] (cg K (yG a)) :=
 eT (k:=4) (pin:=[]) G.yas Lr rfl (λ_ _ _ _ _ _ g i=>Pu.Ug (λ_=>rfl) g i) (λf j A d s H E h=>by exact
  (bE (Eu (cC (Mf G) (h.mono (by decide)) fc (a_ (au 0) (a_ (Ie G.ya3) cn))))))
theorem Ta:cO ["thing"] ["thing"] (bh CD):=by ac_nf
theorem HJ(G:eu K c b a):dZ (c7 P w) P w K c b "check_view" 6 ["thing"] (cg K (p8 a)) :=
 eT (k:=5) (pin:=[]) G.yap Ta rfl (λ_ _ _ _ _ _ g i=>Pu.Ug (λ_=>rfl) g i) (λf j A d s H E h=>by exact
  (bE (j5 (pU (o6 ((cC (Q4 G) (h.mono (by decide)) fc (a_ (au 0) cn))).de)) (bE (GX EQ rfl G.ya2 PySem.F.excBase_ValueError (lq [97,32,118,105,101,119,32,105,115,32,97,32,116,117,112,108,101,32,111,102,32,97,32,119,105,100,116,104,32,97,110,100,32,97,32,114,105,115,105,110,103,32,116,117,112,108,101,32,111,102,32,49,32,116,111,32,57,32,119,105,110,100,111,119,115]))) jV)))
theorem OG:cO ["view"] ["view"] (bh Bp):=by ac_nf
theorem K3(G:eu K c b a):dZ (c7 P w) P w K c b "check_shared_view" 7 ["view"] (cg K (sj a)) :=
 eT (k:=6) (pin:=[]) G.yao OG rfl (λ_ _ _ _ _ _ g i=>Pu.Ug (λ_=>rfl) g i) (λf j A d s H E h=>by exact
  (bq (uF (cC (HJ G) (h.mono (by decide)) fc (a_ (au 0) cn)))
  (bE (j5 (iD u0 kF (cZ jl jo G.yaS jh (aF (gw gD gG (au 0) bi) aY)) (Cd G.ya5) rfl) (bE (GX EQ rfl G.ya1 PySem.F.excBase_ValueError (lq [97,32,118,105,101,119,32,116,104,97,116,32,105,115,32,115,104,97,114,101,100,32,111,117,116,32,97,109,111,110,103,32,116,101,120,116,115,32,104,97,115,32,117,112,32,116,111,32,54,32,119,105,110,100,111,119,115]))) jV))))
theorem Sl:cO ["windows","ways","window","longer","part","rest"] ["windows"] (bh xD):=by ac_nf
theorem NP(G:eu K c b a):dZ (c7 P w) P w K c b "partings" 1 ["windows"] (cg K (qj a)) :=
 eT (k:=0) (pin:=[]) G.yaK Sl rfl (λ_ _ _ _ _ _ i m=>Pu.Ug (λ_=>rfl) i m) (λf o A h s H E l=>by exact
  (bq (ff 1 Sl.nd (qg (aF (fX (aF (s_ OT KY (au 0) vd (pR bi)) (aF (fX aY) aY))) aY)))
  (bq (mh (k8 2 jJ rfl Sl.nd (gf (s_ tu qp (au 0) (pR bi) vd)) (bq (ln 3 Sl.nd (oM aY))
  (bq (Cv 4 5 jJ rfl Sl.nd (gf (au 1)) (bq (vg 3 (fX (aF (cu EW GC (au 4) (fX (aF (au 2) aY))) (aF (au 5) aY))))
  (bE (vg 3 (fX (aF (au 4) (aF (cu EW GC (au 5) (fX (aF (au 2) aY))) aY)))))))
  (bE (ff 1 Sl.nd (IB 3)))))))
  (bE (Gh (l8 (cap:=[]) (N':=["way"]) (jY.of ["windows","ways","window","longer","part","rest"] (bh xD) rfl rfl (by decide +kernel)) rfl (gf (dn_sortSetD l.units rfl (aF (au 1) aY) G.yaY G.yaX).de) (λC d g n j=>by exact sE (iD u0 kF (cZ jl jo G.yaS jh (aF (gw gD gG (au 0) bi) aY)) bi rfl)) (λC d g n j=>by exact(au 0))))))))
theorem ET:cO ["text","width","left","found","head","letter","window"] ["text","width","left","found"] (bh A6):=by ac_nf
theorem OC(G:eu K c b a)(m:Nat):dZ (c7 P w) P w K c b "add_endings" (1+m) ["text","width","left","found"] (cg K (o0 a m)):=by
 induction m with
 |zero=>exact eT (k:=0) (pin:=[2,3]) G.yam ET rfl (λ_ _ _ _ _ _ h i=>Pu.Uq (λ_ _ _ _=>rfl) h i) (λf l A d s H E g=>Sg)
 |succ m j=>exact eT (k:=1+m) (pin:=[2,3]) G.yam ET rfl (λ_ _ _ _ _ _ h i=>Pu.Uq (λ_ _ _ _=>rfl) h i) (λf l A d s H E g=>by exact
  (bq (j5 (pU (o6 (Pg 2 rfl G.yaO))) (bq (vg 3 (au 0))
  (bE Sd)) jV)
  (bq (ff 4 ET.nd (s_ tu qp (au 0) (pR (cu fg fe (cu uH uK (cZ jl jo G.yaS jh (aF (au 0) aY)) (au 1)) bi)) vd))
  (bE (mh (k8 5 jJ rfl ET.nd (gf (Ie G.ya3)) (bq (ff 6 ET.nd (cu fg fe (au 4) (au 5)))
  (bE (j5 (iD u0 kF (Hw 2 g.units (au 6) bi) bi rfl) (bq (Cs 2 g.units (au 6) (cu uH uK (F7 2 g.units (au 6)) bi))
  (bq (uF (cC j (g.mono ∅) iL (a_ (cu fg fe (au 0) (au 5)) (a_ (au 1) (iV 2 (iV 3 cn))))))
  (bE (Cs 2 g.units (au 6) (cu fg fe (F7 2 g.units (au 6)) bi))))) jV)))))))))
theorem Lc:cO ["windows","counts","window"] ["windows"] (bh AJ):=by ac_nf
theorem ML(G:eu K c b a):dZ (c7 P w) P w K c b "counted" 1 ["windows"] (cg K (vO a)) :=
 eT (k:=0) (pin:=[]) G.yaq Lc rfl (λ_ _ _ _ _ _ h i=>Pu.Ug (λ_=>rfl) h i) (λf j A d s H E g=>by exact
  (bq (ln 1 Lc.nd (Mi))
  (bq (mh (k8 2 jJ rfl Lc.nd (gf (au 0)) (bE (Cs 1 g.units (au 2) (cu fg fe (Hw 1 g.units (au 2) bi) bi)))))
  (bE (G3 1)))))
theorem Tb:cO ["view","width","found","head"] ["view"] (bh zh):=by ac_nf
theorem EE(G:eu K c b a):dZ (c7 P w) P w K c b "texts" 14 ["view"] (cg K (oY a)) :=
 eT (k:=13) (pin:=[]) G.yaL Tb rfl (λ_ _ _ _ _ _ j m=>Pu.Ug (λ_=>rfl) j m) (λf o A h s H E i=>by exact
  (bq (uF (cC (HJ G) (i.mono (by decide)) fc (a_ (au 0) cn)))
  (bq (ff 1 Tb.nd (gw gD gG (au 0) bi))
  (bq (ln 2 Tb.nd (oM aY))
  (bq (mh (k8 3 jJ rfl Tb.nd (gf (Nk rfl (aF (l8 (cap:=[]) (N':=["window"]) (jY.of ["view","width","found","head"] (bh zh) rfl rfl (by decide +kernel)) rfl (gf (gw gD gG (au 0) bi)) (λC d g n l=>by exact uS) (λC d g n l=>by exact(s_ tu qp (au 0) vd (pR (GN FJ Io bi))))).de aY) G.yaY G.yaX).de) (bE (uF (Q_ (OC G 12) (i.mono (by decide)) iL (EF (au 3) (EF (au 1) (Ng (((cC (ML G) (i.mono (by decide)) iL (a_ (gw gD gG (au 0) bi) cn))).dn) (iV 2 cn)))))))))
  (bE (G3 2)))))))
theorem KM:cO ["view","found","part","rest","others","one","other"] ["view"] (bh AM):=by ac_nf
theorem FU(G:eu K c b a):dZ (c7 P w) P w K c b "pairs" 15 ["view"] (cg K (oQ a)) :=
 eT (k:=14) (pin:=[]) G.yaJ KM rfl (λ_ _ _ _ _ _ h i=>Pu.Ug (λ_=>rfl) h i) (λf j A g s H E d=>by exact
  (bq (uF (cC (K3 G) (d.mono (by decide)) fc (a_ (au 0) cn)))
  (bq (ln 1 KM.nd M9)
  (bq (mh (Cv 2 3 jJ rfl KM.nd (gf ((cC (NP G) (d.mono (by decide)) iL (a_ (gw gD gG (au 0) bi) cn))).de) (bq (ff 4 KM.nd ((cC (EE G) (d.mono (by decide)) iL (a_ (fX (aF (gw gD gG (au 0) bi) (aF (au 3) aY))) cn))).de)
  (bE (k8 5 jJ rfl KM.nd (gf ((cC (EE G) (d.mono (by decide)) iL (a_ (fX (aF (gw gD gG (au 0) bi) (aF (au 2) aY))) cn))).de) (bE (k8 6 jJ rfl KM.nd (gf (au 4)) (bE (Tc 1 d.units (fX (aF (cZ (RP rfl) My G.yaV Ke (aF (au 5) (aF (au 6) aY))) (aF (cZ (RJ rfl) KO G.yaU NV (aF (au 5) (aF (au 6) aY))) aY))) qa)))))))))
  (bE (fi (Sz 1 d.units rfl G.yaY).de))))))
theorem Mj:cO ["_law_e","_law_own"] ["_law_e"] (bh A8):=by ac_nf
theorem NZ(G:eu K c b a):ya P w K c b "_law_which" 1 ["_law_e"] (cg K (vq a)) :=
 Ms (k:=0) (pin:=[]) G.yaI Mj rfl (λ_ _ _ _ _ _ g i=>Pu.Ug (λ_=>rfl) g i) (λf j A d s H h=>by exact
  (bq (ln 1 Mj.nd (oM (aF (cZ kG (kB G.tab) G.yaR iH (aF (au 0) (aF (lj G.yaf) aY))) (aF (cZ kG (kB G.tab) G.yaR iH (aF (au 0) (aF (lj G.yah) aY))) (aF (cZ kG (kB G.tab) G.yaR iH (aF (au 0) (aF (lj G.yag) aY))) (aF (cZ kG (kB G.tab) G.yaR iH (aF (au 0) (aF (lj G.yai) aY))) aY))))))
  (bq (u6 1 (qg (aF (cZ kG (kB G.tab) G.yaR iH (aF (au 0) (aF (lj G.yac) aY))) (aF (cZ kG (kB G.tab) G.yaR iH (aF (au 0) (aF (lj G.yab) aY))) (aF (cZ kG (kB G.tab) G.yaR iH (aF (au 0) (aF (lj G.yaj) aY))) (aF (cZ kG (kB G.tab) G.yaR iH (aF (au 0) (aF (lj G.yal) aY))) aY))))))
  (bq (u6 1 (qg (aF (cZ kG (kB G.tab) G.yaR iH (aF (au 0) (aF (lj G.yae) aY))) (aF (cZ kG (kB G.tab) G.yaR iH (aF (au 0) (aF (lj G.yad) aY))) (aF (cZ kG (kB G.tab) G.yaR iH (aF (au 0) (aF (lj G.yaa) aY))) aY)))))
  (bq (j5 ((AC (iD (rP h.units) sQ (MZ 1 qa) bi rfl) (Ax (pU (o6 (cZ kG (kB G.tab) G.yaR iH (aF (au 0) (aF (rQ G.yaM Q8) aY)))))))).dt (bE (fi (fX (aF (lq [114,101,102,117,115,101,100]) (aF (GN FJ Io bi) aY))))) jV)
  (bE (fi (fX (aF (lq [114,101,102,117,115,101,100]) (aF (Ln 1 qa) aY))))))))))
def yax(a:Ad):ak->R aH:=aI (fu 1 (dL fH (aB)))
 (aI (b8 2 (bd (aZ (jq a) (gV (dV 0) (gO 1 (gV (dC (.int 3)) (b9)))))))
 (aI (b8 3 (bd (aZ (jq a) (gV (dV 0) (gO 1 (gV (dC (.int 3)) (b9)))))))
 (aI (b8 4 (bd (aZ (rF a) (gV (dV 0) (gO 1 (gV (dV 3) (gV (dq (dB (d2 (dQ λi j=>decide (j<i)) (dV 2) (dC (.int 0)))) (dC (.int 6)) (dC (.int 3))) (b9))))))))
 (aI (b8 5 (d2 bv (dV 4) (dC (.int 0))))
 (aI (dq (dB (d2 (eqT am) (dV 2) (dC (.int 0)))) (aI (b8 6 (bd (aZ (ku a) (gV (bd (aZ (oH a) (gV (dV 0) (gO 1 (gV (dV 5) (gV (d2 bf (dV 5) (dC (.int 2))) (b9))))))) (gV (dV 5) (b9))))))
 (b8 4 (dL bF (ax (dV 5) (ax (dL jj (ax (dF (dL my (ax (d2 bf (d2 bv (dV 4) (dC (.int 1))) (dV 6)) (aB)))) (aB))) (aB)))))) (eU))
 (aI (dq (oG (dB (d2 (eqT am) (dV 5) (dC (.int 1)))) (dB (d2 (dQ λi j=>decide (j<i)) (dL bN (ax (d2 bv (dV 4) (dC (.int 1))) (aB))) (dC (.int 4))))) (b8 4 (dL bF (ax (dC (.int 1)) (ax (il gU (d2 bv (dV 4) (dC (.int 1))) (jd) (gA (dC (.int 4)))) (aB))))) (eU))
 (aI (fu 7 (dL fH (aB)))
 (aI (λd=>dA (jC 8 9 (bp (bd (aZ (sU a) (gV (dV 5) (gV (d2 bv (dV 4) (dC (.int 1))) (b9)))))) (fK 7 (dF (cY [8,9] (bp (bd (aZ (pZ a) (gV (dL bF (ax (dV 5) (ax (dV 9) (aB)))) (b9))))) (oG (dB (d2 vx (dV 1) (dV 0))) (dB (d2 (eqT ag) (dV 2) (dL bF (aB))))) (dL bF (ax (dV 1) (ax (dV 0) (aB))))))) d))
 (aI (dq (dB (d2 (eqT ag) (bd (aZ (oQ a) (gV (dV 4) (b9)))) (dF (fh (λxs=>lp (vy xs)) 7)))) (dj (dC (.bl am))) (eU))
 (aI (b8 10 (dC .non))
 (aI (vp 11 (pP a) (sK (oQ a) (gV (dL bF (ax (dV 5) (ax (d2 uX (dL bF (ax (d2 jE (dC (.str [97])) (dV 5)) (aB))) (dC (.int 7))) (aB)))) (b9))) (b8 10 (bd (λd=>b7 (aZ (vq a) (gV (dV 11) (b9)) d)))))
 (dj (d2 (eqT am) (dV 10) (dL bF (ax (dC (.str [114,101,102,117,115,101,100])) (ax (dC (.int 5)) (aB)))))))))))))))))
def uT(a:Ad):ak->R Slot:=cb 1 [] (b_ 11 (yax a))
theorem Pf:cO ["_law_script","_law_town","_law_way","_law_spoil","_law_asked","_law_width","_law_more","_law_due","_law_text_here","_law_rest","_law_caught","_law_e"] ["_law_script"] (bh uA):=by ac_nf
theorem OW(G:eu K c b a){f:af}{m:iw}(r:pX K "law" "law" uA f m):k6 P w K c b (c7 P w) 16 f m ["_law_script"] (cg K (uT a)) :=
 N7 (k:=15) (pin:=[]) r Pf rfl (λ_ _ _ _ _ _ n p=>Pu.Ug (λ_=>rfl) n p) (λf u A i s H E d=>by
  have j:=λl=>f8.hand (v:=aa (.ref l)) d;exact
  (bq (ln 1 Pf.nd (oM aY))
  (bq (ff 2 Pf.nd ((cC (oE G) (d.mono (by decide)) fc (a_ (au 0) (iV 1 (a_ bi cn))))).de)
  (bq (ff 3 Pf.nd ((cC (oE G) (d.mono (by decide)) fc (a_ (au 0) (iV 1 (a_ bi cn))))).de)
  (bq (ff 4 Pf.nd ((cC (Ra G) (d.mono (by decide)) fc (a_ (au 0) (iV 1 (a_ (au 3) (a_ (GZ (iD u0 kF (au 2) bi rfl) bi bi) cn)))))).de)
  (bq (ff 5 Pf.nd (gw gD gG (au 4) bi))
  (bq (j5 (iD (qo d.units) pY (au 2) bi rfl) (bq (ff 6 Pf.nd ((cC (uI G) (d.mono (by decide)) fc (a_ ((cC (Az G) (d.mono (by decide)) fc (a_ (au 0) (iV 1 (a_ (au 5) (a_ (cu fg fe (au 5) bi) cn)))))).de (a_ (au 5) cn)))).de)
  (bE (ff 4 Pf.nd (fX (aF (au 5) (aF (CA yX y0 G.ya0 r_ (aF (AF xT zd G.yaY mw (aF (cu fg fe (gw gD gG (au 4) bi) (au 6)) aY)).de aY)) aY)))))) jV)
  (bq (j5 ((FW (iD (qo d.units) pY (au 5) bi rfl) (Et (iD u0 kF (cZ jl jo G.yaS jh (aF (gw gD gG (au 4) bi) aY)) bi rfl)))).dt (bE (ff 4 Pf.nd (fX (aF bi (aF (s_ tu qp (gw gD gG (au 4) bi) vd (pR bi)) aY))))) jV)
  (bq (ln 7 Pf.nd (oM aY))
  (bq (mh (Cv 8 9 jJ rfl Pf.nd (gf ((cC (RB G) (d.mono (by decide)) iL (a_ (au 5) (a_ (gw gD gG (au 4) bi) cn)))).de) (bE (u6 7 (l8 (cap:=[8,9]) (N':=["_law_other","_law_text_here","_law_rest"]) (jY.of ["_law_script","_law_town","_law_way","_law_spoil","_law_asked","_law_width","_law_more","_law_due","_law_text_here","_law_rest","_law_caught","_law_e"] (bh uA) rfl rfl (by decide +kernel)) rfl (gf ((cC (Mr G) (d.mono (by decide)) iL (a_ (fX (aF (au 5) (aF (au 9) aY))) cn))).de) (λC g h q o=>by exact sE ((FW (iD NM NX (au 1) (au 0) rfl) (Et (iD (rP d.units) sQ (au 2) (fX aY) rfl)))).dt) (λC g h q o=>by exact(fX (aF (au 1) (aF (au 0) aY))))).de))))
  (bq (j5 (iD (rP d.units) sQ ((cC (FU G) (d.mono (by decide)) fc (a_ (au 4) cn))).de (BK 7 (Ly d.units rfl) LW G.yaY mw).de rfl) (bE (fi qa)) jV)
  (bq (ff 10 Pf.nd KR)
  (bq (Ll 11 Pf.nd (Me (FU G) (d.mono (by decide)) (a_ (fX (aF (au 5) (aF (cu Ti SM (fX (aF (cu yt yd (lq [97]) (au 5)) aY)) bi) aY))) cn)) G.yak G.err_SlitError G.und (λl=>by exact(bE (ff 10 Pf.nd ((Pa (NZ G) ((j l).mono (by decide)) (a_ (au 11) cn))).de))))
  (bE (fi (vF (qo d.units) pY (au 10) (fX (aF (lq [114,101,102,117,115,101,100]) (aF bi aY))) rfl))))))))))))))))
end
end K26
namespace Mx
open L2 Pu
def bU:Tx:=[97,98,99]
def dJ:Nat->List Tx
 |0=>[[]]
 |k+1=>bU.flatMap λc=>(dJ k).map (c::·)
theorem mx:∀(k:Nat) (x:Tx),x∈dJ k↔x.length=k/\∀c∈x,c∈bU
 |0,x=>by
  simp only[dJ,gP];constructor
  .rintro rfl;simp
  .rintro⟨h,_⟩;exact JP.mp h
 |k+1,x=>by
  simp only[dJ,qT,bH];constructor
  .rintro⟨c,i,y,g,rfl⟩;obtain⟨f,b⟩:=(mx k y).mp g;refine⟨by simp[f],λd a=>?_⟩;rcases bo.mp a with rfl|a
   .exact i
   .exact b d a
  .rintro⟨f,b⟩;cases x with
   |nil=>cases f
   |cons c y=>exact⟨c,b c (by simp),y,(mx k y).mpr ⟨Dk f,λd a=>b d (by simp[a])⟩,rfl⟩
theorem y_:∀k:Nat,(dJ k).length=3^k
 |0=>rfl
 |k+1=>by simp only[dJ,bU,qU,JQ,c0,bX,y_ k,mJ,qQ];lia
theorem GD(i j:Nat):dJ (i+j)=(dJ i).flatMap λh=>(dJ j).map (h++·):=by
 induction i with
 |zero=>simp[dJ]
 |succ i a=>rw[show i+1+j=(i+j)+1 by lia];simp only[dJ,a,List.flatMap_assoc,List.map_flatMap,List.flatMap_map,cJ,qP,zQ]
theorem Li(k:Nat):dJ (k+1)=(dJ k).flatMap λh=>bU.map λc=>h++[c]:=by rw[GD k 1];congr 1
theorem Ca:∀k:Nat,(dJ k).Pairwise (λa b=>a<b)
 |0=>by simp[dJ]
 |k+1=>by
  simp only[dJ];rw[List.pairwise_flatMap];refine⟨λc _=>?_,?_⟩
  .rw[kQ];exact(Ca k).imp λh=>Dz.mpr (.inr ⟨rfl,h⟩)
  .have:bU.Pairwise (λa b=>a<b):=by decide
   refine this.imp λh=>?_;intro x f y d;obtain⟨i,_,rfl⟩:=bH.mp f;obtain⟨g,_,rfl⟩:=bH.mp d;exact Dz.mpr (.inl h)
theorem Kr{a b:Tx}(h:a<b):cQ a b=ag:=by simp only[cQ,decide_eq_true_eq];exact List.le_of_lt h
theorem La(k:Nat):(dJ k).Pairwise (λa b=>cQ a b=ag):=(Ca k).imp Kr
theorem Gy(k:Nat):(dJ k).Nodup:=(Ca k).imp λh z=>by subst z;exact List.lt_irrefl _ h
def aT(z:Tx)(w:Nat):List Tx:=((cq z.length).filter λi=>decide (i+w<=z.length)).map λi=>(z.drop i).take w
theorem GR(w L:Nat):∀m:Nat,(cq m).filter (λi=>decide (i+w<=L))=cq (min m (L+1-w))
 |0=>by simp
 |m+1=>by
  rw[qG,List.filter_append,GR w L m];by_cases h:m+w<=L
  .rw[show min m (L+1-w)=m by lia,show min (m+1) (L+1-w)=m+1 by lia,qG];simp[h]
  .rw[show min (m+1) (L+1-w)=min m (L+1-w) by lia];simp[h]
theorem oX(z:Tx)(w:Nat)(a:1<=w):aT z w=(cq (z.length+1-w)).map λi=>(z.drop i).take w:=by unfold aT;rw[GR,show min z.length (z.length+1-w)=z.length+1-w by lia]
def nw(w:Nat)(t:Tx):Tx->List Tx
 |[]=>[]
 |c::s=>(t.drop (t.length+1-w)++[c])::nw w (t++[c]) s
theorem H_(w:Nat)(b:1<=w):∀(s t:Tx),w<=t.length+1->nw w t s=(cq s.length).map λi=>((t++s).drop (t.length+1-w+i)).take w
 |[],t,_=>by simp[nw]
 |c::s,t,h=>by
  rw[nw,H_ w b s (t++[c]) (by simp;lia),cx,CZ,cS,cJ];congr 1
  .show _=((t++c::s).drop (t.length+1-w)).take w;rw[Jk ∅,List.take_append];have a:(t.drop (t.length+1-w)).length=w-1:=by rw[lF];lia
   rw[a,qH (by rw[a];lia),show w-(w-1)=1 by lia];rfl
  .refine nQ λi _=>?_;simp only[pt];rw[c0,nM,show t.length+1+1-w+i=t.length+1-w+Nat.succ i by lia];simp
theorem E5{w:Nat}(a:1<=w){h s:Tx}(b:h.length=w-1):aT (h++s) w=nw w h s:=by rw[oX _ _ a,H_ w a s h ∅,c0,show h.length+s.length+1-w=s.length by lia];refine nQ λi _=>?_;rw[show h.length+1-w+i=i by lia]
theorem Rj{w:Nat}(a:1<=w)(t:Tx)(c:Nat):aT (t++[c]) w=aT t w++(if w<=t.length+1 then [((t++[c]).drop (t.length+1-w)).take w] else []):=by
 rw[oX _ _ a,oX _ _ a,c0,nM];by_cases h:w<=t.length+1
 .rw[if_pos h,show t.length+1+1-w=(t.length+1-w)+1 by lia,qG,mM];congr 1;refine nQ λi b=>?_;have b:i<t.length+1-w:=by simpa using b
  rw[Jk ∅,List.take_append_of_le_length (by rw[lF];lia)]
 .rw[if_neg h,show t.length+1+1-w=0 by lia,show t.length+1-w=0 by lia];simp
def iI(w:Nat):Nat->Tx->List Tx->List Tx
 |0,t,_=>[t]
 |r+1,t,q=>bU.flatMap λc=>if t.drop (t.length+1-w)++[c]∈q then iI w r (t++[c]) (q.erase (t.drop (t.length+1-w)++[c]))else []
theorem Ex(w:Nat):∀(r:Nat) (t:Tx) (q:List Tx),q.length=r->iI w r t q=((dJ r).filter λs=>(nw w t s).isPerm q).map (t++·)
 |0,t,q,hq=>by have:q=[]:=JP.mp hq;subst this;simp[iI,dJ,nw,List.isPerm]
 |r+1,t,q,hq=>by
  simp only[iI,dJ,JR,List.map_flatMap];congr 1;funext c;rw[n9,cJ];by_cases h:t.drop (t.length+1-w)++[c]∈q
  .rw[if_pos h,Ex w r (t++[c]) _ (by rw[Dw h,hq];rfl)];have e:((λs=>(nw w t s).isPerm q) ∘ λx=>c::x)=λs=>(nw w (t++[c]) s).isPerm (q.erase (t.drop (t.length+1-w)++[c])):=by funext s;show(q.contains (t.drop (t.length+1-w)++[c])&&(nw w (t++[c]) s).isPerm (q.erase (t.drop (t.length+1-w)++[c])))=_;rw[List.contains_iff_mem.mpr h,Bool.true_and]
   rw[e];refine nQ λs _=>?_;simp
  .rw[if_neg h];have e:((λs=>(nw w t s).isPerm q) ∘ λx=>c::x)=λ_=>am:=by
    funext s;show(q.contains (t.drop (t.length+1-w)++[c])&&(nw w (t++[c]) s).isPerm (q.erase (t.drop (t.length+1-w)++[c])))=_;have:q.contains (t.drop (t.length+1-w)++[c])=am:=by rw[zL];intro z;exact h (List.contains_iff_mem.mp z)
    rw[this,Bool.false_and]
   rw[e];simp
def cG(w:Nat)(a:List Tx):List Tx:=(aK (bR (a.map qV))).flatMap λh=>iI w a.length h a
theorem GM{a b:Type}{l:List a}{f:a->List b}(p:a->Bool)(h:∀x∈l,p x=am->f x=[]):l.flatMap f=(l.filter p).flatMap f:=by
 induction l with
 |nil=>rfl
 |cons x l c=>
  rw[qU,c λy d=>h y (by simp[d]),JS];cases e:p x with
  |true=>simp
  |false=>rw[h x (by simp) e];simp
theorem sY{w:Nat}{a:List Tx}(g:1<=w)(D:1<=a.length)(j:∀x∈a,x.length=w/\∀c∈x,c∈bU):cG w a=(dJ (w-1+a.length)).filter λz=>(aT z w).isPerm a:=by
 rw[GD,JR];have B:(λh=>((dJ a.length).map (h++·)).filter λz=>(aT z w).isPerm a)=λh=>((dJ a.length).filter λs=>(aT (h++s) w).isPerm a).map (h++·):=by funext h;rw[n9];rfl
 rw[B,GM (λh=>decide (h∈a.map qV))]
 .have A:(dJ (w-1)).filter (λh=>decide (h∈a.map qV))=aK (bR (a.map qV)):=by
   refine yS ?_ ((La (w-1)).filter _);refine(List.perm_ext_iff_of_nodup ((Gy (w-1)).filter _) (SK _)).mpr λx=>?_;rw[ka,decide_eq_true_eq,k_,mx];refine⟨λh=>h.2,λh=>⟨?_,h⟩⟩;obtain⟨y,d,rfl⟩:=bH.mp h;obtain⟨u,r⟩:=j y d;exact⟨by rw[Dm,u],λc q=>r c ((List.dropLast_sublist _).mem q)⟩
  rw[A];unfold cG;have:∀l:List Tx,(∀h∈l,h.length=w-1)->l.flatMap (λh=>iI w a.length h a)=l.flatMap λh=>((dJ a.length).filter λs=>(aT (h++s) w).isPerm a).map (h++·):=by
   intro l
   induction l with
   |nil=>intro _;rfl
   |cons h l n=>
    intro b;rw[qU,qU,n λy d=>b y (by simp[d]),Ex w _ h a rfl];have v:(λs=>(nw w h s).isPerm a)=λs=>(aT (h++s) w).isPerm a:=by funext s;rw[E5 g (b h (by simp))]
    rw[v]
  refine this _ λh b=>?_;have p:=(k_ _ _).mp ((d9 _).mem_iff.mp b);obtain⟨y,d,rfl⟩:=bH.mp p;rw[Dm,(j y d).1]
 .intro h b i;have C:=((mx _ h).mp b).1;rw[JT,JU];intro s o f;have m:=((mx _ s).mp o).1;rw[E5 g C,DM]at f;cases s with
  |nil=>rw[mJ]at m;lia
  |cons c s=>rw[nw,show h.length+1-w=0 by lia,v7]at f;have:h++[c]∈a:=f.mem_iff.mp (by simp);rw[decide_eq_false_iff_not]at i;exact i (bH.mpr ⟨_,this,by simp⟩)
def unD(w:Nat)(a:List Tx)(t:Tx):Bool:=(aT t w).all λx=>decide ((aT t w).count x<=a.count x)
theorem FY{w:Nat}{a:List Tx}{t:Tx}:unD w a t=ag↔∀x,(aT t w).count x<=a.count x:=by
 unfold unD;rw[nR];constructor
 .intro h x;by_cases b:x∈aT t w
  .simpa using h x b
  .rw[JV b];lia
 .intro h x _;simpa using h x
theorem E9{w:Nat}(b:1<=w){a:List Tx}{t:Tx}{c:Nat}(h:unD w a (t++[c])=ag):unD w a t=ag:=by rw[FY]at h ⊢;intro x;have:=h x;rw[Rj b,DP]at this;lia
def rowsOf(w:Nat)(a:List Tx)(k:Nat):List Tx:=(dJ k).filter (unD w a)
theorem KI{w:Nat}(b:1<=w)(a:List Tx):rowsOf w a 0=[[]]:=by simp[rowsOf,dJ,unD,aT]
theorem QV{w:Nat}(f:1<=w)(a:List Tx)(k:Nat):rowsOf w a (k+1)=(rowsOf w a k).flatMap λt=>(bU.map λc=>t++[c]).filter (unD w a):=by
 unfold rowsOf;rw[Li,JR];refine GM _ λt _ b=>?_;rw[JU];intro z d g;obtain⟨c,_,rfl⟩:=bH.mp d;rw[E9 f g]at b;cases b
theorem SN(w:Nat)(a:List Tx)(k:Nat):(rowsOf w a k).length<=3^k:=by rw[<-y_ k];exact wz _ _
theorem L4{w:Nat}{c:List Tx}(d:c.Pairwise (λa b=>cQ a b=ag))(L:Nat):(rowsOf w c L).filter (λz=>decide (aK (aT z w)=c))=(dJ L).filter λz=>(aT z w).isPerm c:=by
 unfold rowsOf;rw[List.filter_filter];refine JW λz _=>?_;rw[kc,gK,decide_eq_true_eq,DM];constructor
 .rintro⟨h,_⟩;rw[<-h];exact(d9 _).symm
 .intro h;refine⟨by rw[EV h,yU d],?_⟩;rw[FY];intro x;rw[h.count_eq];exact a8 _
end Mx
namespace Sh
open L2 Pu Mx
section
theorem Gf{ls:List Tx}(h:ls.length<=1000000):my [.lst (aj ls)]=aa (.lst (aj (aK ls))):=by show(eM (aj ls)).bind _=_;rw[l_,fj,if_pos h]
end
section
variable{a:Ad}
abbrev bJ(b:List Int):Slot:=.val (.lst (b.map .int))
theorem Ir(b:List Int)(k:Int)(d:0<=k)(h:k<b.length):∃v,io (b.map PV.int) k=aa (.int v):=by
 have c:k.toNat<b.length:=∅
 refine⟨b[k.toNat],?_⟩;rw[Hd d (by rw[bX];exact c)];simp
theorem eq_nil(b:List Int):Pu.eqT am (.lst (b.map .int)) (.lst [])=aa (.bl b.isEmpty):=by
 cases b with
 |nil=>rfl
 |cons x xs=>
  have d:∀l:List Int,gh (l.map .int)=0:=λl=>by induction l with|nil=>rfl|cons y l c=>simp[gh,jm,c]
  have:gh ((x::xs).map .int)=0:=d _;simp only[cS]at this;simp[Pu.eqT,dG,dr,gb,jm,this]
theorem sL(b:Bool)(i j:Int):Pu.eqT b (.int i) (.int j)=aa (.bl (b^^decide (i=j))):=by show(if vo (V.int i) (V.int j)then aa (PV.bl (b^^decide (V.int i=V.int j)))else ae)=_;have:vo (V.int i) (V.int j)=ag:=rfl;rw[if_pos this];simp
theorem Lk(b:List Int)(k:Int)(i:0<=k):∃v,sq a [bJ b,⇑k]=.ok (⇑v) [bJ b,⇑k]:=by
 by_cases h:k<b.length
 .obtain⟨v,c⟩:=Ir b k i h;refine⟨v,?_⟩;simp![sq,yaz,bN,bv,c,h]
 .have e:=eq_nil b;by_cases d:b=[]
  .subst d;refine⟨0,?_⟩;simp only[v3,JX]at e;have j:¬k<0:=∅
   simp![sq,yaz,bN,bv,e,j]
  .have f:0<b.length:=by cases b with|nil=>exact absurd rfl d|cons=>simp
   obtain⟨v,c⟩:=Ir b (k % b.length) (zU _ ∅) (zT _ ∅);refine⟨v*31+k,?_⟩;have l:b.isEmpty=am:=by cases b with|nil=>exact absurd rfl d|cons=>rfl
   rw[l]at e;have g:gT (.int k) (.int (b.length:Int))=aa (.int (k % b.length)):=by simp[gT];lia
   have m:jE (.int v) (.int 31)=aa (.int (v*31)):=by simp[jE,vI]
   simp![sq,yaz,bN,bv,h,e,g,c,m,bf]
theorem OY(b:List Int)(k m:Int)(q:0<=k)(i:0<m):∃v,0<=v/\v<m/\y9 a [bJ b,⇑k,⇑m]=.ok (⇑v) [bJ b,⇑k,⇑m]:=by
 obtain⟨c,p⟩:=Lk (a:=a) b k q;have r:0<=(c*1103515245+7919*k+12345) % 2147483647:=zU _ (by decide);have d1:(c*1103515245+7919*k+12345) % 2147483647<2147483647:=zT _ (by decide);have o:jE (.int c) (.int 1103515245)=aa (.int (c*1103515245)):=by simp[jE,vI]
 have n:jE (.int 7919) (.int k)=aa (.int (7919*k)):=by simp[jE,vI]
 have h:gT (.int (c*1103515245+7919*k+12345)) (.int 2147483647)=aa (.int ((c*1103515245+7919*k+12345) % 2147483647)):=by simp[gT]
 generalize (c*1103515245+7919*k+12345) % 2147483647=d at r d1 h;have l:u5 (.int d) (.int 5)=aa (.int (d^5)):=by
  have:d.natAbs<2^64:=∅
  simp[u5,this]
 have g:gT (.int (d^5)) (.int 2147483647)=aa (.int (d^5 % 2147483647)):=by simp[gT]
 generalize d^5 % 2147483647=d5 at g;have f:gT (.int d5) (.int 999983)=aa (.int (d5 % 999983)):=by simp[gT]
 generalize d5 % 999983=d6 at f;have j:gT (.int d6) (.int m)=aa (.int (d6 % m)):=by simp[gT,i]
 refine⟨d6 % m,zU _ ∅,zT _ i,?_⟩;simp![y9,yaB,p,o,n,h,l,g,f,j,bf]
theorem o4(b:List Int)(xs:List PV)(m:Int)(h:0<m)(i:xs.length<=1000):∃v,0<=v/\v<m/\jq a [bJ b,.own (.lst xs),⇑m]=.ok (⇑v) [bJ b,.own (.lst (xs++[.int 0])),⇑m]:=by
 obtain⟨v,d,c,g⟩:=OY (a:=a) b ((xs.length:Int)+1) m ∅ h;refine⟨v,d,c,?_⟩;have f:xs.length<bG:=by unfold bG;lia
 simp![jq,yaA,bN,f,g]
theorem FK{c:Type}(b:List c)(v:Int)(f:0<=v)(g:v<b.length):∃x∈b,io b v=aa x:=by
 have d:v.toNat<b.length:=∅
 exact⟨b[v.toNat],v8 _,Hd f d⟩
theorem Q9(c:List Int)(xs b:List PV)(h:xs.length<=1000)(l:0<b.length):∃x∈b,yo a [bJ c,.own (.lst xs),.val (.lst b)]=.ok (.val x) [bJ c,.own (.lst (xs++[.int 0])),.val (.lst b)]:=by obtain⟨v,f,d,i⟩:=o4 (a:=a) c xs (b.length:Nat) ∅ h;obtain⟨x,j,g⟩:=FK b v f d;refine⟨x,j,?_⟩;simp![yo,yaC,bN,bv,i,g]
theorem yP{n:Nat}(h:n<=1000000):lh [.int n]=aa (fF 0 n):=by show(if(n:Int)<=1000000/\-1000000<=(n:Int)then aa (fF 0 (n:Int).toNat)else ae)=_;rw[if_pos ⟨∅,∅⟩];simp
theorem u_{x y:Tx}(h:x.length+y.length<=bG):bf (.str x) (.str y)=aa (.str (x++y)):=by show(if(x++y).length<=bG then aa (PV.str (x++y))else ae)=_;rw[if_pos (by rw[c0];exact h)]
theorem dR{d1 d2:ak->R aH}{ε ε1:ak}(h:d1 ε=.ok .next ε1):aI d1 d2 ε=d2 ε1:=by unfold aI;rw[h]
theorem Cb{i:Nat}{d:ak->R PV}{ε ε1:ak}{x:PV}(h:d ε=.ok x ε1):b8 i d ε=.ok .next (ε1.set i (.val x)):=by unfold b8;rw[h];rfl
theorem xY{i:Nat}{db:ak->R aH}{I:Nat->ak->Prop}{N:Nat}(step:∀k ε x,k<N->I k ε->∃b,db (ε.set i (.val x))=.ok .next b/\I (k+1) b):∀(xs:List PV) (k:Nat) (ε:ak),k+xs.length<=N->I k ε->∃b,dw i db xs ε=.ok .next b/\I (k+xs.length) b
 |[],k,ε,_,h=>⟨ε,rfl,h⟩
 |x::xs,k,ε,d,h=>by simp only[cx]at d;obtain⟨ε1,l,g⟩:=step k ε x ∅ h;obtain⟨c,j,f⟩:=xY step xs (k+1) ε1 ∅ g;refine⟨c,by unfold dw;rw[l];exact j,?_⟩;rw[cx,show k+(xs.length+1)=k+1+xs.length by lia];exact f
theorem vN{i:Nat}{db:ak->R aH}{I:List PV->ak->Prop}(step:∀(x:PV) (r:List PV) ε,I (x::r) ε->∃b,db (ε.set i (.val x))=.ok .next b/\I r b):∀(xs:List PV) (ε:ak),I xs ε->∃b,dw i db xs ε=.ok .next b/\I [] b
 |[],ε,h=>⟨ε,rfl,h⟩
 |x::xs,ε,h=>by obtain⟨d,l,g⟩:=step x xs ε h;obtain⟨c,j,f⟩:=vN step xs d g;exact⟨c,by unfold dw;rw[l];exact j,f⟩
theorem BA(j:List Int)(xs:List PV)(b most:Nat)(M:b<=most)(X:most<=100)(W:xs.length<=500):∃(z:Tx) (h:List PV),b<=z.length/\z.length<=most/\(∀c∈z,c∈bU)/\h.length<=xs.length+2+most /\ oH a [bJ j,.own (.lst xs),⇑b,⇑most]=.ok (↥z) [bJ j,.own (.lst h),⇑b,⇑most]:=by
 obtain⟨f,y,K⟩:=Q9 (a:=a) j xs [.int 1,.int 2,.int 2,.int 3,.int 3,.int 3] ∅ (by decide);obtain⟨g,rfl,P,Z⟩:∃g:Int,f=.int g/\0<g/\g<=3:=by simp only[bo,hG,or_false]at y;rcases y with rfl|rfl|rfl|rfl|rfl|rfl <;> exact⟨_,rfl,by decide,by decide⟩
 obtain⟨m,T,S,l⟩:=o4 (a:=a) j (xs++[.int 0]) ((most:Int)-b+1) ∅ (by simp;lia);obtain⟨n,L⟩:∃n:Nat,(b:Int)+m=n:=⟨(b+m).toNat,∅⟩
 have J:lh [.int ((b:Int)+m)]=aa (fF 0 n):=by rw[L];exact yP ∅
 have bt:(fF 0 n).length=n:=by simp[fF]
 obtain⟨B,A,h,z,o,rfl,w,G,s⟩:=xY (i:=6) (db:=b8 5 (d2 bf (dV 5) (d2 bv (dC (.str [97,98,99])) (bd (aZ (jq a) (gV (dV 0) (gO 1 (gV (dV 4) (Pu.b9)))))))))
  (I:=λk u=>∃h z o,u=[bJ j,.own (.lst h),⇑b,⇑most,⇑g,↥z,o]/\z.length=k/\h.length<=xs.length+2+k/\∀c∈z,c∈bU) (N:=n)
  (by
   rintro k u x Y ⟨h,z,o,rfl,w,G,s⟩;obtain⟨v,C,Q,H⟩:=o4 (a:=a) j h g P ∅;obtain⟨c,O,D⟩:=FK bU v C (by simp[bU];lia);refine⟨[bJ j,.own (.lst (h++[.int 0])),⇑b,⇑most,⇑g,↥(z++[c]),.val x],?_,h++[.int 0],z++[c],.val x,rfl,by simp[w],by simp;lia,λd l=>?_⟩
   .have p:bv (.str [97,98,99]) (.int v)=aa (.str [c]):=by
     show(io bU v).map _=_;rw[D];rfl
    have E:bf (.str z) (.str [c])=aa (.str (z++[c])):=u_ (by simp[bG];lia);simp![H,p,E]
   .simp only[fO,gP]at l;rcases l with l|rfl
    .exact s d l
    .exact O)
  (fF 0 n) 0 [bJ j,.own (.lst (xs++[.int 0]++[.int 0])),⇑b,⇑most,⇑g,.val (.str []),.none] ∅ ⟨xs++[.int 0]++[.int 0],[],.none,rfl,rfl,by simp,by simp⟩
 refine⟨z,h,∅,∅,s,∅,?_⟩;have F:j7 (.int most) (.int b)=aa (.int ((most:Int)-b)):=rfl;have r:bf (.int ((most:Int)-b)) (.int 1)=aa (.int ((most:Int)-b+1)):=rfl;have q:bf (.int b) (.int m)=aa (.int ((b:Int)+m)):=rfl;simp only[lG,zQ,iy]at A;simp![oH,yaE,K,F,r,q,l,dS,J,dA,A]
theorem kr{cap:List Nat}{dt:ak->R Bool}{de:ak->R PV}{ε:ak}(p:PV->Bool)(f:PV->PV):∀(xs:List PV),(∀x∈xs,b7 (dO cap dt x ε)=.ok (p x) ε/\(p x=ag->b7 (dO cap de x ε)=.ok (f x) ε))->∀b,lm cap dt de xs b ε=.ok (b++(xs.filter p).map f) ε
 |[],_,b=>by simp[lm]
 |x::xs,h,b=>by
  have g:=h x (by simp);have d:=kr p f xs (λy i=>h y (by simp[i]));unfold lm;rw[g.1];simp only[R.bind_ok];cases c:p x with
  |false=>simp only[d b,JS,c];simp
  |true=>simp only[g.2 c,R.bind_ok,d (b++[f x]),JS,c];simp
theorem OK{z:Tx}{i w:Nat}(h:i+w<=z.length):dU z (aa (i:Int)) (aa ((i:Int)+w))=(z.drop i).take w:=by
 unfold dU;have c:HT.sIx z.length 0 (aa (i:Int))=i:=by rw[HT.sIx_nat];lia
 have b:HT.sIx z.length z.length (aa ((i:Int)+w))=i+w:=by rw[show(i:Int)+w=((i+w:Nat):Int) by lia,HT.sIx_nat];lia
 rw[c,b,Nat.add_sub_cancel_left]
theorem vz(z:Tx)(w:Nat)(o:z.length<=60):ku a [↥z,⇑w]=.ok (.val (.tup (aj (aK (aT z w))))) [↥z,⇑w]:=by
 have g:lh [.int (z.length:Nat)]=aa (fF 0 z.length):=yP ∅;have b:=kr (cap:=[0,1]) (dt:=(dB (d2 (dQ λi j=>decide (i<=j)) (d2 bf (dV 0) (dV 2)) (dL bN (ax (dV 1) (aB)))))) (de:=(il gU (dV 1) (gA (dV 0)) (gA (d2 bf (dV 0) (dV 2)))))
  (ε:=[↥z,⇑w]) (λx=>match x with|.int i=>decide (i+w<=z.length)|_=>am) (λx=>match x with|.int i=>.str (dU z (aa i) (aa (i+w)))|_=>.non) (fF 0 z.length)
  (by
   intro x d;simp only[fF,bH]at d;obtain⟨i,f,rfl⟩:=d;refine⟨?_,λh=>?_⟩
   .simp![dO,dX,b7,bN,bf]
   .simp![dO,dX,b7,bN,bf,il,gA,gU]) []
 have l:(aT z w).length<=1000000:=by unfold aT;rw[bX];have:=wz (λi=>decide (i+w<=z.length)) (cq z.length);rw[Jm]at this;lia
 have m:(((fF 0 z.length).filter (λx=>match x with|.int i=>decide (i+w<=z.length)|_=>am)).map (λx=>match x with|.int i=>PV.str (dU z (aa i) (aa (i+w)))|_=>.non))=aj (aT z w):=by
  unfold fF aT aj;rw[n9,cJ,cJ];have n:((λx=>match x with|PV.int i=>decide (i+(w:Int)<=(z.length:Nat))|_=>am) ∘ λ(i:Nat)=>PV.int (0+(i:Nat)))=λi=>decide (i+w<=z.length):=by funext i;simp only[pt];congr 1;simp;lia
  rw[n];refine nQ λi f=>?_;have:=(ka.mp f).2;simp only[decide_eq_true_eq]at this;simp only[pt,Int.zero_add];rw[OK this]
 simp only[iy]at b;rw[m]at b;have c:=Gf l;generalize aj (aK (aT z w))=T at c;generalize aj (aT z w)=B at b c;simp![ku,yaD,bN,g,cY,b,c,jj]
theorem Em{z:Tx}{w:Nat}:∀x∈aT z w,x.length=w/\∀c∈x,c∈z:=by intro x b;simp only[aT,bH,ka,kK,decide_eq_true_eq]at b;obtain⟨i,⟨_,h⟩,rfl⟩:=b;exact⟨by rw[mF,lF];lia,λc d=>JG (DL d)⟩
theorem Rm{z:Tx}{w m:Nat}(c:1<=w)(f:w<=z.length)(d:z.length<=w+m):1<=(aT z w).length/\(aT z w).length<=m+1:=by
 unfold aT;rw[bX];have:∀n,((cq n).filter λi=>decide (i+w<=z.length)).length=min n (z.length+1-w):=by
  intro n
  induction n with
  |zero=>simp
  |succ n b=>
   rw[qG,List.filter_append,c0,b];by_cases h:n+w<=z.length
   .simp[List.filter,h];lia
   .simp[List.filter,h];lia
 rw[this];lia
structure Good(l:Tx)(w:Nat)(ls:List Tx):Prop where
 len:∀x∈ls,x.length=w
 abc:∀x∈ls,∀c∈x,c∈l
 some:1<=ls.length
 few:ls.length<=9
theorem Good.perm{l:Tx}{w:Nat}{ls b:List Tx}(g:Good l w ls)(p:b.Perm ls):Good l w b:=⟨λx h=>g.len x (p.mem_iff.mp h),λx h=>g.abc x (p.mem_iff.mp h),by rw[p.length_eq];exact g.some,by rw[p.length_eq];exact g.few⟩
theorem Good.put{l:Tx}{w:Nat}{ls:List Tx}{z:Tx}{j:Nat}(g:Good l w ls)(b:z.length=w)(d:∀c∈z,c∈l):Good l w (ls.set j z):=by
 refine⟨λx h=>?_,λx h=>?_,by rw[gL];exact g.some,by rw[gL];exact g.few⟩
 .rcases List.mem_or_eq_of_mem_set h with h|rfl
  .exact g.len x h
  .exact b
 .rcases List.mem_or_eq_of_mem_set h with h|rfl
  .exact g.abc x h
  .exact d
theorem Nr(ls:List Tx)(j:Nat)(z:Tx):(aj ls).set j (.str z)=aj (ls.set j z):=by simp[aj,List.map_set]
theorem f_(ls:List Tx):(aj ls).length=ls.length:=by simp[aj]
theorem RZ{n:Nat}{v:Int}(c:0<=v)(b:v<n):kw n v=aa v.toNat:=by unfold kw;rw[if_pos c,if_pos b]
theorem FX(ls:List Tx):ip (aj ls)=ag:=by
 induction ls with
 |nil=>rfl
 |cons x ls b=>show(imm (.str x)&&ip (aj ls))=ag;rw[b];rfl
theorem Pi(g:List Int)(xs:List PV)(d most:Nat)(hs:d<3)(m1:1<=most)(m9:most<=9)(hx:xs.length<=300):∃(w:Nat) (ls:List Tx) (j:List PV),1<=w/\w<=4/\(d≠2->2<=w)/\Good bU w ls/\ls.Pairwise (λa b=>cQ a b=ag)/\ls.length<=most/\(d=0->∃z:Tx,ls=aK (aT z w)/\w<=z.length/\z.length+1<=w+most/\∀c∈z,c∈bU)/\j.length<=xs.length+60 /\ rF a [bJ g,.own (.lst xs),⇑d,⇑most]=.ok (.val (.tup [.int w,.tup (aj ls)])) [bJ g,.own (.lst j),⇑d,⇑most]:=by
 obtain⟨w,L,Q,S,Z⟩:∃w:Nat,1<=w/\w<=4/\(d≠2->2<=w)/\(dq (dB (d2 (Pu.eqT ag) (dV 2) (dC (.int 2)))) (d2 bf (dC (.int 2)) (bd (aZ (jq a) (gV (dV 0) (gO 1 (gV (dC (.int 3)) (Pu.b9))))))) (d2 bf (dC (.int 1)) (bd (aZ (jq a) (gV (dV 0) (gO 1 (gV (dC (.int 4)) (Pu.b9)))))))) [bJ g,.own (.lst xs),⇑d,⇑most,.none,.none,.none] =
   .ok (.int w) [bJ g,.own (.lst (xs++[.int 0])),⇑d,⇑most,.none,.none,.none]:=by
  by_cases h2:d=2
  .subst h2;obtain⟨v,C,B,l⟩:=o4 (a:=a) g xs 4 (by decide) ∅;refine⟨(1+v).toNat,∅,∅,λz=>absurd rfl z,?_⟩;have e:Pu.eqT ag (.int 2) (.int 2)=aa (.bl am):=by rw[sL];rfl
   have:((1+v).toNat:Int)=1+v:=∅
   simp![e,l,bf,this]
  .obtain⟨v,C,B,l⟩:=o4 (a:=a) g xs 3 (by decide) ∅;refine⟨(2+v).toNat,∅,∅,λ_=>∅,?_⟩;have e:Pu.eqT ag (.int ((d:Nat):Int)) (.int 2)=aa (.bl ag):=by
    have:d=0\/d=1:=∅
    rcases this with rfl|rfl <;> (rw[sL];rfl)
   have:((2+v).toNat:Int)=2+v:=∅
   simp![e,l,bf,this]
 obtain⟨z,A,y,J,f,E,u⟩:=BA (a:=a) g (xs++[.int 0]) w (w+(most-1)) ∅ ∅ (by simp;lia);simp only[c0,nM]at E;have W:=vz (a:=a) z w ∅;have T1:=Rm (z:=z) (w:=w) (m:=most-1) L y J;have g0:Good bU w (aK (aT z w)):=by exact Good.perm ⟨λx h=>(Em x h).1,λx h c hc=>f c ((Em x h).2 c hc),T1.1,∅⟩ (d9 _)
 have n:gT (.int d) (.int 3)=aa (.int d):=by
  have:d=0\/d=1\/d=2:=∅
  rcases this with rfl|rfl|rfl <;> rfl
 have hr:lh [.int d]=aa (fF 0 d):=yP ∅;have bt:(fF 0 d).length=d:=by simp[fF]
 obtain⟨P,e1,j,ls,s,rfl,p,D,h0,Y⟩:=xY (i:=6) (db:=(zc 5 (bd (aZ (jq a) (gV (dV 0) (gO 1 (gV (fh (λxs=>je (bN xs)) 5) (Pu.b9)))))) (bd (aZ (oH a) (gV (dV 0) (gO 1 (gV (dV 4) (gV (dV 4) (Pu.b9)))))))))
  (I:=λk H=>∃j ls s,H=[bJ g,.own (.lst j),⇑d,⇑most,⇑w,.own (.lst (aj ls)),s]/\Good bU w ls/\ls.length<=most/\(k=0->ls=aK (aT z w))/\j.length<=A.length+10*k) (N:=d)
  (by
   rintro k H x hk ⟨j,ls,s,rfl,p,D,_,Y⟩;obtain⟨z,K,y,J,f,X,u⟩:=BA (a:=a) g j w w ∅ ∅ ∅;obtain⟨v,C,B,l⟩:=o4 (a:=a) g K (ls.length:Nat) (by have:=p.some;lia) ∅;refine⟨[bJ g,.own (.lst (K++[.int 0])),⇑d,⇑most,⇑w,.own (.lst (aj (ls.set v.toNat z))),.val x],?_,_,_,_,rfl,p.put ∅ f,by rw[gL];exact D,λz=>∅,by simp;lia⟩;have F:kw (aj ls).length v=aa v.toNat:=RZ C (by rw[f_];exact B);have hl:bN [.lst (aj ls)]=aa (.int (ls.length:Nat)):=by simp[bN,f_]
   simp![zc,u,hl,l,F,Nr])
  (fF 0 d) 0 [bJ g,.own (.lst A),⇑d,⇑most,⇑w,.own (.lst (aj (aK (aT z w)))),.none] ∅ ⟨A,_,.none,rfl,g0,by rw[BV];lia,λ_=>rfl,∅⟩
 refine⟨w,aK ls,j,L,Q,S,p.perm (d9 _),sW _,by rw[BV];exact D,λz0=>⟨z,by rw[h0 ∅,yU (sW _)],y,∅,f⟩,∅,?_⟩;have M:bf (.int w) (.int most)=aa (.int ((w:Int)+most)):=rfl;have G:j7 (.int ((w:Int)+most)) (.int 1)=aa (.int (((w+(most-1):Nat)):Int)):=by show aa (PV.int ((w:Int)+most-1))=_;congr 2;lia
 have O:=Gf (ls:=ls) (by have:=p.few;lia);have r:yaH a [bJ g,.own (.lst xs),⇑d,⇑most,.none,.none,.none]=.ok (.ret (.val (.tup [.int w,.tup (aj (aK ls))]))) [bJ g,.own (.lst j),⇑d,⇑most,⇑w,.own (.lst (aj ls)),s]:=by unfold yaH;refine(dR (Cb Z)).trans ?_;have o:=FX (aK ls);generalize aj (aK ls)=T at O o;generalize ((w+(most-1):Nat):Int)=q at G u;generalize (w:Int)+most=q2 at M G;simp[aI,dq,dB,d2,d1,dV,dC,dL,dF,ax,aB,dj,uQ,b8,fu,aZ,gV,gO,Pu.b9,e_,fz,cz,d4,fG,R.bind,aJ,cb,gW,b_,back,iX,jT,HI,oJ,tm,G8,bd,sv,fH,bF,eU,Cr,lw,RW,nj,Ce,oG,uB,pT,PU,sk,dQ,cB,ji,fh,lp,bK,qD,M,G,u,W,nu,n,dS,hr,dA,e1,O,B4,o,jj]
 simp[rF,cb,gW,b_,r,back,iX]
theorem map_set{b c:Type}(f:b->c)(l:List b)(j:Nat)(x:b):(l.map f).set j (f x)=(l.set j x).map f:=by simp[List.map_set]
theorem SA(c b:List Tx):aj c++aj b=aj (c++b):=by simp[aj]
theorem FR{b:Type}(xs:List b)(n:Nat):dU xs ae (aa (n:Int))=xs.take n:=by
 unfold dU;have c:HT.sIx xs.length 0 ae=0:=rfl;rw[c,HT.sIx_nat,v7,Nat.sub_zero];by_cases h:n<=xs.length
 .rw[Nat.min_eq_left h]
 .rw[Nat.min_eq_right ∅,qH (a8 _),qH ∅]
theorem GJ{b:Type}(xs:List b)(n:Nat):dU xs (aa (n:Int)) ae=xs.drop n:=by
 unfold dU;have c:HT.sIx xs.length xs.length ae=xs.length:=rfl;rw[c,HT.sIx_nat];by_cases h:n<=xs.length
 .rw[Nat.min_eq_left h,qH (by rw[lF];lia)]
 .rw[Nat.min_eq_right ∅,List.drop_of_length_le ∅,List.drop_of_length_le ∅];simp
theorem sH{t T:String}{b:Bool}{x:PV}(h:vM x=aa t)(e:iO [] (.type t) (.type T)=aa b):jn [x,.raw (.ty T)]=aa (.bl b):=by show((vM x).bind λt=>(iO [] (.type t) (.type T)).map λb=>PV.bl b)=_;rw[h,fj,e];rfl
theorem P6:iO [] (.type "int") (.type "int")=aa ag:=by decide +kernel
theorem Rw:iO [] (.type "int") (.type "bool")=aa am:=by decide +kernel
theorem OX:iO [] (.type "str") (.type "str")=aa ag:=by decide +kernel
theorem AE:iO [] (.type "tuple") (.type "tuple")=aa ag:=by decide +kernel
theorem LR(bs:List Bool):ng (bs.map .bl)=aa bs:=by
 induction bs with
 |nil=>rfl
 |cons b bs c=>show(ng (bs.map .bl)).map (b::·)=_;rw[c];rfl
theorem A4(bs:List Bool):sN [.lst (bs.map .bl)]=aa (.bl (bs.all id)):=by show(ng (bs.map .bl)).map _=_;rw[LR];rfl
theorem Oz(z s:Tx):zb a [↥z,↥s]=.ok (.val (.bl (z.all s.contains))) [↥z,↥s]:=by
 have b:=kr (cap:=[1]) (dt:=dYes) (de:=(d2 (rO am) (dV 0) (dV 1))) (ε:=[↥z,↥s]) (λ_=>ag) (λx=>match x with|.str [c]=>.bl (s.contains c)|_=>.non) (z.map λc=>.str [c])
  (by
   intro x g;obtain⟨c,_,rfl⟩:=bH.mp g;refine⟨by simp![dO,dX,b7,dYes],λ_=>?_⟩;have i:rO am (.str [c]) (.str s)=aa (.bl (s.contains c)):=by rw[<-LH];simp[rO]
   simp![dO,dX,b7,i]) []
 have h:((z.map λc=>PV.str [c]).filter (λ_=>ag)).map (λx=>match x with|.str [c]=>PV.bl (s.contains c)|_=>.non)=(z.map s.contains).map .bl:=by rw[z8.mpr (by simp),cJ,cJ];rfl
 rw[iy,h]at b;have d:(z.map s.contains).all id=z.all s.contains:=by rw[zB];rfl
 generalize z.map s.contains=bs at b d;have f:=A4 bs;rw[d]at f;simp![zb,yar,cY,bp,ir,b,f]
def jS(w:Int)(s z:Tx):Bool:=decide ((z.length:Int)=w)&&z.all s.contains
theorem Mc(z s:Tx)(w:Int):sV a [↥z,⇑w,↥s]=.ok (.val (.bl (jS w s z))) [↥z,⇑w,↥s]:=by
 have d:jn [.str z,.raw (.ty "str")]=aa (.bl ag):=sH rfl OX;have f:=Oz (a:=a) z s;have c:bN [.str z]=aa (.int (z.length:Nat)):=rfl;have b:=sL am (z.length:Nat) w;unfold jS;by_cases h:((z.length:Nat):Int)=w
 .simp only[h,decide_true,Bool.xor_true,ww]at b;simp![sV,yaw,d,c,b,f,h]
 .simp only[h,decide_false,Bool.xor_false]at b;simp![sV,yaw,d,c,b,h]
theorem At(d c:List Tx):gb (aj d) (aj c)=aa (decide (d=c)):=by
 induction d generalizing c with
 |nil=>cases c <;> simp[aj,gb]
 |cons x d f=>
  cases c with
  |nil=>simp[aj,gb]
  |cons y c=>
   show(dr (.str x) (.str y)).bind (λa=>(gb (aj d) (aj c)).map λb=>a&&b)=_;rw[f];have:dr (.str x) (.str y)=aa (decide (x=y)):=by
    show aa (tS x == tS y)=_;by_cases h:x=y
    .subst h;simp
    .have:tS x≠tS y:=λz=>h (yf z);simp[h,this]
   rw[this];simp[wo]
theorem Ay(b:List Tx):gh (aj b)=0:=by
 induction b with
 |nil=>rfl
 |cons x b c=>show max (jm (.str x)) (gh (aj b))=0;rw[c];rfl
theorem Im(b:Bool)(c d:List Tx):Pu.eqT b (.lst (aj c)) (.lst (aj d))=aa (.bl (b^^decide (c=d))):=by show(if jm (.lst (aj c))<=8 then(gb (aj c) (aj d)).map (λk=>PV.bl (b^^k))else ae)=_;rw[if_pos (by show gh (aj c)+1<=8;rw[Ay];decide),At];rfl
theorem Mu(b:List Tx)(w:Int)(s:Tx)(u:1<=b.length)(r:b.length<=9):oS a [.val (.tup (aj b)),⇑w,↥s]=.ok (.val (.bl (b.all (jS w s)&&decide (b=aK b)))) [.val (.tup (aj b)),⇑w,↥s]:=by
 have h:jn [.tup (aj b),.raw (.ty "tuple")]=aa (.bl ag):=sH rfl AE;have i:bN [.tup (aj b)]=aa (.int (b.length:Nat)):=by simp[bN,f_]
 have m:(1:Int)<=(b.length:Nat):=∅
 have l:((b.length:Nat):Int)<=9:=∅
 have d:=kr (cap:=[1,2]) (dt:=dYes) (de:=(bd (aZ (sV a) (gV (dV 0) (gV (dV 1) (gV (dV 2) (Pu.b9))))))) (ε:=[.val (.tup (aj b)),⇑w,↥s]) (λ_=>ag) (λx=>match x with|.str z=>.bl (jS w s z)|_=>.non) (aj b)
  (by intro x o;obtain⟨z,_,rfl⟩:=bH.mp o;refine⟨by simp![dO,dX,b7,dYes],λ_=>?_⟩;have p:=Mc (a:=a) z s w;simp![dO,dX,b7,p]) []
 have q:((aj b).filter (λ_=>ag)).map (λx=>match x with|.str z=>PV.bl (jS w s z)|_=>.non)=(b.map (jS w s)).map .bl:=by rw[z8.mpr (by simp)];unfold aj;rw[cJ,cJ];rfl
 rw[iy,q]at d;have g:(b.map (jS w s)).all id=b.all (jS w s):=by rw[zB];rfl
 generalize b.map (jS w s)=bs at d g;have f:=A4 bs;have n:b.length<=1000000:=∅
 have c:=Im am b (aK b);cases j:b.all (jS w s)with
 |false=>rw[g,j]at f;simp![oS,yan,h,i,m,l,cY,bp,ir,d,f]
 |true=>rw[g,j]at f;simp only[Bool.false_xor]at c;simp![oS,yan,h,i,m,l,cY,bp,ir,d,f,nu,my,l_,n,c]
theorem S_(b:List Tx)(w:Int)(s:Tx)(h:b.length=0\/9<b.length):oS a [.val (.tup (aj b)),⇑w,↥s]=.ok (.val (.bl am)) [.val (.tup (aj b)),⇑w,↥s]:=by
 have c:jn [.tup (aj b),.raw (.ty "tuple")]=aa (.bl ag):=sH rfl AE;have d:bN [.tup (aj b)]=aa (.int (b.length:Nat)):=by simp[bN,f_]
 by_cases f:(1:Int)<=(b.length:Nat)
 .have g:¬((b.length:Nat):Int)<=9:=∅
  simp![oS,yan,c,d,f,g]
 .simp![oS,yan,c,d,f]
theorem Rn(i:Int):xL a [⇑i]=.ok (.val (.bl ag)) [⇑i]:=by have c:jn [.int i,.raw (.ty "int")]=aa (.bl ag):=sH rfl P6;have b:jn [.int i,.raw (.ty "bool")]=aa (.bl am):=sH rfl Rw;simp![xL,yau,c,b]
theorem M_(i:Int):tt a [⇑i]=.ok (.val (.bl (decide (1<=i/\i<=4)))) [⇑i]:=by
 have h:=Rn (a:=a) i;by_cases b:1<=i
 .by_cases c:i<=4
  .simp![tt,yav,h,b,c]
  .simp![tt,yav,h,b,c]
 .simp![tt,yav,h,b]
def uO(s:Tx)(w:Int)(b:List Tx):Bool:=decide (1<=w/\w<=4)&&(decide (1<=b.length/\b.length<=9)&&(b.all (jS w s)&&decide (b=aK b)))
theorem Te(s:Tx)(w:Int)(b:List Tx):sF a [.val (.tup [.int w,.tup (aj b)]),↥s]=.ok (.val (.bl (uO s w b))) [.val (.tup [.int w,.tup (aj b)]),↥s]:=by
 have h:jn [.tup [.int w,.tup (aj b)],.raw (.ty "tuple")]=aa (.bl ag):=sH rfl AE;have l:bN [.tup [.int w,.tup (aj b)]]=aa (.int 2):=rfl;have f:=sL ag 2 2;simp only[decide_true,Bool.true_xor,n5]at f;have j:bv (.tup [.int w,.tup (aj b)]) (.int 0)=aa (.int w):=rfl;have i:bv (.tup [.int w,.tup (aj b)]) (.int 1)=aa (.tup (aj b)):=rfl;have d:=M_ (a:=a) w;unfold uO;by_cases c:1<=w/\w<=4
 .rw[decide_eq_true c]at d ⊢;by_cases g:1<=b.length/\b.length<=9
  .have m:=Mu (a:=a) b w s g.1 g.2;rw[decide_eq_true g];simp![sF,yat,h,l,f,j,i,d,m]
  .have m:=S_ (a:=a) b w s ∅;rw[decide_eq_false g];simp![sF,yat,h,l,f,j,i,d,m]
 .rw[decide_eq_false c]at d ⊢;simp![sF,yat,h,l,f,j,i,d]
abbrev vw(w:Int)(b:List Tx):Bool:=uO bU w b
theorem ND(w:Int)(b:List Tx):yG a [.val (.tup [.int w,.tup (aj b)])]=.ok (.val (.bl (vw w b))) [.val (.tup [.int w,.tup (aj b)])]:=by have c:=Te (a:=a) bU w b;simp only[bU]at c;simp![yG,yas,c];rfl
theorem B6{w:Int}{b:List Tx}(h:vw w b=ag):p8 a [.val (.tup [.int w,.tup (aj b)])]=.ok (.val .non) [.val (.tup [.int w,.tup (aj b)])]:=by have c:=ND (a:=a) w b;rw[h]at c;simp![p8,yap,c]
theorem Good.vw{w:Nat}{d:List Tx}(g:Good bU w d)(n:1<=w)(m:w<=4)(h:d.Pairwise (λa b=>cQ a b=ag)):vw w d=ag:=by
 have l:d.all (jS w bU)=ag:=by rw[nR];intro x f;unfold jS;rw[g.len x f,decide_eq_true rfl,Bool.true_and,nR];intro c i;simpa using g.abc x f c i
 have j:decide (d=aK d)=ag:=decide_eq_true (yU h).symm;show uO bU w d=ag;unfold uO;rw[l,j,decide_eq_true (show 1<=(w:Int)/\(w:Int)<=4 by lia),decide_eq_true (show 1<=d.length/\d.length<=9 from⟨g.some,g.few⟩)];rfl
end
def dv(m:List (Tx×Int))(x:Tx):Option Int:=(m.find? λp=>decide (p.1=x)).map (·.2)
def dY(m:List (Tx×Int))(x:Tx)(n:Int):List (Tx×Int):=if(m.any λp=>decide (p.1=x))=ag then m.map (λp=>if p.1=x then(p.1,n)else p)else m++[(x,n)]
def dk(m:List (Tx×Int)):List (aN×PV):=m.map λp=>(Sum.inr (tS p.1),PV.int p.2)
theorem Ct(x y:Tx):((Sum.inr (tS x):aN)=Sum.inr (tS y))=(x=y):=propext ⟨λh=>yf (Sum.inr.inj h),λh=>by rw[h]⟩
theorem xM(m:List (Tx×Int))(x:Tx):me (dk m) (Sum.inr (tS x))=(dv m x).map .int:=by
 induction m with
 |nil=>rfl
 |cons p m a=>
  show((List.find? _ ((Sum.inr (tS p.1),PV.int p.2)::dk m)).map (·.2))=_;unfold dv;rw[kN,kN];simp only[Ct];by_cases h:p.1=x
  .simp[h]
  .simp only[h,decide_false];exact a
theorem Sk(m:List (Tx×Int))(x:Tx):((dk m).any λa=>decide (a.1=(Sum.inr (tS x):aN)))=m.any λp=>decide (p.1=x):=by unfold dk;rw[List.any_map];congr 1;funext p;simp only[pt,Ct]
theorem AK(m:List (Tx×Int))(x:Tx)(n:Int):rR (dk m) (Sum.inr (tS x)) (.int n)=dk (dY m x n):=by
 unfold rR dY;rw[Sk];split
 .unfold dk;rw[cJ,cJ];refine nQ λp _=>?_;simp only[pt,Ct];split <;> rfl
 .unfold dk;simp
theorem G_(m:List (Tx×Int)):qf (dk m)=aa (m.any λp=>decide (p.2≠0)):=by
 induction m with
 |nil=>rfl
 |cons p m a=>show(qf (dk m)).map _=_;rw[a];simp
theorem Ar{m:List (Tx×Int)}{x:Tx}(h:(m.any λp=>decide (p.1=x))=am):dv m x=ae:=by unfold dv;rw[Option.map_eq_none_iff,Du];intro p a;have:=IT.mp h p a;simpa using this
theorem N1{m:List (Tx×Int)}{x y:Tx}{n:Int}(h:(m.any λp=>decide (p.1=x))=am):dv (m++[(x,n)]) y=if y=x then aa n else dv m y:=by
 have a:=Ar h;unfold dv at a ⊢;rw[List.find?_append];by_cases e:y=x
 .subst e;rw[Option.map_eq_none_iff]at a;simp[a]
 .rw[if_neg e];have:¬x=y:=λz=>e z.symm;cases b:m.find? (λp=>decide (p.1=y))with
  |none=>simp[this]
  |some p=>simp
theorem Lf{m:List (Tx×Int)}{x y:Tx}{n:Int}:dv (m.map λp=>if p.1=x then(p.1,n)else p) y=(dv m y).map λz=>if y=x then n else z:=by
 induction m with
 |nil=>rfl
 |cons p m a=>
  unfold dv at a ⊢;rw[cS,kN,kN];by_cases h:p.1=x
  .rw[if_pos h];by_cases e:p.1=y
   .simp[e,show y=x from e.symm.trans h]
   .simp only[e,decide_false];exact a
  .rw[if_neg h];by_cases e:p.1=y
   .simp[e,show ¬y=x from λz=>h (e.trans z)]
   .simp only[e,decide_false];exact a
theorem SR{m:List (Tx×Int)}{x:Tx}(h:(m.any λp=>decide (p.1=x))=ag):∃n,dv m x=aa n:=by
 unfold dv;cases a:m.find? (λp=>decide (p.1=x))with
 |none=>rw[Du]at a;obtain⟨p,c,b⟩:=wA.mp h;exact absurd b (a p c)
 |some p=>exact⟨_,rfl⟩
theorem Ak(m:List (Tx×Int))(x y:Tx)(n:Int):dv (dY m x n) y=if y=x then aa n else dv m y:=by
 unfold dY;by_cases h:(m.any λp=>decide (p.1=x))=ag
 .rw[if_pos h,Lf];by_cases e:y=x
  .subst e;obtain⟨k,a⟩:=SR h;rw[a];simp
  .simp[e]
 .rw[if_neg h,N1 (zL.mpr h)]
structure oR(m:List (Tx×Int))(q:List Tx):Prop where
 nd:(m.map (·.1)).Nodup
 get:∀x,(dv m x).getD 0=(q.count x:Nat)
theorem oR.mem{m:List (Tx×Int)}{q:List Tx}(h:oR m q){p:Tx×Int}(a:p∈m):dv m p.1=aa p.2:=by
 have b:=h.nd;clear h
 induction m with
 |nil=>cases a
 |cons r m c=>
  unfold dv;rw[kN];rcases bo.mp a with rfl|a
  .simp
  .rw[cS,jH]at b;have:¬r.1=p.1:=λz=>b.1 (bH.mpr ⟨p,a,z.symm⟩);simp only[this,decide_false];exact c a b.2
theorem Fo{m:List (Tx×Int)}{x:Tx}{n:Int}:(dY m x n).map (·.1)=if(m.any λp=>decide (p.1=x))=ag then m.map (·.1)else m.map (·.1)++[x]:=by
 unfold dY;split
 .rw[cJ];refine nQ λp _=>?_;simp only[pt];split <;> rfl
 .simp
theorem FZ{m:List (Tx×Int)}{x:Tx}{n:Int}(h:(m.map (·.1)).Nodup):((dY m x n).map (·.1)).Nodup:=by
 rw[Fo];split
 .exact h
 .rename_i f;rw[Dg];refine⟨h,by simp,λa g b c=>?_⟩;rw[gP]at c;subst c;rintro rfl;obtain⟨p,d,rfl⟩:=bH.mp g;exact f (wA.mpr ⟨p,d,by simp⟩)
theorem oR.any{m:List (Tx×Int)}{q:List Tx}(h:oR m q):(m.any λp=>decide (p.2≠0))=!q.isEmpty:=by
 cases q with
 |nil=>rw[JX,n5,IT];intro p b;have a:=h.get p.1;rw[h.mem b]at a;simpa using a
 |cons x q=>
  rw[List.isEmpty_cons,ww,wA];have a:=h.get x;rw[wB]at a;cases e:m.find? (λp=>decide (p.1=x))with
  |none=>unfold dv at a;rw[e]at a;simp at a;lia
  |some p=>unfold dv at a;rw[e]at a;refine⟨p,List.mem_of_find?_eq_some e,?_⟩;simp at a;simp;lia
theorem oR.dec{m:List (Tx×Int)}{q:List Tx}(h:oR m q){x:Tx}(i:x∈q):∃n,dv m x=aa n/\0<n/\oR (dY m x (n-1)) (q.erase x)/\dv (dY m x (n-1)) x=aa (n-1)/\dY (dY m x (n-1)) x (n-1+1)=m:=by
 have a:=h.get x;have o:0<q.count x:=wC.mpr i;cases e:dv m x with
 |none=>rw[e]at a;simp at a;lia
 |some n=>
  rw[e]at a;simp only[zW]at a;refine⟨n,rfl,∅,⟨FZ h.nd,λy=>?_⟩,by rw[Ak,if_pos rfl],?_⟩
  .rw[Ak];by_cases c:y=x
   .subst c;rw[if_pos rfl,DQ];simp only[zW];lia
   .rw[if_neg c,DZ (eO (eO c))];exact h.get y
  .have f:(m.any λp=>decide (p.1=x))=ag:=by
    cases z:(m.any λp=>decide (p.1=x))with
    |true=>rfl
    |false=>rw[Ar z]at e;cases e
   have j:((dY m x (n-1)).any λp=>decide (p.1=x))=ag:=by unfold dY;rw[if_pos f];obtain⟨p,d,b⟩:=wA.mp f;refine wA.mpr ⟨_,bH.mpr ⟨p,d,rfl⟩,?_⟩;rw[decide_eq_true_eq]at b;rw[if_pos b];simpa using b
   have l:dY (dY m x (n-1)) x (n-1+1)=(m.map λp=>if p.1=x then(p.1,n-1)else p).map λp=>if p.1=x then(p.1,n-1+1)else p:=by show(if((dY m x (n-1)).any λp=>decide (p.1=x))=ag then _ else _)=_;rw[if_pos j];unfold dY;rw[if_pos f]
   rw[l,cJ];have:∀p∈m,((λp:Tx×Int=>if p.1=x then(p.1,n-1+1)else p) ∘ λp:Tx×Int=>if p.1=x then(p.1,n-1)else p) p=p:=by
    intro p d;simp only[pt];by_cases c:p.1=x
    .rw[if_pos c,if_pos c];have g:=h.mem d;rw[c,e]at g;cases g;rw[show p.2-1+1=p.2 by lia]
    .rw[if_neg c,if_neg c]
   rw[nQ this,List.map_id''];intro p;rfl
theorem oR.zero{m:List (Tx×Int)}{q:List Tx}(h:oR m q){x:Tx}(a:x∉q):(dv m x).getD 0=0:=by rw[h.get,JV a];rfl
section
variable{a:Ad}
theorem RD(b:List Tx)(G:b.length<=100):∃m,oR m b/\m.length<=b.length/\vO a [.val (.tup (aj b))]=.ok (.own (.dK (dk m))) [.val (.tup (aj b))]:=by
 obtain⟨w,v,m,g,l,rfl,f,j,C⟩:=vN (i:=2) (db:=(nc 1 (dV 2) (d2 bf (nv 1 (dV 2) (dC (.int 0))) (dC (.int 1)))))
  (I:=λr h=>∃(m:List (Tx×Int)) (g:Slot) (l:List Tx),h=[.val (.tup (aj b)),.own (.dK (dk m)),g]/\oR m l/\m.length<=l.length/\∃q,b=l++q/\r=aj q)
  (by
   rintro x r h ⟨m,g,l,rfl,f,j,q,d,p⟩;cases q with
   |nil=>cases p
   |cons y q=>
    have n:x::r=.str y::aj q:=p;simp only[wo]at n;obtain⟨rfl,rfl⟩:=n;have F:m.length<bG:=by have:=congrArg qD d;simp at this;unfold bG;lia
    refine⟨[.val (.tup (aj b)),.own (.dK (dk (dY m y ((dv m y).getD 0+1)))),↥y],?_,dY m y ((dv m y).getD 0+1),_,l++[y],rfl,⟨FZ f.nd,λz=>?_⟩,?_,q,by rw[d];simp,rfl⟩
    .have o:=xM m y;have s:=AK m y ((dv m y).getD 0+1);have u:(dk m).length<bG:=by unfold dk;rw[bX];exact F
     have B:((dv m y).map PV.int).getD (.int 0)=.int ((dv m y).getD 0):=by cases dv m y <;> rfl
     generalize dk m=D at o s u;simp![nc,nv,fA,jX,o,B,bf,u,s]
    .rw[Ak];by_cases c:z=y
     .subst c;rw[if_pos rfl,DP,List.count_singleton_self];have:=f.get z;simp only[zW];lia
     .rw[if_neg c,DP,f.get z];have:[y].count z=0:=JV (by simpa using c);rw[this];rfl
    .have:(dY m y ((dv m y).getD 0+1)).length<=m.length+1:=by
      unfold dY;split <;> simp
     rw[c0,nM];lia)
  (aj b) [.val (.tup (aj b)),.own (.dK (dk [])),.none] ⟨[],.none,[],rfl,⟨by simp,λx=>by simp[dv]⟩,by simp,b,by simp,rfl⟩
 obtain⟨q,d,A⟩:=C;have:q=[]:=by cases q with|nil=>rfl|cons=>cases A
 subst this;rw[fQ]at d;subst d;refine⟨m,f,j,?_⟩;have E:dk []=[]:=rfl;rw[E]at v;simp![vO,yaq,Ba,dS,bp,ir,dA,v,sP]
theorem Qg{t:Tx}{w:Nat}(b:w<=t.length+1)(c:1<=w):gU (.str t) (aa ((t.length:Int)-w+1)) ae=aa (.str (t.drop (t.length+1-w))):=by show aa (PV.str (dU t _ ae))=_;rw[show((t.length:Int)-w+1)=((t.length+1-w:Nat):Int) by lia,GJ]
def kC(c:Nat):PV:=.str [c]
theorem GK(w:Nat)(Q:1<=w):∀(r u:Nat) (t:Tx) (m:List (Tx×Int)) (q:List Tx) (b:List Tx),r<u->q.length=r->oR m q->w<=t.length+1->t.length+r<=1000->m.length<=1000->b.length+(iI w r t q).length<=bG -> o0 a u [↥t,⇑w,.own (.dK (dk m)),.own (.lst (aj b))]=.ok (.val .non) [↥t,⇑w,.own (.dK (dk m)),.own (.lst (aj (b++iI w r t q)))]
 |0,0,_,_,_,_,h,_,_,_,_,_,_=>absurd h ∅
 |r+1,0,_,_,_,_,h,_,_,_,_,_,_=>absurd h ∅
 |0,u+1,t,m,q,b,_,hq,hm,hw,ht,ux,hs=>by
  have N:q=[]:=JP.mp hq;subst N;have d:=G_ m;rw[hm.any]at d;simp only[JX,n5]at d;have Y:(aj b).length<bG:=by rw[f_];simp only[iI,nM]at hs;lia
  have e:aj (b++iI w 0 t [])=aj b++[.str t]:=by simp[aj,iI]
  rw[e];generalize dk m=D at d;generalize aj b=L at Y;simp![o0,yam,vc,fA,d,Y]
 |r+1,u+1,t,m,q,b,hf,hq,hm,hw,ht,ux,hs=>by
  have bY:q.isEmpty=am:=by cases q with|nil=>cases hq|cons=>rfl
  have d:=G_ m;rw[hm.any,bY]at d;simp only[ww]at d;have A:=Qg (t:=t) hw Q;have a9:bN [.str t]=aa (.int (t.length:Nat)):=rfl;have iz:j7 (.int (t.length:Nat)) (.int w)=aa (.int ((t.length:Int)-w)):=rfl;have kU:bf (.int ((t.length:Int)-w)) (.int 1)=aa (.int ((t.length:Int)-w+1)):=rfl
  let H:=t.drop (t.length+1-w)
  let f:=λc=>if H++[c]∈q then iI w r (t++[c]) (q.erase (H++[c]))else []
  have Z:iI w (r+1) t q=bU.flatMap f:=rfl;have hH:H.length<=1000:=by simp only[H,lF];lia
  obtain⟨ε',s,G,F,p,rest,o,xx,rfl⟩:=vN (i:=5) (db:=(aI (b8 6 (d2 bf (dV 4) (dV 5)))
 (dq (dB (d2 (dQ λi j=>decide (j<i)) (nv 2 (dV 6) (dC (.int 0))) (dC (.int 0)))) (aI (nc 2 (dV 6) (d2 j7 (nz 2 (dV 6)) (dC (.int 1))))
 (aI (lw (aZ (o0 a u) (gV (d2 bf (dV 0) (dV 5)) (gV (dV 1) (gO 2 (gO 3 (Pu.b9)))))))
 (nc 2 (dV 6) (d2 bf (nz 2 (dV 6)) (dC (.int 1)))))) (eU))))
   (I:=λJ P=>∃(G F:Slot) (p rest:Tx),bU=p++rest/\J=rest.map kC/\P=[↥t,⇑w,.own (.dK (dk m)),.own (.lst (aj (b++p.flatMap f))),↥H,G,F])
   (by
    rintro x J P ⟨G,F,p,rest,o,W,rfl⟩;cases rest with
    |nil=>cases W
    |cons c rest=>
     have Kb:x::J=kC c::rest.map kC:=W;simp only[wo]at Kb;obtain⟨rfl,rfl⟩:=Kb;have S:bf (.str H) (.str [c])=aa (.str (H++[c])):=u_ (by simp[bG];lia);have oq:bf (.str t) (.str [c])=aa (.str (t++[c])):=u_ (by simp[bG];lia);have TM:b.length+(p.flatMap f).length+(f c).length<=bG:=by rw[Z,o,JY,qU,c0,c0]at hs;lia
     have X:aj (b++(p++[c]).flatMap f)=aj ((b++p.flatMap f)++f c):=by simp
     by_cases B:H++[c]∈q
     .obtain⟨n,O,g2,g3,g4,g5⟩:=hm.dec B;have g:f c=iI w r (t++[c]) (q.erase (H++[c])):=if_pos B;have v:=GK w Q r u (t++[c]) (dY m (H++[c]) (n-1)) (q.erase (H++[c])) (b++p.flatMap f) ∅ (by rw[Dw B,hq];rfl) g3 (by simp;lia) (by simp;lia)
       (by
        have:(dY m (H++[c]) (n-1)).length=m.length:=by
         have:=congrArg qD (Fo (m:=m) (x:=H++[c]) (n:=n-1));have d:(m.any λp=>decide (p.1=H++[c]))=ag:=by
          cases z:(m.any λp=>decide (p.1=H++[c]))with
          |true=>rfl
          |false=>rw[Ar z]at O;cases O
         rw[if_pos d]at this;simpa using this
        lia)
       (by rw[<-g,c0];exact TM)
      rw[<-g]at v;have l:=xM m (H++[c]);rw[O]at l;have K:=AK m (H++[c]) (n-1);have C:=xM (dY m (H++[c]) (n-1)) (H++[c]);rw[g4]at C;have E:=AK (dY m (H++[c]) (n-1)) (H++[c]) (n-1+1);rw[g5,show n-1+1=n by lia]at E;have y:(dk m).length<bG:=by unfold dk;rw[bX];unfold bG;lia
      have T:(dk (dY m (H++[c]) (n-1))).length<bG:=by
       unfold dk;rw[bX];have:(dY m (H++[c]) (n-1)).length<=m.length+1:=by unfold dY;split <;> simp
       unfold bG;lia
      have gt:(0:Int)<n:=g2;refine⟨[↥t,⇑w,.own (.dK (dk m)),.own (.lst (aj (b++(p++[c]).flatMap f))),↥H,.val (.str [c]),↥(H++[c])],?_,_,_,p++[c],rest,by rw[o];simp,rfl,rfl⟩;rw[X];have s1:j7 (.int n) (.int 1)=aa (.int (n-1)):=rfl;have s2:bf (.int (n-1)) (.int 1)=aa (.int n):=by show aa (PV.int (n-1+1))=_;congr 2;lia
      simp only[tZ]at l C;generalize dk m=D at l K E y;generalize dk (dY m (H++[c]) (n-1))=D2 at C K E v T;generalize aj (b++p.flatMap f)=L at v;generalize aj ((b++p.flatMap f)++f c)=L2 at v;clear_value H f;simp![kC,S,nv,nz,nc,fA,jX,l,gt,s1,y,K,oq,v,C,s2,T,E]
     .have g:f c=[]:=if_neg B;have M:=hm.zero B;have l:=xM m (H++[c]);have hg:((dv m (H++[c])).map PV.int).getD (.int 0)=.int 0:=by
       cases e:dv m (H++[c])with
       |none=>rfl
       |some k=>rw[e]at M;simp at M;subst M;rfl
      refine⟨[↥t,⇑w,.own (.dK (dk m)),.own (.lst (aj (b++(p++[c]).flatMap f))),↥H,.val (.str [c]),↥(H++[c])],?_,_,_,p++[c],rest,by rw[o];simp,rfl,rfl⟩;rw[X,g,fQ];generalize dk m=D at l;generalize aj (b++p.flatMap f)=L;clear_value H f;simp![kC,S,nv,fA,jX,l,hg])
   (bU.map kC) [↥t,⇑w,.own (.dK (dk m)),.own (.lst (aj (b++([]:Tx).flatMap f))),↥H,.none,.none] ⟨.none,.none,[],bU,by simp,rfl,rfl⟩
  have jz:rest=[]:=by cases rest with|nil=>rfl|cons=>cases xx
  subst jz;rw[fQ]at o;rw[Z];rw[<-o]at s;simp only[JQ,fQ]at s;have eQ:ir (.str [97,98,99])=aa (bU.map kC):=rfl;have T2:gU (.str t) (aa ((t.length:Int)-w+1)) ae=aa (.str H):=A;generalize dk m=D at d s;generalize aj b=L at s;generalize aj (b++bU.flatMap f)=L2 at s;clear_value H f;simp![o0,yam,vc,fA,d,il,gA,jd,a9,iz,kU,T2,dA,dS,bp,eQ,s]
abbrev aQ(w:Nat)(ls:List Tx):PV:=.tup [.int w,.tup (aj ls)]
theorem Pd{b:Type}(xs:List b):dU xs ae (aa (-1))=xs.dropLast:=by unfold dU;rw[show HT.sIx xs.length 0 ae=0 from rfl,v7,Nat.sub_zero,List.dropLast_eq_take];congr 1;show(HT.sIx xs.length xs.length (aa (-1)))=_;show(if(-1:Int)<0 then((-1:Int)+(xs.length:Int)).toNat else min (-1:Int).toNat xs.length)=_;rw[if_pos (by decide)];lia
theorem Pm{w:Nat}{b:List Tx}(g:Good bU w b)(d:1<=w)(f:w<=4):(cG w b).length<=531441:=by rw[sY d g.some λx c=>⟨g.len x c,g.abc x c⟩];refine cM (wz _ _) ?_;rw[y_];exact cM (z9 (by decide) (show w-1+b.length<=12 by have:=g.few;lia)) (by decide)
theorem K4(V:PV)(d:List Tx)(w:Nat)(c b:Slot):lm [] dYes (il gU (dV 0) jd (gA (d1 oO (dC (.int 1))))) (aj d) [] [.val V,⇑w,c,b]=.ok (aj (d.map qV)) [.val V,⇑w,c,b]:=by
 have i:=kr (cap:=[]) (dt:=dYes) (de:=(il gU (dV 0) jd (gA (d1 oO (dC (.int 1)))))) (ε:=[.val V,⇑w,c,b]) (λ_=>ag) (λx=>match x with|.str z=>.str z.dropLast|_=>.non) (aj d)
  (by
   intro x f;obtain⟨z,_,rfl⟩:=bH.mp f;refine⟨by simp![dO,dX,b7,dYes],λ_=>?_⟩;have g:gU (.str z) ae (aa (-1))=aa (.str z.dropLast):=by show aa (PV.str (dU z ae (aa (-1))))=_;rw[Pd]
   have h:oO (.int 1)=aa (.int (-1)):=rfl;simp![dO,dX,b7,il,jd,gA,h,g]) []
 rw[i,iy,z8.mpr (by simp)];unfold aj;rw[cJ,cJ];rfl
theorem Ik{w:Nat}{c:List Tx}(g:Good bU w c)(u:1<=w)(E:w<=4)(W:c.Pairwise (λa b=>cQ a b=ag)):oY a [.val (aQ w c)]=.ok (.own (.lst (aj (cG w c)))) [.val (aQ w c)]:=by
 have n:=B6 (a:=a) (g.vw u E W);have A:bv (aQ w c) (.int 0)=aa (.int w):=rfl;have o:bv (aQ w c) (.int 1)=aa (.tup (aj c)):=rfl;obtain⟨m,B,H,l⟩:=RD (a:=a) c (by have:=g.few;lia);have O:m.length<=1000:=by have:=g.few;lia
 let hd:=aK (bR (c.map qV))
 have P:∀h∈hd,h.length=w-1:=λh J=>by have B:=(k_ _ _).mp ((d9 _).mem_iff.mp J);obtain⟨y,S,rfl⟩:=bH.mp B;rw[Dm,g.len y S]
 let f:=λh=>iI w c.length h c
 have K:cG w c=hd.flatMap f:=rfl;have C:=Pm g u E;obtain⟨M,j,v,p,rest,q,N,rfl⟩:=vN (i:=3) (db:=(lw (uD (o0 a 12) (su (dV 3) (su (dV 1) (gN (sv (aZ (vO a) (gV (d2 bv (dV 0) (dC (.int 1))) (Pu.b9)))) (gO 2 (Pu.b9))))))))
  (I:=λr ε=>∃(v:Slot) (p rest:List Tx),hd=p++rest/\r=aj rest/\ε=[.val (aQ w c),⇑w,.own (.lst (aj (p.flatMap f))),v])
  (by
   rintro x r ε ⟨v,p,rest,q,G,rfl⟩;cases rest with
   |nil=>cases G
   |cons h rest=>
    have F:x::r=.str h::aj rest:=G;simp only[wo]at F;obtain⟨rfl,rfl⟩:=F;have J:h.length=w-1:=P h (by rw[q];simp);have s:=GK (a:=a) w u c.length 12 h m c (p.flatMap f) (by have:=g.few;lia) rfl B ∅ (by have:=g.few;lia) O (by rw[K,q,JY,qU,c0,c0]at C;show(p.flatMap f).length+(f h).length<=bG;unfold bG;lia);refine⟨[.val (aQ w c),⇑w,.own (.lst (aj ((p++[h]).flatMap f))),↥h],?_,_,p++[h],rest,by rw[q];simp,rfl,rfl⟩;have Y:(p++[h]).flatMap f=p.flatMap f++iI w c.length h c:=by simp[f]
    rw[Y];generalize aj (p.flatMap f)=L at s;generalize aj (p.flatMap f++iI w c.length h c)=L2 at s;generalize dk m=D at s l;simp only[aQ]at o ⊢;generalize aj c=T at l o;clear_value f hd;simp![uD,su,gN,F_,o,l,s])
  (aj hd) [.val (aQ w c),⇑w,.own (.lst (aj (([]:List Tx).flatMap f))),.none] ⟨.none,[],hd,by simp,rfl,rfl⟩
 have Q:rest=[]:=by cases rest with|nil=>rfl|cons=>cases N
 subst Q;rw[fQ]at q;rw[<-q,<-K]at j;simp only[JQ]at j;have d:=K4 (aQ w c) c w (.own (.lst [])) .none;have z:vD [.lst (aj (c.map qV))]=aa (.lst (aj hd)):=by show(eM (aj _)).bind _=_;have h2:=g.few;rw[l_,fj,if_pos (v6 (Hl _) (by rw[bX];lia))]
 have Z:aj ([]:List Tx)=[]:=rfl;rw[Z]at j;generalize aj (cG w c)=L at j;generalize aj hd=D at j z;generalize aj (c.map qV)=D0 at d z;simp only[aQ]at n A o d j ⊢;generalize X:aj c=T at n A o d j;clear_value f hd;simp![oY,yaL,n,A,o,dA,dS,bp,ir,cY,d,z,j,sP]
theorem Oe(b:List Tx):iZ (aj b)=aa (bB b):=by
 induction b with
 |nil=>rfl
 |cons x b c=>show(dG (.str x)).bind (λv=>(iZ (aj b)).map (v::·))=_;rw[c];rfl
theorem HB(b:List Tx)(x:Tx):mn (aj b) (.str x)=aa (.int (b.count x:Nat)):=by show(dG (.str x)).bind (λv=>(iZ (aj b)).map λc=>PV.int (c.countP λz=>eI z v))=_;rw[Oe,<-Mn];rfl
theorem HQ(w:Nat)(b:List Tx)(t:Tx)(p:t.length<=60):kI a [↥t,⇑w,.val (.tup (aj b))]=.ok (.val (.bl (unD w b t))) [↥t,⇑w,.val (.tup (aj b))]:=by
 have g:=vz (a:=a) t w p
 let M:=aK (aT t w)
 have f:=kr (cap:=[3,2]) (dt:=dYes) (de:=(d2 (dQ λi j=>decide (i<=j)) (rV mn (dV 1) (dV 0)) (rV mn (dV 2) (dV 0)))) (ε:=[↥t,⇑w,.val (.tup (aj b)),.val (.tup (aj M))]) (λ_=>ag) (λx=>match x with|.str z=>.bl (decide (M.count z<=b.count z))|_=>.non) (aj M)
  (by intro x c;obtain⟨z,_,rfl⟩:=bH.mp c;refine⟨by simp![dO,dX,b7,dYes],λ_=>?_⟩;have o:=HB M z;have n:=HB b z;generalize aj M=A at o;generalize aj b=B at n;simp![dO,dX,b7,rV,o,n]) []
 have q:((aj M).filter (λ_=>ag)).map (λx=>match x with|.str z=>PV.bl (decide (M.count z<=b.count z))|_=>.non)=(M.map λz=>decide (M.count z<=b.count z)).map .bl:=by rw[z8.mpr (by simp)];unfold aj;rw[cJ,cJ];rfl
 rw[iy,q]at f;have l:(M.map λz=>decide (M.count z<=b.count z)).all id=unD w b t:=by
  rw[zB];unfold unD;have d:=d9 (aT t w);rw[kc,nR,nR];constructor
  .intro h x c;have:=h x (d.mem_iff.mpr c);simp only[pt,id,M,d.count_eq]at this;exact this
  .intro h x c;have:=h x (d.mem_iff.mp c);simp only[pt,id,M,d.count_eq];exact this
 generalize (M.map λz=>decide (M.count z<=b.count z))=bs at f l;have m:=A4 bs;rw[l]at m;change ku a _=R.ok (Slot.val (.tup (aj M))) _ at g;generalize aj M=MM at g f;clear_value M;simp![kI,yaG,g,cY,bp,ir,f,m]
theorem HR(b:Bool)(c d:List Tx):Pu.eqT b (.tup (aj c)) (.tup (aj d))=aa (.bl (b^^decide (c=d))):=by show(if jm (.tup (aj c))<=8 then(gb (aj c) (aj d)).map (λk=>PV.bl (b^^k))else ae)=_;rw[if_pos (by show gh (aj c)+1<=8;rw[Ay];decide),At];rfl
def nextT(w:Nat)(b:List Tx)(t:Tx):List Tx:=(bU.map λc=>t++[c]).filter (unD w b)
theorem R_(w:Nat)(g:List Tx)(V j h s:Slot)(d:List Tx)(H:∀t∈d,t.length<=50)(M:(d.flatMap (nextT w g)).length<=999999):∃n,dw 6 (fK 5 (dF (cY [6,1,2] (bp (dC (.str [97,98,99]))) (dB (bd (aZ (kI a) (gV (d2 bf (dV 1) (dV 0)) (gV (dV 2) (gV (dV 3) (Pu.b9))))))) (d2 bf (dV 1) (dV 0))))) (aj d) [V,⇑w,.val (.tup (aj g)),j,h,.own (.lst []),s]=.ok .next [V,⇑w,.val (.tup (aj g)),j,h,.own (.lst (aj (d.flatMap (nextT w g)))),n]:=by
 let f:=nextT w g
 obtain⟨C,A,n,p,rest,l,D,rfl⟩:=vN (i:=6) (db:=(fK 5 (dF (cY [6,1,2] (bp (dC (.str [97,98,99]))) (dB (bd (aZ (kI a) (gV (d2 bf (dV 1) (dV 0)) (gV (dV 2) (gV (dV 3) (Pu.b9))))))) (d2 bf (dV 1) (dV 0))))))
  (I:=λr ε=>∃(n:Slot) (p rest:List Tx),d=p++rest/\r=aj rest/\ε=[V,⇑w,.val (.tup (aj g)),j,h,.own (.lst (aj (p.flatMap f))),n])
  (by
   rintro x r ε ⟨n,p,rest,l,y,rfl⟩;cases rest with
   |nil=>cases y
   |cons t rest=>
    have v:x::r=.str t::aj rest:=y;simp only[wo]at v;obtain⟨rfl,rfl⟩:=v;have G:=H t (by rw[l];simp);have m:=kr (cap:=[6,1,2]) (dt:=(dB (bd (aZ (kI a) (gV (d2 bf (dV 1) (dV 0)) (gV (dV 2) (gV (dV 3) (Pu.b9)))))))) (de:=(d2 bf (dV 1) (dV 0))) (ε:=[V,⇑w,.val (.tup (aj g)),j,h,.own (.lst (aj (p.flatMap f))),↥t])
     (λx=>match x with|.str [c]=>unD w g (t++[c])|_=>am) (λx=>match x with|.str [c]=>.str (t++[c])|_=>.non) (bU.map kC)
     (by
      intro x F;obtain⟨c,_,rfl⟩:=bH.mp F;have o:=HQ (a:=a) w g (t++[c]) (by simp;lia);have u:bf (.str t) (.str [c])=aa (.str (t++[c])):=u_ (by simp[bG];lia);simp only[kC];generalize aj (p.flatMap f)=L;generalize unD w g (t++[c])=b at o;generalize t++[c]=tc at o u;generalize aj g=B at o;refine⟨?_,λ_=>?_⟩
      .simp![dO,dX,b7,u,o]
      .simp![dO,dX,b7,u]) []
    have J:((bU.map kC).filter (λx=>match x with|.str [c]=>unD w g (t++[c])|_=>am)).map (λx=>match x with|.str [c]=>PV.str (t++[c])|_=>.non)=aj (f t):=by simp only[f,nextT];rw[n9,cJ,n9];unfold aj;rw[cJ];rfl
    rw[iy,J]at m;have z:ir (.str [97,98,99])=aa (bU.map kC):=rfl;have q:(aj (p.flatMap f)).length+(aj (f t)).length<=bG:=by
     rw[f_,f_];have N:(p.flatMap f).length+(f t).length<=(d.flatMap (nextT w g)).length:=by rw[l,JY,qU,c0,c0];simp only[f];lia
     unfold bG;lia
    refine⟨[V,⇑w,.val (.tup (aj g)),j,h,.own (.lst (aj ((p++[t]).flatMap f))),↥t],?_,↥t,p++[t],rest,by rw[l];simp,rfl,rfl⟩;have K:aj ((p++[t]).flatMap f)=aj (p.flatMap f)++aj (f t):=by simp[aj]
    rw[K];generalize aj (f t)=Y at m q;generalize aj (p.flatMap f)=L at m q;generalize aj g=B at m;generalize bU.map kC=A3 at m z;clear_value f;simp![fK,cY,bp,z,m,q])
  (aj d) [V,⇑w,.val (.tup (aj g)),j,h,.own (.lst (aj (([]:List Tx).flatMap f))),s] ⟨s,[],d,by simp,rfl,rfl⟩
 have E:rest=[]:=by cases rest with|nil=>rfl|cons=>cases D
 subst E;rw[fQ]at l;rw[<-l]at A;exact⟨n,A⟩
theorem RN{k:Nat}(h:k<=12):3^k<=531441:=cM (z9 (by decide) h) (by decide)
end
end Sh
namespace Mx
open L2 Pu
def nD(z:Tx)(i:Nat):Nat:=z.getD (i % z.length) 0
def NK(z:Tx)(w:Nat):Tx:=((bK w z).flatten).take (z.length+w-1)
theorem len_sub{l m:List Tx}(a:l.Nodup)(h:∀x∈l,x∈m):l.length<=m.length:=by
 induction l generalizing m with
 |nil=>simp
 |cons x l d=>rw[jH]at a;have c:x∈m:=h x (by simp);have:=d (m:=m.erase x) a.2 λy b=>(List.mem_erase_of_ne (λz=>a.1 (by rw[<-z];exact b))).mpr (h y (by simp[b]));rw[Dw c]at this;have f:0<m.length:=List.length_pos_of_mem c;rw[cx];lia
end Mx
namespace Sh
open L2 Pu Mx
section
variable{a:Ad}
def EU(t:Tx)(v:Nat):List Tx:=(cq (t.length+1-v)).map λi=>(t.drop i).take v
def se(b c:Nat):List Nat:=List.range' b (c-b)
def part(t:Tx)(i j:Nat):Tx:=(t.drop i).take (j-i)
def nD(b:List Tx)(i:Nat):Tx:=b.getD i []
def QU(t:Tx)(s e g l:Nat):Tx:=t.take s++part t g l++part t e g++part t s e++t.drop l
def Q1(t:Tx)(b:List Tx)(s g e:Nat):List Tx:=(se (g+1) b.length).flatMap λl=>if nD b e=nD b l then [QU t s e g l] else []
def N3(t:Tx)(b:List Tx)(s g:Nat):List Tx:=(se (s+1) (g+1)).flatMap λe=>Q1 t b s g e
theorem yE{i:Nat}{c:ak->R (List PV)}{d:ak->R aH}{ε ε1 b:ak}{xs:List PV}(h:c ε=.ok xs ε1)(f:dw i d xs ε1=.ok .next b):dS i c d ε=.ok .next b:=by unfold dS;rw[h];exact f
theorem So{i:Nat}{f:ak->R (List PV)}{g:ak->R aH}{d c b:ak}{xs:List PV}(h:f d=.ok xs c)(j:dw i g xs c=.ok .next b):(λd=>dA (dS i f g d)) d=.ok .next b:=by show dA _=_;rw[yE h j];rfl
theorem LX{i:Nat}{c:ak->R (List PV)}{d d2:ak->R aH}{ε ε1 b:ak}{xs:List PV}(h:c ε=.ok xs ε1)(f:dw i d xs ε1=.ok .next b):aI (λε=>dA (dS i c d ε)) d2 ε=d2 b :=dR (d1:=λε=>dA (dS i c d ε)) (So h f)
def Lm(t:Tx)(b:List Tx)(s:Nat):List Tx:=(se (s+1) b.length).flatMap λg=>if nD b s=nD b g then N3 t b s g else []
def Qc(t:Tx)(b:List Tx):List Tx:=(se 0 b.length).flatMap λs=>Lm t b s
def Kn(t:Tx)(m w:Nat):List Tx:=(se 1 m).map λp=>NK ((t.take m).drop p++(t.take m).take p) w
def Ow(t:Tx)(b:List Tx)(w:Nat):List Tx:=if nD b 0=nD b (b.length-1)then Kn t (b.length-1) w else []
def MB(t:Tx)(w:Nat):List Tx:=Qc t (EU t (w-1))++Ow t (EU t (w-1)) w
def L5(t:Tx)(m:Nat):List Tx:=(se 1 m).map λp=>part (bK 3 (t.take m)).flatten p (p+t.length)
def kA(t:Tx)(b:List Tx):List Tx:=if nD b 0=nD b (b.length-1)then L5 t (b.length-1)else []
theorem O6{t:ak->R Bool}{d:ak->R aH}{n:Nat}{f c b:ak}(h:t f=.ok ag c)(g:d c=.ok .next b):iK t d (n+1) f=iK t d n b:=by rw[iK,h,R.bind_ok];simp only;rw[g]
theorem HK{t:ak->R Bool}{d:ak->R aH}{n:Nat}{c b:ak}(h:t c=.ok am b):iK t d (n+1) c=.ok .next b:=by rw[iK,h,R.bind_ok]
end
end Sh
namespace Mx
open L2 Pu
theorem yW{z:Tx}{w:Nat}(a:1<=w):(aT z w).length=z.length+1-w:=by rw[oX z w a];simp
def QZ(t:Tx)(w:Nat):List Tx:=(dJ t.length).filter λz=>(aT z w).isPerm (aT t w)
end Mx
namespace Sh
open L2 Pu Mx
section
variable{v:Nat}
def oc(v:Nat)(M:List Tx)(y:Tx):Nat:=(M.map λx=>if x.take v=y then 1 else 0).sum
def ic(M:List Tx)(y:Tx):Nat:=(M.map λx=>if x.tail=y then 1 else 0).sum
abbrev en(v:Nat)(t:Tx):Tx:=t.drop (t.length-v)
abbrev b2(p:Prop)[Decidable p]:Nat:=if p then 1 else 0
end
inductive WN(w:Nat):Nat->Tx->Tx->Prop
 |here (n:Nat) (t:Tx):WN w n t t
 |on {n:Nat}{t u z:Tx}:WN w n t u->z∈MB u w->WN w (n+1) t z
def Full(w:Nat)(t:Tx)(k:Nat):Prop:=∀z∈QZ t w,WN w k t z
abbrev ks(m:List (Tx×Int)):List Tx:=m.map (·.1)
def b1(p:Prop)[Decidable p]:Int:=if p then 1 else 0
def exc(a:List Tx)(y:Tx):Int:=(a.map λx=>b1 (x.dropLast=y)-b1 (x.tail=y)).sum
section
variable{a:Ad}
def Lz:ak->R PV:=il gU (dV 1) (jd) (gA (d1 oO (dC (.int 1))))
def f2(a:Ad):ak->R aH:=b8 2 (dF (cY [1] (bp (dF (SO 1))) (dB (d2 (dQ λi j=>decide (j<i)) (nz 1 (dV 0)) (dC (.int 0)))) (dV 0)))
def f3:ak->R aH:=dq (dB (d2 (dQ λi j=>decide (j<i)) (dL bN (ax (dV 2) (aB))) (dC (.int 1)))) (dj (dL bF (ax (dC (.str [116,119,111])) (ax (d2 bv (dV 2) (dC (.int 0))) (ax (d2 bv (dV 2) (dC (.int 1))) (aB)))))) (eU)
def f4:ak->R aH:=dq (oG (dB (d2 (eqT am) (dL bN (ax (dV 2) (aB))) (dC (.int 1)))) (dB (d2 (dQ λi j=>decide (j<i)) (nz 1 (d2 bv (dV 2) (dC (.int 0)))) (dC (.int 1))))) (dj (dL bF (ax (dC (.str [109,111,114,101])) (ax (d2 bv (dV 2) (dC (.int 0))) (aB))))) (eU)
def f6:ak->R aH:=b8 4 (dF (PZ [3] (Ox (ax (dV 0) (aB))) (dB (M4 am 2 Lz)) (dV 0)))
def f7:ak->R aH:=dq (dB (d2 (dQ λi j=>decide (i<j)) (dL bN (ax (dV 4) (aB))) (dL bN (ax (dV 0) (aB))))) (dj (dL bF (ax (dC (.str [97,112,97,114,116])) (ax (dL jj (ax (dV 4) (aB))) (aB))))) (eU)
end
section
variable{v:Nat}
def pS(v:Nat)(K M:List Tx):Nat:=(K.map λy=>oc v M y-ic M y).sum
end
theorem drop_take{v:Nat}{x:Tx}(h:x.length=v+1):x.dropLast=x.take v:=by rw[List.dropLast_eq_take,h];rfl
end Sh
namespace Mx
open L2 Pu
def ovD(a w:Tx):Nat->Nat
 |0=>0
 |k+1=>if w.take (k+1) <:+ a then k+1 else ovD a w k
def ov(a w:Tx):Nat:=ovD a w (w.length-1)
theorem pick_sub:∀(m l:List Tx),(∀x,l.count x<=m.count x)->∃a:List Tx,a.Sublist m/\a.Perm l
 |[],l,h=>by
  have:l=[]:=by
   cases l with
   |nil=>rfl
   |cons x l=>have:=h x;simp at this
  subst this;exact⟨[],.slnil,.nil⟩
 |y::m,l,h=>by
  by_cases d:y∈l
  .obtain⟨a,c,b⟩:=pick_sub m (l.erase y) λx=>by
    have:=h x;by_cases e:y=x
    .subst e;rw[DQ];rw[wB]at this;lia
    .rw[DZ (λz=>e z.symm)];rw[D1 e]at this;exact this
   exact⟨y::a,c.cons_cons y,(b.cons y).trans (List.perm_cons_erase d).symm⟩
  .obtain⟨a,c,b⟩:=pick_sub m l λx=>by
    have:=h x;by_cases e:y=x
    .subst e;rw[List.count_eq_zero.mpr d];lia
    .rw[D1 e]at this;exact this
   exact⟨a,c.cons y,b⟩
theorem G9{w:Nat}{a:List Tx}(b:1<=w)(d:1<=a.length)(f:∀x∈a,x.length=w/\∀c∈x,c∈bU):(cG w a).Nodup:=by rw[sY b d f];exact(Gy _).filter _
theorem Ej{w:Nat}{d:List Tx}(f:1<=w)(i:1<=d.length)(j:∀x∈d,x.length=w/\∀c∈x,c∈bU)(h:d.Pairwise (λa b=>cQ a b=ag)){z:Tx}(g:∀c∈z,c∈bU):z∈cG w d↔aK (aT z w)=d:=by
 rw[sY f i j,ka,mx,DM];constructor
 .rintro⟨_,p⟩;rw[EV p,yU h]
 .intro e;have p:(aT z w).Perm d:=by rw[<-e];exact(d9 _).symm
  have l:=p.length_eq;rw[yW f]at l;exact⟨⟨∅,g⟩,p⟩
theorem xF{w:Nat}{a:List Tx}(b:1<=w)(d:1<=a.length)(f:∀x∈a,x.length=w/\∀c∈x,c∈bU){z:Tx}(h:z∈cG w a):z.length=w-1+a.length/\∀c∈z,c∈bU:=by rw[sY b d f,ka,mx]at h;exact h.1
end Mx
namespace Sh
open L2 Pu Mx
section
variable{a:Ad}
theorem sortSetTP_eq{k:List Tx}(h:k.length<=1000):qi [.tup (aj k)]=aa (.lst (aj (aK (bR k)))):=by show(eM (aj k)).bind _=_;rw[l_,fj,if_pos];have:(bR k).length<=k.length:=(Hc k).length_le_of_subset λz b=>(k_ _ _).mp b;lia
end
def less(m l:List Tx):List Tx:=l.foldl List.erase m
theorem less_perm:∀(l m:List Tx),(∀x,l.count x<=m.count x)->(less m l++l).Perm m
 |[],m,_=>by rw[fQ];exact qJ m
 |y::l,m,h=>by
  have b:y∈m:=by have:=h y;rw[wB]at this;exact wC.mp ∅
  have a:=less_perm l (m.erase y) λx=>by
   have:=h x;by_cases e:y=x
   .subst e;rw[DQ];rw[wB]at this;lia
   .rw[DZ (λz=>e z.symm)];rw[D1 e]at this;exact this
  exact(Dx.trans (a.cons y)).trans (List.perm_cons_erase b).symm
def wayS(x:Tx)(p:DrK):List DrK:=[(p.1++[x],p.2),(p.1,p.2++[x])]
def waysT:List Tx->List DrK->List DrK
 |[],W=>W
 |x::l,W=>waysT l (W.flatMap (wayS x))
structure Wyp(ls:List Tx)(p:DrK):Prop where
 ne:p.1≠[]
 s1:p.1.Sublist ls
 s2:p.2.Sublist ls
 perm:(p.1++p.2).Perm ls
theorem Wyp.step{a:List Tx}{p:DrK}(h:Wyp a p)(x:Tx):∀q∈wayS x p,Wyp (a++[x]) q:=λq b=>by
 simp only[wayS,bo,hG,or_false]at b;rcases b with rfl|rfl
 .exact⟨by simp,h.s1.append (z_ _),h.s2.trans (List.sublist_append_left _ _),by show(p.1++[x]++p.2).Perm _;rw[lG];exact((wg (l₁:=[x]) (l₂:=p.2)).append_left p.1).trans (by rw[<-lG];exact h.perm.append_right _)⟩
 .exact⟨h.ne,h.s1.trans (List.sublist_append_left _ _),h.s2.append (z_ _),by show(p.1++(p.2++[x])).Perm _;rw[<-lG];exact h.perm.append_right _⟩
theorem ways_all:∀(l a:List Tx) (W:List DrK),(∀p∈W,Wyp a p)->∀p∈waysT l W,Wyp (a++l) p
 |[],a,W,h,p,c=>by rw[fQ];exact h p c
 |x::l,a,W,h,p,c=>by have:=ways_all l (a++[x]) (W.flatMap (wayS x)) (λq b=>by obtain⟨r,d,b⟩:=qT.mp b;exact(h r d).step x q b) p c;rwa[lG]at this
theorem ways_len:∀(l:List Tx) (W:List DrK),(waysT l W).length=W.length*2^l.length
 |[],W=>by simp[waysT]
 |x::l,W=>by
  rw[waysT,ways_len l];have:(W.flatMap (wayS x)).length=W.length*2:=by
   induction W with
   |nil=>rfl
   |cons p W a=>rw[qU,c0,a,cx];simp[wayS];lia
  rw[this,cx,qQ,Nat.mul_assoc,wm 2]
section
variable{a:Ad}
def drVs(W:List DrK):List PV:=W.map drV
def ptI:ak->R aH:=(aI (ji 3 (dL bF (ax (d2 nA (dV 4) (dL bF (ax (dV 2) (aB)))) (ax (dV 5) (aB))))) (ji 3 (dL bF (ax (dV 4) (ax (d2 nA (dV 5) (dL bF (ax (dV 2) (aB)))) (aB))))))
theorem add0_tx(l:List Tx)(x:Tx)(h:l.length<=100):nA (.tup (aj l)) (.tup [.str x])=aa (.tup (aj (l++[x]))):=by
 cases l with
 |nil=>rfl
 |cons y l=>show bf (.tup (.str y::aj l)) (.tup [.str x])=_;show(if(PV.str y::aj l)≠[]/\[PV.str x]≠[]/\(PV.str y::aj l).length + [PV.str x].length<=1000 then aa (PV.tup ((PV.str y::aj l)++[.str x]))else ae)=_;rw[if_pos ⟨by simp,by simp,by rw[cx,f_];simp at h ⊢;lia⟩];simp[aj]
theorem ptI_eq{v0 v1 X c b d g:PV}{lg:List PV}(j:nA c (.tup [X])=aa d)(i:nA b (.tup [X])=aa g)(l:lg.length+2<=bG):ptI [.val v0,.val v1,.val X,.own (.lst lg),.val c,.val b]=.ok .next [.val v0,.val v1,.val X,.own (.lst (lg++[.tup [d,b]]++[.tup [c,g]])),.val c,.val b]:=by
 have h:lg.length<bG:=∅
 have f:(lg++[PV.tup [d,b]]).length<bG:=by rw[c0,nM];lia
 unfold ptI;refine(dR (ε1:=[.val v0,.val v1,.val X,.own (.lst (lg++[.tup [d,b]])),.val c,.val b]) ?_).trans ?_
 .simp[ji,dL,ax,aB,dV,d2,bF,cB,R.bind,aJ,j,h]
 .generalize (lg++[PV.tup [d,b]])=LG at f;simp[ji,dL,ax,aB,dV,d2,bF,cB,R.bind,aJ,i,f]
theorem pt_inner{v0 v1:PV}(x:Tx):∀(W:List DrK) (lg:List PV) (d c:Slot),(∀p∈W,p.1.length<=100/\p.2.length<=100)->lg.length+2*W.length<=1000 -> ∃g j,fN 4 5 ptI (drVs W) [.val v0,.val v1,↥x,.own (.lst lg),d,c]=.ok .next [.val v0,.val v1,↥x,.own (.lst (lg++drVs (W.flatMap (wayS x)))),g,j]
 |[],lg,d,c,_,_=>⟨d,c,by simp[drVs,fN]⟩
 |p::W,lg,d,c,f,n=>by
  rw[cx]at n;obtain⟨u,s⟩:=f p (by simp);have o:=ptI_eq (v0:=v0) (v1:=v1) (lg:=lg) (add0_tx p.1 x u) (add0_tx p.2 x s) (by unfold bG;lia);obtain⟨i,h,l⟩:=pt_inner (v0:=v0) (v1:=v1) x W (lg++[.tup [.tup (aj (p.1++[x])),.tup (aj p.2)]]++[.tup [.tup (aj p.1),.tup (aj (p.2++[x]))]]) (.val (.tup (aj p.1))) (.val (.tup (aj p.2))) (λq m=>f q (by simp[m])) (by simp;lia);refine⟨i,h,?_⟩;show fN 4 5 ptI (.tup [.tup (aj p.1),.tup (aj p.2)]::drVs W) _=_;rw[fN];show(match ptI [.val v0,.val v1,↥x,.own (.lst lg),.val (.tup (aj p.1)),.val (.tup (aj p.2))]with
   |.ok .next b=>fN 4 5 ptI (drVs W) b
   |.ok .cont b=>fN 4 5 ptI (drVs W) b
   |.ok .brk b=>.ok .next b
   |r=>r)=_
  rw[o];dsimp only;rw[l];congr 3;simp[drVs,wayS,drV]
def ptB:ak->R aH:=(aI (fu 3 (dL fH (aB))) (aI (jC 4 5 (bp (dV 1)) ptI) (b8 1 (dM 3))))
theorem pt_outer{v0:PV}:∀(l:List Tx) (W:List DrK) (g f d c:Slot),(∀p∈W,p.1.length+l.length<=100/\p.2.length+l.length<=100)->W.length*2^l.length<=400 -> ∃n m w C,dw 2 ptB (aj l) [.val v0,.val (.lst (drVs W)),g,f,d,c]=.ok .next [.val v0,.val (.lst (drVs (waysT l W))),n,m,w,C]
 |[],W,g,f,d,c,_,_=>⟨g,f,d,c,rfl⟩
 |x::l,W,g,f,d,c,s,u=>by
  rw[cx]at s;rw[cx,qQ]at u;have I:1<=2^l.length:=Nat.one_le_two_pow;have H:W.length*2<=400:=by have:W.length*2<=W.length*(2^l.length*2):=Nat.mul_le_mul_left _ ∅;lia
  obtain⟨j,i,v⟩:=pt_inner (v0:=v0) (v1:=.lst (drVs W)) x W [] d c (λp o=>by have:=s p o;lia) (by simp;lia);rw[iy]at v;have D:(W.flatMap (wayS x)).length=W.length*2:=by have:=ways_len [x] W;simpa[waysT]using this
  obtain⟨B,A,z,y,E⟩:=pt_outer (v0:=v0) l (W.flatMap (wayS x)) (↥x) (.val (.lst (drVs (W.flatMap (wayS x))))) j i (λq h=>by obtain⟨p,o,h⟩:=qT.mp h;have:=s p o;simp only[wayS,bo,hG,or_false]at h;rcases h with rfl|rfl <;> simp <;> lia) (by rw[D,Nat.mul_assoc,wm 2];exact u);refine⟨B,A,z,y,?_⟩;have G:ptB [.val v0,.val (.lst (drVs W)),↥x,f,d,c]=.ok .next [.val v0,.val (.lst (drVs (W.flatMap (wayS x)))),↥x,.val (.lst (drVs (W.flatMap (wayS x)))),j,i]:=by
   unfold ptB;refine(dR (ε1:=[.val v0,.val (.lst (drVs W)),↥x,.own (.lst []),d,c]) (by rfl)).trans ?_;refine(dR (ε1:=[.val v0,.val (.lst (drVs W)),↥x,.own (.lst (drVs (W.flatMap (wayS x)))),j,i]) ?_).trans ?_
   .unfold jC;show(bp (dV 1) [.val v0,.val (.lst (drVs W)),↥x,.own (.lst []),d,c]).bind _=_;have F:bp (dV 1) [.val v0,.val (.lst (drVs W)),↥x,.own (.lst []),d,c]=.ok (drVs W) [.val v0,.val (.lst (drVs W)),↥x,.own (.lst []),d,c]:=rfl;rw[F];simp only[R.bind_ok];exact v
   .rfl
  show dw 2 ptB (.str x::aj l) _=_;rw[dw];show(match ptB [.val v0,.val (.lst (drVs W)),↥x,f,d,c]with
   |.ok .next b=>dw 2 ptB (aj l) b
   |.ok .cont b=>dw 2 ptB (aj l) b
   |.ok .brk b=>.ok .next b
   |r=>r)=_
  rw[G];exact E
theorem drs_of:∀{W:List DrK},(∀p∈W,p.1≠[])->drs (drVs W)=aa W
 |[],_=>rfl
 |p::W,h=>by
  show(dr1 (drV p)).bind _=_;have:dr1 (drV p)=aa p:=by show(eM (aj p.1)).bind _=_;rw[l_,fj,l_,fj,if_pos (h p (by simp))]
  rw[this,fj];show(drs (drVs W)).bind _=_;rw[drs_of λq b=>h q (by simp[b])];rfl
theorem uniqKD_mem(l b:List DrK)(x:DrK):x∈l.foldl (λb k=>if k∈b then b else b++[k]) b↔x∈b\/x∈l:=by
 induction l generalizing b with
 |nil=>simp
 |cons y l c=>
  rw[kM,c];by_cases h:y∈b
  .rw[if_pos h];constructor
   .rintro(z|z)
    .exact .inl z
    .exact .inr (by simp[z])
   .rintro(z|z)
    .exact .inl z
    .rcases bo.mp z with rfl|z
     .exact .inl h
     .exact .inr z
  .rw[if_neg h];simp[or_assoc]
theorem uniqKD_len(l b:List DrK):(l.foldl (λb k=>if k∈b then b else b++[k]) b).length<=b.length+l.length:=by
 induction l generalizing b with
 |nil=>simp
 |cons y l c=>
  rw[kM,cx];have:=c (if y∈b then b else b++[y]);split at this
  .rename_i h;rw[if_pos h];lia
  .rename_i h;rw[if_neg h];simp at this;lia
def ptL(x:Tx)(r:List Tx):List DrK:=(sortKD (uniqKD (waysT r [([x],[])]))).filter λp=>decide (0<p.2.length)
theorem ptL_mem{x:Tx}{r:List Tx}{p:DrK}:p∈ptL x r↔p∈waysT r [([x],[])]/\p.2≠[]:=by unfold ptL;rw[ka,show sortKD (uniqKD (waysT r [([x],[])]))=(uniqKD (waysT r [([x],[])])).mergeSort leKD from rfl,(tT _ leKD).mem_iff];unfold uniqKD;rw[uniqKD_mem,decide_eq_true_iff,ue];simp
theorem ptL_way{x:Tx}{r:List Tx}{p:DrK}(h:p∈ptL x r):Wyp (x::r) p/\p.2≠[]:=by obtain⟨d,c⟩:=ptL_mem.mp h;refine⟨ways_all r [x] [([x],[])] (λq b=>?_) p d,c⟩;rw[gP.mp b];exact⟨by simp,z_ _,List.nil_sublist _,by simp⟩
theorem ptL_len(x:Tx)(r:List Tx):(ptL x r).length<=2^r.length:=by unfold ptL;refine cM (wz _ _) ?_;rw[show sortKD (uniqKD (waysT r [([x],[])]))=(uniqKD (waysT r [([x],[])])).mergeSort leKD from rfl,(tT _ leKD).length_eq];have c:=uniqKD_len (waysT r [([x],[])]) [];have b:=ways_len r [([x],[])];unfold uniqKD;simp at c b;lia
def rsB:PV->Bool
 |.tup [_,.tup xs]=>decide (0<xs.length)
 |_=>am
theorem partings_eq(x:Tx)(r:List Tx)(N:r.length<=7):qj a [.val (.tup (aj (x::r)))]=.ok (.own (.lst (drVs (ptL x r)))) [.val (.tup (aj (x::r)))]:=by
 have D:2^r.length<=128:=z9 (by decide) N;obtain⟨m,l,h,g,E⟩:=pt_outer (v0:=.tup (aj (x::r))) r [([x],[])] .none .none .none .none (λp y=>by rw[gP.mp y];simp;lia) (by simp;lia);have O:∀p∈waysT r [([x],[])],p.1≠[]:=λp y=>(ways_all r [x] [([x],[])] (λq I=>by rw[gP.mp I];exact⟨by simp,z_ _,List.nil_sublist _,by simp⟩) p y).ne;have G:(uniqKD (waysT r [([x],[])])).length<=128:=by have C:=uniqKD_len (waysT r [([x],[])]) [];have c:=ways_len r [([x],[])];unfold uniqKD;simp at C c;lia
 have u:sortSetDP [.lst (drVs (waysT r [([x],[])]))]=aa (.lst (drVs (sortKD (uniqKD (waysT r [([x],[])]))))):=by show(drs _).bind _=_;rw[drs_of O,fj,if_pos ∅];rfl
 have s:zm (.tup (aj (x::r))) ae (aa 1)=aa (.tup (aj [x])):=by
  have B:dU (aj (x::r)) ae (aa ((1:Nat):Int))=(aj (x::r)).take 1:=FR _ 1;show(if HT.sIx (aj (x::r)).length 0 ae=0/\HT.sIx (aj (x::r)).length (aj (x::r)).length (aa 1)=(aj (x::r)).length then aa (PV.tup (aj (x::r)))else aa (PV.tup (dU (aj (x::r)) ae (aa 1))))=_;split
  .rename_i J;have C:=J.2;have c:=HT.sIx_nat (aj (x::r)).length (aj (x::r)).length 1;rw[show(aa ((1:Nat):Int))=aa 1 from rfl]at c;rw[c,f_,cx]at C;have H:r=[]:=pf ∅;rw[H]
  .show aa (PV.tup (dU (aj (x::r)) ae (aa ((1:Nat):Int))))=_;rw[B];rfl
 have o:gU (.tup (aj (x::r))) (aa 1) ae=aa (.tup (aj r)):=by
  have B:dU (aj (x::r)) (aa ((1:Nat):Int)) ae=(aj (x::r)).drop 1:=GJ _ 1;show(if HT.sIx (aj (x::r)).length 0 (aa 1)=0/\HT.sIx (aj (x::r)).length (aj (x::r)).length ae=(aj (x::r)).length then ae else aa (PV.tup (dU (aj (x::r)) (aa 1) ae)))=_;rw[if_neg]
  .show aa (PV.tup (dU (aj (x::r)) (aa ((1:Nat):Int)) ae))=_;rw[B];rfl
  .rintro⟨z,_⟩;have c:=HT.sIx_nat (aj (x::r)).length 0 1;rw[show(aa ((1:Nat):Int))=aa 1 from rfl]at c;rw[c,f_,cx]at z;lia
 have b:=kr (cap:=[]) (dt:=(dB (d2 (dQ λi j=>decide (j<i)) (dL bN (ax (d2 bv (dV 0) (dC (.int 1))) (aB))) (dC (.int 0))))) (de:=dV 0) (ε:=[.val (.tup (aj (x::r))),.val (.lst (drVs (waysT r [([x],[])]))),m,l,h,g]) rsB (λv=>v) (drVs (sortKD (uniqKD (waysT r [([x],[])]))))
  (by
   intro v F;obtain⟨p,_,rfl⟩:=bH.mp F;have w:bv (drV p) (.int 1)=aa (.tup (aj p.2)):=rfl;have A:bN [.tup (aj p.2)]=aa (.int (p.2.length:Nat)):=by simp[bN,f_]
   have M:rsB (drV p)=decide ((0:Int)<(p.2.length:Nat)):=by show decide (0<(aj p.2).length)=_;rw[f_];exact decide_eq_decide.mpr ∅
   rw[M];generalize ((p.2.length:Nat):Int)=PL at A;generalize aj p.2=P2 at w A;generalize drV p=DV at w;generalize drVs (waysT r [([x],[])])=WW;generalize aj (x::r)=XR;refine⟨?_,λ_=>?_⟩
   .simp![dO,dX,b7,w,A]
   .simp![dO,dX,b7]) []
 have K:((drVs (sortKD (uniqKD (waysT r [([x],[])])))).filter rsB).map (λv=>v)=drVs (ptL x r):=by rw[z7];unfold drVs ptL;rw[n9];congr 1;refine JW λp _=>?_;show decide (0<(aj p.2).length)=_;rw[f_]
 rw[iy,K]at b;have n:yaK a [.val (.tup (aj (x::r))),.none,.none,.none,.none,.none]=.ok (.ret (.own (.lst (drVs (ptL x r))))) [.val (.tup (aj (x::r))),.val (.lst (drVs (waysT r [([x],[])]))),m,l,h,g]:=by
  show aI _ (aI (λε=>dA (dS 2 _ ptB ε)) (oC (cY [] _ (dB (d2 (dQ λi j=>decide (j<i)) (dL bN (ax (d2 bv (dV 0) (dC (.int 1))) (aB))) (dC (.int 0)))) (dV 0)))) _=_;refine(dR (ε1:=[.val (.tup (aj (x::r))),.val (.lst (drVs [([x],[])])),.none,.none,.none,.none]) ?_).trans ?_
  .show _=R.ok aH.next [.val (.tup (aj (x::r))),.val (.lst [.tup [.tup (aj [x]),.tup []]]),.none,.none,.none,.none];generalize aj [x]=PX at s;generalize aj (x::r)=XR at s;simp![il,gA,jd,s]
  refine(LX (xs:=aj r) (ε1:=[.val (.tup (aj (x::r))),.val (.lst (drVs [([x],[])])),.none,.none,.none,.none]) ?_ E).trans ?_
  .have f:ir (.tup (aj r))=aa (aj r):=rfl;generalize drVs [([x],[])]=D0;generalize aj r=PR at o f;generalize aj (x::r)=XR at o;simp![bp,il,gA,jd,o,f]
  .have d:bp (dF (dL sortSetDP (ax (dV 1) (aB)))) [.val (.tup (aj (x::r))),.val (.lst (drVs (waysT r [([x],[])]))),m,l,h,g]=.ok (drVs (sortKD (uniqKD (waysT r [([x],[])])))) [.val (.tup (aj (x::r))),.val (.lst (drVs (waysT r [([x],[])]))),m,l,h,g]:=by
    have f:ir (.lst (drVs (sortKD (uniqKD (waysT r [([x],[])])))))=aa (drVs (sortKD (uniqKD (waysT r [([x],[])])))):=rfl;generalize drVs (sortKD (uniqKD (waysT r [([x],[])])))=SU at u f;generalize drVs (waysT r [([x],[])])=WW at u;generalize aj (x::r)=XR;simp![bp,u,f]
   generalize drVs (sortKD (uniqKD (waysT r [([x],[])])))=SU at d b;generalize drVs (waysT r [([x],[])])=WW at d b;generalize drVs (ptL x r)=PT at b;generalize aj (x::r)=XR at d b;generalize (dB (d2 (dQ λi j=>decide (j<i)) (dL bN (ax (d2 bv (dV 0) (dC (.int 1))) (aB))) (dC (.int 0))))=DT at b;generalize L:(dV 0:ak->R PV)=D0 at b;show oC (cY [] (bp (dF (dL sortSetDP (ax (dV 1) (aB))))) DT D0) _=_;generalize bp (dF (dL sortSetDP (ax (dV 1) (aB))))=DI at d;simp[oC,cY,d,b,R.bind]
 unfold qj;generalize yaK a=DD at n ⊢;generalize drVs (ptL x r)=PT at n ⊢;generalize aj (x::r)=XR at n ⊢;simp[cb,gW,b_,bK,n,back,iX,aJ,R.bind]
end
end Sh
namespace Mx
open L2
theorem wins_at{z:Tx}{w k:Nat}(a:k<w)(d:w<=z.length):(aT z w).map (λx=>x.getD k 0)=(z.drop k).take (z.length+1-w):=by
 rw[oX z w ∅,cJ];refine t8 λi=>?_;rw[g_,JF];by_cases c:i<z.length+1-w
 .rw[zA c,if_pos c];have b:i+k<z.length:=∅
  simp[JF,Jx,a,b,Nat.add_comm k i]
 .rw[if_neg c,mP (by simpa using c)];rfl
theorem take_tells{t u:Tx}{w:Nat}(f:t.length=u.length)(l:w<=t.length)(r:1<=w)(o:(aT t w).Perm (aT u w))(h:t.take (t.length+1-w)=u.take (t.length+1-w)):t=u:=by
 have d:∀k,k<w->t.take (t.length+1-w+k)=u.take (t.length+1-w+k):=by
  intro k
  induction k with
  |zero=>intro _;exact h
  |succ k b=>
   intro v;have b:=b ∅;have p:=o.map (λx=>x.getD (k+1) 0);rw[wins_at ∅ l,wins_at ∅ ∅,<-f]at p;generalize s:t.length+1-w=n at *;obtain⟨m,rfl⟩:∃m,n=m+1:=⟨n-1,∅⟩
   have i:∀z:Tx,z.length=t.length->(z.drop (k+1)).take (m+1)=(z.drop (k+1)).take m++[z.getD (m+1+k) 0]:=λz j=>by
    have c:m<(z.drop (k+1)).length:=by rw[lF];lia
    rw[zP c,zO];congr 2;rw[JZ,eF ∅,zW];congr 1;lia
   rw[i t rfl,i u f.symm]at p;have q:(t.drop (k+1)).take m=(u.drop (k+1)).take m:=by have:=congrArg (List.drop (k+1)) b;rw[List.drop_take,List.drop_take]at this;rw[show m+1+k-(k+1)=m by lia]at this;exact this
   rw[q,List.perm_append_left_iff]at p;have g:t.getD (m+1+k) 0=u.getD (m+1+k) 0:=by simpa using p
   have c:m+1+k<t.length:=∅
   have a:m+1+k<u.length:=∅
   rw[show m+1+(k+1)=m+1+k+1 by lia,zP c,zP a,b];congr 2;rw[JZ,JZ,eF c,eF a]at g;exact g
 have:=d (w-1) ∅;rw[show t.length+1-w+(w-1)=t.length by lia,wj]at this;rw[this,f,wj]
end Mx
namespace Sh
open L2 Pu Mx
theorem nodup_mapO{l:List Tx}{f:Tx->Tx}(h:l.Nodup)(d:∀x∈l,∀y∈l,f x=f y->x=y):(l.map f).Nodup:=by
 induction l with
 |nil=>simp
 |cons x l i=>rw[cS,jH];have g:=jH.mp h;refine⟨λj=>?_,i g.2 λa n b m=>d a (dy _ n) b (dy _ m)⟩;obtain⟨y,c,e⟩:=bH.mp j;exact g.1 (d y (dy _ c) x eC e ▸ c)
theorem texts_pow{w:Nat}{a:List Tx}(d:1<=w)(g:1<=a.length)(h:∀x∈a,x.length=w/\∀c∈x,c∈bU):(cG w a).length<=3^a.length:=by
 have f:∀z∈cG w a,z.length=w-1+a.length/\∀c∈z,c∈bU:=λz b=>xF d g h b;have i:∀z∈cG w a,(aT z w).Perm a:=λz b=>by rw[sY d g h,ka]at b;exact DM.mp b.2
 have n:((cG w a).map λz=>z.take a.length).Nodup:=by refine nodup_mapO (G9 d g h) λz b u j e=>?_;have l:=(f z b).1;have q:=(f u j).1;exact take_tells ∅ ∅ d ((i z b).trans (i u j).symm) (by rw[show z.length+1-w=a.length by lia];exact e)
 have:=len_sub (m:=dJ a.length) n λx o=>by obtain⟨z,b,rfl⟩:=bH.mp o;have l:=(f z b).1;exact(mx _ _).mpr ⟨by rw[mF];lia,λc p=>(f z b).2 c (DL p)⟩
 rw[bX,y_]at this;exact this
def kyT(x y:Tx):List Tx:=[if y<x then y else x,if x<y then y else x]
def fdP(a:List (List Tx)):List (fZ×PV):=a.map λk=>(gx k,.bl ag)
def addKF(a:List (List Tx))(k:List Tx):List (List Tx):=if k∈a then a else a++[k]
theorem txKey_ii{x y:List Tx}:gx x=gx y↔x=y:=by
 constructor
 .intro h;have a:=A5 x;rw[h,A5]at a;exact(c8 a).symm
 .rintro rfl;rfl
theorem fd_put(b:List (List Tx))(k:List Tx):rK (fdP b) (gx k) (.bl ag)=fdP (addKF b k):=by
 have h:((fdP b).any λc=>decide (c.1=gx k))=decide (k∈b):=by
  rw[kc,wA,decide_eq_true_iff];constructor
  .rintro⟨q,f,e⟩;obtain⟨y,d,rfl⟩:=bH.mp f;rw[<-txKey_ii.mp (of_decide_eq_true e)];exact d
  .intro a;exact⟨_,bH.mpr ⟨k,a,rfl⟩,by simp⟩
 unfold rK addKF;rw[h];by_cases a:k∈b
 .rw[if_pos (decide_eq_true a),if_pos a];unfold fdP;rw[cJ];refine nQ λy _=>?_;show(if gx y=gx k then(gx y,PV.bl ag)else(gx y,.bl ag))=_;split <;> rfl
 .rw[if_neg (by rw[decide_eq_false a];decide),if_neg a];simp[fdP]
theorem addKF_mem{a:List (List Tx)}{k y:List Tx}:y∈addKF a k↔y∈a\/y=k:=by
 unfold addKF;split
 .rename_i h;exact⟨.inl,λz=>z.elim id λe=>e ▸ h⟩
 .simp
theorem addKF_len(a:List (List Tx))(k:List Tx):(addKF a k).length<=a.length+1:=by unfold addKF;split <;> simp
theorem addKF_nodup{b:List (List Tx)}(h:b.Nodup)(k:List Tx):(addKF b k).Nodup:=by
 unfold addKF;split
 .exact h
 .rename_i d;exact Dg.mpr ⟨h,by simp,λu c z a e=>by simp at a;subst a;subst e;exact d c⟩
structure Fd(P:List Tx->Prop)(fd fd':List (List Tx))(n:Nat):Prop where
 mem:∀y,y∈fd'↔y∈fd\/P y
 len:fd'.length<=fd.length+n
 nd:fd.Nodup->fd'.Nodup
section
variable{a:Ad}
def prI(C:PV):ak->R aH:=(yc 1 (dL bF (ax (dL uR (ax (dV 5) (ax (dV 6) (aB)))) (ax (dL vm (ax (dV 5) (ax (dV 6) (aB)))) (aB)))) (dC C))
theorem prI_eq(b:List (List Tx))(n:b.length<bG)(x y:Tx)(i h g f:Slot):prI (.bl ag) [i,.own (.dT (fdP b)),h,g,f,↥x,↥y]=.ok .next [i,.own (.dT (fdP (addKF b (kyT x y)))),h,g,f,↥x,↥y]:=by
 have l:uR [.str x,.str y]=aa (.str (if y<x then y else x)):=rfl;have j:vm [.str x,.str y]=aa (.str (if x<y then y else x)):=rfl;have d:vH (.tup [.str (if y<x then y else x),.str (if x<y then y else x)])=aa (gx (kyT x y)):=rfl;have c:=fd_put b (kyT x y);have m:(fdP b).length<bG:=by unfold fdP;rw[bX];exact n
 generalize fdP (addKF b (kyT x y))=F2 at c;generalize gx (kyT x y)=KK at d c;generalize PV.str (if y<x then y else x)=M1 at l d;generalize PV.str (if x<y then y else x)=M2 at j d;generalize fdP b=F1 at c m;simp![prI,yc,ni,l,j,d,m,c]
theorem pr_inner(x:Tx)(l j i h:Slot):∀(d:List Tx) (c:List (List Tx)) (g:Slot),c.length+d.length<=900000 -> ∃f n,Fd (λk=>∃u∈d,k=kyT x u) c f d.length/\dw 6 (prI (.bl ag)) (aj d) [l,.own (.dT (fdP c)),j,i,h,↥x,g]=.ok .next [l,.own (.dT (fdP f)),j,i,h,↥x,n]
 |[],c,g,_=>⟨c,g,⟨λy=>by simp,by simp,id⟩,rfl⟩
 |u::d,c,g,o=>by
  rw[cx]at o;have q:=addKF_len c (kyT x u);obtain⟨f,n,m,p⟩:=pr_inner x l j i h d (addKF c (kyT x u)) (↥u) ∅;refine⟨f,n,⟨λy=>?_,by have:=m.len;rw[cx];lia,λz=>m.nd (addKF_nodup z _)⟩,?_⟩
  .rw[m.mem,addKF_mem];simp[or_assoc]
  .show dw 6 (prI (.bl ag)) (.str u::aj d) _=_;rw[dw];show(match prI (.bl ag) [l,.own (.dT (fdP c)),j,i,h,↥x,↥u]with
    |.ok .next b=>dw 6 (prI (.bl ag)) (aj d) b
    |.ok .cont b=>dw 6 (prI (.bl ag)) (aj d) b
    |.ok .brk b=>.ok .next b
    |r=>r)=_
   rw[prI_eq c (by unfold bG;lia)];exact p
def prM(C:PV):ak->R aH:=(dS 6 (bp (dV 4)) (prI C))
theorem pr_mid(b:List Tx)(i h g:Slot):∀(xs:List Tx) (d:List (List Tx)) (l f:Slot),d.length+xs.length*b.length<=900000 -> ∃j v D,Fd (λk=>∃x∈xs,∃u∈b,k=kyT x u) d j (xs.length*b.length)/\dw 5 (prM (.bl ag)) (aj xs) [i,.own (.dT (fdP d)),h,g,.val (.lst (aj b)),l,f]=.ok .next [i,.own (.dT (fdP j)),h,g,.val (.lst (aj b)),v,D]
 |[],d,l,f,_=>⟨d,l,f,⟨λy=>by simp,by simp,id⟩,rfl⟩
 |x::xs,d,l,f,w=>by
  rw[cx,tN]at w;obtain⟨q,p,o,C⟩:=pr_inner x i h g (.val (.lst (aj b))) b d f ∅;have E:=o.len;obtain⟨f2,s,m,n,B⟩:=pr_mid b i h g xs q (↥x) p ∅;refine⟨f2,s,m,⟨λy=>?_,by have:=n.len;rw[cx,tN];lia,λz=>n.nd (o.nd z)⟩,?_⟩
  .rw[n.mem,o.mem];simp[or_assoc]
  .have A:prM (.bl ag) [i,.own (.dT (fdP d)),h,g,.val (.lst (aj b)),↥x,f]=.ok .next [i,.own (.dT (fdP q)),h,g,.val (.lst (aj b)),↥x,p]:=yE (xs:=aj b) rfl C;show dw 5 (prM (.bl ag)) (.str x::aj xs) _=_;rw[dw];show(match prM (.bl ag) [i,.own (.dT (fdP d)),h,g,.val (.lst (aj b)),↥x,f]with
    |.ok .next c=>dw 5 (prM (.bl ag)) (aj xs) c
    |.ok .cont c=>dw 5 (prM (.bl ag)) (aj xs) c
    |.ok .brk c=>.ok .next c
    |r=>r)=_
   rw[A];exact B
def prB(a:Ad)(C:PV):ak->R aH:=(aI (b8 4 (bd (aZ (oY a) (gV (dL bF (ax (d2 bv (dV 0) (dC (.int 0))) (ax (dV 3) (aB)))) (Pu.b9))))) (dS 5 (bp (bd (aZ (oY a) (gV (dL bF (ax (d2 bv (dV 0) (dC (.int 0))) (ax (dV 2) (aB)))) (Pu.b9))))) (prM C)))
theorem pr_call{G:ak->R Slot}{V b P:PV}{l:List PV}{i:Nat}{ε:ak}(m:ε[0]?=aa (.val V))(h:ε[i]?=aa (.val P))(g:bv V (.int 0)=aa b)(j:G [.val (.tup [b,P])]=.ok (.own (.lst l)) [.val (.tup [b,P])]):bd (aZ G (gV (dL bF (ax (d2 bv (dV 0) (dC (.int 0))) (ax (dV i) (aB)))) (Pu.b9))) ε=.ok (.lst l) ε:=by
 have c:dV 0 ε=.ok V ε:=by unfold dV;rw[m]
 have f:dV i ε=.ok P ε:=by unfold dV;rw[h]
 have d:dL bF (ax (d2 bv (dV 0) (dC (.int 0))) (ax (dV i) (aB))) ε=.ok (.tup [b,P]) ε:=by simp[dL,ax,aB,d2,dC,c,f,g,R.bind,aJ,bF]
 generalize dL bF (ax (d2 bv (dV 0) (dC (.int 0))) (ax (dV i) (aB)))=DT at d;simp[bd,aZ,gV,Pu.b9,d,j,R.bind,aJ,e_,fz,cz,d4,fG,tm,oJ]
theorem Wyp.good{w:Nat}{ls:List Tx}(g:Good bU w ls){m:List Tx}(c:m.Sublist ls)(d:m≠[]):Good bU w m:=⟨λx b=>g.len x (c.mem b),λx b=>g.abc x (c.mem b),ue.mpr d,cM c.length_le g.few⟩
theorem pr_outer{w:Nat}{c:List Tx}(g:Good bU w c)(o:1<=w)(D:w<=4)(H:c.Pairwise (λa b=>cQ a b=ag))(h6:c.length<=6):∀(L:List DrK) (d:List (List Tx)) (A v m j h:Slot),(∀p∈L,Wyp c p/\p.2≠[])->d.length+L.length*729<=900000 -> ∃s F E Z l6 fk,Fd (λk=>∃p∈L,∃x∈cG w p.1,∃u∈cG w p.2,k=kyT x u) d s (L.length*729)/\fN 2 3 (prB a (.bl ag)) (drVs L) [.val (aQ w c),.own (.dT (fdP d)),A,v,m,j,h]=.ok .next [.val (aQ w c),.own (.dT (fdP s)),F,E,Z,l6,fk]
 |[],d,A,v,m,j,h,_,_=>⟨d,A,v,m,j,h,⟨λy=>by simp,by simp,id⟩,rfl⟩
 |p::L,d,A,v,m,j,h,N,hl=>by
  rw[cx,tN]at hl;obtain⟨n,cW⟩:=N p (by simp);have C:=Wyp.good g n.s1 n.ne;have B:=Wyp.good g n.s2 cW;have r1:=H.sublist n.s1;have r2:=H.sublist n.s2;have Y:=Ik (a:=a) C o D r1;have X:=Ik (a:=a) B o D r2;have b1:=texts_pow o C.some λx l=>⟨C.len x l,C.abc x l⟩
  have b2:=texts_pow o B.some λx l=>⟨B.len x l,B.abc x l⟩
  have Ec:(cG w p.1).length*(cG w p.2).length<=729:=by refine cM (zE b1 b2) ?_;rw[<-Ds];have:=n.perm.length_eq;rw[c0]at this;exact cM (z9 (by decide) (show p.1.length+p.2.length<=6 by lia)) (by decide)
  obtain⟨O,M,K,J,h2⟩:=pr_mid (cG w p.2) (.val (aQ w c)) (.val (.tup (aj p.1))) (.val (.tup (aj p.2))) (cG w p.1) d j h ∅;have wN:=J.len;obtain⟨f2,W,T,S,Q,P,I,h4⟩:=pr_outer g o D H h6 L O (.val (.tup (aj p.1))) (.val (.tup (aj p.2))) (.val (.lst (aj (cG w p.2)))) M K (λq hq=>N q (by simp[hq])) ∅;refine⟨f2,W,T,S,Q,P,⟨λy=>?_,by have:=I.len;rw[cx,tN];lia,λz=>I.nd (J.nd z)⟩,?_⟩
  .rw[I.mem,J.mem];simp[or_assoc]
  .have l:bv (aQ w c) (.int 0)=aa (.int w):=rfl;have hb:prB a (.bl ag) [.val (aQ w c),.own (.dT (fdP d)),.val (.tup (aj p.1)),.val (.tup (aj p.2)),m,j,h]=.ok .next [.val (aQ w c),.own (.dT (fdP O)),.val (.tup (aj p.1)),.val (.tup (aj p.2)),.val (.lst (aj (cG w p.2))),M,K]:=by unfold prB;refine(dR (ε1:=[.val (aQ w c),.own (.dT (fdP d)),.val (.tup (aj p.1)),.val (.tup (aj p.2)),.val (.lst (aj (cG w p.2))),j,h]) (Cb (pr_call (i:=3) rfl rfl l X))).trans ?_;refine yE (xs:=aj (cG w p.1)) (ε1:=[.val (aQ w c),.own (.dT (fdP d)),.val (.tup (aj p.1)),.val (.tup (aj p.2)),.val (.lst (aj (cG w p.2))),j,h]) ?_ h2;have hc:=pr_call (G:=oY a) (i:=2) (ε:=[.val (aQ w c),.own (.dT (fdP d)),.val (.tup (aj p.1)),.val (.tup (aj p.2)),.val (.lst (aj (cG w p.2))),j,h]) rfl rfl l Y;unfold bp;rw[hc];rfl
   show fN 2 3 (prB a (.bl ag)) (.tup [.tup (aj p.1),.tup (aj p.2)]::drVs L) _=_;rw[fN];show(match prB a (.bl ag) [.val (aQ w c),.own (.dT (fdP d)),.val (.tup (aj p.1)),.val (.tup (aj p.2)),m,j,h]with
    |.ok .next f=>fN 2 3 (prB a (.bl ag)) (drVs L) f
    |.ok .cont f=>fN 2 3 (prB a (.bl ag)) (drVs L) f
    |.ok .brk f=>.ok .next f
    |r=>r)=_
   rw[hb];exact h4
def shB(a:Ad)(c MS:PV):ak->R aH:=(dq (dB (d2 (dQ λi j=>decide (j<i)) (dL bN (ax (d2 bv (dV 0) (dC (.int 1))) (aB))) (dC c))) (uU (.ref a.Full) (λb=>b7 ((dC MS) b))) (eU))
theorem shv_def:∃MS,sj a=cb 1 [] (b_ 0 (aI (lw (aZ (p8 a) (gV (dV 0) (Pu.b9)))) (shB a (.int 6) MS))):=⟨_,rfl⟩
theorem shared_view{w:Nat}{b:List Tx}(g:p8 a [.val (aQ w b)]=.ok (.val .non) [.val (aQ w b)]):sj a [.val (aQ w b)]=if 6<b.length then .er (.ref a.Full) [.val (aQ w b)] else .ok (.val .non) [.val (aQ w b)]:=by
 obtain⟨MS,e⟩:=shv_def (a:=a);rw[e];have c:bv (aQ w b) (.int 1)=aa (.tup (aj b)):=rfl;have d:bN [.tup (aj b)]=aa (.int (b.length:Nat)):=by simp[bN,f_]
 by_cases h:6<b.length
 .have f:(6:Int)<(b.length:Nat):=∅
  rw[if_pos h];generalize ((b.length:Nat):Int)=LN at d f;generalize aj b=PL at d c;generalize aQ w b=VV at g c;simp![shB,g,c,d,f,uU,b7]
 .have f:¬(6:Int)<(b.length:Nat):=∅
  rw[if_neg h];generalize ((b.length:Nat):Int)=LN at d f;generalize aj b=PL at d c;generalize aQ w b=VV at g c;simp![shB,g,c,d,f]
def pairB(a:Ad):ak->R aH:=(aI (fu 1 B5) (aI (λb=>dA (jC 2 3 (bp (bd (aZ (qj a) (gV (d2 bv (dV 0) (dC (.int 1))) (Pu.b9))))) (prB a (.bl ag)) b)) (dj (dF (qc 1)))))
theorem pairs_def:oQ a=cb 1 [] (b_ 6 (aI (lw (aZ (sj a) (gV (dV 0) (Pu.b9)))) (pairB a))):=rfl
theorem pairs_er{x:PV}{c:af}(h:sj a [.val x]=.er (.ref c) [.val x]):oQ a [.val x]=.er (.ref c) [.val x]:=by rw[pairs_def];generalize pairB a=PB;simp![h]
theorem pairs_eq{w:Nat}{d:List Tx}(g:Good bU w d)(i:1<=w)(E:w<=4)(H:d.Pairwise (λa b=>cQ a b=ag))(W:d.length<=6):∃(x:Tx) (r:List Tx) (c:List (List Tx)),d=x::r/\c.Nodup/\c.length<=100000/\(∀k,k∈c↔∃p∈ptL x r,∃t∈cG w p.1,∃u∈cG w p.2,k=kyT t u)/\oQ a [.val (aQ w d)]=.ok (.val (.lst ((gX c).map br))) [.val (aQ w d)]:=by
 have X:=g.some;obtain⟨x,r,rfl⟩:∃x r,d=x::r:=by
  cases d with
  |nil=>simp at X
  |cons x r=>exact⟨x,r,rfl⟩
 rw[cx]at W;have Q:2^r.length<=32:=z9 (by decide) (show r.length<=5 by lia);have cV:=ptL_len x r;have z:=shared_view (a:=a) (B6 (a:=a) (g.vw i E H));rw[if_neg (by rw[cx];lia)]at z;have f:=partings_eq (a:=a) x r ∅;obtain⟨c,o,n,m,l,j,D,L⟩:=pr_outer (a:=a) g i E H (by rw[cx];lia) (ptL x r) [] .none .none .none .none .none (λp C=>ptL_way C) (by simp;lia);have F:∀k,k∈c↔∃p∈ptL x r,∃t∈cG w p.1,∃u∈cG w p.2,k=kyT t u:=λk=>by rw[D.mem];simp
 have Z:∀k∈c,k≠[]/\∀y∈k,y.length<=bG:=λk S=>by obtain⟨p,C,t,P,u,O,rfl⟩:=(F k).mp S;obtain⟨B,Y⟩:=ptL_way C;have v:=Wyp.good g B.s1 B.ne;have s:=Wyp.good g B.s2 Y;have lt:=(xF i v.some (λx h=>⟨v.len x h,v.abc x h⟩) P).1;have lu:=(xF i s.some (λx h=>⟨s.len x h,s.abc x h⟩) O).1;have:=v.few;have:=s.few;refine⟨by simp[kyT],λy G=>?_⟩;simp only[kyT,bo,hG,or_false]at G;unfold bG;rcases G with rfl|rfl <;> split <;> lia
 have N:c.length<=100000:=by have:=D.len;have h2:(ptL x r).length*729<=32*729:=J0 _ ∅;simp at this;lia
 have M:x_ (fdP c)=aa (.lst ((gX c).map br)):=by unfold x_ fdP;rw[Qt,fj,if_pos ⟨∅,Z⟩]
 refine⟨x,r,c,rfl,D.nd (by simp),N,F,?_⟩;have A:bv (aQ w (x::r)) (.int 1)=aa (.tup (aj (x::r))):=rfl;have q:pairB a [.val (aQ w (x::r)),.none,.none,.none,.none,.none,.none]=.ok (.ret (.val (.lst ((gX c).map br)))) [.val (aQ w (x::r)),.own (.dT (fdP c)),o,n,m,l,j]:=by
  unfold pairB;refine(dR (ε1:=[.val (aQ w (x::r)),.own (.dT (fdP [])),.none,.none,.none,.none,.none]) (by rfl)).trans ?_;refine(dR (d1:=λK=>dA (jC 2 3 (bp (bd (aZ (qj a) (gV (d2 bv (dV 0) (dC (.int 1))) (Pu.b9))))) (prB a (.bl ag)) K)) (ε1:=[.val (aQ w (x::r)),.own (.dT (fdP c)),o,n,m,l,j]) ?_).trans ?_
  .show dA (jC 2 3 _ _ _)=_;have T:bp (bd (aZ (qj a) (gV (d2 bv (dV 0) (dC (.int 1))) (Pu.b9)))) [.val (aQ w (x::r)),.own (.dT (fdP [])),.none,.none,.none,.none,.none]=.ok (drVs (ptL x r)) [.val (aQ w (x::r)),.own (.dT (fdP [])),.none,.none,.none,.none,.none]:=by have J:ir (.lst (drVs (ptL x r)))=aa (drVs (ptL x r)):=rfl;generalize drVs (ptL x r)=PT at f J;generalize aj (x::r)=XR at f A;generalize aQ w (x::r)=VV at A;generalize fdP []=F0;simp![bp,A,f,J]
   unfold jC;rw[T];simp only[R.bind_ok];rw[L];rfl
  .have I:qc 1 [.val (aQ w (x::r)),.own (.dT (fdP c)),o,n,m,l,j]=.ok (.lst ((gX c).map br)) [.val (aQ w (x::r)),.own (.dT (fdP c)),o,n,m,l,j]:=by
    unfold qc;show(aJ (aa (fdP c)) _).bind _=_;simp only[cP,R.bind_ok];rw[M];rfl
   generalize qc 1=DS at I;simp[dj,dF,I,R.bind,oJ,aJ]
 rw[pairs_def];generalize pairB a=PB at q;generalize ((gX c).map br)=SL at q ⊢;generalize aQ w (x::r)=VV at q z ⊢;simp![z,q]
end
structure Trail(w:Nat)(ws:List Tx)(t:Tx):Prop where
 long:w<=t.length
 abc:∀c∈t,c∈bU
 sub:unD w ws t=ag
def kids(w:Nat)(ws:List Tx)(t:Tx):List Tx:=(bU.map λc=>t++[c]).filter (unD w ws)
def GG:Nat->Nat
 |0=>1
 |k+1=>1+3*GG k
theorem GG_pos:∀k,1<=GG k
 |0=>a8 _
 |k+1=>by unfold GG;lia
def phi(w:Nat)(a:List Tx)(t:Tx):Nat:=GG (a.length-(t.length+1-w))
def phis(w:Nat)(a:List Tx)(Q:List Tx):Nat:=(Q.map (phi w a)).sum
theorem under_len{w:Nat}{a:List Tx}{t:Tx}(b:1<=w)(h:unD w a t=ag):t.length+1-w<=a.length:=by have c:=FY.mp h;rw[<-yW b];obtain⟨g,f,d⟩:=pick_sub a (aT t w) c;rw[<-d.length_eq];exact f.length_le
theorem kids_mem{w:Nat}{b:List Tx}{t u:Tx}:u∈kids w b t↔(∃c∈bU,u=t++[c])/\unD w b u=ag:=by
 unfold kids;rw[ka,bH];constructor
 .rintro⟨⟨c,a,rfl⟩,h2⟩;exact⟨⟨c,a,rfl⟩,h2⟩
 .rintro⟨⟨c,a,rfl⟩,h2⟩;exact⟨⟨c,a,rfl⟩,h2⟩
theorem kids_trail{w:Nat}{b:List Tx}{t u:Tx}(f:Trail w b t)(h:u∈kids w b t):Trail w b u:=by
 obtain⟨⟨c,g,rfl⟩,i⟩:=kids_mem.mp h;refine⟨by simp;have:=f.long;lia,λd a=>?_,i⟩;rcases fO.mp a with a|a
 .exact f.abc d a
 .rw[gP.mp a];exact g
theorem kids_phi{w:Nat}(i:1<=w){a:List Tx}{t:Tx}(n:Trail w a t):phis w a (kids w a t)+1<=phi w a t:=by
 have f:∀u∈kids w a t,phi w a u+0<=GG (a.length-(t.length+1-w)-1)/\1<=a.length-(t.length+1-w):=λu b=>by obtain⟨⟨c,_,rfl⟩,p⟩:=kids_mem.mp b;have o:=under_len i p;have:=n.long;rw[c0,nM]at o;refine⟨?_,∅⟩;unfold phi;rw[c0,nM,show a.length-(t.length+1+1-w)=a.length-(t.length+1-w)-1 by lia];lia
 have s:(kids w a t).length<=3:=by unfold kids;exact cM (wz _ _) (by simp[bU])
 cases g:kids w a t with
 |nil=>have:=GG_pos (a.length-(t.length+1-w));unfold phis phi;simp;exact this
 |cons u r=>
  have q:=(f u (by rw[g];simp)).2;have d:∀(l:List Tx),(∀u∈l,phi w a u<=GG (a.length-(t.length+1-w)-1))->phis w a l<=l.length*GG (a.length-(t.length+1-w)-1):=λl=>by
   induction l with
   |nil=>intro _;simp[phis]
   |cons x l m=>intro h;have v:=m λu b=>h u (by simp[b]);have B:=h x (by simp);unfold phis at v ⊢;rw[cS,List.sum_cons,cx,tN];lia
  rw[<-g];have A:=d (kids w a t) λu b=>by have:=(f u b).1;lia
  have z:(kids w a t).length*GG (a.length-(t.length+1-w)-1)<=3*GG (a.length-(t.length+1-w)-1):=J0 _ s;have y:phi w a t=1+3*GG (a.length-(t.length+1-w)-1):=by
   unfold phi;obtain⟨k,j⟩:∃k,a.length-(t.length+1-w)=k+1:=⟨_,(Nat.sub_add_cancel q).symm⟩
   rw[j];rfl
  lia
theorem phis_app(w:Nat)(a Q R:List Tx):phis w a (Q++R)=phis w a Q+phis w a R:=by unfold phis;rw[mM,List.sum_append_nat]
theorem phis_len(w:Nat)(a:List Tx):∀Q:List Tx,Q.length<=phis w a Q
 |[]=>kg _
 |q::Q=>by have:=phis_len w a Q;have b:=GG_pos (a.length-(q.length+1-w));show Q.length+1<=phi w a q+phis w a Q;unfold phi;lia
def restT(w:Nat)(ws:List Tx)(t:Tx):List Tx:=less ws (aK (aT t w))
def trP(w:Nat)(ws:List Tx)(t:Tx):PV:=df (t,restT w ws t)
theorem rest_perm{w:Nat}{a:List Tx}{t:Tx}(h:unD w a t=ag):(restT w a t++aT t w).Perm a:=by
 have b:=FY.mp h;have:=less_perm (aK (aT t w)) a λx=>by rw[(d9 _).count_eq];exact b x
 exact((d9 _).symm.append_left _).trans this
theorem less_sub:∀(l m:List Tx),(less m l).Sublist m
 |[],m=>z_ m
 |y::l,m=>(less_sub l (m.erase y)).trans List.erase_sublist
theorem rest_sub(w:Nat)(ws:List Tx)(t:Tx):(restT w ws t).Sublist ws:=less_sub _ _
section
variable{a:Ad}
theorem rem_loop6(i g f d c:Slot):∀(l m:List Tx) (n:Slot),(∀x,l.count x<=m.count x)->∃o,dw 6 (mj 5 (dV 6)) (aj l) [i,g,f,d,c,.own (.lst (aj m)),n]=.ok .next [i,g,f,d,c,.own (.lst (aj (less m l))),o]
 |[],m,n,_=>⟨n,rfl⟩
 |y::l,m,n,h=>by
  have p:y∈m:=by have:=h y;rw[wB]at this;exact wC.mp ∅
  obtain⟨o,q⟩:=rem_loop6 i g f d c l (m.erase y) (↥y) λx=>by
   have:=h x;by_cases e:y=x
   .subst e;rw[DQ];rw[wB]at this;lia
   .rw[DZ (λz=>e z.symm)];rw[D1 e]at this;exact this
  have j:eM (aj m)=aa m:=l_ m;have s:mj 5 (dV 6) [i,g,f,d,c,.own (.lst (aj m)),↥y]=.ok .next [i,g,f,d,c,.own (.lst (aj (m.erase y))),↥y]:=by generalize aj m=MM at j;simp![mj,j,p]
  refine⟨o,?_⟩;have u:aj (y::l)=.str y::aj l:=rfl;rw[u,dw];show(match mj 5 (dV 6) [i,g,f,d,c,.own (.lst (aj m)),↥y]with
   |.ok .next b=>dw 6 (mj 5 (dV 6)) (aj l) b
   |.ok .cont b=>dw 6 (mj 5 (dV 6)) (aj l) b
   |.ok .brk b=>.ok .next b
   |r=>r)=_
  rw[s];exact q
def trC:ak->R Bool:=(dB (rJ (Pu.eqT ag) 3 (dF (dL fH (aB)))))
theorem trC_eq(Q:List Tx)(i h g f d c:Slot):trC [i,h,g,.own (.lst (aj Q)),f,d,c]=.ok (decide (Q≠[])) [i,h,g,.own (.lst (aj Q)),f,d,c]:=by
 have b:=Im ag Q [];rw[show aj []=[] from rfl]at b;have j:(ag^^decide (Q=[]))=decide (Q≠[]):=by by_cases z:Q=[] <;> simp[z]
 rw[j]at b;generalize decide (Q≠[])=B at b;generalize aj Q=PQ at b;simp![trC,rJ,b]
def exD1(a:Ad):ak->R PV:=(dF (cY [4,0,1] (bp (dC (.str [97,98,99]))) (dB (bd (aZ (kI a) (gV (d2 bf (dV 1) (dV 0)) (gV (dV 2) (gV (dV 3) (Pu.b9))))))) (d2 bf (dV 1) (dV 0))))
def kidB(w:Nat)(ws:List Tx)(t:Tx):PV->Bool
 |.str y=>unD w ws (t++y)
 |_=>am
def kidV(t:Tx):PV->PV
 |.str y=>.str (t++y)
 |v=>v
theorem kid_blk{w:Nat}{ws:List Tx}{t:Tx}(j:t.length<=58)(c:Nat)(h g f d:Slot):b7 (dO [4,0,1] (dB (bd (aZ (kI a) (gV (d2 bf (dV 1) (dV 0)) (gV (dV 2) (gV (dV 3) (Pu.b9))))))) (.str [c]) [⇑w,.val (.tup (aj ws)),h,g,↥t,f,d])=.ok (unD w ws (t++[c])) [⇑w,.val (.tup (aj ws)),h,g,↥t,f,d] /\ b7 (dO [4,0,1] (d2 bf (dV 1) (dV 0)) (.str [c]) [⇑w,.val (.tup (aj ws)),h,g,↥t,f,d])=.ok (.str (t++[c])) [⇑w,.val (.tup (aj ws)),h,g,↥t,f,d]:=by
 have b:=HQ (a:=a) w ws (t++[c]) (by simp;lia);have i:bf (.str t) (.str [c])=aa (.str (t++[c])):=u_ (by simp[bG];lia);generalize unD w ws (t++[c])=B at b;generalize t++[c]=TC at b i;generalize aj ws=PW at b;generalize ((w:Nat):Int)=WI at b;constructor
 .simp![dO,dX,b7,i,b]
 .simp![dO,dX,b7,i]
theorem comp_anyT{DI:ak->R (List PV)}{cap:List Nat}{DT:ak->R Bool}{DE:ak->R PV}{ε:ak}{xs b:List PV}(c:DI ε=.ok xs ε)(d:lm cap DT DE xs [] ε=.ok b ε):dF (cY cap DI DT DE) ε=.ok (.lst b) ε:=by simp[dF,cY,c,d,R.bind,oJ,aJ]
theorem ex_eq{w:Nat}{ws:List Tx}{t:Tx}(m:t.length<=58)(g f d b:Slot):exD1 a [⇑w,.val (.tup (aj ws)),g,f,↥t,d,b]=.ok (.lst (aj (kids w ws t))) [⇑w,.val (.tup (aj ws)),g,f,↥t,d,b]:=by
 have i:=kr (cap:=[4,0,1]) (dt:=(dB (bd (aZ (kI a) (gV (d2 bf (dV 1) (dV 0)) (gV (dV 2) (gV (dV 3) (Pu.b9)))))))) (de:=(d2 bf (dV 1) (dV 0))) (ε:=[⇑w,.val (.tup (aj ws)),g,f,↥t,d,b]) (kidB w ws t) (kidV t) (aj (bU.map λc=>[c]))
  (by intro v l;obtain⟨y,j,rfl⟩:=bH.mp l;obtain⟨c,_,rfl⟩:=bH.mp j;obtain⟨p,o⟩:=kid_blk (a:=a) (w:=w) (ws:=ws) m c g f d b;exact⟨p,λ_=>o⟩) []
 have n:((aj (bU.map λc=>[c])).filter (kidB w ws t)).map (kidV t)=aj (kids w ws t):=by unfold kids aj;rw[cJ,n9,n9,cJ,cJ];rfl
 rw[iy,n]at i;have h:ir (.str [97,98,99])=aa (aj (bU.map λc=>[c])):=rfl;refine comp_anyT (xs:=aj (bU.map λc=>[c])) ?_ i;generalize aj (bU.map λc=>[c])=AL at h;generalize PV.str [97,98,99]=AB at h;simp[bp,dC,h,R.bind,aJ]
def trB(a:Ad):ak->R aH:=(aI (b8 4 (sm 3)) (aI (fu 5 (dL nu (ax (dV 1) (aB)))) (aI (dS 6 (bp (bd (aZ (ku a) (gV (dV 4) (gV (dV 0) (Pu.b9)))))) (mj 5 (dV 6))) (aI (ji 2 (dL bF (ax (dV 4) (ax (fh (λxs=>je (jj xs)) 5) (aB))))) (fK 3 (exD1 a))))))
theorem imms_tx:∀l:List Tx,ip (aj l)=ag
 |[]=>rfl
 |x::l=>by show(imm (.str x)&&ip (aj l))=ag;rw[imms_tx l];rfl
theorem trB_eq{w:Nat}(u:1<=w){ws:List Tx}{t:Tx}(o:Trail w ws t)(i:t.length<=58)(Q:List Tx)(mk:List PV)(v:mk.length<=200000)(y:Q.length<=200000)(m j d:Slot):∃n s,trB a [⇑w,.val (.tup (aj ws)),.own (.lst mk),.own (.lst (aj (t::Q))),m,j,d]=.ok .next [⇑w,.val (.tup (aj ws)),.own (.lst (mk++[trP w ws t])),.own (.lst (aj (Q++kids w ws t))),↥t,n,s]:=by
 have h:=vz (a:=a) t w ∅;have r:=FY.mp o.sub;obtain⟨b,p⟩:=rem_loop6 (⇑w) (.val (.tup (aj ws))) (.own (.lst mk)) (.own (.lst (aj Q))) (↥t) (aK (aT t w)) ws d λx=>by rw[(d9 _).count_eq];exact r x
 have z:(kids w ws t).length<=3:=by unfold kids;exact cM (wz _ _) (by simp[bU])
 refine⟨.own (.lst (aj (restT w ws t))),b,?_⟩;unfold trB;refine(dR (ε1:=[⇑w,.val (.tup (aj ws)),.own (.lst mk),.own (.lst (aj Q)),↥t,j,d]) ?_).trans ?_
 .show b8 4 (sm 3) [_,_,_,.own (.lst (.str t::aj Q)),_,_,_]=_;generalize aj Q=PQ;generalize aj ws=PW;simp![sm]
 refine(dR (ε1:=[⇑w,.val (.tup (aj ws)),.own (.lst mk),.own (.lst (aj Q)),↥t,.own (.lst (aj ws)),d]) ?_).trans ?_
 .have:nu [.tup (aj ws)]=aa (.lst (aj ws)):=rfl;generalize aj ws=PW at this;generalize aj Q=PQ;simp![this]
 refine(dR (ε1:=[⇑w,.val (.tup (aj ws)),.own (.lst mk),.own (.lst (aj Q)),↥t,.own (.lst (aj (restT w ws t))),b]) ?_).trans ?_
 .refine yE (xs:=aj (aK (aT t w))) (ε1:=[⇑w,.val (.tup (aj ws)),.own (.lst mk),.own (.lst (aj Q)),↥t,.own (.lst (aj ws)),d]) ?_ p;have l:ir (.tup (aj (aK (aT t w))))=aa (aj (aK (aT t w))):=rfl;generalize aj (aK (aT t w))=SW at h l;generalize aj ws=PW;generalize aj Q=PQ;generalize ((w:Nat):Int)=WI at h;simp![bp,h,l]
 refine(dR (ε1:=[⇑w,.val (.tup (aj ws)),.own (.lst (mk++[trP w ws t])),.own (.lst (aj Q)),↥t,.own (.lst (aj (restT w ws t))),b]) ?_).trans ?_
 .have q:je (jj [.lst (aj (restT w ws t))])=aa (.tup (aj (restT w ws t))):=by
   show(if imm (.tup (aj (restT w ws t)))then aa _ else ae)=_;rw[if_pos (show imm (.tup (aj (restT w ws t)))=ag from imms_tx _)]
  have g:mk.length<bG:=by unfold bG;lia
  have f:fh (λxs=>je (jj xs)) 5 [⇑w,.val (.tup (aj ws)),.own (.lst mk),.own (.lst (aj Q)),↥t,.own (.lst (aj (restT w ws t))),b]=.ok (.tup (aj (restT w ws t))) [⇑w,.val (.tup (aj ws)),.own (.lst mk),.own (.lst (aj Q)),↥t,.own (.lst (aj (restT w ws t))),b]:=by unfold fh;show(aJ (aa (aj (restT w ws t))) _).bind _=_;simp only[cP,R.bind_ok];rw[q];rfl
  show ji 2 _ _=.ok .next [_,_,.own (.lst (mk++[.tup [.str t,.tup (aj (restT w ws t))]])),_,_,_,_];generalize aj (restT w ws t)=PR at f;generalize aj ws=PW at f;generalize aj Q=PQ at f;generalize fh (λxs=>je (jj xs)) 5=DO at f;simp[ji,dL,ax,aB,dV,bF,cB,R.bind,aJ,f,g]
 .have c:=ex_eq (a:=a) (w:=w) (ws:=ws) i (.own (.lst (mk++[trP w ws t]))) (.own (.lst (aj Q))) (.own (.lst (aj (restT w ws t)))) b;have g:(aj Q).length+(aj (kids w ws t)).length<=bG:=by rw[f_,f_];unfold bG;lia
  have e:aj (Q++kids w ws t)=aj Q++aj (kids w ws t):=by simp[aj]
  rw[e];generalize aj (kids w ws t)=PK at c g;generalize aj (restT w ws t)=PR at c;generalize aj ws=PW at c;generalize aj Q=PQ at c g;generalize exD1 a=DX at c;simp[fK,cB,R.bind,aJ,c,g]
theorem tr_while{w:Nat}(E:1<=w)(w4:w<=4){g:List Tx}(h9:g.length<=9):∀(n:Nat) (Q:List Tx) (mk:List PV) (s:Nat) (p o m:Slot),phis w g Q<=n->n<s->mk.length+n<=200000->(∀t∈Q,Trail w g t)->Q.Pairwise (λx y=>¬x <+: y/\¬y <+: x) -> ∃(D:List Tx) (M W fk:Slot),(D.Nodup/\∀t∈D,∃q∈Q,q <+: t)/\(∀t∈D,Trail w g t)/\(∀q∈Q,∀t,q <+: t->Trail w g t->t∈D)/\D.length<=n/\iK trC (trB a) s [⇑w,.val (.tup (aj g)),.own (.lst mk),.own (.lst (aj Q)),p,o,m]=.ok .next [⇑w,.val (.tup (aj g)),.own (.lst (mk++D.map (trP w g))),.own (.lst []),M,W,fk]:=by
 intro n
 induction n with
 |zero=>
  intro Q mk s p o m Z hf _ I _;obtain⟨f,rfl⟩:∃f,s=f+1:=⟨s-1,∅⟩
  have e:Q=[]:=by have:=phis_len w g Q;exact pf ∅
  subst e;refine⟨[],p,o,m,⟨by simp,(λt j=>by cases j)⟩,(λt j=>by cases j),(λq i=>by cases i),by simp,?_⟩;have A:=trC_eq [] (⇑w) (.val (.tup (aj g))) (.own (.lst mk)) p o m;rw[v3,fQ];exact HK A
 |succ n G=>
  intro Q mk s p o m Z hf hm I hA;obtain⟨f,rfl⟩:∃f,s=f+1:=⟨s-1,∅⟩
  cases Q with
  |nil=>
   refine⟨[],p,o,m,⟨by simp,(λt j=>by cases j)⟩,(λt j=>by cases j),(λq i=>by cases i),by simp,?_⟩;have A:=trC_eq [] (⇑w) (.val (.tup (aj g))) (.own (.lst mk)) p o m;rw[v3,fQ];exact HK A
  |cons t Q=>
   have j:=I t (by simp);have hl:=under_len E j.sub;have hk:=kids_phi E j;have v:phis w g (t::Q)=phi w g t+phis w g Q:=rfl;have Y:=phis_len w g Q;obtain⟨O,N,hb⟩:=trB_eq (a:=a) E j (by have:=j.long;lia) Q mk ∅ ∅ p o m;obtain⟨C,J⟩:=lH.mp hA;have l:∀u∈kids w g t,t <+: u/\u.length=t.length+1:=λu b=>by obtain⟨⟨c,_,rfl⟩,_⟩:=kids_mem.mp b;exact⟨⟨[c],rfl⟩,by simp⟩
   obtain⟨D,T,S,P,⟨dn,de⟩,d1,d2,d3,X⟩:=G (Q++kids w g t) (mk++[trP w g t]) f (↥t) O N (by rw[phis_app];lia) ∅ (by rw[c0,nM];lia) (λu b=>by
    rcases fO.mp b with b|b
    .exact I u (by simp[b])
    .exact kids_trail j b) (by
    refine zN.mpr ⟨J,?_,λq i u b=>?_⟩
    .refine List.Pairwise.filter _ ?_;have L:∀c d:Nat,c≠d->¬(t++[c]) <+: (t++[d]):=λc d F z=>by have:=z.eq_of_length (by simp);exact F (by simpa using this)
     exact List.Pairwise.map _ (λc d (F:c≠d)=>⟨L c d F,L d c λz=>F z.symm⟩) (by decide)
    .obtain⟨k1,k2⟩:=l u b;obtain⟨⟨c,_,rfl⟩,_⟩:=kids_mem.mp b;have K:=C q i;refine⟨λz=>?_,λz=>K.1 ((List.prefix_append t [c]).trans z)⟩;rcases List.prefix_concat_iff.mp z with e|e
     .exact K.1 ⟨[c],e.symm⟩
     .exact K.2 e)
   have H:t∉D:=λz=>by
    obtain⟨q,i,v⟩:=de t z;rcases fO.mp i with i|i
    .exact(C q i).2 v
    .have:=v.length_le;rw[(l q i).2]at this;lia
   refine⟨t::D,T,S,P,⟨jH.mpr ⟨H,dn⟩,λu b=>?_⟩,λu b=>?_,λq i u B b=>?_,by rw[cx];lia,?_⟩
   .rcases bo.mp b with rfl|b
    .exact⟨u,by simp,List.prefix_refl _⟩
    .obtain⟨q,i,v⟩:=de u b;rcases fO.mp i with i|i
     .exact⟨q,by simp[i],v⟩
     .exact⟨t,by simp,(l q i).1.trans v⟩
   .rcases bo.mp b with rfl|b
    .exact j
    .exact d1 u b
   .rcases bo.mp i with rfl|i
    .obtain⟨r,rfl⟩:=B;cases r with
     |nil=>rw[fQ];simp
     |cons c r=>
      refine dy _ (d2 (q++[c]) (lB _ (kids_mem.mpr ⟨⟨c,b.abc c (by simp),rfl⟩,?_⟩)) _ ⟨r,by simp⟩ b);have:∀(r:Tx) (u:Tx),unD w g (u++r)=ag->unD w g u=ag:=λr=>by
       induction r with
       |nil=>intro u h;rwa[fQ]at h
       |cons d r G=>intro u h;rw[show u++d::r=(u++[d])++r by simp]at h;exact E9 E (G (u++[d]) h)
      exact this r (q++[c]) (by simpa using b.sub)
    .exact dy _ (d2 q (zr _ i) u B b)
   .have A:=trC_eq (t::Q) (⇑w) (.val (.tup (aj g))) (.own (.lst mk)) p o m;rw[decide_eq_true (by simp)]at A;rw[O6 A hb,X];simp
end
theorem GG_mono:∀{m n:Nat},m<=n->GG m<=GG n
 |m,0,h=>by rw[Nat.le_zero.mp h];exact a8 _
 |m,n+1,h=>by
  rcases Nat.lt_or_eq_of_le h with h|h
  .have:=GG_mono (Nat.le_of_lt_succ h);have a:GG (n+1)=1+3*GG n:=rfl;lia
  .rw[h];exact a8 _
theorem imms_qr:∀l:List QrK,ip (l.map df)=ag
 |[]=>rfl
 |k::l=>by show(imm (df k)&&ip (l.map df))=ag;rw[imms_qr l];show(ip [.str k.1,.tup (aj k.2)]&&ag)=ag;show((imm (.str k.1)&&(imm (.tup (aj k.2))&&ag))&&ag)=ag;rw[show imm (.tup (aj k.2))=ag from imms_tx k.2];rfl
section
variable{a:Ad}
theorem trails_eq{w:Nat}(A:1<=w)(O:w<=4){ws:List Tx}(J:ws.length<=9)(f:∀x∈ws,x.length=w/\∀c∈x,c∈bU):∃L:List QrK,(L.map (·.1)).Nodup/\(∀p∈L,Trail w ws p.1/\p.2=restT w ws p.1)/\(∀t,Trail w ws t->(t,restT w ws t)∈L)/\sU a [⇑w,.val (.tup (aj ws))]=.ok (.val (.lst (L.map df))) [⇑w,.val (.tup (aj ws))]:=by
 have j:∀x∈ws,aT x w=[x]:=λx b=>by
  rw[oX _ _ A,(f x b).1,show w+1-w=1 by lia];show [(x.drop 0).take w]=[x]
  rw[v7,qH (by rw[(f x b).1];lia)]
 have H:∀x∈aK (bR ws),Trail w ws x:=λx b=>by
  have g:x∈ws:=(k_ ws x).mp ((d9 _).mem_iff.mp b);refine⟨by rw[(f x g).1];lia,(f x g).2,FY.mpr λy=>?_⟩;rw[j x g];by_cases e:x=y
  .subst e;rw[List.count_singleton_self];exact wC.mpr g
  .rw[List.count_eq_zero.mpr (by simp;exact λz=>e z.symm)];lia
 have bt:(aK (bR ws)).length<=9:=by rw[(d9 _).length_eq];exact cM (Hl ws) J
 have m:phis w ws (aK (bR ws))<=99000:=by
  have:∀l:List Tx,(∀x∈l,x.length=w)->phis w ws l<=l.length*9841:=λl=>by
   induction l with
   |nil=>intro _;simp[phis]
   |cons x l Q=>
    intro h;have u:=Q λy E=>h y (by simp[E]);have K:phi w ws x<=GG 8:=by unfold phi;rw[h x (by simp)];exact GG_mono ∅
    have h3:GG 8=9841:=by decide
    unfold phis at u ⊢;rw[cS,List.sum_cons,cx,tN];lia
  have u:=this (aK (bR ws)) λx b=>by have g:x∈ws:=(k_ ws x).mp ((d9 _).mem_iff.mp b);exact(f x g).1
  have K:(aK (bR ws)).length*9841<=9*9841:=J0 _ bt;lia
 obtain⟨D,q,o,n,⟨dn,_⟩,d1,d2,d3,F⟩:=tr_while (a:=a) A O J 99000 (aK (bR ws)) [] 100000 .none .none .none m (by decide) (by simp) H (by have G:(aK (bR ws)).Nodup:=(d9 _).nodup_iff.mpr (Hc ws);refine G.imp_of_mem λ{x y} b E N=>?_;have lx:x.length=w:=(f x ((k_ ws x).mp ((d9 _).mem_iff.mp b))).1;have ly:y.length=w:=(f y ((k_ ws y).mp ((d9 _).mem_iff.mp E))).1;exact⟨λz=>N (z.eq_of_length ∅),λz=>N (z.eq_of_length ∅).symm⟩);have Y:∀t,Trail w ws t->t∈D:=λt d=>by
  refine d2 (t.take w) ?_ t (List.take_prefix _ _) d;have Z:t.take w∈aT t w:=by have T:=d.long;rw[oX _ _ A];refine bH.mpr ⟨0,kK.mpr ∅,by rw[v7]⟩
  refine(d9 _).mem_iff.mpr ((k_ ws _).mpr (wC.mp ?_));have:=FY.mp d.sub (t.take w);have K:=wC.mpr Z;lia
 refine⟨kZ (D.map λt=>(t,restT w ws t)),?_,λp S=>?_,λt d=>?_,?_⟩
 .refine((As _).map _).nodup_iff.mpr ?_;rw[cJ];exact(List.map_id D).symm ▸ dn
 .obtain⟨t,d,rfl⟩:=bH.mp ((As _).mem_iff.mp S);exact⟨d1 t d,rfl⟩
 .exact(As _).mem_iff.mpr (bH.mpr ⟨t,Y t d,rfl⟩)
 .rw[iy]at F;have B:=sortSetTP_eq (k:=ws) ∅;have P:D.map (trP w ws)=(D.map λt=>(t,restT w ws t)).map df:=by rw[cJ];rfl
  rw[P]at F;have C:lp (qr [.lst ((D.map λt=>(t,restT w ws t)).map df)])=aa (.lst ((kZ (D.map λt=>(t,restT w ws t))).map df)):=by
   have u:qr [.lst ((D.map λt=>(t,restT w ws t)).map df)]=aa (.lst ((kZ (D.map λt=>(t,restT w ws t))).map df)):=by show(uV _).bind _=_;rw[F8];show(if(D.map λt=>(t,restT w ws t)).length<=1000000 then aa (PO.lst _)else ae)=_;rw[if_pos (by rw[bX];lia)]
   rw[u];show(if ip ((kZ (D.map λt=>(t,restT w ws t))).map df)=ag then aa (PO.lst _)else ae)=_;rw[if_pos (imms_qr _)]
  have i:lm [] dYes (dV 0) (aj (aK (bR ws))) [] [⇑w,.val (.tup (aj ws)),.own (.lst []),.none,.none,.none,.none]=.ok (aj (aK (bR ws))) [⇑w,.val (.tup (aj ws)),.own (.lst []),.none,.none,.none,.none]:=by have:=kr (cap:=[]) (dt:=dYes) (de:=dV 0) (ε:=[⇑w,.val (.tup (aj ws)),.own (.lst []),.none,.none,.none,.none]) (λ_=>ag) (λv=>v) (aj (aK (bR ws))) (λv _=>⟨rfl,λ_=>rfl⟩) [];rw[iy,z7,z8.mpr (λ_ _=>rfl)]at this;exact this
  have s:yaF a [⇑w,.val (.tup (aj ws)),.none,.none,.none,.none,.none]=.ok (.ret (.val (.lst ((kZ (D.map λt=>(t,restT w ws t))).map df)))) [⇑w,.val (.tup (aj ws)),.own (.lst ((D.map λt=>(t,restT w ws t)).map df)),.own (.lst []),q,o,n]:=by
   show aI _ (aI _ (aI (λε=>dA (iK trC (trB a) 100000 ε)) _)) _=_;refine(dR (ε1:=[⇑w,.val (.tup (aj ws)),.own (.lst []),.none,.none,.none,.none]) (by rfl)).trans ?_;refine(dR (ε1:=[⇑w,.val (.tup (aj ws)),.own (.lst []),.own (.lst (aj (aK (bR ws)))),.none,.none,.none]) ?_).trans ?_
   .have r:bp (dF (dL qi (ax (dV 1) (aB)))) [⇑w,.val (.tup (aj ws)),.own (.lst []),.none,.none,.none,.none]=.ok (aj (aK (bR ws))) [⇑w,.val (.tup (aj ws)),.own (.lst []),.none,.none,.none,.none]:=by
     have M:ir (.lst (aj (aK (bR ws))))=aa (aj (aK (bR ws))):=rfl;generalize aj (aK (bR ws))=SU at B M;generalize aj ws=PW at B;simp![bp,B,M]
    generalize aj (aK (bR ws))=SU at r i;generalize bp (dF (dL qi (ax (dV 1) (aB))))=DI at r;generalize X:(dV 0:ak->R PV)=D0 at i;generalize W:(dYes:ak->R Bool)=DY at i;generalize aj ws=PW at r i;simp[fu,cY,r,i,R.bind]
   refine(dR (d1:=λε=>dA (iK trC (trB a) 100000 ε)) (ε1:=[⇑w,.val (.tup (aj ws)),.own (.lst ((D.map λt=>(t,restT w ws t)).map df)),.own (.lst []),q,o,n]) ?_).trans ?_
   .show dA (iK trC (trB a) 100000 _)=_;rw[F];rfl
   .generalize ((D.map λt=>(t,restT w ws t)).map df)=MK at C;generalize ((kZ (D.map λt=>(t,restT w ws t))).map df)=SQ at C;generalize aj ws=PW;have I:fh (λxs=>lp (qr xs)) 2 [⇑w,.val (.tup PW),.own (.lst MK),.own (.lst []),q,o,n]=.ok (.lst SQ) [⇑w,.val (.tup PW),.own (.lst MK),.own (.lst []),q,o,n]:=by unfold fh;show(aJ (aa MK) _).bind _=_;simp only[cP,R.bind_ok];rw[C];rfl
    generalize fh (λxs=>lp (qr xs)) 2=DO at I;simp[dj,dF,I,R.bind,oJ,aJ]
  unfold sU;generalize yaF a=DD at s ⊢;generalize ((kZ (D.map λt=>(t,restT w ws t))).map df)=SQ at s ⊢;generalize aj ws=PW at s ⊢;simp[cb,gW,b_,bK,s,back,iX,aJ,R.bind]
theorem all_rows{w:Nat}{b:List Tx}(Z:b.length<=9)(v:1<=w)(X:w<=4):pZ a [.val (aQ w b)]=.ok (.own (.lst (aj ((rowsOf w b (b.length+w-1)).filter (λz=>decide (aK (aT z w)=b)))))) [.val (aQ w b)]:=by
 obtain⟨L,u⟩:∃L:Nat,b.length+w-1=L:=⟨_,rfl⟩
 rw[u];have A:L<=12:=∅
 have C:bN [.tup (aj b)]=aa (.int (b.length:Nat)):=by simp[bN,f_]
 have s:bf (.int (b.length:Nat)) (.int w)=aa (.int ((b.length:Int)+w)):=rfl;have r:j7 (.int ((b.length:Int)+w)) (.int 1)=aa (.int L):=by show aa (PV.int ((b.length:Int)+w-1))=_;congr 2;lia
 have O:lh [.int L]=aa (fF 0 L):=yP ∅;have q:(fF 0 L).length=L:=by simp[fF]
 obtain⟨E,l,o,n,f,rfl⟩:=xY (i:=4) (db:=(aI (fu 5 (dL fH (aB)))
 (aI (dS 6 (bp (dV 3)) (fK 5 (dF (cY [6,1,2] (bp (dC (.str [97,98,99]))) (dB (bd (aZ (kI a) (gV (d2 bf (dV 1) (dV 0)) (gV (dV 2) (gV (dV 3) (Pu.b9))))))) (d2 bf (dV 1) (dV 0))))))
 (b8 3 (dM 5)))))
  (I:=λk ε=>∃(o n f:Slot),ε=[.val (aQ w b),⇑w,.val (.tup (aj b)),.val (.lst (aj (rowsOf w b k))),o,n,f]) (N:=L)
  (by
   rintro k ε x Y ⟨o,n,f,rfl⟩;have G:∀t∈rowsOf w b k,t.length<=50:=λt K=>by have:=((mx k t).mp (ka.mp K).1).1;lia
   have e:(rowsOf w b k).flatMap (nextT w b)=rowsOf w b (k+1):=(QV v b k).symm;have F:((rowsOf w b k).flatMap (nextT w b)).length<=999999:=by rw[e];have j:=SN w b (k+1);have h2:=RN (show k+1<=12 by lia);lia
   obtain⟨S,j⟩:=R_ (a:=a) w b (.val (aQ w b)) (.val (.lst (aj (rowsOf w b k)))) (.val x) f (rowsOf w b k) G F;rw[e]at j;refine⟨_,?_,.val x,.val (.lst (aj (rowsOf w b (k+1)))),S,rfl⟩;generalize aj (rowsOf w b (k+1))=R1 at j;generalize P:aj (rowsOf w b k)=R0 at j;simp only[aQ]at j ⊢;have m:∀(d:ak->R aH) (xs:List PV) (ε:ak),ε[3]?=aa (.val (.lst xs))->dS 6 (bp (dV 3)) d ε=dw 6 d xs ε:=λd xs ε h=>by unfold dS bp dV;rw[h];rfl
   refine(dR (ε1:=[.val (.tup [.int w,.tup (aj b)]),⇑w,.val (.tup (aj b)),.val (.lst R0),.val x,.own (.lst []),f]) (by simp![])).trans ?_;refine(dR ((m _ R0 _ rfl).trans j)).trans ?_;simp[b8,dM,R.bind])
  (fF 0 L) 0 [.val (aQ w b),⇑w,.val (.tup (aj b)),.val (.lst (aj (rowsOf w b 0))),.none,.none,.none] ∅ ⟨.none,.none,.none,rfl⟩
 rw[q,t9,KI v]at l;have g:=kr (cap:=[1,2]) (dt:=(dB (d2 (Pu.eqT am) (bd (aZ (ku a) (gV (dV 0) (gV (dV 1) (Pu.b9))))) (dV 2)))) (de:=dV 0) (ε:=[.val (aQ w b),⇑w,.val (.tup (aj b)),.val (.lst (aj (rowsOf w b L))),o,n,f])
  (λx=>match x with|.str z=>decide (aK (aT z w)=b)|_=>am) (λx=>x) (aj (rowsOf w b L))
  (by
   intro x J;obtain⟨z,H,rfl⟩:=bH.mp J;have p:z.length<=60:=by have:=((mx L z).mp (ka.mp H).1).1;lia
   have y:=vz (a:=a) z w p;have c:=HR am (aK (aT z w)) b;simp only[Bool.false_xor]at c;generalize aj (aK (aT z w))=M at y c;generalize Q:decide (aK (aT z w)=b)=D at c;generalize aj (rowsOf w b L)=RR;simp only[aQ];refine⟨?_,λ_=>?_⟩
   .simp only[Q];generalize aj b=B at c;simp![dO,dX,b7,y,c]
   .generalize aj b=B;simp![dO,dX,b7]) []
 have c:((aj (rowsOf w b L)).filter (λx=>match x with|.str z=>decide (aK (aT z w)=b)|_=>am)).map (λx=>x)=aj ((rowsOf w b L).filter (λz=>decide (aK (aT z w)=b))):=by rw[z7];unfold aj;rw[n9];rfl
 rw[iy,c]at g;have W:aj [[]]=[.str []]:=rfl;rw[W]at l;generalize aj ((rowsOf w b L).filter (λz=>decide (aK (aT z w)=b)))=T at g;generalize aj (rowsOf w b L)=RR at g l;simp only[aQ]at g l ⊢;generalize aj b=B at g l C;simp![pZ,yay,Bu,C,s,r,dA,dS,O,l,oC,cY,bp,ir,g]
end
abbrev Ri(l:List Tx):Prop:=l.Pairwise (λa b=>cQ a b=ag)
theorem Ri.eq{l m:List Tx}(d:Ri l)(c:Ri m)(h:l.Perm m):l=m :=zD (le:=λa b=>cQ a b=ag) (λ_ _ _ _=>BP) d c h
theorem leT_self(x:Tx):cQ x x=ag:=by have:=FC x x;simpa using this
theorem head_min{x:Tx}{A l:List Tx}(d:Ri A)(c:∀y∈A,cQ x y=ag)(a:x∈A):∃b,A=x::b:=by
 cases A with
 |nil=>cases a
 |cons y b=>
  have g:=c y (by simp);have f:cQ y x=ag:=by
   rcases bo.mp a with rfl|a
   .exact leT_self _
   .exact(lH.mp d).1 x a
  exact⟨b,by rw[BP g f]⟩
theorem ways_full:∀(l:List Tx) (W:List DrK) (d c A B:List Tx),(d,c)∈W->Ri l->Ri A->Ri B->(A++B).Perm l->(d++A,c++B)∈waysT l W
 |[],W,d,c,A,B,i,_,_,_,b=>by have:=b.eq_nil;obtain⟨rfl,rfl⟩:=List.append_eq_nil_iff.mp this;simpa[waysT]using i
 |x::l,W,d,c,A,B,i,o,m,j,b=>by
  have n:∀y∈A++B,cQ x y=ag:=λy f=>by
   rcases bo.mp (b.mem_iff.mp f)with rfl|h
   .exact leT_self _
   .exact(lH.mp o).1 y h
  have p:=(lH.mp o).2;have g:x∈A++B:=b.mem_iff.mpr (by simp);rcases fO.mp g with g|g
  .obtain⟨s,rfl⟩:=head_min (l:=l) m (λy f=>n y (by simp[f])) g;have:=ways_full l (W.flatMap (wayS x)) (d++[x]) c s B (qT.mpr ⟨_,i,by simp[wayS]⟩) p (lH.mp m).2 j (D3 (a:=x) b);rw[waysT];simpa using this
  .obtain⟨q,rfl⟩:=head_min (l:=l) j (λy f=>n y (by simp[f])) g;have r:(A++q).Perm l:=D3 (a:=x) (Dx.symm.trans b);have:=ways_full l (W.flatMap (wayS x)) d (c++[x]) A q (qT.mpr ⟨_,i,by simp[wayS]⟩) p m (lH.mp j).2 r;rw[waysT];simpa using this
theorem ptL_full{x:Tx}{r A B:List Tx}(n:Ri (x::r))(i:Ri A)(f:Ri B)(d:B≠[])(g:A≠[])(c:(A++B).Perm (x::r)):(A,B)∈ptL x r\/(B,A)∈ptL x r:=by
 have j:∀y∈A++B,cQ x y=ag:=λy b=>by
  rcases bo.mp (c.mem_iff.mp b)with rfl|h
  .exact leT_self _
  .exact(lH.mp n).1 y h
 have m:=(lH.mp n).2;rcases fO.mp (c.mem_iff.mpr (eC):x∈A++B)with hx|hx
 .obtain⟨q,rfl⟩:=head_min (l:=r) i (λy b=>j y (by simp[b])) hx;refine .inl (ptL_mem.mpr ⟨?_,d⟩);have:=ways_full r [([x],[])] [x] [] q B (by simp) m (lH.mp i).2 f (D3 (a:=x) c);simpa using this
 .obtain⟨o,rfl⟩:=head_min (l:=r) f (λy b=>j y (by simp[b])) hx;refine .inr (ptL_mem.mpr ⟨?_,g⟩);have p:(o++A).Perm r:=wg.trans (D3 (a:=x) (Dx.symm.trans c));have:=ways_full r [([x],[])] [x] [] o A (by simp) m (lH.mp f).2 i p;simpa using this
theorem kyT_le{t u:Tx}(h:t<=u):kyT t u=[t,u]/\kyT u t=[t,u]:=by
 have b:¬u<t:=λz=>wx.mpr h z;unfold kyT;rw[if_neg b];by_cases a:t<u
 .rw[if_pos a];simp[b,a]
 .have e:t=u:=Jn h (wx.mp a);subst e;simp
def duOf(w:Nat)(p:QrK):List (List Tx):=if p.2=[] then [] else((cG w p.2).filter λu=>decide (p.1<=u)).map λu=>[p.1,u]
def dueL(w:Nat)(L:List QrK):List (List Tx):=L.flatMap (duOf w)
theorem duOf_mem{w:Nat}{p:QrK}{k:List Tx}:k∈duOf w p↔p.2≠[]/\∃u∈cG w p.2,p.1<=u/\k=[p.1,u]:=by
 unfold duOf;by_cases h:p.2=[]
 .simp[h]
 .rw[if_neg h];simp only[bH,ka,decide_eq_true_eq,ne_eq,h,not_false_eq_true,true_and];constructor
  .rintro⟨u,⟨a,b⟩,rfl⟩;exact⟨u,a,b,rfl⟩
  .rintro⟨u,a,b,rfl⟩;exact⟨u,⟨a,b⟩,rfl⟩
theorem due_nodup{w:Nat}(g:1<=w){L:List QrK}(r:(L.map (·.1)).Nodup)(o:∀p∈L,∀x∈p.2,x.length=w/\∀c∈x,c∈bU):(dueL w L).Nodup:=by
 unfold dueL;refine List.pairwise_flatMap.mpr ⟨λp l=>?_,?_⟩
 .unfold duOf;by_cases h:p.2=[]
  .rw[if_pos h];exact List.Pairwise.nil
  .rw[if_neg h];have i:=(G9 g (ue.mpr h) (o p l)).filter (λu=>decide (p.1<=u));refine kQ.mpr (i.imp λ{a b} f z=>f ?_);simpa using z
 .have d:L.Pairwise (λa b:QrK=>a.1≠b.1):=kQ.mp r;refine d.imp λ{p q} f k m j n e=>f ?_;obtain⟨_,u,_,_,rfl⟩:=duOf_mem.mp m;obtain⟨_,v,_,_,rfl⟩:=duOf_mem.mp n;exact(List.cons.inj e).1
theorem due_mem{w:Nat}(E:1<=w){x:Tx}{r:List Tx}(g:Good bU w (x::r))(q:Ri (x::r)){L:List QrK}(h1:∀p∈L,Trail w (x::r) p.1/\p.2=restT w (x::r) p.1)(h2:∀t,Trail w (x::r) t->(t,restT w (x::r) t)∈L)(k:List Tx):k∈dueL w L↔∃p∈ptL x r,∃t∈cG w p.1,∃u∈cG w p.2,k=kyT t u:=by
 have l:∀(m:List Tx),m.Sublist (x::r)->∀y∈m,y.length=w/\∀c∈y,c∈bU:=λm O y F=>⟨g.len y (O.mem F),g.abc y (O.mem F)⟩
 constructor
 .intro I;obtain⟨p,H,I⟩:=qT.mp I;obtain⟨bY,u,d,K,rfl⟩:=duOf_mem.mp I;obtain⟨a,P⟩:=h1 p H;have T:p.2.Sublist (x::r):=by rw[P];exact rest_sub _ _ _
  have X:Ri p.2:=q.sublist T;have s:=rest_perm a.sub;rw[<-P]at s;have f:Ri (aK (aT p.1 w)):=sW _;have D:aK (aT p.1 w)≠[]:=λz=>by have:=(d9 (aT p.1 w)).length_eq;rw[z,yW E]at this;have:=a.long;simp at *;lia
  have i:(aK (aT p.1 w)++p.2).Perm (x::r):=wg.trans (((d9 (aT p.1 w)).append_left p.2).trans s);have J:∀y∈aK (aT p.1 w),y.length=w/\∀c∈y,c∈bU:=λy F=>by have M:y∈x::r:=i.mem_iff.mp (by simp[F]);exact⟨g.len y M,g.abc y M⟩
  have o:p.1∈cG w (aK (aT p.1 w)):=(Ej E (ue.mpr D) J f a.abc).mpr rfl;obtain⟨e1,e2⟩:=kyT_le K;rcases ptL_full q f X bY D i with h|h
  .exact⟨_,h,p.1,o,u,d,e1.symm⟩
  .exact⟨_,h,u,d,p.1,o,e2.symm⟩
 .rintro⟨p,H,t,a,u,d,rfl⟩;obtain⟨b,Q⟩:=ptL_way H;have j:∀(A B:List Tx) (t u:Tx),A≠[]->B≠[]->A.Sublist (x::r)->B.Sublist (x::r)->(A++B).Perm (x::r)->t∈cG w A->u∈cG w B->t<=u->[t,u]∈dueL w L:=λA B t u f Y G S i a d K=>by
   obtain⟨t1,N⟩:=xF E (ue.mpr f) (l A G) a;have dW:=(Ej E (ue.mpr f) (l A G) (q.sublist G) N).mp a;have C:(aT t w).Perm A:=by rw[<-dW];exact(d9 _).symm
   have n:unD w (x::r) t=ag:=FY.mpr λy=>by rw[C.count_eq,<-i.count_eq,DP];lia
   have W:Trail w (x::r) t:=⟨by have:=ue.mpr f;lia,N,n⟩
   have v:restT w (x::r) t=B:=by refine Ri.eq (q.sublist (rest_sub _ _ _)) (q.sublist S) ?_;have h3:=rest_perm n;have Z:(restT w (x::r) t++A).Perm (B++A):=((C.symm.append_left _).trans h3).trans (i.symm.trans wg);exact(List.perm_append_right_iff A).mp Z
   refine qT.mpr ⟨_,h2 t W,duOf_mem.mpr ⟨by rw[v];exact Y,u,by rw[v];exact d,K,rfl⟩⟩
  rcases List.le_total t u with h|h
  .rw[(kyT_le h).1];exact j p.1 p.2 t u b.ne Q b.s1 b.s2 b.perm a d h
  .rw[(kyT_le h).2];exact j p.2 p.1 u t Q b.ne b.s2 b.s1 (wg.trans b.perm) d a h
end Sh
namespace K26
open L2 Pu Mx Sh
section
variable{a:Ad}
def rf(n:Int):PV:=.tup [.str [114,101,102,117,115,101,100],.int n]
def Wh(a:Ad):Prop:=vq a [.val (.exc (.ref a.Full))]=.ok (.val (rf 5)) [.val (.exc (.ref a.Full))]
theorem Um(h:vq a [.val (.exc (.ref a.Full))]=.ok (.val (rf 5)) [.val (.exc (.ref a.Full))]):Wh a:=h
theorem Ml{d e:ak->R PV}{b:ak}{x y:PV}(f:d b=.ok x b)(c:e b=.ok y b)(h:Pu.eqT ag x y=aa (.bl am)):dB (d2 (Pu.eqT ag) d e) b=.ok am b:=by simp[dB,d2,f,c,h,R.bind,aJ,jT]
theorem MA{G:ak->R Slot}{d:ak->R PV}{b:ak}{x y:PV}(h:d b=.ok x b)(c:G [.val x]=.ok (.val y) [.val x]):bd (aZ G (gV d Pu.b9)) b=.ok y b:=by simp[bd,aZ,gV,Pu.b9,h,c,R.bind,aJ,e_,fz,cz,d4,fG,tm]
theorem O5{G:ak->R Slot}{d:ak->R PV}{ε:ak}{x:PV}{l:List PV}(h:d ε=.ok x ε)(b:G [.val x]=.ok (.own (.lst l)) [.val x]):bd (aZ G (gV d Pu.b9)) ε=.ok (.lst l) ε:=by simp[bd,aZ,gV,Pu.b9,h,b,R.bind,aJ,e_,fz,cz,d4,fG,tm,oJ]
theorem KH{G:ak->R Slot}{d e:ak->R PV}{b:ak}{x y z:PV}(h:d b=.ok x b)(f:e b=.ok y b)(c:G [.val x,.val y]=.ok (.val z) [.val x,.val y]):bd (aZ G (gV d (gV e Pu.b9))) b=.ok z b:=by simp[bd,aZ,gV,Pu.b9,h,f,c,R.bind,aJ,e_,fz,cz,d4,fG,tm]
theorem N4{G:ak->R Slot}{d:ak->R PV}{b:ak}{x:PV}{c:ai}(h:d b=.ok x b)(f:G [.val x]=.er c [.val x]):sK G (gV d Pu.b9) b=.er c b:=by simp[sK,gV,Pu.b9,h,f,R.bind,aJ,e_,fz,cz,d4,fG,b7]
theorem AG{d:ak->R PO}{ε:ak}{l:List PV}(h:d ε=.ok (.lst l) ε):dF d ε=.ok (.lst l) ε:=by simp[dF,h,R.bind,oJ,aJ]
theorem G5{d:ak->R PV}{ε:ak}{x:PV}{l:List PV}(h:d ε=.ok x ε)(b:ir x=aa l):bp d ε=.ok l ε:=by simp[bp,h,b,R.bind,aJ]
theorem Bh{d e:ak->R PV}{ε:ak}{x y:PV}(h:d ε=.ok x ε)(b:e ε=.ok y ε):dL bF (ax d (ax e aB)) ε=.ok (.tup [x,y]) ε:=by simp[dL,ax,aB,h,b,R.bind,aJ,bF]
theorem AI{f:List PV->Option α}{d:ak->R PV}{b:ak}{x:PV}{z:α}(h:d b=.ok x b)(c:f [x]=aa z):dL f (ax d aB) b=.ok z b:=by simp[dL,ax,aB,h,c,R.bind,aJ]
theorem sI{f:PV->PV->Option PV}{d e:ak->R PV}{b:ak}{x y z:PV}(h:d b=.ok x b)(g:e b=.ok y b)(c:f x y=aa z):d2 f d e b=.ok z b:=by simp[d2,h,g,c,R.bind,aJ]
theorem QF{d:ak->R Bool}{b:ak}(c:d b=.ok am b):dq d (dj (dC (.bl am))) eU b=.ok .next b:=by simp[dq,c,R.bind,eU]
def xA:ak->R Bool:=(oG (dB (d2 vx (dV 1) (dV 0))) (dB (d2 (Pu.eqT ag) (dV 2) (dL bF (aB)))))
def yR:ak->R PV:=(dL bF (ax (dV 1) (ax (dV 0) (aB))))
def lf(a:Ad):ak->R PV:=(dF (cY [8,9] (bp (bd (aZ (pZ a) (gV (dL bF (ax (dV 5) (ax (dV 9) (aB)))) (Pu.b9))))) xA yR))
theorem Oo{ε:ak}{T Q z:PV}{b c:Bool}(h:ε[8]?=aa (.val T))(g:ε[9]?=aa (.val Q))(d:vx T z=aa (.bl b))(f:Pu.eqT ag Q (.tup [])=aa (.bl c)):b7 (dO [8,9] xA z ε)=.ok (b&&c) ε:=by
 cases b <;> simp[xA,dO,dX,h,g,b7,R.bind,aJ,cz,d4,e_,fG,fz,oG,dB,d2,dV,dL,aB,bF,d,f,jT]
theorem Qs{ε:ak}{T Q z:PV}(c:ε[8]?=aa (.val T))(b:ε[9]?=aa (.val Q)):b7 (dO [8,9] yR z ε)=.ok (.tup [T,z]) ε:=by simp[yR,dO,dX,c,b,b7,R.bind,aJ,cz,d4,e_,fG,fz,dV,dL,ax,aB,bF]
def sw(t:Tx)(c:Bool):PV->Bool
 |.str z=>decide (t<=z)&&c
 |_=>am
theorem K9{ε:ak}{w:Nat}(f:1<=w)(l:w<=4){t:Tx}{r:List Tx}(c:r.length<=9)(s:r≠[]->Good bU w r)(p:Ri r)(C:ε[5]?=aa (⇑w))(j:ε[8]?=aa (↥t))(d:ε[9]?=aa (.val (.tup (aj r)))):lf a ε=.ok (.lst ((duOf w (t,r)).map br)) ε:=by
 obtain⟨Z,B,D⟩:∃Z:List Tx,(r≠[]->Z=cG w r)/\pZ a [.val (aQ w r)]=.ok (.own (.lst (aj Z))) [.val (aQ w r)]:=by
  refine⟨_,λh=>?_,all_rows c f l⟩;have g:=s h
  symm
  rw[L4 p,sY f g.some λx i=>⟨g.len x i,g.abc x i⟩];congr 2;lia
 have n:dV 5 ε=.ok (.int w) ε:=by unfold dV;rw[C]
 have m:dV 9 ε=.ok (.tup (aj r)) ε:=by unfold dV;rw[d]
 have q:bp (bd (aZ (pZ a) (gV (dL bF (ax (dV 5) (ax (dV 9) (aB)))) (Pu.b9)))) ε=.ok (aj Z) ε:=G5 (O5 (Bh n m) D) rfl;have A:Pu.eqT ag (.tup (aj r)) (.tup [])=aa (.bl (decide (r≠[]))):=by have:=HR ag r [];rw[show aj []=[] from rfl]at this;rw[this];by_cases z:r=[] <;> simp[z]
 have b:=kr (cap:=[8,9]) (dt:=xA) (de:=yR) (ε:=ε) (sw t (decide (r≠[]))) (λv=>.tup [.str t,v]) (aj Z) (λv o=>by obtain⟨z,_,rfl⟩:=bH.mp o;exact⟨Oo j d rfl A,λ_=>Qs j d⟩) [];have y:((aj Z).filter (sw t (decide (r≠[])))).map (λv=>PV.tup [.str t,v])=(duOf w (t,r)).map br:=by
  unfold duOf aj;rw[n9,cJ];by_cases h:r=[]
  .have:Z.filter (sw t (decide (r≠[])) ∘ PV.str)=[]:=JU.mpr λz _=>by simp[sw,h]
   rw[this,if_pos h];rfl
  .rw[if_neg h,B h,cJ];have:(cG w r).filter (sw t (decide (r≠[])) ∘ PV.str)=(cG w r).filter (λu=>decide (t<=u)):=JW λz _=>by simp[sw,h]
   rw[this];rfl
 rw[iy,y]at b;unfold lf;generalize (duOf w (t,r)).map br=DD at b ⊢;refine AG ?_;unfold cY;rw[q];simp only[R.bind_ok];rw[b];rfl
theorem G7{w:Nat}(z:1<=w)(y:w<=4)(m l j i h g c b:Slot):∀(L:List QrK) (d:List (List Tx)) (o n:Slot),(∀p∈L,p.2.length<=9/\(p.2≠[]->Good bU w p.2)/\Ri p.2)->d.length+(dueL w L).length<=100000 -> ∃v u,fN 8 9 (fK 7 (lf a)) (L.map df) [m,l,j,i,h,⇑w,g,.own (.lst (d.map br)),o,n,c,b]=.ok .next [m,l,j,i,h,⇑w,g,.own (.lst ((d++dueL w L).map br)),v,u,c,b]
 |[],d,o,n,_,_=>⟨o,n,by simp[dueL,fN]⟩
 |p::L,d,o,n,A,G=>by
  have B:dueL w (p::L)=duOf w p++dueL w L:=by simp[dueL]
  rw[B,c0]at G;obtain⟨M,K,J⟩:=A p (by simp);obtain⟨D,C,E⟩:=G7 z y m l j i h g c b L (d++duOf w p) (↥p.1) (.val (.tup (aj p.2))) (λq F=>A q (by simp[F])) (by rw[c0];lia);refine⟨D,C,?_⟩;have s:=K9 (a:=a) (ε:=[m,l,j,i,h,⇑w,g,.own (.lst (d.map br)),↥p.1,.val (.tup (aj p.2)),c,b]) z y M K J rfl rfl rfl;have H:fK 7 (lf a) [m,l,j,i,h,⇑w,g,.own (.lst (d.map br)),↥p.1,.val (.tup (aj p.2)),c,b]=.ok .next [m,l,j,i,h,⇑w,g,.own (.lst ((d++duOf w p).map br)),↥p.1,.val (.tup (aj p.2)),c,b]:=by
   have x:(d.map br).length+((duOf w (p.1,p.2)).map br).length<=bG:=by rw[bX,bX];unfold bG;show d.length+(duOf w p).length<=_;lia
   have I:(d++duOf w p).map br=d.map br++(duOf w (p.1,p.2)).map br:=mM;rw[I];generalize lf a=DX at s;generalize (duOf w (p.1,p.2)).map br=Y at s x;generalize d.map br=X at s x;simp[fK,cB,R.bind,aJ,s,x]
  show fN 8 9 (fK 7 (lf a)) (.tup [.str p.1,.tup (aj p.2)]::L.map df) _=_;rw[fN];show(match fK 7 (lf a) [m,l,j,i,h,⇑w,g,.own (.lst (d.map br)),↥p.1,.val (.tup (aj p.2)),c,b]with
   |.ok .next f=>fN 8 9 (fK 7 (lf a)) (L.map df) f
   |.ok .cont f=>fN 8 9 (fK 7 (lf a)) (L.map df) f
   |.ok .brk f=>.ok .next f
   |r=>r)=_
  rw[H];dsimp only;rw[E,B,lG]
def sX(a:Ad):ak->R PV:=(bd (aZ (ku a) (gV (bd (aZ (oH a) (gV (dV 0) (gO 1 (gV (dV 5) (gV (d2 bf (dV 5) (dC (.int 2))) (Pu.b9))))))) (gV (dV 5) (Pu.b9)))))
def yr:ak->R PV:=(dL bF (ax (dV 5) (ax (dL jj (ax (dF (dL my (ax (d2 bf (d2 bv (dV 4) (dC (.int 1))) (dV 6)) (aB)))) (aB))) (aB))))
def B1(a:Ad):ak->R aH:=(dq (dB (d2 (Pu.eqT am) (dV 2) (dC (.int 0)))) (aI (b8 6 (sX a)) (b8 4 yr)) (eU))
theorem ME(d:List Int)(h:List PV)(x:h.length<=400){w:Nat}(u:1<=w)(s:w<=4)(n m l j:Slot):∃(g:List PV) (t:Tx),w<=t.length/\t.length<=w+2/\(∀c∈t,c∈bU)/\sX a [bJ d,.own (.lst h),n,m,l,⇑w,j,.none,.none,.none,.none,.none]=.ok (.tup (aj (aK (aT t w)))) [bJ d,.own (.lst g),n,m,l,⇑w,j,.none,.none,.none,.none,.none]:=by
 obtain⟨t,g,q,p,o,v,f⟩:=BA (a:=a) d h w (w+2) ∅ ∅ ∅;have i:=vz (a:=a) t w ∅;have b:bf (.int w) (.int 2)=aa (.int ((w+2:Nat):Int)):=by show aa (PV.int _)=_;congr 2
 refine⟨g,t,q,p,o,?_⟩;unfold sX;generalize aj (aK (aT t w))=SW at i;generalize ((w+2:Nat):Int)=WK at f b;generalize ((w:Nat):Int)=WI at f i b;have r:bJ d=.val (.lst (d.map .int)):=rfl;rw[r]at f ⊢;generalize d.map PV.int=NS at f;simp![b,f,i]
structure Vg(w:Nat)(ls:List Tx):Prop where
 good:Good bU w ls
 rise:Ri ls
 six:ls.length<=6
theorem RE{ls ms:List Tx}(c:ls≠[])(b:ms≠[])(h:ls.length+ms.length<=1000):bf (.tup (aj ls)) (.tup (aj ms))=aa (.tup (aj (ls++ms))):=by show(if aj ls≠[]/\aj ms≠[]/\(aj ls).length+(aj ms).length<=1000 then aa (PV.tup (aj ls++aj ms))else ae)=_;rw[if_pos ⟨λz=>c (JT.mp z),λz=>b (JT.mp z),by rw[f_,f_];exact h⟩,SA]
theorem Ky(l:List Int)(o:List PV)(I:o.length<=400)(m:Int){w:Nat}(p:1<=w)(C:w<=4){b:List Tx}(g:Vg w b)(L:m=0->b.length<=3)(j:Slot):∃(f:List PV) (ls:List Tx) (E:Slot),Vg w ls/\B1 a [bJ l,.own (.lst o),⇑m,j,.val (aQ w b),⇑w,.none,.none,.none,.none,.none,.none]=.ok .next [bJ l,.own (.lst f),⇑m,j,.val (aQ w ls),⇑w,E,.none,.none,.none,.none,.none]:=by
 have v:=sL am m 0;by_cases h:m=0
 .have u:Pu.eqT am (.int m) (.int 0)=aa (.bl ag):=by rw[v,decide_eq_true h];rfl
  obtain⟨f,t,N,M,D,d⟩:=ME (a:=a) l o I p C (⇑m) j (.val (aQ w b)) .none;have J:=L h;have n:=d9 (aT t w);have q:(aK (aT t w)).length=t.length+1-w:=by rw[n.length_eq,yW p]
  have G:=RE (ls:=b) (ms:=aK (aT t w)) (λz=>by have:=g.good.some;rw[z]at this;simp at this) (λz=>by rw[z]at q;simp at q;lia) ∅;have B:=d9 (b++aK (aT t w));have F:my [.tup (aj (b++aK (aT t w)))]=aa (.lst (aj (aK (b++aK (aT t w))))):=by show(eM (aj _)).bind _=_;rw[l_,fj,if_pos (by rw[c0];lia)]
  have A:∀x∈aK (b++aK (aT t w)),x.length=w/\∀c∈x,c∈bU:=λx d=>by
   rcases fO.mp (B.mem_iff.mp d)with d|d
   .exact⟨g.good.len x d,g.good.abc x d⟩
   .have d:=n.mem_iff.mp d;rw[oX _ _ p]at d;obtain⟨k,y,rfl⟩:=bH.mp d;have y:=kK.mp y;exact⟨by simp;lia,λc K=>D c (JG (DL K))⟩
  have r:(aK (b++aK (aT t w))).length=b.length+(t.length+1-w):=by rw[B.length_eq,c0,q]
  refine⟨f,aK (b++aK (aT t w)),.val (.tup (aj (aK (aT t w)))),⟨⟨λx d=>(A x d).1,λx d=>(A x d).2,by rw[r];have:=g.good.some;lia,by rw[r];lia⟩,sW _,by rw[r];lia⟩,?_⟩;have s:jj [.lst (aj (aK (b++aK (aT t w))))]=aa (.tup (aj (aK (b++aK (aT t w))))):=rfl;have H:bv (aQ w b) (.int 1)=aa (.tup (aj b)):=rfl;have i:yr [bJ l,.own (.lst f),⇑m,j,.val (aQ w b),⇑w,.val (.tup (aj (aK (aT t w)))),.none,.none,.none,.none,.none]=.ok (aQ w (aK (b++aK (aT t w)))) [bJ l,.own (.lst f),⇑m,j,.val (aQ w b),⇑w,.val (.tup (aj (aK (aT t w)))),.none,.none,.none,.none,.none] :=Bh rfl (AI (AG (AI (sI (sI rfl rfl H) rfl G) F)) s);unfold B1;generalize aQ w (aK (b++aK (aT t w)))=V2 at i;generalize aj (aK (aT t w))=PS at d i;generalize aQ w b=V0 at d i;generalize yr=DR at i;generalize sX a=DS at d;simp[dq,dB,d2,dV,dC,u,R.bind,aJ,jT,aI,b8,d,i]
 .have u:Pu.eqT am (.int m) (.int 0)=aa (.bl am):=by rw[v,decide_eq_false h];rfl
  refine⟨o,b,.none,g,?_⟩;unfold B1;generalize (aI (b8 6 (sX a)) (b8 4 yr))=DD;generalize aQ w b=V0;simp[dq,dB,d2,dV,dC,u,R.bind,aJ,jT,eU]
def B2:ak->R aH:=(dq (oG (dB (d2 (Pu.eqT am) (dV 5) (dC (.int 1)))) (dB (d2 (dQ λi j=>decide (j<i)) (dL bN (ax (d2 bv (dV 4) (dC (.int 1))) (aB))) (dC (.int 4))))) (b8 4 (dL bF (ax (dC (.int 1)) (ax (il gU (d2 bv (dV 4) (dC (.int 1))) (jd) (gA (dC (.int 4)))) (aB))))) (eU))
theorem Mg(n m l j i:Slot){w:Nat}{b:List Tx}(g:Vg w b):∃r:List Tx,Vg w r/\B2 [n,m,l,j,.val (aQ w b),⇑w,i,.none,.none,.none,.none,.none]=.ok .next [n,m,l,j,.val (aQ w r),⇑w,i,.none,.none,.none,.none,.none]:=by
 have d:bv (aQ w b) (.int 1)=aa (.tup (aj b)):=rfl;have s:=sL am (w:Nat) 1;have f:bN [.tup (aj b)]=aa (.int (b.length:Nat)):=by simp[bN,f_]
 by_cases v:((w:Nat):Int)=1
 .have c:Pu.eqT am (.int w) (.int 1)=aa (.bl ag):=by rw[s,decide_eq_true v];rfl
  by_cases h:(4:Int)<(b.length:Nat)
  .have A:w=1:=∅
   subst A;have o:gU (.tup (aj b)) ae (aa 4)=aa (.tup (aj (b.take 4))):=by
    have y:dU (aj b) ae (aa ((4:Nat):Int))=(aj b).take 4:=FR _ 4;show(if HT.sIx (aj b).length 0 ae=0/\HT.sIx (aj b).length (aj b).length (aa 4)=(aj b).length then ae else aa (PV.tup (dU (aj b) ae (aa 4))))=_;rw[if_neg]
    .show aa (PV.tup (dU (aj b) ae (aa ((4:Nat):Int))))=_;rw[y];unfold aj;rw[List.map_take]
    .rintro⟨_,z⟩;have u:=HT.sIx_nat (aj b).length (aj b).length 4;rw[show(aa ((4:Nat):Int))=aa 4 from rfl]at u;rw[u,f_]at z;lia
   have p:(b.take 4).Sublist b:=IY 4 b;have B:(b.take 4).length=4:=by rw[mF];lia
   refine⟨b.take 4,⟨⟨λx q=>g.good.len x (p.mem q),λx q=>g.good.abc x (p.mem q),∅,∅⟩,g.rise.sublist p,∅⟩,?_⟩;show _=R.ok aH.next [n,m,l,j,.val (.tup [.int 1,.tup (aj (b.take 4))]),⇑((1:Nat):Int),i,.none,.none,.none,.none,.none];generalize aj (b.take 4)=T4 at o;generalize ((b.length:Nat):Int)=LN at f h;generalize aj b=PL at f d o;generalize aQ 1 b=VV at d;generalize ((1:Nat):Int)=W1 at c;simp![B2,il,gA,jd,c,d,f,h,o]
  .refine⟨b,g,?_⟩;generalize ((b.length:Nat):Int)=LN at f h;generalize aj b=PL at f d;generalize aQ w b=VV at d;generalize ((w:Nat):Int)=W1 at c;simp![B2,c,d,f,h]
 .have c:Pu.eqT am (.int w) (.int 1)=aa (.bl am):=by rw[s,decide_eq_false v];rfl
  refine⟨b,g,?_⟩;generalize aQ w b=VV;generalize ((w:Nat):Int)=W1 at c;simp![B2,c]
theorem El:∀ks:List (List Tx),ip (ks.map br)=ag
 |[]=>rfl
 |k::ks=>by show(ip (aj k)&&ip (ks.map br))=ag;rw[El ks,FX];rfl
theorem Go:∀ks:List (List Tx),gb (ks.map br) (ks.map br)=aa ag
 |[]=>rfl
 |k::ks=>by have h:=At k k;rw[decide_eq_true rfl]at h;have c:dr (br k) (br k)=aa ag:=h;have b:=Go ks;rw[cS];generalize ks.map br=KS at b;generalize br k=K1 at c;simp[gb,c,b]
theorem Ia:∀ks:List (List Tx),gh (ks.map br)<=1
 |[]=>by simp[gh]
 |k::ks=>by show max (gh (aj k)+1) (gh (ks.map br))<=1;have:=Ia ks;rw[Ay];lia
theorem K6(ks:List (List Tx)):Pu.eqT ag (.lst (ks.map br)) (.lst (ks.map br))=aa (.bl am):=by show(if jm (.lst (ks.map br))<=8 then(gb (ks.map br) (ks.map br)).map (λk=>PV.bl (ag^^k))else ae)=_;rw[if_pos (by show gh (ks.map br)+1<=8;have:=Ia ks;lia),Go];rfl
theorem SX{w:Nat}(i:1<=w)(f:w<=4):oQ a [.val (aQ w (bK 7 (bK w 97)))]=.er (.ref a.Full) [.val (aQ w (bK 7 (bK w 97)))]:=by
 have g:Good bU w (bK 7 (bK w 97)):=⟨λx b=>by rw[J1 b];simp,λx b c d=>by rw[J1 b]at d;rw[J1 d];decide,by simp,by simp⟩
 have j:Ri (bK 7 (bK w 97)):=List.pairwise_replicate.mpr (.inr (leT_self _));have h:=shared_view (a:=a) (B6 (a:=a) (g.vw i f j));rw[if_pos (by simp)]at h;exact pairs_er h
def mX:ak->R PV:=dq (dB (d2 (dQ λi j=>decide (j<i)) (dV 2) (dC (.int 0)))) (dC (.int 6)) (dC (.int 3))
def tX(a:Ad):ak->R Slot:=(sK (oQ a) (gV (dL bF (ax (dV 5) (ax (d2 uX (dL bF (ax (d2 jE (dC (.str [97])) (dV 5)) (aB))) (dC (.int 7))) (aB)))) (Pu.b9)))
def hX(a:Ad):ak->R aH:=(b8 10 (bd (λb=>b7 (aZ (vq a) (gV (dV 11) (Pu.b9)) b))))
theorem Tr(q:Wh a)(n m l j i h g f d c b:Slot):hX a [n,m,l,j,i,h,g,f,d,c,b,.val (.exc (.ref a.Full))]=.ok .next [n,m,l,j,i,h,g,f,d,c,.val (rf 5),.val (.exc (.ref a.Full))]:=by unfold Wh at q;generalize rf 5=RF at q;unfold hX;generalize PV.exc (.ref a.Full)=EX at q;simp![b7,q]
theorem OP(q:Wh a)(b:List Int):uT a [bJ b]=.ok (.val (.bl ag)) [bJ b]:=by
 obtain⟨m,m0,m3,hd⟩:=o4 (a:=a) b [] 3 (by decide) (by simp);obtain⟨p,p0,p5,i⟩:=o4 (a:=a) b ([]++[.int 0]) 3 (by decide) (by simp);obtain⟨sp,rfl⟩:∃n:Nat,p=n:=⟨p.toNat,∅⟩
 obtain⟨o,mo1,mo6,Z,hmo⟩:∃o:Nat,1<=o/\o<=6/\(m=0->o=3)/\∀T S Q:Slot,mX [T,S,⇑m,Q,.none,.none,.none,.none,.none,.none,.none,.none]=.ok (.int o) [T,S,⇑m,Q,.none,.none,.none,.none,.none,.none,.none,.none]:=by
  by_cases h:0<m
  .exact⟨6,by decide,by decide,λz=>∅,λT S Q=>by simp[mX,dq,dB,d2,dV,dC,dQ,R.bind,aJ,jT,h]⟩
  .exact⟨3,by decide,by decide,λz=>rfl,λT S Q=>by simp[mX,dq,dB,d2,dV,dC,dQ,R.bind,aJ,jT,h]⟩
 obtain⟨w,F,P,A,G,_,g0,hs0,h6,_,hys,hv⟩:=Pi (a:=a) b ([]++[.int 0]++[.int 0]) sp o ∅ mo1 ∅ (by simp);simp only[iy,zQ,cx,mJ]at hd i hv hys;have s:rF a [bJ b,.own (.lst [.int 0,.int 0]),⇑sp,⇑o]=.ok (.val (aQ w F)) [bJ b,.own (.lst P),⇑sp,⇑o]:=hv;obtain⟨d,l1,f,g1,hB1⟩:=Ky (a:=a) b P ∅ m A G ⟨g0,hs0,∅⟩ (λz=>by have:=Z z;lia) (⇑sp);obtain⟨c,g,hB2⟩:=Mg (bJ b) (.own (.lst d)) (⇑m) (⇑sp) f g1;obtain⟨x,r,E,els,fnd,O,N,hpr⟩:=pairs_eq (a:=a) g.good A G g.rise g.six;have pM:=g.six;obtain⟨L,hL0,M,hL2,htr⟩:=trails_eq (a:=a) A G (ws:=c) ∅ λy I=>⟨g.good.len y I,g.good.abc y I⟩
 have H:∀p∈L,p.2.Sublist c:=λp i=>by rw[(M p i).2];exact rest_sub _ _ _
 have ol:(dueL w L).Nodup:=due_nodup A hL0 λp i y I=>⟨g.good.len y ((H p i).mem I),g.good.abc y ((H p i).mem I)⟩
 have ug:∀k,k∈dueL w L↔k∈E:=λk=>by rw[N k];subst els;exact due_mem A g.good g.rise M hL2 k
 have uf:(dueL w L).Perm E:=(List.perm_ext_iff_of_nodup ol fnd).mpr ug;have uk:(dueL w L).length<=100000:=by rw[uf.length_eq];exact O
 have kW:gX (dueL w L)=gX E:=BU ((BC _).trans uf) (Ix _);obtain⟨l,j,uy⟩:=G7 (a:=a) A G (bJ b) (.own (.lst d)) (⇑m) (⇑sp) (.val (aQ w c)) f .none .none L [] .none .none (λp i=>⟨by have:=(H p i).length_le;lia,λz=>Wyp.good g.good (H p i) z,g.rise.sublist (H p i)⟩) (by simp;exact uk);rw[iy,v3]at uy;have hdk:∀k∈dueL w L,k≠[]:=λk hk=>by obtain⟨p,_,hk⟩:=qT.mp hk;obtain⟨_,u,_,_,rfl⟩:=duOf_mem.mp hk;simp
 have D:vy [.lst ((dueL w L).map br)]=aa (.lst ((gX E).map br)):=by show(u7 _).bind _=_;rw[Hb hdk,fj,if_pos ∅,kW]
 have hou:∀C B:Slot,fh (λxs=>lp (vy xs)) 7 [bJ b,.own (.lst d),⇑m,⇑sp,.val (aQ w c),⇑w,f,.own (.lst ((dueL w L).map br)),l,j,C,B]=.ok (.lst ((gX E).map br)) [bJ b,.own (.lst d),⇑m,⇑sp,.val (aQ w c),⇑w,f,.own (.lst ((dueL w L).map br)),l,j,C,B]:=λC B=>by have X:=El (gX E);generalize (gX E).map br=SF at D X;generalize (dueL w L).map br=DU at D;generalize aQ w c=VV;simp[fh,cB,R.bind,aJ,lp,D,B4,X]
 have hmu:jE (.str [97]) (.int w)=aa (.str (bK w 97)):=by
  obtain rfl|rfl|rfl|rfl:w=1\/w=2\/w=3\/w=4:=∅
  all_goals rfl
 have hmt:uX (.tup [.str (bK w 97)]) (.int 7)=aa (.tup (aj (bK 7 (bK w 97)))):=rfl;have h7:=SX (a:=a) A G;have cF:pP a (.ref a.Full)=ag:=by simp[pP,iJ]
 have i0:bv (aQ w F) (.int 0)=aa (.int w):=rfl;have i1:bv (aQ w c) (.int 1)=aa (.tup (aj c)):=rfl;have K:yax a [bJ b,.none,.none,.none,.none,.none,.none,.none,.none,.none,.none,.none]=.ok (.ret (.val (.bl ag))) [bJ b,.own (.lst d),⇑m,⇑sp,.val (aQ w c),⇑w,f,.own (.lst ((dueL w L).map br)),l,j,.val (rf 5),.none]:=by
  show aI _ (aI _ (aI _ (aI (b8 4 (bd (aZ (rF a) (gV (dV 0) (gO 1 (gV (dV 3) (gV mX (Pu.b9)))))))) (aI _ (aI (B1 a) (aI B2 (aI _ (aI (λY=>dA (jC 8 9 _ (fK 7 (lf a)) Y)) (aI _ (aI _ (aI (vp 11 (pP a) (tX a) (hX a)) _))))))))))) _=_;refine(dR (ε1:=[bJ b,.own (.lst []),.none,.none,.none,.none,.none,.none,.none,.none,.none,.none]) (by simp![])).trans ?_;refine(dR (ε1:=[bJ b,.own (.lst [.int 0]),⇑m,.none,.none,.none,.none,.none,.none,.none,.none,.none]) (by simp![hd])).trans ?_;refine(dR (ε1:=[bJ b,.own (.lst [.int 0,.int 0]),⇑m,⇑sp,.none,.none,.none,.none,.none,.none,.none,.none]) (by simp![i])).trans ?_;refine(dR (ε1:=[bJ b,.own (.lst P),⇑m,⇑sp,.val (aQ w F),.none,.none,.none,.none,.none,.none,.none]) (by have v:=hmo (bJ b) (.own (.lst [.int 0,.int 0])) (⇑sp);generalize mX=MX at v;generalize aQ w F=V0 at s;generalize ((o:Nat):Int)=MO at s v;generalize ((sp:Nat):Int)=SP at s v;simp![v,s])).trans ?_;refine(dR (ε1:=[bJ b,.own (.lst P),⇑m,⇑sp,.val (aQ w F),⇑w,.none,.none,.none,.none,.none,.none]) (Cb (sI (x:=aQ w F) (y:=.int 0) rfl rfl i0))).trans ?_;refine(dR hB1).trans ?_;refine(dR hB2).trans ?_;refine(dR (ε1:=[bJ b,.own (.lst d),⇑m,⇑sp,.val (aQ w c),⇑w,f,.own (.lst []),.none,.none,.none,.none]) rfl).trans ?_;refine(dR (d1:=λY=>dA (jC 8 9 (bp (bd (aZ (sU a) (gV (dV 5) (gV (d2 bv (dV 4) (dC (.int 1))) (Pu.b9)))))) (fK 7 (lf a)) Y)) (ε1:=[bJ b,.own (.lst d),⇑m,⇑sp,.val (aQ w c),⇑w,f,.own (.lst ((dueL w L).map br)),l,j,.none,.none]) ?_).trans ?_
  .have X:bp (bd (aZ (sU a) (gV (dV 5) (gV (d2 bv (dV 4) (dC (.int 1))) (Pu.b9))))) [bJ b,.own (.lst d),⇑m,⇑sp,.val (aQ w c),⇑w,f,.own (.lst []),.none,.none,.none,.none]=.ok (L.map df) [bJ b,.own (.lst d),⇑m,⇑sp,.val (aQ w c),⇑w,f,.own (.lst []),.none,.none,.none,.none] :=
    G5 (KH (x:=.int w) (y:=.tup (aj c)) rfl (sI (x:=aQ w c) (y:=.int 1) rfl rfl i1) htr) rfl
   show dA (jC 8 9 _ _ _)=_;unfold jC;rw[X];simp only[R.bind_ok];rw[uy];rfl
  refine(dR (QF (Ml (MA (x:=aQ w c) rfl hpr) (AG (hou _ _)) (K6 _)))).trans ?_;refine(dR (ε1:=[bJ b,.own (.lst d),⇑m,⇑sp,.val (aQ w c),⇑w,f,.own (.lst ((dueL w L).map br)),l,j,.val .non,.none]) rfl).trans ?_;refine(dR (ε1:=[bJ b,.own (.lst d),⇑m,⇑sp,.val (aQ w c),⇑w,f,.own (.lst ((dueL w L).map br)),l,j,.val (rf 5),.none]) ?_).trans rfl;have W:tX a [bJ b,.own (.lst d),⇑m,⇑sp,.val (aQ w c),⇑w,f,.own (.lst ((dueL w L).map br)),l,j,.val .non,.none]=.er (.ref a.Full) [bJ b,.own (.lst d),⇑m,⇑sp,.val (aQ w c),⇑w,f,.own (.lst ((dueL w L).map br)),l,j,.val .non,.none] :=N4 (Bh rfl (sI (x:=.tup [.str (bK w 97)]) (y:=.int 7) (AI (sI (x:=.str [97]) (y:=.int w) rfl rfl hmu) rfl) rfl hmt)) h7;have J:=Tr (a:=a) q (bJ b) (.own (.lst d)) (⇑m) (⇑sp) (.val (aQ w c)) (⇑w) f (.own (.lst ((dueL w L).map br))) l j (.val .non);generalize hX a=HX at J;generalize tX a=TX at W;generalize (dueL w L).map br=DU at J W;generalize aQ w c=VV at J W;generalize rf 5=RF at J;simp[vp,W,cF,J]
 simp[uT,cb,gW,b_,bK,K,back,iX,aJ,R.bind]
end
open L2 Pu Sh
def vC(K:ay)(a:Ad):Bool:=pq K a.SlitError vf "ValueError.__new__" && (iJ a).all (λx=>pq K x vf "ValueError.__new__" && subB K a.SlitError x&&yw K x&&(iJ a).all (λd=>iO K (.ref x) (.ref d) == aa (x == d))&&iO K (.ref x) (.type "ValueError") == aa ag)&&Ai K&&decide (iJ a).Nodup
section
variable{K:ay}{h g:az}{i:Str->Option ai}{a:Ad}
theorem rX(h:vC K a=ag):pq K a.SlitError vf "ValueError.__new__"=ag/\(∀x∈iJ a,pq K x vf "ValueError.__new__"=ag/\subB K a.SlitError x=ag/\yw K x=ag/\(∀d∈iJ a,iO K (.ref x) (.ref d)=aa (x == d))/\iO K (.ref x) (.type "ValueError")=aa ag)/\Ai K=ag/\(iJ a).Nodup:=by unfold vC at h;simp only[gK,nR,beq_iff_eq,decide_eq_true_eq]at h;obtain⟨⟨⟨l,c⟩,j⟩,f⟩:=h;exact⟨l,λx b=>⟨(c x b).1.1.1.1,(c x b).1.1.1.2,(c x b).1.1.2,(c x b).1.2,(c x b).2⟩,j,f⟩
theorem P5(h:vC K a=ag):AY K (jk a):=by
 obtain⟨_,l,_,_⟩:=rX h;intro c D b e;unfold jk at e;split at e
 .rename_i x d;split at e
  .rename_i f;rw[gK]at f;cases e;have j:x∈iJ a:=by simpa using f.1
   have m:d∈iJ a:=by simpa using f.2
   exact⟨x,.ref d,rfl,Fw (l x j).2.2.1,rfl,(l x j).2.2.2.1 d m⟩
  .cases e
 .rename_i x T;split at e
  .rename_i f;rw[gK]at f;cases e;have j:x∈iJ a:=by simpa using f.1
   have n:T = "ValueError":=by simpa using f.2
   subst n;exact⟨x,.type "ValueError",rfl,Fw (l x j).2.2.1,rfl,(l x j).2.2.2.2⟩
  .cases e
 .cases e
theorem QE(X:K.In g)(h:vC K a=ag):∀c,pP a c=ag->Under g a.SlitError c:=by
 obtain⟨_,d,_,_⟩:=rX h;intro c e;unfold pP at e;split at e
 .rename_i x;have b:x∈iJ a:=by simpa using e
  exact MU X (d x b).1 (d x b).2.1
 .cases e
structure Top(K:ay)(a:Ad):Prop where
 yaz:ef K "_law_cell_at" Au
 yaB:ef K "_law_mixed" Am
 yaA:ef K "_law_draw" Bm
 yaD:ef K "_law_seen" xH
 yaC:ef K "_law_pick" Cn
 yaE:ef K "_law_text" Bc
 yaH:ef K "_law_view" AQ
 yaG:ef K "_law_under" ze
 yaF:ef K "_law_trails" vE
 yay:ef K "_law_all" uJ
 yau:ef K "is_whole_number" AU
 yav:ef K "is_width" CC
 yar:ef K "has_only" x0
 yaw:ef K "is_window" B8
 yan:ef K "are_windows" yb
 yat:ef K "is_view_with" BX
 yas:ef K "is_view" By
 yap:ef K "check_view" CD
 yao:ef K "check_shared_view" Bp
 yaK:ef K "partings" xD
 yam:ef K "add_endings" A6
 yaq:ef K "counted" AJ
 yaL:ef K "texts" zh
 yaJ:ef K "pairs" AM
 yaI:ef K "_law_which" A8
 yax:ef K "law" uA
 yaM:cU K bW "ValueError"=aa ae
 yaN:cU K bW "all"=aa ae
 yaO:cU K bW "any"=aa ae
 yaP:cU K bW "bool"=aa ae
 yaQ:cU K bW "int"=aa ae
 yaR:cU K bW "isinstance"=aa ae
 yaS:cU K bW "len"=aa ae
 yaT:cU K bW "list"=aa ae
 yaU:cU K bW "max"=aa ae
 yaV:cU K bW "min"=aa ae
 yaW:cU K bW "range"=aa ae
 yaX:cU K bW "set"=aa ae
 yaY:cU K bW "sorted"=aa ae
 yaZ:cU K bW "str"=aa ae
 ya0:cU K bW "tuple"=aa ae
 ya3:∃t,cU K bW "LETTERS"=aa (aa (.str (tS [97,98,99]) t))
 ya4:∃t,cU K bW "MOST_WINDOWS"=aa (aa (.int 9 t))
 ya5:∃t,cU K bW "MOST_WINDOWS_SHARED"=aa (aa (.int 6 t))
 ya6:∃t,cU K bW "WIDEST"=aa (aa (.int 4 t))
 yak:cU K bW "SlitError"=aa (aa (.ref a.SlitError))
 yaf:cU K bW "NoText"=aa (aa (.ref a.NoText))
 yah:cU K bW "NoWidth"=aa (aa (.ref a.NoWidth))
 yag:cU K bW "NoView"=aa (aa (.ref a.NoView))
 yai:cU K bW "NoWindow"=aa (aa (.ref a.NoWindow))
 yac:cU K bW "Never"=aa (aa (.ref a.Never))
 yab:cU K bW "Full"=aa (aa (.ref a.Full))
 yaj:cU K bW "Nothing"=aa (aa (.ref a.Nothing))
 yal:cU K bW "Unlike"=aa (aa (.ref a.Unlike))
 yae:cU K bW "NoPlace"=aa (aa (.ref a.NoPlace))
 yad:cU K bW "NoLetters"=aa (aa (.ref a.NoLetters))
 yaa:cU K bW "BadText"=aa (aa (.ref a.BadText))
 ck:vC K a=ag
 z0:qx K "least_ending"=ae
 wh:Wh a
theorem M5(T:Top K a)(X:K.In g)(G:g.Ns bW i):eu K i g a where
 yaz:=T.yaz.at X G
 yaB:=T.yaB.at X G
 yaA:=T.yaA.at X G
 yaD:=T.yaD.at X G
 yaC:=T.yaC.at X G
 yaE:=T.yaE.at X G
 yaH:=T.yaH.at X G
 yaG:=T.yaG.at X G
 yaF:=T.yaF.at X G
 yay:=T.yay.at X G
 yau:=T.yau.at X G
 yav:=T.yav.at X G
 yar:=T.yar.at X G
 yaw:=T.yaw.at X G
 yan:=T.yan.at X G
 yat:=T.yat.at X G
 yas:=T.yas.at X G
 yap:=T.yap.at X G
 yao:=T.yao.at X G
 yaK:=T.yaK.at X G
 yam:=T.yam.at X G
 yaq:=T.yaq.at X G
 yaL:=T.yaL.at X G
 yaJ:=T.yaJ.at X G
 yaI:=T.yaI.at X G
 yax:=T.yax.at X G
 yaM:=jK X G T.yaM
 yaN:=jK X G T.yaN
 yaO:=jK X G T.yaO
 yaP:=jK X G T.yaP
 yaQ:=jK X G T.yaQ
 yaR:=jK X G T.yaR
 yaS:=jK X G T.yaS
 yaT:=jK X G T.yaT
 yaU:=jK X G T.yaU
 yaV:=jK X G T.yaV
 yaW:=jK X G T.yaW
 yaX:=jK X G T.yaX
 yaY:=jK X G T.yaY
 yaZ:=jK X G T.yaZ
 ya0:=jK X G T.ya0
 ya3:=T.ya3.imp λ_ e=>hU X G e
 ya4:=T.ya4.imp λ_ e=>hU X G e
 ya5:=T.ya5.imp λ_ e=>hU X G e
 ya6:=T.ya6.imp λ_ e=>hU X G e
 yak:=hU X G T.yak
 yaf:=hU X G T.yaf
 yah:=hU X G T.yah
 yag:=hU X G T.yag
 yai:=hU X G T.yai
 yac:=hU X G T.yac
 yab:=hU X G T.yab
 yaj:=hU X G T.yaj
 yal:=hU X G T.yal
 yae:=hU X G T.yae
 yad:=hU X G T.yad
 yaa:=hU X G T.yaa
 ya2:=E8 X (hU X G T.yag) ((rX T.ck).2.1 a.NoView (by simp[iJ])).1
 ya1:=E8 X (hU X G T.yab) ((rX T.ck).2.1 a.Full (by simp[iJ])).1
 err_SlitError:=Ry X (rX T.ck).1
 und:=QE X T.ck
 tab:=P5 T.ck
theorem Oa{l:CW}{w:aG}{d:af}(X:K.In h)(G:h.Ns bW i)(b:i "law"=aa (.ref d))(T:Top K a):∃c:iw,(∀(s:ao) (v:ai),BindsTo s c ⟨[v],[]⟩ [("_law_script",v)])/\∀g:az,K.In g->g.Ns bW i->k6 l.prog w K i g (c7 l.prog w) 16 d c ["_law_script"] (cg K (uT a)):=by
 obtain⟨f,oc,x,kV,y,u,B,A,z,r,o,n,m,j⟩:=T.yax;have e:=b.symm.trans (hU X G o);cases e;exact⟨_,λs v=>.of_eq rfl,λg p q=>OW (M5 T p q) (HC n m j)⟩
theorem NC{l:CW}{q:aO}{j:List Str}{XP:(Str->Option ai)->az->Prop}{o:aG->az->Prop}{d:DefRec}{K:Params->ay}(y:l.most=aa 63)(u:d.params.defaults=[])(m:d.name = "law")(A:∀(w:aG) (h:az),o w h->(K w.params).In h) {a:Ad} (T:∀w:aG,Top (K w.params) a):PySem.W.WalkO q j XP o l.row.toRowW d [] (λf r=>PySem.call f r) :=
 L2.Us (n:=63) (k:=16) (x:="_law_script") (K:=K) (CX:=λw=>c7 l.prog w) (sp:=λw=>cg (K w.params) (uT a)) y (by decide) u ⟨rfl,by decide,by decide⟩ (λw h Y=>⟨A w h Y,λc P e=>by rw[(T w).z0]at e;cases e⟩)
  (λw i F h C G p=>Oa C G (by rw[<-m];exact p) (T w))
  (λw H b v E _ B=>RX (Rf (rX (T w).ck).2.2.1 B) (OP (T w).wh v))
  (λw H s e D z=>by obtain⟨_,_,_,_,_,_,_,_,_,_,_,f⟩:=z;exact f)
theorem Uo{l:CW}{q:aO}{b:List Str}{XP:(Str->Option ai)->az->Prop}{j:aG->az->Prop}{d:DefRec}{K:Params->ay}{yak yaf yah yag yai yac yab yaj yal yae yad yaa:af}(o:l.most=aa 63)(n:d.params.defaults=[])(c:d.name = "law")(p:∀(w:aG) (h:az),j w h->(K w.params).In h) (T:∀w:aG,Top (K w.params) ⟨yak,yaf,yah,yag,yai,yac,yab,yaj,yal,yae,yad,yaa,0,0⟩):PySem.W.WalkO q b XP j l.row.toRowW d [] (λf m=>PySem.call f m):=NC o n c p T
end
end K26
set_option genInjectivity false in
structure PySem.W.Fast:Prop where(tw16957036632958980182 tw5964761484835546501 tw7641509050026390764 tw12093783708190712576 tw1539232311212827012 tw11720055804230348361 tw476294024795518671 tw2974411366730474240 tw13402115989663099637 tw6325216882847190592 tw12879513393277727327 tw1155368542310498038 tw16088224021029509679 tw15829951683311441827 tw16916053756850251922 tw12204612683083327734 tw4420488787324848377 tw2658947182431800147 tw15512785273914359363 tw2608950804468031834 tw2932608148216876561 tw13834672484400191357 tw368723272353964550 tw11365324768515870141 tw15404073084341049987 tw11510939290969789966 tw707208796266383281 tw8200822354649742685 tw16247084139967212690 tw16942915136648386408 tw674192874867616864 tw11163100907407062438 tw12012113211563205958 tw8353199511334819513 tw10104725505550652560 tw2018939062142303095 tw6210521717971420682 tw10472008400773610339 tw7310489625832767140 tw14030934791898226369 tw17250109757639708670 tw1167267551597855850 tw11310560252034596813 tw10321590678729303448 tw7505818958518955716 tw7155017050993677417 tw8652893660042390258 tw2816727950463695449 tw4982195816435549702 tw5280359319131639191 tw16262740440728221687 tw6797850987256709649 tw2530195213816395145 tw6408267391269673544 tw786573320235398514 tw7124804093763064799 tw18172062394941218180 tw2332587958299304984 tw12960430512169023885 tw7312515636719046123 tw7122434657911788382 tw15305062596258067203 tw7065158575268422872 tw10546001472623589598 tw131680122852335505 tw17891668130820147803 tw6456673906024048266 tw8813993176970925577 tw4394198004157821789 tw3459223057550544999 tw2452176347956746434 tw3495346242655701769 tw9027576295376241669 tw13177453211761346211 tw10360670259147443877 tw13035127260907556100 tw14879901069895018087 tw70185094828327418 tw8882622009231661490 tw7110124743939768615 tw16876681479944973124 tw128940592956192257 tw2217444158085316314 tw3363524472275718768 tw15471590199813470561 tw12045772492875660145 tw17112417706091909976 tw7853064822844475118 tw17992714445209755993 tw3935110080308219240 tw6282633443672407789 tw5186405603361183209 tw847781813322150043 tw674747822870401986 tw2748982992378091854 tw7534719705600318421 tw15587005760874378890 tw11591255939784812227 tw4469907812999706386 tw14023386354550612603 tw237225456678344106 tw17006228955935012257 tw2990937847486467695 tw6839917252315372360 tw442982289344421231 tw5501610931585122561 tw14014239562379476629 tw10006773870402550849 tw8085556614745641374 tw13151100133141365418 tw9525033859814692664 tw9559378261894879838 tw4487147485732686991 tw14165134402211185343 tw6999536897587609383 tw15678796130182937744 tw10906083630764975542 tw2140665259143791430 tw16035287197041687534 tw11630132985645712552 tw2280749500133357770 tw16182501311611546974 tw8795553773625858275 tw15494733576646612332 tw8653641162195646940 tw1223286973776099045 tw9536658660787303248 tw18041497635842513473 tw7751227243803457742 tw2759153692012548768 tw7896160526358553220 tw12003734341276932032 tw10184171287476284404 tw7977967803691400683 tw7905628117221826485 tw336675093791534510 tw13872446656042911120 tw8295508819963117312 tw18232591229533614916 tw334038848831863057 tw8850732112589596304 tw8015076798903412341 tw11200355892100322578 tw296962180127860378 tw7172941597453535925 tw18160041754047139881 tw7110030437461038753 tw3750071340348214768 tw5289092656491460899 tw12708583277293813042 tw12711524349919091907 tw3193204699506749696 tw12294268233033383902 tw17054479810510167033 tw11586068614303469529 tw12039499457051846048 tw14340722707690397556 tw13542883284915874541 tw4013794952413514808 tw13330045445284158025 tw18269948732502377481 tw14097226160360187910 tw15931615867169639825 tw17045516482380962367 tw12465938155023893887 tw2844066217649294307 tw10770313041823507915 tw8483379694559385170 tw14263260547319156264 tw238374896061940920 tw2340697222062922322 tw4244627087349808590 tw15899303964816385762 tw3050782887980839009 tw8206408115656107203 tw2860945276143685892 tw9087562093374551573 tw13148804934350889781 tw17061205382826914761 tw6167982193845331964 tw8010174590662027965 tw7760926906260744382 tw14949175278371175611 tw18328195059854195848 tw12762825262441283106 tw2733119435852166441 tw13707484113053398942 tw16232808990777582038 tw8239112846992663581 tw17012852415556571422 tw11546253101806664277 tw3493066543884736604 tw4702172884636072367 tw16487242284716249534 tw7225759135858580073 tw4494799882611276924 tw16613597451426710214 tw11924214941045515885 tw9879363667477762096 tw3014194603388693855 tw105867156248477238 tw2504132082964989270 tw18168011100706752407 tw16626339617121175857 tw7029001208122078984 tw7718374016605542059 tw12611287644397078182 tw8396279745677155443 tw9315180691614658117 tw15893519071115928223 tw5501885687327288197 tw14344244971573795279 tw12207117437338590611 tw4330115207932072195 tw1767118716454951746 tw2912833414652593509 tw16399390294340925114 tw14650819404561473419 tw15190108331378831827 tw4751237236261022689 tw5279512018574069024 tw5658025929558376825 tw3862046347733378246 tw12604474871183880665 tw4708846456703487795 tw14287969971346866368 tw9058472289036214827 tw6424370891836144362 tw9910729302954590455 tw16851443366827295418 tw15139390502127294475 tw11981508086448004180 tw10670474792617877916 tw13963044914015876294 tw11550414358698352080 tw5394841812376556302 tw14216702154077145605 tw3213851092180358178 tw6647876514083758258 tw17511753147943276665 tw13814033875216547103 tw17844560619245271783 tw2447340397635478360 tw17468417107243555213 tw17076442857426920470 tw12070973119186727213 tw5756763045493618902 tw4938507122668187268 tw12696335348095643129 tw227363640423865515 tw18237031243176398552 tw2014520564451511944 tw15837182136834141540 tw5829731879850998222 tw14665556634372545516 tw9347642470217169699 tw2271440673765525597 tw8695323627581709340 tw10641991217467464605 tw12824145161037094026 tw2483045072649392195 tw3887793579866623815 tw16883575823694404819 tw8282995094676055638 tw9357200618862014737 tw9889440173170063351 tw13851465966170525032 tw17716666354306570261 tw15425661873972878576 tw17652647784255972864 tw5615102815603395687 tw10432525355385749648 tw2884101792965685875 tw11082135443950237557 tw16904182476355520958 tw15524316230524791582 tw15872719981614413971 tw2890078145759778840 tw7680395344246816368 tw13803820173911434412 tw16543066486981020866 tw3331642456032132290 tw7914471163640701188 tw8133155577314356153 tw7351656759515880953 tw1843951456105203448 tw10549419944551309934 tw10661462213745765977 tw16572331077159244107 tw12146087148717690269 tw9583058779207483057 tw8299614982200396582 tw4133744804312848116 tw2042939477437802960 tw16925462556217801070 tw1484954945621720808 tw15494986895385358494 tw2273242738996693855 tw5580247450593877777 tw16371336893946959625 tw15599006066725503612 tw14925832316152717924 tw12259428808658897657 tw1940362652265499268 tw6956165131737835998 tw7537157840505557840 tw798883358395807757 tw15194926146477962403 tw14247054303564683550 tw16357576846424471394 tw780059913526811109 tw9216769382372616862 tw8827272463785002778 tw7727709919937601246 tw3878554967986308081 tw10856206565263888562 tw13815259685719265008 tw16620185682365836420 tw6951607993866965156 tw6106775760290351125 tw3866456737625894907 tw14015003262591688321 tw3499712069166273702 tw8740897102755422270 tw5302098544565330517 tw17824752252242815237 tw13947909500332315920 tw17221505765004346129 tw17697308725941120756 tw2693105164634745512 tw18040559924813918661 tw15179115762384868677 tw1736309708320705740 tw17813698766558878503 tw18308555214258858735:True)
open PySem PySem.W PyProof.Rows
set_option maxRecDepth 100000 in
set_option maxHeartbeats 0 in
theorem PySem.Challenge.cw_slitview_k26_whole_pairs_holds : PySem.Challenge.rw_slitview_k26_whole_pairs.Holds := by
 w_on; o_law; k_head; (case hw=>w_witness2)
 k_fill
 refine' K26.Uo (l:=PySem.Challenge.rw_slitview_k26_whole_pairs) rfl rfl rfl (fun w h Y=>PySem.W.kIn_of Y) ?T
 case T =>
  intro w
  refine' { yaz:=?yaz,yaB:=?yaB,yaA:=?yaA,yaD:=?yaD,yaC:=?yaC,yaE:=?yaE,yaH:=?yaH,yaG:=?yaG,yaF:=?yaF,yay:=?yay,yau:=?yau,yav:=?yav,yar:=?yar,yaw:=?yaw,yan:=?yan,yat:=?yat,yas:=?yas,yap:=?yap,yao:=?yao,yaK:=?yaK,yam:=?yam,yaq:=?yaq,yaL:=?yaL,yaJ:=?yaJ,yaI:=?yaI,yax:=?yax,yaM:=?yaM,yaN:=?yaN,yaO:=?yaO,yaP:=?yaP,yaQ:=?yaQ,yaR:=?yaR,yaS:=?yaS,yaT:=?yaT,yaU:=?yaU,yaV:=?yaV,yaW:=?yaW,yaX:=?yaX,yaY:=?yaY,yaZ:=?yaZ,ya0:=?ya0,ya3:=?ya3,ya4:=?ya4,ya5:=?ya5,ya6:=?ya6,yak:=?yak,yaf:=?yaf,yah:=?yah,yag:=?yag,yai:=?yai,yac:=?yac,yab:=?yab,yaj:=?yaj,yal:=?yal,yae:=?yae,yad:=?yad,yaa:=?yaa,ck:=?ck,z0:=?z0,wh:=?wh }
  (case yak=>k_is)
  (case yaf=>k_is)
  (case yah=>k_is)
  (case yag=>k_is)
  (case yai=>k_is)
  (case yac=>k_is)
  (case yab=>k_is)
  (case yaj=>k_is)
  (case yal=>k_is)
  (case yae=>k_is)
  (case yad=>k_is)
  (case yaa=>k_is)
  (case yaz=>and_intros)
  (case yaB=>and_intros)
  (case yaA=>and_intros)
  (case yaD=>and_intros)
  (case yaC=>and_intros)
  (case yaE=>and_intros)
  (case yaH=>and_intros)
  (case yaG=>and_intros)
  (case yaF=>and_intros)
  (case yay=>and_intros)
  (case yau=>and_intros)
  (case yav=>and_intros)
  (case yar=>and_intros)
  (case yaw=>and_intros)
  (case yan=>and_intros)
  (case yat=>and_intros)
  (case yas=>and_intros)
  (case yap=>and_intros)
  (case yao=>and_intros)
  (case yaK=>and_intros)
  (case yam=>and_intros)
  (case yaq=>and_intros)
  (case yaL=>and_intros)
  (case yaJ=>and_intros)
  (case yaI=>and_intros)
  (case yax=>and_intros)
  (case yaM=>k_is)
  (case yaN=>k_is)
  (case yaO=>k_is)
  (case yaP=>k_is)
  (case yaQ=>k_is)
  (case yaR=>k_is)
  (case yaS=>k_is)
  (case yaT=>k_is)
  (case yaU=>k_is)
  (case yaV=>k_is)
  (case yaW=>k_is)
  (case yaX=>k_is)
  (case yaY=>k_is)
  (case yaZ=>k_is)
  (case ya0=>k_is)
  (case ya3=>refine' Pu.Uh ?e; (case e=>k_is))
  (case ya4=>refine' Pu.Ul ?e; (case e=>k_is))
  (case ya5=>refine' Pu.Ul ?e; (case e=>k_is))
  (case ya6=>refine' Pu.Ul ?e; (case e=>k_is))
  (case ck=>kernel_rfl)
  (case z0=>kernel_rfl)
  (case wh=>refine K26.Um ?_; kernel_rfl)
