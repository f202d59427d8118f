import PyProof.Rows.All
import Wide.All
import OpenK.AllK
import Wide.FinOn
import Lean
import PyProof.EqAt
import PyProof.EqKinds
import PyProof.TupleCall
import KE.KIntText
import KE.KDictList
import KE.KDictSum
import PyProof.Rows.Range3
import PyProof.DictWalks
import KE.KMinKey
import KE.KSortTup
import PyProof.EnumStmt
import PyProof.EnumMake
import PyProof.EnumFor
import PyProof.Draws
import PyProof.Rows.TupDisplay
import PyProof.Rows.SumAny
import KE.LcSums
import PyProof.FString5
import PyProof.WalkInts
import KE.KDictLaws
import PySem.Challenge.RW_slitview_k28_whole_bundle
noncomputable section
set_option compiler.extract_closed false
local macro_rules | `(tactic| eq_refl) => `(tactic| first | exact Or.inl rfl | exact Or.inr (Or.inl rfl) | exact Or.inr (Or.inr rfl) | fail)
local macro_rules | `(tactic| ac_rfl) => `(tactic| first | assumption| with_reducible rfl|exact Nat.le_refl _|exact Nat.zero_le _|exact Nat.succ_pos _|exact Nat.le_succ _|exact Nat.le_add_left _ _|exact Nat.le_add_right _ _|exact Nat.sub_le _ _|exact Nat.le_of_lt ‹_›|exact Nat.pos_of_ne_zero ‹_›|exact Nat.zero_lt_of_lt ‹_›|exact Nat.lt_of_not_le ‹_›|exact Nat.le_of_not_lt ‹_›|exact Nat.lt_succ_of_le ‹_›|exact Nat.le_of_lt_succ ‹_›|exact Nat.le_of_eq ‹_›|exact Eq.symm ‹_›|exact Nat.ne_of_gt ‹_›|exact Nat.ne_of_lt ‹_›|exact Nat.lt_of_lt_of_le ‹_› ‹_›|exact Nat.lt_of_le_of_lt ‹_› ‹_›|exact Nat.le_trans ‹_› ‹_›|exact Nat.lt_trans ‹_› ‹_›|exact Nat.not_lt_of_le ‹_›|exact Nat.not_le_of_lt ‹_›|exact absurd ‹_› (Nat.not_lt_of_le ‹_›)|exact Nat.lt_of_le_of_lt (Nat.le_add_right _ _) ‹_›|exact Nat.le_trans (Nat.le_add_right _ _) ‹_›|exact Nat.le_trans (Nat.le_add_left _ _) ‹_›|(refine Nat.lt_of_le_of_lt (Nat.add_le_add_left ?_ _) ‹_›; decide)|exact Nat.lt_of_le_of_lt ‹_› (by decide)|exact Nat.le_trans ‹_› (by decide)|exact Nat.le_of_lt (Nat.lt_of_lt_of_le ‹_› (by decide))|exact Nat.le_trans (Nat.sub_le _ _) ‹_›|exact Nat.lt_of_le_of_lt (Nat.sub_le _ _) ‹_› | lia | omega)
local macro_rules | `(∅) => `(by ac_rfl)
local macro_rules | `(nofun) => `(by omega)
local macro_rules | `(⋯) => `(by simp_all)
set_option Elab.async false
set_option bootstrap.genMatcherCode false
set_option genSizeOf false
set_option linter.all false
set_option maxRecDepth 100000
local macro_rules | `(tactic| mleft) => `(tactic| first | exact .inl rfl | exact .inr rfl | assumption)
local macro_rules | `(~~~$x) => `(by simpa using $x)
local macro_rules | `(tactic| ac_nf) => `(tactic| exact ⟨rfl,rfl,rfl,by decide +kernel,rfl,by decide +kernel,by decide +kernel⟩)
open Option renaming some->aa,none->ac,bind_some->eZ,bind_eq_some_iff->kJ,map_eq_some_iff->lE,map_some->vO,isSome_iff_exists->Cs,isSome_map->CF,getD_none->Jg
open PySem renaming Addr->ae,Value->ah,Shared->ao,wpAny_bind->aq,wpAny->au,model->ax,Heap->aA,Expr->aB,wpAny_pure->aE,World->aJ,starEach->aK,eval->aQ,Program->aS,Around->aY,Stmt->bb,sizeLine->bd,mainGlobals->b7,SetTable->cj,backTo->cx,compareOp->df,Scope->dG,bootBuiltins->d_,rawInt->ee,wpAny_mono->eU,cellsFrom->fF,bindArgs->fY,Keyword->gk,strKind->gq,NameKind->gK,wpAny_holding->ig,FuncData->ii,wpAny_loadPart'->il,binaryOp->iH,attributeBase->i8,swapsWith->jj,Paired->kD,sysModules->lq,holding->lv,foldedSetIterable->lw,codeAny->lA,mem_of_lookup->lB,IsPart->lC,wpAny_setState_of->lG,unsupported->lH,backToKw->mh,keywordEach->mi,codeAny_builtin->mo,isTrue->nH,behindInMarks->nI,wpAny_truthy_bool->nJ,getItem->nK,wpAny_newObj_type->nL,call_meets->nN,plainId_quiet->nU,setNext->nV,setField->nW,assign->oS,pyIter->oU,builtinsNs->qo,codeAny_mono->qt,wpAny_field->qx,wpAny_call_entry->qy,wpAny_rule->qD,wpAny_of_eq->qE,assignEach->sU,wpAny_passesOwn->sV,sizeLine_eq->sX,wpAny_typeOf->sZ,valueAt->tf,callerA->tj,relayAll->tw,wpAny_askSetting->tz,wpAny_setField->tD,wpAny_seqItems->tE,setSearchFrom->tP,reduceHash->vy,tupleKind->vz,wpAny_execs_nil->vB,wpAny_Call_Name_kw->vE,wpAny_specialOf->vI,setFlight->vP,eqIsQuiet->vU,ofAClassStatement->vV,hashByValue->vW,wpAny_forIn_list->vX,PassesOwn->yP,wpAny_call->yS,sliceBounds->yU,tupleKind_room_in1->yX,noteFrame->yY,isInstance->y4,pickOrder->y6,setsByText->y8,wpAny_ite_split->y9,wpAny_tryCatch->zf,letOwnedTupleGo->Cq,subscripted->Cy,wpAny_pyIter_list->CJ,setAddHashed->CQ,wpAny_storeSet_of->CS,fits_of_scanBound->CT,wpAny_newList->C9,wpAny_updateSeq->Dk,wpAny_letGo->Dl,wpAny_execs_cons->IT,noFill_tuple_add->IZ,wpAny_callSpecial?_slot->Je,checkBuiltinCall->Jr,wpAny_isInstance->Ju,wpAny_loadPart_at->Jz,searchCouldBeSeen->JF
open Bool renaming true->ai,false->am,false_eq_true->fG,and_eq_true->gL,false_ne_true->kG,not_true->mr,eq_iff_iff->vC,and_false->vK,not_false->vY,or_eq_true->y0,eq_false_iff->C3,false_xor->Dc
open PySem.W renaming Frag->ay,nsIn->cJ,fnOf->iI,kitOne->jk,kia_one->lz,excIn->o5,tabIn->qp,findIn->qr,keepIn->qu,hashAt->qH,InstAt->vD,codeIn->vG,mroIn->yR,mg_of->zd,OpenLaw->CG,clsIn->C0,kat_cons->Di,kat_no->Dj,methodObj->IS,specialIn->IV,callWith_K->IX,cellsFrom_some->IY,KatTups->UC
open Nat renaming le_refl->bc,le_trans->bT,ne_of_lt->dE,zero_le->gn,lt_of_lt_of_le->gH,le_of_lt->jZ,lt_irrefl->lr,mod_lt->nX,not_lt_zero->nY,zero_add->nZ,lt_trans->oX,le_of_eq->oZ,ne_of_gt->sW,lt_of_le_of_lt->tm,pow_succ->tJ,mul_comm->tK,succ_pos->tL,eq_zero_or_pos->tT,lt_succ_of_lt->y_,le_succ->CD,sub_self->C5,mod_eq_of_lt->Da,mul_le_mul_left->Dr,lt_succ_self->Jv,add_right_comm->JD,pow_le_pow_right->JT,mul_le_mul_right->JY
open List renaming replicate->bz,mem_cons->bQ,mem_map->b8,map_cons->cn,range->cu,length_cons->cI,map_map->cU,length_map->cX,getElem?_eq_some_iff->c_,size_toArray->dW,length_append->ef,getElem?_set_ne->eE,getElem?_eq_getElem->fj,mem_cons_of_mem->fE,append_assoc->fZ,append_nil->gJ,nil_append->gM,getElem?_set_self->ie,nodup_cons->ik,length_set->iJ,sum_cons->iK,mem_cons_self->i4,mem_append_right->i6,getElem?_map->jl,map_congr_left->jm,mem_singleton->jo,mem_filter->jF,getElem?_append_left->jG,pairwise_cons->jH,not_mem_nil->jI,mem_flatMap->jJ,mem_range->kE,map_nil->kI,mem_append->lu,foldl_cons->lD,eq_nil_of_length_eq_zero->lF,filterMap_cons->mf,find?_cons->mj,map_append->ml,take_of_length_le->mn,dropLast->mw,lookup_cons->nO,mem_of_getElem?->oV,length_nil->oY,take_append_drop->o7,flatMap_cons->o8,length->qw,any_cons->qz,range_succ->qB,length_eq_zero_iff->qI,perm_cons_erase->qJ,all_cons->s_,all_eq_true->tq,pairwise_map->tt,getElem?_eq_none->tF,filter_map->tR,length_pos_iff->tU,getElem?_append_right->vF,drop_zero->vJ,getElem_mem->vL,mergeSort_perm->vM,getElem_of_mem->vR,cons_append->vZ,Perm->v4,length_filter_le->v5,mem_append_left->yO,mem_filterMap->yQ,of_mem_zip->yT,replicate_succ->yV,range_succ_eq_map->yZ,ext_getElem?->za,mem_iff_getElem?->zc,pairwise_iff_getElem->ze,flatMap_nil->zg,filter_eq_self->zi,length_drop->Cu,flatten_cons->CB,lookup->CH,getElem?_range->CI,toList_toArray->CL,pairwise_singleton->CN,getElem?_zip_eq_some->CV,getElem?_drop->CW,drop_eq_getElem_cons->CY,not_lt->Dh,any_eq_true->Dm,count_pos_iff->Do,perm_append_comm->Dp,filter_congr->Dq,length_take->Jd,lookup_append->Jk,pairwise_mergeSort->Jl,foldl_append->Jp,eraseIdx_cons_succ->Js,map_filterMap->Jw,drop_length->Jy,length_dropLast->JB,dropLast_concat->JC,zip_cons_cons->JE,perm_middle->JG,cons_lt_cons_iff->JH,filter_append->JI,drop_eq_nil_of_le->JJ,length_singleton->JL,length_erase_of_mem->JM,count_append->JN,isEmpty_nil->JO,drop_of_length_le->JQ,count_cons_self->JR,dropLast_eq_take->JS,length_eq_one_iff->JU,exists_mem_of_ne_nil->JW,filter_append_perm->JX,findIdx?_eq_some_iff_getElem->Uy,take_succ_eq_append_getElem->UB,drop_append_of_le_length->UD
open PySem.Heap renaming lt_size->bC,get?_push_of_some->bD,get?_push_size->cS,SameBut->kF,get?_update_other->nM,get?_update_self->oW,get?_none_of_le->vA,get?_update_ne->Jx
open PyProof.Rows renaming StrsAre->cD,wpS_bind->cT,pendingOf->dH,SortSt->et,seqObj->eu,wpS_pure->eV,SortKind->im,envOfC->i7,pairsOf->j0,size_push'->lI,AllBare->nG,wpS_mono->qF,wpS_forRange->qG,get?_update_seq->zb,slot_tuple_getitem->Cv,listUpdate_at->CU
open Ne renaming symm->dQ
open PySem.SetTable renaming bits->e7,runEnd->fk,below->jn,Probe->j5,leap->mv,grown->nP,insertAt->qC,turns->tO,laid->CO,layClean->CP,advance->Df,sizeAbove->Jm
open PySem.Obj renaming mapSeq->gm,mapFields->o4,data_mapFields->vQ,isFreed_of_fields->CZ
open Option.some renaming inj->i5
open PySem.PassesOwn renaming never->jp
open PySem.Str renaming empty->kH,ofString->sY
open Array renaming getElem?_eq_getElem->mq,getElem?_eq_some_iff->qA,length_toList->sT,perm_iff_toList_perm->C7,getD_eq_getD_getElem?->Db,forIn_toList->Dg,toList_push->Jo
open PySem.Builtin.Tuple renaming tupleHashOf->nE,tupleExact->Cw,tupleItemsOf->Jf
open PySem.Heap.SameBut renaming update->nQ,refl->Jn
open PySem.Around renaming under_plainId->nR
open Iff renaming rfl->o0
open PyProof.Rows.KeyOrd renaming kle_refl->o6,kle_trans->vS,kle_of_klt->C8
open Int renaming toNat_natCast->tu,emod_lt_of_pos->JP
open PySem.F renaming plainAttrs_list->tG,plain_min_loop->tQ,slot_tuple_add->I_,entry_tuple_add->Ja,args_tuple_add_2->Jb,slot_dict_get->Ji,plainAttrs_dict->Jj,slot_dict_values->JA,entry_min_loop->JK,slot_tuple_hash->UA
open Function renaming comp_def->tI,comp->zh
open PySem.SetTable.layClean renaming free->tN
open PySem.Value renaming isStrOf->vx
open PySem.SeqAt renaming EqAt->vH
open List.Perm renaming refl->vN,eq_of_pairwise->CM,append_left->Jt,cons_inv->JZ
open PySem.SetTable.probe renaming go->vT
open PySem.Builtin.List renaming listTooLong->yW
open List.Sublist renaming refl->zj
open PySem.Calls renaming spliced_cons->Cr,callWith_builtin->Cz,evalArgs_plain->CA,spliced_nil->IW
open PySem.Builtin.Slice renaming slicePlaces->Ct,sliceAdjust->Jc
open Nat.succ renaming inj->C4
open Exists renaming elim->C_
open List.cons renaming injEq->Dd
open PySem.SetTable.below renaming go->De
open PySem.Builtin.Str renaming occurrences->IU
open PySem.SeqAt.EqAt renaming str_str->Jh
open PyProof.Rows.F renaming plain_set_update_loop->Jq,entry_set_update_loop->Uz
open Classical renaming byContradiction->JV
open List.Nodup renaming length_le_of_subset->UE
open PySem PySem.Spec PyProof.Rows
namespace L2
noncomputable abbrev aI:=Sum Int Str
noncomputable def sy:aI->ah->Bool
 |.inl k,v=>Value.isInt k v
 |.inr x,v=>vx x v
noncomputable def T9(w:aJ):aI->Int
 |.inl k=>hashInt k
 |.inr x=>hashStr w x
theorem nt:∀{k:aI}{v:ah},sy k v=ai->(∃i t,k=Sum.inl i/\v=Value.int i t)\/(∃x t,k=Sum.inr x/\v=Value.str x t)
 |.inl i,v,h=>by obtain⟨t,e⟩:=Value.isInt_shape (k:=i) (v:=v) h;exact .inl ⟨i,t,rfl,e⟩
 |.inr x,v,h=>by obtain⟨t,e⟩:=Value.isStrOf_shape (x:=x) (v:=v) h;exact .inr ⟨x,t,rfl,e⟩
theorem Lw(i:Int)(t:Tok):sy (.inl i) (.int i t)=ai:=by simp[sy,Value.isInt]
theorem Rc(x:Str)(t:Tok):sy (.inr x) (.str x t)=ai:=by simp[sy,vx]
theorem Tc(a b:Int):decide ((Sum.inl a:aI)=Sum.inl b)=(a == b):=by lia
theorem Ts(a b:Str):decide ((Sum.inr a:aI)=Sum.inr b)=decide (a=b):=by simp
theorem M3(a:Int)(b:Str):decide ((Sum.inl a:aI)=Sum.inr b)=am:=decide_eq_false (λq=>nomatch q)
theorem Nl(a:Str)(b:Int):decide ((Sum.inr a:aI)=Sum.inl b)=am:=decide_eq_false (λq=>nomatch q)
noncomputable def gC(c:aS)(w:aJ):PySem.KeyKind c w aI where
 is:=sy
 hash:=T9 w
 inj:=λv a b l f=>by
  rcases nt l with⟨i,t,rfl,rfl⟩|⟨x,t,rfl,rfl⟩
  .rcases nt f with⟨j,u,rfl,e⟩|⟨y,u,rfl,e⟩
   .injection e with e1 _;rw[e1]
   .exact nomatch e
  .rcases nt f with⟨j,u,rfl,e⟩|⟨y,u,rfl,e⟩
   .exact nomatch e
   .injection e with e1 _;rw[e1]
 byValue:=λk v h=>by rcases nt h with⟨i,t,rfl,rfl⟩|⟨x,t,rfl,rfl⟩ <;> rfl
 pyHash:=λd h=>by
  rcases nt d with⟨i,t,rfl,rfl⟩|⟨x,t,rfl,rfl⟩
  .exact wpAny_pyHash_int h
  .exact wpAny_pyHash_str h
 eqBool:=λg d h=>by
  rcases nt g with⟨i,t,rfl,rfl⟩|⟨x,t,rfl,rfl⟩
  .rcases nt d with⟨j,u,rfl,rfl⟩|⟨y,u,rfl,rfl⟩
   .rw[Tc]at h;exact wpAny_eqBool_int h
   .rw[M3]at h;exact SeqAt.EqAt.int_str i t y u _ _ _ _ h
  .rcases nt d with⟨j,u,rfl,rfl⟩|⟨y,u,rfl,rfl⟩
   .rw[Nl]at h;exact SeqAt.EqAt.str_int x t j u _ _ _ _ h
   .rw[Ts]at h;exact wpAny_eqBool_str h
 «strs»:=λk x t v h=>by
  rcases nt h with⟨i,u,rfl,e⟩|⟨y,u,rfl,e⟩
  .exact nomatch e
  .injection e with e1 _;subst e1;cases v <;> rfl
theorem KR(a:aS)(w:aJ)(i:Int)(t:Tok):(gC a w).is (.inl i) (.int i t)=ai:=Lw i t
theorem Nm(a:aS)(w:aJ)(x:Str)(t:Tok):(gC a w).is (.inr x) (.str x t)=ai:=Rc x t
inductive V where
 |non|bl (b:Bool)|int (i:Int)|str (x:Str)|byt (b:Array UInt8)|flt (b:UInt64)|ref (a:ae)|ty (n:String)
 deriving DecidableEq
noncomputable def RelV:V->ah->Prop
 |.non,u=>u=Value.none
 |.bl b,u=>u=Value.bool b
 |.int i,u=>∃t,u=Value.int i t
 |.str x,u=>∃t,u=Value.str x t
 |.byt b,u=>∃t,u=Value.bytes b t
 |.flt b,u=>∃t,u=Value.float b t
 |.ref a,u=>u=Value.ref a
 |.ty n,u=>u=Value.type n
noncomputable abbrev bt:List V->List ah->Prop:=kD RelV
theorem bt.length(r:bt xs a):xs.length=a.length:=Paired.length r
theorem bt.get:∀{xs:List V}{a:List ah}{i:Nat}{x:V},bt xs a->xs[i]?=aa x->∃u,a[i]?=aa u/\RelV x u
 |_,_,_,_,.nil,e=>by trivial
 |_,_,0,_,.cons r _,e=>by simp at e;subst e;exact⟨_,rfl,r⟩
 |_,_,i+1,x,.cons _ t,e=>by obtain⟨u,c,b⟩:=bt.get (i:=i) (x:=x) t (by trivial);exact⟨u,by trivial,b⟩
theorem bt.set(r:RelV x u):∀{xs:List V}{a:List ah} (i:Nat),bt xs a->bt (xs.set i x) (a.set i u)
 |_,_,_,.nil=>.nil
 |_,_,0,.cons _ t=>.cons r t
 |_,_,i+1,.cons q t=>.cons q (bt.set r i t)
theorem bt.append:∀{xs a:List V}{c b:List ah},bt xs c->bt a b->bt (xs++a) (c++b)
 |_,_,_,_,.nil,s=>s
 |_,_,_,_,.cons r t,s=>.cons r (bt.append t s)
theorem bt.take:∀{xs:List V}{a:List ah} (n:Nat),bt xs a->bt (xs.take n) (a.take n)
 |_,_,0,_=>.nil
 |_,_,_+1,.nil=>.nil
 |_,_,n+1,.cons r t=>.cons r (bt.take n t)
theorem bt.drop:∀{xs:List V}{a:List ah} (n:Nat),bt xs a->bt (xs.drop n) (a.drop n)
 |_,_,0,r=>r
 |_,_,_+1,.nil=>.nil
 |_,_,n+1,.cons _ t=>bt.drop n t
noncomputable def oQ:Option V->Option ah->Prop
 |some v,aa u=>RelV v u
 |none,ac=>True
 |_,_=>False
noncomputable def KV{a:Type}:List (a×V)->List (a×ah)->Prop:=kD λ(p:a×V) (q:a×ah)=>p.1=q.1/\RelV p.2 q.2
noncomputable def kV:aI->V
 |.inl i=>.int i
 |.inr x=>.str x
inductive HO where
 |lst (xs:List V)
 |tup (xs:List V)
 |dK (kvs:List (aI×V))|dT (kvs:List (List aI×V))|dN (kvs:List ((Str×List Str)×V))
 |set (S:Int->Bool) (n:Nat)
 |ins (C dx:ae) (fs:List (Str×V))
 |own (x:ae)
 |xd (fs:List (Str×V))
 |met (f x:ae)
 |rng (lo hi:Int)
 |frz (o:Obj) (u:HO)
 |tbl (q:Str)
 |ext (φ:aA->Prop)
noncomputable abbrev Hp:=ae->Option HO
noncomputable def upd(H:Hp)(a:ae)(o:HO):Hp:=λb=>if b=a then aa o else H b
theorem upd_same:upd H a o a=aa o:=by unfold upd;simp
theorem bi(h:b≠a):upd H a o b=H b:=by unfold upd;rw[if_neg h]
theorem Lc{H:Hp}{o u:HO}(h:H a=aa o)(c:H b=aa u)(d:o≠u):a≠b:=by lia
theorem jS{H:Hp}{o:HO}(h:H a=aa o)(c:H b=ac):a≠b:=by lia
noncomputable def IQ(h:aA)(a:ae)(b:Array ah):Prop:=IsTup h a b/\∃o,h.get? a=aa o/\o.dict=ac
theorem IQ.new(h:aA)(its:Array ah):IQ (h.push {cls:=.type "tuple",data:=.seq its}) h.objs.size its:=⟨IsTup.new _ _,_,cS _ rfl,rfl⟩
section
variable(P:aS)(w:aJ)
noncomputable def Mr(k:Str×List Str):Int:=vy (nE [hashStr w k.1,vy (nE (k.2.map (hashStr w)))])
noncomputable def M5(H:Hp)(k:Str×List Str)(a:ae):Prop:=∃b,H a=aa (.tup [.str k.1,.ref b])/\H b=aa (.tup (k.2.map .str))
noncomputable def cf(H:Hp)(h:aA)(a:ae):HO->Prop
 |.lst xs=>xs.length<=bd/\∃(d:List ah) (n:Nat),bt xs d/\h.get? a=aa {cls:=.type "list",data:=.seq d.toArray n}
 |.tup xs=>xs.length<=bd/\∃d:List ah,bt xs d/\IQ h a d.toArray
 |.dK b=>b.length<=bd/\(a == lq)=am/\∃z,KV b z/\h.DictOf (gC P w) a z
 |.dT b=>b.length<=bd/\(a == lq)=am/\∃xs:List (List aI×ae×ah),
   kD (λ(p:List aI×V) (q:List aI×ae×ah)=>p.1=q.1/\H q.2.1=aa (.tup (p.1.map kV))/\RelV p.2 q.2.2) b xs /\
   ∃o i s,h.get? a=aa o/\o.ExactDict/\o.data=.dict i s/\i.toList=xs.map (entryOfKey (vz (gC P w)))/\(xs.map (·.1)).Nodup
 |.dN b=>b.length<=bd/\(a == lq)=am/\∃xs:List ((Str×List Str)×ae×ah),
   kD (λ(p:(Str×List Str)×V) (q:(Str×List Str)×ae×ah)=>p.1=q.1/\M5 H p.1 q.2.1/\RelV p.2 q.2.2) b xs /\
   ∃o i s,h.get? a=aa o/\o.ExactDict/\o.data=.dict i s/\i.toList=xs.map (λx=>⟨Mr w x.1,.ref x.2.1,x.2.2⟩)/\(xs.map (·.1)).Nodup
 |.set S n=>h.SetOf (intKind P w) a S n
 |.ins C j fs=>H j=aa (.own a)/\fs.length<=1000/\j≠a/\h.get? a=aa (PySem.W.instObj C j) /\
   ∃g,h.Ns1 j g/\(∀f,oQ (fs.lookup f) (g f))/\PySem.Within g (fs.map (·.1))
 |.own _=>∃o,h.get? a=aa o
 |.xd fs=>∃g,h.Ns1 a g/\∀f,oQ (fs.lookup f) (g f)
 |.rng D E=>∃t u v,h.get? a=aa {cls:=.type "range",data:=.fields #[.int D t,.int E u,.int 1 v]}
 |.frz o u=>h.get? a=aa o/\cf H h a u
 |.tbl q=>∃m:Array ah,h.get? a=aa {cls:=.none,data:=.fields m}/\TriplesOk m.toList/\∀r y,codeAmong r m.toList=aa y->∃c,y=.ref c/\H c=aa (.own a)/\h.CodeRec y q
 |.met f x=>h.get? a=aa (IS (.ref f) (.ref x))
 |.ext l=>l h/\(∃o,h.get? a=aa o)/\∀B A:aA,l B->(∀o,B.get? a=aa o->A.get? a=aa o)->l A
noncomputable def cV(H:Hp)(h:aA):Prop:=∀a o,H a=aa o->cf P w H h a o
end
section
variable{P:aS}{w:aJ}{H i:Hp}{h h':aA}{a:ae}{o:HO}
theorem cf.lt(x:cf P w H h a o):a<h.objs.size:=by
 cases o with
 |lst xs=>obtain⟨_,_,_,_,e⟩:=x;exact bC e
 |tup xs=>obtain⟨_,_,_,p,_⟩:=x;exact p.lt
 |dK b=>obtain⟨_,_,_,_,o,_,_,e,_⟩:=x;exact bC e
 |dT b=>obtain⟨_,_,_,_,o,_,_,e,_⟩:=x;exact bC e
 |dN b=>obtain⟨_,_,_,_,o,_,_,e,_⟩:=x;exact bC e
 |set S n=>obtain⟨o,_,_,_,e,_⟩:=x;exact bC e
 |ins C l fs=>obtain⟨_,_,_,e,_⟩:=x;exact bC e
 |own y=>obtain⟨_,e⟩:=x;exact bC e
 |xd fs=>obtain⟨_,⟨_,_,_,e,_⟩,_⟩:=x;exact bC e
 |rng g j=>obtain⟨_,_,_,e⟩:=x;exact bC e
 |frz d u=>obtain⟨e,_⟩:=x;exact bC e
 |tbl q=>obtain⟨_,e,_⟩:=x;exact bC e
 |met f y=>exact bC (show h.get? a=aa _ from x)
 |ext c=>obtain⟨_,⟨_,e⟩,_⟩:=x;exact bC e
theorem Paired.mapP:∀{d:List j}{c:List g},kD F d c->(∀a b,F a b->G a b)->kD G d c
 |_,_,.nil,_=>.nil
 |_,_,.cons r t,f=>.cons (f _ _ r) (Paired.mapP t f)
theorem cf.stay(x:cf P w H h a o)(k:∀b u,(b=a\/H b=aa (.own a))->h.get? b=aa u->h'.get? b=aa u)(M:∀b,H b=aa (.own a)->i b=aa (.own a)) (J:∀b xs,H b=aa (.tup xs)->i b=aa (.tup xs)):cf P w i h' a o:=by
 induction o with
 |lst xs=>obtain⟨z,s,n,r,e⟩:=x;exact⟨z,s,n,r,k _ _ (.inl rfl) e⟩
 |tup xs=>obtain⟨z,s,r,⟨j,e,c⟩,T,B,N⟩:=x;exact⟨z,s,r,⟨j,k _ _ (.inl rfl) e,c⟩,T,k _ _ (.inl rfl) B,N⟩
 |dK A=>obtain⟨z,y,E,r,j,l,m,e,c⟩:=x;exact⟨z,y,E,r,j,l,m,k _ _ (.inl rfl) e,c⟩
 |dT A=>obtain⟨z,y,xs,r,j,l,m,e,c⟩:=x;exact⟨z,y,xs,Paired.mapP r λp q z=>⟨z.1,J _ _ z.2.1,z.2.2⟩,j,l,m,k _ _ (.inl rfl) e,c⟩
 |dN A=>obtain⟨z,y,xs,r,j,l,m,e,c⟩:=x;exact⟨z,y,xs,Paired.mapP r λp q z=>⟨z.1,(let ⟨b,D,h2⟩:=z.2.1;⟨b,J _ _ D,J _ _ h2⟩),z.2.2⟩,j,l,m,k _ _ (.inl rfl) e,c⟩
 |set S n=>obtain⟨j,l,m,t,e,c⟩:=x;exact⟨j,l,m,t,k _ _ (.inl rfl) e,c⟩
 |ins C dx fs=>obtain⟨d,z,W,e,I,⟨G,l,m,B,c⟩,r⟩:=x;exact⟨M _ d,z,W,k _ _ (.inl rfl) e,I,⟨G,l,m,k _ _ (.inr d) B,c⟩,r⟩
 |own y=>obtain⟨j,e⟩:=x;exact⟨j,k _ _ (.inl rfl) e⟩
 |xd fs=>obtain⟨I,⟨G,l,m,e,c⟩,r⟩:=x;exact⟨I,⟨G,l,m,k _ _ (.inl rfl) e,c⟩,r⟩
 |rng lo hi=>obtain⟨t,u,v,e⟩:=x;exact⟨t,u,v,k _ _ (.inl rfl) e⟩
 |frz j u X=>obtain⟨e,q⟩:=x;exact⟨k _ _ (.inl rfl) e,X q⟩
 |tbl q=>
  obtain⟨Q,e,t,g⟩:=x;refine⟨Q,k a _ (.inl rfl) e,t,λF cv Y=>?_⟩;obtain⟨c,rfl,D,N,o,E,O,B,Z,r⟩:=g F cv Y;cases B;exact⟨c,rfl,M c D,c,o,E,O,rfl,k c _ (.inr D) Z,r⟩
 |met f y=>have e:h.get? a=aa (IS (.ref f) (.ref y)):=x;show h'.get? a=aa (IS (.ref f) (.ref y));exact k a _ (.inl rfl) e
 |ext φ=>obtain⟨p,⟨o,e⟩,L⟩:=x;exact⟨L _ _ p λo q=>k _ _ (.inl rfl) q,⟨o,k _ _ (.inl rfl) e⟩,L⟩
theorem cV.lt(x:cV P w H h)(e:H a=aa o):a<h.objs.size:=(x a o e).lt
theorem cV.fresh(x:cV P w H h)(e:h.objs.size<=a):H a=ac:=by
 cases q:H a with
 |none=>rfl
 |some u=>exact absurd (gH (x.lt q) e) (lr _)
theorem cV.kept(x:cV P w H h)(k:∀b u,h.get? b=aa u->h'.get? b=aa u):cV P w H h':=λa o e=>(x a o e).stay (λb u _ q=>k b u q) (λ_ q=>q) λ_ _ q=>q
theorem cV.laid(x:cV P w H h)(k:∀b u,h.get? b=aa u->h'.get? b=aa u)(g:h.objs.size<=a)(new:cf P w (upd H a o) h' a o):cV P w (upd H a o) h':=λb u e=>by
 have d:=x.fresh g;by_cases f:b=a
 .subst f;rw[upd_same]at e;lia
 .rw[bi f]at e;exact(x b u e).stay (λc v _ q=>k c v q) (λc q=>by rw[bi (jS q d)];exact q) λc xs q=>by rw[bi (jS q d)];exact q
end
noncomputable def Rd(H:Hp)(a:ae)(u:HO):Prop:=H a=aa u\/∃o,H a=aa (.frz o u)
theorem Rd.ok{h:aA}{a:ae}{u:HO}(r:Rd H a u)(x:cV P w H h):cf P w H h a u:=by
 rcases r with r|⟨o,r⟩
 .exact x a u r
 .obtain⟨_,q⟩:=x a _ r;exact q
noncomputable def uJ:Option HO->Prop
 |some (.lst _)=>True
 |some (.dK _)=>True
 |some (.dT _)=>True
 |some (.dN _)=>True
 |some (.set _ _)=>True
 |some (.ins _ _ _)=>True
 |some (.ext _)=>True
 |_=>False
section
variable{P:aS}{w:aJ}{H:Hp}{h a:aA}{x e:ae}{d:HO}
theorem cV.write(ok:cV P w H h)(i:uJ (H x))(p:e=x\/H e=aa (.own x))(k:∀b u,b≠e->h.get? b=aa u->a.get? b=aa u)(m:∃u,a.get? e=aa u)(new:cf P w (upd H x d) a x d):cV P w (upd H x d) a:=λb u q=>by
 have g:∀c y,H c=aa (.own y)->c≠x:=λc y r z=>by subst z;rw[r]at i;exact i
 have f:∀c xs,H c=aa (.tup xs)->c≠x:=λc xs r z=>by subst z;rw[r]at i;exact i
 by_cases l:b=x
 .subst l;rw[upd_same]at q;lia
 .rw[bi l]at q;by_cases n:b=e
  .have j:H b=aa (.own x):=by
    lia
   rw[q]at j;cases j;obtain⟨v,o⟩:=m;exact⟨v,by lia⟩
  .refine(ok b u q).stay (λc v s r=>k c v ?_ r) (λc r=>by rw[bi (g c b r)];exact r) λc xs r=>by rw[bi (f c xs r)];exact r
   grind
end
structure Un(fs ex:List ae)(H H':Hp)(h h':aA):Prop where
 keep:∀b o,h.get? b=aa o->H b=ac->b∉fs->b∉ex->h'.get? b=aa o
 slot:∀b o,h.get? b=aa o->H b=ac->b∈fs->b∉ex->∃sl,h'.get? b=aa {o with slots:=sl}
 free:∀b o,h.get? b=aa o->H b=ac->b∉ex->H' b=ac
 there:∀b o,h.get? b=aa o->b∉ex->∃o',h'.get? b=aa o'
 tups:∀b xs,H b=aa (.tup xs)->H' b=aa (.tup xs)
 frzs:∀b o u,H b=aa (.frz o u)->H' b=aa (.frz o u)
 tbls:∀b q,H b=aa (.tbl q)->H' b=aa (.tbl q)/\∀c o,H c=aa (.own b)->h.get? c=aa o->h'.get? c=aa o/\H' c=aa (.own b)
section
variable{fs f ex i:List ae}{H j m:Hp}{h d l h':aA}{a x e:ae}{o:HO}
theorem Un.any(u:Un fs ex H j h d)(q:h.get? b=aa c)(n:H b=ac)(g:b∉ex):∃r,d.get? b=aa {c with slots:=r}:=by
 by_cases p:b∈fs
 .exact u.slot b c q n p g
 .exact⟨c.slots,u.keep b c q n p g⟩
theorem Un.kept(k:∀b u,h.get? b=aa u->h'.get? b=aa u):Un fs ex H H h h' :=⟨λb p q _ _ _=>k b p q,λb p q _ _ _=>⟨p.slots,k b p q⟩,λ_ _ _ n _=>n,λb p q _=>⟨p,k b p q⟩,λ_ _ q=>q,λ_ _ _ q=>q,λ_ _ q=>⟨q,λc o e g=>⟨k c o g,e⟩⟩⟩
theorem Un.refl:Un fs ex H H h h:=Un.kept λ_ _ q=>q
theorem Un.laid(k:∀b u,h.get? b=aa u->h'.get? b=aa u)(s:h.objs.size<=a)(p:H a=ac):Un fs ex H (upd H a o) h h' where
 keep:=λb u q _ _ _=>k b u q
 slot:=λb u q _ _ _=>⟨u.slots,k b u q⟩
 free:=λb u q n _=>by rw[bi (dE (gH (bC q) s))];exact n
 there:=λb u q _=>⟨u,k b u q⟩
 tups:=λb xs q=>by rw[bi (jS q p)];exact q
 frzs:=λb u xs q=>by rw[bi (jS q p)];exact q
 tbls:=λb v q=>⟨by rw[bi (jS q p)];exact q,λc r t g=>⟨k c r g,by rw[bi (jS t p)];trivial⟩⟩
theorem Un.write(s:uJ (H x))(A:e=x\/H e=aa (.own x))(k:∀b u,b≠e->h.get? b=aa u->h'.get? b=aa u)(B:∃u,h'.get? e=aa u):Un fs ex H (upd H x o) h h':=by
 have y:∀b,H b=ac->b≠x:=λb n z=>by subst z;rw[n]at s;exact s
 have v:∀b,H b=ac->b≠e:=λb n z=>⋯
 have p:∀b u,H b=aa u->¬uJ (aa u)->b≠x:=λb u q D z=>by lia
 refine⟨λb u q n _ _=>k b u (v b n) q,λb u q n _ _=>⟨u.slots,k b u (v b n) q⟩,λb u q n _=>by rw[bi (y b n)];exact n,λb u q _=>?_,
  λb xs q=>by rw[bi (p b _ q λz=>z)];exact q,λb u xs q=>by rw[bi (p b _ q λz=>z)];exact q,λb C q=>⟨by rw[bi (p b _ q λz=>z)];exact q,λc w t g=>⟨k c w (by
   rintro rfl;rcases A with r|r
   .exact p c _ t (λz=>z) r
   .rw[t]at r;cases r;rw[q]at s;exact s) g,by rw[bi (p c _ t λz=>z)];trivial⟩⟩⟩
 grind
end
noncomputable def yc(h:aA)(H:Hp):List ae:=(cu h.objs.size).filter λa=>(H a).isSome
noncomputable def ng(h:aA)(H:Hp):aA:=PySem.W.hideAll h (yc h H)
theorem Kn(h:aA)(H:Hp):(ng h H).objs.size=h.objs.size:=PySem.W.hideAll_size _ _
theorem OQ{h:aA}(e:h.get? b=aa o)(n:H b=ac):(ng h H).get? b=aa o :=
 PySem.W.hideAll_get _ e λa=>by
  have q:(H b).isSome=ai:=(jF.mp a).2
  grind
theorem Uu(e:(ng h H).get? b=aa o):h.get? b=aa o/\H b=ac:=by
 have a:h.get? b=aa o:=PySem.W.of_hideAll (yc h H) e;refine⟨a,?_⟩;cases q:H b with
 |none=>rfl
 |some x=>have c:b∈yc h H:=jF.mpr ⟨kE.mpr (bC a),by simp[q]⟩;have z:(ng h H).get? b=ac:=PySem.W.hideAll_none (yc h H) c;lia
noncomputable def QX(g h:aA)(L:ae):List (ae×Obj):=(cu h.objs.size).filterMap λa=>if a=L\/(g.get? a).isSome=ai then ac else(h.get? a).map λo=>(a,o)
noncomputable def rest(g h:aA)(L d:ae):List (ae×Obj):=(QX g h L).filter λp=>decide (p.1≠d)
structure Mod(K:ay)(mg:Str->Option ah)(base:aA):Prop where
 kin:K.In base
 glob:base.Ns b7 mg
 blt:∃mb,base.Ns qo mb/\∀x:Str,x≠"__name__"->mb x=d_ x
 nolimit:base.NoLimit
 bm:∃bm ob,mg "__builtins__"=aa (.ref bm)/\bm≠qo/\base.get? bm=aa ob/\ob.cls=.type "module"/\ob.dict=aa qo/\ob.data=.plain
set_option genInjectivity false in
structure Cx where
 prog:aS
 w:aJ
 K:ay
 mg:Str->Option ah
 base:aA
 A:aY
 N:List Str
 s₀:ao
 H₀:Hp
 env:Env
 outer:List Env
 stack:List Env
 ex:List ae
 fn:Str->Bool
 calm:Bool
 pn:List (ae×Obj)
 xe:ah->ao->Prop
noncomputable def fc(l:List Env):List ae:=l.filterMap (·.frame)
noncomputable abbrev Cx.fs(X:Cx):List ae:=fc X.outer
noncomputable def dr(a:dG)(x:Str):Prop:=a.names.lookup x=aa .local\/a.names.lookup x=aa .cell\/a.names.lookup x=aa .free
noncomputable def Loc(a:dG)(x:Str):Prop:=a.names.lookup x=aa .local\/a.names.lookup x=aa .cell
noncomputable def Look(a:Env)(h:aA)(m:Str->Option ah)(x:Str)(u:ah):Prop :=(a.kindOf x=aa .local/\m x=aa u)\/((a.kindOf x=aa .cell\/a.kindOf x=aa .free)/\∃c,a.cells.lookup x=aa c/\h.IsCell c (aa u))
noncomputable def B3:List Str:=["least_ending"]
noncomputable def wX(K:ay)(H:Hp):Prop:=∀x∈B3,∀c P,qp K x=aa (c,P)->H P=aa (.tbl (x++".<locals>.<lambda>"))
set_option genInjectivity false in
structure Cx.Ok(X:Cx):Prop where
 mod:Mod X.K X.mg X.base
 kind:X.env.scope.kind=.function
 glob:X.env.globals=b7
 blt:X.env.builtins=qo
 above:X.s₀.heap.objs.size<=X.env.locals
 inj:∀x y c,X.env.cells.lookup x=aa c->X.env.cells.lookup y=aa c->x=y
 has:∀x,(X.env.kindOf x=aa .cell\/X.env.kindOf x=aa .free)->∃c,X.env.cells.lookup x=aa c
 cab:∀x c,X.fn x=ai->X.env.cells.lookup x=aa c->X.s₀.heap.objs.size<=c
 hd:X.calm=ai->X.A.handled=ac
 frames:X.A.frames=aa X.stack
 stk:X.stack=X.outer\/(X.stack=X.env::X.outer/\X.env.frame=aa X.env.locals)
 exf:∀b∈X.ex,b≠X.env.locals/\∀x c,X.env.cells.lookup x=aa c->c≠b
 bs:∀b o,X.base.get? b=aa o->X.s₀.heap.get? b=aa o/\X.H₀ b=ac
 bsz:X.base.objs.size<=X.s₀.heap.objs.size
 noex:∀b o,X.base.get? b=aa o->b∉X.ex
 exfs:∀b∈X.ex,b∉X.fs
 funs:X.s₀.heap.FunFrames X.base X.outer
 frf:∀b∈X.fs,X.H₀ b=ac
 tab:wX X.K X.H₀
structure Inv(X:Cx)(ag:List (ae×Obj))(σ:List (Option V))(H:Hp)(s:ao):Prop where
 ok:X.Ok
 os:s.os=X.s₀.os
 bare:nG s.gens
 base:Un X.fs X.ex X.H₀ H X.s₀.heap s.heap
 loc:∃m,s.heap.Ns X.env.locals m/\∀(i:Nat) (x:Str) (v:V),X.N[i]?=aa x->σ[i]?=aa (aa v)->dr X.env.scope x->∃u,RelV v u/\Look X.env s.heap m x u
 cell:∀x c,X.env.cells.lookup x=aa c->∃v,s.heap.IsCell c v
 free:H X.env.locals=ac
 freeC:∀x c,X.env.cells.lookup x=aa c->H c=ac
 pin:∀p∈X.pn++ag,s.heap.get? p.1=aa p.2/\H p.1=ac/\p.1≠X.env.locals/\p.1∉X.fs/\∀v,p.2.data≠.cell v
 hok:cV X.prog X.w H s.heap
 len:σ.length=X.N.length
section
variable{X:Cx}{f:List (ae×Obj)}{w:List (Option V)}{H B:Hp}{s:ao}{h':aA}
theorem Cx.Ok.nofr(ok:X.Ok)(e:X.base.get? b=aa o):b∉X.fs:=λa=>by have:=(ok.funs.mem a).1;lia
theorem Inv.bs(I:Inv X f w H s):∀b o,X.base.get? b=aa o->s.heap.get? b=aa o/\H b=ac:=λb o e=>⟨I.base.keep b o (I.ok.bs b o e).1 (I.ok.bs b o e).2 (I.ok.nofr e) (I.ok.noex b o e),I.base.free b o (I.ok.bs b o e).1 (I.ok.bs b o e).2 (I.ok.noex b o e)⟩
theorem Inv.bk(I:Inv X f w H s):∀b o,X.base.get? b=aa o->s.heap.get? b=aa o:=λb o e=>(I.bs b o e).1
theorem Inv.mod(I:Inv X f w H s):Mod X.K X.mg X.base:=I.ok.mod
theorem Inv.kIn(I:Inv X f w H s):X.K.In s.heap:=I.ok.mod.kin.keeps I.bk
theorem Inv.lt(I:Inv X f w H s):X.env.locals<s.heap.objs.size:=let ⟨_,hn,_⟩:=I.loc;hn.lt
theorem Inv.sz(I:Inv X f w H s):X.s₀.heap.objs.size<=s.heap.objs.size:=bT I.ok.above (jZ I.lt)
theorem Inv.nofs(I:Inv X f w H s)(h:s.heap.objs.size<=a):a∉X.fs:=λc=>by obtain⟨_,o,b,_⟩:=I.ok.funs.mem c;exact absurd (gH (bC b) (bT I.sz h)) (lr _)
theorem Inv.cne(I:Inv X f w H s):∀x c,X.env.cells.lookup x=aa c->c≠X.env.locals:=λx c e z=>by obtain⟨v,o,d,g⟩:=I.cell x c e;obtain⟨m,⟨b,i,j,h,a,_⟩,_⟩:=I.loc;simp_all
theorem Inv.tab(I:Inv X f w H s):wX X.K H:=λx a c P h=>(I.base.tbls P _ (I.ok.tab x a c P h)).1
theorem Inv.funs(I:Inv X f w H s):s.heap.FunFrames X.base X.outer:=by
 have all:∀(l:List Env),(∀b∈fc l,b∈X.fs)->X.s₀.heap.FunFrames X.base l->s.heap.FunFrames X.base l:=by
  intro l
  induction l with
  |nil=>intro _ _;trivial
  |cons t r h=>intro g n;obtain⟨p,⟨L,o,a,m,j,q⟩,i⟩:=n;have d:L∈X.fs:=g L (by unfold fc;rw[mf,a];exact i4);obtain⟨u,e⟩:=I.base.slot L o j (I.ok.frf L d) d λz=>I.ok.exfs L z d;exact⟨p,⟨L,_,a,m,e,q⟩,h (λb c=>g b (by unfold fc;rw[mf,a];exact fE _ c)) i⟩
 exact all X.outer (λ_ c=>c) I.ok.funs
theorem Inv.stack(I:Inv X f w H s):s.heap.FunFrames X.base X.stack:=by
 rcases I.ok.stk with e|⟨e,b⟩
 .rw[e];exact I.funs
 .rw[e];obtain⟨m,a,_⟩:=I.loc;refine .cons (by rw[I.ok.kind];decide) b a ?_ I.funs;exact vA (bT I.ok.bsz I.ok.above)
theorem Inv.stkSub(I:Inv X f w H s):∀b∈fc X.stack,b∈X.env.locals::X.fs:=λb a=>by
 rcases I.ok.stk with e|⟨e,c⟩
 .simp_all
 .rw[e]at a;unfold fc at a;rw[mf,c]at a;trivial
theorem Inv.stkFree(I:Inv X f w H s):∀b∈fc X.stack,H b=ac:=λb a=>by
 rcases bQ.mp (I.stkSub b a)with e|a
 .rw[e];exact I.free
 .obtain⟨_,o,c,_⟩:=I.ok.funs.mem a;exact I.base.free b o c (I.ok.frf b a) λz=>I.ok.exfs b z a
theorem Inv.step{ch:List ae}(I:Inv X f w H s)(N:∀b∈ch,(b∈X.ex\/X.s₀.heap.objs.size<=b)/\b≠X.env.locals/\(∀x c,X.env.cells.lookup x=aa c->c≠b)/\∀p∈X.pn++f,p.1≠b)(keep:∀b o,b≠X.env.locals->b∉X.fs->b∉ch->s.heap.get? b=aa o->H b=ac->h'.get? b=aa o)(A:∀b o,b≠X.env.locals->b∈X.fs->b∉ch->s.heap.get? b=aa o->H b=ac->∃S,h'.get? b=aa {o with slots:=S}) (free:∀b o,b∉ch->s.heap.get? b=aa o->H b=ac->B b=ac)(C:∀b o,b∉ch->s.heap.get? b=aa o->∃L,h'.get? b=aa L)(J:∀b xs,H b=aa (.tup xs)->B b=aa (.tup xs)) (O:∀b o u,H b=aa (.frz o u)->B b=aa (.frz o u)) (y:∀b q,H b=aa (.tbl q)->B b=aa (.tbl q)/\∀c o,H c=aa (.own b)->s.heap.get? c=aa o->h'.get? c=aa o/\B c=aa (.own b))(ns:∀m,s.heap.Ns X.env.locals m->h'.Ns X.env.locals m) (T:cV X.prog X.w B h') (hg:nG g'):Inv X f w B {s with heap:=h',gens:=g',drawn:=d',toks:=t'}:=by
 have M:∀b o,X.s₀.heap.get? b=aa o->b≠X.env.locals:=λb o e=>dE (gH (bC e) I.ok.above);have t:∀b o,X.s₀.heap.get? b=aa o->b∉X.ex->b∉ch:=λb o e a D=>by
  rcases(N b D).1 with z|z
  .trivial
  .exact absurd (gH (bC e) z) (lr _)
 have j:∀x c,X.env.cells.lookup x=aa c->∀v,s.heap.IsCell c v->h'.IsCell c v:=λx c e v ⟨o,F,W⟩=>by
  have h:c∉ch:=λz=>(N c z).2.2.1 x c e rfl;by_cases hc:c∈X.fs
  .obtain⟨S,q⟩:=A c o (I.cne x c e) hc h F (I.freeC x c e);exact⟨_,q,W⟩
  .exact⟨o,keep c o (I.cne x c e) hc h F (I.freeC x c e),W⟩
 refine⟨I.ok,I.os,hg,⟨λb o e n D a=>?_,λb o e n D a=>?_,λb o e n a=>?_,λb o e a=>?_,λb xs e=>J b xs (I.base.tups b xs e),λb o xs e=>O b o xs (I.base.frzs b o xs e),λb P e=>?_⟩,?_,λx c e=>?_,?_,λx c e=>?_,λp hp=>?_,T,I.len⟩
 .exact keep b o (M b o e) D (t b o e a) (I.base.keep b o e n D a) (I.base.free b o e n a)
 .obtain⟨S,E⟩:=I.base.slot b o e n D a;obtain⟨Q,G⟩:=A b _ (M b o e) D (t b o e a) E (I.base.free b o e n a);exact⟨Q,G⟩
 .obtain⟨L,E⟩:=I.base.there b o e a;exact free b L (t b o e a) E (I.base.free b o e n a)
 .obtain⟨L,E⟩:=I.base.there b o e a;exact C b L (t b o e a) E
 .exact⟨(y b _ (I.base.tbls b P e).1).1,λc o G g=>(y b _ (I.base.tbls b P e).1).2 c o ((I.base.tbls b P e).2 c o G g).2 ((I.base.tbls b P e).2 c o G g).1⟩
 .obtain⟨m,hn,hl⟩:=I.loc;refine⟨m,ns m hn,λi x v E G e3=>?_⟩;obtain⟨u,r,l⟩:=hl i x v E G e3;refine⟨u,r,?_⟩;rcases l with l|⟨k,c,e,z⟩
  .exact .inl l
  .exact .inr ⟨k,c,e,j x c e _ z⟩
 .obtain⟨v,z⟩:=I.cell x c e;exact⟨v,j x c e v z⟩
 .obtain⟨m,⟨o,_,_,F,_⟩,_⟩:=I.loc;exact free _ o (λz=>(N _ z).2.1 rfl) F I.free
 .obtain⟨v,o,F,W⟩:=I.cell x c e;exact free c o (λz=>(N c z).2.2.1 x c e rfl) F (I.freeC x c e)
 .obtain⟨e,n,Z,Y,d⟩:=I.pin p hp;have h:p.1∉ch:=λz=>(N p.1 z).2.2.2 p hp rfl;exact⟨keep p.1 p.2 Z Y h e n,free p.1 p.2 h e n,Z,Y,d⟩
theorem Inv.un(I:Inv X f w H s)(u:Un X.fs [] H B s.heap h')(a:cV X.prog X.w B h'):Inv X f w B {s with heap:=h',toks:=t'}:=by
 obtain⟨m,⟨o,x,y,h,r⟩,_⟩:=id I.loc;obtain⟨q,p⟩:=u.any h I.free (by simp);exact I.step (g':=s.gens) (d':=s.drawn) (ch:=[]) (λ_ z=>nomatch z) (λb o _ c _ e n=>u.keep b o e n c (by simp)) (λb o _ c _ e n=>u.slot b o e n c (by simp)) (λb o _ e n=>u.free b o e n (by simp)) (λb o _ e=>u.there b o e (by simp)) u.tups u.frzs u.tbls (λv l=>by
  obtain⟨t,d,g,i,j⟩:=l;rw[h]at i;cases i;exact⟨_,d,g,p,j⟩) a I.bare
theorem Inv.call{ch:List ae}(I:Inv X f w H s)(u:Un (fc X.stack) ch H B s.heap h')(d:cV X.prog X.w B h')(y:nG g')(j:∀b∈ch,(b∈X.ex\/X.s₀.heap.objs.size<=b)/\b≠X.env.locals/\(∀x c,X.env.cells.lookup x=aa c->c≠b)/\∀p∈X.pn++f,p.1≠b):Inv X f w B {s with heap:=h',gens:=g',drawn:=d',toks:=t'}:=by
 obtain⟨m,⟨o,F,G,l,r⟩,_⟩:=id I.loc;obtain⟨C,g⟩:=u.any l I.free λz=>(j _ z).2.1 rfl;exact I.step (ch:=ch) j (λb o g A a e n=>u.keep b o e n (λz=>(bQ.mp (I.stkSub b z)).elim g A) a) (λb o _ _ a e n=>u.any e n a) (λb o a e n=>u.free b o e n a) (λb o a e=>u.there b o e a) u.tups u.frzs u.tbls (λE v=>by
  obtain⟨D,h,i,q,t⟩:=v;rw[l]at q;cases q;exact⟨_,h,i,g,t⟩) d y
theorem Inv.turned(I:Inv X f w H s)(k:∀b o,b≠it->s.heap.get? b=aa o->h'.get? b=aa o)(C:H it=ac)(t:it≠X.env.locals)(F:it∈X.ex\/X.s₀.heap.objs.size<=it) (E:∀x c,X.env.cells.lookup x=aa c->c≠it) (D:∀p∈X.pn++f,p.1≠it):Inv X f w H {s with heap:=h',toks:=t'}:=by
 have d:∀b u,H b=aa u->b≠it:=λb u e z=>by lia
 refine I.step (g':=s.gens) (d':=s.drawn) (ch:=[it]) (λb l=>?_) (λb o _ _ a e _=>k b o (λz=>a (by simp[z])) e) (λb o _ _ a e _=>⟨o.slots,k b o (λz=>a (by simp[z])) e⟩) (λ_ _ _ _ n=>n)
  (λb o a e=>⟨o,k b o (λz=>a (by simp[z])) e⟩) (λ_ _ e=>e) (λ_ _ _ e=>e) (λ_ _ e=>⟨e,λc o h g=>⟨k c o (d c _ h) g,h⟩⟩) (λm j=>?_) (λb u e=>?_) I.bare
 .have e:b=it:= ~~~l
  subst e;trivial
 .obtain⟨o,y,A,i,r⟩:=j;exact⟨o,y,A,k _ o (dQ t) i,r⟩
 .refine(I.hok b u e).stay (λc v a q=>k c v ?_ q) (λ_ q=>q) λ_ _ q=>q;lia
theorem Inv.tok(I:Inv X f w H s)(t:Nat):Inv X f w H {s with toks:=t}:=I.un (h':=s.heap) (t':=t) Un.refl I.hok
theorem Inv.kept(I:Inv X f w H s)(k:∀b u,s.heap.get? b=aa u->h'.get? b=aa u):Inv X f w H {s with heap:=h',toks:=t'}:=I.un (Un.kept k) (I.hok.kept k)
theorem Inv.laid(I:Inv X f w H s)(k:∀b u,s.heap.get? b=aa u->h'.get? b=aa u)(c:s.heap.objs.size<=a)(new:cf X.prog X.w (upd H a o) h' a o):Inv X f w (upd H a o) {s with heap:=h',toks:=t'}:=I.un (Un.laid k c (I.hok.fresh c)) (I.hok.laid k c new)
theorem Inv.write(I:Inv X f w H s)(c:uJ (H x))(d:e=x\/H e=aa (.own x))(k:∀b u,b≠e->s.heap.get? b=aa u->h'.get? b=aa u)(a:∃u,h'.get? e=aa u)(new:cf X.prog X.w (upd H x o) h' x o):Inv X f w (upd H x o) {s with heap:=h',toks:=g}:=I.un (Un.write c d k a) (I.hok.write c d k a new)
theorem Inv.pins_of(I:Inv X f w H s)(h:∀p∈a,s.heap.get? p.1=aa p.2/\H p.1=ac/\p.1≠X.env.locals/\p.1∉X.fs/\∀v,p.2.data≠.cell v):Inv X a w H s :=⟨I.ok,I.os,I.bare,I.base,I.loc,I.cell,I.free,I.freeC,λp b=>(lu.mp b).elim (λz=>I.pin p (yO _ z)) (h p),I.hok,I.len⟩
theorem zP{N:List Str}(c:N.Nodup){j:Nat}(a:N[i]?=aa x)(b:N[j]?=aa x):i=j:=by obtain⟨l,g⟩:=c_.mp a;obtain⟨h,d⟩:=c_.mp b;exact(List.getElem_inj c).mp (g.trans d.symm)
noncomputable abbrev av(X:Cx)(x:Str):=X.fn x=ai\/X.env.scope.names.lookup x=aa .local
theorem Hs(I:Inv X f w H s)(hN:X.N.Nodup)(T:X.N[i]?=aa x)(F:Loc X.env.scope x)(r:RelV v u)(h:∀s',Inv X f (w.set i (aa v)) H s'->(∃a,kF a s.heap s'.heap/\(a=X.env.locals\/X.env.cells.lookup x=aa a))->Q () s') (hf:av X x:=by mleft):au M A (storeName X.env x u) Q E s:=by
 obtain⟨m,hn,hl⟩:=id I.loc;have n0:(X.env.scope.kind == .class||(X.env.scope.kind == .module&&X.env.locals != X.env.globals))=am:=by rw[I.ok.kind];rfl
 have L:i<w.length:=by rw[I.len];exact(c_.mp T).1
 have cne:=I.cne;have C:∀{a:ae}{h':aA},(∃o,s.heap.get? a=aa o/\H a=ac)->kF a s.heap h'->cV X.prog X.w H h':=λ{a h'} ha l b ob e=>by obtain⟨_,_,J0⟩:=ha;refine(I.hok b ob e).stay (λc W G q=>(l.2 c ?_).trans q) (λ_ q=>q) λ_ _ q=>q;lia
 rcases F with S|S
 .refine wpAny_storeName_local S hn (λh' hn' l=>?_) n0;obtain⟨oL,_,_,mB,_⟩:=id hn;refine h _ ⟨I.ok,I.os,I.bare,⟨λb o e n P F=>?_,λb o e n P F=>?_,I.base.free,λb o e F=>?_,I.base.tups,I.base.frzs,λb q e=>⟨(I.base.tbls b q e).1,λc o D g=>⟨(l.2 c (λz=>by have t:=((I.base.tbls b q e).2 c o D g).2;rw[z,I.free]at t;trivial)).trans ((I.base.tbls b q e).2 c o D g).1,((I.base.tbls b q e).2 c o D g).2⟩⟩⟩,⟨_,hn',λj y Z t D e3=>?_⟩,λy c e=>?_,I.free,I.freeC,λp hp=>?_,C ⟨oL,mB,I.free⟩ l,~~~I.len⟩ ⟨_,l,.inl rfl⟩
  .exact(l.2 b (dE (gH (bC e) I.ok.above))).trans (I.base.keep b o e n P F)
  .obtain⟨sl,t⟩:=I.base.slot b o e n P F;exact⟨sl,(l.2 b (dE (gH (bC e) I.ok.above))).trans t⟩
  .obtain⟨o',t⟩:=I.base.there b o e F;exact⟨o',(l.2 b (dE (gH (bC e) I.ok.above))).trans t⟩
  .by_cases N:j=i
   .subst N;rw[T]at t;cases t;rw[ie L]at D;cases D;exact⟨u,r,.inl ⟨S,by simp⟩⟩
   .rw[eE (dQ N)]at D;obtain⟨u',r',q⟩:=hl j y Z t D e3;refine⟨u',r',?_⟩;rcases q with⟨k,e⟩|⟨k,c,e,z⟩
    .refine .inl ⟨k,?_⟩;have:y≠x:=λe=>N (zP hN t (e ▸ T));simp[this,e]
    .exact .inr ⟨k,c,e,z.sameBut l (cne y c e)⟩
  .obtain⟨W,z⟩:=I.cell y c e;exact⟨W,z.sameBut l (cne y c e)⟩
  .obtain⟨e,n,Y,nf,d⟩:=I.pin p hp;exact⟨(l.2 p.1 Y).trans e,n,Y,nf,d⟩
 .have O:X.fn x=ai:=by
   lia
  obtain⟨c,G⟩:=I.ok.has x (.inl S);obtain⟨W,z⟩:=I.cell x c G;refine wpAny_storeName_cell I.ok.kind S G z (λh' lJ l=>?_);obtain⟨oc,qM,hocd⟩:=id z;refine h {s with heap:=h'} ⟨I.ok,I.os,I.bare,⟨λb o e n P F=>?_,λb o e n P F=>?_,I.base.free,λb o e F=>?_,I.base.tups,I.base.frzs,λb q e=>⟨(I.base.tbls b q e).1,λJ o D g=>⟨(l.2 J (λz=>by have t:=((I.base.tbls b q e).2 J o D g).2;rw[z,I.freeC x c G]at t;trivial)).trans ((I.base.tbls b q e).2 J o D g).1,((I.base.tbls b q e).2 J o D g).2⟩⟩⟩,⟨m,hn.sameBut l (dQ (cne x c G)),λj y Z t D e3=>?_⟩,λy J e=>?_,I.free,I.freeC,λp hp=>?_,C ⟨oc,qM,I.freeC x c G⟩ l,~~~I.len⟩ ⟨c,l,.inr G⟩
  .exact(l.2 b (dE (gH (bC e) (I.ok.cab x c O G)))).trans (I.base.keep b o e n P F)
  .obtain⟨sl,t⟩:=I.base.slot b o e n P F;exact⟨sl,(l.2 b (dE (gH (bC e) (I.ok.cab x c O G)))).trans t⟩
  .obtain⟨o',t⟩:=I.base.there b o e F;exact⟨o',(l.2 b (dE (gH (bC e) (I.ok.cab x c O G)))).trans t⟩
  .by_cases N:j=i
   .subst N;rw[T]at t;cases t;rw[ie L]at D;cases D;exact⟨u,r,.inr ⟨.inl S,c,G,lJ⟩⟩
   .rw[eE (dQ N)]at D;obtain⟨u',r',q⟩:=hl j y Z t D e3;refine⟨u',r',?_⟩;rcases q with q|⟨k,J,e,z'⟩
    .exact .inl q
    .refine .inr ⟨k,J,e,z'.sameBut l ?_⟩;rintro rfl;exact N (zP hN t (I.ok.inj _ _ _ e G ▸ T))
  .by_cases n4:J=c
   .subst n4;exact⟨_,lJ⟩
   .obtain⟨w2,z2⟩:=I.cell y J e;exact⟨w2,z2.sameBut l n4⟩
  .obtain⟨e,n,Y,nf,d⟩:=I.pin p hp;refine⟨(l.2 p.1 ?_).trans e,n,Y,nf,d⟩;intro q;rw[q,qM]at e;have q':oc=p.2:=i5 e;exact d W (by rw[<-q'];trivial)
theorem x9{i:Nat}{x:Str}{v:V}{u:ah}{Q:Unit->ao->Prop}(I:Inv X f w H s)(d:X.N.Nodup)(b:X.N[i]?=aa x)(a:Loc X.env.scope x)(r:RelV v u)(h:∀s',Inv X f (w.set i (aa v)) H s'->Q () s') (c:av X x:=by mleft):au M A (storeName X.env x u) Q E s :=Hs I d b a r (λs' g _=>h s' g) c
theorem Inv.call'{s':ao}(I:Inv X f w H s)(h:s'.os=s.os)(u:Un (fc X.stack) ch H B s.heap s'.heap)(a:cV X.prog X.w B s'.heap)(i:nG s'.gens)(g:∀b∈ch,(b∈X.ex\/X.s₀.heap.objs.size<=b)/\b≠X.env.locals/\(∀x c,X.env.cells.lookup x=aa c->c≠b)/\∀p∈X.pn++f,p.1≠b):Inv X f w B s':=by obtain⟨h',g',d',t',d⟩:=s';have e:d=s.os:=h;subst e;exact I.call (g':=g') (t':=t') (d':=d') u a i g
end
noncomputable abbrev XK:=ah->Option ae->Hp->Prop
noncomputable abbrev St:=List (Option V)
noncomputable abbrev VK:=V->Hp->Prop
noncomputable abbrev TE:=St->Hp->VK->Prop
noncomputable abbrev TT:=St->Hp->(Bool->Hp->Prop)->Prop
noncomputable abbrev TA:=St->Hp->(List V->Hp->Prop)->Prop
structure jT where
 nx:St->Hp->Prop
 rt:VK
 bk:St->Hp->Prop:=λ_ _=>False
 ct:St->Hp->Prop:=λ_ _=>False
noncomputable abbrev TS:=jT->St->Hp->Prop
noncomputable def EP(X:Cx)(d:List (ae×Obj))(b:St)(Q:VK)(u:ah)(c:ao):Prop:=∃v a,Inv X d b a c/\RelV v u/\Q v a
noncomputable def TP(X:Cx)(f:List (ae×Obj))(c:St)(Q:Bool->Hp->Prop)(b:Bool)(d:ao):Prop:=∃a,Inv X f c a d/\Q b a
noncomputable def AP(X:Cx)(g:List (ae×Obj))(c:St)(Q:List V->Hp->Prop)(d:List ah)(f:ao):Prop:=∃a b,Inv X g c b f/\bt a d/\Q a b
noncomputable def SP(X:Cx)(c:List (ae×Obj))(D:jT)(f:Flow)(s':ao):Prop :=
 match f with
 |.next=>∃a b,Inv X c a b s'/\D.nx a b
 |.brk=>∃a b,Inv X c a b s'/\D.bk a b
 |.cont=>∃a b,Inv X c a b s'/\D.ct a b
 |.ret u=>∃v a b,Inv X c a b s'/\RelV v u/\D.rt v b
noncomputable abbrev Cx.zz(X:Cx):=ax X.prog X.w
noncomputable def PE(X:Cx)(e:aB)(t:TE):Prop :=
 ∀(b:List (ae×Obj)) (s:ao) (a:St) (H:Hp) (Q:VK),Inv X b a H s->t a H Q->au X.zz X.A (aQ e X.env) (EP X b a Q) X.xe s
noncomputable def PT(X:Cx)(e:aB)(t:TT):Prop :=
 ∀(b:List (ae×Obj)) (s:ao) (a:St) (H:Hp) (Q:Bool->Hp->Prop),Inv X b a H s->t a H Q->au X.zz X.A (nH e X.env (aQ e X.env)) (TP X b a Q) X.xe s
noncomputable def PW(X:Cx)(e:aB)(t:TT):Prop :=
 ∀(c:Sem ah) (b:List (ae×Obj)) (s:ao) (a:St) (H:Hp) (Q:Bool->Hp->Prop),Inv X b a H s->t a H Q->au X.zz X.A (nH e X.env c) (TP X b a Q) X.xe s
noncomputable def PA(X:Cx)(d:List aB)(t:TA):Prop :=
 ∀(b:Pos) (c:List (ae×Obj)) (s:ao) (a:St) (H:Hp) (Q:List V->Hp->Prop),Inv X c a H s->t a H Q->au X.zz X.A (spliced (cx b (aK d X.env))) (AP X c a Q) X.xe s
noncomputable def PS(X:Cx)(c:bb)(t:TS):Prop :=
 ∀(b:List (ae×Obj)) (s:ao) (a:St) (H:Hp) (D:jT),Inv X b a H s->t D a H->au X.zz X.A (exec c X.env) (SP X b D) X.xe s
noncomputable def lh(X:Cx)(c:List bb)(t:TS):Prop :=
 ∀(b:List (ae×Obj)) (s:ao) (a:St) (H:Hp) (D:jT),Inv X b a H s->t D a H->au X.zz X.A (execs c X.env) (SP X b D) X.xe s
theorem aR{c:b->ao->Prop}{M:Model}{A:aY}{E:ah->ao->Prop}{s:ao}(h:au M A t Q E s)(d:∀a s,Q a s->c a s):au M A t c E s:=eU h d λ_ _ x=>x
section
variable{X:Cx}
theorem S_{o:TE}(C:PE X a n)(B:PE X b o){l:List (ae×Obj)}{s:ao}{c:St}{H:Hp}{R:V->V->Hp->Prop}(I:Inv X l c H s)(h:n c H λx m=>o c m λy d=>R x y d){p:Type}{Q:p->ao->Prop}{f:ah->ah->Sem p}(A:∀v u j x y d,Inv X l c d j->RelV x v->RelV y u->R x y d->au X.zz X.A (f v u) Q X.xe j):au X.zz X.A (aQ a X.env) (λv i=>au X.zz X.A (aQ b X.env) (λu g=>au X.zz X.A (f v u) Q X.xe g) X.xe i) X.xe s:=by refine aR (C l s c H _ I h) λv q ⟨x,m,E,t,z⟩=>?_;refine aR (B l q c m _ E z) λu j ⟨y,d,D,r,w⟩=>?_;exact A v u j x y d D t r w
noncomputable def yx(i:Nat):TE:=λa H Q=>∃v,a[i]?=aa (aa v)/\Q v H
noncomputable def tC(v:V):TE:=λ_ H Q=>Q v H
noncomputable abbrev ap(x:Str):=(x==("__debug__":Str))=am
noncomputable abbrev aO(x:Str):=(x==("__classdict__":Str))=am
theorem eJ(p:X.N[i]?=aa x)(j:dr X.env.scope x)(d:ap x:=by decide)(q:aO x:=by decide):PE X (.Name x g) (yx i):=by
 intro t s f H Q I h;obtain⟨v,e,h⟩:=h;obtain⟨m,n,o⟩:=I.loc;obtain⟨u,r,l⟩:=o i x v p e j;have b:EP X t f Q u s:=⟨v,H,I,r,h⟩
 rcases l with⟨a,hm⟩|⟨a,c,hc,zk⟩
 .exact wpAny_Name (wpAny_loadName_local I.ok.kind a n hm b) d
 .rcases a with a|a
  .exact wpAny_Name (wpAny_loadName_cell I.ok.kind a hc zk b) d
  .exact wpAny_Name (wpAny_loadName_free I.ok.kind a hc zk b q) d
theorem B5{i j g}:PE X (.Constant (.int i) j g) (tC (.int i)):=λ_ _ _ H _ I h=>wpAny_Constant_int ⟨.int i,H,I.tok _,⟨_,rfl⟩,h⟩
theorem Qt{b j g}:PE X (.Constant (.bool b) j g) (tC (.bl b)):=λ_ _ _ H _ I h=>Constant_bool ⟨.bl b,H,I,rfl,h⟩
theorem QJ{j g}:PE X (.Constant .none j g) (tC .non):=λ_ _ _ H _ I h=>Constant_none ⟨.non,H,I,rfl,h⟩
theorem O0{x j g}:PE X (.Constant (.str x) j g) (tC (.str x)):=λ_ _ _ H _ I h=>Calls.Constant_str ⟨.str x,H,I.tok _,⟨_,rfl⟩,h⟩
noncomputable def Gl(X:Cx)(x:Str):Prop:=X.env.kindOf x=aa .globalImplicit
theorem sQ{a:St}{H:Hp}{x:Str}{u:ah}{g:Pos}{Q:ah->ao->Prop}(I:Inv X f a H s)(c:Gl X x)(b:X.mg x=aa u)(h:Q u s)(d:ap x:=by decide):au X.zz X.A (aQ (.Name x g) X.env) Q E s :=Calls.Name_function_global I.ok.kind c (Calls.loadGlobal_global (by rw[I.ok.glob];exact I.mod.glob.keeps I.bk) b h) d
theorem vj{a:St}{H:Hp}{x:Str}{u:ah}{g:Pos}{Q:ah->ao->Prop}(I:Inv X m a H s)(f:Gl X x)(d:X.mg x=ac)(b:d_ x=aa u)(h:Q u s)(c:x≠"__name__":=by decide) (i:ap x:=by decide):au X.zz X.A (aQ (.Name x g) X.env) Q E s:=by obtain⟨n,l,j⟩:=I.mod.blt;exact Calls.Name_function_global I.ok.kind f (Calls.loadGlobal_builtin (by rw[I.ok.glob];exact I.mod.glob.keeps I.bk) d (by rw[I.ok.blt];exact l.keeps I.bk) ((j x c).trans b) h) i
theorem Bb(b:Gl X x)(a:X.mg x=aa u)(r:RelV v u)(c:ap x:=by decide):PE X (.Name x g) (tC v) :=λ_ _ _ H _ I h=>sQ I b a ⟨v,H,I,r,h⟩ c
theorem Ox(d:Gl X x)(c:X.mg x=ac)(a:d_ x=aa u)(r:RelV v u)(b:x≠"__name__":=by decide)(f:ap x:=by decide):PE X (.Name x g) (tC v) :=λ_ _ _ H _ I h=>vj I d c a ⟨v,H,I,r,h⟩ b f
noncomputable def Rw(n o:TE)(k:Int->Int->Hp->Prop):St->Hp->Prop:=λa H=>n a H λx c=>o a c λy b=>∃i j,x=.int i/\y=.int j/\k i j b
variable{a b:aB}{n o:TE}{g:Pos}
noncomputable def PC(X:Cx)(i:CmpOp)(a b:aB)(t:TE):Prop :=
 ∀(h:List (ae×Obj)) (s:ao) (f:St) (H:Hp) (Q:VK),Inv X h f H s->t f H Q ->
  au X.zz X.A (aQ a X.env) (λv d=>au X.zz X.A (aQ b X.env) (λu c=>au X.zz X.A (df i v u) (EP X h f Q) X.xe c) X.xe d) X.xe s
theorem TQ(b:aB)(h:c≠.In)(i:c≠.NotIn):nI c b=am:=by
 have f:(c == CmpOp.In)=am:=by lia
 have d:(c == CmpOp.NotIn)=am:=by lia
 cases b <;> simp[nI,f,d]
noncomputable def Ez(p:Int->Int->Bool)(n o:TE):TE:=λc H Q=>Rw n o (λi j d=>Q (.bl (p i j)) d) c H
noncomputable abbrev Ls:TE->TE->TE:=Ez λi j=>decide (j<i)
theorem QZ(z:PE X a n)(w:PE X b o)(c:∀(i j:Int) (t u:Tok) (Q:ah->ao->Prop) (s:ao),Q (.bool (p i j)) s->au X.zz X.A (df d (.int i t) (.int j u)) Q X.xe s):PC X d a b (Ez p n o):=by intro D s C H Q I h;refine S_ z w I h λv u l x y B A r m q=>?_;obtain⟨i,j,rfl,rfl,q⟩:=q;obtain⟨t,rfl⟩:=r;obtain⟨f,rfl⟩:=m;exact c i j t f _ l ⟨.bl _,B,A,rfl,q⟩
theorem Kr(d:PE X a n)(c:PE X b o):PC X .Gt a b (Ls n o):=QZ d c λ_ _ _ _ _ _ h=>gt_int h
noncomputable def tB(t:TE):TT:=λd H Q=>t d H λx f=>∃c,x=.bl c/\Q c f
theorem BM(h:PC X f a b t)(i:nI f b=am:=by first|exact TQ _ (by decide) (by decide)|rfl):PT X (.Compare a [f] [b] g) (tB t):=by
 intro w s j H Q I p;refine wpAny_isTrue_Compare1 (aR (h w s j H _ I p) λv C i=>aR i λu B r=>aR r λc A ⟨x,z,y,l,m⟩=>?_) i;obtain⟨d,rfl,q⟩:=m;cases l;exact nJ ⟨z,y,q⟩
theorem RN(h:PE X e t)(m:∀c,nH e X.env c=(do let v <-c;standAt e.pos;lv [v] (truthy v)):=by intro _;rfl):PT X e (tB t):=by
 intro p s f H Q I l;refine isTrue_plain (aR (h p s f H _ I l) λv w ⟨x,u,r,i,j⟩=>?_) (m _);obtain⟨d,rfl,q⟩:=j;cases i;exact nJ ⟨u,r,q⟩
variable{w z:TT}{rest:List aB}
noncomputable def Ku(t u:TT):TT:=λd H Q=>t d H λc f=>if c=ai then u d f Q else Q am f
noncomputable def Ly(t u:TT):TT:=λd H Q=>t d H λc f=>if c=ai then Q ai f else u d f Q
noncomputable def Te(t:TT):TT:=λd H Q=>t d H λc f=>Q (!c) f
theorem Qs(f:PT X a w):PW X (.BoolOp .And [a] g) w:=by
 intro j i s d H Q I h;refine isTrue_and (aR (f i s d H Q I h) λc l e=>?_);cases c with
 |true=>exact isTrue_and_nil e
 |false=>exact e
theorem OI(f:PT X a w):PW X (.BoolOp .Or [a] g) w:=by
 intro j i s d H Q I h;refine isTrue_or (aR (f i s d H Q I h) λc l e=>?_);cases c with
 |false=>exact isTrue_or_nil e
 |true=>exact e
theorem Oy(p:PT X a w)(m:PW X (.BoolOp .And (b::rest) g) z):PW X (.BoolOp .And (a::b::rest) g) (Ku w z):=by
 intro i f s d H Q I h;refine isTrue_and (aR (p f s d H _ I h) λc j ⟨r,q,l⟩=>?_);cases c with
 |true=>exact m i f j d r Q q l
 |false=>trivial
theorem QE(p:PT X a w)(m:PW X (.BoolOp .Or (b::rest) g) z):PW X (.BoolOp .Or (a::b::rest) g) (Ly w z):=by
 intro i f s d H Q I h;refine isTrue_or (aR (p f s d H _ I h) λc j ⟨r,q,l⟩=>?_);cases c with
 |true=>trivial
 |false=>exact m i f j d r Q q l
theorem MQ(f:PT X a w):PT X (.UnaryOp .Not a g) (Te w):=by intro i s d H Q I h;exact isTrue_not (f i s d H (λc j=>Q (!c) j) I h)
noncomputable def MJ(n o:TE):TE:=λd H Q=>n d H λx f=>∃c,x=.bl c/\if c=ai then o d f Q else Q (.bl am) f
noncomputable def Ps(n:TE):TE:=λd H Q=>n d H λx f=>∃c,x=.bl c/\Q (.bl (!c)) f
theorem NK{op}(h:PE X a t):PE X (.BoolOp op [a] g) t:=λf s c H Q I d=>BoolOp_one (h f s c H Q I d)
theorem KJ(r:PE X a n)(q:PE X (.BoolOp .And (b::rest) g) o):PE X (.BoolOp .And (a::b::rest) g) (MJ n o):=by
 intro i s f H Q I h;refine BoolOp_and (aR (r i s f H _ I h) λv m ⟨x,l,j,p,d⟩=>?_);obtain⟨c,rfl,d⟩:=d;cases p;refine nJ ?_;cases c with
 |true=>exact q i m f l Q j d
 |false=>exact⟨.bl am,l,j,rfl,d⟩
theorem Sf(j:PE X a n):PE X (.UnaryOp .Not a g) (Ps n):=by
 intro l s f H Q I h;refine UnaryOp_ (aR (j l s f H _ I h) λv q ⟨x,p,m,i,d⟩=>?_);obtain⟨c,rfl,d⟩:=d;cases i;exact not_of (nJ ⟨.bl (!c),p,m,rfl,d⟩)
noncomputable def OS(t:TT)(n o:TE):TE:=λd H Q=>t d H λc f=>if c=ai then n d f Q else o d f Q
theorem OB(q:PT X c w)(t:PE X a n)(r:PE X b o):PE X (.IfExp c a b g) (OS w n o):=by
 intro i s f H Q I h;refine wpAny_IfExp (aR (q i s f H _ I h) λd j ⟨p,m,l⟩=>?_);cases d with
 |true=>exact t i j f p Q m l
 |false=>exact r i j f p Q m l
end
noncomputable def b_(K:ay)(H:Hp)(a:ae)(xs:List V):Prop :=
 Rd H a (.lst xs) \/
  ∃(o:Obj) (b:Array ah) (n:Nat),K.lookup a=aa o/\o.cls=.type "list"/\o.dict=ac/\o.data=.seq b n/\b.size<=bd/\bt xs b.toList
noncomputable def cC(K:ay)(H:Hp)(a:ae)(xs:List V):Prop :=
 Rd H a (.tup xs) \/
  ∃(o:Obj) (b:Array ah) (n:Nat),K.lookup a=aa o/\o.cls=.type "tuple"/\o.data=.seq b n/\b.size<=bd/\bt xs b.toList
noncomputable def Uw:ah->Option V
 |.none=>aa .non
 |.bool b=>aa (.bl b)
 |.int i _=>aa (.int i)
 |.str x _=>aa (.str x)
 |.bytes b _=>aa (.byt b)
 |.float b _=>aa (.flt b)
 |.ref a=>aa (.ref a)
 |.type n=>aa (.ty n)
 |_=>ac
theorem RelV.abs(r:RelV x u):Uw u=aa x:=by
 cases x with
 |non=>cases r;rfl
 |bl _=>cases r;rfl
 |int _=>obtain⟨t,rfl⟩:=r;rfl
 |str _=>obtain⟨t,rfl⟩:=r;rfl
 |byt _=>obtain⟨t,rfl⟩:=r;rfl
 |flt _=>obtain⟨t,rfl⟩:=r;rfl
 |ref _=>cases r;rfl
 |ty _=>cases r;rfl
theorem RelV.inj(r:RelV x u)(q:RelV y u):x=y:=i5 (r.abs.symm.trans q.abs)
theorem bt.inj:∀{xs a:List V}{b:List ah},bt xs b->bt a b->xs=a
 |_,_,_,.nil,.nil=>rfl
 |_,_,_,.cons r t,.cons d c=>by rw[r.inj d,bt.inj t c]
section
variable{X:Cx}{f:List (ae×Obj)}{c:St}{H:Hp}{s:ao}{a:ae}{b ys:List V}
theorem b_.of{K:ay}(h:H a=aa (.lst b)):b_ K H a b:=.inl (.inl h)
theorem cC.of{K:ay}(h:H a=aa (.tup b)):cC K H a b:=.inl (.inl h)
theorem Inv.list(I:Inv X f c H s)(h:b_ X.K H a b):∃its:List ah,bt b its/\PlainL s.heap a its.toArray/\b.length<=bd:=by
 rcases h with h|⟨o,its,n,d,i,g,j,hz,r⟩
 .obtain⟨z,its,n,r,e⟩:=h.ok I.hok;exact⟨its,r,⟨_,n,e,rfl,rfl,rfl⟩,z⟩
 .refine⟨its.toList,r,⟨o,n,I.kIn a o d,i,g,by trivial⟩,?_⟩;have e:=r.length;simp_all
theorem Inv.tuple(I:Inv X f c H s)(h:cC X.K H a b):∃d:List ah,bt b d/\IsTup s.heap a d.toArray/\b.length<=bd:=by
 rcases h with h|⟨o,d,n,g,i,j,hz,r⟩
 .obtain⟨z,d,r,p,_⟩:=h.ok I.hok;exact⟨d,r,p,z⟩
 .refine⟨d.toList,r,⟨o,I.kIn a o g,i,n,by trivial⟩,?_⟩;have e:=r.length;simp only[sT]at e;simp_all
theorem Inv.list_inj(I:Inv X f c H s)(h:b_ X.K H a b)(p:b_ X.K H a ys):b=ys:=by
 obtain⟨i,r,⟨o,n,e,_,_,d⟩,_⟩:=I.list h;obtain⟨g,m,⟨q,t,j,_,_,l⟩,_⟩:=I.list p;rw[e]at j;cases j;rw[d]at l;injection l with d1 _;have:i=g:=by lia
 subst this;exact r.inj m
theorem Inv.tuple_inj(I:Inv X f c H s)(h:cC X.K H a b)(p:cC X.K H a ys):b=ys:=by
 obtain⟨i,r,⟨o,e,_,n,d⟩,_⟩:=I.tuple h;obtain⟨g,m,⟨q,j,_,t,l⟩,_⟩:=I.tuple p;rw[e]at j;cases j;rw[d]at l;injection l with d1 _;have:i=g:=by lia
 subst this;exact r.inj m
end
noncomputable abbrev Cx.wish(X:Cx)(E:ah->ao->Prop):Cx:={X with xe:=E}
noncomputable abbrev Cx.nox(X:Cx):Cx:=X.wish λ_ _=>False
theorem Cx.Ok.wish{X:Cx}(ok:X.Ok)(E:ah->ao->Prop):(X.wish E).Ok :=⟨ok.mod,ok.kind,ok.glob,ok.blt,ok.above,ok.inj,ok.has,ok.cab,ok.hd,ok.frames,ok.stk,ok.exf,ok.bs,ok.bsz,ok.noex,ok.exfs,ok.funs,ok.frf,ok.tab⟩
theorem Cx.Ok.unwish{X:Cx}(ok:(X.wish E).Ok):X.Ok :=⟨ok.mod,ok.kind,ok.glob,ok.blt,ok.above,ok.inj,ok.has,ok.cab,ok.hd,ok.frames,ok.stk,ok.exf,ok.bs,ok.bsz,ok.noex,ok.exfs,ok.funs,ok.frf,ok.tab⟩
section
variable{X:Cx}{a:List (ae×Obj)}{b:St}{H:Hp}{s:ao}{E:ah->ao->Prop}
theorem Inv.wish(I:Inv X a b H s)(E:ah->ao->Prop):Inv (X.wish E) a b H s:=⟨I.ok.wish E,I.os,I.bare,I.base,I.loc,I.cell,I.free,I.freeC,I.pin,I.hok,I.len⟩
theorem Inv.unwish(I:Inv (X.wish E) a b H s):Inv X a b H s:=⟨I.ok.unwish,I.os,I.bare,I.base,I.loc,I.cell,I.free,I.freeC,I.pin,I.hok,I.len⟩
theorem SP.unwish(h:SP (X.wish E) a D f g):SP X a D f g:=by
 cases f with
 |next=>obtain⟨c,d,I,q⟩:=h;exact⟨c,d,I.unwish,q⟩
 |brk=>obtain⟨c,d,I,q⟩:=h;exact⟨c,d,I.unwish,q⟩
 |cont=>obtain⟨c,d,I,q⟩:=h;exact⟨c,d,I.unwish,q⟩
 |ret u=>obtain⟨v,c,d,I,r,q⟩:=h;exact⟨v,c,d,I.unwish,r,q⟩
end
section
variable{X:Cx}{j:bb}{rest:List bb}{t u:TS}{e:aB}{i:TE}{g:Pos}
noncomputable def N3:TS:=λD a H=>D.nx a H
noncomputable def MN(t u:TS):TS:=λD a H=>t {D with nx:=u D} a H
theorem Mp:lh X [] N3:=λ_ _ a H _ I h=>vB ⟨a,H,I,h⟩
theorem KU(m:PS X j t)(l:lh X rest u):lh X (j::rest) (MN t u):=by
 intro b s c H D I h;refine IT (aR (m b s c H {D with nx:=u D} I h) λf d q=>?_);cases f with
 |next=>obtain⟨a,o,n,q⟩:=q;exact l b d a o D n q
 |ret v=>exact q
 |brk=>exact q
 |cont=>exact q
theorem Mi(b:PS X j t):lh X [j] t:=by
 intro c s a H D I h;refine IT (aR (b c s a H D I h) λf d q=>?_);cases f with
 |next=>exact vB q
 |ret v=>exact q
 |brk=>exact q
 |cont=>exact q
theorem Inv.quiet{s:ao}(I:Inv X b a H s):interactive X.env=am:=by simp[interactive,I.ok.kind]
noncomputable def P6(i:TE):TS:=λD a H=>i a H λ_ b=>D.nx a b
theorem uX(d:PE X e i)(c:jj e ac g.line X.env=pure am:=by rfl):PS X (.Expr e g) (P6 i):=by intro f s a H D I h;exact wpAny_Expr_any (aR (d f s a H _ I h) λv n ⟨x,m,l,o,b⟩=>⟨a,m,l,b⟩) I.quiet c
noncomputable def Pi(i:TE):TS:=λD a H=>i a H D.rt
theorem xt(d:PE X e i):PS X (.Return (aa e) g) (Pi i):=by intro f s a H D I h;exact wpAny_Return_some (aR (d f s a H _ I h) λv n ⟨x,m,l,b,c⟩=>⟨x,a,m,l,b,c⟩)
noncomputable def RW:TS:=λD _ H=>D.rt .non H
theorem TV:PS X (.Return ac g) RW:=λ_ _ a H _ I h=>wpAny_Return_none ⟨.non,a,H,I,rfl,h⟩
noncomputable def TH(c:TT)(t u:TS):TS:=λD a H=>c a H λb d=>if b=ai then t D a d else u D a d
theorem Tq{m:TT}(r:PT X c m)(w:lh X a t)(v:lh X b u):PS X (.If c a b g) (TH m t u):=by
 intro l s f H D I h;refine wpAny_If (aR (r l s f H _ I h) λd n ⟨q,p,o⟩=>?_);cases d with
 |true=>exact w l n f q D p o
 |false=>exact v l n f q D p o
end
noncomputable abbrev TG:=V->St->Hp->(St->Hp->Prop)->Prop
noncomputable abbrev pT:=List V->St->Hp->(St->Hp->Prop)->Prop
noncomputable def PG(X:Cx)(a:aB)(t:TG):Prop :=
 ∀(d:List (ae×Obj)) (s:ao) (c:St) (H:Hp) (v:V) (u:ah) (Q:St->Hp->Prop),Inv X d c H s->RelV v u->t v c H Q ->
  au X.zz X.A (oS a X.env u) (λ_ s'=>∃b f,Inv X d b f s'/\Q b f) X.xe s
noncomputable def xn(X:Cx)(h:List aB)(t:pT):Prop :=
 ∀(f:List (ae×Obj)) (s:ao) (b:St) (H:Hp) (c:List V) (d:List ah) (Q:St->Hp->Prop),Inv X f b H s->bt c d->t c b H Q ->
  au X.zz X.A (assignInOrder ((sU h X.env).map (·.2)) d) (λ_ i=>∃a g,Inv X f a g i/\Q a g) X.xe s
noncomputable abbrev Bo:=V->V->V->Hp->(Hp->Prop)->Prop
noncomputable def Hb(X:Cx)(t:Bo):Prop :=
 ∀(c:List (ae×Obj)) (s:ao) (a:St) (H:Hp) (o i v:V) (ov b u:ah) (Q:Hp->Prop),Inv X c a H s->RelV o ov->RelV i b->RelV v u->t o i v H Q ->
  au X.zz X.A (setItem ov b u) (λ_ f=>∃d,Inv X c a d f/\Q d) X.xe s
section
variable{X:Cx}{d:Pos}
noncomputable def Ep(i:Nat):TG:=λv a H Q=>Q (a.set i (aa v)) H
theorem yM(f:X.N.Nodup)(b:X.N[i]?=aa x)(a:Loc X.env.scope x)(c:av X x:=by mleft):PG X (.Name x d) (Ep i):=by intro m s j H v u Q I r h;exact wpAny_assign_Name (x9 I f b a r (λl g=>⟨_,H,g,h⟩) c)
noncomputable def bG:pT:=λb a H Q=>b=[]/\Q a H
noncomputable def Ph(t:TG)(u:pT):pT:=λc b H Q=>∃v r,c=v::r/\t v b H λa f=>u r a f Q
theorem Rk:xn X [] bG:=by
 intro f s a H b c Q I r h;obtain⟨e,h⟩:=h;subst e;cases r;exact assignInOrder_nil ⟨a,H,I,h⟩
theorem ID{u:pT}(n:PG X e t)(m:xn X a u)(l:(sU (e::a) X.env).map (·.2)=oS e X.env::(sU a X.env).map (·.2):=by rfl):xn X (e::a) (Ph t u):=by
 intro c s f H w y Q I r h;obtain⟨v,x,o,h⟩:=h;subst o;cases r with
 |cons r i=>rw[l];refine assignInOrder_cons (aR (n c s f H _ _ _ I r h) λ_ g ⟨b,q,p,j⟩=>?_);exact m c g b q _ _ Q p i j
noncomputable def Rm(K:ay)(n:Nat)(t:pT):TG:=λv b H Q=>∃a xs,v=.ref a/\cC K H a xs/\xs.length=n/\t xs b H Q
theorem Rv(y:X.calm=ai)(h:xn X c t)(w:(sU c X.env).length=n:=by rfl) (B:(sU c X.env).findIdx? (·.1)=ac:=by rfl):PG X (.Tuple c k d) (Rm X.K n t):=by
 intro i s g H v u Q I r f;obtain⟨a,xs,A,q,x,f⟩:=f;subst A;cases r;obtain⟨l,j,p,D⟩:=I.tuple q;refine assign_Tuple_tuple (I.ok.hd y) p (by simp[w,<-x,j.length]) B λz m=>?_;have C:Inv X i g H {s with heap:=z}:=I.kept (t':=s.toks) λb o e=>m b o (dE (bC e)) e;exact h i _ g H xs _ Q C (by trivial) f
noncomputable def Sy(b c:TE)(t:Bo):TG:=λv a H Q=>b a H λo h=>c a h λi g=>t o i v g λf=>Q a f
theorem Kc{g:TE}{t:Bo}(A:PE X o f)(B:PE X i g)(z:Hb X t)(C:∀v,oS (.Subscript o i d) X.env v=(do
   let ov <-lv [v] (aQ o X.env)
   let a <-lv [v,ov] (aQ i X.env)
   standAt d
   lv [v,ov,a] (setItem ov a v)
   release [v,ov,a] []):=by intro _;rfl):PG X (.Subscript o i d) (Sy f g t):=by
 intro c s b H v u Q I r h;rw[C];refine aq (ig (aR (A c s b H _ I h) λov l ⟨x,L,F,n,w⟩=>?_));refine aq (ig (aR (B c l b L _ F w) λa j ⟨y,J,E,m,q⟩=>?_));refine aq (wpAny_standAt (aq (ig (aR (z c j b J x y v ov a u _ E n m r q) λ_ M ⟨G,D,p⟩=>?_))));exact wpAny_release ⟨b,G,D,p⟩
noncomputable def E5(b:TE)(g:TG):TS:=λD a H=>b a H λx c=>g x a c D.nx
theorem Oz{g:TG}(p:PE X e c)(o:PG X a g)(n:swapsWithSole [a] e d.line X.env=pure am:=by rfl)(m:swappedStores [a] e X.env=pure ac:=by rfl)(r:(sU [a] X.env).map (·.2)=[oS a X.env]:=by rfl):PS X (.Assign [a] e d) (E5 c g):=by intro f s b H D I h;refine wpAny_Assign_stores (aR (p f s b H _ I h) λv i ⟨x,u,t,j,l⟩=>?_) n m;rw[r];exact aR (o f i b u x v _ t j l) λ_ w q=>q
theorem Ik{b:TE}{a:Pos}(p:X.N.Nodup)(m:X.N[i]?=aa x)(j:Loc X.env.scope x)(o:PE X e b)(l:jj e (aa (.Name x a)) d.line X.env=pure am:=by rfl)(n:av X x:=by mleft):PS X (.Assign [.Name x a] e d) (E5 b (Ep i)):=by intro q s c H D I h;refine wpAny_Assign_Name (aR (o q s c H _ I h) λv z ⟨y,u,t,f,g⟩=>?_) l;exact x9 t p m j f (λw r=>⟨_,u,r,g⟩) n
noncomputable def Nh(c:TT)(j:TS):TS:=λD a H=>∃W:Nat->St->Hp->Prop,(∃m,W m a H)/\∀m a H,W m a H ->
 c a H λb h=>if b=ai then ∃N:St->Hp->Prop,(∀f i,N f i->∃g,g<m/\W g f i)/\j {D with nx:=N,ct:=N,bk:=D.nx} a h else D.nx a h
theorem SI{y:TS}(A:yP X.zz X.A X.env X.xe)(T:PT X c x)(Y:lh X i y):PS X (.While c i [] d) (Nh x y):=by
 intro u s J H D I h;obtain⟨W,⟨S,M⟩,l⟩:=h;refine wpAny_While (codeAny_whileLoop (λn Q=>∃j G,Inv X u j G Q/\W n j G) ?_ S ⟨J,H,I,M⟩);rintro n P ⟨g,F,Z,L⟩;refine sV A (aR (T u P g F _ Z (l n g F L)) λb O ⟨E,C,o⟩=>?_);cases b with
 |true=>
  obtain⟨N,B,o⟩:=o;rw[if_pos rfl];refine sV A (aR (Y u O g E _ C o) λf s3 z=>?_);cases f with
  |next=>obtain⟨a,m,w,q⟩:=z;obtain⟨r,t,p⟩:=B a m q;exact⟨r,t,a,m,w,p⟩
  |cont=>obtain⟨a,m,w,q⟩:=z;obtain⟨r,t,p⟩:=B a m q;exact⟨r,t,a,m,w,p⟩
  |brk=>trivial
  |ret v=>trivial
 |false=>rw[if_neg kG];exact vB ⟨g,E,C,o⟩
end
structure It where
 go:Nat->Hp->Prop
 yld:Nat->Hp->V->Hp->Prop
 stop:Nat->Hp->Prop
noncomputable def lp(X:Cx)(a:List (ae×Obj))(H:Hp)(b:ae):Prop :=
 H b=ac/\b≠X.env.locals/\b∉X.fs/\(b∈X.ex\/X.s₀.heap.objs.size<=b)/\(∀x c,X.env.cells.lookup x=aa c->c≠b)/\∀p∈X.pn++a,p.1≠b
theorem Inv.fpOk{H f:Hp}{s:ao}{b:ae}(I:Inv X d g H s)(a:s.heap.objs.size<=b)(i:f b=ac):lp X d f b:=by
 refine⟨i,sW (gH I.lt a),I.nofs a,.inr (bT I.sz a),λx c e z=>?_,λp h z=>?_⟩
 .obtain⟨v,q⟩:=I.cell x c e;exact absurd (gH q.lt (by rw[z];trivial)) (lr _)
 .exact absurd (gH (bC (I.pin p h).1) (by rw[z];trivial)) (lr _)
structure rV(P:aS)(w:aJ)(K:ay)(tg:aB)(J:It)(fp:List ae)(it:ae)(tn:Nat->aA->Prop):Prop where
 mem:it∈fp
 obj:∀i h,tn i h->∀b∈fp,∃o,h.get? b=aa o/\∀v,o.data≠.cell v
 keep:∀i h h',tn i h->(∀b∈fp,∀o,h.get? b=aa o->h'.get? b=aa o)->tn i h'
 item:∀(X:Cx),X.prog=P->X.w=w->X.K=K->X.calm=ai->∀(i:Nat) (ag:List (ae×Obj)) (s:ao) (σ:St) (H:Hp) (E:ah->ao->Prop),Inv X ag σ H s->(∀b∈fp,lp X ag H b)->tn i s.heap->J.go i H ->
  au (ax P w) X.A (pyNext (.ref it)) (λr s1=>∃u,r=aa u /\ au (ax P w) X.A (Cq tg (.ref it) u) (λ_ s2=>∃x H',Inv X ag σ H' s2/\RelV x u/\J.yld i H x H'/\tn (i+1) s2.heap/\∀b∈fp,H' b=ac) E s1) E s
 done:∀(X:Cx),X.prog=P->X.w=w->X.K=K->X.calm=ai->∀(i:Nat) (ag:List (ae×Obj)) (s:ao) (σ:St) (H:Hp) (E:ah->ao->Prop),Inv X ag σ H s->(∀b∈fp,lp X ag H b)->tn i s.heap->J.stop i H ->
  au (ax P w) X.A (pyNext (.ref it)) (λr s1=>r=ac/\Inv X ag σ H s1) E s
 self:∀(A:aY) (i:Nat) (s:ao) (Q:ah->ao->Prop) (E:ah->ao->Prop),tn i s.heap->Q (.ref it) s->au (ax P w) A (oU (.ref it)) Q E s
noncomputable abbrev TI:=St->Hp->(It->Hp->Prop)->Prop
noncomputable def xf(X:Cx)(i:List (ae×Obj))(j:St)(l:aB)(R:It->Hp->Prop)(a:ah)(f:ao):Prop :=
 ∃(g:ae) (h:List ae) (d:Nat->aA->Prop) (J:It) (c:Hp),a=.ref g/\Inv X i j c f/\rV X.prog X.w X.K l J h g d/\d 0 f.heap/\(∀b∈h,lp X i c b)/\R J c
noncomputable def PI(X:Cx)(f a:aB)(d:TI):Prop :=
 ∀(c:List (ae×Obj)) (s:ao) (b:St) (H:Hp) (R:It->Hp->Prop),Inv X c b H s->d b H R ->
  au X.zz X.A (aQ a X.env) (λv g=>au X.zz X.A (oU v) (xf X c b f R) X.xe g) X.xe s
theorem um{s:ao}(f:s.heap.get? d=aa o)(j:o.cls=.type n)(i:o.data=.fields b)(g:["enumerate","zip","dict_itemiterator","dict_reverseitemiterator","odict_iterator","itertools.zip_longest","itertools.pairwise"].contains n=am) (a:Q () s):au M A (Cq c (.ref d) u) Q E s:=by
 unfold Cq;cases c <;> first
  |exact aE a
  | (cases u <;> first
    |exact aE a
    | (refine aq (wpAny_load f ?_)
       rw[j,i];show au M A (if(["enumerate","zip","dict_itemiterator","dict_reverseitemiterator","odict_iterator","itertools.zip_longest","itertools.pairwise"].contains n&&b[0]? == aa (ee _))=ai then _ else _) Q E s;rw[if_neg (by intro h;rw[g,Bool.false_and]at h;cases h)];exact aE a))
noncomputable def zW(K:ay)(a:ae):It :=⟨λi H=>∃xs x,b_ K H a xs/\xs[i]?=aa x,λi H x b=>b=H/\∀xs,b_ K H a xs->xs[i]?=aa x,λi H=>∃xs,b_ K H a xs/\xs.length<=i⟩
noncomputable def Bk(K:ay)(a:ae):It :=⟨λi H=>∃xs x,cC K H a xs/\xs[i]?=aa x,λi H x b=>b=H/\∀xs,cC K H a xs->xs[i]?=aa x,λi H=>∃xs,cC K H a xs/\xs.length<=i⟩
noncomputable def xQ(a:Int)(n:Nat):It:=⟨λi _=>i<n,λi H x b=>b=H/\x=.int (a+i),λi _=>n<=i⟩
theorem PF{K:ay}{M:aB}(a g:ae):rV P w K M (zW K a) [g] g (λi h=>h.IsListIter g a i) where
 mem:=by simp
 obj:=λi h f b j=>by
  have e:b=g:= ~~~j
  subst e;obtain⟨o,e,c,d⟩:=f;simp_all
 keep:=λi h n f k=>f.at λo e=>k g (by simp) o e
 item:=by intro X y t z G i J s D H E I m f v;subst y t z;obtain⟨xs,x,l,F⟩:=v;obtain⟨r,q,p,Q⟩:=I.list l;obtain⟨u,T,O⟩:=q.get F;obtain⟨C,B,f2,f3,f4,A⟩:=m g (by simp);refine wpAny_pyNext_list_item f p.isList (x:=u) (~~~T) λn L N=>?_;have Y:Inv X J D H {s with heap:=n}:=I.turned (t':=s.toks) (λb o j e=>(N.2 b j).trans e) C B f3 f4 A;obtain⟨o,e,c,d⟩:=id L;exact⟨u,rfl,um (s:={s with heap:=n}) e c d (by rfl) ⟨x,H,Y,O,⟨rfl,λZ S=>by rw[I.list_inj S l];trivial⟩,L,λb j=>(m b j).1⟩⟩
 done:=by intro X y t z G i J s D H E I m f v;subst y t z;obtain⟨xs,l,F⟩:=v;obtain⟨r,q,p,Q⟩:=I.list l;obtain⟨C,B,f2,f3,f4,A⟩:=m g (by simp);have hl:=q.length;exact wpAny_pyNext_list_end (I.ok.hd G) f p.isList (by simp;simp_all) λn W=>⟨rfl,I.turned (t':=s.toks) (λb o j e=>W b o j e) C B f3 f4 A⟩
 self:=λ_ _ _ _ _ f h=>wpAny_pyIter_listiter f h
theorem Sj{K:ay}{M:aB}(a j:ae):rV P w K M (Bk K a) [j] j (λi h=>h.IsTupleIter j a i) where
 mem:=by simp
 obj:=λi h f b l=>by
  have e:b=j:= ~~~l
  subst e;obtain⟨o,e,c,d⟩:=f;simp_all
 keep:=λi h q f k=>f.at λo e=>k j (by simp) o e
 item:=by intro X y t z G i J s D H E I n f v;subst y t z;obtain⟨xs,x,m,F⟩:=v;obtain⟨g,r,p,Q⟩:=I.tuple m;obtain⟨u,T,O⟩:=r.get F;obtain⟨C,B,f2,f3,f4,A⟩:=n j (by simp);refine wpAny_pyNext_tuple_item f (show s.heap.IsTuple a g.toArray from p) (x:=u) (~~~T) λq L N=>?_;have Y:Inv X J D H {s with heap:=q}:=I.turned (t':=s.toks) (λb o l e=>(N.2 b l).trans e) C B f3 f4 A;obtain⟨o,e,c,d⟩:=id L;exact⟨u,rfl,um (s:={s with heap:=q}) e c d (by rfl) ⟨x,H,Y,O,⟨rfl,λZ S=>by rw[I.tuple_inj S m];trivial⟩,L,λb l=>(n b l).1⟩⟩
 done:=by intro X y t z G i J s D H E I n f v;subst y t z;obtain⟨xs,m,F⟩:=v;obtain⟨g,r,p,Q⟩:=I.tuple m;obtain⟨C,B,f2,f3,f4,A⟩:=n j (by simp);have hl:=r.length;exact wpAny_pyNext_tuple_end (I.ok.hd G) f (show s.heap.IsTuple a g.toArray from p) (by simp;simp_all) λq W=>⟨rfl,I.turned (t':=s.toks) (λb o l e=>W b o l e) C B f3 f4 A⟩
 self:=λ_ _ _ _ _ f h=>wpAny_pyIter_tupleiter f h
theorem Os{K:ay}{D:aB}(c:ae)(f:Int)(n:Nat):rV P w K D (xQ f n) [c] c (λi h=>IsRangeIter h c (f+(i:Nat)*1) ((n:Int)-(i:Nat)) 1) where
 mem:=by simp
 obj:=λi h a b d=>⋯
 keep:=λi h j a k=>k c (by simp) _ a
 item:=by intro X q l r p i B s z H E I g a m;subst q l r;obtain⟨y,x,f2,f3,f4,u⟩:=g c (by simp);have W:=Walks.range (prog:=X.prog) (w:=X.w) (I.ok.hd p) c f 1 n;refine W.item i s _ _ m a λv j A G C F=>?_;obtain⟨t,rfl⟩:=G;have L:Inv X B z H {s with heap:=j,toks:=A}:=I.turned (λb o d e=>F b o (~~~d) e) y x f3 f4 u;refine⟨_,rfl,um (s:={s with heap:=j,toks:=A}) (n:="range_iterator") C rfl rfl (by rfl) ⟨.int (f+i),H,L,⟨t,?_⟩,⟨rfl,rfl⟩,C,λb d=>(g b d).1⟩⟩;simp
 done:=by intro X q l r p i B s z H E I g a m;subst q l r;obtain⟨y,x,f2,f3,f4,u⟩:=g c (by simp);exact wpAny_pyNext_range_end (I.ok.hd p) a (by have:n<=i:=m;lia) λj J=>⟨rfl,I.turned (t':=s.toks) (λb o d e=>J b o d e) y x f3 f4 u⟩
 self:=λ_ _ _ _ _ a h=>wpAny_pyIter_rangeiter a h
section
variable{X:Cx}{c:aB}
theorem KW{s:ao}{R:It->Hp->Prop}{E:ah->ao->Prop}{a d:Int}{t u v:Tok}{g:Nat}(I:Inv X h f H s)(p:-(2^62)<=a)(n:a<2^62)(m:-(2^62)<=d)(l:d<2^62)(q:R (xQ a (d-a).toNat) H):au X.zz X.A (oU (.ref s.heap.objs.size)) (xf X h f c R) E {s with heap:=s.heap.push {cls:=.type "range",data:=.fields #[.int a t,.int d u,.int 1 v]},toks:=g}:=by
 refine wpAny_pyIter_range (IsRange.new ..) (small_one p n m l) ?_;have i:Inv X h f H {s with heap:=s.heap.push {cls:=.type "range",data:=.fields #[.int a t,.int d u,.int 1 v]},toks:=g}:=I.kept λb o e=>bD _ e;refine⟨(s.heap.push {cls:=.type "range",data:=.fields #[.int a t,.int d u,.int 1 v]}).objs.size,[(s.heap.push {cls:=.type "range",data:=.fields #[.int a t,.int d u,.int 1 v]}).objs.size],_,_,H,rfl,i.kept (t':=g) λb o e=>bD _ e,Os _ a (d-a).toNat,?_,λb j=>?_,q⟩
 .have w:a+((0:Nat):Int)*1=a:=by simp
  have r:(((d-a).toNat:Nat):Int)-((0:Nat):Int)=Builtin.Range.rangeSize a d 1:=by rw[rangeSize_one];split <;> lia
  show IsRangeIter _ _ (a+((0:Nat):Int)*1) ((((d-a).toNat:Nat):Int)-((0:Nat):Int)) 1;rw[w,r];exact cS _ rfl
 .have e:b=(s.heap.push {cls:=.type "range",data:=.fields #[.int a t,.int d u,.int 1 v]}).objs.size:= ~~~j
  subst e;exact i.fpOk (bc _) (i.hok.fresh (bc _))
noncomputable def Li(d:TA):TI:=λa H R=>d a H λb f=>∃j:Int,b=[.int j]/\-(2^62)<=j/\j<2^62/\R (xQ 0 j.toNat) f
theorem T3{b:Pos}(u:Gl X "range")(o:X.mg "range"=ac)(v:PA X [a] f)(n:aK [a] X.env=[(am,aQ a X.env)]:=by rfl):PI X c (.Call (.Name "range" p) [a] [] b) (Li f):=by
 intro w s g H R I h;refine Call_ (vj I u o boot_range (PyProof.Rows.callWith_type1 (aR (v b w s g H _ I h) λz A ⟨y,B,x,l,d⟩=>?_) n rfl));obtain⟨j,e,d,m,q⟩:=d;subst e;cases l with
 |cons r i=>
  cases i;obtain⟨t,rfl⟩:=r;exact call_range_1 (KW x (by simp) (by simp) d m (~~~q))
noncomputable def RY(j:TI)(g:TG)(l:TS):TS:=λD a H=>j a H λJ o=>∃W:Nat->Nat->St->Hp->Prop,(∃m,W 0 m a o)/\∀i m a H,W i m a H ->
 (J.stop i H/\D.nx a H)\/(J.go i H/\∃N:St->Hp->Prop,(∀b d,N b d->∃h,h<m/\W (i+1) h b d)/\∀x d,J.yld i H x d->g x a d λf n=>l {D with nx:=N,ct:=N,bk:=D.nx} f n)
noncomputable def vd(a:List ae)(h:aA):List (ae×Obj):=a.filterMap λb=>(h.get? b).map λo=>(b,o)
theorem yf{h:aA}(d:b∈a)(e:h.get? b=aa o):(b,o)∈vd a h:=yQ.mpr ⟨b,d,by rw[e];rfl⟩
theorem OC(d:p∈vd a h):p.1∈a/\h.get? p.1=aa p.2:=by
 obtain⟨b,f,e⟩:=yQ.mp d;cases q:h.get? b with
 |none=>simp_all
 |some o=>grind
theorem Inv.pinned{s:ao}{a:List ae}(I:Inv X d f H s)(h:∀b∈a,lp X d H b)(j:∀b∈a,∃o,s.heap.get? b=aa o/\∀v,o.data≠.cell v):Inv X (d++vd a s.heap) f H s :=
 I.pins_of λp g=>(lu.mp g).elim (λz=>I.pin p (i6 _ z)) λz=>by
  obtain⟨i,e⟩:=OC z;obtain⟨m,l,f2,_⟩:=h p.1 i
  grind
theorem Inv.unpinned{H:Hp}{s:ao}(I:Inv X (b++d) a H s):Inv X b a H s:=I.pins_of λp f=>I.pin p (i6 _ (yO _ f))
theorem GE{g:TG}{tb:TS}{Y:Pos}(L:yP X.zz X.A X.env X.xe)(hc:X.calm=ai)(hi:PI X c q wi)(hg:PG X c g)(t:lh X C tb)(hs:∀x,lw q X.env x=pure x:=by intro _;rfl):PS X (.For c q C [] Y) (RY wi g tb):=by
 intro E s σ H D I h;refine wpAny_For (aR (hi E s σ H _ I h) λv s1 h1=>aR h1 λitv s2 h2=>?_) hs;obtain⟨it,O,tn,J,H2,e,I2,T,bM,f2,W,⟨m0,w0⟩,F⟩:=h2;subst e;have p:∀{A:Hp},(∀b∈O,A b=ac)->∀b∈O,lp X E A b:=λhn b t=>⟨hn b t,(f2 b t).2⟩
 refine codeAny_forLoop_any (λn s'=>∃i l A,Inv X E l A s'/\tn i s'.heap/\(∀b∈O,A b=ac)/\W i n l A) ?_ m0 ⟨0,σ,H2,I2,bM,λb t=>(f2 b t).1,w0⟩;rintro n s3 ⟨i,j,P,I3,dj,M,w3⟩;rcases F i n j P w3 with⟨stop,qn⟩|⟨go,N,hN,step⟩
 .refine sV L (aR (T.done X rfl rfl rfl hc i E s3 j P X.xe I3 (p M) dj stop) λr s4 ⟨Z,I4⟩=>?_);subst Z;exact vB ⟨j,P,I4,qn⟩
 .refine sV L (aR (T.item X rfl rfl rfl hc i E s3 j P X.xe I3 (p M) dj go) λr s4 ⟨u,Z,h4⟩=>?_);subst Z;refine sV L (aR h4 λ_ s5 ⟨x,H5,I5,r5,y5,eX,fr5⟩=>?_);have I5':=I5.pinned (p fr5) (T.obj _ _ eX);refine sV L (aR (hg _ s5 j H5 x u _ I5' r5 (step x H5 y5)) λ_ s6 ⟨Q,H6,I6,q6⟩=>?_);refine sV L (aR (t _ s6 Q H6 _ I6 q6) λf S B=>?_);have w:∀{a:St}{z:Hp},Inv X (E++vd O s5.heap) a z S->N a z->∃m,m<n/\∃i l A,Inv X E l A S/\tn i S.heap/\(∀b∈O,A b=ac)/\W i m l A:=λ{a z} y G=>by obtain⟨m',hm,w7⟩:=hN a z G;refine⟨m',hm,i+1,a,z,y.unpinned,T.keep _ _ _ eX λb t o e=>(y.pin (b,o) (i6 _ (i6 _ (yf t e)))).1,λb t=>?_,w7⟩;obtain⟨o,e,d⟩:=T.obj _ _ eX b t;exact(y.pin (b,o) (i6 _ (i6 _ (yf t e)))).2.1
  cases f with
  |next=>obtain⟨a,z,y,G⟩:=B;exact w y G
  |cont=>obtain⟨a,z,y,G⟩:=B;exact w y G
  |brk=>obtain⟨a,z,y,B⟩:=B;exact⟨a,z,y.unpinned,B⟩
  |ret v=>obtain⟨x7,a,z,y,r7,B⟩:=B;exact⟨x7,a,z,y.unpinned,r7,B⟩
end
noncomputable abbrev R2:=V->V->Hp->VK->Prop
noncomputable def bZ(X:Cx)(f:ah->ah->Sem ah)(r:R2):Prop :=
 ∀(b:List (ae×Obj)) (s:ao) (a:St) (H:Hp) (x y:V) (v u:ah) (Q:VK),Inv X b a H s->RelV x v->RelV y u->r x y H Q ->
  au X.zz X.A (f v u) (EP X b a Q) X.xe s
noncomputable def yJ(X:Cx)(f:ah->Sem ah)(r:V->Hp->VK->Prop):Prop :=
 ∀(b:List (ae×Obj)) (s:ao) (a:St) (H:Hp) (x:V) (v:ah) (Q:VK),Inv X b a H s->RelV x v->r x H Q ->
  au X.zz X.A (f v) (EP X b a Q) X.xe s
noncomputable def dq(X:Cx)(f:ah)(r:List V->Hp->VK->Prop):Prop :=
 ∀(c:List (ae×Obj)) (s:ao) (a:St) (H:Hp) (xs:List V) (b:List ah) (Q:VK),Inv X c a H s->bt xs b->r xs H Q ->
  au X.zz X.A (call f b) (EP X c a Q) X.xe s
noncomputable def xk(r:R2)(c b:TE):TE:=λa H Q=>c a H λx f=>b a f λy d=>r x y d Q
noncomputable def RG(r:V->Hp->VK->Prop)(b:TE):TE:=λa H Q=>b a H λx c=>r x c Q
noncomputable def rI(C:Int->Int->Prop)(g:Int->Int->V):R2:=λx y H Q=>∃i j,x=.int i/\y=.int j/\C i j/\Q (g i j) H
noncomputable def lU(g:Int->Int->V):R2:=λx y H Q=>∃i j,x=.int i/\y=.int j/\Q (g i j) H
noncomputable def rU(g:Int->V):V->Hp->VK->Prop:=λx H Q=>∃i,x=.int i/\Q (g i) H
section
variable{X:Cx}{a b c:aB}{d m n:TE}{l:Pos}
theorem BU(E:PE X a d)(D:PE X b m){H:Hp}{R:V->V->Hp->Prop}(I:Inv X q g H s)(h:d g H λx r=>m g r λy i=>R x y i) {Q:ah->ao->Prop}{f:ah->ah->Sem ah}(C:∀v u p x y i,Inv X q g i p->RelV x v->RelV y u->R x y i->au X.zz X.A (f v u) Q X.xe p):au X.zz X.A (aQ a X.env) (λv o=>au X.zz X.A (aQ b X.env) (λu j=>au X.zz X.A (f v u) Q X.xe j) X.xe o) X.xe s:=by refine aR (E q s g H _ I h) λv t ⟨x,r,G,z,B⟩=>?_;refine aR (D q t g r _ G B) λu p ⟨y,i,F,w,A⟩=>?_;exact C v u p x y i F z w A
theorem Km(p:bZ X (iH f) r)(w:PE X a d)(t:PE X b m):PE X (.BinOp a f b l) (xk r d m):=by intro z s g H Q I h;exact wpAny_BinOp (BU w t I h λv u i x y B A o j q=>p z i g B x y v u Q A o j q)
theorem R1(q:yJ X (unaryOp g) r)(t:PE X a d):PE X (.UnaryOp g a l) (RG r d):=by intro i s f H Q I h;exact UnaryOp_ (aR (t i s f H _ I h) λv j ⟨x,w,u,o,p⟩=>q i j f w x v Q u o p)
theorem Bl{g:Int->Int->Int}(o:∀(i j:Int) (t u:Tok) (s:ao) (Q:ah->ao->Prop) (E:ah->ao->Prop),C i j->Q (.int (g i j) s.toks) {s with toks:=s.toks+1}->au X.zz X.A (f (.int i t) (.int j u)) Q E s):bZ X f (rI C λi j=>.int (g i j)):=by intro B s A H x y v u Q I w r h;obtain⟨i,j,rfl,rfl,z,q⟩:=h;obtain⟨t,rfl⟩:=w;obtain⟨p,rfl⟩:=r;exact o i j t p s _ _ z ⟨.int (g i j),H,I.tok _,⟨_,rfl⟩,q⟩
theorem GI{g:Int->Int->Int}(o:∀(i j:Int) (t u:Tok) (s:ao) (Q:ah->ao->Prop) (E:ah->ao->Prop),Q (.int (g i j) s.toks) {s with toks:=s.toks+1}->au X.zz X.A (f (.int i t) (.int j u)) Q E s):bZ X f (lU λi j=>.int (g i j)):=by intro A s z H x y v u Q I w r h;obtain⟨i,j,rfl,rfl,q⟩:=h;obtain⟨t,rfl⟩:=w;obtain⟨p,rfl⟩:=r;exact o i j t p s _ _ ⟨.int (g i j),H,I.tok _,⟨_,rfl⟩,q⟩
theorem Cp{g:Int->Int->Bool}(o:∀(i j:Int) (t u:Tok) (s:ao) (Q:ah->ao->Prop) (E:ah->ao->Prop),Q (.bool (g i j)) s->au X.zz X.A (f (.int i t) (.int j u)) Q E s):bZ X f (lU λi j=>.bl (g i j)):=by intro A s z H x y v u Q I w r h;obtain⟨i,j,rfl,rfl,q⟩:=h;obtain⟨t,rfl⟩:=w;obtain⟨p,rfl⟩:=r;exact o i j t p s _ _ ⟨.bl (g i j),H,I,rfl,q⟩
noncomputable def FQ(i j:Int):Prop:=0<=j/\j<=1000000/\i.natAbs<2^64
noncomputable def Be(i j:Int):Prop:=(-(2^64)<i/\i<2^64)\/(-(2^64)<j/\j<2^64)
theorem Be.ok(h:Be i j):IntMulOk i j:=by
 rcases h with⟨h1,h2⟩|⟨h1,h2⟩
 .exact .of_left (intBits_le_64 h1 h2)
 .exact .of_right (intBits_le_64 h1 h2)
theorem U8:bZ X (iH .Add) (lU λi j=>.int (i+j)):=GI λ_ _ _ _ _ _ _ q=>add_int q
theorem pq:bZ X (iH .Sub) (lU λi j=>.int (i-j)):=GI λ_ _ _ _ _ _ _ q=>sub_int q
theorem UW:bZ X (iH .Mult) (rI Be λi j=>.int (i*j)):=Bl λ_ _ _ _ _ _ _ f q=>mul_int q f.ok
theorem rG:bZ X (iH .Mod) (rI (λ_ j=>0<j) λi j=>.int (i % j)):=Bl λi j _ _ _ _ _ f q=>by have g:(0:Int)<j:=f;exact mod_int' ∅ (by rw[Int.fmod_eq_emod_of_nonneg i ∅];exact q)
theorem R4:bZ X (iH .Pow) (rI FQ λi j=>.int (i^j.toNat)):=Bl λ_ _ _ _ _ _ _ f q=>pow_int_small f.1 f.2.1 f.2.2 q
theorem K5{g:Int->Int}(j:∀(i:Int) (t:Tok) (s:ao) (Q:ah->ao->Prop) (E:ah->ao->Prop),Q (.int (g i) s.toks) {s with toks:=s.toks+1}->au X.zz X.A (f (.int i t)) Q E s):yJ X f (rU λi=>.int (g i)):=by intro r s p H x v Q I o h;obtain⟨i,rfl,q⟩:=h;obtain⟨t,rfl⟩:=o;exact j i t s _ _ ⟨.int (g i),H,I.tok _,⟨_,rfl⟩,q⟩
theorem mX:yJ X (unaryOp .USub) (rU λi=>.int (-i)):=K5 λ_ _ _ _ _ q=>neg_int q
end
noncomputable def u6:V->V->Bool
 |.non,.non=>ai|.non,.int _=>ai|.int _,.non=>ai|.non,.bl _=>ai|.bl _,.non=>ai|.non,.str _=>ai|.str _,.non=>ai
 |.int _,.int _=>ai|.bl _,.bl _=>ai|.str _,.str _=>ai|.byt _,.byt _=>ai
 |.int _,.str _=>ai|.str _,.int _=>ai|.bl _,.str _=>ai|.str _,.bl _=>ai
 |_,_=>am
noncomputable def GW:R2:=λx y H Q=>u6 x y=ai/\Q (.bl (decide (x=y))) H
noncomputable def F7:R2:=λx y H Q=>u6 x y=ai/\Q (.bl (!decide (x=y))) H
theorem GK:decide (V.int i=V.int j)=(i == j):=by lia
theorem Gd:decide (V.bl i=V.bl j)=(i == j):=by lia
theorem Fh:decide (V.str i=V.str j)=(i == j):=by lia
theorem II:decide (V.byt i=V.byt j)=(i.toList == j.toList):=by rw[vC];simp
section
variable{X:Cx}{a b c:aB}{l g o:TE}{m:Pos}
theorem dw(I:Inv X h d H s)(q:Q (.bl k) H)(e:k=f):EP X h d Q (.bool f) s:=by subst e;exact⟨.bl k,H,I,rfl,q⟩
theorem U5:bZ X (df .Eq) GW:=by
 intro w s r H x y v u Q I p d h;obtain⟨n,q⟩:=h;cases x with
 |non=>
  cases p;cases y with
  |non=>cases d;exact PySem.EqNone.eq_none_none (dw I q (by rfl))
  |bl j=>cases d;exact PySem.EqNone.eq_none_bool (dw I q (by rfl))
  |int j=>obtain⟨f,rfl⟩:=d;exact PySem.EqNone.eq_none_int (dw I q (by rfl))
  |str j=>obtain⟨f,rfl⟩:=d;exact PySem.EqNone.eq_none_str (dw I q (by rfl))
  |_=>exact absurd (show am=ai from n) kG
 |bl i=>
  cases p;cases y with
  |non=>cases d;exact PySem.EqNone.eq_bool_none (dw I q (by rfl))
  |bl j=>cases d;exact eq_bool (dw I q Gd)
  |str j=>obtain⟨f,rfl⟩:=d;exact PySem.EqMixed.eq_bool_str (dw I q (by rfl))
  |_=>exact absurd (show am=ai from n) kG
 |int i=>
  obtain⟨t,rfl⟩:=p;cases y with
  |non=>cases d;exact PySem.EqNone.eq_int_none (dw I q (by rfl))
  |int j=>obtain⟨f,rfl⟩:=d;exact eq_int (dw I q GK)
  |str j=>obtain⟨f,rfl⟩:=d;exact PySem.EqMixed.eq_int_str (dw I q (by rfl))
  |_=>exact absurd (show am=ai from n) kG
 |str i=>
  obtain⟨t,rfl⟩:=p;cases y with
  |non=>cases d;exact PySem.EqNone.eq_str_none (dw I q (by rfl))
  |bl j=>cases d;exact PySem.EqMixed.eq_str_bool (dw I q (by rfl))
  |int j=>obtain⟨f,rfl⟩:=d;exact PySem.EqMixed.eq_str_int (dw I q (by rfl))
  |str j=>obtain⟨f,rfl⟩:=d;exact eq_str (dw I q Fh)
  |_=>exact absurd (show am=ai from n) kG
 |byt i=>
  obtain⟨t,rfl⟩:=p;cases y with
  |byt j=>obtain⟨f,rfl⟩:=d;exact PySem.W.eq_bytes (dw I q II)
  |_=>exact absurd (show am=ai from n) kG
 |_=>cases y <;> exact absurd (show am=ai from n) kG
theorem Vg:bZ X (df .NotEq) F7:=by
 intro w s r H x y v u Q I p d h;obtain⟨n,q⟩:=h;cases x with
 |non=>
  cases p;cases y with
  |non=>cases d;exact PySem.EqNone.ne_none_none (dw I q (by rfl))
  |bl j=>cases d;exact PySem.EqNone.ne_none_bool (dw I q (by rfl))
  |int j=>obtain⟨f,rfl⟩:=d;exact PySem.EqNone.ne_none_int (dw I q (by rfl))
  |str j=>obtain⟨f,rfl⟩:=d;exact PySem.EqNone.ne_none_str (dw I q (by rfl))
  |_=>exact absurd (show am=ai from n) kG
 |bl i=>
  cases p;cases y with
  |non=>cases d;exact PySem.EqNone.ne_bool_none (dw I q (by rfl))
  |bl j=>cases d;exact ne_bool (dw I q (congrArg not Gd))
  |str j=>obtain⟨f,rfl⟩:=d;exact PySem.EqMixed.ne_bool_str (dw I q (by rfl))
  |_=>exact absurd (show am=ai from n) kG
 |int i=>
  obtain⟨t,rfl⟩:=p;cases y with
  |non=>cases d;exact PySem.EqNone.ne_int_none (dw I q (by rfl))
  |int j=>obtain⟨f,rfl⟩:=d;exact ne_int (dw I q (congrArg not GK))
  |str j=>obtain⟨f,rfl⟩:=d;exact PySem.EqMixed.ne_int_str (dw I q (by rfl))
  |_=>exact absurd (show am=ai from n) kG
 |str i=>
  obtain⟨t,rfl⟩:=p;cases y with
  |non=>cases d;exact PySem.EqNone.ne_str_none (dw I q (by rfl))
  |bl j=>cases d;exact PySem.EqMixed.ne_str_bool (dw I q (by rfl))
  |int j=>obtain⟨f,rfl⟩:=d;exact PySem.EqMixed.ne_str_int (dw I q (by rfl))
  |str j=>obtain⟨f,rfl⟩:=d;exact ne_str (dw I q (congrArg not Fh))
  |_=>exact absurd (show am=ai from n) kG
 |byt i=>
  obtain⟨t,rfl⟩:=p;cases y with
  |byt j=>obtain⟨f,rfl⟩:=d;exact PySem.W.ne_bytes (dw I q (congrArg not II))
  |_=>exact absurd (show am=ai from n) kG
 |_=>cases y <;> exact absurd (show am=ai from n) kG
theorem HF:bZ X (df .Lt) (lU λi j=>.bl (decide (i<j))):=Cp λ_ _ _ _ _ _ _ q=>lt_int q
theorem rj:bZ X (df .LtE) (lU λi j=>.bl (decide (i<=j))):=Cp λ_ _ _ _ _ _ _ q=>le_int q
theorem rY:bZ X (df .Gt) (lU λi j=>.bl (decide (j<i))):=Cp λ_ _ _ _ _ _ _ q=>gt_int q
theorem U0:bZ X (df .In) (λx y H Q=>∃i j,x=.str i/\y=.str j/\Q (.bl (!(IU j i 0 j.length 1).isEmpty)) H):=by intro r s n H x y v u Q I f d h;obtain⟨i,j,rfl,rfl,q⟩:=h;obtain⟨t,rfl⟩:=f;obtain⟨p,rfl⟩:=d;exact in_str (dw I q rfl)
theorem bZ.or(h:bZ X f r)(t:bZ X f n):bZ X f (λx y H Q=>r x y H Q\/n x y H Q):=by
 intro p s d H x y v u Q I j i q;rcases q with q|q
 .exact h p s d H x y v u Q I j i q
 .exact t p s d H x y v u Q I j i q
theorem RD(p:bZ X (df d) r)(z:PE X a l)(w:PE X b g)(t:nI d b=am):PE X (.Compare a [d] [b] m) (xk r l g):=by intro A s f H Q I h;exact wpAny_Compare1 (BU z w I h λv u i x y C B n j q=>p A i f C x y v u Q B n j q) t
noncomputable def Gm(t:TE):TT:=λd H Q=>t d H λx f=>∃k,x=.bl k/\Q k f
theorem FT(C:bZ X (df f) r)(F:PE X a l)(E:PE X b g)(D:nI f b=am):PT X (.Compare a [f] [b] m) (Gm (xk r l g)):=by
 intro i s d H Q I h;refine wpAny_isTrue_Compare1 (aR (F i s d H _ I h) λv n ⟨x,O,L,t,B⟩=>aR (E i n d O _ L B) λu j ⟨y,N,J,q,A⟩=>aR (C i j d N x y v u _ J t q A) λc P ⟨z,M,G,p,k,e,w⟩=>?_) D;subst e;cases p;exact nJ ⟨M,G,w⟩
noncomputable def z6(r i:R2)(l g o:TE):TE:=λd H Q=>l d H λx p=>g d p λy n=>r x y n λz f=>∃k,z=.bl k /\
 (if k=ai then o d f λh j=>i y h j Q else Q (.bl am) f)
theorem QF{q:R2}(S:bZ X (df n) r)(fH:bZ X (df f) q)(Z:PE X a l)(Y:PE X b g)(W:PE X c o)(T:lastMarks [n,f] [b,c]=am:=by with_unfolding_all rfl):PE X (.Compare a [n,f] [b,c] m) (z6 r q l g o):=by
 intro j s i H Q I h;refine Compare_chain (aR (Z j s i H _ I h) λv G ⟨x,H1,I1,M,P⟩=>chain_link (aR (Y j G i H1 _ I1 P) λu F ⟨y,H2,I2,p,O⟩=>aR (S j F i H2 x y v u _ I2 M p O) λd E ⟨z,A,w,L,k,e,t⟩=>?_)) T;subst e;cases L;refine nJ ?_;cases k with
 |false=>exact ite_ff ⟨.bl am,A,w,rfl,t⟩
 |true=>exact ite_tt (chain_last (aR (W j E i A _ w t) λC D ⟨B,H4,I4,J,N⟩=>fH j D i H4 y B u C Q I4 p J N))
theorem Q6{q:R2}(Y:bZ X (df n) r)(fH:bZ X (df f) q)(ha:PE X a l)(hb:PE X b g)(hc:PE X c o)(Z:lastMarks [n,f] [b,c]=am:=by with_unfolding_all rfl):PT X (.Compare a [n,f] [b,c] m) (Gm (z6 r q l g o)):=by
 intro j s i H Q I h;refine isTrue_chain (aR (ha j s i H _ I h) λv G ⟨x,H1,I1,N,T⟩=>test_link (aR (hb j G i H1 _ I1 T) λu F ⟨y,H2,I2,p,S⟩=>aR (Y j F i H2 x y v u _ I2 N p S) λd E ⟨z,A,w,M,k,e,t⟩=>?_)) Z;subst e;cases M;refine nJ ?_;cases k with
 |false=>
  obtain⟨k',e',W⟩:=t;cases e';exact ite_ff ⟨A,w,W⟩
 |true=>
  refine ite_tt (test_last (aR (hc j E i A _ w t) λC D ⟨B,H4,I4,L,P⟩=>aR (fH j D i H4 y B u C _ I4 p L P) λd' s5 ⟨z2,H5,I5,J,k2,e2,O⟩=>?_));subst e2;cases J;exact nJ ⟨H5,I5,O⟩
theorem rX:(bd:Nat)<2^63:=by trivial
theorem Nq:bZ X (iH .Add) (λx y H Q=>∃i j,x=.str i/\y=.str j/\i.length+j.length<=bd/\Q (.str (i++j)) H):=by intro z s r H x y v u Q I n f h;obtain⟨i,j,rfl,rfl,p,q⟩:=h;obtain⟨t,rfl⟩:=n;obtain⟨d,rfl⟩:=f;exact add_str (λd w=>⟨.str (i++j),H,I.tok _,⟨_,rfl⟩,q⟩) p
theorem vals1(r:bt [x] d):∃u,d=[u]/\RelV x u:=by
 cases r with
 |cons h f=>cases f;exact⟨_,rfl,h⟩
theorem vals2(r:bt [x,y] f):∃u d,f=[u,d]/\RelV x u/\RelV y d:=by
 cases r with
 |cons n j=>
  cases j with
  |cons i h=>cases h;exact⟨_,_,rfl,n,i⟩
theorem PH(f:X.calm=ai):dq X (.builtin "max") (λxs H Q=>∃i j,xs=[.int i,.int j]/\Q (.int (if j > i then j else i)) H):=by
 intro z s n H xs v Q I r h;obtain⟨i,j,rfl,q⟩:=h;obtain⟨u,p,rfl,⟨t,rfl⟩,⟨x,rfl⟩⟩:=vals2 r;refine max_two_ints (I.ok.hd f) λy w k=>⟨_,H,I.kept k,?_,q⟩
 by_cases d:j > i
 .rw[if_pos d,if_pos d];exact⟨_,rfl⟩
 .rw[if_neg d,if_neg d];exact⟨_,rfl⟩
noncomputable def Fe(K:ay)(x:V)(H:Hp)(n:Nat):Prop :=
 match x with
 |.str y=>y.length<=bd/\n=y.length
 |.byt y=>y.size<=bd/\n=y.size
 |.ref p=>(∃xs,b_ K H p xs/\n=xs.length)\/∃xs,cC K H p xs/\n=xs.length
 |_=>False
theorem g7:dq X (.builtin "len") (λxs H Q=>∃x n,xs=[x]/\Fe X.K x H n/\Q (.int n) H):=by
 intro F s B H xs C Q I r h;obtain⟨x,n,rfl,e,q⟩:=h;obtain⟨u,rfl,f⟩:=vals1 r;have E:=rX;have D:bd=16777216:=sX;cases x with
 |str y=>obtain⟨t,rfl⟩:=f;obtain⟨A,d⟩:y.length<=bd/\n=y.length:=e;subst d;exact len_str ∅ ⟨.int _,H,I.tok _,⟨_,rfl⟩,q⟩
 |byt y=>obtain⟨t,rfl⟩:=f;obtain⟨A,d⟩:y.size<=bd/\n=y.size:=e;subst d;exact PySem.W.len_bytes ∅ ⟨.int _,H,I.tok _,⟨_,rfl⟩,q⟩
 |ref p=>
  cases f;have d:(∃xs,b_ X.K H p xs/\n=xs.length)\/∃xs,cC X.K H p xs/\n=xs.length:=e;rcases d with⟨xs,hx,d⟩|⟨xs,hx,d⟩
  .subst d;obtain⟨v,i,j,z⟩:=I.list hx;have w:=i.length;exact Calls.call_len_list j.isList (by simp only[dW];lia) ⟨.int xs.length,H,I.tok _,⟨_,by simp only[dW];rw[w]⟩,q⟩
  .subst d;obtain⟨v,i,j,z⟩:=I.tuple hx;have w:=i.length;exact len_tuple j (by simp only[dW];lia) ⟨.int xs.length,H,I.tok _,⟨_,by simp only[dW];rw[w]⟩,q⟩
 |_=>exact(show False from e).elim
end
structure IG(h:aA)(x dx C:ae)(mA:Str->Option ah):Prop where
 obj:h.get? x=aa (PySem.W.instObj C dx)
 ns:h.Ns1 dx mA
 ne:dx≠x
theorem Ro{h:aA}(n:h.Ns1 f d):∃c,h.get? f=aa c/\∀b,PySem.W.lookIn b c=aa (d b):=by
 obtain⟨o,r,s,j,p,m,_,l⟩:=n;refine⟨o,j,λb=>?_⟩;have e:=l b;unfold nsFind findBy at e;rw[<-Array.find?_toList]at e;unfold PySem.W.lookIn;rw[p];dsimp only;split
 .simp_all
 .rename_i q;rw[q]at e;have a:r.toList.any (·.refKey)=am:=by rw[List.any_eq_false];intro y i;obtain⟨z,t,g⟩:=m y (Array.mem_toList_iff.mp i);simp[DictEntry.refKey,g]
  grind
theorem IG.look(I:IG h x d C c):∃b,vD h x (PySem.W.instObj C d) C (aa b)/\∀a,PySem.W.lookIn a b=aa (c a) :=
 let ⟨b,ho,hl⟩:=Ro I.ns
 ⟨b,⟨I.obj,rfl,rfl,ho⟩,hl⟩
theorem oQ.some_of(r:oQ (aa v) o):∃u,o=aa u/\RelV v u:=by
 cases o with
 |none=>trivial
 |some u=>exact⟨u,rfl,r⟩
section
variable{P:aS}{w:aJ}{H i:Hp}{h g:aA}{a C b:ae}{fs c:List (Str×V)}
theorem O_(l:cV P w H h)(e:H a=aa (.ins C b fs)):∃j,IG h a b C j/\(∀f,oQ (fs.lookup f) (j f))/\PySem.Within j (fs.map (·.1))/\fs.length<=1000/\H b=aa (.own a):=by
 obtain⟨d,z,o,m,j,n,r,q⟩:=(show cf P w H h a (.ins C b fs)from l a _ e)
 exact⟨j,⟨m,n,o⟩,r,q,z,d⟩
end
structure GU(K:ay)(C:ae):Prop where
 pg:PySem.W.plainGet K C kH=ai
 hd:PySem.W.hasDictIn K C=ai
 po:PySem.W.plainOver K C=ai
 sa:qr K (.ref C) "__setattr__"=aa (aa (.builtin "object.__setattr__"))
theorem GU.get{K:ay}(c:GU K C)(f:Str):PySem.W.plainGet K C f=ai:=c.pg
section
variable{X:Cx}{f:List (ae×Obj)}{d:St}{H:Hp}{s:ao}{A:aY}{E:ah->ao->Prop}{Q:ah->ao->Prop}{c:ah}{b:Bool}
inductive iZ(K:ay)(H:Hp):V->ah->Prop where
 |non:iZ K H .non (.type "NoneType")
 |bl (x:Bool):iZ K H (.bl x) (.type "bool")
 |int (i:Int):iZ K H (.int i) (.type "int")
 |str (x:Str):iZ K H (.str x) (.type "str")
 |flt (x:UInt64):iZ K H (.flt x) (.type "float")
 |lst {a:ae}{xs:List V} (e:H a=aa (.lst xs)):iZ K H (.ref a) (.type "list")
 |frz {a:ae}{o:Obj}{xs:List V} (e:H a=aa (.frz o (.lst xs))):iZ K H (.ref a) (.type "list")
 |tup {a:ae}{xs:List V} (e:H a=aa (.tup xs)):iZ K H (.ref a) (.type "tuple")
 |dK {a:ae}{kvs:List (aI×V)} (e:H a=aa (.dK kvs)):iZ K H (.ref a) (.type "dict")
 |dT {a:ae}{kvs:List (List aI×V)} (e:H a=aa (.dT kvs)):iZ K H (.ref a) (.type "dict")
 |ins {a C dx:ae}{fs:List (Str×V)} (e:H a=aa (.ins C dx fs)) (cl:GU K C) (ha:qr K (.ref C) "__class__"=aa (aa (.builtin "object.__class__")))
   (hn:IV K (.builtin "object.__class__") "__get__"=aa (aa (.builtin "getset_descriptor.__get__"))) (qN:PySem.W.takesIn K (.builtin "object.__class__")=aa ai)
   (hm:yR K C (.type "object")=aa ai):iZ K H (.ref a) (.ref C)
theorem N2(I:Inv X f d H s)(g:RelV x u)(ty:iZ X.K H x t)(e:jk X.K t c=aa b)(h:∀m,Q (.bool b) {s with toks:=m}):au X.zz A (call (.builtin "isinstance") [u,c]) Q E s:=by
 cases ty with
 |non=>cases (show u=Value.none from g);exact lz PySem.W.kitx_none I.kIn True.intro e (λz=>nomatch z) h
 |bl y=>cases (show u=Value.bool y from g);exact lz PySem.W.kitx_bool I.kIn True.intro e (λz=>nomatch z) h
 |int i=>obtain⟨t,q⟩:=(show ∃t,u=Value.int i t from g);cases q;exact lz PySem.W.kitx_int I.kIn True.intro e (λz=>nomatch z) h
 |str y=>obtain⟨t,q⟩:=(show ∃t,u=Value.str y t from g);cases q;exact lz PySem.W.kitx_str I.kIn True.intro e (λz=>nomatch z) h
 |flt y=>obtain⟨t,q⟩:=(show ∃t,u=Value.float y t from g);cases q;exact lz PySem.W.kitx_float I.kIn True.intro e (λz=>nomatch z) h
 |@lst a xs ea=>
  cases (show u=Value.ref a from g);obtain⟨_,_,n,_,j⟩:=(show cf X.prog X.w H s.heap a (.lst xs)from I.hok a _ ea)
  exact lz PySem.W.kitx_list I.kIn ⟨_,j,rfl⟩ e (λz=>nomatch z) h
 |@frz a ob xs ea=>
  cases (show u=Value.ref a from g);obtain⟨_,_,_,n,_,j⟩:=(show cf X.prog X.w H s.heap a (.frz ob (.lst xs))from I.hok a _ ea)
  exact lz PySem.W.kitx_list I.kIn ⟨_,j,rfl⟩ e (λz=>nomatch z) h
 |@tup a xs ea=>
  cases (show u=Value.ref a from g);obtain⟨_,_,_,p,_⟩:=(show cf X.prog X.w H s.heap a (.tup xs)from I.hok a _ ea)
  obtain⟨o,j,l,_⟩:=p;exact lz PySem.W.kitx_tuple I.kIn ⟨o,j,l⟩ e (λz=>nomatch z) h
 |@dK a kvs ea=>
  cases (show u=Value.ref a from g);obtain⟨_,_,w,_,p⟩:=(show cf X.prog X.w H s.heap a (.dK kvs)from I.hok a _ ea)
  obtain⟨o,r,v,j,l,_⟩:=p;exact lz PySem.W.kitx_dict I.kIn ⟨o,j,l.1⟩ e (λz=>nomatch z) h
 |@dT a kvs ea=>
  cases (show u=Value.ref a from g);obtain⟨_,_,xs,_,o,r,v,j,l,_⟩:=(show cf X.prog X.w H s.heap a (.dT kvs)from I.hok a _ ea)
  exact lz PySem.W.kitx_dict I.kIn ⟨o,j,l.1⟩ e (λz=>nomatch z) h
 |@ins a C dx fs ea cl ha hn qN hm=>
  cases (show u=Value.ref a from g);obtain⟨D,O,_⟩:=O_ I.hok ea;obtain⟨B,J,_⟩:=O.look;exact lz (PySem.W.kitx_own (cl.get _) cl.hd ha hn qN hm) I.kIn J e (λz=>nomatch z) h
end
structure fg(k:Nat)(A:aY):Prop where
 hd:A.handled=ac
 dp:A.depth+3*k+5<recursionLimit
 un:A.units+16*k+200<cLine
theorem fg.mono(r:fg k A)(h:j<=k):fg j A:=⟨r.hd,by have:=r.dp;lia,by have:=r.un;lia⟩
theorem fg.deeper(r:fg (k+1) A)(a:Env):fg k (A.deeper a) :=⟨r.hd,by have:=r.dp;show A.depth+1+3*k+5<_;lia,by have:=r.un;show A.units+3+16*k+200<_;lia⟩
theorem fg.depth(r:fg k A):A.depth<recursionLimit:=by have:=r.dp;lia
theorem fg.units(r:fg k A):A.units+64<cLine:=by have:=r.un;lia
noncomputable def NM:TA:=λ_ H Q=>Q [] H
noncomputable def NA(c:TE)(b:TA):TA:=λa H Q=>c a H λx f=>b a f λxs d=>Q (x::xs) d
section
variable{X:Cx}{e:aB}{es:List aB}{c:TE}{t:TA}{a:Pos}
theorem gh:PA X [] NM:=λ_ _ _ _ H Q I h=>IW ⟨[],H,I,.nil,h⟩
theorem fz(o:PE X e c)(n:PA X es t)(m:aK (e::es) X.env=(am,aQ e X.env)::aK es X.env:=by rfl):PA X (e::es) (NA c t):=by intro a d s b H Q I h;rw[m];show au _ _ (spliced ((am,aQ e X.env)::cx a (aK es X.env))) _ _ s;refine Cr (aR (o d s b H _ I h) λu f ⟨x,v,q,i,l⟩=>?_);exact aR (n a d f b v _ q l) λw y ⟨xs,r,p,g,j⟩=>⟨x::xs,r,p,.cons i g,j⟩
noncomputable def Pn(t:TA):TE:=λd H Q=>t d H λxs b=>xs.length<=bd/\∀p,b p=ac->Q (.ref p) (upd b p (.tup xs))
noncomputable def Le(t:TA):TE:=λd H Q=>t d H λxs b=>xs.length<=bd/\∀p,b p=ac->Q (.ref p) (upd b p (.lst xs))
theorem MI{x1}(h:PA X es t):PE X (.Tuple es x1 a) (Pn t):=by intro n s i H Q I l;refine wpAny_Tuple_spliced (aR (h a n s i H _ I l) λj d ⟨xs,g,f,r,z,q⟩=>⟨by rw[<-r.length];exact z,?_⟩);have m:g d.heap.objs.size=ac:=f.hok.fresh (bc _);refine⟨.ref d.heap.objs.size,upd g d.heap.objs.size (.tup xs),f.laid (t':=d.toks) (λb u e=>bD _ e) (bc _) ?_,rfl,q _ m⟩;exact⟨z,j,r,⟨⟨_,cS _ rfl,rfl,_,rfl⟩,_,cS _ rfl,rfl⟩⟩
theorem Ii(h:PA X es t):PE X (.List es a) (Le t):=by intro n s i H Q I l;refine wpAny_List_spliced (aR (h a n s i H _ I l) λj d ⟨xs,g,f,r,z,q⟩=>⟨by rw[<-r.length];exact z,?_⟩);have m:g d.heap.objs.size=ac:=f.hok.fresh (bc _);refine⟨.ref d.heap.objs.size,upd g d.heap.objs.size (.lst xs),f.laid (t':=d.toks) (λb u e=>bD _ e) (bc _) ?_,rfl,q _ m⟩;exact⟨z,j,0,r,cS _ rfl⟩
end
noncomputable abbrev Sp:=List V->Hp->VK->XK->Prop
noncomputable abbrev fN:=List Env->Hp->ao->XK->ah->ao->Prop
structure rQ(P:aS)(w:aJ)(K:ay)(mg:Str->Option ah)(base:aA)(A:aY)(outer:List Env)(s:ao)(H:Hp):Prop where
 frames:A.frames=aa outer
 mod:Mod K mg base
 bs:∀b o,base.get? b=aa o->s.heap.get? b=aa o/\H b=ac
 bsz:base.objs.size<=s.heap.objs.size
 funs:s.heap.FunFrames base outer
 frf:∀b∈fc outer,H b=ac
 hok:cV P w H s.heap
 bare:nG s.gens
 tab:wX K H
noncomputable def CE(a:List Env)(P:aS)(w:aJ)(H:Hp)(s:ao)(Q:VK)(u:ah)(b:ao):Prop :=
 ∃v c,b.os=s.os/\nG b.gens/\Un (fc a) [] H c s.heap b.heap/\cV P w c b.heap/\RelV v u/\Q v c
noncomputable def CR(c:fN)(a:List Env)(P:aS)(w:aJ)(H:Hp)(s:ao)(Q:VK)(E:XK)(r:Result)(b:ao):Prop :=
 match r with
 |.ok (.ret u)=>CE a P w H s Q u b
 |.ok _=>False
 |.error e=>c a H s E e b
structure kU(P:aS)(w:aJ)(K:ay)(mg:Str->Option ah)(base:aA)(CX:fN)(k:Nat)(f:ae)(fd:ii)(ps:List Str)(sp:Sp):Prop where
 len:∀vs H Q E,sp vs H Q E->vs.length=ps.length
 run:∀(A:aY) (outer:List Env) (s:ao) (H:Hp) (args:Args) (us:List ah) (vs:List V) (Q:VK) (E:XK),fg k A->rQ P w K mg base A outer s H->BindsTo s fd args (ps.zip us)->bt vs us->sp vs H Q E ->
  lA (ax P w) A (.call (.ref f) args) (CR CX outer P w H s Q E) s
section
variable{X:Cx}{f:List (ae×Obj)}{a:St}{H:Hp}{s c:ao}
theorem Inv.env0(I:Inv X f a H s):rQ X.prog X.w X.K X.mg X.base X.A X.stack s H :=⟨I.ok.frames,I.ok.mod,I.bs,bT I.ok.bsz I.sz,I.stack,I.stkFree,I.hok,I.bare,I.tab⟩
theorem Inv.after(I:Inv X f a H s)(h:CE X.stack X.prog X.w H s Q u c):EP X f a Q u c:=by obtain⟨v,o,m,i,un,l,r,q⟩:=h;obtain⟨n,g,d,t,j⟩:=c;obtain rfl:j=s.os:=m;exact⟨v,o,I.call (h':=n) (g':=g) (d':=d) (t':=t) (ch:=[]) un l i (λb z=>absurd z (by simp)),r,q⟩
end
noncomputable def M4(d:Sp)(a:List V)(E:XK)(t:TA):TE:=λb H Q=>t b H λc f=>d (c++a) f Q E
noncomputable def Binds(K:ay)(d:ii)(b:List Str)(c:List ah):Prop :=
 ∀(s:ao) (a:List ah),K.In s.heap->(a++c).length=b.length->BindsTo s d ⟨a,[]⟩ (b.zip (a++c))
theorem Binds.all{K:ay}{b:List Str}(h:∀a:List ah,a.length=b.length->fY d ⟨a,[]⟩=pure (b.zip a)):Binds K d b []:=λs a _ c=>by rw[gJ]at c ⊢;exact .of_eq (h a c)
noncomputable def pP(c:fN)(X:Cx)(E:XK):Prop:=∀(b:List (ae×Obj)) (a:St) (H:Hp) (s:ao) (e:ah) (s':ao),Inv X b a H s->c X.stack H s E e s'->X.xe e s'
section
variable{X:Cx}{l:fN}{k:Nat}{f C:ae}{j:ii}{d:List Str}{i:Sp}{a:List V}{c:List ah}{E:XK}{x m:Str}{p b n:Pos}{e o:aB}{g:List aB}{v:TE}{t:TA}
theorem Ut{s:ao}{Q:VK}{q:List ah}{w:List V}(F:kU X.prog X.w X.K X.mg X.base l k f j d i)(J:fg k X.A)(N:Binds X.K j d c)(M:bt a c)(G:pP l X E)(I:Inv X z y H s) (r:bt w q) (h:i (w++a) H Q E):au X.zz X.A (call (.ref f) q) (EP X z y Q) X.xe s:=by
 have A:bt (w++a) (q++c):=r.append M;have L:(q++c).length=d.length:=by rw[<-A.length];exact F.len _ _ _ _ h
 refine yS (qt (F.run X.A X.stack s H ⟨q,[]⟩ (q++c) (w++a) Q E J I.env0 (N s q I.kIn L) A h) λr D B=>?_);cases r with
 |error e=>exact G z y H s e D I B
 |ok O=>
  cases O with
  |ret u=>exact I.after B
  |next=>trivial
  |brk=>trivial
  |cont=>trivial
theorem Fm(F:kU X.prog X.w X.K X.mg X.base l k f j d i)(z:fg k X.A)(D:Gl X x)(A:X.mg x=aa (.ref f))(B:qu X.K (.ref f)=ai)(L:Binds X.K j d c)(J:bt a c)(y:pP l X E)(M:PA X (e::g) t) (N:ap x:=by decide) (G:aK (e::g) X.env=(am,aQ e X.env)::aK g X.env:=by rfl) (O:(cx b (aK g X.env)).any (·.1)=am:=by rfl):PE X (.Call (.Name x p) (e::g) [] b) (M4 i a E t):=by intro P s w H Q I h;refine vE (sQ I D A ?_ N);refine IX (h₀:=X.base) I.ok.mod.kin B (aR (M b P s w H _ I h) λT W ⟨S,Y,u,r,q⟩=>⟨u.kIn,?_⟩) G O;exact Ut F z L J y u r q
end
noncomputable def PK(X:Cx)(c:List gk)(t:TA):Prop :=
 ∀(b:Pos) (d:List (ae×Obj)) (s:ao) (a:St) (H:Hp) (Q:List V->Hp->Prop),Inv X d a H s->t a H Q->au X.zz X.A (evalAll ((mh b (mi c X.env)).map (·.2))) (AP X d a Q) X.xe s
structure cr(N P:List Str)(sc:dG):Prop where
 kind:sc.kind=.function
 co:sc.isCoroutine=am
 gen:sc.isGenerator=am
 nd:N.Nodup
 pre:N.take P.length=P
 par:∀x∈P,sc.names.lookup x=aa .local\/sc.names.lookup x=aa .cell
 nofree:∀y∈sc.names,y.2≠.free
theorem GY{a:Str->Option gK}:∀{binds:List (Str×ah)}{m:Str->Option ah},(∀v,(x,v)∉binds)->bindL a binds m x=m x
 |[],_,_=>rfl
 | (n,v)::r,m,h=>by
  unfold bindL;rw[GY λw b=>h w (fE _ b)];split
  all_goals grind
theorem IJ{a:Str->Option gK}:∀{binds:List (Str×ah)}{m:Str->Option ah},(∀v,(x,v)∉binds)->bindC a binds m x=m x
 |[],_,_=>rfl
 | (n,v)::r,m,h=>by
  unfold bindC;rw[IJ λw b=>h w (fE _ b)];split
  all_goals grind
theorem Fb{a:Str->Option gK}:∀{P:List Str}{b:List ah}{i:Nat}{m:Str->Option ah},P.Nodup->P[i]?=aa x->b[i]?=aa v->a x=aa .local -> bindL a (P.zip b) m x=aa v
 |[],_,_,_,_,h,_,_=>by trivial
 |_::_,[],_,_,_,_,h,_=>by trivial
 |p::P,w::b,0,m,nd,h1,h2,hk=>by simp at h1 h2;subst h1;subst h2;show bindL a ((p,w)::P.zip b) m p=_;unfold bindL;rw[GY λv c=>(ik.mp nd).1 (yT c).1,if_pos hk];simp
 |p::P,w::b,i+1,m,nd,h1,h2,hk=>by show bindL a ((p,w)::P.zip b) m x=_;unfold bindL;exact Fb (i:=i) (ik.mp nd).2 (by trivial) (by trivial) hk
theorem IB{a:Str->Option gK}:∀{P:List Str}{b:List ah}{i:Nat}{m:Str->Option ah},P.Nodup->P[i]?=aa x->b[i]?=aa v->a x≠aa .local -> bindC a (P.zip b) m x=aa v
 |[],_,_,_,_,h,_,_=>by trivial
 |_::_,[],_,_,_,_,h,_=>by trivial
 |p::P,w::b,0,m,nd,h1,h2,hk=>by simp at h1 h2;subst h1;subst h2;show bindC a ((p,w)::P.zip b) m p=_;unfold bindC;rw[IJ λv c=>(ik.mp nd).1 (yT c).1,if_neg hk];simp
 |p::P,w::b,i+1,m,nd,h1,h2,hk=>by show bindC a ((p,w)::P.zip b) m x=_;unfold bindC;exact IB (i:=i) (ik.mp nd).2 (by trivial) (by trivial) hk
noncomputable def start(N:List Str)(a:List V):St:=a.map aa++bz (N.length-a.length) ac
noncomputable def iV(g:fN)(P:aS)(w:aJ)(K:ay)(mg:Str->Option ah)(base:aA)(N:List Str)(b:Str)(a:dG)(f:ae)(d:ah)(A:aY)(outer:List Env)(s:ao)(H:Hp)(E:XK):Cx where
 prog:=P
 w:=w
 K:=K
 mg:=mg
 base:=base
 A:=A.deeper (i7 b a s.heap.objs.size f d)
 N:=N
 s₀:=s
 H₀:=H
 env:=i7 b a s.heap.objs.size f d
 outer:=outer
 stack:=i7 b a s.heap.objs.size f d::outer
 ex:=[]
 calm:=ai
 fn:=λ_=>ai
 pn:=[]
 xe:=λe s'=>au (ax P w) (A.deeper (i7 b a s.heap.objs.size f d)) (leaving (i7 b a s.heap.objs.size f d) e) (λ_ c=>g outer H s E e c) (λh c=>g outer H s E h c) s'
theorem EV{a:dG}(h:a.names.lookup x=aa .cell):∃c,(fF n a.names []).lookup x=aa c:=by have q:=IY a.names n [] (.inl h);exact Cs.mp q
theorem Gu{K:ay}{L:Str->Option ah}{o:aA}{N B:List Str}{j:Str}{d:dG}{f:ae}{I:ah}{A:aY}{g:List Env}{s Q:ao}{H:Hp}{E:XK}{J:List ah}{t:List V}(S:cr N B d) (Z:A.handled=ac) (m:rQ P w K L o A g s H) (hl:t.length=B.length) (r:bt t J)(x:InCallC s s.heap.objs.size (bindL (i7 j d s.heap.objs.size f I).kindOf (B.zip J) λ_=>ac) (fF (s.heap.objs.size+1) d.names []) (bindC (i7 j d s.heap.objs.size f I).kindOf (B.zip J) λ_=>ac) Q):Inv (iV X P w K L o N j d f I A g s H E) [] (start N t) H Q:=by
 have cN:B.length<=N.length:=by have:=congrArg qw S.pre;grind
 obtain⟨O,tk,rfl,W⟩:=x.done;have C:∀b:ae,b∉(iV X P w K L o N j d f I A g s H E).ex:=λb z=>absurd (show b∈([]:List ae)from z) (by simp);refine⟨⟨m.mod,S.kind,rfl,rfl,bc _,λy z c O l=>?_,λy D=>?_,λy c _ h=>?_,λ_=>Z,Around.frames_deeper m.frames,.inr ⟨rfl,rfl⟩,λb z=>absurd z (C b),m.bs,m.bsz,λb _ _=>C b,λb z=>absurd z (C b),m.funs,m.frf,m.tab⟩,rfl,m.bare,Un.kept W,⟨_,x.toInCall.ns,λi y v O l h3=>?_⟩,λy c h=>⟨_,x.cell y c h⟩,m.hok.fresh (bc _),λy c h=>?_,λp G=>absurd (show p∈([]:List (ae×Obj))from G) (by simp),m.hok.kept W,?_⟩
 .exact name_of_addr x.apart (lB O) (lB l)
 .have D:d.names.lookup y=aa .cell\/d.names.lookup y=aa .free:=D;rcases D with D|D
  .exact EV D
  .exact absurd rfl (S.nofree _ (lB D))
 .exact jZ (x.above y c (lB h))
 .have M:i<t.length:=by
   unfold start at l;by_cases M:i<t.length
   .trivial
   .rw[vF (~~~M)]at l;rw[List.getElem?_replicate]at l;split at l <;> cases l
  have ha:t[i]?=aa v:=by
   unfold start at l;rw[jG (~~~M),jl]at l;cases e:t[i]? with
   |none=>rw[e]at l;trivial
   |some a=>rw[e]at l;cases l;rfl
  obtain⟨u,T,Y⟩:=r.get ha;have G:B[i]?=aa y:=by rw[<-S.pre,List.getElem?_take_of_lt ⋯];trivial
  have F:B.Nodup:=by rw[<-S.pre];exact S.nd.sublist (List.take_sublist _ _)
  refine⟨u,Y,?_⟩;rcases S.par y (oV G)with k|k
  .exact .inl ⟨k,Fb F G T k⟩
  .obtain⟨c,e⟩:=EV (n:=s.heap.objs.size+1) k;refine .inr ⟨.inl k,c,e,?_⟩;have q:=x.cell y c e;rw[IB F G T (by show d.names.lookup y≠_;rw[k];decide)]at q;exact q
 .exact m.hok.fresh (jZ (x.above y c (lB h)))
 .unfold start;show _=N.length;simp_all
theorem KM{K:ay}{m d:Str}{g:Arguments}{i:List bb}{a:dG}{dV kV F pm z ct oc:ah}{an od:Option ae}{X:Array (Option ah)}{N G:List Str}{O:Sp} (lk:K.lookup f=aa ⟨oc,od,.func (iI m d g i a dV kV F pm an z ct),X⟩) (bf:vG K z d=ai) (S:cr N G a)(len:∀l H Q E,O l H Q E->l.length=G.length)(gP:∀(A:aY) (c:List Env) (s:ao) (H:Hp) (l:List V) (Q:VK) (E:XK),fg k (A.deeper (i7 d a s.heap.objs.size f z))->O l H Q E -> ∃t,lh (iV M P w K L h N d a f z A c s H E) i t/\t {nx:=λ_ p=>Q .non p,rt:=Q} (start N l) H):kU P w K L h M (k+1) f (iI m d g i a dV kV F pm an z ct) G O:=by
 refine⟨len,λA c s H args us l Q E Z D hb r ip=>?_⟩;have hl:=len _ _ _ _ ip;have KX:K.In s.heap:=D.mod.kin.keeps λb o e=>(D.bs b o e).1;have Y:s.heap.NoLimit:=D.mod.nolimit.keeps λb o e=>(D.bs b o e).1;have Ds:∀y∈G.zip us,a.names.lookup y.1=aa .local\/(a.names.lookup y.1=aa .cell/\((fF (s.heap.objs.size+1) a.names []).lookup y.1).isSome=ai):=λ⟨n,v⟩ hy=>by
  rcases S.par n (yT hy).1 with q|q
  .exact .inl q
  .exact .inr ⟨q,IY _ _ _ (.inl q)⟩
 refine codeAny_call_function Z.depth (KX _ _ lk) rfl S.co S.gen rfl (PySem.W.codeRec_of KX bf) (hb _ _ _ _ ?_);refine wpAny_newFunctionEnv_cells S.kind Ds λenv he s1 x=>?_;subst he;refine⟨Y.keeps x.toInCall.keep,codeAny_func ?_⟩;obtain⟨t,ht,hq⟩:=gP A c s H l Q E (Z.deeper _) ip;have I:Inv (iV M P w K L h N d a f z A c s H E) [] (start N l) H s1:=Gu S Z.hd D hl r x;refine eU (ht [] s1 (start N l) H _ I hq) (λfl T B=>?_) λe T B=>B;have C:∀{j:St}{p:Hp}{v:V}{u:ah},Inv (iV M P w K L h N d a f z A c s H E) [] j p T->RelV v u->Q v p->CE c P w H s Q u T :=λ{j p v u} J W q=>⟨v,p,J.os,J.bare,J.base,J.hok,W,q⟩
 cases fl with
 |ret u=>obtain⟨v,j,p,J,W,q⟩:=B;exact C J W q
 |next=>obtain⟨j,p,J,q⟩:=B;exact C (v:=V.non) (u:=Value.none) J rfl q
 |brk=>obtain⟨_,_,_,q⟩:=B;trivial
 |cont=>obtain⟨_,_,_,q⟩:=B;trivial
section
variable{X:Cx}{x:Str}{p a:Pos}{e:aB}{b:List aB}{t:TA}{c T:String}{r:List V->Hp->VK->Prop}
noncomputable def Hy(r:List V->Hp->VK->Prop)(t:TA):TE:=λd H Q=>t d H λf g=>r f g Q
theorem nB(w:dq X (.builtin c) r)(u:Gl X x)(q:X.mg x=ac)(n:d_ x=aa (.builtin c))(y:PA X (e::b) t)(o:x≠"__name__":=by decide)(z:ap x:=by decide)(v:aK (e::b) X.env=(am,aQ e X.env)::aK b X.env:=by rfl) (A:(cx a (aK b X.env)).any (·.1)=am:=by rfl):PE X (.Call (.Name x p) (e::b) [] a) (Hy r t):=by intro f s d H Q I h;refine vE (vj I u q n ?_ o z);exact PyProof.Rows.callWith_builtin1 (aR (y a f s d H _ I h) λi j ⟨g,C,B,l,m⟩=>w f j d C g i Q B l m) v A
theorem sG(w:dq X (.type T) r)(u:Gl X x)(q:X.mg x=ac)(n:d_ x=aa (.type T))(y:PA X (e::b) t)(o:x≠"__name__":=by decide)(z:ap x:=by decide)(v:aK (e::b) X.env=(am,aQ e X.env)::aK b X.env:=by rfl) (A:(cx a (aK b X.env)).any (·.1)=am:=by rfl):PE X (.Call (.Name x p) (e::b) [] a) (Hy r t):=by intro f s d H Q I h;refine vE (vj I u q n ?_ o z);exact PyProof.Rows.callWith_type1 (aR (y a f s d H _ I h) λi j ⟨g,C,B,l,m⟩=>w f j d C g i Q B l m) v A
end
end L2
namespace HT
section
open PySem.SeqAt
open PySem.AutoSeq1 (wpAny_loadPart')
open PySem.MeetsSeq PySem.MeetsSeq2 PySem.MeetsSeq3
end
section
variable{a:aS}{w:aJ}{A:aY}{E:ah->ao->Prop}{s:ao}
theorem cat_tup{d c:List ah}(z:IsTup s.heap t d.toArray)(C:IsTup s.heap b c.toArray)(q:d≠[])(F:c=[]->Q (.ref t) s) (D:c≠[]->Q (.ref s.heap.objs.size) {s with heap:=s.heap.push {cls:=.type "tuple",data:=.seq (d++c).toArray}})(B:d.length+c.length<=bd):au (ax a w) A (iH .Add (.ref t) (.ref b)) Q E s:=by
 obtain⟨⟨cls,x,data,m⟩,i,u,n,r⟩:=id z;obtain⟨⟨y,g,l,f⟩,j,v,o,p⟩:=id C;simp only at u r v p;subst u r v p;have e:d.toArray++c.toArray=(d++c).toArray:=by simp
 by_cases h:c=[]
 .exact concat_meets ⟨_,i,rfl⟩ ⟨_,j,rfl⟩ IZ seq_tuple_add I_ Ja (Jb _ _)
   (tuple_addW1 t b d.toArray c.toArray n o x g m f (~~~q) (by simp[h])) ⟨i,j,F h⟩
 .refine concat_meets ⟨_,i,rfl⟩ ⟨_,j,rfl⟩ IZ seq_tuple_add I_ Ja (Jb _ _)
   (tuple_addW2 t b d.toArray c.toArray n o x g m f (~~~q) (~~~h) (by trivial)) ⟨i,j,?_⟩
  rw[e];exact D h
noncomputable def sIx(n d:Nat):Option Int->Nat
 |none=>d
 |some v=>if v<0 then(v+(n:Int)).toNat else min v.toNat n
theorem sIx_nat(n d k:Nat):sIx n d (aa (k:Int))=min k n:=by rfl
theorem sIx_le(n d:Nat)(b:d<=n)(o:Option Int):sIx n d o<=n:=by
 cases o with
 |none=>trivial
 |some v=>show(if v<0 then(v+(n:Int)).toNat else min v.toNat n)<=n;lia
theorem EI(v:Int)(n d:Nat):(if v<0 then max (v+(n:Int)) 0 else min v (n:Int))=((sIx n d (aa v):Nat):Int):=by
 show(if v<0 then max (v+(n:Int)) 0 else min v (n:Int))=(((if v<0 then(v+(n:Int)).toNat else min v.toNat n):Nat):Int)
 lia
theorem NH(b c:Option Int)(n:Nat):Jc b c 1 (n:Int)=(((sIx n 0 b:Nat):Int),((sIx n n c:Nat):Int)):=by
 have d:¬((1:Int)<0):=by simp
 unfold Jc;simp only[d,if_false];refine Prod.ext ?_ ?_
 .cases b with
  |none=>rfl
  |some v=>exact EI v n 0
 .cases c with
  |none=>rfl
  |some v=>exact EI v n n
theorem Q1(i j:Nat):Ct (i:Int) (j:Int) 1=j-i:=by unfold Ct;lia
theorem Ib(p:lC v o)(h:Q o s):au (ax a w) A (Builtin.Slice.slicePartIndex v) Q E s:=by
 cases p with
 |none=>exact slicePart_none h
 |int i t=>exact slicePart_int h
theorem Hx{b c:Option Int}{n:Nat}{Q:Int×Int×Nat->ao->Prop}(o:s.heap.IsSliceOf j g f .none)(m:lC g b)(l:lC f c)(h:Q (((sIx n 0 b:Nat):Int),1,sIx n n c-sIx n 0 b) s):au (ax a w) A (Builtin.Slice.sliceApplied (.ref j) (pure (n:Int))) Q E s:=by
 obtain⟨q,i,p,d⟩:=id o;unfold Builtin.Slice.sliceApplied Builtin.Slice.sliceFields;refine aq (aq (qx i d (x:=g) rfl (aq (qx i d (x:=f) rfl (aq (qx i d (x:=.none) rfl (aE ?_)))))));refine aq (slicePart_none ?_);show au _ _ (if((1:Int) == 0)=ai then _ else _) _ _ s;rw[if_neg (by simp)];refine aq (Ib m (aq (Ib l (aq (aE ?_)))));show au _ _ (match Jc b c 1 (n:Int)with | (b,c)=>pure (b,(1:Int),Ct b c 1)) _ _ s;rw[NH b c n];show au _ _ (pure (((sIx n 0 b:Nat):Int),(1:Int),Ct ((sIx n 0 b:Nat):Int) ((sIx n n c:Nat):Int) 1)) _ _ s;rw[Q1];exact aE h
theorem Qf(xs:Array ah)(i k:Nat):((cu k).filterMap λ(m:Nat)=>xs[((i:Int)+(m:Int)*1).toNat]?).toArray=((xs.toList.drop i).take k).toArray:=by
 have e:(λ(m:Nat)=>xs[((i:Int)+(m:Int)*1).toNat]?)=λm=>xs[i+m]?:=by
  grind
 rw[e];have:=pick_run xs i k;rw[List.filterMap_map]at this;have b:((λx=>xs[x]?) ∘ λx=>i+x)=λm=>xs[i+m]?:=rfl;rw[b]at this;rw[this]
theorem getItem_tuple_cut{c d:Option Int}{Q:ah->ao->Prop}(g:IsTup s.heap t b)(p:s.heap.IsSliceOf i o n .none)(v:lC o c)(u:lC n d)(B:¬(sIx b.size 0 c=0/\sIx b.size b.size d=b.size))(h:Q (.ref s.heap.objs.size) {s with heap:=s.heap.push {cls:=.type "tuple",data:=.seq ((b.toList.drop (sIx b.size 0 c)).take (sIx b.size b.size d-sIx b.size 0 c)).toArray}})(y:b.size<=bd):au (ax a w) A (nK (.ref t) (.ref i)) Q E s:=by
 have f:sizeOk (.seq ((b.toList.drop (sIx b.size 0 c)).take (sIx b.size b.size d-sIx b.size 0 c)).toArray):=by show((b.toList.drop (sIx b.size 0 c)).take (sIx b.size b.size d-sIx b.size 0 c)).toArray.size<=bd;rw[dW,Jd,Cu,sT];omega
 have C:sIx b.size b.size d<=b.size:=sIx_le _ _ (bc _) d;obtain⟨x,r,q,z⟩:=id p;have l:s.TypeIs (.ref i) "slice":=⟨x,r,q⟩
 unfold nK
 try with_reducible refine ig ?_
 first|refine aq (aE ?_)|skip
 refine aq (wpAny_sequenceKey g.typeIs (by rfl) ?_);refine aq (Je (name:=sY "__getitem__") g.typeIs Cv (qy Cv g.typeIs entry_tuple_getitem ?_ (args_tuple_getitem _ _)));show au _ _ (Jf (.ref t) >>= _) _ _ s;refine aq (tupleItemsOf_ g ?_);refine aq (sZ l ?_);rw[if_pos (by rfl)];refine aq (Hx p v u ?_);have j:¬((((sIx b.size 0 c:Nat):Int) == 0&&(1:Int) == 1&&(sIx b.size b.size d-sIx b.size 0 c) == b.size)=ai):=⋯
 show au _ _ (if(((sIx b.size 0 c:Nat):Int) == 0&&(1:Int) == 1&&(sIx b.size b.size d-sIx b.size 0 c) == b.size)=ai then _ else _) _ _ s;rw[if_neg j,Qf]
 first
  |exact aq (m:=Cw _) (nL (aE ⟨_,rfl,aE h⟩) f)
  |exact aq (m:=Cw _) (nL (aq (aE (aE ⟨_,rfl,aE h⟩))) f)
  |exact aq (aq (m:=Cw _) (nL (aE (aE ⟨_,rfl,aE h⟩)) f))
  |exact aq (aq (m:=Cw _) (nL (aE ⟨_,rfl,aE h⟩) f))
end
end HT
namespace L2
noncomputable abbrev TO:=St->Hp->(Option Int->Hp->Prop)->Prop
noncomputable def PO(X:Cx)(e:Option aB)(t:TO):Prop :=
 ∀(b:List (ae×Obj)) (s:ao) (a:St) (H:Hp) (Q:Option Int->Hp->Prop),Inv X b a H s->t a H Q ->
  au X.zz X.A (evalPart e X.env) (λu d=>∃o c,Inv X b a c d/\lC u o/\Q o c) X.xe s
noncomputable def Sk:TO:=λ_ H Q=>Q ac H
noncomputable def Nd(t:TE):TO:=λa H Q=>t a H λx b=>∃i,x=.int i/\Q (aa i) b
section
variable{X:Cx}{e:aB}{f:TE}{c d:Option aB}{g j:TO}{n m:Pos}
theorem Oi:PO X ac Sk:=by intro b s a H Q I h;rw[evalPart_none];exact aE ⟨ac,H,I,.none,h⟩
theorem Qm(h:PE X e f):PO X (aa e) (Nd f):=by intro p s a H Q I o;rw[evalPart_some];refine aR (h p s a H _ I o) λu w ⟨x,v,r,b,l⟩=>?_;obtain⟨i,rfl,q⟩:=l;obtain⟨t,rfl⟩:=b;exact⟨aa i,v,r,.int i t,q⟩
noncomputable def kX(X:Cx)(r:V->Option Int->Option Int->Hp->VK->Prop):Prop :=
 ∀(l:List (ae×Obj)) (s:ao) (a:St) (H:Hp) (x:V) (v h b:ah) (c d:Option Int) (i:ae) (Q:VK),Inv X l a H s->RelV x v->s.heap.IsSliceOf i h b .none->lC h c->lC b d->r x c d H Q ->
  ∃T o,typeLookup (.type T) "__getitem__"=pure (aa (.builtin o))/\s.TypeIs v T/\au X.zz X.A (nK v (.ref i)) (EP X l a Q) X.xe s
theorem kX.or(h:kX X r)(z:kX X p):kX X (λx c d H Q=>r x c d H Q\/p x c d H Q):=by
 intro y s a H x v i b c d l Q I o w u t q;rcases q with q|q
 .exact h y s a H x v i b c d l Q I o w u t q
 .exact z y s a H x v i b c d l Q I o w u t q
noncomputable def Rj(r:V->Option Int->Option Int->Hp->VK->Prop)(f:TE)(g j:TO):TE:=λa H Q=>f a H λx i=>g a i λl h=>j a h λu b=>r x l u b Q
theorem Pd(L:kX X r)(O:PE X e f)(M:PO X c g)(G:PO X d j):PE X (.Subscript e (.Slice c d ac m) n) (Rj r f g j):=by intro o s i H Q I h;refine Subscript_ (aR (O o s i H _ I h) λv z ⟨x,H1,Z,A,D⟩=>?_);refine wpAny_Slice (aR (M o z i H1 _ Z D) λt y ⟨l,H2,Y,F,C⟩=>aR (G o y i H2 _ Y C) λp a ⟨u,w,W,E,B⟩=>?_);rw[evalPart_none];refine aE ?_;have S:Inv X o i w {a with heap:=a.heap.push {cls:=.type "slice",data:=.fields #[t,p,.none]}}:=W.kept (t':=a.toks) λb ob q=>bD _ q;obtain⟨T,id,P,J,N⟩:=L o {a with heap:=a.heap.push {cls:=.type "slice",data:=.fields #[t,p,.none]}} i w x v t p l u a.heap.objs.size Q S A (Heap.IsSliceOf.new ..) F E B;show au X.zz X.A (subscriptTail e (.Slice c d ac m) v (.ref a.heap.objs.size)) (EP X o i Q) X.xe {a with heap:=a.heap.push {cls:=.type "slice",data:=.fields #[t,p,.none]}};exact tail_any (ops:=[.ref a.heap.objs.size,v]) J P N (by rfl)
noncomputable def oz(xs:List V)(c d:Option Int):List V:=(xs.drop (HT.sIx xs.length 0 c)).take (HT.sIx xs.length xs.length d-HT.sIx xs.length 0 c)
theorem EG(xs:List V)(c d:Option Int):(oz xs c d).length<=xs.length:=by unfold oz;rw[Jd,Cu];lia
noncomputable def Hl(K:ay):V->Option Int->Option Int->Hp->VK->Prop:=λx c d H Q=>∃a xs,x=.ref a/\cC K H a xs /\
 ¬(HT.sIx xs.length 0 c=0/\HT.sIx xs.length xs.length d=xs.length)/\∀p,H p=ac->Q (.ref p) (upd H p (.tup (oz xs c d)))
theorem NV:kX X (Hl X.K):=by
 intro J s B H x v D C c d E Q I t A w u h;obtain⟨a,xs,rfl,z,G,q⟩:=h;cases t;obtain⟨i,r,p,y⟩:=I.tuple z;have l:i.toArray.size=xs.length:=by rw[dW];exact r.length.symm
 refine⟨"tuple",_,PyProof.Rows.slot_tuple_getitem.lookup,p.typeIs,?_⟩;refine HT.getItem_tuple_cut p A w u (by rw[l];trivial) ?_ (by rw[l];trivial);rw[l];refine⟨.ref s.heap.objs.size,_,I.laid (t':=s.toks) (o:=.tup (oz xs c d)) (λb F q=>bD _ q) (bc _) ?_,rfl,q _ (I.hok.fresh (bc _))⟩;exact⟨bT (EG xs c d) y,_,(r.drop (HT.sIx xs.length 0 c)).take (HT.sIx xs.length xs.length d-HT.sIx xs.length 0 c),IQ.new _ _⟩
noncomputable def Fs(K:ay):R2:=λx y H Q=>∃a b xs h,x=.ref a/\y=.ref b/\cC K H a xs/\cC K H b h/\xs≠[]/\xs.length+h.length<=bd /\
 (h=[]->Q (.ref a) H)/\(h≠[]->∀p,H p=ac->Q (.ref p) (upd H p (.tup (xs++h))))
theorem bt.nil_iff(r:bt xs a):a=[]↔xs=[]:=by
 cases r with
 |nil=>simp
 |cons _ _=>simp
theorem U4:bZ X (iH .Add) (Fs X.K):=by
 intro O s L H x y v u Q I A t h;obtain⟨a,b,xs,r,rfl,rfl,J,G,F,N,C,B⟩:=h;cases A;cases t;obtain⟨E,l,D,_⟩:=I.tuple J;obtain⟨p,i,m,_⟩:=I.tuple G;refine HT.cat_tup D m (λz=>F (l.nil_iff.mp z)) (λz=>⟨.ref a,H,I,rfl,C (i.nil_iff.mp z)⟩) (λz=>?_) (by rw[<-l.length,<-i.length];trivial);refine⟨.ref s.heap.objs.size,_,I.laid (t':=s.toks) (o:=.tup (xs++r)) (λb M q=>bD _ q) (bc _) ?_,rfl,B (λw=>z (i.nil_iff.mpr w)) _ (I.hok.fresh (bc _))⟩;exact⟨by rw[ef];trivial,_,l.append i,IQ.new _ _⟩
end
noncomputable def kh(n:Nat)(i:Int):Option Nat:=if 0<=i then(if i<n then aa i.toNat else ac)else if -(n:Int)<=i then aa (i+n).toNat else ac
noncomputable def gb{a:Type}(xs:List a)(i:Int):Option a:=(kh xs.length i).bind λj=>xs[j]?
theorem Fq(h:kh n i=aa j):seqIndex? i n=aa j/\j<n/\-(n:Int)<=i/\i<n:=by
 unfold kh at h;by_cases b:0<=i
 .rw[if_pos b]at h;by_cases a:i<n
  .rw[if_pos a]at h;have e:i.toNat=j:=i5 h;exact⟨by rw[seqIndex_of b a,e],∅,∅,a⟩
  .rw[if_neg a]at h;cases h
 .rw[if_neg b]at h;by_cases a:-(n:Int)<=i
  .rw[if_pos a]at h;have e:(i+n).toNat=j:=i5 h;exact⟨by rw[seqIndex_neg ⋯ a,e],∅,a,∅⟩
  .rw[if_neg a]at h;cases h
theorem zV{v:a}(h:gb xs i=aa v):∃j,seqIndex? i xs.length=aa j/\xs[j]?=aa v/\j<xs.length/\-(xs.length:Int)<=i/\i<xs.length:=by
 unfold gb at h;cases e:kh xs.length i with
 |none=>rw[e]at h;cases h
 |some j=>rw[e]at h;obtain⟨f,d,c,b⟩:=Fq e;exact⟨j,f,h,d,c,b⟩
theorem Ry{j:Nat}{v:a}(h:xs[j]?=aa v):gb xs (j:Int)=aa v:=by
 have b:j<xs.length:=(c_.mp h).1;have e:kh xs.length (j:Int)=aa j:=by unfold kh;rw[if_pos (by simp),if_pos ⋯];rfl
 unfold gb;rw[e];exact h
noncomputable def GV(b:aB):Prop:=∀o i,Cy b am o i=operate [o,i] (nK o i)
noncomputable def mK(X:Cx)(r:R2):Prop :=
 ∀(b a:aB) (d:List (ae×Obj)) (s:ao) (c:St) (H:Hp) (x y:V) (v u:ah) (Q:VK),Inv X d c H s->RelV x v->RelV y u->r x y H Q ->
  Cy a am v u=operate [v,u] (nK v u)->au X.zz X.A (subscriptTail b a v u) (EP X d c Q) X.xe s
noncomputable def yL(X:Cx)(d:String)(r:V->List V->Hp->VK->Prop):Prop :=
 ∀(c:List (ae×Obj)) (s:ao) (a:St) (H:Hp) (x:V) (xs:List V) (v:ah) (b:List ah) (Q:VK),Inv X c a H s->RelV x v->bt xs b->r x xs H Q ->
  au X.zz X.A (call (.builtin d) (v::b)) (EP X c a Q) X.xe s
section
variable{X:Cx}{a b:aB}{G F:TE}{E:Pos}
theorem mK.or(h:mK X r)(n:mK X j):mK X (λx y H Q=>r x y H Q\/j x y H Q):=by
 intro c d m s f H x y v u Q I i g q l;rcases q with q|q
 .exact h c d m s f H x y v u Q I i g q l
 .exact n c d m s f H x y v u Q I i g q l
theorem Ot(j:mK X r)(m:PE X a G)(l:PE X b F)(i:GV b):PE X (.Subscript a b E) (xk r G F):=by intro n s c H Q I h;exact Subscript_ (BU m l I h λv u d x y p o g f q=>j a b n d c p x y v u Q o g f q (i _ _))
noncomputable def G7(K:ay):R2:=λx y H Q=>∃p xs i v,x=.ref p/\y=.int i/\b_ K H p xs/\gb xs i=aa v/\Q v H
noncomputable def D9(K:ay):R2:=λx y H Q=>∃p xs i v,x=.ref p/\y=.int i/\cC K H p xs/\gb xs i=aa v/\Q v H
noncomputable def El:R2:=λx y H Q=>∃z i c,x=.str z/\y=.int i/\z.length<=bd/\gb z.cps.toList i=aa c/\Q (.str ⟨#[c]⟩) H
theorem U6:mK X (G7 X.K):=by
 intro d f J s A H x y v u Q I N M h B;obtain⟨p,xs,i,z,rfl,rfl,O,S,q⟩:=h;cases N;obtain⟨t,rfl⟩:=M;obtain⟨m,r,l,Z⟩:=I.list O;obtain⟨j,o,Y,h3,W,T⟩:=zV S;obtain⟨w,D,g⟩:=r.get Y;have P:=r.length;have hn:=rX;have c:EP X J A Q w s:=⟨z,H,I,g,q⟩
 by_cases C:0<=i
 .have n:i.toNat=j:=by
   rw[seqIndex_of C T]at o;lia
  exact item_listR l.isList C ∅ (by rw[n];simpa using D) c B
 .have n:(i+(m.toArray.size:Int)).toNat=j:=by
   rw[seqIndex_neg ⋯ W]at o;rw[dW,<-P];exact i5 o
  exact subscriptTail_builtinR (x:=w) l.isList.typeIs slot_list_getitem.lookup
   (wpAny_getItem_list_neg (Q:=λr L=>r=w/\EP X J A Q r L) l.isList ⋯ (by rw[dW] <;> simp_all) ∅ (by rw[n];simpa using D) ⟨rfl,c⟩) B
theorem U_:mK X (D9 X.K):=by
 intro c d n s l H x y v u Q I B A h D;obtain⟨p,xs,i,z,rfl,rfl,J,M,q⟩:=h;cases B;obtain⟨t,rfl⟩:=A;obtain⟨C,r,m,P⟩:=I.tuple J;obtain⟨j,Z,N,Y,W,T⟩:=zV M;obtain⟨w,O,f⟩:=r.get N;have L:=r.length;have S:=rX;have g:EP X n l Q w s:=⟨z,H,I,f,q⟩
 exact subscriptTail_builtinR (x:=w) m.typeIs slot_tuple_getitem.lookup
  (getItem_tuple (j:=j) (Q:=λr o=>r=w/\EP X n l Q r o) m ∅ ∅ (by rw[dW,<-L];trivial) (~~~O) ⟨rfl,g⟩) D
theorem O5:mK X El:=by
 intro d f M s B H x y v u Q I m l h n;obtain⟨z,i,c,rfl,rfl,D,p,q⟩:=h;obtain⟨t,rfl⟩:=m;obtain⟨C,rfl⟩:=l;obtain⟨j,g,A,L,w,r⟩:=zV p;have o:z.cps.toList.length=z.length:=by rfl
 rw[o]at g w r;have J:=rX;exact tail_any (typeIs_str s z t) slot_str_getitem.lookup (getItem_str (c:=c) (by lia) (by rw[g];simpa using A) ⟨.str ⟨#[c]⟩,H,I.tok _,⟨_,rfl⟩,q⟩) n
noncomputable def HG(K:ay):R2:=λx y H Q=>G7 K x y H Q\/D9 K x y H Q\/El x y H Q
theorem gD:mK X (HG X.K):=U6.or (U_.or O5)
theorem MV(c:List ah)(n j:Nat)(u:ah):gm (·.setIfInBounds j u) {cls:=.type "list",data:=.seq c.toArray n}={cls:=.type "list",data:=.seq (c.set j u).toArray n}:=by simp[gm]
theorem Inv.lst{s:ao}{p:ae}{xs:List V}(I:Inv X d c H s)(h:H p=aa (.lst xs)):∃(its:List ah) (n:Nat),bt xs its/\s.heap.get? p=aa {cls:=.type "list",data:=.seq its.toArray n}/\xs.length<=bd:=by obtain⟨z,its,n,r,e⟩:=I.hok p _ h;exact⟨its,n,r,e,z⟩
theorem Inv.lstUpd{d c:List ah}(I:Inv X m j H s)(h:H p=aa (.lst xs))(v:s.heap.get? p=aa {cls:=.type "list",data:=.seq d.toArray n}) (l:f {cls:=.type "list",data:=.seq d.toArray n}={cls:=.type "list",data:=.seq c.toArray i}) (r:bt g c) (o:g.length<=bd) (t:Nat):Inv X m j (upd H p (.lst g)) {s with heap:=s.heap.update p f,toks:=t}:=by
 have e:(s.heap.update p f).get? p=aa {cls:=.type "list",data:=.seq c.toArray i}:=by rw[oW f v (by rw[l] <;> rfl),l]
 refine I.write (x:=p) (e:=p) (by rw[h];trivial) (.inl rfl) (λb u w q=>(nM _ _ (dQ w)).trans q) ⟨_,e⟩ ?_;exact⟨o,c,i,r,e⟩
noncomputable def LF:V->V->V->Hp->(Hp->Prop)->Prop:=λo i v H Q=>∃p xs k j,o=.ref p/\i=.int k/\H p=aa (.lst xs)/\kh xs.length k=aa j/\Q (upd H p (.lst (xs.set j v)))
theorem Tw:Hb X LF:=by
 intro L s y H o i v ov M u Q I A B z h;obtain⟨p,xs,k,j,rfl,rfl,g,C,q⟩:=h;cases A;obtain⟨t,rfl⟩:=B;obtain⟨c,n,r,d,N⟩:=I.lst g;obtain⟨m,P,J,D⟩:=Fq C;have l:=r.length;have O:=rX;have x:Inv X L y (upd H p (.lst (xs.set j v))) {s with heap:=s.heap.update p (gm (·.setIfInBounds j u))} :=I.lstUpd g d (MV c n j u) (r.set z j) (by rw[iJ];trivial) s.toks;by_cases w:0<=k
 .have f:k.toNat=j:=by
   rw[seqIndex_of w D]at m;lia
  exact PySem.W.ki_setAt d w ∅ (by rw[dW,<-l];trivial) (by rw[f];exact⟨_,x,q⟩)
 .have f:(k+(c.toArray.size:Int)).toNat=j:=by
   rw[seqIndex_neg ⋯ J]at m;simp_all
  exact PySem.W.ki_setBack d ⋯ (by rw[dW,<-l];trivial) ∅ (by rw[f];exact⟨_,x,q⟩)
theorem Qy(c d:Option Int)(n:Nat):(yU c d ac n).1=((HT.sIx n 0 c:Nat):Int)/\(yU c d ac n).2.1=((HT.sIx n n d:Nat):Int)/\(yU c d ac n).2.2=1:=by
 refine⟨?_,?_,rfl⟩
 .cases c with
  |none=>rfl
  |some i=>
   simp only[yU,HT.sIx,Jg,show(1:Int) > 0 by decide,if_true];by_cases h:i<0
   .simp only[h,if_true] <;> lia
   .simp only[h,if_false] <;> lia
 .cases d with
  |none=>rfl
  |some i=>
   simp only[yU,HT.sIx,Jg,show(1:Int) > 0 by decide,if_true];by_cases h:i<0
   .simp only[h,if_true] <;> lia
   .simp only[h,if_false] <;> lia
theorem LJ(c:List ah)(d f:Option Int):slicePick c.toArray d f ac=((c.drop (HT.sIx c.length 0 d)).take (HT.sIx c.length c.length f-HT.sIx c.length 0 d)).toArray:=by obtain⟨i,h,g⟩:=Qy d f c.toArray.size;unfold slicePick;rw[i,h,g];simp only[sliceRange_one,pick_run,dW] <;> rfl
noncomputable def F9(K:ay):V->Option Int->Option Int->Hp->VK->Prop:=λx c d H Q=>∃a xs,x=.ref a/\b_ K H a xs/\∀p,H p=ac->Q (.ref p) (upd H p (.lst (oz xs c d)))
theorem UY:kX X (F9 X.K):=by
 intro B s u H x v y w c d z Q I g p j i h;obtain⟨a,xs,rfl,n,q⟩:=h;cases g;obtain⟨l,r,f,m⟩:=I.list n;have t:=r.length;refine⟨"list",_,slot_list_getitem.lookup,f.isList.typeIs,?_⟩;refine wpAny_getItem_list_slice f.isList p j i .none (by simp) ?_ ⋯;rw[LJ,<-t];refine⟨.ref s.heap.objs.size,_,I.laid (t':=s.toks) (o:=.lst (oz xs c d)) (λb A q=>bD _ q) (bc _) ?_,rfl,q _ (I.hok.fresh (bc _))⟩;exact⟨bT (EG xs c d) m,_,0,(r.drop (HT.sIx xs.length 0 c)).take (HT.sIx xs.length xs.length d-HT.sIx xs.length 0 c),cS _ rfl⟩
noncomputable def fU:V->Bool
 |.non=>ai
 |.bl _=>ai
 |.int _=>ai
 |.str _=>ai
 |_=>am
noncomputable def eG:V->V->Bool
 |.non,.non=>ai
 |.bl a,.bl b=>a == b
 |.bl a,.int b=>(if a then 1 else 0) == b
 |.int a,.bl b=>a == (if b then 1 else 0)
 |.int a,.int b=>a == b
 |.str a,.str b=>a == b
 |_,_=>am
theorem Gb(f:RelV y u)(c:RelV x v)(g:fU y=ai)(h:fU x=ai):vH A s u v (eG y x):=by
 cases y with
 |non=>
  cases f;cases x with
  |non=>cases c;exact SeqAt.EqAt.same _
  |bl b=>cases c;exact SeqAt.EqAt.none_bool b
  |int b=>obtain⟨t,rfl⟩:=c;exact SeqAt.EqAt.none_int b t
  |str b=>obtain⟨t,rfl⟩:=c;exact SeqAt.EqAt.none_str b t
  |_=>trivial
 |bl a=>
  cases f;cases x with
  |non=>cases c;exact SeqAt.EqAt.bool_none a
  |bl b=>cases c;exact SeqAt.EqAt.bool_bool a b
  |int b=>obtain⟨t,rfl⟩:=c;exact SeqAt.EqAt.bool_int a b t
  |str b=>obtain⟨t,rfl⟩:=c;exact SeqAt.EqAt.bool_str a b t
  |_=>trivial
 |int a=>
  obtain⟨d,rfl⟩:=f;cases x with
  |non=>cases c;exact SeqAt.EqAt.int_none a d
  |bl b=>cases c;exact SeqAt.EqAt.int_bool a d b
  |int b=>obtain⟨t,rfl⟩:=c;exact SeqAt.EqAt.int_int a d b t
  |str b=>obtain⟨t,rfl⟩:=c;exact SeqAt.EqAt.int_str a d b t
  |_=>trivial
 |str a=>
  obtain⟨d,rfl⟩:=f;cases x with
  |non=>cases c;exact SeqAt.EqAt.str_none a d
  |bl b=>cases c;exact SeqAt.EqAt.str_bool a d b
  |int b=>obtain⟨t,rfl⟩:=c;exact SeqAt.EqAt.str_int a d b t
  |str b=>obtain⟨t,rfl⟩:=c;exact Jh a d b t
  |_=>trivial
 |_=>trivial
noncomputable def jD(x:V)(u:ah):Bool:=match u with
 |.none=>eG .non x
 |.bool b=>eG (.bl b) x
 |.int i _=>eG (.int i) x
 |.str z _=>eG (.str z) x
 |_=>am
theorem xv(r:RelV y u)(f:fU y=ai):jD x u=eG y x:=by
 cases y with
 |non=>cases r;rfl
 |bl b=>cases r;rfl
 |int i=>obtain⟨t,rfl⟩:=r;rfl
 |str z=>obtain⟨t,rfl⟩:=r;rfl
 |_=>trivial
theorem AJ:∀{xs:List V}{c:List ah},bt xs c->xs.all fU=ai->c.any (jD x)=xs.any λy=>eG y x
 |_,_,.nil,_=>rfl
 |y::xs,u::c,.cons r t,f=>by rw[s_,gL]at f;rw[qz,qz,xv r f.1,AJ t f.2]
theorem rF(g:RelV x v)(h:fU x=ai):∀{xs:List V}{d:List ah},bt xs d->xs.all fU=ai->∀u∈d,vH A s u v (jD x u)
 |_,_,.nil,_=>λu c=>by trivial
 |y::xs,u::d,.cons r t,f=>λi c=>by
  rw[s_,gL]at f;rcases bQ.mp c with rfl|c
  .rw[xv r f.1];exact Gb r g f.1 h
  .exact rF g h t f.2 i c
noncomputable def uN(x:V)(xs:List V):Bool:=xs.any λy=>eG y x
noncomputable def AE(K:ay)(c:Bool):R2:=λx y H Q=>∃p xs,y=.ref p/\(b_ K H p xs\/cC K H p xs)/\fU x=ai/\xs.all fU=ai/\Q (.bl (if c then !uN x xs else uN x xs)) H
theorem Sn:bZ X (df .In) (AE X.K am):=by
 intro o s n H x y v u Q I i l h;obtain⟨p,xs,rfl,d,j,fs,q⟩:=h;cases l;rcases d with d|d
 .obtain⟨c,r,f,m⟩:=I.list d;refine SeqAt.in_listAt (jD x) f.isList (λw g=>rF i j r fs w (~~~g)) ⟨.bl _,H,I,rfl,?_⟩;rw[show c.toArray.any (jD x)=c.any (jD x) by simp,AJ r fs];exact q
 .obtain⟨c,r,f,m⟩:=I.tuple d;refine SeqAt.in_tupleAt (jD x) f (λw g=>rF i j r fs w (~~~g)) ⟨.bl _,H,I,rfl,?_⟩;rw[show c.toArray.any (jD x)=c.any (jD x) by simp,AJ r fs];exact q
theorem dq.or(h:dq X f r)(l:dq X f i):dq X f (λxs H Q=>r xs H Q\/i xs H Q):=by
 intro j s c H xs d Q I g q;rcases q with q|q
 .exact h j s c H xs d Q I g q
 .exact l j s c H xs d Q I g q
theorem Ce:dq X (.type "list") (λxs H Q=>∃p f,xs=[.ref p]/\(b_ X.K H p f\/cC X.K H p f)/\∀l,H l=ac->Q (.ref l) (upd H l (.lst f))):=by
 intro J s B H xs L Q I r h;obtain⟨p,f,rfl,t,q⟩:=h;obtain⟨u,rfl,C⟩:=vals1 r;cases C;have v:∀(c:List ah),bt f c->f.length<=bd->∀(d:aA) (i:Nat),(∀b A,s.heap.get? b=aa A->d.get? b=aa A) ->
   d.get? s.heap.objs.size=aa {cls:=.type "list",dict:=ac,data:=.seq c.toArray i,slots:=#[]}->EP X J B Q (.ref s.heap.objs.size) {s with heap:=d}:=λc g m d i j e=>
  ⟨.ref s.heap.objs.size,_,I.laid (t':=s.toks) j (bc _) (show cf X.prog X.w _ d _ (.lst f)from⟨m,c,i,g,e⟩),rfl,q _ (I.hok.fresh (bc _))⟩
 rcases t with t|t
 .obtain⟨c,g,w,m⟩:=I.list t;have D:=g.length;obtain⟨o,x,z,n,y⟩:=w.isList;exact call_list_seq p (.inl rfl) x z y (λd i j e=>v c g m d i j e) (by simp only[dW] <;> simp_all)
 .obtain⟨c,g,w,m⟩:=I.tuple t;have D:=g.length;obtain⟨o,x,z,n,y⟩:=w;exact call_list_seq p (.inr rfl) x z y (λd i j e=>v c g m d i j e) (by simp only[dW] <;> simp_all)
theorem ve:dq X (.type "tuple") (λxs H Q=>∃p d,xs=[.ref p]/\((b_ X.K H p d/\∀l,H l=ac->Q (.ref l) (upd H l (.tup d)))\/(cC X.K H p d/\Q (.ref p) H))):=by
 intro n s j H xs y Q I r h;obtain⟨p,d,rfl,h⟩:=h;obtain⟨u,rfl,v⟩:=vals1 r;cases v;rcases h with⟨hq,q⟩|⟨hq,q⟩
 .obtain⟨c,g,i,m⟩:=I.list hq;have z:=g.length;refine call_tuple_list i.isList (λf w=>?_) (by simp only[dW] <;> simp_all);have t:Inv X n j H {s with heap:=f}:=I.kept (t':=s.toks) w;have x:Inv X n j (upd H f.objs.size (.tup d)) {s with heap:=f.push {cls:=.type "tuple",data:=.seq c.toArray}} :=t.laid (t':=s.toks) (λb o e=>bD _ e) (bc _) (show cf X.prog X.w _ _ _ (.tup d)from⟨m,c,g,IQ.new _ _⟩);exact⟨.ref f.objs.size,_,x,rfl,q _ (t.hok.fresh (bc _))⟩
 .obtain⟨c,g,i,m⟩:=I.tuple hq;exact call_tuple_same i ⟨.ref p,H,I,rfl,q⟩
noncomputable def B_(K:ay)(T:String)(x:V)(H:Hp):Prop:=match x with
 |.str _=>T = "str"
 |.int _=>T = "int"
 |.ref p=>(T = "list"/\∃xs,b_ K H p xs)\/(T = "tuple"/\∃o,K.lookup p=aa o/\o.cls=.type "tuple"/\o.dict=ac) \/
   (T = "dict"/\((∃c,H p=aa (.dK c))\/∃c,H p=aa (.dT c)))\/(T = "set"/\∃S n,H p=aa (.set S n))
 |_=>False
theorem Fw{s:ao}{T:String}{x:V}{v:ah}(I:Inv X q l H s)(r:RelV x v)(ty:B_ X.K T x H):s.TypeIs v T/\∀a,v=.ref a->∃j,s.heap.get? a=aa j/\j.dict=ac:=by
 cases x with
 |str z=>
  obtain⟨t,rfl⟩:=r;cases (show T = "str" from ty);exact⟨typeIs_str s z t,λ_ e=>nomatch e⟩
 |int i=>
  obtain⟨t,rfl⟩:=r;cases (show T = "int" from ty);exact⟨typeIs_int s i t,λ_ e=>nomatch e⟩
 |ref p=>
  cases r;rcases ty with⟨rfl,xs,hq⟩|⟨rfl,o,hk,hc,f⟩|⟨rfl,hk⟩|⟨rfl,S,n,hk⟩
  .obtain⟨m,_,h,_⟩:=I.list hq;refine⟨h.isList.typeIs,λa e=>?_⟩;cases e;obtain⟨o,n,e,c,f,_⟩:=h;exact⟨o,e,f⟩
  .refine⟨⟨o,I.kIn p o hk,hc⟩,λa e=>?_⟩;cases e;exact⟨o,I.kIn _ o hk,f⟩
  .have z:∃o,s.heap.get? p=aa o/\o.ExactDict:=by
    rcases hk with⟨kvs,hk⟩|⟨kvs,hk⟩
    .obtain⟨_,_,_,_,o,_,_,e,d,_⟩:=I.hok p _ hk;exact⟨o,e,d⟩
    .obtain⟨_,_,_,_,o,_,_,e,d,_⟩:=I.hok p _ hk;exact⟨o,e,d⟩
   obtain⟨o,e,d⟩:=z;refine⟨⟨o,e,d.1⟩,λa g=>?_⟩;cases g;exact⟨o,e,d.2.1⟩
  .obtain⟨o,_,_,_,e,d,_⟩:=I.hok p _ hk;refine⟨⟨o,e,d.1⟩,λa g=>?_⟩;cases g;exact⟨o,e,d.2.1⟩
 |_=>exact False.elim ty
noncomputable def Rx(K:ay)(T:String)(r:V->List V->Hp->VK->Prop)(B:TE):TE:=λd H Q=>B d H λx c=>B_ K T x c/\r x [] c Q
noncomputable def M8(K:ay)(T:String)(r:V->List V->Hp->VK->Prop)(B:TE)(t:TA):TE:=λc H Q=>B c H λx d=>B_ K T x d/\t c d λxs f=>r x xs f Q
variable{o e:aB}{D:List aB}{B:TE}{t:TA}{g:Str}{m d:Pos}{T C:String}{r:V->List V->Hp->VK->Prop}
theorem Fi(u:PlainAttrs T)(c:Slot T g C)(p:typeOf (.builtin C)=pure (.type "method_descriptor"))(A:yL X C r)(z:PE X o B)(y:i8 o g X.env (aQ o X.env)=aQ o X.env:=by rfl) (w:(m.endLine == d.line)=ai:=by rfl):PE X (.Call (.Attribute o g m) [] [] d) (Rx X.K T r B):=by intro j s f H Q I h;refine wpAny_Call_method0_late y w (aR (z j s f H _ I h) λv n ⟨x,M,l,i,ty,q⟩=>?_);obtain⟨L,J⟩:=Fw l i ty;exact⟨T,C,u,c,p,L,J,Cz rfl (PySem.evalArgs_none (A j n f M x [] v [] Q l i .nil q))⟩
theorem p_(M:PlainAttrs T)(c:Slot T g C)(A:typeOf (.builtin C)=pure (.type "method_descriptor"))(W:yL X C r)(S:PE X o B)(Y:PA X (e::D) t)(O:i8 o g X.env (aQ o X.env)=aQ o X.env:=by rfl)(p:((cx d (aK (e::D) X.env)).all (λx=>!x.1)&&(mh d (mi [] X.env)).all (λx=>x.1.isSome)&&decide ((e::D).length+([]:List gk).length+(if([]:List gk).isEmpty then 0 else 1)<30))=ai:=by rfl)(N:(m.endLine == d.line)=ai:=by rfl) (P:aK (e::D) X.env=(am,aQ e X.env)::aK D X.env:=by rfl) (UG:(cx d (aK D X.env)).any (·.1)=am:=by rfl):PE X (.Call (.Attribute o g m) (e::D) [] d) (M8 X.K T r B t):=by intro i s f H Q I h;refine wpAny_Call_method_late O p N rfl (aR (S i s f H _ I h) λv y ⟨x,H1,n,j,ty,L⟩=>?_);obtain⟨h1,Z⟩:=Fw n j ty;refine⟨T,C,M,c,A,h1,Z,?_⟩;have l:=Y d i y f H1 _ n L;rw[P]at l ⊢;refine Cz (by trivial) (CA ?_);exact aR l λu w ⟨q,H2,I2,z,J⟩=>W i w f H2 x q v u Q I2 j z J
end
noncomputable def oR(X:Cx)(d:String)(r:V->List V->Hp->VK->Prop):Prop :=
 ∀(c:List (ae×Obj)) (s:ao) (a:St) (H:Hp) (x:V) (xs:List V) (v:ah) (b:List ah) (Q:VK),Inv X c a H s->RelV x v->bt xs b->r x xs H Q ->
  au X.zz X.A (call (.builtin d) (v::b)) (EP X c a Q) X.xe s
theorem bt.one:∀{x:V}{a:List ah},bt [x] a->∃u,a=[u]/\RelV x u
 |_,_,.cons r .nil=>⟨_,rfl,r⟩
theorem bt.zero:∀{a:List ah},bt [] a->a=[]
 |_,.nil=>rfl
theorem bt.eraseIdx:∀{xs:List V}{a:List ah} (i:Nat),bt xs a->bt (xs.eraseIdx i) (a.eraseIdx i)
 |_,_,_,.nil=>.nil
 |_,_,0,.cons _ t=>t
 |_,_,i+1,.cons r t=>.cons r (bt.eraseIdx i t)
theorem bt.rep(h:bt xs a):∀k:Nat,bt (bz k xs).flatten (bz k a).flatten
 |0=>.nil
 |k+1=>by rw[yV,yV,CB,CB];exact bt.append h (bt.rep h k)
theorem zQ{a:Type}:∀(l:List a) (i:Nat),(l.eraseIdx i).length<=l.length
 |[],_=>bc _
 |_::_,0=>CD _
 |_::r,i+1=>Nat.succ_le_succ (zQ r i)
theorem foldl_rep(a:List ah):∀(k:Nat) (b:List ah), List.foldl (λd c=>d++c) b.toArray (bz k a.toArray)=(b++(bz k a).flatten).toArray
 |0,b=>by simp
 |k+1,b=>by
  have e:b.toArray++a.toArray=(b++a).toArray:=by simp
  have f:(b++a)++(bz k a).flatten=b++(bz (k+1) a).flatten:=by
   grind
  rw[<-f,<-foldl_rep a k (b++a),<-e,yV,lD]
section
variable{X:Cx}{c:List (ae×Obj)}{a:St}{H:Hp}{s:ao}{l b:ae}{d ys g:List V}
theorem Inv.lset{h its':List ah}(I:Inv X c a H s)(t:H l=aa (.lst d))(e:s.heap.get? l=aa {cls:=.type "list",data:=.seq h.toArray n}) (p:f h.toArray=its'.toArray) (m:bt ys its') (j:ys.length<=bd):Inv X c a (upd H l (.lst ys)) {s with heap:=s.heap.update l (gm f),toks:=i}:=by have q:=PySem.IsL.update e f;rw[p]at q;refine I.write (x:=l) (e:=l) (by rw[t];trivial) (.inl rfl) (λv u r o=>(nM s.heap (gm f) (dQ r)).trans o) ⟨_,q⟩ ?_;exact⟨j,its',_,m,q⟩
theorem Inv.lnew(I:Inv X c a H s)(h:bt ys its)(f:ys.length<=bd):Inv X c a (upd H s.heap.objs.size (.lst ys)) {s with heap:=s.heap.push {cls:=.type "list",data:=.seq its.toArray},toks:=t'} :=I.laid (λ_ _ q=>bD _ q) (bc _) ⟨f,its,0,h,cS _ rfl⟩
theorem Inv.fresh(I:Inv X c a H s):H s.heap.objs.size=ac:=I.hok.fresh (bc _)
theorem Inv.lstM(I:Inv X c a H s)(h:H l=aa (.lst d)):d.length<=bd/\∃(f:List ah) (n:Nat),bt d f/\d.length=f.length/\s.heap.get? l=aa {cls:=.type "list",data:=.seq f.toArray n}:=by obtain⟨z,f,n,r,e⟩:=I.hok l _ h;exact⟨z,f,n,r,r.length,e⟩
theorem Hw(h:n<=bd):yW n=am:=by unfold yW;simp_all
end
section
variable{X:Cx}
noncomputable def P_:V->List V->Hp->VK->Prop:=λx a H Q=>∃l xs y,x=.ref l/\a=[y]/\H l=aa (.lst xs)/\xs.length<bd/\Q .non (upd H l (.lst (xs++[y])))
theorem GR:oR X "list.append" P_:=by
 intro o s f H x g v i Q I b c h;obtain⟨l,xs,y,rfl,rfl,a,j,q⟩:=h;cases b;obtain⟨u,rfl,d⟩:=c.one;obtain⟨z,its,n,r,m,e⟩:=I.lstM a;refine nN F.slot_list_append ⟨_,e,rfl⟩ F.entry_list_append (F.args_list_append_2 _ _) (PySem.list_append l its.toArray n u ⋯) ⟨e,?_⟩;refine⟨.non,_,I.lset (its':=its++[u]) a e (by simp) (r.append (.cons d .nil)) ?_,rfl,q⟩
 grind
noncomputable def Qh:V->List V->Hp->VK->Prop:=λx a H Q=>∃l xs i k y,x=.ref l/\a=[.int i]/\H l=aa (.lst xs)/\-(2^63)<=i/\i<2^63/\seqIndex? i xs.length=aa k/\xs[k]?=aa y/\Q y (upd H l (.lst (xs.eraseIdx k)))
theorem Nt:oR X "list.pop" Qh:=by
 intro G s A H x B v C Q I d f h;obtain⟨l,xs,i,k,y,rfl,rfl,c,p,o,E,j,q⟩:=h;cases d;obtain⟨u,rfl,g⟩:=f.one;obtain⟨t,rfl⟩:=g;obtain⟨z,a,n,r,m,e⟩:=I.lstM c;obtain⟨w,D,b⟩:=r.get j;refine nN F.slot_list_pop ⟨_,e,rfl⟩ F.entry_list_pop (F.args_list_pop_2 _ _)
  (MeetsSeq.list_pop_at l a.toArray n i t k w (fitsIndex_both p o) (by rw[dW,<-m];trivial) (by rw[<-Array.getElem?_toList];trivial) (by rw[dW];simp_all)) ⟨e,?_⟩
 refine⟨y,_,I.lset (its':=a.eraseIdx k) c e ?_ (r.eraseIdx k) ?_,b,q⟩
 .simp
 .have:=zQ xs k;ac_rfl
theorem AN{a:Type}(xs:List a)(k:Nat):(bz k xs).flatten.length=k*xs.length:=by simp
end
section
variable{κ:Type}[DecidableEq κ]
noncomputable def jA(a:List (κ×V))(k:κ):Option V:=(a.find? λb=>decide (b.1=k)).map (·.2)
noncomputable def g_(a:List (κ×V))(k:κ)(v:V):List (κ×V) :=if(a.any λb=>decide (b.1=k))=ai then a.map (λb=>if b.1=k then(b.1,v)else b)else a++[(k,v)]
theorem yd{p:κ×V}(e:p.1=k):jA (p::r) k=aa p.2:=by simp[jA,mj,e]
theorem xH{p:κ×V}(e:¬p.1=k):jA (p::r) k=jA r k:=by simp[jA,mj,e]
theorem Fg(k:κ):∀a:List (κ×V),(a.any λb=>decide (b.1=k))=(jA a k).isSome
 |[]=>rfl
 |p::r=>by
  rw[qz];by_cases e:p.1=k
  .simp only[yd e,decide_eq_true e,Bool.true_or,Option.isSome_some]
  .rw[xH e,decide_eq_false e,Bool.false_or];exact Fg k r
theorem B8(a:List (κ×V))(k:κ)(v:V):(g_ a k v).length<=a.length+1:=by
 unfold g_
 grind
theorem oQ.isSome_eq(r:oQ o u):o.isSome=u.isSome:=by
 cases o with
 |none=>cases u with
  |none=>rfl
  |some _=>trivial
 |some _=>cases u with
  |none=>trivial
  |some _=>rfl
theorem oQ.getD(r:oQ o u)(rd:RelV d a):RelV (o.getD d) (u.getD a):=by
 cases o with
 |none=>cases u with
  |none=>trivial
  |some _=>trivial
 |some _=>cases u with
  |none=>trivial
  |some _=>exact r
theorem KV.val(r:KV a d)(k:κ):oQ (jA a k) (tf d k):=by
 unfold KV at r
 induction r with
 |nil=>trivial
 |@cons p q ps qs h t ih=>
  obtain⟨f,g⟩:=h;by_cases e:p.1=k
  .have c:q.1=k:=f.symm.trans e;have b:tf (q::qs) k=aa q.2:=by simp[tf,mj,c]
   rw[yd e,b];trivial
  .have c:¬q.1=k:=λz=>e (f.trans z);have b:tf (q::qs) k=tf qs k:=by simp[tf,mj,c]
   rw[xH e,b];trivial
theorem KV.any(r:KV a c)(k:κ):(a.any λb=>decide (b.1=k))=c.any λb=>decide (b.1=k):=by
 unfold KV at r
 induction r with
 |nil=>rfl
 |cons h t d=>rw[qz,qz,d,h.1]
theorem KV.repl(r:KV b c)(k:κ)(d:RelV y u):KV (b.map λa=>if a.1=k then(a.1,y)else a) (c.map λa=>if a.1=k then(a.1,u)else a):=by
 unfold KV at r ⊢
 induction r with
 |nil=>exact .nil
 |@cons p q ps qs h t ih=>rw[cn,cn];refine .cons ?_ ih;lia
theorem KV.put(r:KV a b)(k:κ)(c:RelV y u):KV (g_ a k y) (stored b k u):=by
 unfold g_ stored;rw[r.any k];by_cases e:(b.any λd=>decide (d.1=k))=ai
 .rw[if_pos e,if_pos e];exact r.repl k c
 .rw[if_neg e,if_neg e];exact Paired.snoc r ⟨rfl,c⟩
theorem KV.length{vs:List (κ×ah)}(r:KV a vs):a.length=vs.length:=Paired.length r
end
theorem qj(r:RelV (kV k) u):(gC P w).is k u=ai:=by
 cases k with
 |inl i=>obtain⟨t,e⟩:=(show ∃t,u=Value.int i t from r);subst e;exact KR P w i t
 |inr x=>obtain⟨t,e⟩:=(show ∃t,u=Value.str x t from r);subst e;exact Nm P w x t
theorem E7:∀{ks:List aI}{a:List ah},bt (ks.map kV) a->ItemsAre (gC P w) ks a
 |[],_,r=>by rw[kI]at r;cases r;exact .nil
 |k::ks,_,r=>by
  rw[cn]at r;cases r with
  |cons h t=>exact .cons (qj h) (E7 t)
noncomputable abbrev KT(H:Hp):List (List aI×V)->List (List aI×ae×ah)->Prop:=kD λp q=>p.1=q.1/\H q.2.1=aa (.tup (p.1.map kV))/\RelV p.2 q.2.2
theorem KT.val(r:KT H a xs)(k:List aI):oQ (jA a k) ((atKey xs k).map (·.2)):=by
 induction r with
 |nil=>trivial
 |@cons p q ps qs h t ih=>
  obtain⟨d,_,f⟩:=h;by_cases e:p.1=k
  .have c:q.1=k:=d.symm.trans e;have b:atKey (q::qs) k=aa q.2:=by simp[atKey,mj,c]
   rw[yd e,b];trivial
  .have c:¬q.1=k:=λz=>e (d.trans z);have b:atKey (q::qs) k=atKey qs k:=by simp[atKey,mj,c]
   rw[xH e,b];trivial
theorem KT.repl(r:KT H a xs)(k:List aI)(c:RelV y u):KT H (a.map λb=>if b.1=k then(b.1,y)else b) (xs.map (putAt k u)):=by
 induction r with
 |nil=>exact .nil
 |@cons p q ps qs h t ih=>rw[cn,cn];refine .cons ?_ ih;obtain⟨g,f,d⟩:=h;unfold putAt;lia
theorem KT.put(r:KT H a xs)(k:List aI)(f:H b=aa (.tup (k.map kV)))(c:RelV y u):KT H (g_ a k y) (storedH xs k b u):=by
 have e:(a.any λd=>decide (d.1=k))=(atKey xs k).isSome:=by rw[Fg,(r.val k).isSome_eq,CF]
 unfold g_ storedH;rw[e];by_cases q:(atKey xs k).isSome=ai
 .rw[if_pos q,if_pos q];exact r.repl k c
 .rw[if_neg q,if_neg q];exact Paired.snoc r ⟨rfl,f,c⟩
theorem KT.keeps(r:KT H a xs)(f:∀b c,H b=aa (.tup c)->d b=aa (.tup c)):KT d a xs :=Paired.mapP r λ_ _ z=>⟨z.1,f _ _ z.2.1,z.2.2⟩
section
variable{P:aS}{w:aJ}{H:Hp}{h:aA}{a:ae}
theorem Hq(ok:cV P w H h)(e:Rd H a u):cf P w H h a u:=e.ok ok
theorem oP(ok:cV P w H h)(e:Rd H a (.dK b)):b.length<=bd/\(a == lq)=am/\∃c,KV b c/\h.DictOf (gC P w) a c :=show cf P w H h a (.dK b)from Hq ok e
theorem x5(ok:cV P w H h)(e:H a=aa (.dK b)):b.length<=bd/\(a == lq)=am/\∃c,KV b c/\h.DictOf (gC P w) a c:=oP ok (.inl e)
theorem sF{ks:List aI}(ok:cV P w H h)(e:H a=aa (.tup (ks.map kV))):(vz (gC P w)).is h ks a:=by
 obtain⟨_,b,r,⟨o,f,d,n,c⟩,_⟩:=(show cf P w H h a (.tup (ks.map kV))from ok a _ e)
 exact⟨o,b.toArray,n,f,d,c,by simpa using E7 r⟩
theorem qd(ok:cV P w H h)(e:Rd H a (.dT b)):b.length<=bd/\(a == lq)=am /\ ∃xs,KT H b xs/\h.DictOfH (vz (gC P w)) a xs:=by
 obtain⟨z,y,xs,r,o,n,s,j,i,g,f,d⟩:=(show cf P w H h a (.dT b)from Hq ok e)
 refine⟨z,y,xs,r,o,n,s,j,i,g,f,λx c=>?_,d⟩;have all:∀{l:List (List aI×V)}{m:List (List aI×ae×ah)},KT H l m->∀x∈m,(vz (gC P w)).is h x.1 x.2.1:=by
  intro l m q
  induction q with
  |nil=>simp
  |@cons p q ps qs hq t ih=>
   intro x c;rcases bQ.mp c with e|c
   .subst e;exact sF ok (by rw[<-hq.1];exact hq.2.1)
   .exact ih x c
 exact all r x c
theorem Lk(ok:cV P w H h)(e:H a=aa (.dT b)):b.length<=bd/\(a == lq)=am /\ ∃xs,KT H b xs/\h.DictOfH (vz (gC P w)) a xs:=qd ok (.inl e)
end
noncomputable def kT(H:Hp)(a:ae)(y:V)(r:Option V):Prop :=(∃c k,Rd H a (.dK c)/\y=kV k/\r=jA c k)\/∃c k b,Rd H a (.dT c)/\y=.ref b/\H b=aa (.tup (k.map kV))/\r=jA c k
noncomputable def Cn(H:Hp)(a:ae)(y v:V)(d:Hp):Prop :=
 (∃c k,H a=aa (.dK c)/\y=kV k/\c.length<bd/\d=upd H a (.dK (g_ c k v))) \/
 ∃c k b,H a=aa (.dT c)/\y=.ref b/\H b=aa (.tup (k.map kV))/\c.length<bd/\d=upd H a (.dT (g_ c k v))
theorem kT.k{k:aI}(e:H a=aa (.dK b)):kT H a (kV k) (jA b k):=.inl ⟨b,k,.inl e,rfl,rfl⟩
theorem Cn.k{k:aI}{v:V}(e:H a=aa (.dK b))(c:b.length<bd):Cn H a (kV k) v (upd H a (.dK (g_ b k v))):=.inl ⟨b,k,e,rfl,c,rfl⟩
section
variable{X:Cx}{f:List (ae×Obj)}{d:St}{H:Hp}{s:ao}{a:ae}{y v:V}{u r:ah}{o:Option V}{A:aY}{E:ah->ao->Prop}
theorem Inv.big(I:Inv X f d H s):lq<s.heap.objs.size:=by have h:b7<s.heap.objs.size:=(I.mod.glob.keeps I.bk).lt;exact oX (by decide) h
theorem OX(B:A.units+1<cLine)(I:Inv X f d H s)(g:kT H a y (aa v))(t:RelV y u)(h:∀j q,Inv X f d H q->RelV v j->Q j q):au X.zz A (nK (.ref a) u) Q E s:=by
 rcases g with⟨kvs,k,e,ey,l⟩|⟨kvs,k,b,e,ey,eb,l⟩
 .subst ey;obtain⟨z,D,w,i,n⟩:=oP I.hok e;obtain⟨j,m,c⟩:=oQ.some_of (v:=v) (o:=tf w k) (by rw[l];exact i.val k);exact wpAny_getItem_of (qj t) n.mapOf m (h j _ (I.tok _) c)
 .subst ey;cases (show u=Value.ref b from t);obtain⟨z,D,xs,i,n⟩:=qd I.hok e;obtain⟨j,m,c⟩:=oQ.some_of (v:=v) (o:=(atKey xs k).map (·.2)) (by rw[l];exact i.val k);obtain⟨p,C,x⟩:=lE.mp m;refine wpAny_getItem_heap (yX B) (sF I.hok eb) n C ?_;rw[x];exact h j _ (I.tok _) c
theorem T4(p:A.units+1<cLine)(I:Inv X f d H s)(g:kT H a y o)(n:RelV y u)(h:∀m,Inv X f d H m->Q (.bool o.isSome) m):au X.zz A (df .In u (.ref a)) Q E s:=by
 rcases g with⟨kvs,k,e,ey,l⟩|⟨kvs,k,b,e,ey,eb,l⟩
 .subst ey;obtain⟨z,i,t,c,j⟩:=oP I.hok e;refine wpAny_in_of (qj n) i j.mapOf ?_;rw[<-(c.val k).isSome_eq,<-l];exact h _ (I.tok _)
 .subst ey;cases (show u=Value.ref b from n);obtain⟨z,i,xs,c,j⟩:=qd I.hok e;refine wpAny_in_heap (yX p) (sF I.hok eb) i j ?_;have q:=(c.val k).isSome_eq;rw[CF]at q;rw[<-q,<-l];exact h _ (I.tok _)
theorem RJ(p:A.units+1<cLine)(I:Inv X f d H s)(g:kT H a y o)(n:RelV y u)(h:∀m,Inv X f d H m->Q (.bool (!o.isSome)) m):au X.zz A (df .NotIn u (.ref a)) Q E s:=by
 rcases g with⟨kvs,k,e,ey,l⟩|⟨kvs,k,b,e,ey,eb,l⟩
 .subst ey;obtain⟨z,i,t,c,j⟩:=oP I.hok e;refine wpAny_notIn_of (qj n) i j.mapOf ?_;rw[<-(c.val k).isSome_eq,<-l];exact h _ (I.tok _)
 .subst ey;cases (show u=Value.ref b from n);obtain⟨z,i,xs,c,j⟩:=qd I.hok e;refine wpAny_notIn_heap (yX p) (sF I.hok eb) i j ?_;have q:=(c.val k).isSome_eq;rw[CF]at q;rw[<-q,<-l];exact h _ (I.tok _)
theorem zM(I:Inv X f d H s)(g:uJ (H a))(h:kF a s.heap h')(i:∃q,h'.get? a=aa q)(new:cf X.prog X.w (upd H a c) h' a c):Inv X f d (upd H a c) {s with heap:=h',toks:=t'} :=I.write (x:=a) (e:=a) g (.inl rfl) (λb q j z=>(h.2 b j).trans z) i new
theorem Es{h':aA}{b:List (aI×V)}{c:List (aI×ah)}(z:b.length<=bd)(h:(a == lq)=am)(g:KV b c)(i:h'.DictOf (gC P w) a c):cf P w j h' a (.dK b):=⟨z,h,c,g,i⟩
theorem Nz{G:Hp}(L:A.units+1<cLine)(I:Inv X f d H s)(g:Cn H a y v G)(C:RelV y u)(D:RelV v r)(h:∀B,Inv X f d G B->Q () B):au X.zz A (setItem (.ref a) u r) Q E s:=by
 rcases g with⟨kvs,k,e,ey,l,eH⟩|⟨kvs,k,b,e,ey,eb,l,eH⟩
 .subst ey eH;obtain⟨z,w,J,i,x⟩:=x5 I.hok e;have n:J.length<=bd:=by rw[<-i.length];exact z
  have t:(g_ kvs k v).length<=bd:=by have:=B8 kvs k v;ac_rfl
  refine wpAny_setItem_pairs (hsz:=n) (qj C) x λF j p=>h _ ?_;have M:∃q,F.get? a=aa q:=let ⟨q,_,_,m,_⟩:=j;⟨q,m⟩
  exact zM I (by rw[e];trivial) p M (Es t w (i.put k D) j)
 .subst ey eH;cases (show u=Value.ref b from C);obtain⟨z,w,xs,i,x⟩:=Lk I.hok e;have n:xs.length<=bd:=by rw[<-Paired.length i];exact z
  have t:(g_ kvs k v).length<=bd:=by have:=B8 kvs k v;ac_rfl
  refine wpAny_setItem_heap (hsz:=n) (yX L) (sF I.hok eb) x λF j p=>h _ ?_;obtain⟨q,T,W,m,S,P,O,_,N⟩:=j;refine zM I (by rw[e];trivial) p ⟨q,m⟩ ⟨t,w,_,(i.put k eb D).keeps λc Z Y=>?_,q,T,W,m,S,P,O,N⟩;rw[bi (Lc Y e (λz=>nomatch z))];trivial
end
section
variable{X:Cx}{d:List (ae×Obj)}{c:St}{H:Hp}{s:ao}{a:ae}{b:List (aI×V)}{k:aI}{u:ah}{A:aY}{E:ah->ao->Prop}
theorem Su(I:Inv X d c H s)(e:Rd H a (.dK b))(h:∀t g,Inv X d c H g->Q (.int b.length t) g):au X.zz A (call (.builtin "len") [.ref a]) Q E s:=by obtain⟨z,i,l,f,j⟩:=oP I.hok e;refine call_len_dict i j (by rw[<-f.length];rw[sX]at z;lia) ?_;rw[<-f.length];exact h _ _ (I.tok _)
end
noncomputable def AU(i:aB):Prop:=∀ov a,Cy i am ov a=operate [ov,a] (nK ov a)
theorem Tt{E:ah->ao->Prop}{s:ao}{m:Env}{c b:aB}{q:Pos}{T u:String}{Q:ah->ao->Prop}(y:typeLookup (.type T) "__getitem__"=pure (aa (.builtin u))) (v:AU b)(h:au (ax a w) A (aQ c m) (λo j=>au (ax a w) A (aQ b m) (λi d=>d.TypeIs o T/\au (ax a w) A (nK o i) Q E d) E j) E s):au (ax a w) A (aQ (.Subscript c b q) m) Q E s:=by
 refine Subscript_ (eU h (λo j p=>eU p (λi d f=>?_) λ_ _ x=>x) λ_ _ x=>x);obtain⟨t,f⟩:=f;unfold subscriptTail;refine aq ?_;rw[getitemInPython_of_ne t.not_modules];refine aq (vI t y ?_);have l:au (ax a w) A (Cy b am o i) (λr g=>au (ax a w) A (letTemporaryGo c o r >>= λ_=>pure r) Q E g) E d:=by rw[v o i];exact wpAny_operating (eU f (λr g n=>aq (wpAny_letTemporaryGo (aE n))) λ_ _ x=>x)
 first
  |exact aE (aq l)
  |exact aq (aE (aq l))
  |exact aq l
theorem OM{H:Hp}{s:ao}{a:ae}{y:V}{o:Option V}(I:Inv X f d H s)(g:kT H a y o):s.TypeIs (.ref a) "dict":=by
 rcases g with⟨kvs,k,e,_,_⟩|⟨kvs,k,b,e,_,_,_⟩
 .obtain⟨_,_,h,_,c⟩:=oP I.hok e;exact c.typeIs
 .obtain⟨_,_,xs,_,c⟩:=qd I.hok e;exact c.typeIs
noncomputable def M9(d ty:TE):TE:=λb H Q=>d b H λx f=>ty b f λy c=>∃a v,x=.ref a/\kT c a y (aa v)/\Q v c
noncomputable def Tp(ty d:TE):TE:=λb H Q=>ty b H λy f=>d b f λx c=>∃a o,x=.ref a/\kT c a y o/\Q (.bl o.isSome) c
noncomputable def MZ(ty d:TE):TE:=λb H Q=>ty b H λy f=>d b f λx c=>∃a o,x=.ref a/\kT c a y o/\Q (.bl (!o.isSome)) c
noncomputable def MW(f ty d:TE):TS:=λD b H=>d b H λv i=>f b i λx h=>ty b h λy g=>∃a c,x=.ref a/\Cn g a y v c/\D.nx b c
section
variable{X:Cx}{o i e b:aB}{j f m:Pos}{d c l:TE}
theorem Kv(C:X.A.units+1<cLine)(E:PE X o d)(F:PE X i c)(D:AU i):PE X (.Subscript o i j) (M9 d c):=by intro q s p H Q I h;refine Tt PySem.F.slot_dict_getitem.lookup D (aR (E q s p H _ I h) λu t ⟨x,N,L,z,B⟩=>aR (F q t p N _ L B) λT S ⟨y,M,r,w,a,v,G,g,A⟩=>?_);subst G;obtain rfl:u=Value.ref a:=z;exact⟨OM r g,OX C r g w λO P J n=>⟨v,M,J,n,A⟩⟩
theorem O8(z:X.A.units+1<cLine)(B:PE X i c)(A:PE X o d):PC X .In i o (Tp c d):=by intro p s n H Q I h;refine aR (B p s n H _ I h) λN q ⟨y,J,F,r,w⟩=>aR (A p q n J _ F w) λu M ⟨x,G,E,t,a,ov,C,g,v⟩=>?_;subst C;obtain rfl:u=Value.ref a:=t;exact T4 z E g r λL D=>⟨.bl ov.isSome,G,D,rfl,v⟩
theorem Q9(z:X.A.units+1<cLine)(B:PE X i c)(A:PE X o d):PC X .NotIn i o (MZ c d):=by intro p s n H Q I h;refine aR (B p s n H _ I h) λN q ⟨y,J,F,r,w⟩=>aR (A p q n J _ F w) λu M ⟨x,G,E,t,a,ov,C,g,v⟩=>?_;subst C;obtain rfl:u=Value.ref a:=t;exact RJ z E g r λL D=>⟨.bl (!ov.isSome),G,D,rfl,v⟩
theorem Ml(G:X.A.units+1<cLine)(L:PE X o d)(M:PE X i c)(F:PE X b l)(J:jj b (aa (.Subscript o i f)) j.line X.env=pure am):PS X (.Assign [.Subscript o i f] b j) (MW d c l):=by intro p s n H D I h;refine wpAny_Assign_Subscript (aR (F p s n H _ I h) λr t ⟨v,Y,S,A,E⟩=>aR (L p t n Y _ S E) λu q ⟨x,W,Q,z,C⟩=>aR (M p q n W _ Q C) λiv s3 ⟨y,H3,P,w,a,T,N,g,B⟩=>?_) J;subst N;obtain rfl:u=Value.ref a:=z;exact Nz G P g w A λZ O=>⟨n,T,O,B⟩
end
theorem FI(h:aA)(a:lq<h.objs.size):cf P w H (h.push {cls:=.type "dict",data:=.dict #[]}) h.objs.size (.dK []) :=⟨gn _,beq_eq_false_iff_ne.mpr (dQ (dE a)),[],.nil,Heap.DictOf.new h⟩
noncomputable def QT:TE:=λ_ H Q=>∀p,H p=ac->Q (.ref p) (upd H p (.dK []))
section
variable{X:Cx}{b:Pos}
theorem Nn:PE X (.Dict [] [] b) QT:=λd s c H Q I h=>wpAny_Dict_empty ⟨.ref s.heap.objs.size,_,I.laid (a:=s.heap.objs.size) (o:=.dK []) (t':=s.toks) (λ_ _ q=>bD _ q) (bc _) (FI s.heap I.big),rfl,h _ (I.hok.fresh (bc _))⟩
end
noncomputable def AL:List (TE×TE)->St->Hp->(List (V×V)->Hp->Prop)->Prop
 |[],_,H,Q=>Q [] H
 | (c,b)::r,a,H,Q=>c a H λx h=>b a h λy g=>AL r a g λd f=>Q ((x,y)::d) f
noncomputable abbrev VV:List (V×V)->List (ah×ah)->Prop:=kD λp q=>RelV p.1 q.1/\RelV p.2 q.2
noncomputable def ye(X:Cx)(f:Pos)(b:List (Option aB))(a:List aB)(d:List (TE×TE)):Prop :=
 ∀(h:List (ae×Obj)) (s:ao) (c:St) (H:Hp) (Q:List (V×V)->Hp->Prop),Inv X h c H s->AL d c H Q ->
  au X.zz X.A (evalPairs (pairTrees b a X.env f)) (λj l=>∃g i,Inv X h c i l/\VV g j/\Q g i) X.xe s
theorem SN:ye X a [] [] []:=λc s b H Q I h=>pairTrees_nil_walk ⟨[],H,I,.nil,h⟩
theorem PY{v:aB}{ks:List (Option aB)}{g:List aB}{j i:TE}{a:List (TE×TE)}(A:PE X k j)(w:PE X v i)(z:ye X b ks g a):ye X b (aa k::ks) (v::g) ((j,i)::a):=λf s c H Q I h=>pairTrees_cons_walk (aR (A f s c H _ I h) λu m ⟨x,G,D,o,r⟩=>aR (w f m c G _ D r) λL l ⟨y,F,C,n,q⟩=>aR (z f l c F _ C q) λJ M ⟨t,E,B,d,p⟩=>⟨(x,y)::t,E,B,.cons ⟨o,n⟩ d,p⟩)
noncomputable def sR(a more:List (aI×V)):List (aI×V):=more.foldl (λb c=>g_ b c.1 c.2) a
theorem KV.merge:∀{more:List (aI×V)}{c:List (aI×ah)}{a:List (aI×V)}{b:List (aI×ah)},KV more c->KV a b->KV (sR a more) (merged b c):=by
 intro more c a b r;unfold KV at r
 induction r generalizing a b with
 |nil=>intro q;exact q
 |@cons p q ps qs h t ih=>
  intro d;have e:KV (g_ a p.1 p.2) (stored b q.1 q.2):=by have:=d.put p.1 h.2;rw[<-h.1];trivial
  exact ih e
theorem Ho:∀(more a:List (aI×V)),(sR a more).length<=a.length+more.length
 |[],a=>by show a.length<=a.length+0;simp
 |p::r,a=>by
  have c:=Ho r (g_ a p.1 p.2);have b:=B8 a p.1 p.2;show(sR (g_ a p.1 p.2) r).length<=_
  grind
theorem EE:∀{d:List (aI×V)}{g:List (ah×ah)},VV (d.map λi=>(kV i.1,i.2)) g->∃f,Carries (gC P w) g f/\KV d f
 |[],_,r=>by rw[kI]at r;cases r;exact⟨[],True.intro,.nil⟩
 |p::d,_,r=>by
  rw[cn]at r;cases r with
  |@cons a b as bs h t=>obtain⟨f,c,q⟩:=EE (P:=P) (w:=w) t;obtain⟨b1,b2⟩:=b;exact⟨(p.1,b2)::f,⟨qj h.1,rfl,c⟩,.cons ⟨rfl,h.2⟩ q⟩
noncomputable def TR(b:List (TE×TE)):TE:=λf H Q=>∀p,H p=ac->AL b f (upd H p (.dK [])) λg d=>d p=aa (.dK [])/\∃a:List (aI×V),g=a.map (λc=>(kV c.1,c.2))/\a.length<=15/\Q (.ref p) (upd d p (.dK (sR [] a)))
theorem LV{d:List aB}{f:List (TE×TE)}(h:ye X g b d f)(y:b.all (·.isSome)=ai)(D:b.length=d.length)(J:b≠[])(m:b.length<=15):PE X (.Dict b d g) (TR f):=by
 intro N s p H Q I q;have C:=I.hok.fresh (bc s.heap.objs.size);have O:=I.laid (a:=s.heap.objs.size) (o:=.dK []) (h':=s.heap.push {cls:=.type "dict",data:=.dict #[]}) (t':=s.toks) (λ_ _ q=>bD _ q) (bc _) (FI s.heap I.big);refine wpAny_Dict_walk (knd:=gC X.prog X.w) y D J m (aR (h N _ p _ _ O (q _ C)) λS T ⟨W,Z,n,l,e,i,L,Y,x⟩=>?_);subst L;obtain⟨t,c,u⟩:=EE (P:=X.prog) (w:=X.w) l;obtain⟨z,F,r,v,M⟩:=x5 n.hok e;cases v;refine⟨t,c,M,λh' j B=>⟨.ref s.heap.objs.size,_,?_,rfl,x⟩⟩;have A:(sR [] i).length<=bd:=by have G:=Ho i [];rw[oY]at G;rw[sX];lia
 have E:∃q,h'.get? s.heap.objs.size=aa q:=let ⟨q,_,_,hq,_⟩:=j;⟨q,hq⟩
 exact zM n (by rw[e];trivial) B E (Es A F (u.merge .nil) j)
structure M2(X:Cx)(o:aB)(m:Str)(apos:Pos)(e f:aB)(cpos:Pos):Prop where
 base:i8 o m X.env (aQ o X.env)=aQ o X.env
 few:((cx cpos (aK [e,f] X.env)).all (λx=>!x.1)&&(mh cpos (mi [] X.env)).all (λx=>x.1.isSome)&&decide (([e,f]:List aB).length+([]:List gk).length+(if([]:List gk).isEmpty then 0 else 1)<30))=ai
 line:(apos.endLine == cpos.line)=ai
 trees:cx cpos (aK [e,f] X.env)=[(am,aQ e X.env),(am,aQ f X.env)]
noncomputable def E2(H:Hp)(a:ae):Prop:=(∃b,Rd H a (.dK b))\/∃b,Rd H a (.dT b)
theorem Qq{H:Hp}{s:ao}{a:ae}(I:Inv X l j H s)(d:E2 H a):s.TypeIs (.ref a) "dict"/\(∀b,Value.ref a=.ref b->∃c,s.heap.get? b=aa c/\c.dict=ac)/\(a == lq)=am:=by
 rcases d with⟨kvs,e⟩|⟨kvs,e⟩
 .obtain⟨_,g,m,_,f⟩:=oP I.hok e;refine⟨f.typeIs,λb q=>?_,g⟩;cases q;obtain⟨c,_,_,i,h,_⟩:=f;exact⟨c,i,h.2.1⟩
 .obtain⟨_,g,xs,_,f⟩:=qd I.hok e;refine⟨f.typeIs,λb q=>?_,g⟩;cases q;obtain⟨c,_,_,i,h,_⟩:=f;exact⟨c,i,h.2.1⟩
section
variable{X:Cx}{f:List (ae×Obj)}{c:St}{H:Hp}{s:ao}{a:ae}{y d:V}{u r:ah}{o:Option V}{A:aY}{E:ah->ao->Prop}
theorem MP(t:A.units+1<cLine)(I:Inv X f c H s)(g:kT H a y o)(q:RelV y u)(rd:RelV d r)(h:∀n p,Inv X f c H p->RelV (o.getD d) n->Q n p):au X.zz A (call (.builtin "dict.get") [.ref a,u,r]) Q E s:=by
 rcases g with⟨kvs,k,e,ey,l⟩|⟨kvs,k,b,e,ey,eb,l⟩
 .subst ey;obtain⟨z,m,v,i,j⟩:=oP I.hok e;refine call_meetsIn Ji j.typeIs PySem.F.entry_dict_get (PySem.F.args_dict_get_3 _ _ _) (meets_dict_get_default (gC X.prog X.w) a (qj q) m r) ⟨_,j.mapOf,h _ _ (I.tok _) ?_⟩;rw[l];exact(i.val k).getD rd
 .subst ey;cases (show u=Value.ref b from q);obtain⟨z,m,xs,i,j⟩:=qd I.hok e;refine call_meetsIn Ji j.typeIs PySem.F.entry_dict_get (PySem.F.args_dict_get_3 _ _ _) (meetsH_dict_get_default (vz (gC X.prog X.w)) a b m r) ⟨yX t,k,xs,sF I.hok eb,j,h _ _ (I.tok _) ?_⟩;rw[l];exact(i.val k).getD rd
end
noncomputable def RA(g ty f:TE):TE:=λb H Q=>g b H λx d=>∃a,x=.ref a/\E2 d a/\ty b d λy h=>f b h λz c=>∃o,kT c a y o/\Q (o.getD z) c
section
variable{X:Cx}{o e f:aB}{c b:Pos}{l i j:TE}
theorem Nv(J:X.A.units+1<cLine)(L:PE X o l)(N:PE X e i)(M:PE X f j)(m:M2 X o "get" c e f b):PE X (.Call (.Attribute o "get" c) [e,f] [] b) (RA l i j):=by intro q s n H Q I h;refine wpAny_Call_method m.base m.few m.line Jj Ji PySem.F.type_dict_get (aR (L q s n H _ I h) λu A ⟨x,Z,r,D,a,O,d,G⟩=>?_);subst O;obtain rfl:u=Value.ref a:=D;obtain⟨v,t,_⟩:=Qq r d;refine⟨v,t,?_⟩;rw[m.trees];refine Cz rfl (CA (Cr (aR (N q A n Z _ r G) λiv w ⟨y,Y,T,C,F⟩=>Cr (aR (M q w n Y _ T F) λfv s3 ⟨z,W,S,B,ov,g,E⟩=>IW ?_))));exact MP J S g C B λw' s4 P p=>⟨_,W,P,p,E⟩
end
end L2
namespace Att
open PySem PySem.W PySem.Calls PyProof.Rows
theorem Sv:∀(c:List Int) (d:List ah),WellAll P h d (c.map WData.int)->IntsAre d c:=by
 intro c
 induction c with
 |nil=>
  intro d w;rw[kI]at w;cases w;exact .nil
 |cons n c f=>
  intro d w;rw[cn]at w;cases w with
  |cons a b=>
   cases a;exact .cons _ _ (f _ b)
theorem TY{l:OpenLaw}(u:l.most=aa n)(m:l.row.toRowW.claim.pre args=ai) (f:WellAll P h b args):∃a j c,b=[Value.ref a]/\args=[WData.list (c.map WData.int)]/\h.get? a=aa {cls:=.type "list",data:=.seq j.toArray}/\IntsAre j c/\c.length<=n:=by
 have g:WShape.hasAll [] args [.list .int]=ai:=(pre_splitW m).1;have o:l.pre.holds [] {args:=args}=ai:=(pre_splitW m).2;obtain⟨d,r,rfl,x,w⟩:=hasAllW_cons g;obtain rfl:=hasAllW_nil w;obtain⟨xs,rfl,v⟩:=hasW_list x;obtain⟨c,rfl⟩:=items_int v;have y:c.length<=n:=by
  unfold OpenLaw.pre at o;have i:(WTm.not (.lt (.lit (.int (n:Int))) (.len (.arg 0)))).holds [] {args:=[.list (c.map .int)]}=ai:=by have i:=(holds_andW o).1;rw[u]at i;trivial
  have z:=condW_of i (w_not (w_lt w_lit (w_len_list (w_arg rfl))));simp_all
 cases f with
 |cons q p=>
  cases p;cases q with
  |list t s=>exact⟨_,_,c,rfl,rfl,t,Sv c _ s,y⟩
theorem Qd(l:OpenLaw)(args:List WData):l.row.toRowW.claim.post args (.bool ai) args=ai :=
 postW_of (r:=l.row.toRowW) (X:=(ai == ai))
  (show WShape.has [] (.bool ai) .bool=ai by rfl)
  (show(WTm.eq .res (.lit (.bool ai))).value [] {args:=args,res:=aa (.bool ai),after:=args}=aa (.bool (ai == ai))from w_eq_bool (w_res rfl) w_lit) rfl
theorem attach_call{l:OpenLaw}{d:DefRec}(J:l.most=aa n) (F:d.params.defaults=[])(call:∀(w:aJ) (c b:ao) (s v:Str->Option ah) (j:ae) (o:Obj) (u t h:ah) (a:ae) (i:List ah) (p:List Int),Ground q g [] XP w c s v b.heap->C w b.heap -> b.heap.get? j=aa o->o.data=.func (docDef d.name d.params d.body d.scope u t h)->b.heap.CodeRec t d.name->s d.name=aa (.ref j) -> b.heap.get? a=aa {cls:=.type "list",data:=.seq i.toArray}->IntsAre i p->p.length<=n->b.gens=#[] -> lA (ax l.prog w) tj (.call (.ref j) ⟨[.ref a],[]⟩) (λr m=>r=.ok (.ret (.bool ai))/\OldK b.heap m.heap/\m.os=b.os/\nG m.gens) b):WalkO q g XP C l.row.toRowW d [] (λf i=>PySem.call f i):=by intro w c b s v G Y j o u t h dV kV I N T A D M B y as E z o9 x Z;obtain rfl:dV=.none:=Dflts.none A F;obtain rfl:kV=.none:=Dflts.noKw A;obtain⟨a,i,p,rfl,rfl,W,X,S⟩:=TY J E x;refine enter_call (qt (call w c b s v j o u t h a i p G Y I (fd_plain N) T D W X S M) λr m H=>?_);obtain⟨rfl,Q,P,O⟩:=H;exact⟨.inl ⟨.bool ai,.bool ai,[],rfl,λ_=>rfl,.bool ai,Qd l _,λ_=>⟨List.Pairwise.nil,λ_ L=>(nomatch L)⟩⟩,Q,P,O⟩
end Att
namespace L2
theorem wZ:∀{a:List ah}{b:List Int},IntsAre a b->bt (b.map V.int) a
 |_,_,.nil=>.nil
 |_,_,.cons n t h=>.cons ⟨t,rfl⟩ (wZ h)
noncomputable def BD(H:Hp):Prop:=∀b,H b=ac\/(∃o xs,H b=aa (.frz o (.lst xs)))\/∃q,H b=aa (.tbl q)
noncomputable def jQ(K:ay):Hp:=λb=>match qp K "least_ending" with
 |some (_,P)=>if b=P then aa (.tbl "least_ending.<locals>.<lambda>")else ac
 |none=>ac
theorem pO{K:ay}(h:jQ K b=aa u):u=.tbl "least_ending.<locals>.<lambda>"/\∃c,qp K "least_ending"=aa (c,b):=by
 unfold jQ at h
 grind
theorem E9{K:ay}(h:qp K "least_ending"=aa (c,P)):jQ K P=aa (.tbl "least_ending.<locals>.<lambda>"):=by unfold jQ;rw[h];exact if_pos rfl
noncomputable def Ex(K:ay)(h:aA):Prop:=∀c P,qp K "least_ending"=aa (c,P)->PySem.W.codeHdIn K c P=ai/\K.lookup P=ac/\h.get? P=aa {cls:=.none,data:=.fields #[]}
theorem P0{K:ay}{I:Str->Option ah}{k:Nat}{fd:ii}{x:Str}{sp:Sp}{f:ao}{G:List ah}{J:List Int}(KX:K.In f.heap) (t6:f.heap.Ns b7 I) (i:f.heap.Ns qo mb) (hbb:∀x:Str,x≠"__name__"->mb x=d_ x) (M:f.heap.NoLimit) (hbm:∃C y,I "__builtins__"=aa (.ref C)/\C≠qo/\f.heap.get? C=aa y/\y.cls=.type "module"/\y.dict=aa qo/\y.data=.plain) (A:Ex K f.heap) (hg:f.gens=#[])(E:f.heap.get? a=aa {cls:=.type "list",data:=.seq G.toArray}) (hi:IntsAre G J) (hl:J.length<=bd) (hr:fg k tj)(F:∀p:aA,K.In p->p.Ns b7 I->kU P w K I p CX k fa fd [x] sp) (UK:∀(s:ao) (u:ah),BindsTo s fd ⟨[u],[]⟩ [(x,u)])(ip:∀H:Hp,BD H->b_ K H a (J.map V.int)->sp [.ref a] H (λv _=>v=.bl ai) λ_ _ _=>False)(hCX:∀H e l,CX [] H f (λ_ _ _=>False) e l->False):lA (ax P w) tj (.call (.ref fa) ⟨[.ref a],[]⟩) (λr l=>r=.ok (.ret (.bool ai))/\OldK f.heap l.heap/\l.os=f.os/\nG l.gens) f:=by
 have rv:=wZ hi;have L:=hi.length;have B:∀H:Hp,BD H->b_ K H a (J.map V.int)->cV P w H f.heap->(∀b,H b≠ac->b=a\/∃c,qp K "least_ending"=aa (c,b))->(H a≠ac->K.lookup a=ac)->wX K H ->
   lA (ax P w) tj (.call (.ref fa) ⟨[.ref a],[]⟩) (λr l=>r=.ok (.ret (.bool ai))/\OldK f.heap l.heap/\l.os=f.os/\nG l.gens) f:=by
  intro H hO hS D S hK hTH;have g:∀{b:ae}{o:Obj},f.heap.get? b=aa o->H b=ac->(ng f.heap H).get? b=aa o:=λe n=>OQ e n;have Z:∀{b:ae}{o:Obj}{T:Array DictEntry}{W:Nat},f.heap.get? b=aa o->o.data=.dict T W->H b=ac:=λ{b o T W} e d=>by
   cases q:H b with
   |none=>rfl
   |some u=>
    rcases S b (by rw[q];simp)with j|⟨c,j⟩
    .lia
    .rw[(A c b j).2.2]at e;lia
  have t:∀{b:ae}{m:Str->Option ah},f.heap.Ns b m->(ng f.heap H).Ns b m:=λ{b m} ⟨o,T,W,e,d,r⟩=>⟨o,T,W,g e (Z e d),d,r⟩
  have N:K.In (ng f.heap H):=λb o e=>g (KX b o e) (by
   cases q:H b with
   |none=>rfl
   |some u=>
    rcases S b (by rw[q];simp)with j|⟨c,j⟩
    .lia
    .rw[(A c b j).2.1]at e;cases e)
  have hM:Mod K I (ng f.heap H):=⟨N,t t6,⟨mb,t i,hbb⟩,(let ⟨mc,h1,h2⟩:=M;⟨mc,t h1,h2⟩),by
   obtain⟨C,y,b1,b2,b3,b4,b5,b6⟩:=hbm;refine⟨C,y,b1,b2,g b3 ?_,b4,b5,b6⟩;cases q:H C with
   |none=>rfl
   |some u=>
    rcases S C (by rw[q];simp)with j|⟨c,j⟩
    .lia
    .rw[(A c C j).2.2]at b3;lia⟩
  have e0:rQ P w K I (ng f.heap H) tj [] f H:=⟨rfl,hM,λb o e=>Uu e,oZ (Kn _ _),trivial,λb i=>absurd (show b∈([]:List ae)from i) (by simp),D,.of_eq hg,hTH⟩
  refine qt ((F _ N (t t6)).run tj [] f H ⟨[.ref a],[]⟩ [.ref a] [.ref a] _ _ hr e0 (UK f (.ref a)) (.cons rfl .nil) (ip H hO hS)) λr l h=>?_;cases r with
  |error e=>exact(hCX H e l h).elim
  |ok fl=>
   cases fl with
   |next=>trivial
   |brk=>trivial
   |cont=>trivial
   |ret u=>
    obtain⟨v,H',os,Q,un,J7,r',q⟩:=h;have q':v=.bl ai:=q;subst q';obtain rfl:u=Value.bool ai:=r';refine⟨rfl,⟨λb o e=>?_,λb o e=>un.there b o e (by simp)⟩,os,Q⟩;cases q:H b with
    |none=>exact .inl (un.keep b o e q (by intro z;trivial) (by simp))
    |some u=>
     rcases hO b with z|⟨y,xs,z⟩|⟨qn,z⟩
     .lia
     .have z2:=un.frzs b y _ z;obtain⟨O,_⟩:=D b _ z;obtain⟨e2,_⟩:=J7 b _ z2;rw[e]at O;cases O;exact .inl e2
     .rcases S b (by rw[q];simp)with j|⟨c,j⟩
      .subst j;obtain⟨ps,O,_⟩:=D b _ z;lia
      .obtain⟨k1,k2,k3⟩:=A c b j;rw[k3]at e;cases e;obtain⟨oc,X,_,_,_,_,_,_,_,f1,f2,f3,f4,_⟩:=PySem.W.codeHd_of_K KX k1;obtain⟨ps,O,_⟩:=J7 b _ (un.tbls b _ z).1;exact .inr (.inl ⟨⟨c,oc,X,f1,f2,f3,f4⟩,rfl,#[],ps,rfl,by rw[O];simp⟩)
 cases hk:K.lookup a with
 |some o=>
  have e:=KX a o hk;rw[E]at e;cases e;have tH:∀b u,jQ K b=aa u->cf P w (jQ K) f.heap b u:=λb u z=>by
   obtain⟨rfl,c,e⟩:=pO z;exact⟨#[],(A c b e).2.2,trivial,λY cv h=>by cases h⟩
  refine B (jQ K) (λb=>?_) (.inr ⟨_,G.toArray,_,hk,rfl,rfl,rfl,by rw[dW,L];trivial,by trivial⟩) tH (λb z=>?_) (λz=>?_) λx hx c P e=>?_
  .cases q:jQ K b with
   |none=>exact .inl rfl
   |some u=>exact .inr (.inr ⟨_,congrArg aa (pO q).1⟩)
  .cases q:jQ K b with
   |none=>trivial
   |some u=>exact .inr (pO q).2
  .cases q:jQ K a with
   |none=>trivial
   |some u=>
    obtain⟨_,c,j⟩:=pO q;rw[(A c a j).2.2]at E;cases E
  .obtain rfl:x = "least_ending":=by simpa[B3]using hx
   exact E9 e
 |none=>
  have ta:∀c P,qp K "least_ending"=aa (c,P)->P≠a:=λc P e z=>by subst z;rw[(A c P e).2.2]at E;cases E
  refine B (λb=>if b=a then aa (.frz {cls:=.type "list",data:=.seq G.toArray} (.lst (J.map V.int)))else jQ K b) (λb=>?_) (.inl (.inr ⟨{cls:=.type "list",data:=.seq G.toArray},if_pos rfl⟩)) (λb u z=>?_) (λb z=>?_) (λ_=>hk) λx hx c P e=>?_
  .by_cases i:b=a
   .exact .inr (.inl ⟨_,_,if_pos i⟩)
   .cases q:jQ K b with
    |none=>exact .inl ((if_neg i).trans q)
    |some u=>exact .inr (.inr ⟨_,(if_neg i).trans (q.trans (congrArg aa (pO q).1))⟩)
  .by_cases i:b=a
   .have z':=(if_pos i).symm.trans z;cases z';subst i;exact⟨E,by rw[cX];trivial,G,_,rv,E⟩
   .obtain⟨rfl,c,e⟩:=pO ((if_neg i).symm.trans z);exact⟨#[],(A c b e).2.2,trivial,λY cv h=>by cases h⟩
  .by_cases i:b=a
   .exact .inl i
   .cases q:jQ K b with
    |none=>exact absurd ((if_neg i).trans q) z
    |some u=>exact .inr (pO q).2
  .obtain rfl:x = "least_ending":=by simpa[B3]using hx
   exact(if_neg (ta c P e)).trans (E9 e)
theorem Vh{l:CG}{XP:(Str->Option ah)->aA->Prop}{D:aJ->aA->Prop}{d:DefRec}{K:Params->ay}{CX:aJ->fN}{sp:aJ->Sp}{x:Str}(N:l.most=aa n) (r:n<=bd) (J:d.params.defaults=[]) (M:fg k tj)(B:∀(w:aJ) (h:aA),D w h->(K w.params).In h/\Ex (K w.params) h)(F:∀(w:aJ) (g:Str->Option ah) (m:ae) (h:aA),(K w.params).In h->h.Ns b7 g->g d.name=aa (.ref m) -> ∃y:ii,(∀(s:ao) (u:ah),BindsTo s y ⟨[u],[]⟩ [(x,u)]) /\ ∀b:aA,(K w.params).In b->b.Ns b7 g->kU l.prog w (K w.params) g b (CX w) k m y [x] (sp w))(L:∀(w:aJ) (H:Hp) (a:ae) (j:List Int),j.length<=n->BD H->b_ (K w.params) H a (j.map V.int)->sp w [.ref a] H (λv _=>v=.bl ai) λ_ _ _=>False)(t:∀(w:aJ) (H:Hp) (s:ao) (e:ah) (p:ao),CX w [] H s (λ_ _ _=>False) e p->False):PySem.W.WalkO q c XP D l.row.toRowW d [] (λf z=>PySem.call f z):=by refine Att.attach_call N J λw A i g mb m o pm cd W a z j G Y ho hd bf I X Z C O=>?_;have E:=(B w _ Y).1;obtain⟨y,P,T⟩:=F w g m _ E G.T.g I;exact P0 E G.T.g G.T.b G.T.builtins G.T.nolimit G.T.bmain (B w _ Y).2 O X Z (bT C r) M T P (λH S Q=>L w H a j C S Q) λH e p=>t w H i e p
noncomputable def jz(s:bb):Arguments:=match s with
 |.FunctionDef _ a _ _ _ _ _ _ _ _=>a
 |_=>{posonlyargs:=[],args:=[],vararg:=ac,kwonlyargs:=[],kw_defaults:=[],kwarg:=ac,defaults:=[]}
noncomputable def fD(s:bb):List bb:=match s with
 |.FunctionDef _ _ b _ _ _ _ _ _ _=>b
 |_=>[]
noncomputable def bj(s:bb):dG:=match s with
 |.FunctionDef _ _ _ _ _ _ a _ _ _=>a
 |_=>{kind:=.function,names:=[],isGenerator:=am,isCoroutine:=am}
noncomputable abbrev Ar:fN:=λ_ _ _ _ _ _=>False
noncomputable abbrev E0:XK:=λ_ _ _=>False
structure pG(K:ay)(x qual:Str)(st:bb)(f:ae)(fd:ii):Prop where
 ex:∃(oc:ah) (od:Option ae) (kV doc pm:ah) (an:Option ae) (aP ct:ah) (osl:Array (Option ah)),
  fd=iI x qual (jz st) (fD st) (bj st) .none kV doc pm an aP ct/\K.lookup f=aa ⟨oc,od,.func fd,osl⟩/\vG K aP qual=ai
 kp:qu K (.ref f)=ai
section
variable{P:aS}{w:aJ}{K:ay}{b:Str->Option ah}{a:aA}
theorem pG.binds{g:bb}{p:ii}{j:List Str}(F:pG K x c g f p)(h:∀(kV d l:ah) (n:Option ae) (o m:ah) (i:List ah),i.length=j.length->fY (iI x c (jz g) (fD g) (bj g) .none kV d l n o m) ⟨i,[]⟩=pure (j.zip i)):Binds K p j []:=by obtain⟨oc,r,kV,d,l,n,o,m,q,rfl,s,t⟩:=F.ex;exact .all (h kV d l n o m)
theorem Hv{g:bb}{oc:ah}{p o:Option ae}{i:Array (Option ah)}{kV h m j n:ah}(l:K.lookup f=aa ⟨oc,p,.func (iI x d (jz g) (fD g) (bj g) .none kV h m o j n),i⟩)(c:vG K j d=ai) (k:qu K (.ref f)=ai):pG K x d g f (iI x d (jz g) (fD g) (bj g) .none kV h m o j n):=⟨⟨oc,p,kV,h,m,o,j,n,i,rfl,l,c⟩,k⟩
end
theorem Rp(h:n<=1000):n<bd:=tm h (by decide)
section
variable{X:Cx}
theorem pv(i:Nat)(d:X.N[i]?=aa x:=by rfl)(b:dr X.env.scope x:=by eq_refl)(c:ap x:=by decide)(f:aO x:=by decide):PE X (.Name x a) (yx i):=eJ d b c f
theorem Nj:dq X (.builtin "len") (λxs H Q=>∃a b,xs=[V.ref a]/\H a=aa (.dK b)/\Q (.int b.length) H):=by
 intro l s g H xs i Q I r h;obtain⟨a,b,rfl,d,q⟩:=h;obtain⟨u,rfl,c⟩:=vals1 r;cases c;exact Su I (.inl d) λt j f=>⟨.int b.length,H,f,⟨t,rfl⟩,q⟩
end
theorem oB{B:Prop}(h:B):if am=ai then A else B:=∅
theorem oH{B:Prop}(h:A):if ai=ai then A else B:=∅
noncomputable def Same(H a:Hp):Prop:=∀b o,H b=aa o->a b=aa o
theorem Same.refl(H:Hp):Same H H:=λ_ _ h=>h
theorem Same.trans(a:Same H f)(b:Same f d):Same H d:=λc o h=>b c o (a c o h)
theorem Same.free(e:Same H a)(h:a l=Option.none):H l=Option.none:=by
 cases q:H l with
 |none=>rfl
 |some o=>
  rw[e l o q]at h;cases h
end L2
set_option maxHeartbeats 4000000
namespace L2
noncomputable def iA(a:Env):List (Str×gK)->List (Str×ae)->List (Str×ae)
 |[],b=>b
 | (n,k)::r,b=>if k == .free then iA a r ((n,(a.cells.lookup n).getD 0)::b)else iA a r b
theorem SO{d:Env}(b:List (Str×gK))(f:List (Str×ae))(g:∀x∈b,x.2=.free->∃c,d.cells.lookup x.1=aa c)(h:(iA d b f).lookup y=aa c):f.lookup y=aa c\/d.cells.lookup y=aa c:=by
 induction b generalizing f with
 |nil=>exact .inl h
 |cons a r i=>
  obtain⟨n,k⟩:=a;unfold iA at h;have l:∀x∈r,x.2=.free->∃c,d.cells.lookup x.1=aa c:=λx j=>g x (fE _ j);split at h
  .rename_i m;obtain⟨p,o⟩:=g (n,k) (i4 ..) (~~~m)
   grind
  .exact i _ l h
theorem Hn{a:Type}{v:a}{l:List (Str×a)}:((n,v)::l).lookup n=aa v:=by simp
theorem GO{a:Type}{v:a}{l:List (Str×a)}(h:∃c,l.lookup y=aa c):∃c,((n,v)::l).lookup y=aa c:=by
 grind
theorem Bf:∀(a:List (Str×gK)) (b:List (Str×ae)),(∃c,b.lookup y=aa c)->∃c,(iA d a b).lookup y=aa c
 |[],b,h=>h
 | (n,k)::r,b,h=>by
  unfold iA;split
  .exact Bf r _ (GO h)
  .exact Bf r _ h
theorem zz:∀(a:List (Str×gK)) (i:List (Str×ae)),(∃x∈a,x.1=y/\x.2=.free)->∃c,(iA g a i).lookup y=aa c
 |[],i,⟨_,h,_⟩=>by simp at h
 | (n,k)::r,i,⟨x,b,f,d⟩=>by
  unfold iA;rcases bQ.mp b with e|b
  .subst e;simp only at f d;subst f d;simp only[beq_self_eq_true,if_true];exact Bf r _ ⟨_,Hn⟩
  .split
   .exact zz r _ ⟨x,b,f,d⟩
   .exact zz r _ ⟨x,b,f,d⟩
theorem BA{b:Env}:∀(a:List (Str×gK)) (g:List (Str×ae)),(∀x∈a,x.2=.free->∃c,b.cells.lookup x.1=aa c) -> (forIn (m:=Sem) a g λx r=>match x with | (d,f)=>if(f == NameKind.free)=ai then do let c <-cellOf b d;pure (ForInStep.yield ((d,c)::r))else pure (ForInStep.yield r))=pure (iA b a g)
 |[],g,_=>rfl
 | (n,k)::r,g,h=>by
  have j:∀x∈r,x.2=.free->∃c,b.cells.lookup x.1=aa c:=λx o=>h x (fE _ o);rw[List.forIn_cons];unfold iA;by_cases i:(k == NameKind.free)=ai
  .obtain⟨c,l⟩:=h (n,k) (i4 ..) (~~~i);simp only[i,if_true];have e:cellOf b n=pure c:=by unfold cellOf;rw[l]
   rw[e];simp only[pure_bind];rw[BA r _ j,l];rfl
  .simp only[i,if_false,pure_bind];exact BA r _ j
theorem Tl{a:dG}{b:Env}(h:∀x∈a.names,x.2=.free->∃c,b.cells.lookup x.1=aa c):closureFor a b=pure (iA b a.names []):=by unfold closureFor;have q:=BA a.names [] h;simp only[bind_pure_comp]at q ⊢;rw[q];rfl
theorem yB(b:n+1<=c)(a:c<n):False:=∅
theorem zK:∀(c:List (Str×gK)) (n:Nat) (a b:List (Str×ae)),fF n c (a++b)=fF n c a++b
 |[],_,_,_=>rfl
 | (x,k)::r,n,a,b=>by
  unfold fF;split
  .exact zK r (n+1) ((x,n)::a) b
  .exact zK r n a b
theorem xi:∀(b:List (Str×gK)) (n:Nat) (a:List (Str×ae)),(y,c)∈fF n b a->(y,c)∈a\/(y,.cell)∈b
 |[],_,_,h=>.inl h
 | (x,k)::r,n,a,h=>by
  unfold fF at h;split at h
  .rename_i d;rcases xi r _ _ h with z|z
   all_goals grind
  .rcases xi r _ _ h with z|z
   all_goals simp_all
theorem BY:∀(b:List (Str×gK)) (n:Nat) (a:List (Str×ae)),(∃c,a.lookup y=aa c)->∃c,(fF n b a).lookup y=aa c
 |[],_,_,h=>h
 | (x,k)::r,n,a,h=>by
  unfold fF;split
  .exact BY r _ _ (GO h)
  .exact BY r _ _ h
theorem yN:∀(b:List (Str×gK)) (n:Nat) (a:List (Str×ae)),(y,.cell)∈b->∃c,(fF n b a).lookup y=aa c
 | (x,k)::r,n,a,h=>by
  unfold fF;rcases bQ.mp h with e|h
  .cases e;exact BY r _ _ ⟨_,Hn⟩
  .split
   .exact yN r _ _ h
   .exact yN r _ _ h
noncomputable def lV(X:Cx)(a:dG)(C:ae):List (Str×ae):=fF (C+1) a.names (iA X.env a.names [])
theorem A9(X:Cx)(a:dG)(C:ae):lV X a C=fF (C+1) a.names []++iA X.env a.names []:=zK a.names (C+1) [] _
theorem Pl{s:ao}(j:Q (newEnv a s.heap.objs.size b (fF (s.heap.objs.size+1) a.names i) c ac .none (aa d) qo) {s with heap:=pushCells (s.heap.push {cls:=.type "dict",data:=.dict #[]}) a.names}):au M A (newFunctionEnv a b i [] c ac .none (aa d)) Q E s:=by simp only[newFunctionEnv,Option.isSome_some,if_true];refine aq (wpAny_alloc ?_);refine aq (wpAny_layCells _ (λg h f=>∅) _ _ _ _ ?_);rw[show({s with heap:=s.heap.push {cls:=.type "dict",data:=.dict #[]}}:ao).heap.objs.size=s.heap.objs.size+1 from Heap.size_push ..];refine aq ?_;rw[List.forIn_nil];exact aE (aE j)
theorem FC{s:ao}(h:(y,c)∈fF (s.heap.objs.size+1) a []):(pushCells (s.heap.push {cls:=.type "dict",data:=.dict #[]}) a).IsCell c ac/\s.heap.objs.size+1<=c/\∀z,(z,c)∈fF (s.heap.objs.size+1) a []->y=z:=by have ok:=cellsFrom_ok a (s.heap.push {cls:=.type "dict",data:=.dict #[]}) (s.heap.objs.size+1) [] ⟨λ_ _ d=>(nomatch d),List.Pairwise.nil⟩ (by simp);rw[Heap.size_push]at ok;exact⟨(ok.empty y c h).1,(ok.empty y c h).2,λz b=>name_of_addr ok.apart h b⟩
noncomputable def cc(X:Cx)(a:dG)(b:List Str)(C:ae)(s₀:ao)(H₀:Hp)(ex:List ae)(pn:List (ae×Obj)):Cx where
 prog:=X.prog
 w:=X.w
 K:=X.K
 mg:=X.mg
 base:=X.base
 A:=X.A
 N:=b
 s₀:=s₀
 H₀:=H₀
 env:=compEnvC a (lV X a C) C X.env
 outer:=X.stack
 stack:=X.stack
 ex:=ex
 fn:=λy=>a.names.lookup y == aa .cell
 calm:=X.calm
 pn:=X.pn++pn
 xe:=λ_ _=>False
noncomputable def gB(b:St)(a:List Nat):St:=a.map λi=>(b[i]?).join
structure iy(X:Cx)(scope:dG)(x:Str)(N':List Str)(cap:List Nat):Prop where
 kind:scope.kind=.function
 cells:∀y∈scope.names,y.2=.cell->scope.names.lookup y.1=aa .cell
 names:∀y∈scope.names,y.2=.local->scope.names.lookup y.1=aa .local
 loc:scope.names.lookup x=aa .local\/scope.names.lookup x=aa .cell
 free:∀y∈scope.names,y.2=.free->X.env.kindOf y.1=aa .cell\/X.env.kindOf y.1=aa .free
 nd:N'.Nodup
 hd:N'.head?=aa x
 len:N'.length=cap.length+1
 caps:∀i j y,N'[i+1]?=aa y->cap[i]?=aa j->(X.N[j]?=aa y/\scope.names.lookup y=aa .free)\/(X.N.length<=j/\scope.names.lookup y=aa .local)
theorem Ql{a:List (Str×gK)}(h:a.lookup y=aa k):∃x∈a,x.1=y/\x.2=k:=⟨(y,k),lB h,rfl,rfl⟩
theorem AA{a:Env}:∀{b:List (Str×gK)}{k:gK}, (b.map λ(n,k)=>if(k == NameKind.free&&a.scope.kind == .function&&a.kindOf n == aa .cell)then(n,NameKind.cell)else(n,k)).lookup x=aa k -> ∃d,b.lookup x=aa d/\(k=d\/(d=.free/\k=.cell))
 |[],_,h=>by trivial
 | (n,c)::r,k,h=>by
  change CH x ((if(c == NameKind.free&&a.scope.kind == .function&&a.kindOf n == aa .cell)=ai then(n,NameKind.cell)else(n,c))::_)=_ at h;rw[nO];by_cases f:(c == NameKind.free&&a.scope.kind == .function&&a.kindOf n == aa .cell)=ai
  .rw[if_pos f,nO]at h;split at h
   .simp_all
   .exact AA h
  .rw[if_neg f,nO]at h;split at h
   .simp_all
   .exact AA h
theorem B4{a:Env}:∀{b:List (Str×gK)},b.lookup x=aa .free -> let q:=(b.map λ(n,k)=>if(k == NameKind.free&&a.scope.kind == .function&&a.kindOf n == aa .cell)then(n,NameKind.cell)else(n,k)).lookup x
  q=aa .cell\/q=aa .free
 |[],h=>by trivial
 | (n,c)::r,h=>by
  show CH x ((if(c == NameKind.free&&a.scope.kind == .function&&a.kindOf n == aa .cell)=ai then(n,NameKind.cell)else(n,c))::_)=_\/CH x ((if(c == NameKind.free&&a.scope.kind == .function&&a.kindOf n == aa .cell)=ai then(n,NameKind.cell)else(n,c))::_)=_;rw[nO]at h;by_cases f:(c == NameKind.free&&a.scope.kind == .function&&a.kindOf n == aa .cell)=ai
  .rw[if_pos f,nO];cases d:x == n with
   |true=>exact .inl rfl
   |false=>rw[d]at h;exact B4 h
  .rw[if_neg f,nO];cases d:x == n with
   |true=>simp_all
   |false=>rw[d]at h;exact B4 h
theorem AB{a:Env}:∀{b:List (Str×gK)},b.lookup x=aa .cell -> (b.map λ(n,k)=>if(k == NameKind.free&&a.scope.kind == .function&&a.kindOf n == aa .cell)then(n,NameKind.cell)else(n,k)).lookup x=aa .cell
 |[],h=>by trivial
 | (n,c)::r,h=>by
  show CH x ((if(c == NameKind.free&&a.scope.kind == .function&&a.kindOf n == aa .cell)=ai then(n,NameKind.cell)else(n,c))::_)=_;rw[nO]at h;by_cases f:(c == NameKind.free&&a.scope.kind == .function&&a.kindOf n == aa .cell)=ai
  .rw[if_pos f,nO];cases d:x == n with
   |true=>rfl
   |false=>rw[d]at h;exact AB h
  .rw[if_neg f,nO];cases d:x == n with
   |true=>simp_all
   |false=>rw[d]at h;exact AB h
section
variable{s:ao}{f:dG}
theorem Inv.freeHas(I:Inv X w t H s)(B:iy X f x A g):∀y∈f.names,y.2=.free->∃c,X.env.cells.lookup y.1=aa c:=λy a e=>I.ok.has y.1 (B.free y a e)
theorem Inv.clIn(I:Inv X w t H s)(B:iy X f x A g)(h:(iA X.env f.names []).lookup y=aa c):X.env.cells.lookup y=aa c:=by
 rcases SO f.names [] (I.freeHas B) h with q|q
 all_goals trivial
theorem Inv.cbIn(I:Inv X w t H s)(B:iy X f x A g)(h:(lV X f C).lookup y=aa c):((y,c)∈fF (C+1) f.names []/\f.names.lookup y=aa .cell)\/((iA X.env f.names []).lookup y=aa c/\X.env.cells.lookup y=aa c):=by
 rw[A9,Jk]at h;cases e:(fF (C+1) f.names []).lookup y with
 |none=>rw[e]at h;exact .inr ⟨h,I.clIn B h⟩
 |some a=>
  rw[e]at h;cases h;have m:=lB e;rcases xi _ _ _ m with z|z
  .cases z
  .exact .inl ⟨m,B.cells _ z rfl⟩
theorem Inv.cbOld(I:Inv X w t H s)(B:iy X f x A g)(h:(iA X.env f.names []).lookup y=aa c)(a:f.names.lookup y=aa .free):(lV X f C).lookup y=aa c:=by
 rw[A9,Jk];cases e:(fF (C+1) f.names []).lookup y with
 |none=>exact h
 |some b=>
  rcases xi _ _ _ (lB e)with z|z
  .cases z
  .have:=B.cells _ z rfl;lia
theorem Inv.block(hh:D=pushCells (s.heap.push {cls:=.type "dict",data:=.dict #[]}) f.names)(I:Inv X w t H s)(B:iy X f x A g)(T:∀b∈fp,lp X w H b)(Z:∀b∈fp,∃o,s.heap.get? b=aa o)(t6:D.Ns s.heap.objs.size m)(E:∀b o,s.heap.get? b=aa o->D.get? b=aa o):Inv (cc X f A s.heap.objs.size s H fp w) [] (ac::gB t g) H {s with heap:=D,toks:=t'}:=by
 have N:∀x c,X.env.cells.lookup x=aa c->c<s.heap.objs.size:=λx c e=>(I.cell x c e).elim λv q=>q.lt;have C:∀{y:Str}{c:ae},(y,c)∈fF (s.heap.objs.size+1) f.names []->D.IsCell c ac/\s.heap.objs.size+1<=c/\∀z,(z,c)∈fF (s.heap.objs.size+1) f.names []->y=z:=λh=>by rw[hh];exact FC h
 have lk:∀y k,(compEnvC f (lV X f s.heap.objs.size) s.heap.objs.size X.env).kindOf y=aa k->∃P,f.names.lookup y=aa P/\(k=P\/(P=.free/\k=.cell)):=λy k h=>AA h;have G:∀y,f.names.lookup y=aa .free->∃c,(iA X.env f.names []).lookup y=aa c:=λy h=>zz f.names [] (Ql h);have nfs:∀b∈fc X.stack,b≠s.heap.objs.size:=λb F e=>by
  rcases bQ.mp (I.stkSub b F)with z|z
  .exact absurd I.lt ⋯
  .exact I.nofs (oZ e.symm) z
 refine⟨⟨I.ok.mod,B.kind,I.ok.glob,I.ok.blt,bc _,λy z c h1 h2=>?_,λy Q=>?_,λy c h n5=>?_,I.ok.hd,I.ok.frames,.inl rfl,λb F=>?_,λb o e=>I.bs b o e,bT I.ok.bsz I.sz,λb o e F=>?_,λb F hf=>?_,I.stack,(λb F=>I.stkFree b F),I.tab⟩,rfl,I.bare,Un.kept E,⟨m,t6,λi y v e1 S e3=>?_⟩,λy c h=>?_,I.hok.fresh (bc _),λy c h=>?_,λp hp=>?_,I.hok.kept E,?_⟩
 .-- inj
  rcases I.cbIn B h1 with⟨a1,a2⟩|⟨a1,a2⟩ <;> rcases I.cbIn B h2 with⟨b1,b2⟩|⟨b1,b2⟩
  .exact(C a1).2.2 z b1
  .exact(yB (C a1).2.1 (N _ _ b2)).elim
  .exact(yB (C b1).2.1 (N _ _ a2)).elim
  .exact I.ok.inj y z c a2 b2
 .-- has
  show ∃c,(lV X f s.heap.objs.size).lookup y=aa c;have mC:f.names.lookup y=aa .free->∃c,(lV X f s.heap.objs.size).lookup y=aa c:=λq=>(G y q).imp λc hc=>I.cbOld B hc q;rcases Q with Q|Q
  .obtain⟨P,q,z|⟨z,_⟩⟩:=lk y _ Q
   .subst z;exact yN _ _ _ (lB q)
   .subst z;exact mC q
  .obtain⟨P,q,z|⟨_,z⟩⟩:=lk y _ Q
   .subst z;exact mC q
   trivial
 .-- cab
  have hk:f.names.lookup y=aa .cell:=by simpa using(show(f.names.lookup y == aa .cell)=ai from h)
  show s.heap.objs.size<=c;rcases I.cbIn B n5 with⟨a1,a2⟩|⟨a1,a2⟩
  .have:=(C a1).2.1;ac_rfl
  .obtain⟨c',O⟩:=yN (n:=s.heap.objs.size+1) (a:=[]) _ (lB hk);have e:(lV X f s.heap.objs.size).lookup y=aa c':=by rw[A9,Jk,O];rfl
   have S:(lV X f s.heap.objs.size).lookup y=aa c:=n5;rw[e]at S;cases S;have:=(C (lB O)).2.1;ac_rfl
 .-- exf
  obtain⟨f0,f1,f2,f3,f4,f5⟩:=T b F;obtain⟨o,J⟩:=Z b F;refine⟨λe=>absurd (bC J) (by rw[e];exact lr _),λy c h=>?_⟩;rcases I.cbIn B h with⟨a1,a2⟩|⟨a1,a2⟩
  .rintro rfl;exact yB (C a1).2.1 (bC J)
  .exact f4 y c a2
 .-- noex
  obtain⟨f0,f1,f2,f3,f4,f5⟩:=T b F;rcases f3 with z|z
  .exact I.ok.noex b o e z
  .exact absurd (gH (bC e) (bT I.ok.bsz z)) (lr _)
 .-- exfs
  obtain⟨f0,f1,f2,f3,f4,f5⟩:=T b F;rcases bQ.mp (I.stkSub b hf)with z|z
  all_goals lia
 .-- loc
  cases i with
  |zero=>simp at S
  |succ i=>
   have L:(gB t g)[i]?=aa (aa v):=by trivial
   unfold gB at L;rw[jl]at L;cases Y:g[i]? with
   |none=>rw[Y]at L;trivial
   |some j=>
    rw[Y]at L;have e4:(t[j]?).join=aa v:=i5 L;have e5:t[j]?=aa (aa v):=by
     cases hq:t[j]? with
     |none=>rw[hq]at e4;trivial
     |some o=>rw[hq]at e4;exact congrArg aa e4
    obtain⟨b1,b2⟩:=(B.caps i j y e1 Y).elim id λz=>by have:=(c_.mp e5).1;rw[I.len]at this;exact absurd this (Nat.not_lt.mpr z.1)
    obtain⟨mm,hn,hl⟩:=I.loc;have J0:=B.free _ (lB b2) rfl;have W:dr X.env.scope y:=by
     rcases J0 with z|z
     .exact .inr (.inl z)
     .exact .inr (.inr z)
    obtain⟨u,r,l⟩:=hl j y v b1 e5 W;refine⟨u,r,.inr ⟨B4 b2,?_⟩⟩;rcases l with⟨l,_⟩|⟨_,c,hc,zk⟩
    .simp_all
    .obtain⟨c',O⟩:=G y b2;have e6:=I.clIn B O;rw[hc]at e6;cases e6;obtain⟨M,J,hd⟩:=zk;exact⟨c,I.cbOld B O b2,M,E c M J,hd⟩
 .rcases I.cbIn B h with⟨a1,a2⟩|⟨a1,a2⟩
  .exact⟨ac,(C a1).1⟩
  .obtain⟨v,M,J,hd⟩:=I.cell y c a2;exact⟨v,M,E c M J,hd⟩
 .rcases I.cbIn B h with⟨a1,a2⟩|⟨a1,a2⟩
  .exact I.hok.fresh (bT (CD _) (C a1).2.1)
  .exact I.freeC y c a2
 .have cY:p∈X.pn++w:=by simpa[cc]using hp
  obtain⟨e,n,ne,nf,d⟩:=I.pin p cY;refine⟨E _ _ e,n,dE (bC e),λhf=>?_,d⟩;rcases bQ.mp (I.stkSub p.1 hf)with z|z
  all_goals trivial
 .show(ac::gB t g).length=A.length;rw[B.len];simp[gB]
end
noncomputable def pR(X:Cx)(b:List aB)(t:TT):Prop :=
 ∀(d:List (ae×Obj)) (s:ao) (a:St) (H:Hp) (Q:Bool->Hp->Prop),Inv X d a H s->t a H Q ->
  au X.zz X.A (forIn b ai λc r=>if r=ai then do let ok <-nH c X.env (aQ c X.env);pure (ForInStep.yield ok)else pure (ForInStep.yield r)) (TP X d a Q) X.xe s
theorem Nr(J:Nat->ao->Prop)(o:∀k p,J k p->au (ax P w) A (pyNext u) (λr B=>match r with
   |none=>R (.ok .next) B
   |some v=>au (ax P w) A (Cq t u v) (λ_ F=>au (ax P w) A (oS t d v) (λ_ E=>au (ax P w) A (forIn l ai λc r=>if r=ai then do let ok <-nH c d (aQ c d);pure (ForInStep.yield ok)else pure (ForInStep.yield r)) (λb z=>if b=ai then au (ax P w) A (aQ m d) (λy D=>au (ax P w) A (call (.builtin "list.append") [n,y]) (λ_ C=>∃j,j<k/\J j C) (λ_ _=>False) D) (λ_ _=>False) z else ∃j,j<k/\J j z) (λ_ _=>False) E) (λ_ _=>False) F) (λ_ _=>False) B) (λ_ _=>False) p) (k:Nat) (h:J k s) :
  lA (ax P w) A (.compLoop (.ListComp m [⟨t,i,l,0⟩] g q) 0 u n d) R s:=by
 refine codeAny_loop rfl J (λj p I=>?_) k h;show au _ A (Sem.onRaise (compTurn (.ListComp m [⟨t,i,l,0⟩] g q) 0 u n d) (λx=>do yY x d;theTreesLotGoes x)) _ _ p;refine wpAny_noted ?_;rw[compTurn_list];have no:∀(Q:ah->ao->Prop) (a:ah) (b:ao),False->Q a b:=λ_ _ _ f=>f.elim;refine aq (wpAny_standAt (aq (eU (o j p I) (λr B H=>?_) (no _))));cases r with
 |none=>exact aE H
 |some v=>
  refine aq (eU H (λ_ F O=>aq (eU O (λ_ E N=>aq (eU N (λb z G=>?_) (no _))) (no _))) (no _));cases b with
  |true=>exact aq (aq (eU G (λy D M=>aq (eU M (λ_ C L=>aE (aE ⟨rfl,L⟩)) (no _))) (no _)))
  |false=>exact aE ⟨rfl,G⟩
noncomputable def MX:TT:=λ_ H Q=>Q ai H
theorem N7:pR X [] MX:=λ_ _ _ H _ I h=>wpAny_tests_nil ⟨H,I,h⟩
theorem IM(h:PT X c t):pR X [c] t:=λd s a H Q I b=>wpAny_tests_one (h d s a H Q I b)
noncomputable def Ch(q:TI)(h:V->Hp->St->Prop)(k:Nat)(r:TT)(s:TE)(d:List Nat):TE:=λg H Q=>q g H λJ p=>∀l,p l=ac->∃W:Nat->Nat->List V->Hp->Prop,(∃m,W 0 m [] (upd p l (.lst [])))/\∀i m a H,W i m a H ->
 (J.stop i H/\Q (.ref l) H)\/(J.go i H/\∀v j,J.yld i H v j->∃f,f.length=k+1/\h v j f/\r (f++(gB g d).drop k) j λb o=>if b=ai then s (f++(gB g d).drop k) o λy n=>n l=aa (.lst a)/\a.length<bd/\∃c,c<m/\W (i+1) c (a++[y]) (upd n l (.lst (a++[y]))) else ∃c,c<m/\W (i+1) c a o)
noncomputable def IL:V->Hp->St->Prop:=λv _ a=>a=[aa v]
noncomputable abbrev Cg(b:TI)(c:TT)(d:TE)(a:List Nat):TE:=Ch b IL 0 c d a
section
theorem Inv.unblock(I:Inv X t w H s)(D:∀b∈p,lp X t H b)(a:Inv (cc X j l s.heap.objs.size s H p t) [] r i s') (F:kF s.heap.objs.size s'.heap h):Inv X t w i {s' with heap:=h}:=by
 have k:∀b o,b≠s.heap.objs.size->s'.heap.get? b=aa o->h.get? b=aa o:=λb o f e=>(F.2 b f).trans e;have y:∀b o,s.heap.get? b=aa o->b≠s.heap.objs.size:=λb o e=>dE (bC e);have un:Un (fc X.stack) p H i s.heap h:=by
  refine⟨λb o e n f d=>k b o (y b o e) (a.base.keep b o e n f d),λb o e n f d=>?_,λb o e n d=>a.base.free b o e n d,λb o e d=>?_,a.base.tups,a.base.frzs,λb q e=>⟨(a.base.tbls b q e).1,λc o C g=>⟨k c o (λz=>by grind) ((a.base.tbls b q e).2 c o C g).1,((a.base.tbls b q e).2 c o C g).2⟩⟩⟩
  .obtain⟨E,q⟩:=a.base.slot b o e n f d;exact⟨E,k b _ (y b o e) q⟩
  .obtain⟨B,q⟩:=a.base.there b o e d;exact⟨B,k b B (y b o e) q⟩
 have A:cV X.prog X.w i h:=λb u e=>by have G:i s.heap.objs.size=ac:=a.free;refine(a.hok b u e).stay (λc v J q=>k c v ?_ q) (λ_ q=>q) λ_ _ q=>q;lia
 refine I.call' (s':={s' with heap:=h}) (ch:=p) a.os un A a.bare λb f=>?_;obtain⟨N,M,f2,f3,f4,L⟩:=D b f;trivial
theorem HA(B:iy X j x l m)(hk:k<=m.length)(hc:X.calm=ai)(hi:PI X tg F wi)(cM:∀C E G ex pn,PG (cc X j l C E G ex pn) tg λv O H Q=>∃Y,Y.length=k+1/\O.length=l.length/\tgf v H Y/\Q (Y++O.drop (k+1)) H)(ht:∀C E G ex pn,pR (cc X j l C E G ex pn) ifs ts) (he:∀C E G ex pn,PE (cc X j l C E G ex pn) elt te) (hs:∀x,lw F X.env x=pure x) (I:Inv X t w H s) (h:Ch wi tgf k ts te m w H Qp)(fin:∀{g s6:ao}{P H5:Hp}{L σ5 a f},Inv X t w P g->(∀b∈L,lp X t P b)->Inv (cc X j l g.heap.objs.size g P L t) [] σ5 H5 s6->Qp (.ref a) H5->compPost X.zz X.A X.xe use Q (.ref a) g.heap.objs.size (.ok f) s6):au X.zz X.A (comprehension (.ListComp elt [⟨tg,F,ifs,0⟩] j pos) j X.env pos' (newList []) am (aQ F X.env) use) Q X.xe s:=by
 refine wpAny_comprehension_free (use:=use) rfl hs (Tl (I.freeHas B)) B.kind B.names (aR (hi t s w H _ I h) λv s1 h1=>aR h1 λitv D h2=>?_);obtain⟨it,L,tn,J,H2,e,I2,T,bM,f2,h2⟩:=h2;subst e;refine nL ?_;have I3:Inv X t w (upd H2 D.heap.objs.size (.lst [])) {D with heap:=D.heap.push {cls:=.type "list",data:=.seq ([]:List ah).toArray},toks:=D.toks}:=I2.lnew (its:=[]) (t':=D.toks) .nil (gn _);obtain⟨W,⟨m0,w0⟩,turn⟩:=h2 D.heap.objs.size I2.fresh;generalize hs3:({D with heap:=D.heap.push {cls:=.type "list",data:=.seq ([]:List ah).toArray},toks:=D.toks}:ao)=g at I3;have hs3':({D with heap:=D.heap.push {cls:=.type "list",data:=.seq ([]:List ah).toArray}}:ao)=g:=hs3;generalize hH3:upd H2 D.heap.objs.size (.lst [])=P at I3 w0;have nl:∀b∈L,b≠D.heap.objs.size:=λb A e=>by obtain⟨o,ho,_⟩:=T.obj _ _ bM b A;exact absurd (bC ho) (by rw[e];simp)
 have k3:∀b o,D.heap.get? b=aa o->g.heap.get? b=aa o:=λb o e=>by rw[<-hs3];exact bD _ e
 have f3:∀b∈L,lp X t P b:=λb A=>⟨by rw[<-hH3,bi (nl b A)];exact(f2 b A).1,(f2 b A).2⟩
 have dj:tn 0 g.heap:=T.keep _ _ _ bM λb _ o e=>k3 b o e;have fo3:∀b∈L,∃o,g.heap.get? b=aa o:=λb A=>(T.obj _ _ dj b A).imp λo q=>q.1;refine Pl ?_;generalize hh:pushCells (g.heap.push {cls:=.type "dict",data:=.dict #[]}) j.names=h₁;have old:∀b o,g.heap.get? b=aa o->h₁.get? b=aa o:=λb o e=>hh ▸ pushCells_keeps _ _ b o (bD _ e);have t6:h₁.Ns g.heap.objs.size (λ_=>ac):=hh ▸ (Heap.Ns.new g.heap (.type "dict")).keeps (pushCells_keeps _ _);have I4:=Inv.block (t':=g.toks) hh.symm I3 B f3 fo3 t6 old;have qT:tn 0 h₁:=T.keep _ _ _ dj λb _ o e=>old b o e;have M:∀{H':Hp},(∀b∈L,H' b=ac)->∀b∈L,lp (cc X j l g.heap.objs.size g P L t) [] H' b:=λhn b A=>by
  obtain⟨f0,f1,f2',f3',f4,f5⟩:=f3 b A;refine⟨hn b A,λe=>?_,λhf=>?_,.inl A,λy c h=>?_,λp hp=>f5 p (by simpa[cc]using hp)⟩
  .obtain⟨o,ho⟩:=fo3 b A;exact absurd (bC ho) (by rw[show b=g.heap.objs.size from e];simp)
  .rcases bQ.mp (I3.stkSub b hf)with z|z
   all_goals grind
  .rcases I3.cbIn B h with⟨a1,a2⟩|⟨a1,a2⟩
   .rintro rfl;obtain⟨o,ho⟩:=fo3 _ A;exact yB (FC a1).2.1 (bC ho)
   .exact f4 y c a2
 have Z:lA X.zz X.A (.compLoop (.ListComp elt [⟨tg,F,ifs,0⟩] j pos) 0 (.ref it) (.ref D.heap.objs.size) (compEnvC j (lV X j g.heap.objs.size) g.heap.objs.size X.env))
   (compPost X.zz X.A X.xe use Q (.ref D.heap.objs.size) g.heap.objs.size) {g with heap:=h₁,toks:=g.toks}:=by
  refine Nr (λn s'=>∃i S O H',(∃pre:St,pre.length=k+1/\O=pre++(gB w m).drop k)/\Inv (cc X j l g.heap.objs.size g P L t) [] O H' s'/\tn i s'.heap/\(∀b∈L,H' b=ac)/\W i n S H') ?_ m0
   ⟨0,[],_,P,⟨(ac::gB w m).take (k+1),by simp[gB];lia,by simp⟩,I4,qT,λb A=>(f3 b A).1,w0⟩
  rintro n s5 ⟨i,S,σ5,H5,⟨pre,v8,rfl⟩,I5,eX,fr5,w5⟩;rcases turn i n S H5 w5 with⟨stop,q⟩|⟨go,step⟩
  .refine eU (T.done (cc X j l g.heap.objs.size g P L t) rfl rfl rfl hc i [] s5 _ H5 (λ_ _=>False) I5 (M fr5) eX stop) (λr s6 ⟨hr,I6⟩=>?_) (λ_ _ f=>f.elim);subst hr;exact fin I3 f3 I6 q
  .refine eU (T.item (cc X j l g.heap.objs.size g P L t) rfl rfl rfl hc i [] s5 _ H5 (λ_ _=>False) I5 (M fr5) eX go) (λr s6 ⟨u,hr,h6⟩=>?_) (λ_ _ f=>f.elim);subst hr;refine eU h6 (λ_ s7 ⟨v,H7,I7,r7,y7,st7,fr7⟩=>?_) (λ_ _ f=>f.elim);have I7':=I7.pinned (M fr7) (T.obj _ _ st7);have back:∀{N:St}{H8:Hp}{s8:ao},Inv (cc X j l g.heap.objs.size g P L t) ([]++vd L s7.heap) N H8 s8->tn (i+1) s8.heap/\(∀b∈L,H8 b=ac):=λ{N H8 s8} I8=>⟨T.keep _ _ _ st7 λb A o e=>(I8.pin (b,o) (i6 _ (i6 _ (yf A e)))).1,λb A=>by obtain⟨o,e,d⟩:=T.obj _ _ st7 b A;exact(I8.pin (b,o) (i6 _ (i6 _ (yf A e)))).2.1⟩
   obtain⟨Y,dX,htg,step⟩:=step v H7 y7;refine aR (cM _ _ _ _ _ _ s7 _ H7 v u (λN H8=>N=Y++(gB w m).drop k/\H8=H7) I7' r7 ⟨Y,dX,I7'.len,htg,⋯,rfl⟩) λ_ s8 ⟨N,H8,I8,e8,e8'⟩=>?_;subst e8 e8';refine aR (ht _ _ _ _ _ _ s8 _ _ _ I8 step) λb s9 ⟨H9,I9,q9⟩=>?_;cases b with
   |false=>
    obtain⟨m',hm,w9⟩:=(show ∃m',m'<n/\W (i+1) m' S H9 from q9)
    exact⟨m',hm,i+1,S,_,H9,⟨Y,dX,rfl⟩,I9.unpinned,(back I9).1,(back I9).2,w9⟩
   |true=>refine aR (he _ _ _ _ _ _ s9 _ H9 _ I9 q9) λu10 s10 ⟨y,H10,I10,r10,hl10,hz10,m',hm,w10⟩=>?_;refine aR (GR _ s10 _ H10 (.ref D.heap.objs.size) [y] _ [u10] (λz H11=>H11=upd H10 D.heap.objs.size (.lst (S++[y]))) I10 rfl (.cons r10 .nil) ⟨_,S,y,rfl,rfl,hl10,hz10,rfl⟩) λ_ s11 ⟨_,H11,I11,_,e11⟩=>?_;subst e11;exact⟨m',hm,i+1,S++[y],_,_,⟨Y,dX,rfl⟩,I11.unpinned,(back I11).1,(back I11).2,w10⟩
 exact codeAny_compStart_list Z (T.self _ 0 _ _ _ qT Z)
theorem Eu(B:iy X j x l m):∀C b c g f,PG (cc X j l C b c g f) (.Name x p) λv d H Q=>∃i,i.length=0+1/\d.length=l.length/\IL v H i/\Q (i++d.drop (0+1)) H:=by
 intro C b c g f t s d H v u Q I r h;obtain⟨i,_,z,y,q⟩:=h;cases (show i=[aa v] from y);have A:Loc (cc X j l C b c g f).env.scope x:=B.loc.elim (λh=>.inl (lookup_relabel_local h)) (λh=>.inr (AB h));have n:(cc X j l C b c g f).fn x=ai\/(cc X j l C b c g f).env.scope.names.lookup x=aa .local:=B.loc.elim (λh=>.inr (lookup_relabel_local h)) (λh=>.inl (by show(j.names.lookup x == aa .cell)=ai;rw[h];rfl));have o:(cc X j l C b c g f).N[0]?=aa x:=by show l[0]?=aa x;rw[<-List.head?_eq_getElem?];exact B.hd
 refine yM B.nd o A n t s d H v u Q I r ?_;show Q (d.set 0 (aa v)) H;cases d with
 |nil=>rw[oY,B.len]at z;lia
 |cons a r=>exact q
theorem Gp(B:iy X j x l m)(D:X.calm=ai)(z:PI X (.Name x o) b wi)(v:∀C a c n g,pR (cc X j l C a c n g) d ts) (A:∀C a c n g,PE (cc X j l C a c n g) f te) (y:∀x,lw b X.env x=pure x:=by intro _;rfl):PE X (.ListComp f [⟨.Name x o,b,d,0⟩] j pos) (Cg wi ts te m):=by intro t s w H Q I h;rw[eval_ListComp];exact HA (use:=ac) B (gn _) D z (Eu B) v A y I h λE f3 p q=>by obtain⟨u,i,_⟩:=p.loc;exact⟨u,i,λF r=>⟨.ref _,_,E.unblock f3 p r,rfl,q⟩⟩
end
noncomputable def Walk(J:It)(xs:List V)(R:Hp->Prop):Prop :=
 ∀H,R H->∀i,(∀x,xs[i]?=aa x->J.go i H/\∀y a,J.yld i H y a->a=H/\y=x)/\(i=xs.length->J.stop i H)
theorem Qb{K:ay}:Walk (zW K a) xs (λH=>b_ K H a xs):=λH h i=>⟨λx b=>⟨⟨xs,x,h,b⟩,λy d z=>⟨z.1,by have:=z.2 xs h;lia⟩⟩,λc=>⟨xs,h,oZ c.symm⟩⟩
theorem Ld{K:ay}:Walk (Bk K a) xs (λH=>cC K H a xs):=λH h i=>⟨λx b=>⟨⟨xs,x,h,b⟩,λy d z=>⟨z.1,by have:=z.2 xs h;lia⟩⟩,λc=>⟨xs,h,oZ c.symm⟩⟩
noncomputable def rZ(a:Int)(n:Nat):List V:=(cu n).map λi=>V.int (a+(i:Nat))
theorem Af(a:Int)(n:Nat):(rZ a n).length=n:=by simp[rZ]
theorem Oa{b:Int}:Walk (xQ b n) (rZ b n) (λ_=>True):=λH _ i=>by
 refine⟨λx a=>?_,λc=>by rw[Af]at c;exact oZ c.symm⟩;have d:i<n:=by have:=(c_.mp a).1;rw[Af]at this;trivial
 refine⟨d,λy g z=>⟨z.1,?_⟩⟩;unfold rZ at a;rw[jl,CI d]at a;have f:V.int (b+(i:Nat))=x:=i5 a;rw[z.2,<-f]
noncomputable def sg(c:Nat):V:=.str ⟨#[c]⟩
noncomputable def vn(z:Str):It:=⟨λi _=>i<z.cps.size,λi H x a=>a=H/\∃c,z.cps[i]?=aa c/\x=sg c,λi _=>i=z.cps.size⟩
theorem QS:Walk (vn z) (z.cps.toList.map sg) (λ_=>True):=λH _ i=>by
 refine⟨λx a=>?_,λd=>by show i=z.cps.size;simpa using d⟩;rw[jl]at a;cases e:z.cps.toList[i]? with
 |none=>rw[e]at a;trivial
 |some c=>
  rw[e]at a;have f:i<z.cps.size:=by have:=(c_.mp e).1;trivial
  refine⟨f,λy h w=>⟨w.1,?_⟩⟩;obtain⟨g,b,rfl⟩:=w.2;have:z.cps[i]?=aa c:= ~~~e
  rw[this]at b;cases b;exact(i5 a)
section
variable{X:Cx}
theorem RZ{K:ay}{z:Str}{d:ae}{f:Nat->aA->Prop} (O:∀i h,f i h->∃o n L,h.get? d=aa o/\o.cls=.type n/\o.data=.fields L /\ ["enumerate","zip","dict_itemiterator","dict_reverseitemiterator","odict_iterator","itertools.zip_longest","itertools.pairwise"].contains n=am)(UM:∀(A:aY) (i:Nat) (s:ao) (Q:ah->ao->Prop) (E:ah->ao->Prop),f i s.heap->Q (.ref d) s->au (ax P w) A (oU (.ref d)) Q E s)(y:∀A:aY,A.handled=ac->Walks P w A d [d] [d] z.cps.size (SignAt z) f):rV P w K a (vn z) [d] d f where
 mem:=by simp
 obj:=λi h g b j=>by
  grind
 keep:=λi h m g k=>by exact(y ({}:aY) rfl).frame i h m g k
 item:=by intro X B q C x i M s J H E I p g t;subst B q C;obtain⟨G,F,f2,f3,f4,D⟩:=p d (by simp);refine(y X.A (I.ok.hd x)).item i s _ _ t g λv m l S N k=>?_;have I1:Inv X M J H {s with heap:=m,toks:=l}:=I.turned (t':=l) (λb o j e=>k b o (~~~j) e) G F f3 f4 D;obtain⟨o,n,L,Z,Y,W,T⟩:=O _ _ N;obtain⟨c,u,e1,rfl⟩:=S;exact⟨_,rfl,um (s:={s with heap:=m,toks:=l}) Z Y W T ⟨sg c,H,I1,⟨u,rfl⟩,⟨rfl,c,e1,rfl⟩,N,λb j=>(p b j).1⟩⟩
 done:=by intro X B q C x i M s J H E I p g t;subst B q C;obtain⟨G,F,f2,f3,f4,D⟩:=p d (by simp);have r:i=z.cps.size:=t;subst r;exact(y X.A (I.ok.hd x)).done s _ _ g λm l k=>⟨rfl,I.turned (t':=l) (λb o j e=>k b o (~~~j) e) G F f3 f4 D⟩
 self:=UM
theorem Hk{g:TG}{l:TS}{D:jT}(z:Walk J xs R)(c:Nat->St->Hp->Prop)(A:c 0 b H)(u:∀i b H,i<=xs.length->c i b H->R H)(t:∀i x b H,xs[i]?=aa x->c i b H->g x b H λf j=>l {D with nx:=c (i+1),ct:=c (i+1),bk:=D.nx} f j) (w:∀b H,c xs.length b H->D.nx b H):∃W:Nat->Nat->St->Hp->Prop,(∃m,W 0 m b H)/\∀i m b H,W i m b H -> (J.stop i H/\D.nx b H)\/(J.go i H/\∃N:St->Hp->Prop,(∀h d,N h d->∃n,n<m/\W (i+1) n h d)/\∀x d,J.yld i H x d->g x b d λf j=>l {D with nx:=N,ct:=N,bk:=D.nx} f j):=by
 refine⟨λi m b H=>m=xs.length-i/\i<=xs.length/\c i b H,⟨xs.length,by rfl,gn _,A⟩,?_⟩;rintro i m b H ⟨rfl,v,p⟩;have q:=z H (u i b H v p) i;by_cases C:i<xs.length
 .have o:xs[i]?=aa xs[i]:=by simp
  obtain⟨B,r⟩:=q.1 xs[i] o;refine .inr ⟨B,c (i+1),λh d s=>⟨xs.length-(i+1),∅,rfl,C,s⟩,λx d y=>?_⟩;obtain⟨rfl,rfl⟩:=r x d y;exact t i _ b _ o p
 .have e:i=xs.length:=∅
  subst e;exact .inl ⟨q.2 rfl,w b H p⟩
theorem Tz{b:Type}(l:List b)(f:b->Bool)(d:Nat->Bool)(c:∀i x,l[i]?=aa x->d i=f x):(cu l.length).all d=l.all f:=by
 induction l generalizing d with
 |nil=>rfl
 |cons x r g=>rw[cI,yZ,s_,List.all_map,s_,c 0 x rfl];congr 1;exact g _ λi y h=>c (i+1) y (by trivial)
theorem T5{bs:List Bool}(r:bt (bs.map V.bl) b){i:Nat}(h:b.toArray[i]?=aa v):v=.bool (bs.getD i am):=by
 have d:=r.length;rw[cX]at d;have f:i<b.length:=by have:=(qA.mp h).1;trivial
 have e:(bs.map V.bl)[i]?=aa (.bl (bs.getD i am)):=by rw[jl,fj ⋯];simp[List.getD,fj (show i<bs.length by simp_all)]
 obtain⟨u,c,g⟩:=r.get e;have:b[i]?=aa v:= ~~~h
 rw[this]at c;cases c;trivial
theorem wW{A:aY}(h:A.handled=ac):A.in1.handled=ac:=h
theorem BQ(j:X.calm=ai):dq X (.builtin "all") (λxs H Q=>∃(p:ae) (bs:List Bool),xs=[.ref p]/\b_ X.K H p (bs.map V.bl)/\Q (.bl (bs.all id)) H):=by
 intro M s n H xs O Q I r h;obtain⟨p,bs,rfl,D,q⟩:=h;obtain⟨u,rfl,w⟩:=vals1 r;cases w;obtain⟨d,l,f,S⟩:=I.list D;have m:=l.length;rw[cX]at m;refine call_all_walk (CJ f.isList ?_);have L:p≠s.heap.objs.size:=by obtain⟨o,g,_⟩:=f.isList;exact dE (bC g)
 refine⟨s.heap.objs.size,_,_,_,_,_,λi=>bs.getD i am,rfl,Walks.list (wW (I.ok.hd j)) s.heap.objs.size p L d.toArray,⟨⟨_,cS _ rfl,rfl,rfl⟩,?_⟩,λi v P W Y C J=>?_,λT t k=>?_⟩
 .obtain⟨o,g,j,F⟩:=f.isList;exact⟨o,bD _ g,j,F⟩
 .rw[T5 l C];exact nJ J
 .have e:(cu d.toArray.size).all (λi=>bs.getD i am)=bs.all id:=by
   rw[dW,<-m];exact Tz bs id _ λi x B=>by simp[List.getD,B]
  rw[e];have N:Inv X M n H {s with heap:=s.heap.push {cls:=.type "list_iterator",data:=.fields #[.ref p,.int 0 0]},toks:=s.toks}:=I.kept (t':=s.toks) λb o e=>bD _ e;exact⟨.bl _,H,Inv.turned (t':=t) N (it:=s.heap.objs.size) (λb o G e=>k b o (~~~G) e) I.fresh (sW I.lt) (.inr I.sz) (λx c e z=>by obtain⟨v,y⟩:=I.cell x c e;exact absurd y.lt (by rw[z];simp)) (λA E z=>absurd (bC (I.pin A E).1) (by rw[z];simp)),rfl,q⟩
end
section
noncomputable def mV(z:Str)(a b:Option Int):Str:=⟨((z.cps.toList.drop (HT.sIx z.length 0 a)).take (HT.sIx z.length z.length b-HT.sIx z.length 0 a)).toArray⟩
theorem Rf(a b:Nat):sliceRange (a:Int) (b:Int) 1=(cu (b-a)).map λk=>a+k:=by
 unfold sliceRange;have e:(if(1:Int) > 0 then(if(a:Int)<(b:Int)then((b:Int)-a+1-1) / 1 else 0)else(if(a:Int) > b then((a:Int)-b-1-1) / (-1)else 0)).toNat=b-a:=by
  rw[if_pos (by decide)];split
  .simp
  .have:b-a=0:=⋯
   rw[this];rfl
 show(cu (if(1:Int) > 0 then(if(a:Int)<(b:Int)then((b:Int)-a+1-1) / 1 else 0)else(if(a:Int) > b then((a:Int)-b-1-1) / (-1)else 0)).toNat).map _=_;rw[e];refine jm λk _=>?_;lia
theorem L_(a b:Option Int)(n:Nat):Builtin.Str.strSliceIndices a b 1 n=(cu (HT.sIx n n b-HT.sIx n 0 a)).map λk=>HT.sIx n 0 a+k:=by
 rw[<-Rf];have p:(1:Int) > 0:=by decide
 cases a <;> cases b <;> (unfold Builtin.Str.strSliceIndices HT.sIx;simp only[p,if_true];congr 1 <;> (try split) <;> lia)
theorem NG{b:Type}(l:List b)(a k:Nat):((cu k).map λj=>a+j).filterMap (λi=>l[i]?)=(l.drop a).take k:=by
 induction k with
 |zero=>rfl
 |succ k c=>rw[qB,ml,List.filterMap_append,c,List.take_succ];congr 1;simp[mf];rfl
theorem NC(z:Str)(t:Tok)(l u:Option (Int×Tok)):∃m,sliceMade z t l u ac=m/\(m=.val (.str z t)/\mV z (l.map (·.1)) (u.map (·.1))=z\/m=.str (mV z (l.map (·.1)) (u.map (·.1)))):=by
 refine⟨_,rfl,?_⟩;unfold sliceMade slicePicked;have e:=L_ (l.map (·.1)) (u.map (·.1)) z.length;simp only[Option.map_none,Jg];rw[e];have d:=NG z.cps.toList (HT.sIx z.length 0 (l.map (·.1))) (HT.sIx z.length z.length (u.map (·.1))-HT.sIx z.length 0 (l.map (·.1)));have b:(((cu (HT.sIx z.length z.length (u.map (·.1))-HT.sIx z.length 0 (l.map (·.1)))).map λk=>HT.sIx z.length 0 (l.map (·.1))+k).filterMap (z.cps[·]?)).toArray=(mV z (l.map (·.1)) (u.map (·.1))).cps:=by unfold mV;rw[<-d];simp
 split
 .rename_i h;left;refine⟨rfl,?_⟩;simp only[beq_self_eq_true,Bool.true_and,cX,List.length_range,beq_iff_eq]at h;have g:HT.sIx z.length z.length (u.map (·.1))<=z.length:=HT.sIx_le _ _ (bc _) _;have f:z.cps.toList.length=z.length:=by rfl
  have a:HT.sIx z.length 0 (l.map (·.1))=0\/z.length=0:=∅
  unfold mV;rw[h];rcases a with a|a
  .rw[a,vJ,mn ∅]
  .have:z.cps.toList=[]:=lF ∅;rw[this];cases z;rename_i c;simp at this;subst this;rfl
 .right;rw[show(⟨(((cu (HT.sIx z.length z.length (u.map (·.1))-HT.sIx z.length 0 (l.map (·.1)))).map λk=>HT.sIx z.length 0 (l.map (·.1))+k).filterMap (z.cps[·]?)).toArray⟩:Str)=mV z (l.map (·.1)) (u.map (·.1))from by rw[b]]
noncomputable def GD:V->Option Int->Option Int->Hp->VK->Prop:=λx a b H Q=>∃z,x=.str z/\z.length<=bd/\Q (.str (mV z a b)) H
theorem Td(z:Str)(a b:Option Int):(mV z a b).length<=z.length:=by unfold mV Str.length;simp;lia
theorem part_of(p:lC v o):∃q:Option (Int×Tok),v=partValue q/\q.map (·.1)=o:=by
 cases p with
 |none=>exact⟨ac,rfl,rfl⟩
 |int i t=>exact⟨aa (i,t),rfl,rfl⟩
theorem UU:kX X GD:=by
 intro y s n H x v p o r w a Q I b g d c h;obtain⟨z,rfl,f,q⟩:=h;obtain⟨t,rfl⟩:=b;obtain⟨l,rfl,rfl⟩:=part_of d;obtain⟨u,rfl,rfl⟩:=part_of c;refine⟨"str",_,F.slot_str_getitem.lookup,typeIs_str s z t,?_⟩;obtain⟨m,j,i⟩:=NC z t l u;refine getItem_meets (typeIs_str s z t) (by rfl) F.slot_str_getitem F.entry_str_getitem (F.args_str_getitem_2 _ _) (meets_str_getitem_slice z t a l u ac (by rfl)) ⟨g,?_⟩;rw[j];rcases i with⟨rfl,e⟩|rfl
 .exact⟨.str z,H,I,⟨t,rfl⟩,by rw[e]at q;exact q⟩
 .exact⟨bT (Td z _ _) f,⟨.str _,H,I.tok _,⟨_,rfl⟩,q⟩⟩
end
section
variable{X:Cx}
noncomputable def iT(K:ay)(H:Hp)(d:Nat)(x y:V)(k:Bool):Prop :=
 ∀(X:Cx),X.K=K->∀(b:List (ae×Obj)) (a:St) (s:ao) (u v:ah) (A:aY),Inv X b a H s->RelV x u->RelV y v->A.units+d<cLine->vH A s u v k
theorem Me{K:ay}{x y:V}(f:fU x=ai)(c:fU y=ai):iT K H d x y (eG x y):=λ_ _ _ _ _ _ _ _ _ b a _=>Gb b a f c
noncomputable def gc(e:Nat->Bool)(n m:Nat):Bool:=(cu (min n m)).all e&&n == m
theorem Ue{A:aY}:A.in1.units=A.units+1:=rfl
theorem AM{A:aY}(I:Inv X B o H s)(L:b_ X.K H a xs)(J:b_ X.K H b c)(G:∀(j:Nat) x y,xs[j]?=aa x->c[j]?=aa y->iT X.K H d x y (e j)) (Q:A.units+(d+1)<cLine):SeqAt.RcAt A s (.ref a) (.ref b) (gc e xs.length c.length)/\SeqAt.RcNeAt A s (.ref a) (.ref b) (!gc e xs.length c.length):=by
 obtain⟨g,q,m,_⟩:=I.list L;obtain⟨h,p,f,_⟩:=I.list J;have F:=q.length;have S:=p.length;have w:∀j (N:j<g.toArray.size) (M:j<h.toArray.size),vH A.in1 s g.toArray[j] h.toArray[j] (e j):=λj N M=>by
  have E:j<g.length:=by trivial
  have O:j<h.length:=by trivial
  have i:xs[j]?=aa xs[j]:=fj ⋯;have z:c[j]?=aa c[j]:=fj ⋯;obtain⟨u,t,D⟩:=q.get i;obtain⟨v,r,C⟩:=p.get z;have P:g[j]=u:=by rw[fj E]at t;exact i5 t
  have f2:h[j]=v:=by rw[fj O]at r;exact i5 r
  have:=G j xs[j] c[j] i z X rfl B o s u v A.in1 I D C (by lia);simpa[P,f2]using this
 by_cases n:xs.length=c.length
 .have l:g.toArray.size=h.toArray.size:=by simp;simp_all
  have i:gc e xs.length c.length=(cu g.toArray.size).all e:=by unfold gc;simp_all
  rw[i];exact⟨.lists m.isList f.isList l ∅ w,.lists m.isList f.isList l ∅ w⟩
 .have i:gc e xs.length c.length=am:=by
   unfold gc;rw[beq_false_of_ne n,vK]
  have l:(g.toArray.size != h.toArray.size)=ai:=by simp;simp_all
  rw[i];exact⟨.lists_lengths m.isList f.isList l ∅,.lists_lengths m.isList f.isList l ∅⟩
theorem B6{A:aY}(I:Inv X z m H s)(G:cC X.K H a xs)(F:cC X.K H b c)(E:∀(j:Nat) x y,xs[j]?=aa x->c[j]?=aa y->iT X.K H d x y (e j)) (P:A.units+(d+1)<cLine):SeqAt.RcAt A s (.ref a) (.ref b) (gc e xs.length c.length)/\SeqAt.RcNeAt A s (.ref a) (.ref b) (!gc e xs.length c.length):=by
 obtain⟨g,o,r,_⟩:=I.tuple G;obtain⟨f,n,h,_⟩:=I.tuple F;have l:=o.length;have M:=n.length;have t:∀j (L:j<g.toArray.size) (J:j<f.toArray.size),vH A.in1 s g.toArray[j] f.toArray[j] (e j):=λj L J=>by
  have D:j<g.length:=by trivial
  have N:j<f.length:=by trivial
  have i:xs[j]?=aa xs[j]:=fj ⋯;have w:c[j]?=aa c[j]:=fj ⋯;obtain⟨u,q,C⟩:=o.get i;obtain⟨v,p,B⟩:=n.get w;have O:g[j]=u:=by rw[fj D]at q;exact i5 q
  have f2:f[j]=v:=by rw[fj N]at p;exact i5 p
  have:=E j xs[j] c[j] i w X rfl z m s u v A.in1 I C B (by rw[Ue];lia);simpa[O,f2]using this
 have i:gc e xs.length c.length=((cu (min g.toArray.size f.toArray.size)).all e&&g.toArray.size == f.toArray.size):=by unfold gc;rw[dW,dW,<-l,<-M]
 rw[i];exact⟨.tuples r h ∅ t,.tuples r h ∅ t⟩
theorem KF{K:ay}{a b:ae}{xs c:List V}{e:Nat->Bool}(m:b_ K H a xs)(l:b_ K H b c)(o:a≠b)(i:∀(j:Nat) x y,xs[j]?=aa x->c[j]?=aa y->iT K H d x y (e j)):iT K H (d+1) (.ref a) (.ref b) (gc e xs.length c.length):=λX n q p s u v A I g f h=>by
 subst n;cases g;cases f;exact .of_refs o (AM I m l i h).1
theorem Nb{K:ay}{a b:ae}{xs c:List V}{e:Nat->Bool}(m:cC K H a xs)(l:cC K H b c)(o:a≠b)(i:∀(j:Nat) x y,xs[j]?=aa x->c[j]?=aa y->iT K H d x y (e j)):iT K H (d+1) (.ref a) (.ref b) (gc e xs.length c.length):=λX n q p s u v A I g f h=>by
 subst n;cases g;cases f;exact .of_refs o (B6 I m l i h).1
theorem EA{K:ay}{a:ae}:iT K H d (.ref a) (.ref a) ai:=λX h i f s u v A I c b g=>by
 cases c;cases b;exact .same _
noncomputable def uE(K:ay)(f:Bool):R2:=λx y H Q=>∃a b xs c d e,x=.ref a/\y=.ref b/\((b_ K H a xs/\b_ K H b c)\/(cC K H a xs/\cC K H b c))/\d<=8 /\
 (∀(j:Nat) x y,xs[j]?=aa x->c[j]?=aa y->iT K H d x y (e j))/\Q (.bl (if f then !gc e xs.length c.length else gc e xs.length c.length)) H
theorem K7(m:X.A.units+64<cLine):bZ X (df .Eq) (uE X.K am):=by
 intro o s j H x y v u Q I g f h;obtain⟨a,b,xs,l,d,e,rfl,rfl,i,n,c,q⟩:=h;cases g;cases f;rcases i with⟨h1,h2⟩|⟨h1,h2⟩
 .exact(AM I h1 h2 c ∅).1 _ _ _ _ ⟨.bl _,H,I,rfl,q⟩
 .exact(B6 I h1 h2 c ∅).1 _ _ _ _ ⟨.bl _,H,I,rfl,q⟩
theorem Q5(m:X.A.units+64<cLine):bZ X (df .NotEq) (uE X.K ai):=by
 intro o s j H x y v u Q I g f h;obtain⟨a,b,xs,l,d,e,rfl,rfl,i,n,c,q⟩:=h;cases g;cases f;rcases i with⟨h1,h2⟩|⟨h1,h2⟩
 .exact(AM I h1 h2 c ∅).2 _ _ _ _ ⟨.bl _,H,I,rfl,q⟩
 .exact(B6 I h1 h2 c ∅).2 _ _ _ _ ⟨.bl _,H,I,rfl,q⟩
noncomputable def NT(K:ay):V->List V->Hp->VK->Prop:=λx a H Q=>∃(p:ae) (xs:List V) (y:V),x=.ref p/\a=[y]/\H p=aa (.lst xs)/\fU y=ai/\xs.all fU=ai/\Q (.int ((xs.countP λz=>eG z y:Nat):Int)) H
theorem BN:∀{xs:List V}{a:List ah},bt xs a->xs.all fU=ai->a.countP (jD y)=xs.countP λz=>eG z y
 |_,_,.nil,_=>rfl
 |z::xs,u::a,.cons r t,f=>by rw[s_,gL]at f;rw[List.countP_cons,List.countP_cons,xv r f.1,BN t f.2]
theorem Np:oR X "list.count" (NT X.K):=by
 intro A s l H x m v o Q I c d h;obtain⟨p,xs,y,rfl,rfl,i,j,b,q⟩:=h;cases c;obtain⟨u,rfl,f⟩:=d.one;obtain⟨z,a,n,r,t,e⟩:=I.lstM i;refine nN F.slot_list_count ⟨_,e,rfl⟩ F.entry_list_count (F.args_list_count_2 _ _) (SeqAt.list_countAt p a.toArray n ac #[] u (jD y)) ⟨e,λw g=>rF f j r b w (~~~g),?_⟩;exact⟨.int _,H,I.tok _,⟨_,by rw[CL,BN r b]⟩,q⟩
noncomputable def NJ(K:ay):V->List V->Hp->VK->Prop:=λx a H Q=>∃(p:ae) (xs:List V) (y:V),x=.ref p/\a=[y]/\cC K H p xs/\fU y=ai/\xs.all fU=ai/\Q (.int ((xs.countP λz=>eG z y:Nat):Int)) H
theorem Ko:oR X "tuple.count" (NJ X.K):=by
 intro G s B H x C v D Q I i j h;obtain⟨p,xs,y,rfl,rfl,o,t,d,q⟩:=h;cases i;obtain⟨u,rfl,l⟩:=j.one;obtain⟨a,r,⟨⟨A,z,f,g⟩,e,c,n,b⟩,E⟩:=I.tuple o;simp only at c b;subst c b;refine nN F.slot_tuple_count ⟨_,e,rfl⟩ F.entry_tuple_count (F.args_tuple_count_2 _ _) (SeqAt.tuple_countAt p a.toArray n z g u (jD y)) ⟨e,λw m=>rF l t r d w (~~~m),?_⟩;exact⟨.int _,H,I.tok _,⟨_,by rw[CL,BN r d]⟩,q⟩
noncomputable def PU:V->List V->Hp->VK->Prop:=λx a H Q=>∃(p:ae) (xs:List V) (y:V) (j:Nat),x=.ref p/\a=[y]/\H p=aa (.lst xs)/\fU y=ai/\xs.all fU=ai/\j<xs.length /\
 (∀z,xs[j]?=aa z->eG z y=ai)/\(∀(i:Nat) z,i<j->xs[i]?=aa z->eG z y=am)/\Q (.int j) H
theorem QM:oR X "list.index" PU:=by
 intro ag s S H x T v W Q I o t h;obtain⟨p,xs,y,j,rfl,rfl,J,N,g,hj,M,L,q⟩:=h;cases o;obtain⟨u,rfl,A⟩:=t.one;obtain⟨z,a,n,r,Z,e⟩:=I.lstM J;have Y:=rX;have c:∀(i:Nat) (G:i<a.toArray.size),∃w,xs[i]?=aa w/\jD y a.toArray[i]=eG w y:=λi G=>by
  have C:i<a.length:=by trivial
  have l:xs[i]?=aa xs[i]:=fj ⋯;obtain⟨w,b,B⟩:=r.get l;have P:a[i]=w:=by rw[fj C]at b;exact i5 b
  refine⟨_,l,?_⟩;have O:fU xs[i]=ai:=tq.mp g _ (vL _);rw[<-xv B O];simp[P]
 refine nN F.slot_list_index ⟨_,e,rfl⟩ F.entry_list_index (F.args_list_index_2 _ _) (SeqAt.list_indexAt p a.toArray n ac #[] u (jD y) j (by simp;simp_all) ∅ ?_ ?_) ⟨e,λw D=>rF A N r g w (~~~D),?_⟩
 .obtain⟨w,b,d⟩:=c j (by simp;simp_all);rw[d];exact M w b
 .intro m E f;obtain⟨w,b,d⟩:=c m E;rw[d];exact L m w f b
 .exact⟨.int _,H,I.tok _,⟨_,rfl⟩,q⟩
end
noncomputable abbrev Tx:=List Nat
noncomputable def tS(l:Tx):Str:=⟨l.toArray⟩
noncomputable def tV(l:Tx):V:=.str (tS l)
noncomputable def bH(ls:List Tx):List V:=ls.map tV
theorem l9(l:Tx):(tS l).cps.toList=l:=by rfl
theorem m_(l:Tx):(tS l).length=l.length:=by rfl
theorem AO(z:Str):tS z.cps.toList=z:=by rfl
theorem uI(h:tS a=tS b):a=b:=by rw[<-l9 a,h,l9]
theorem yk(a:List Tx):(bH a).length=a.length:=cX _
noncomputable def bO(a b:Tx):Bool:=decide (a<=b)
noncomputable def aN(ls:List Tx):List Tx:=ls.mergeSort bO
theorem rT(a b c:Tx)(f:bO a b=ai)(d:bO b c=ai):bO a c=ai:=by
 simp only[bO,decide_eq_true_eq]at *
 grind
theorem Ai(a b:Tx):(bO a b||bO b a)=ai:=by
 simp only[bO,y0,decide_eq_true_eq]
 grind
theorem Bq(d:bO a b=ai)(c:bO b a=ai):a=b:=by
 simp only[bO,decide_eq_true_eq]at *
 grind
theorem dI(ls:List Tx):(aN ls).Perm ls:=vM _ _
theorem lc(ls:List Tx):(aN ls).Pairwise (λa b=>bO a b=ai):=Jl rT Ai _
theorem Bt(ls:List Tx):(aN ls).length=ls.length:=(dI ls).length_eq
theorem yi{d:List Tx}(g:d.Perm c)(f:d.Pairwise (λa b=>bO a b=ai)):d=aN c :=CM (le:=λa b=>bO a b=ai) (λ_ _ _ _ i h=>Bq i h) f (lc c) (g.trans (dI c).symm)
theorem vc{ls:List Tx}(c:ls.Pairwise (λa b=>bO a b=ai)):aN ls=ls:=(yi (vN ls) c).symm
theorem zT{a:List Tx}(c:a.Perm b):aN a=aN b:=yi ((dI a).trans c) (lc a)
theorem FR:∀(p:Str) (l:List Str),risingS p l=ai->(p::l).Pairwise (λa b=>bO a.cps.toList b.cps.toList=ai)
 |p,[],_=>CN _ _
 |p,x::r,h=>by
  have d:(!ltCps x.cps.toList p.cps.toList&&risingS x r)=ai:=h;rw[gL,ltCps_eq]at d;have q:=FR x r d.2;have f:bO p.cps.toList x.cps.toList=ai:=by
   simp only[bO,decide_eq_true_eq]
   grind
  refine jH.mpr ⟨λy c=>?_,q⟩;rcases bQ.mp c with rfl|c
  .trivial
  .exact rT _ _ _ f (List.rel_of_pairwise_cons q c)
theorem TF(h:sortedS c=ai):(c.map λz=>z.cps.toList).Pairwise (λa b=>bO a b=ai):=by
 rw[tt];cases c with
 |nil=>simp
 |cons x r=>exact FR x r h
theorem om:∀{ls:List Tx}{a:List ah},bt (bH ls) a->cD a (ls.map tS)
 |[],_,.nil=>.nil
 |l::ls,_::_,.cons ⟨t,e⟩ r=>by subst e;exact .cons _ t (om (ls:=ls) r)
theorem G5:∀{b:List Str}{a:List ah},cD a b->bt (bH (b.map λz=>z.cps.toList)) a
 |_,_,.nil=>.nil
 |_,_,.cons y t h=>.cons ⟨t,by rfl⟩ (G5 h)
section
theorem OA(z:Tx)(n:Nat):Txt.mul (tS z) (n:Int)=tS (bz n z).flatten:=by
 unfold Txt.mul;cases n with
 |zero=>rfl
 |succ n=>
  rw[if_neg ∅];split
  .rename_i h;simp only[y0,beq_iff_eq]at h;rcases h with h|h
   .have:n=0:=∅
    subst this;simp
   .rw[m_]at h;simp_all
  .unfold tS;congr 1;have b:∀(k:Nat) (a:Array Nat),(bz k z.toArray).foldl (·++·) a=a++(bz k z).flatten.toArray:=by
    intro k
    induction k with
    |zero=>simp
    |succ k c=>grind
   simp_all
theorem QD:bZ X (iH .Mult) (λx y H Q=>∃(z:Tx) (n:Nat),x=tV z/\y=.int n/\n<=100/\z.length<=100/\Q (tV (bz n z).flatten) H):=by
 intro r s j H x y v u Q I c b h;obtain⟨z,n,rfl,rfl,f,d,q⟩:=h;obtain⟨t,rfl⟩:=c;obtain⟨m,rfl⟩:=b;refine SB.mul ?_ λl k=>?_
 .have o:z.length*n<=10000:=bT (Nat.mul_le_mul d f) (by simp);refine⟨by lia,λi _=>?_,λi _=>?_⟩
  .rw[m_];intro g;have p:(2^63-1:Int) / n ≥ (2^63-1) / 100:=by
    have a:(0:Int)<n:=∅
    apply (Int.le_ediv_iff_mul_le a).mpr;lia
   lia
  .rw[m_,tu];unfold Builtin.Str.tooLong;apply decide_eq_false;have:10000<bd:=by trivial
   lia
 .rw[OA];exact⟨tV _,H,I.tok _,⟨_,rfl⟩,q⟩
end
theorem OF(t:cj)(j:Nat):(t.put j).1.led=t.led/\(t.put j).1.plain=t.plain:=⟨rfl,rfl⟩
theorem KO(t:cj)(n:Nat):(t.orStandIn n).led=t.led/\((t.orStandIn n).plain=t.plain\/(t.orStandIn n).plain=am):=by
 unfold SetTable.orStandIn;split
 .simp
 .exact⟨rfl,.inr rfl⟩
theorem L8(t:cj)(c:Array (Int×ah))(h:Int)(x:ah):(layNew t c h x).2.1.led=t.led/\((layNew t c h x).2.1.plain=t.plain\/(layNew t c h x).2.1.plain=am):=by
 unfold layNew;split
 .rename_i a b _;have f:=OF t a;have d:=KO (t.put a).1 (qC c (t.put a).2 (h,x)).size;ac_rfl
 .exact⟨rfl,.inr rfl⟩
theorem Qk(t:cj)(c:Array (Int×ah))(a:Nat)(d:t.plain=am):(tw t c a).2.1.led=t.led/\(tw t c a).2.1.plain=am:=by
 unfold tw;split
 .rename_i t' b e;have q:t'.led=t.led/\t'.plain=t.plain:=by
   unfold SetTable.relaid CO at e;cases q:CP (Jm a-1) (c.map (·.1))with
   |none=>rw[q]at e;cases e
   |some f=>rw[q]at e;cases e;simp
  dsimp only;split
  .exact⟨q.1,q.2.trans d⟩
  trivial
 trivial
noncomputable def d7(w:aJ):Bool:=w.params.followText "set-order"
structure jX(P:aS)(w:aJ)(h:aA)(a:ae)(ks:List Str):Prop where
 ex:∃(es:Array (Int×ah)) (ep:Nat) (t:cj) (ss:List Str),h.get? a=aa {cls:=.type "set",dict:=ac,data:=.set es ep t}/\cD (es.toList.map (·.2)) ss/\ss.Perm ks/\ElemsOf (gq P w) es.toList /\
  es.size<4090/\t.fits es.size=ai/\t.led=(!d7 w)/\(ks≠[]->t.plain=am)
theorem jX.at{h':aA}(S:jX P w h a ks)(k:∀o,h.get? a=aa o->h'.get? a=aa o):jX P w h' a ks:=by obtain⟨es,b,t,ss,e,r⟩:=S.ex;exact⟨es,b,t,ss,k _ e,r⟩
theorem He:∀{a:List ah}{b:List Str},cD a b->∀x,x∈b↔∃t,Value.str x t∈a
 |_,_,.nil,x=>by simp
 |_,_,.cons y t h,x=>by
  rw[bQ,He h x]
  grind
theorem Am:∀{a b:List ah},a.Perm b->∀{c:List Str},cD b c->∃d,cD a d/\d.Perm c:=by intro a b p c h;refine⟨a.map strOf,strsAre_map a λv f=>h.all v (p.mem_iff.mp f),?_⟩;have:=p.map strOf;rwa[h.strs]at this
section
variable{s:ao}
noncomputable def jV(ks:List Str)(x:Str):List Str:=if x∈ks then ks else ks++[x]
theorem jX.put{h:aA}(e:h.get? a=aa {cls:=.type "set",dict:=ac,data:=.set c b t}):(h.update a (Obj.putSet es' t')).get? a=aa {cls:=.type "set",dict:=ac,data:=.set es' (b+1) t'}:=by have:=oW (Obj.putSet es' t') e (by rfl);trivial
theorem Mj(S:jX P w s.heap a ks)(hn:ks.length<4000)(h:∀l b,kF a s.heap l->jX P w l a (jV ks x)->Q b {s with heap:=l}):au (ax P w) A (CQ a (.str x g) ((gq P w).hash x)) Q E s:=by
 obtain⟨m,ep,t,ss,M,N,hp,v,hsz,hf,mx,cN⟩:=S.ex;have isD:∀y t',(gq P w).is x (.str y t')=decide (y=x):=λy t'=>by rfl
 have tW:(gq P w).is x (.str x g)=ai:=by rw[isD];simp
 have hb:m.size<scanBound:=oX hsz (by decide);unfold CQ setAddHashedIn;refine ig (aq (lG M rfl hf ?_));dsimp only;rw[byScan_of (knd:=gq P w) (x:=.str x g) rfl hb v];simp only[if_true];unfold setAddByScan;refine aq (aq (qD (aq (wpAny_setScan_of tW M rfl hf v ?_))));have D:x∈ks↔∃e∈m.toList,(gq P w).is x e.2=ai:=by
  rw[<-hp.mem_iff,He N x];constructor
  .grind
  .rintro⟨e,he,q⟩;obtain⟨y,t',ey⟩:=N.all e.2 (b8.mpr ⟨e,he,rfl⟩)
   grind
 have klen:ks.length=m.size:=by
  have T:=hp.length_eq;have O:ss.length=m.size:=by rw[<-N.strs];simp
  simp_all
 cases hr:List.findIdx? (λe=>(gq P w).is x e.2) m.toList with
 |some j=>dsimp only;obtain⟨hj,hpj,_⟩:=Uy.mp hr;have hx:x∈ks:=D.mpr ⟨_,vL hj,hpj⟩;refine aE (aE ?_);exact h s.heap _ (Jn a s.heap) (by unfold jV;rw[if_pos hx];exact S)
 |none=>
  dsimp only;have hx:¬x∈ks:=λhm=>by
   grind
  have G:∀(b:Bool) {i:ao}{Q':Unit->ao->Prop},Q' () i->au (ax P w) A (match b with|ai=>rule "set.scan.the-table-gave-way" |am=>pure ()) Q' E i :=
   λb i Q' hq=>by cases b <;> first|exact aE hq|exact qD hq
  have B:=layNew_perm t m ((gq P w).hash x) (.str x g);have H:=layNew_fits t m ((gq P w).hash x) (.str x g);have qU:=L8 t m ((gq P w).hash x) (.str x g);generalize hL:layNew t m ((gq P w).hash x) (.str x g)=L at B H qU ⊢;obtain⟨c,Y,f,gave⟩:=L;dsimp only at B H qU ⊢;rw[Jo]at B;have p:ElemsOf (gq P w) c.toList:=(v.push tW rfl).perm B;have Dy:c.size=m.size+1:=by have:=B.length_eq;simpa using this
  have hS1:∃C,cD (c.toList.map (·.2)) C/\C.Perm (jV ks x):=by
   have p1:=B.map (λe:Int×ah=>e.2);rw[ml]at p1;have q1:cD (m.toList.map (·.2)++[Value.str x g]) (ss++[x]):=by
    have gen:∀{X:List ah}{W:List Str},cD X W->cD (X++[Value.str x g]) (W++[x]):=by
     intro X W hh
     induction hh with
     |nil=>exact .cons x g .nil
     |cons y t _ ih=>exact .cons y t ih
    exact gen N
   obtain⟨C,J,I⟩:=Am p1 q1;refine⟨C,J,I.trans ?_⟩;unfold jV;rw[if_neg hx];exact hp.append_right _
  obtain⟨C,J,I⟩:=hS1;have ce:jV ks x≠[]:=by unfold jV;simp_all
  have o:∀d:cj,d.fits c.size=ai->d.led=(!d7 w)->d.plain=am->au (ax P w) A (do
    storeSet a c d
    if(!f&&d.tooFull)=ai then do
      (match (tw d c (nP c.size)).2.2 with|ai=>rule "set.scan.the-table-gave-way" |am=>pure ())
      storeSet a (tw d c (nP c.size)).1 (tw d c (nP c.size)).2.1
      pure (aa ai)
     else pure (aa ai)) (λr s'=>∃l,r=aa ai/\s'={s with heap:=l}/\kF a s.heap l/\jX P w l a (jV ks x)) E s:=by
   intro d hf2 gw iq;refine aq (CS M rfl ?_ (CT (oX (show c.size<4090 by lia) (by decide))));have o1:=jX.put (es':=c) (t':=d) M;have iN:=nQ s.heap a (Obj.putSet c d);split
   .have F:=relayAll_perm d c (nP c.size);have u:=relayAll_fits d c (nP c.size);have n:=Qk d c (nP c.size) iq;generalize hRl:tw d c (nP c.size)=Rl at F u n ⊢;obtain⟨z,t3,gave2⟩:=Rl;dsimp only at F u n ⊢;have hsz2:z.size=c.size:=by have:=F.length_eq;trivial
    refine aq (G _ ?_);refine aq (CS o1 rfl ?_ (CT (oX (show z.size<4090 by lia) (by decide))));obtain⟨Z,u1,u2⟩:=Am (F.map (λe:Int×ah=>e.2)) J;refine aE ⟨_,rfl,rfl,iN.trans (nQ _ a _),⟨z,_,t3,Z,jX.put o1,u1,u2.trans I,p.perm F,∅,u,n.1.trans gw,λ_=>n.2⟩⟩
   .exact aE ⟨_,rfl,rfl,iN,⟨c,_,d,C,o1,J,I,p,∅,hf2,gw,λ_=>iq⟩⟩
  have J1:Y.led=(!d7 w):=qU.1.trans mx;refine aq (G _ ?_);split
  .refine aq ?_;rw[hashByValue_scannable 8 (x:=.str x g) rfl];refine aE ?_;have hk:plainKind (.str x g)=am:=rfl;rw[hk];simp only[fG,if_false];refine aR (o {Y with plain:=am} (SetTable.fits_plain_off H) J1 rfl) λr s' ⟨l,T,O,e3,e4⟩=>?_;subst T O;exact aE (h l _ e3 e4)
  .rename_i Dz;refine aq (aE ?_);simp only[if_true];refine aR (o Y H J1 (~~~Dz)) λr s' ⟨l,T,O,e3,e4⟩=>?_;subst T O;exact aE (h l _ e3 e4)
end
noncomputable def met(val:Nat->Str)(i:Nat):List Str:=((cu i).map val).foldl jV []
theorem Hd(val:Nat->Str)(i:Nat):met val (i+1)=jV (met val i) (val i):=by unfold met;rw[qB,ml,Jp];rfl
theorem Ge(val:Nat->Str):∀{j:Nat},i<=j->(met val i).length<=(met val j).length
 |0,h=>⋯
 |j+1,h=>by
  by_cases e:i=j+1
  .subst e;simp
  .refine bT (Ge val (j:=j) ∅) ?_;rw[Hd];unfold jV;split
   all_goals simp
section
variable{P:aS}{w:aJ}{A:aY}{R:Result->ao->Prop}{I:ae}{c a:List ae}{G:Array GenState->Array GenState->Prop}{n:Nat}{d:Nat->ah->Prop}{St:Nat->ao->Prop}
theorem FK(W:WalksS P w A.in1 I c a G n d St)(S:ae)(B:S∉c){J:Nat->aA->Prop}(H:∀i h j,J i h->(∀b o,b∉a->h.get? b=aa o->j.get? b=aa o)->J i j)(M:∀(i:Nat) (v:ah) (s:ao) (E:ah->ao->Prop) (Q:Bool->ao->Prop),i<n->d i v->J i s.heap->(∀j r b,s.toks<=r->kF S s.heap j->J (i+1) j->Q b {s with heap:=j,toks:=r})->au (ax P w) A.in1 (setAdd S v) Q E s):∀(k i:Nat) (s:ao),n-i=k->i<=n->St i s->J i s.heap -> (∀f,Moved (S::a) G s f->J n f.heap->R (.ok (.ret .none)) f)->lA (ax P w) A (.builtin "set.update.loop" ⟨[.ref S,.ref I],[]⟩) R s:=by
 have X:S∉a:=λh=>B (W.sub _ h);have F:∀b∈a,b∈S::a:=λb g=>fE _ g;intro k
 induction k with
 |zero=>
  intro i s O T y u x;obtain rfl:i=n:=∅
  refine mo Uz ?_;rw[nR Jq _];show au _ A.in1 (pyNext (.ref I) >>= _) _ _ s;refine aq (W.done s _ _ y λf p=>?_);show au _ A.in1 (ret Value.none) _ _ f;exact aE (x f (p.mono F) (H _ _ _ u λb o g e=>p.heap b o g e))
 |succ k N=>
  intro i s O T y u x;have z:i<n:=∅
  refine mo Uz ?_;rw[nR Jq _];show au _ A.in1 (pyNext (.ref I) >>= _) _ _ s;refine aq (W.item i s _ _ z y λv f Y l p=>?_);show au _ A.in1 (lv [v] (setAdd S v) >>= _) _ _ f;refine aq (ig (M i v f _ _ z Y (H _ _ _ u λb o g e=>p.heap b o g e) λj r b D C L=>?_));refine aE ⟨nU Jq _,N (i+1) _ ∅ z (W.frame _ f _ _ l D λb g o e=>?_) L λt m q=>?_⟩
  .rw[C.2 b (λh:b=S=>B ⋯)];exact e
  .refine x t (Moved.trans W.gtrans ((p.mono F).then_heap D λb o g e=>?_) m) q;rw[C.2 b (λh:b=S=>g ⋯)];exact e
end
section
variable{s:ao}
theorem Oh(a:ah) (h:jX P w (s.heap.push {cls:=.type "set",dict:=ac,data:=.set #[] 0 (.fresh 0 0 (!d7 w))}) s.heap.objs.size [] -> Q (.ref s.heap.objs.size) {s with heap:=s.heap.push {cls:=.type "set",dict:=ac,data:=.set #[] 0 (.fresh 0 0 (!d7 w))}}):lA (ax P w) A (.call (.builtin "set.__new__") ⟨[.type "set",a],[]⟩) (wants Q E) s:=by
 refine codeAny_of_tree ?_;show au _ A.in1 (do Jr "set.__new__" ⟨[.type "set",a],[]⟩;again (.builtin "set.__new__" ⟨[.type "set",a],[]⟩)) _ _ s;refine aq (qE (PySem.F.newCall_set_1 a) (aE ⟨nU F.plain_set_new _,mo F.entry_set_new ?_⟩));rw[nR F.plain_set_new _];unfold Builtin.«set.__new__» Builtin.Frozenset.newClass;have i:=sub_set_self;obtain⟨j,g,d,c,f⟩:=s;dsimp only
 wp_walk
 refine tz (aE ?_);dsimp only;simp only[newObj];refine aq (wpAny_alloc (aE ?_));refine aE (h ⟨#[],0,_,[],cS _ rfl,.nil,vN _,λe b=>by simp at b,by decide,rfl,rfl,λh=>absurd rfl h⟩)
end
end L2
set_option maxHeartbeats 8000000
namespace L2
theorem KL:entryFor table "set.__iter__"=aa Builtin.«frozenset.__iter__»:=entryFor_alias (id':="frozenset.__iter__") (by kernel_rfl) rfl (by decide +kernel) (by kernel_rfl)
theorem Fu:Slot "set_iterator" "__next__" "set_iterator.__next__" :=
 .of (owner:="set_iterator") (n:="__next__") (by rw[typeLookup_type,builtinLookup_eq_fast];kernel_rfl) (by rfl) (by rfl) (by rfl) (by first|exact .inl (by decide +kernel)|exact .inr (by decide +kernel)) (by rw[isSubtype_type];rfl)
theorem Ov:entryFor table "set_iterator.__next__"=aa Builtin.«set_iterator.__next__»:=entryFor_of_fast (by kernel_rfl)
theorem PD(a:ah):argsOk "set_iterator.__next__" ⟨[a],[]⟩:=by unfold argsOk;kernel_rfl
theorem D7:Slot "set_iterator" "__iter__" "set_iterator.__iter__" :=
 .of (owner:="set_iterator") (n:="__iter__") (by rw[typeLookup_type,builtinLookup_eq_fast];kernel_rfl) (by rfl) (by rfl) (by rfl) (by first|exact .inl (by decide +kernel)|exact .inr (by decide +kernel)) (by rw[isSubtype_type];rfl)
theorem Pz:entryFor table "set_iterator.__iter__"=aa Builtin.«dict_keyiterator.__iter__»:=entryFor_alias (id':="dict_keyiterator.__iter__") (by kernel_rfl) rfl (by decide +kernel) (by kernel_rfl)
theorem Ki(a:ah):argsOk "set_iterator.__iter__" ⟨[a],[]⟩:=by unfold argsOk;kernel_rfl
noncomputable def kg(first:ah)(i:Nat)(a:ae)(n b:Nat):Obj:={cls:=.type "set_iterator",data:=.fields #[first,.int i 0,.ref a,.int n 0,.int b 0]}
section
variable{A:aY}{s:ao}
theorem wT(h:s.heap.get? I=aa (kg first i a n d))(c:Q (.ref I) s):au (ax P w) A (oU (.ref I)) Q E s:=by
 have b:s.TypeIs (.ref I) "set_iterator":=⟨_,h,rfl⟩
 refine wpAny_pyIter_slot b D7 (qy D7 b Pz ?_ (Ki _));show au _ _ (ret (.ref I)) _ _ s;exact aE ⟨_,rfl,"set_iterator",_,b,Fu.lookup,c⟩
theorem pJ(n:s.heap.get? a=aa {cls:=.type "set",dict:=ac,data:=.set f g t})(m:t.fits f.size=ai)(l:s.heap.get? I=aa (kg first i a f.size g))(h:au (ax P w) A.in1 (if let .int slot _:=first then do
    match <-nV a slot.toNat (i:Int).toNat (g:Int).toNat with
    |some (x,next)=>do
     nW (.ref I) 0 (ee next)
     nW (.ref I) 1 (ee ((i:Int)+1))
     ret x
    |none=>do nW (.ref I) 2 .none;raiseNew (<-newExc (.type "StopIteration") [])
   else do
    let aa places <-seqItems? first|lH "internal:set_iterator"
    match places[(i:Int).toNat]? with
    |some (.int d _)=>do
     let x <-setNextDrawn a d.toNat (g:Int).toNat
     nW (.ref I) 1 (ee ((i:Int)+1))
     ret x
    |some _=>lH "internal:set_iterator"
    |none=>do nW (.ref I) 0 (ee 0);nW (.ref I) 2 .none;raiseNew (<-newExc (.type "StopIteration") []))
   (λc b=>∃r,c=.done (.ret r)/\Q (aa r) b) (λe b=>au (ax P w) A (do if <-y4 e (.type "StopIteration")then pure ac else throw e) Q E b) s) :
  au (ax P w) A (pyNext (.ref I)) Q E s:=by
 have j:s.TypeIs (.ref I) "set_iterator":=⟨_,l,rfl⟩
 unfold pyNext;refine aq (wpAny_attempt (Je (name:=sY "__next__") j Fu (qy Fu j Ov ?_ (PD _))));unfold Builtin.«set_iterator.__next__» slotArgs;refine aq (aE ?_);refine aq (wpAny_fieldsOf l rfl ?_);show au _ _ (setEntries a >>= _) _ _ s;refine aq (wpAny_setEntries_of n rfl m ?_);have u:(((f.size:Nat):Int) != ((f.size:Nat):Int))=am:=by simp
 rw[u];simp only[fG,if_false];refine eU ?_ (λc b q=>?_) (λe b q=>q) (Q:=λc b=>∃r,c=.done (.ret r)/\Q (aa r) b) (E:=λe b=>au (ax P w) A (do if <-y4 e (.type "StopIteration")then pure ac else throw e) Q E b)
 .exact h
 .obtain⟨r,p,o⟩:=q;exact⟨r,p,aE o⟩
end
theorem BV{a:Type}:∀{l:List a}{i:Nat} (h:i<l.length),(l[i]::l.eraseIdx i).Perm l
 |[],i,h=>by simp at h
 |x::r,0,h=>by rfl
 |x::r,i+1,h=>by have q:=BV (l:=r) (i:=i) (~~~h);simp only[List.getElem_cons_succ,Js];exact(List.Perm.swap x _ _).trans (List.Perm.cons x q)
theorem FV(next:Nat->Nat):∀(c k:Nat) (a:List d) (b:Array d),c=a.length->(pickOrder.go next c k a b).toList.Perm (b.toList++a)
 |0,k,a,b,h=>by have:a=[]:=lF h.symm;subst this;simp[pickOrder.go]
 |c+1,k,a,b,h=>by
  have f:next k % a.length<a.length:=nX _ ∅
  unfold pickOrder.go;rw[fj f];dsimp only;have g:=FV next c (k+1) (a.eraseIdx (next k % a.length)) (b.push a[next k % a.length]) (by grind)
  refine g.trans ?_;rw[Jo,fZ];exact Jt _ (BV f)
theorem FJ(next:Nat->Nat)(xs:Array a):(y6 next xs).toList.Perm xs.toList:=by
 have:=FV next xs.size 0 xs.toList #[] (by rfl)
 trivial
section
variable{A:aY}{s:ao}
theorem Q0(b:n≠0)(h:∀k d,k<n->Q k {s with drawn:=d}):au (ax P w) A (choose a n) Q E s:=λc p hΓ=>by unfold choose;rw[Sem.wp_choose];refine⟨b,?_⟩;exact h _ _ (nX _ (Nat.pos_of_ne_zero b))
theorem FO:∀(n:Nat) (xs:List b) (s:ao) (Q:List b->ao->Prop),n=xs.length->(∀a d,a.Perm xs->Q a {s with drawn:=d})->au (ax P w) A (drawOrder n xs) Q E s
 |0,[],s,Q,_,h=>by unfold drawOrder;exact aE (h [] s.drawn (vN _))
 |0,x::xs,s,Q,hn,h=>by simp at hn
 |n+1,[],s,Q,hn,h=>by simp at hn
 |n+1,x::xs,s,Q,hn,h=>by unfold drawOrder;refine aq (Q0 (by simp) λk d c=>?_);rw[fj c];dsimp only;refine aq (FO n ((x::xs).eraseIdx k) _ _ (by grind) λa g f=>?_);refine aE (h _ g ?_);exact(List.Perm.cons _ f).trans (BV c)
theorem w8{Q:Option ah->ao->Prop}{R:Fin->ao->Prop}(f:A.handled=ac)(g:∀c,(∀b o,s.heap.get? b=aa o->c.get? b=aa o)->Q ac {s with heap:=c}):au (ax P w) A.in1 (do raiseNew (<-newExc (.type "StopIteration") [])) R (λe d=>au (ax P w) A (do if <-y4 e (.type "StopIteration")then pure ac else throw e) Q E d) s:=by refine aq ?_;simp only[newExc,newTuple];refine aq (nL ?_ (by size_fits));refine aq (m:=firstArgMember _ _) (qE (a:=Value.none) (by trivial) ?_);refine nL ?_ (by size_fits);simp only[raiseNew];refine aq (wpAny_handled ?_);rw[show A.in1.handled=ac from f];refine aq (aE (wpAny_throw ?_));refine aq (Ju (T:="StopIteration") (b:=ai) ⟨_,cS _ rfl,rfl⟩ isSubtype_stop ?_);exact aE (g _ λb o e=>bD _ (bD _ e))
theorem Bm(c:s.heap.get? I=aa (kg first i a n f))(h:∀b,kF I s.heap b->b.get? I=aa (kg d i a n f)->Q () {s with heap:=b}):au (ax P w) A (nW (.ref I) 0 d) Q E s:=by refine tD c rfl (by simp) (h _ (nQ ..) ?_);rw[oW _ c (by rfl)];rfl
theorem An(c:s.heap.get? I=aa (kg first i a n d))(h:∀b,kF I s.heap b->b.get? I=aa (kg first (i+1) a n d)->Q () {s with heap:=b}):au (ax P w) A (nW (.ref I) 1 (ee ((i:Int)+1))) Q E s:=by refine tD c rfl (by simp) (h _ (nQ ..) ?_);rw[oW _ c (by rfl)];rfl
theorem xD(c:s.heap.get? I=aa (kg first i a n d))(h:∀b,kF I s.heap b->(∃o,b.get? I=aa o)->Q () {s with heap:=b}):au (ax P w) A (nW (.ref I) 2 .none) Q E s:=by refine tD c rfl (by simp) (h _ (nQ ..) ⟨_,oW _ c (by rfl)⟩)
noncomputable abbrev pU(a:Array (Int×ah))(b:Nat)(t:cj):Obj:={cls:=.type "set",dict:=ac,data:=.set a b t}
theorem QI{d:Array (Int×ah)}{f:Nat}{t:cj}(x:a≠I)(n:t.fits d.size=ai)(g:d7 w=ai)(B:A.handled=ac):Walks P w A I [I,a] [I] d.size (λi v=>((y6 (w.params.setOrder a f) d).toList.map (·.2))[i]?=aa v) (λi h=>h.get? I=aa (kg (ee 0) i a d.size f)/\h.get? a=aa (pU d f t)):=by
 have hsz:(y6 (w.params.setOrder a f) d).size=d.size:=by have:=(FJ (w.params.setOrder a f) d).length_eq;trivial
 have j:∀(s:ao) (i:Nat) (Q:Option (ah×Nat)->ao->Prop) (E:ah->ao->Prop),s.heap.get? a=aa (pU d f t) ->
   Q (((y6 (w.params.setOrder a f) d)[i]?).map λe=>(e.2,0)) s->au (ax P w) A.in1 (nV a (0:Int).toNat (i:Int).toNat (f:Int).toNat) Q E s:=λs i Q E u F=>by
  unfold nV;refine aq (lG u rfl n ?_);unfold y8;refine aq (aq (tz (aE ?_)));show au _ _ (if d7 w=ai then _ else _) _ _ s;rw[if_pos g];simp only[tu,bne_self_eq_false,fG,if_false];unfold setWalk;refine aq (aq (lG u rfl n ?_));unfold y8;refine aq (aq (tz (aE ?_)));show au _ _ (if d7 w=ai then _ else _) _ _ s;rw[if_pos g];refine aq (tz (aE (aE ?_)));trivial
 refine⟨λb g=>⋯,λi h H c k=>⟨k I (by simp) _ c.1,k a (by simp) _ c.2⟩,λi s Q E G c l=>?_,λs Q E c l=>?_,λi s Q E c l=>wT c.1 l⟩
 .refine pJ c.2 n c.1 ?_;refine aq (j s i _ _ c.2 ?_);have y:i<(y6 (w.params.setOrder a f) d).size:=⋯
  rw[mq y];dsimp only[vO];refine aq (Bm c.1 λq m D=>?_);refine aq (An (s:={s with heap:=q}) D λp r C=>?_);refine aE ⟨_,rfl,l _ p s.toks ?_ ⟨C,?_⟩ λb o g e=>?_⟩
  .rw[jl];simp[mq y]
  .exact(r.2 a x).trans ((m.2 a x).trans c.2)
  .exact(r.2 b (~~~g)).trans ((m.2 b (~~~g)).trans e)
 .refine pJ c.2 n c.1 ?_;refine aq (j s d.size _ _ c.2 ?_);rw[Array.getElem?_eq_none ∅];dsimp only[Option.map_none];refine aq (xD c.1 λq m _=>?_);exact w8 (s:={s with heap:=q}) B λp z=>l p s.toks λb o g e=>z b o ((m.2 b (~~~g)).trans e)
theorem Ui{f:Array (Int×ah)}{J:Nat}{t:cj}{c:List Nat}(ce:a≠I)(hT:T≠I)(B:t.fits f.size=ai)(G:c.Perm (cu f.size))(Z:A.handled=ac):Walks P w A I [I,a,T] [I] f.size (λi v=>(c.filterMap λj=>(f[j]?).map (·.2))[i]?=aa v) (λi h=>h.get? I=aa (kg (.ref T) i a f.size J)/\h.get? a=aa (pU f J t)/\h.get? T=aa {cls:=.type "tuple",data:=.seq (c.map λ(k:Nat)=>ee k).toArray}):=by
 have M:c.length=f.size:= ~~~G.length_eq
 have p:∀j∈c,j<f.size:=λj z=>by simpa using G.mem_iff.mp z
 have fm:∀(l:List Nat),(∀j∈l,j<f.size)->∀(i j:Nat),l[i]?=aa j->∃e:Int×ah,f[j]?=aa e/\(l.filterMap λj=>(f[j]?).map (·.2))[i]?=aa e.2:=by
  intro l
  induction l with
  |nil=>intro _ i j h;simp at h
  |cons x r O=>
   intro H i j h;have W:x<f.size:=H x (i4 ..);have D:f[x]?=aa f[x]:=mq W;cases i with
   |zero=>simp at h;subst h;exact⟨_,D,by rw[mf,D];rfl⟩
   |succ i=>obtain⟨e,y,F⟩:=O (λj z=>H j (fE _ z)) i j (by trivial);exact⟨e,y,by rw[mf,D];trivial⟩
 have g:∀(s:ao) (Q:Option (Array ah)->ao->Prop) (E:ah->ao->Prop),s.heap.get? T=aa {cls:=.type "tuple",data:=.seq (c.map λ(k:Nat)=>ee k).toArray}->Q (aa (c.map λ(k:Nat)=>ee k).toArray) s->au (ax P w) A.in1 (seqItems? (.ref T)) Q E s:=λs Q E X Y=>by exact tE X rfl Y
 refine⟨λb m=>by simp at m;simp[m],λi h h' d k=>⟨k I (by simp) _ d.1,k a (by simp) _ d.2.1,k T (by simp) _ d.2.2⟩,λi s Q E hi d q=>?_,λs Q E d q=>?_,λi s Q E d q=>wT d.1 q⟩
 .refine pJ d.2.1 B d.1 ?_;refine aq (g s _ _ d.2.2 ?_);have L:i<c.length:=⋯
  have u:((c.map λ(k:Nat)=>ee k).toArray)[(i:Int).toNat]?=aa (ee (c[i]:Nat)):=by simp[L]
  dsimp only;rw[u];obtain⟨e,y,F⟩:=fm c p i c[i] (fj L);show au _ _ (setNextDrawn a _ _ >>= _) _ _ s;refine aq ?_;unfold setNextDrawn;refine aq (lG d.2.1 rfl B ?_);simp only[tu,bne_self_eq_false,fG,if_false];rw[y];refine aE ?_;refine aq (An d.1 λC n e2=>?_);refine aE ⟨_,rfl,q _ C s.toks F ⟨e2,(n.2 a ce).trans d.2.1,(n.2 T hT).trans d.2.2⟩ λb o m e=>(n.2 b (~~~m)).trans e⟩
 .refine pJ d.2.1 B d.1 ?_;refine aq (g s _ _ d.2.2 ?_);have u:((c.map λ(k:Nat)=>ee k).toArray)[(f.size:Int).toNat]?=ac:=by simp[M]
  dsimp only;rw[u];refine aq (Bm d.1 λh1 S u=>?_);refine aq (xD (s:={s with heap:=h1}) u λC n _=>?_);exact w8 (s:={s with heap:=C}) Z λh3 N=>q h3 s.toks λb o m e=>N b o ((n.2 b (~~~m)).trans ((S.2 b (~~~m)).trans e))
theorem LC(j k:Nat):jn #[j] k=if j<k then 1 else 0:=by unfold jn;simp only[dW,cI,oY];rfl
theorem L9{g:Array (Int×ah)}{n:Nat}{t:cj}(L:a≠I)(u:t.fits g.size=ai)(f:d7 w=am)(O:t.led=ai)(m:g.size=1)(T:A.handled=ac):Walks P w A I [I,a] [I] 1 (λi v=>(g.toList.map (·.2))[i]?=aa v) (λi h=>h.get? I=aa (kg (ee (if i=0 then 0 else((t.place.getD 0 0:Nat):Int)+1)) i a g.size n)/\h.get? a=aa (pU g n t)):=by
 have y:t.place.size=1:=by simp only[SetTable.fits,gL,beq_iff_eq]at u;simp_all
 obtain⟨j,G⟩:=Array.size_eq_one_iff.mp y;have J:((t.place.getD 0 0:Nat):Int)=(j:Int):=by rw[G];rfl
 obtain⟨e,H⟩:=Array.size_eq_one_iff.mp m;have l:∀(s:ao) (d:Nat) (i:Nat) (Q:Option (ah×Nat)->ao->Prop) (E:ah->ao->Prop),s.heap.get? a=aa (pU g n t) ->
   Q (if j<d then ac else aa (e.2,j+1)) s->au (ax P w) A.in1 (nV a d i n) Q E s:=λs d i Q E W r=>by
  unfold nV;refine aq (lG W rfl u ?_);unfold y8;refine aq (aq (tz (aE ?_)));show au _ _ (if d7 w=ai then _ else _) _ _ s;rw[if_neg (by rw[f];simp)];refine y9 (λz=>absurd (show(!t.plain&&decide (g.size > 1))=ai from z) (by rw[m];simp)) (λ_=>?_);refine aq ?_;refine eU (Q:=λ_ D=>D=s) (E:=E) ?_ (λ_ D N=>?_) (λ_ _ x=>x)
  .refine y9 (λz=>absurd (show(!t.led&&!g.isEmpty)=ai from z) (by rw[O];simp)) (λ_=>aE rfl)
  .subst N;rw[G,LC,H];by_cases M:j<d
   .rw[if_pos M]at r ⊢;exact aE r
   .rw[if_neg M]at r ⊢;exact aE r
 refine⟨λb f=>by simp at f;simp[f],λi h Z c k=>⟨k I (by simp) _ c.1,k a (by simp) _ c.2⟩,λi s Q E Y c p=>?_,λs Q E c p=>?_,λi s Q E c p=>wT c.1 p⟩
 .obtain rfl:i=0:=⋯
  refine pJ c.2 u c.1 ?_;show au _ _ (nV a (0:Int).toNat ((0:Nat):Int).toNat (n:Int).toNat >>= _) _ _ s;simp only[tu,Int.toNat_zero];refine aq (l s 0 0 _ _ c.2 ?_);rw[if_neg (nY j)];dsimp only;refine aq (Bm c.1 λm q C=>?_);refine aq (An (s:={s with heap:=m}) C λB F X=>?_);refine aE ⟨_,rfl,p _ B s.toks ?_ ⟨?_,?_⟩ λb o f e=>?_⟩
  .rw[H];rfl
  .rw[X,if_neg (by decide),J];rfl
  .exact(F.2 a L).trans ((q.2 a L).trans c.2)
  .exact(F.2 b (~~~f)).trans ((q.2 b (~~~f)).trans e)
 .refine pJ c.2 u c.1 ?_;rw[if_neg (by simp),J];show au _ _ (nV a ((j:Int)+1).toNat ((1:Nat):Int).toNat (n:Int).toNat >>= _) _ _ s;have C:((j:Int)+1).toNat=j+1:=by rfl
  rw[C,tu,tu];refine aq (l s (j+1) 1 _ _ c.2 ?_);rw[if_pos (Jv j)];dsimp only;refine aq (xD c.1 λm q _=>?_);exact w8 (s:={s with heap:=m}) T λB S=>p B s.toks λb o f e=>S b o ((q.2 b (~~~f)).trans e)
theorem xU:∀{a:List ah}{b:List Str} (i:Nat) (v:ah),cD a b->a[i]?=aa v->∃t,v=.str (b.getD i kH) t
 |_,_,i,v,.nil,h=>by trivial
 |_,_,0,v,.cons y t _,h=>by grind
 |_,_,i+1,v,.cons y t hr,h=>by simp only[List.getElem?_cons_succ]at h;obtain⟨c,e⟩:=xU i v hr h;exact⟨c,by trivial⟩
theorem Rh{h:aA}(x:h.IsTuple l a):(h.push o).IsTuple l a:=let ⟨ob,e,r⟩:=x;⟨ob,bD _ e,r⟩
set_option maxRecDepth 100000 in
theorem IH(hh:A.handled=ac)(z:s.heap.IsList l a\/s.heap.IsTuple l a){J:Nat->aA->Prop}(hJ:∀i h d,J i h->(∀b o,b<=s.heap.objs.size->h.get? b=aa o->d.get? b=aa o)->J i d) (W:J 0 (s.heap.push {cls:=.type "set",dict:=ac,data:=.set #[] 0 (.fresh 0 0 (!d7 w))}))(js:∀(i:Nat) (v:ah) (f:ao) (E:ah->ao->Prop) (Q:Bool->ao->Prop),i<a.size->a[i]?=aa v->J i f.heap->(∀d j b,f.toks<=j->kF s.heap.objs.size f.heap d->J (i+1) d->Q b {f with heap:=d,toks:=j})->au (ax P w) A.in1.in1.in1 (setAdd s.heap.objs.size v) Q E f)(h:∀(d:aA) (j:Nat),J a.size d->(∀b o,b<s.heap.objs.size->s.heap.get? b=aa o->d.get? b=aa o)->Q (.ref s.heap.objs.size) {s with heap:=d,toks:=j}):au (ax P w) A (call (.type "set") [.ref l]) Q E s:=by
 obtain⟨c,tl,hmro⟩:=F.called_set.mro;have N:=F.called_set.made;have io:=F.called_set.sub;refine yS (codeAny_of_tree ?_);show au _ _ (callAny (.type "set") _) _ _ _;refine aE ⟨Code.quiet_builtin _ (by decide +kernel),mo F.entry_type_call ?_⟩;rw[Around.under_plain (weight_type_call_type "set" [.ref l] []) rfl];have h1:=F.called_set.notType;have h2:=F.called_set.canCreate;have hct:=PySem.F.typeCall_set_1 (.ref l)
 repeat any_goals (first|assumption|wp_step)
 refine qt (Oh (P:=P) (w:=w) (.ref l) (E:=E) (Q:=λm f=>m=.ref s.heap.objs.size/\f={s with heap:=s.heap.push {cls:=.type "set",dict:=ac,data:=.set #[] 0 (.fresh 0 0 (!d7 w))}}/\True) λS0=>⟨rfl,rfl,trivial⟩) λr f M=>?_;cases r with
 |error e=>exact M
 |ok fl=>
  cases fl with
  |ret m=>
   obtain⟨rfl,rfl,S0⟩:=M;have hS:=cS (h:=s.heap) (o:=({cls:=.type "set",dict:=ac,data:=.set #[] 0 (.fresh 0 0 (!d7 w))}:Obj));have S:(s.heap.push {cls:=.type "set",dict:=ac,data:=.set #[] 0 (.fresh 0 0 (!d7 w))}).get? s.heap.objs.size=aa {cls:=.type "set",dict:=ac,data:=.set #[] 0 (.fresh 0 0 (!d7 w))}:=cS _ rfl;have hT:Shared.TypeIs {s with heap:=s.heap.push {cls:=.type "set",dict:=ac,data:=.set #[] 0 (.fresh 0 0 (!d7 w))}} (.ref s.heap.objs.size) "set":=⟨_,S,rfl⟩
   have hli:=F.called_set.init.lookup;have hbi:=F.called_set.init.bind (.ref s.heap.objs.size)
   repeat any_goals (first|assumption|wp_step)
   refine qt (codeAny_call_builtin (R:=wants (λr s2=>r=.none/\∃d j,s2={s with heap:=d,toks:=j}/\J a.size d /\ (∀b o,b<s.heap.objs.size->s.heap.get? b=aa o->d.get? b=aa o)) E) F.called_set.init.plain F.entry_set_init (check_set_init_1 hT ?_)) λr2 s2 C=>?_
   .rcases z with z|z
    all_goals
     obtain⟨⟨ocls,H,I,u⟩,Y,n5,x,q⟩:=z;simp only at n5 q;subst n5;subst q;have t:=bD ({cls:=.type "set",dict:=ac,data:=.set #[] 0 (.fresh 0 0 (!d7 w))}:Obj) Y;have hsls:=PySem.F.sub_list_set;have hslf:=PySem.F.sub_list_frozenset;have ce:(Value.type "list" == Value.type "dict")=am:=by decide
     have hsl2:=PySem.F.sub_tuple_set;have hsl3:=PySem.F.sub_tuple_frozenset;have hn2:(Value.type "tuple" == Value.type "dict")=am:=by decide
     unfold Builtin.«set.__init__» noKeywords Builtin.Frozenset.updateFrom;generalize T:oU=PI
     wp_walk
     subst T
     first|refine CJ ⟨_,t,rfl,x,rfl⟩ (aq (wpAny_runValue ?_))|refine wpAny_pyIter_tuple ⟨_,t,rfl,x,rfl⟩ (aq (wpAny_runValue ?_))
     have n:l<s.heap.objs.size:=bC Y;have p:A.in1.in1.in1.handled=ac:=by simp[hh]
     have g:(s.heap.push {cls:=.type "set",dict:=ac,data:=.set #[] 0 (.fresh 0 0 (!d7 w))}).objs.size=s.heap.objs.size+1:=Heap.size_push ..;have J8:l≠(s.heap.push {cls:=.type "set",dict:=ac,data:=.set #[] 0 (.fresh 0 0 (!d7 w))}).objs.size:=by rw[g];exact dE (y_ n)
     have Z:s.heap.objs.size∉[(s.heap.push {cls:=.type "set",dict:=ac,data:=.set #[] 0 (.fresh 0 0 (!d7 w))}).objs.size,l]:=by rw[g];simp only[bQ,jo,jI,or_false,not_or];exact⟨dE (Jv _),sW n⟩
     first|refine FK (J:=J) (Walks.list p _ l J8 a).toS s.heap.objs.size Z ?_ ?_ (a.size-0) 0 _ ∅ (gn _) ⟨⟨_,cS _ rfl,rfl,rfl⟩,Heap.IsList.push ⟨_,t,rfl,x,rfl⟩ _⟩ ?_ ?_|refine FK (J:=J) (Walks.tuple p _ l J8 a).toS s.heap.objs.size Z ?_ ?_ (a.size-0) 0 _ ∅ (gn _) ⟨⟨_,cS _ rfl,rfl,rfl⟩,Rh ⟨_,t,rfl,x,rfl⟩⟩ ?_ ?_
     .exact λi h d O k=>hJ i h d O λb o B e=>k b o (by rw[g];simp only[jo];exact dE (Nat.lt_succ_of_le B)) e
     .exact λi v f E Q hi hv O hq=>js i v f E Q hi hv O hq
     .exact hJ 0 _ _ W λb o _ e=>bD _ e
     intro s' y L;obtain⟨d,g',d',D,G⟩:=s';obtain rfl:g'=s.gens:=y.gens;obtain rfl:d'=s.drawn:=y.drawn;obtain rfl:G=s.os:=y.os;show au _ _ _ _ _ _;refine aE ?_;show au _ _ (ret Value.none) _ _ _;refine aE ⟨rfl,d,D,rfl,L,λb o B e=>y.heap b o ?_ (bD _ (bD _ e))⟩;rw[g];simp only[bQ,jo,jI,or_false,not_or];exact⟨dE B,dE (y_ B)⟩
   .cases r2 with
    |error e=>exact C
    |ok X=>
     cases X with
     |ret r=>
      obtain⟨rfl,d,j,rfl,L,kK⟩:=C
      repeat any_goals (first|assumption|wp_step)
      exact h _ _ L kK
     |_=>exact C.elim
  |_=>exact M.elim
theorem Gy{Q:ah->ao->Prop}(x:A.handled=ac)(r:s.heap.IsList l a\/s.heap.IsTuple l a)(u:cD a.toList c)(z:(met (λi=>c.getD i kH) a.size).length<4000)(h:∀(d:aA) (j:Nat),jX P w d s.heap.objs.size (met (λi=>c.getD i kH) a.size)->(∀b o,b<s.heap.objs.size->s.heap.get? b=aa o->d.get? b=aa o)->Q (.ref s.heap.objs.size) {s with heap:=d,toks:=j}):au (ax P w) A (call (.type "set") [.ref l]) Q E s:=by
 refine IH x r (J:=λi h=>jX P w h s.heap.objs.size (met (λi=>c.getD i kH) i)) (λi h d S k=>S.at λo e=>k _ o (bc _) e)
  ⟨#[],0,_,[],cS _ rfl,.nil,vN _,λe y=>by simp at y,by decide,rfl,rfl,λh=>absurd rfl h⟩ (λi v f E Q p B S q=>?_) h
 obtain⟨t,rfl⟩:=xU i v u ⋯;unfold setAdd;refine ig ?_;have m:(gq P w).is (c.getD i kH) (.str (c.getD i kH) t)=ai:=by show vx _ (.str _ t)=ai;simp[vx]
 refine aq ((gq P w).pyHash (k:=c.getD i kH) m ?_);refine Mj (s:={f with toks:=f.toks+1}) S (tm (Ge _ (jZ p)) z) λd b n g=>?_;rw[<-Hd (λi=>c.getD i kH)]at g;exact q d _ b (CD _) n g
end
theorem HW(h:n<=4096):n<bd:=tm h (by decide)
theorem Rq:typeLookup (.type "set") "__len__"=pure (aa (.builtin "set.__len__")):=F.slot_set_len.lookup
section
variable{P:aS}{w:aJ}{A:aY}{s:ao}
noncomputable def rR(w:aJ)(h:aA)(a:ae)(b:Array (Int×ah)):Prop:=∃(c:Nat) (t:cj),h.get? a=aa {cls:=.type "set",dict:=ac,data:=.set b c t}/\b.size<4090/\t.fits b.size=ai/\t.led=(!d7 w)/\(b.size≠0->t.plain=am)
theorem rR.at{h':aA}(S:rR w h a es)(k:∀o,h.get? a=aa o->h'.get? a=aa o):rR w h' a es:=by obtain⟨b,t,e,r⟩:=S;exact⟨b,t,k _ e,r⟩
theorem jX.e(S:jX P w h a ks):∃es ss,rR w h a es/\cD (es.toList.map (·.2)) ss/\ss.Perm ks:=by
 obtain⟨es,l,t,ss,f,c,b,i,hsz,g,d,m⟩:=S.ex;refine⟨es,ss,⟨l,t,f,hsz,g,d,λj=>m λz=>j ?_⟩,c,b⟩;have o:=b.length_eq;have n:ss.length=es.size:=by rw[<-c.strs];simp
 simp_all
structure G1(P:aS)(w:aJ)(s s':ao)(a I:ae)(es:Array (Int×ah))(fp:List ae)(n:Nat)(Pv:Nat->ah->Prop)(St:Nat->aA->Prop):Prop where
 wk:∀A:aY,A.handled=ac->Walks P w A I fp [I] n Pv St
 st:St 0 s'.heap
 old:∀b o,s.heap.get? b=aa o->s'.heap.get? b=aa o
 new:s.heap.objs.size<=I
 lt:∀b∈fp,b<s'.heap.objs.size
 rest:s'={s with heap:=s'.heap,drawn:=s'.drawn}
 ord:∀acc:Array ah,ItemsOf Pv acc n->acc.toList.Perm (es.toList.map (·.2))
 len:n<4090
 fps:∀b∈fp,b=a\/s.heap.objs.size<=b
theorem xT{l:List ah}(b:l.length=n)(h:ItemsOf (λi v=>l[i]?=aa v) a n):a.toList=l:=by
 refine za λi=>?_;by_cases c:i<n
 .have:i<a.size:=by rw[h.1];trivial
  have q:=h.2 i a[i] (mq this);rw[q];simp
 .rw[tF (by rw[sT,h.1];ac_rfl),tF ⋯]
theorem MG{d:Array (Int×ah)}{t:cj}(M:a≠I)(r:t.fits d.size=ai)(l:d7 w=am)(n:d.size=0)(F:A.handled=ac):Walks P w A I [I,a] [I] 0 (λi v=>(d.toList.map (·.2))[i]?=aa v) (λi h=>h.get? I=aa (kg (ee 0) 0 a d.size g)/\h.get? a=aa (pU d g t)):=by
 have u:d=#[]:=Array.eq_empty_of_size_eq_zero n;have j:∀(s:ao) (f:Nat) (i:Nat) (Q:Option (ah×Nat)->ao->Prop) (E:ah->ao->Prop),s.heap.get? a=aa (pU d g t) ->
   Q ac s->au (ax P w) A.in1 (nV a f i g) Q E s:=λs f i Q E G C=>by
  unfold nV;refine aq (lG G rfl r ?_);unfold y8;refine aq (aq (tz (aE ?_)));show au _ _ (if d7 w=ai then _ else _) _ _ s;rw[if_neg (by rw[l];simp)];refine y9 (λp=>absurd (show(!t.plain&&decide (d.size > 1))=ai from p) (by rw[n];simp)) (λ_=>?_);refine aq ?_;refine eU (Q:=λ_ q=>q=s) (E:=E) ?_ (λ_ q y=>?_) (λ_ _ x=>x)
  .refine y9 (λp=>absurd (show(!t.led&&!d.isEmpty)=ai from p) (by rw[u];simp)) (λ_=>aE rfl)
  .subst y;rw[u];have J:∀k:Nat,(#[]:Array (Int×ah))[k]?=ac:=λk=>by rfl
   dsimp only;rw[J];exact aE C
 refine⟨λb l=>by grind,λi h L c k=>⟨k I (by simp) _ c.1,k a (by simp) _ c.2⟩,λi s Q E D c m=>absurd D (nY i),λs Q E c m=>?_,λi s Q E c m=>wT c.1 m⟩;refine pJ c.2 r c.1 ?_;show au _ _ (nV a (0:Int).toNat ((0:Nat):Int).toNat (g:Int).toNat >>= _) _ _ s;simp only[tu,Int.toNat_zero];refine aq (j s 0 0 _ _ c.2 ?_);dsimp only;refine aq (xD c.1 λn B _=>?_);exact w8 (s:={s with heap:=n}) F λH z=>m H s.toks λb o l e=>z b o ((B.2 b (~~~l)).trans e)
theorem OH(S:rR w s.heap a c)(h:∀y I C n D St,G1 P w s y a I c C n D St->Q (.ref I) y):au (ax P w) A (oU (.ref a)) Q E s:=by
 obtain⟨M,t,l,hsz,p,mx,cN⟩:=S;have O:s.TypeIs (.ref a) "set":=⟨_,l,rfl⟩
 have pL:=bC l;refine wpAny_pyIter_slot O F.slot_set_iter (qy F.slot_set_iter O KL ?_ (F.args_set_iter_1 _));unfold Builtin.«frozenset.__iter__» Builtin.Frozenset.slot0 slotArgs Builtin.Frozenset.addrOf Builtin.Frozenset.sizeOf;refine aq (aE ?_);refine aq (aq (wpAny_setEntries_of l rfl p (aE ?_)));unfold setDrawn;refine aq (aq (lG l rfl p ?_));unfold y8;refine aq (aq (tz (aE ?_)));refine aE ?_;have i:∀(first:ah) (x:ao) (C:List ae) (n:Nat) (D:Nat->ah->Prop) (St:Nat->aA->Prop),x.heap.get? a=aa {cls:=.type "set",dict:=ac,data:=.set c M t} ->
   G1 P w s {x with heap:=x.heap.push (kg first 0 a c.size M)} a x.heap.objs.size c C n D St ->
   au (ax P w) A.in1 (do
    let e <-setEpoch a
    let f <-newFields "set_iterator" [first,ee 0,Value.ref a,ee (c.size:Nat),ee (e:Nat)]
    ret f) (λi y=>∃v,i=Fin.done (Flow.ret v)/\∃X r,y.TypeIs v X/\typeLookup (Value.type X) (sY "__next__")=pure (aa r)/\Q v y) E x:=λfirst x C n D St Z W=>by
  refine aq (wpAny_setEpoch_of Z rfl p ?_);refine aq (nL ?_);exact aE ⟨_,rfl,"set_iterator",_,⟨_,cS _ rfl,rfl⟩,Fu.lookup,h _ _ C n D St W⟩
 refine y9 (λJ=>?_) (λJ=>?_)
 .have Y:(!d7 w&&(!t.plain&&decide (c.size > 1)))=ai:=J;refine aq (FO c.size (cu c.size) s _ (by simp) λG d H=>?_);refine aq (wpAny_newTuple ?_ (hsz:=by rw[cX,H.length_eq,List.length_range];exact jZ (HW ∅)));refine i _ _ _ _ _ _ (bD _ l) ⟨λN q=>Ui (T:=s.heap.objs.size) (dE (by rw[lI];exact y_ pL)) (dE (by simp)) p H q,⟨cS _ rfl,?_,?_⟩,?_,?_,?_,rfl,?_,hsz,?_⟩
  .exact bD _ (bD _ l)
  .exact bD _ (cS _ rfl)
  .exact λb o e=>bD _ (bD _ e)
  .simp
  .intro b g;simp only[bQ,jI,or_false]at g;rw[lI,lI];rcases g with rfl|rfl|rfl
   .simp
   all_goals lia
  .intro u m;have e0:(G.filterMap λj=>(c[j]?).map (·.2))=(G.filterMap λj=>c[j]?).map (·.2):=by rw[Jw]
   have z:(G.filterMap λj=>c[j]?).Perm c.toList:=by have:=H.filterMap λj=>c[j]?;rwa[filterMap_getElem?_range]at this
   rw[e0]at m;rw[xT (by rw[cX,z.length_eq];rfl) m];exact z.map _
  simp
 .have Y:¬(!d7 w&&(!t.plain&&decide (c.size > 1)))=ai:=J;refine aq (aE ?_);cases g:d7 w with
  |true=>
   refine i _ _ _ _ _ _ l ⟨λN q=>QI (dE pL) p g q,⟨cS _ rfl,bD _ l⟩,λb o e=>bD _ e,bc _,?_,rfl,?_,hsz,λb g=>?_⟩
   .intro b g;simp only[bQ,jI,or_false]at g;rw[lI];lia
   .intro u m;have z:=FJ (w.params.setOrder a M) c;rw[xT (by rw[cX,z.length_eq];rfl) m];exact z.map _
   grind
  |false=>
   have L:c.size=1\/c.size=0:=by lia
   rcases L with B|B
   .refine i _ _ _ _ _ _ l ⟨λN q=>L9 (dE pL) p g ⋯ B q,⟨cS _ rfl,bD _ l⟩,λb o e=>bD _ e,bc _,?_,rfl,?_,by simp,λb g=>?_⟩
    .intro b g;simp only[bQ,jI,or_false]at g;rw[lI];lia
    .intro u m;rw[xT (by simp[B]) m]
    grind
   .refine i _ _ _ _ _ _ l ⟨λN q=>MG (dE pL) p g B q,⟨cS _ rfl,bD _ l⟩,λb o e=>bD _ e,bc _,?_,rfl,?_,by simp,λb g=>?_⟩
    .intro b g;simp only[bQ,jI,or_false]at g;rw[lI];lia
    .intro u m;rw[xT (by simp[B]) m]
    grind
theorem En(H:A.handled=ac)(S:rR w s.heap a j)(h:∀(d:ao) (B:List ah),B.Perm (j.toList.map (·.2))->(∀b o,s.heap.get? b=aa o->d.heap.get? b=aa o)->d.gens=s.gens->d.os=s.os->Q B d):au (ax P w) A (collect (.ref a)) Q E s:=by
 obtain⟨J,t,G,X,_⟩:=id S;have pL:=bC G;unfold collect;refine aq (wpAny_runValue (mo F.entry_proto_collect ?_));rw[nR F.plain_proto_collect _];show au _ A.in1 (newList [] >>= λl=>again (.builtin "list.__iadd__" ⟨[l,.ref a],[]⟩)) _ _ s;refine aq (nL ?_);refine aE ⟨nU F.plain_list_iadd _,mo F.entry_list_iadd ?_⟩;rw[nR F.plain_list_iadd _];show au _ A.in1 (Builtin.List.listExtendWith (.ref s.heap.objs.size) (.ref a) (.ref s.heap.objs.size)) _ _ _;unfold Builtin.List.listExtendWith;have i:∀p:ao,p.heap.get? a=aa {cls:=.type "set",dict:=ac,data:=.set j J t}->p.TypeIs (.ref a) "set":=λp e=>⟨_,e,rfl⟩
 have C:(s.heap.push {cls:=.type "list",data:=.seq ([]:List ah).toArray}).get? a=aa {cls:=.type "set",dict:=ac,data:=.set j J t}:=bD _ G;refine aq (sZ (i _ C) ?_);have Z:Builtin.List.listSameRef (.ref s.heap.objs.size) (.ref a)=am:=by have:¬(s.heap.objs.size=a):=sW pL;simp[Builtin.List.listSameRef,this]
 rw[if_neg (by rw[Z];decide)];refine aq (OH (S.at λo e=>bD _ e) λm I fp n Pv St W=>?_);have x:=W.old a _ C;refine aq (ig ?_);unfold Builtin.List.listLengthHint;refine aq (vI (i _ x) Rq ?_)
 wp_delta
 refine aq (Ju (T:="set") (b:=ai) (i _ x) (by rw[isSubtype_type];rfl) ?_);show au _ A.in1 (typeOf (Value.ref a) >>= _) _ _ _;refine aq (sZ (T:="set") (i _ x) ?_);refine aE ?_;rw[if_pos (by rfl)];refine aq (qD ?_);have Y:(s.heap.push {cls:=.type "list",data:=.seq ([]:List ah).toArray}).get? s.heap.objs.size=aa {cls:=.type "list",data:=.seq ([]:List ah).toArray}:=cS _ rfl;have y:=W.old _ _ Y;unfold Builtin.List.listTouch;refine aq (aq (CU y rfl ?_ (by simp) (by simp)));have g:=zb y (λa:Array ah=>a.push Value.none);refine CU g rfl ?_ (by trivial) (by simp);have v:=zb g (λa:Array ah=>a.pop);have M:s.heap.objs.size∉fp:=λz=>by
  rcases W.fps _ z with q|q
  .simp_all
  .rw[lI]at q;lia
 have D:∀b o,b≠s.heap.objs.size->m.heap.get? b=aa o->(((m.heap.update s.heap.objs.size (gm λa=>a.push Value.none)).update s.heap.objs.size (gm λa=>a.pop))).get? b=aa o:=λb o f e=>by rw[Jx _ _ _ _ f,Jx _ _ _ _ f];exact e
 have N:St 0 (((m.heap.update s.heap.objs.size (gm λa=>a.push Value.none)).update s.heap.objs.size (gm λa=>a.pop))):=(W.wk A.in1 H).frame 0 _ _ W.st λb f o e=>D b o (λz=>M (z ▸ f)) e;refine aE ⟨nU F.plain_extend_loop _,codeAny_extend_loopS (W.wk A.in1 H).toS (jZ (HW (by have:=W.len;lia))) _ M _ n 0 _ _ _ rfl (gn _) N v (ItemsOf.nil _) λd c c' r u O=>?_⟩;show au _ A (load s.heap.objs.size >>= _) _ _ d;refine aq (wpAny_load u ?_);refine aE (h d c.toList (W.ord c O) (λb o e=>?_) ?_ ?_)
 .have L:=bC e;refine r.heap b o (λf=>?_) (D b o (dE L) (W.old b o (bD _ e)));rcases bQ.mp f with z|z
  .simp_all
  .rw[jo.mp z]at L;have:=W.new;rw[lI]at this;lia
 .rw[r.gens,W.rest]
 .rw[r.os,W.rest]
theorem O3(p:A.handled=ac)(S:jX P w s.heap a ks)(h:∀(c:ao) (d:List ah) (ss:List Str),cD d ss->ss.Perm ks->d.length<4090->(∀b o,s.heap.get? b=aa o->c.heap.get? b=aa o)->c.gens=s.gens->c.os=s.os->Q d c):au (ax P w) A (collect (.ref a)) Q E s:=by
 obtain⟨r,ss,S,q,n⟩:=S.e;have m:r.size<4090:=by obtain⟨_,_,_,z,_⟩:=S;exact z
 refine En p S λc d pv l j i=>?_;obtain⟨t,g,f⟩:=Am pv q;exact h c d t g (f.trans n) (by have:=pv.length_eq;simp_all) l j i
end
noncomputable def bK(a:List Tx):List Tx:=a.foldl (λks x=>if x∈ks then ks else ks++[x]) []
theorem xg(b:List Tx):met (λi=>(b.map tS).getD i kH) b.length=(bK b).map tS:=by
 have d:∀(l:List Tx) (a:List Tx),(l.map tS).foldl jV (a.map tS)=(l.foldl (λks x=>if x∈ks then ks else ks++[x]) a).map tS:=by
  intro l
  induction l with
  |nil=>intro a;rfl
  |cons x r f=>
   intro a;rw[cn,lD,lD];have:jV (a.map tS) (tS x)=(if x∈a then a else a++[x]).map tS:=by
    unfold jV;have j:tS x∈a.map tS↔x∈a:=by rw[b8];exact⟨λ⟨y,g,e⟩=>by rw[<-uI e];trivial,λh=>⟨x,h,rfl⟩⟩
    grind
   rw[this,f]
 have e:(cu b.length).map (λi=>(b.map tS).getD i kH)=b.map tS:=by
  refine za λi=>?_;rw[jl];by_cases c:i<b.length
  .rw[CI c];simp[c]
  .rw[tF (~~~c),tF (~~~c)];rfl
 unfold met;rw[e];exact d b []
theorem GP(l a:List Tx):(a.Nodup->(l.foldl (λks x=>if x∈ks then ks else ks++[x]) a).Nodup)/\∀x,x∈l.foldl (λks x=>if x∈ks then ks else ks++[x]) a↔x∈a\/x∈l:=by
 induction l generalizing a with
 |nil=>simp
 |cons y r b=>
  rw[lD]
  grind
theorem Is(l:List Tx):(bK l).Nodup:=(GP l []).1 List.nodup_nil
theorem kY(l:List Tx)(x:Tx):x∈bK l↔x∈l:=by rw[bK,(GP l []).2 x];simp
theorem Hh(l:List Tx):(bK l).length<=l.length:=by
 have b:∀(l a:List Tx),(l.foldl (λks x=>if x∈ks then ks else ks++[x]) a).length<=a.length+l.length:=by
  intro l
  induction l with
  |nil=>simp
  |cons x r c=>intro a;rw[lD];refine bT (c _) ?_;split <;> simp <;> lia
 simpa[bK]using b l []
section
variable{X:Cx}
noncomputable def kP(X:Cx)(a:ae)(b:List Tx):HO:=.ext λh=>jX X.prog X.w h a (b.map tS)
theorem NY(y:X.calm=ai):dq X (.type "set") (λxs H Q=>∃(p:ae) (c:List Tx),xs=[.ref p]/\b_ X.K H p (bH c)/\(bK c).length<4000/\∀a,H a=ac->Q (.ref a) (upd H a (kP X a (bK c)))):=by
 intro M s B H xs C Q I r h;obtain⟨p,c,rfl,v,z,q⟩:=h;obtain⟨u,rfl,j⟩:=vals1 r;cases j;obtain⟨d,f,n,E⟩:=I.list v;have x:=f.length;rw[yk]at x;refine Gy (P:=X.prog) (w:=X.w) (I.ok.hd y) (.inl n.isList) (by simpa using om f) (by rw[dW,show d.length=c.length by ac_rfl,xg,cX];trivial) λA i S k=>?_;have g:jX X.prog X.w A s.heap.objs.size ((bK c).map tS):=by
  have e:d.toArray.size=c.length:=∅
  rw[e,xg]at S;exact S
 refine⟨.ref s.heap.objs.size,_,I.laid (t':=i) (o:=kP X s.heap.objs.size (bK c)) (λb o e=>k b o (bC e) e) (bc _) ?_,rfl,q _ I.fresh⟩;obtain⟨J,L,t,D,e,_⟩:=g.ex;exact⟨g,⟨_,e⟩,λG F m l=>m.at l⟩
end
structure cG(K:ay)(mg:Str->Option ah)(x:Str)(st:bb):Prop where
 ex:∃f fd,mg x=aa (.ref f)/\pG K x x st f fd
theorem Bj(h:H p=ac):Same H (upd H p o):=λb u q=>by rw[bi (jS q h)];exact q
theorem yb{xs:List a}(b:0<=k)(h:k.toNat<xs.length):gb xs k=aa xs[k.toNat]:=by
 have e:((k.toNat:Nat):Int)=k:=∅
 have q:=Ry (xs:=xs) (j:=k.toNat) (v:=xs[k.toNat]) (by simp);rwa[e]at q
noncomputable def Ag(N:List Str)(d a:dG)(x:Str)(c:List Str)(b:List Nat):Bool :=
 decide (a.kind=.function)&&a.names.all (λy=>(decide (y.2≠.cell)||decide (a.names.lookup y.1=aa .cell))&&(decide (y.2≠.local)||decide (a.names.lookup y.1=aa .local))&&(decide (y.2≠.free)||decide (d.names.lookup y.1=aa .cell)||decide (d.names.lookup y.1=aa .free)))
 && (decide (a.names.lookup x=aa .local)||decide (a.names.lookup x=aa .cell))&&decide c.Nodup&&decide (c.head?=aa x)&&decide (c.length=b.length+1)&&(b.zip c.tail).all λp=>(decide (N[p.1]?=aa p.2)&&decide (a.names.lookup p.2=aa .free))||(decide (N.length<=p.1)&&decide (a.names.lookup p.2=aa .local))
theorem iy.of{X:Cx}(N:List Str)(g:dG)(n:X.N=N)(d:X.env.scope=g)(h:Ag N g a x f b=ai):iy X a x f b:=by
 subst n d;simp only[Ag,gL,decide_eq_true_eq,tq,y0]at h;obtain⟨⟨⟨⟨⟨⟨t,l⟩,s⟩,r⟩,q⟩,p⟩,o⟩:=h;refine⟨t,λy c e=>(l y c).1.1.elim (λz=>absurd e z) λz=>z,λy c e=>?_,s,λy c e=>?_,r,q,p,λi j y v u=>?_⟩
 .grind
 .rcases(l y c).2 with(z|z)|z
  .trivial
  .exact .inl z
  .exact .inr z
 .have m:(j,y)∈b.zip f.tail:=by
   refine zc.mpr ⟨i,?_⟩;rw[CV];refine⟨u,?_⟩;rw[<-List.drop_one,CW,Nat.add_comm];trivial
  exact o _ m
theorem TJ(a b:Tx):eG (tV a) (tV b)=decide (a=b):=by show(tS a == tS b)=_;rw[vC];simp only[beq_iff_eq,decide_eq_true_eq];exact⟨uI,λh=>by rw[h]⟩
theorem MH(a:List Tx)(x:Tx):((bH a).countP λz=>eG z (tV x))=a.count x:=by unfold bH List.count;rw[List.countP_map];refine List.countP_congr λy _=>?_;simp only[Function.comp_apply,TJ,decide_eq_true_eq,beq_iff_eq]
end L2
namespace Pu
open L2
noncomputable abbrev St:=L2.St
inductive PV where
 |non|bl (b:Bool)|int (i:Int)|str (x:Tx)|tup (xs:List PV)|lst (xs:List PV)|raw (v:V)|exc (c:ah)
noncomputable def m8(a:ae)(c:ah):HO:=.ext λh=>∃o b,h.get? a=aa o/\o.cls=c/\o.data=.fields b/\o.dict=ac
noncomputable def bw:Nat:=1000000
theorem lZ:bw<=bd:=by trivial
noncomputable def eD:HO->Prop
 |.lst _=>True
 |.dK _=>True
 |.dT _=>True
 |.dN _=>True
 |.ins _ _ _=>True
 |.own _=>True
 |_=>False
mutual
noncomputable def aZ(K:ay)(H:Hp)(F:ae->Prop):PV->V->Prop
 |.non,v=>v=.non
 |.bl b,v=>v=.bl b
 |.int i,v=>v=.int i
 |.str x,v=>v=tV x/\x.length<=bw
 |.tup xs,v=>∃a d,v=.ref a/\H a=aa (.tup d)/\Reps K H F xs d
 |.lst xs,v=>∃a d,v=.ref a/\Rd H a (.lst d)/\F a/\Reps K H F xs d
 |.raw u,v=>v=u
 |.exc c,v=>∃a,v=.ref a/\H a=aa (m8 a c)
noncomputable def Reps(K:ay)(H:Hp)(F:ae->Prop):List PV->List V->Prop
 |[],a=>a=[]
 |x::xs,a=>∃v r,a=v::r/\aZ K H F x v/\Reps K H F xs r
end
section
variable{K:ay}{H H':Hp}{F b:ae->Prop}
mutual
theorem aZ.mono(g:∀a,F a->b a)(f:∀a xs,F a->Rd H a (.lst xs)->Rd H' a (.lst xs))(d:∀a o,H a=aa o->¬eD o->H' a=aa o):∀(x:PV) (v:V),aZ K H F x v->aZ K H' b x v
 |.non,_,h=>h
 |.bl _,_,h=>h
 |.int _,_,h=>h
 |.str _,_,h=>h
 |.raw _,_,h=>h
 |.exc _,_,⟨a,e,h⟩=>⟨a,e,d a _ h id⟩
 |.tup xs,_,⟨a,c,e,j,i⟩=>⟨a,c,e,d a _ j id,Reps.mono g f d xs c i⟩
 |.lst xs,_,⟨a,c,e,j,l,i⟩=>⟨a,c,e,f a c l j,g a l,Reps.mono g f d xs c i⟩
theorem Reps.mono(g:∀a,F a->b a)(f:∀a xs,F a->Rd H a (.lst xs)->Rd H' a (.lst xs))(d:∀a o,H a=aa o->¬eD o->H' a=aa o):∀(xs:List PV) (c:List V),Reps K H F xs c->Reps K H' b xs c
 |[],_,h=>h
 |x::xs,_,⟨v,r,e,j,i⟩=>⟨v,r,e,aZ.mono g f d x v j,Reps.mono g f d xs r i⟩
end
theorem Reps.len:∀{xs:List PV}{a:List V},Reps K H F xs a->a.length=xs.length
 |[],_,h=>by rw[show _=[] from h];rfl
 |_::_,_,⟨_,_,e,_,b⟩=>by rw[e,cI,cI,Reps.len b]
theorem Reps.get:∀{xs:List PV}{c:List V}{i:Nat}{x:PV},Reps K H F xs c->xs[i]?=aa x->∃v,c[i]?=aa v/\aZ K H F x v
 |[],_,_,_,_,e=>by trivial
 |x::xs,_,0,y,⟨v,r,e,h1,_⟩,q=>by simp at q;subst q;subst e;exact⟨v,rfl,h1⟩
 |x::xs,_,i+1,y,⟨v,r,e,_,h2⟩,q=>by obtain⟨w,a,b⟩:=Reps.get (i:=i) (x:=y) h2 (by trivial);subst e;exact⟨w,by trivial,b⟩
theorem Reps.back:∀{xs:List PV}{c:List V}{i:Nat}{v:V},Reps K H F xs c->c[i]?=aa v->∃x,xs[i]?=aa x/\aZ K H F x v
 |[],_,_,_,h,e=>by rw[show _=[] from h]at e;trivial
 |x::xs,_,0,y,⟨v,r,e,h1,_⟩,q=>by subst e;simp at q;subst q;exact⟨x,rfl,h1⟩
 |x::xs,_,i+1,y,⟨v,r,e,_,h2⟩,q=>by subst e;obtain⟨w,a,b⟩:=Reps.back (i:=i) (v:=y) h2 (by trivial);exact⟨w,by trivial,b⟩
theorem Reps.app:∀{xs a:List PV}{c b:List V},Reps K H F xs c->Reps K H F a b->Reps K H F (xs++a) (c++b)
 |[],_,_,_,h,g=>by rw[show _=[] from h];exact g
 |x::xs,_,_,_,⟨v,r,e,f,d⟩,g=>by subst e;exact⟨v,_,rfl,f,Reps.app d g⟩
theorem Reps.one(h:aZ K H F x v):Reps K H F [x] [v]:=⟨v,[],rfl,h,rfl⟩
theorem Reps.drop:∀(n:Nat) {xs:List PV}{a:List V},Reps K H F xs a->Reps K H F (xs.drop n) (a.drop n)
 |0,_,_,h=>h
 |_+1,[],_,h=>by rw[show _=[] from h];rfl
 |n+1,_::_,_,⟨_,_,e,_,h2⟩=>by subst e;exact Reps.drop n h2
theorem Reps.take:∀(n:Nat) {xs:List PV}{a:List V},Reps K H F xs a->Reps K H F (xs.take n) (a.take n)
 |0,_,_,_=>by rfl
 |_+1,[],_,h=>by rw[show _=[] from h];rfl
 |n+1,_::_,_,⟨v,_,e,h1,h2⟩=>by subst e;exact⟨v,_,rfl,h1,Reps.take n h2⟩
theorem Reps.set(b:aZ K H F x v):∀(n:Nat) {xs:List PV}{a:List V},Reps K H F xs a->Reps K H F (xs.set n x) (a.set n v)
 |_,[],_,h=>by rw[show _=[] from h];rfl
 |0,_::_,_,⟨_,r,e,_,h2⟩=>by subst e;exact⟨v,r,rfl,b,h2⟩
 |n+1,_::_,_,⟨w,_,e,h1,h2⟩=>by subst e;exact⟨w,_,rfl,h1,Reps.set b n h2⟩
end
structure bv(O O' F F':ae->Prop)(H H':Hp):Prop where
 fro:∀a,F a->F' a
 keep:∀b o,H b=aa o->¬O b->H' b=aa o
 there:∀b o,H b=aa o->∃o',H' b=aa o'
 fnew:∀a,F' a->F a\/H a=ac\/O a
 onew:∀a,O' a->O a\/H a=ac
theorem bv.refl(O F:ae->Prop)(H:Hp):bv O O F F H H:=⟨λ_ h=>h,λ_ _ h _=>h,λ_ o h=>⟨o,h⟩,λ_ h=>.inl h,λ_ h=>.inl h⟩
theorem bv.trans(g:bv O i F m H d)(k:bv i f m l d j):bv O f F l H j where
 fro:=λa h=>k.fro a (g.fro a h)
 keep:=λb o h n=>k.keep b o (g.keep b o h n) λz=>(g.onew b z).elim n λq=>by lia
 there:=λb o h=>let ⟨o',c⟩:=g.there b o h;k.there b o' c
 fnew:=λa h=>by
  have back:d a=ac->H a=ac\/O a:=λz=>by
   cases q:H a with
   |none=>simp
   |some o=>obtain⟨o',c⟩:=g.there a o q;lia
  rcases k.fnew a h with z|z|z
  .exact g.fnew a z
  .exact .inr (back z)
  .exact .inr ((g.onew a z).symm)
 onew:=λa h=>by
  rcases k.onew a h with z|z
  .exact g.onew a z
  .cases q:H a with
   |none=>exact .inr rfl
   |some o=>obtain⟨o',c⟩:=g.there a o q;lia
noncomputable def Fit(O F:ae->Prop)(H:Hp):Prop:=∀b,O b->¬F b/\∃o,H b=aa o/\eD o
section
variable{K:ay}{O c F b:ae->Prop}{H H':Hp}
theorem bv.imm(g:bv O c F b H H')(f:Fit O F H)(h:H a=aa o)(n:¬eD o):H' a=aa o :=g.keep _ _ h λz=>by obtain⟨_,d,j,i⟩:=f a z;lia
theorem bv.lst(g:bv O c F b H H')(f:Fit O F H)(d:F a)(h:Rd H a (.lst xs)):Rd H' a (.lst xs):=by
 have no:¬O a:=λz=>(f a z).1 d;rcases h with h|⟨o,h⟩
 .exact .inl (g.keep _ _ h no)
 .exact .inr ⟨o,g.keep _ _ h no⟩
theorem aZ.grow(g:bv O c F b H H')(f:Fit O F H)(h:aZ K H F x v):aZ K H' b x v:=aZ.mono g.fro (λ_ _ a q=>g.lst f a q) (λ_ _ q n=>g.imm f q n) x v h
theorem Reps.grow(g:bv O c F b H H')(f:Fit O F H)(h:Reps K H F x v):Reps K H' b x v:=Reps.mono g.fro (λ_ _ a q=>g.lst f a q) (λ_ _ q n=>g.imm f q n) x v h
end
theorem _root_.L2.Same.rd(e:Same H b)(h:Rd H a u):Rd b a u:=h.elim (λz=>.inl (e _ _ z)) λ⟨o,z⟩=>.inr ⟨o,e _ _ z⟩
structure Al(F F':ae->Prop)(H H':Hp):Prop where
 fro:∀a,F a->F' a
 same:Same H H'
 fnew:∀a,F' a->F a\/(H a=ac/\∃o,H' a=aa o)
theorem Al.refl(F:ae->Prop)(H:Hp):Al F F H H:=⟨λ_ h=>h,Same.refl H,λ_ h=>.inl h⟩
theorem Al.grow(a:Al F d H c):bv O O F d H c :=⟨a.fro,λb o h _=>a.same b o h,λb o h=>⟨o,a.same b o h⟩,λb h=>(a.fnew b h).imp id λz=>.inl z.1,λ_ h=>.inl h⟩
theorem Al.rep{K:ay}{H b:Hp}(a:Al F c H b){x:PV}{v:V}(h:aZ K H F x v):aZ K b c x v:=aZ.mono a.fro (λ_ _ _ q=>a.same.rd q) (λ_ _ q _=>a.same _ _ q) x v h
theorem Al.reps{K:ay}{H b:Hp}(a:Al F c H b){x:List PV}{v:List V}(h:Reps K H F x v):Reps K b c x v:=Reps.mono a.fro (λ_ _ _ q=>a.same.rd q) (λ_ _ q _=>a.same _ _ q) x v h
theorem Al.trans(a:Al F i H f)(b:Al i g f d):Al F g H d :=
 ⟨λc h=>b.fro c (a.fro c h),a.same.trans b.same,λc h=>by
  rcases b.fnew c h with z|⟨z,w⟩
  .rcases a.fnew c z with y|⟨y,o,q⟩
   .exact .inl y
   .exact .inr ⟨y,o,b.same _ _ q⟩
  .exact .inr ⟨a.same.free z,w⟩⟩
theorem Al.new(h:H l=ac):Al F (λa=>F a\/a=l) H (upd H l o) :=⟨λ_ h=>.inl h,Bj h,λa z=>z.imp id λe=>by subst e;exact⟨h,o,upd_same⟩⟩
theorem Al.new0(h:H l=ac):Al F F H (upd H l o):=⟨λ_ h=>h,Bj h,λa z=>.inl z⟩
inductive PO where
 |lst (xs:List PV)|dK (kvs:List (aI×PV))|lls (gx:List (List PV))|ins (C:ae) (fs:List (Str×PV))|dT (kvs:List (List aI×PV))|dN (kvs:List ((Tx×List Tx)×PV))|inl (C:ae) (fs:List (Str×PV)) (y:Str) (xs:List PV)|dL (kvs:List (aI×List PV))
noncomputable def gf:PO->Bool
 |.lls _=>am
 |.dL _=>am
 |.inl ..=>am
 |_=>ai
inductive Slot where
 |none|val (v:PV)|own (o:PO)
noncomputable abbrev aj:=List Slot
noncomputable def h_(K:ay)(H:Hp)(F:ae->Prop)(a:List (aI×PV))(b:List (aI×V)):Prop:=kD (λ(p:aI×PV) (q:aI×V)=>p.1=q.1/\aZ K H F p.2 q.2) a b
noncomputable def uL(K:ay)(H:Hp)(F:ae->Prop)(fs:List (Str×PV))(a:List (Str×V)):Prop:=kD (λ(p:Str×PV) (q:Str×V)=>p.1=q.1/\aZ K H F p.2 q.2) fs a
noncomputable def yu(K:ay)(H:Hp)(F:ae->Prop)(a:List (List aI×PV))(b:List (List aI×V)):Prop:=kD (λ(p:List aI×PV) (q:List aI×V)=>p.1=q.1/\aZ K H F p.2 q.2) a b
noncomputable def nS(k:Tx×List Tx):Str×List Str:=(tS k.1,k.2.map tS)
noncomputable def x8(K:ay)(H:Hp)(F:ae->Prop)(a:List ((Tx×List Tx)×PV))(b:List ((Str×List Str)×V)):Prop:=kD (λ(p:(Tx×List Tx)×PV) (q:(Str×List Str)×V)=>nS p.1=q.1/\aZ K H F p.2 q.2) a b
noncomputable def vq(K:ay)(H:Hp)(F:ae->Prop)(c:List (List PV))(d:List ae):Prop:=kD (λ(xs:List PV) (b:ae)=>∃a,H b=aa (.lst a)/\Reps K H F xs a) c d
noncomputable def fe(K:ay)(H:Hp)(F:ae->Prop)(j:PO)(a:ae)(S:ae->Prop):Prop :=
 match j with
 |.lst xs=>(∃h,H a=aa (.lst h)/\Reps K H F xs h)/\∀b,S b↔b=a
 |.dK d=>(∃f,H a=aa (.dK f)/\h_ K H F d f)/\∀b,S b↔b=a
 |.lls l=>∃g,H a=aa (.lst (g.map .ref))/\vq K H F l g/\g.Nodup/\a∉g/\∀b,S b↔b=a\/b∈g
 |.dL d=>∃g:List ae,H a=aa (.dK ((d.map (·.1)).zip (g.map V.ref)))/\vq K H F (d.map (·.2)) g/\g.Nodup/\a∉g/\∀b,S b↔b=a\/b∈g
 |.ins C fs=>(∃i f,H a=aa (.ins C i f)/\uL K H F fs f)/\∀b,S b↔b=a
 |.dT d=>(∃f,H a=aa (.dT f)/\yu K H F d f)/\∀b,S b↔b=a
 |.dN d=>(∃f,H a=aa (.dN f)/\x8 K H F d f)/\∀b,S b↔b=a
 |.inl C fs y xs=>∃i f b h,H a=aa (.ins C i (f++[(y,.ref b)]))/\uL K H F fs f/\fs.lookup y=ac/\H b=aa (.lst h)/\Reps K H F xs h/\a≠b/\∀c,S c↔c=a\/c=b
structure aX(K:ay)(F:ae->Prop)(S:Nat->ae->Prop)(ε:aj)(σ:St)(H:Hp):Prop where
 len:ε.length=σ.length
 ex:∀a,F a->∃o,H a=aa o
 val:∀(i:Nat) (pv:PV),ε[i]?=aa (.val pv)->∃v,σ[i]?=aa (aa v)/\aZ K H F pv v
 own:∀(i:Nat) (po:PO),ε[i]?=aa (.own po)->∃a,σ[i]?=aa (aa (.ref a))/\fe K H F po a (S i)
 foot:∀(i:Nat) (b:ae),S i b->(∃po,ε[i]?=aa (.own po))/\¬F b/\∃o,H b=aa o/\eD o
 dist:∀(i j:Nat) (b:ae),S i b->S j b->i=j
noncomputable def U(S:Nat->ae->Prop)(b:ae):Prop:=∃i,S i b
section
variable{K:ay}{F d:ae->Prop}{S:Nat->ae->Prop}{g:aj}{f:St}{H H':Hp}
theorem aX.fit(r:aX K F S g f H):Fit (U S) F H:=λb ⟨i,h⟩=>(r.foot i b h).2
theorem h_.mono(i:∀x v,aZ K H F x v->aZ K H' d x v)(h:h_ K H F a b):h_ K H' d a b:=by
 unfold h_ at h ⊢
 induction h with
 |nil=>exact .nil
 |cons r _ c=>exact .cons ⟨r.1,i _ _ r.2⟩ c
theorem uL.mono(c:∀x v,aZ K H F x v->aZ K H' d x v)(h:uL K H F fs a):uL K H' d fs a:=by
 unfold uL at h ⊢
 induction h with
 |nil=>exact .nil
 |cons r _ b=>exact .cons ⟨r.1,c _ _ r.2⟩ b
theorem yu.mono(i:∀x v,aZ K H F x v->aZ K H' d x v)(h:yu K H F a b):yu K H' d a b:=by
 unfold yu at h ⊢
 induction h with
 |nil=>exact .nil
 |cons r _ c=>exact .cons ⟨r.1,i _ _ r.2⟩ c
theorem x8.mono(i:∀x v,aZ K H F x v->aZ K H' d x v)(h:x8 K H F a b):x8 K H' d a b:=by
 unfold x8 at h ⊢
 induction h with
 |nil=>exact .nil
 |cons r _ c=>exact .cons ⟨r.1,i _ _ r.2⟩ c
theorem vq.mono(l:∀x v,Reps K H F x v->Reps K H' d x v)(c:∀b o,b∈a->H b=aa o->H' b=aa o)(h:vq K H F i a):vq K H' d i a:=by
 unfold vq at h ⊢
 induction h with
 |nil=>exact .nil
 |cons r _ m=>obtain⟨j,q,p⟩:=r;exact .cons ⟨j,c _ _ (by simp) q,l _ _ p⟩ (m λb o n=>c b o (by simp[n]))
theorem fe.mono(l:∀x v,aZ K H F x v->aZ K H' d x v)(m:∀x v,Reps K H F x v->Reps K H' d x v)(c:∀b o,B b->H b=aa o->H' b=aa o)(h:fe K H F r a B):fe K H' d r a B:=by
 cases r with
 |lst xs=>obtain⟨⟨p,e,q⟩,w⟩:=h;exact⟨⟨p,c a _ ((w a).mpr rfl) e,m _ _ q⟩,w⟩
 |dK j=>obtain⟨⟨i,e,q⟩,w⟩:=h;exact⟨⟨i,c a _ ((w a).mpr rfl) e,q.mono l⟩,w⟩
 |lls I=>obtain⟨A,e,q,t,s,w⟩:=h;exact⟨A,c a _ ((w a).mpr (.inl rfl)) e,q.mono m λb o u=>c b o ((w b).mpr (.inr u)),t,s,w⟩
 |dL j=>obtain⟨A,e,q,t,s,w⟩:=h;exact⟨A,c a _ ((w a).mpr (.inl rfl)) e,q.mono m λb o u=>c b o ((w b).mpr (.inr u)),t,s,w⟩
 |ins C fs=>obtain⟨⟨z,i,e,q⟩,w⟩:=h;exact⟨⟨z,i,c a _ ((w a).mpr rfl) e,q.mono l⟩,w⟩
 |dT j=>obtain⟨⟨i,e,q⟩,w⟩:=h;exact⟨⟨i,c a _ ((w a).mpr rfl) e,q.mono l⟩,w⟩
 |dN j=>obtain⟨⟨i,e,q⟩,w⟩:=h;exact⟨⟨i,c a _ ((w a).mpr rfl) e,q.mono l⟩,w⟩
 |inl C fs y xs=>obtain⟨z,i,b,p,e,q,n,G,D,E,w⟩:=h;exact⟨z,i,b,p,c a _ ((w a).mpr (.inl rfl)) e,q.mono l,n,c b _ ((w b).mpr (.inr rfl)) G,m _ _ D,E,w⟩
theorem aX.al(r:aX K F S g f H)(a:Al F d H H'):aX K d S g f H' where
 len:=r.len
 ex:=λb h=>(a.fnew b h).elim (λz=>let ⟨o,q⟩:=r.ex b z;⟨o,a.same _ _ q⟩) λz=>z.2
 val:=λi pv e=>let ⟨v,j,l⟩:=r.val i pv e;⟨v,j,a.rep l⟩
 own:=λi m e=>let ⟨b,j,l⟩:=r.own i m e;⟨b,j,l.mono (λ_ _ q=>a.rep q) (λ_ _ q=>a.reps q) λc o _ q=>a.same _ _ q⟩
 foot:=λi b h=>by
  obtain⟨j,l,o,p,n⟩:=r.foot i b h;refine⟨j,λz=>?_,o,a.same _ _ p,n⟩;rcases a.fnew b z with y|⟨y,_⟩
  all_goals lia
 dist:=r.dist
end
inductive R(α:Type) where
 |ok (a:α) (ε:aj)|er (c:ah) (ε:aj)|no
noncomputable abbrev ad(α:Type):=aj->R α
noncomputable def R.bind{d b:Type}(r:R d)(k:d->aj->R b):R b:=match r with
 |.ok a ε=>k a ε
 |.er c ε=>.er c ε
 |.no=>.no
noncomputable def aD{b:Type}(o:Option b)(ε:aj):R b:=match o with
 |some a=>.ok a ε
 |none=>.no
@[simp] theorem R.bind_ok(a:b)(ε:aj)(k:b->aj->R c):(R.ok a ε).bind k=k a ε:=rfl
@[simp] theorem R.bind_er(c:ah)(a:aj)(k:b->aj->R d):(R.er c a:R b).bind k=.er c a:=rfl
@[simp] theorem R.bind_no(k:a->aj->R b):(R.no:R a).bind k=.no:=rfl
@[simp] theorem ci(a:c)(b:aj):aD (aa a) b=.ok a b:=rfl
@[simp] theorem U9(a:aj):aD (ac:Option b) a=.no:=rfl
noncomputable def Ok(K:ay)(E:XK)(h:St)(F:ae->Prop)(S:Nat->ae->Prop)(H:Hp){i:Type}(r:R i)(C:i->aj->(ae->Prop)->(Nat->ae->Prop)->Hp->Prop):Prop:=match r with
 |.ok a b=>∀g f d,aX K g f b h d->bv (U S) (U f) F g H d->C a b g f d
 |.er c b=>∀x g f d,aX K g f b h d->bv (U S) (U f) F g H d->E c x d
 |.no=>False
section
variable{K:ay}{E:XK}{b:St}{F:ae->Prop}{S:Nat->ae->Prop}{H:Hp}{d i:Type}{C C':d->aj->(ae->Prop)->(Nat->ae->Prop)->Hp->Prop}{D:i->aj->(ae->Prop)->(Nat->ae->Prop)->Hp->Prop}
theorem Ok.imp(h:Ok K E b F S H r C)(f:∀a j n l m,aX K n l j b m->bv (U S) (U l) F n H m->C a j n l m->C' a j n l m):Ok K E b F S H r C':=by
 cases r with
 |ok a j=>exact λn l m r g=>f a j n l m r g (h n l m r g)
 |er c j=>exact h
 |no=>exact h
theorem Ok.from(h:Ok K E b F S H r D)(g:bv (U S) (U o) F q H p):Ok K E b q o p r D:=by
 cases r with
 |ok a f=>exact λn l m j g'=>h n l m j (g.trans g')
 |er c f=>exact λx n l m j g'=>h x n l m j (g.trans g')
 |no=>exact h
theorem Ok.bind{r:R d}(h:Ok K E b F S H (r.bind k) D):Ok K E b F S H r (λa ε1 m j l=>Ok K E b m j l (k a ε1) D):=by
 cases r with
 |ok a f=>exact λp n o r g=>Ok.from h g
 |er c f=>exact h
 |no=>exact h
end
structure Bx(p:Prop):Prop where
 run:p
noncomputable def iu(X:Cx)(e:aB):TE:=λa H Q=>Bx (∀b s,Inv X b a H s->au X.zz X.A (aQ e X.env) (EP X b a Q) X.xe s)
noncomputable def zH(X:Cx)(e:aB):TT:=λa H Q=>Bx (∀b s,Inv X b a H s->au X.zz X.A (nH e X.env (aQ e X.env)) (TP X b a Q) X.xe s)
noncomputable def wpS(X:Cx)(c:bb):TS:=λD b H=>Bx (∀a s,Inv X a b H s->au X.zz X.A (exec c X.env) (SP X a D) X.xe s)
noncomputable def oC(X:Cx)(c:List bb):TS:=λD b H=>Bx (∀a s,Inv X a b H s->au X.zz X.A (execs c X.env) (SP X a D) X.xe s)
section
variable{X:Cx}{b:bb}
theorem bF:PE X e (iu X e):=λc s _ _ _ I h=>h.run c s I
theorem nj:PT X e (zH X e):=λc s _ _ _ I h=>h.run c s I
theorem FD:PS X b (wpS X b):=λc s _ _ _ I h=>h.run c s I
theorem pY:lh X a (oC X a):=λc s _ _ _ I h=>h.run c s I
theorem bU(h:PE X e t)(q:t c H Q):iu X e c H Q:=⟨λd s I=>h d s c H Q I q⟩
theorem qf(h:PT X e t)(q:t c H Q):zH X e c H Q:=⟨λd s I=>h d s c H Q I q⟩
theorem gi(h:PS X b t)(q:t D c H):wpS X b D c H:=⟨λd s I=>h d s c H D I q⟩
theorem Bw(h:lh X a t)(q:t D c H):oC X a D c H:=⟨λd s I=>h d s c H D I q⟩
end
noncomputable def DE(X:Cx)(E:XK)(e:aB)(d:ad PV):Prop :=
 ∀F S ε a H Q,aX X.K F S ε a H->Ok X.K E a F S H (d ε) (λpv _ c _ b=>∀v,aZ X.K b c pv v->Q v b)->iu X e a H Q
noncomputable def DN(X:Cx)(E:XK)(e:aB)(d:ad PO):Prop :=
 ∀F S g c H Q,aX X.K F S g c H->Ok X.K E c F S H (d g) (λj _ i l f=>∀a h,fe X.K f i j a h->(∀b,h b->H b=ac/\¬i b/\¬U l b/\∃o,f b=aa o/\eD o)->Q (.ref a) f)->iu X e c H Q
noncomputable def DT(X:Cx)(E:XK)(e:aB)(d:ad Bool):Prop :=
 ∀F S ε a H Q,aX X.K F S ε a H->Ok X.K E a F S H (d ε) (λb _ _ _ c=>Q b c)->zH X e a H Q
open L2
section
variable{X:Cx}{E:XK}{a b c:aB}{m db A:ad PV}{pos:Pos}
noncomputable def dC(pv:PV):ad PV:=λε=>.ok pv ε
theorem a8{i j pos}:DE X E (.Constant (.int i) j pos) (dC (.int i)):=λF S f d H Q r h=>bU B5 (h F S H r (bv.refl ..) _ rfl)
theorem ni{i j pos}:DE X E (.Constant (.bool i) j pos) (dC (.bl i)):=λF S f d H Q r h=>bU Qt (h F S H r (bv.refl ..) _ rfl)
theorem KZ{j pos}:DE X E (.Constant .none j pos) (dC .non):=λF S f d H Q r h=>bU QJ (h F S H r (bv.refl ..) _ rfl)
theorem l_(l:Tx){j pos}(d:x=tS l:=by decide +kernel)(i:l.length<=bw:=by decide):DE X E (.Constant (.str x) j pos) (dC (.str l)):=λF S g f H Q r h=>bU O0 (h F S H r (bv.refl ..) _ (by rw[d];trivial))
noncomputable def dV(i:Nat):ad PV:=λε=>match ε[i]? with
 |some (.val pv)=>.ok pv ε
 |_=>.no
theorem ar(i:Nat)(g:X.N[i]?=aa x:=by rfl)(d:dr X.env.scope x:=by eq_refl)(f:ap x:=by decide)(n:aO x:=by decide):DE X E (.Name x pos) (dV i):=λF S q o H Q r h=>by
 unfold dV at h;split at h
 .rename_i p e;obtain⟨v,l,j⟩:=r.val i p e;exact bU (eJ g d f n) ⟨v,l,h F S H r (bv.refl ..) v j⟩
 .exact h.elim
theorem BO(h:∃t,X.mg x=aa (.int i t))(d:Gl X x:=by rfl)(f:ap x:=by decide):DE X E (.Name x pos) (dC (.int i)):=λF S j g H Q r q=>by obtain⟨t,e⟩:=h;exact bU (Bb (v:=.int i) d e ⟨t,rfl⟩ f) (q F S H r (bv.refl ..) _ rfl)
theorem HY(h:∃t,X.mg x=aa (.str (tS l) t))(f:Gl X x:=by rfl)(d:l.length<=bw:=by decide)(g:ap x:=by decide):DE X E (.Name x pos) (dC (.str l)):=λF S j i H Q r q=>by obtain⟨t,e⟩:=h;exact bU (Bb (v:=tV l) f e ⟨t,rfl⟩ g) (q F S H r (bv.refl ..) _ ⟨rfl,d⟩)
noncomputable def aX.frz{K:ay}{F:ae->Prop}{S:Nat->ae->Prop}{n:aj}{p:St}{H:Hp}{i:Nat}{xs:List PV}(r:aX K F S n p H)(e:n[i]?=aa (.own (.lst xs))):∃a u G,aX K u G (n.set i (.val (.lst xs))) p H/\bv (U S) (U G) F u H H/\p[i]?=aa (aa (.ref a))/\aZ K H u (.lst xs) (.ref a):=by
 obtain⟨a,D,⟨I,B,J⟩,C⟩:=r.own i _ e;have y:i<n.length:=(c_.mp e).1;have sub:∀b,F b->F b\/b=a:=λb h=>.inl h;have mono:∀x v,aZ K H F x v->aZ K H (λb=>F b\/b=a) x v:=aZ.mono sub (λ_ _ _ q=>q) (λ_ _ q _=>q);have d:∀x v,Reps K H F x v->Reps K H (λb=>F b\/b=a) x v:=Reps.mono sub (λ_ _ _ q=>q) (λ_ _ q _=>q);have w:aZ K H (λb=>F b\/b=a) (.lst xs) (.ref a):=⟨a,I,rfl,.inl B,.inr rfl,d _ _ J⟩
 refine⟨a,λb=>F b\/b=a,λj b=>S j b/\j≠i,⟨by rw[iJ];exact r.len,λb h=>?_,λj pv q=>?_,λj t q=>?_,λj b h=>?_,λj k b M L=>r.dist j k b M.1 L.1⟩,?_,D,w⟩
 .rcases h with h|rfl
  .exact r.ex b h
  .exact⟨_,B⟩
 .by_cases f:i=j
  .subst f;rw[ie y]at q;cases q;exact⟨_,D,w⟩
  .rw[eE f]at q;obtain⟨v,l,g⟩:=r.val j pv q;exact⟨v,l,mono _ _ g⟩
 .by_cases f:i=j
  .subst f;rw[ie y]at q;cases q
  .rw[eE f]at q;obtain⟨v,l,g⟩:=r.own j t q;refine⟨v,l,?_⟩;have s:=g.mono (H':=H) mono d λ_ _ _ z=>z;have N:(λb=>S j b/\j≠i)=S j:=by funext b;simp[dQ f]
   rw[N];exact s
 .obtain⟨⟨t,l⟩,g,s⟩:=r.foot j b h.1;refine⟨⟨t,by rw[eE (dQ h.2)];exact l⟩,λz=>?_,s⟩;rcases z with z|rfl
  .exact g z
  .exact h.2 (r.dist j i b h.1 ((C b).mpr rfl))
 .refine⟨λ_ h=>.inl h,λb o h _=>h,λb o h=>⟨o,h⟩,λb h=>?_,λb ⟨j,h⟩=>.inl ⟨j,h.1⟩⟩;rcases h with h|rfl
  .exact .inl h
  .exact .inr (.inr ⟨i,(C b).mpr rfl⟩)
noncomputable def dM(i:Nat):ad PV:=λd=>match d[i]? with
 |some (.own (.lst xs))=>.ok (.lst xs) (d.set i (.val (.lst xs)))
 |_=>.no
theorem TU(i:Nat)(l:X.N[i]?=aa x:=by rfl)(f:dr X.env.scope x:=by eq_refl)(j:ap x:=by decide)(q:aO x:=by decide):DE X E (.Name x pos) (dM i):=λF S v u H Q r h=>by
 unfold dM at h;split at h
 .rename_i p e;obtain⟨a,t,s,d,g,o,n⟩:=r.frz e;exact bU (eJ l f j q) ⟨_,o,h t s H d g _ n⟩
 .exact h.elim
noncomputable def P2(K:ay)(r:R2)(f:PV->PV->Option PV):Prop:=∀(F:ae->Prop) (H:Hp) (x y:PV) (v u:V) (Q:VK) (pv:PV),aZ K H F x v->aZ K H F y u->f x y=aa pv->(∀w g d,Al F g H d->aZ K d g pv w->Q w d)->r v u H Q
noncomputable def d2(f:PV->PV->Option PV)(m db:ad PV):ad PV:=λε=>(m ε).bind λx ε1=>(db ε1).bind λy d=>aD (f x y) d
theorem yv(G:P2 X.K r f)(J:DE X E a m)(I:DE X E b db)(C:aX X.K F S j d H)(h:Ok X.K E d F S H (d2 f m db j) (λpv _ q _ g=>∀v,aZ X.K g q pv v->Q v g)):iu X a d H λx p=>iu X b d p λy o=>r x y o Q:=by
 refine J F S j d H _ C ((Ok.bind h).imp λx i T O p s W L v z=>?_);refine I T O i d p _ s ((Ok.bind L).imp λy t P N o D M n u B=>?_);cases e:f x y with
 |none=>rw[e]at n;trivial
 |some pv=>rw[e]at n;exact G P o x y v u Q pv (z.grow M s.fit) B e λw q g al l=>n q N g (D.al al) al.grow w l
theorem cp(j:bZ X (iH d) r)(i:P2 X.K r f)(n:DE X E a m)(l:DE X E b db):DE X E (.BinOp a d b pos) (d2 f m db):=λF S p o H Q g h=>bU (Km j bF bF) (yv i n l g h)
theorem sJ(j:bZ X (df d) r)(i:P2 X.K r f)(o:DE X E a m)(n:DE X E b db)(l:nI d b=am):DE X E (.Compare a [d] [b] pos) (d2 f m db):=λF S q p H Q g h=>bU (RD j bF bF l) (yv i o n g h)
noncomputable def ka:PV->Option Bool
 |.bl b=>aa b
 |_=>ac
noncomputable def dB(d:ad PV):ad Bool:=λε=>(d ε).bind λx ε1=>aD (ka x) ε1
theorem Ic{K:ay}{x:PV}{v:V}{k:Bool}(h:aZ K H F x v)(e:ka x=aa k):v=.bl k:=by
 cases x <;> simp[ka]at e;subst e;exact h
theorem pw{Q:Bool->Hp->Prop}(h:Ok X.K E i F S H (dB d j) (λk _ _ _ f=>Q k f)):Ok X.K E i F S H (d j) (λpv _ s _ f=>∀v,aZ X.K f s pv v->∃k,v=.bl k/\Q k f):=by
 refine(Ok.bind h).imp λx l r p q o t g v n=>?_;cases e:ka x with
 |none=>rw[e]at g;trivial
 |some k=>rw[e]at g;exact⟨k,Ic n e,g r p q o (bv.refl ..)⟩
theorem f_(j:bZ X (df d) r)(i:P2 X.K r f)(o:DE X E a m)(n:DE X E b db)(l:nI d b=am):DT X E (.Compare a [d] [b] pos) (dB (d2 f m db)):=λF S s q H Q g h=>qf (FT j bF bF l) (yv (Q:=λx p=>∃k,x=.bl k/\Q k p) i o n g (pw h))
theorem qm(n:DE X E e d)(l:∀f,nH e X.env f=(do let v <-f;standAt e.pos;lv [v] (truthy v)):=by intro _;rfl):DT X E e (dB d):=λF S i g H Q j h=>qf (RN bF l) (n F S i g H _ j (pw h))
noncomputable def sd(f g:PV->PV->Option PV)(m db A:ad PV):ad PV:=λj=>(m j).bind λx i=>(db i).bind λy d=>(aD ((f x y).bind ka) d).bind λk d=>
 match k with
 |true=>(A d).bind λz h=>aD (g y z) h
 |false=>.ok (.bl am) d
theorem HQ(hp:P2 X.K r f)(cY:P2 X.K O g)(ha:DE X E a m)(hb:DE X E b db)(hc:DE X E c A)(rl:aX X.K F S s i H)(h:Ok X.K E i F S H (sd f g m db A s) (λpv _ l _ d=>∀v,aZ X.K d l pv v->Q v d)):z6 r O (iu X a) (iu X b) (iu X c) i H Q:=by
 refine ha F S s i H _ rl ((Ok.bind h).imp λx q F1 S1 H1 N g1 h1 v rv=>?_);refine hb F1 S1 q i H1 _ N ((Ok.bind h1).imp λy n T L P r2 g2 j u M=>?_);cases e:f x y with
 |none=>rw[e]at j;trivial
 |some pv=>
  rw[e]at j;refine hp T P x y v u _ pv (rv.grow g2 N.fit) M e λw l d al B=>?_;cases J:ka pv with
  |none=>rw[eZ,J]at j;trivial
  |some k=>
   rw[eZ,J]at j;refine⟨k,Ic B J,?_⟩;have D:=r2.al al;cases k with
   |false=>exact oB (Ok.from j al.grow l L d D (bv.refl ..) _ rfl)
   |true=>
    have h3:Ok X.K E i T L P ((A n).bind λz p=>aD (g y z) p) (λpv _ l _ d=>∀v,aZ X.K d l pv v->Q v d):=j;refine oH (hc l L n i d _ D ((Ok.bind (Ok.from h3 al.grow)).imp λz W F4 S4 H4 r4 g4 G Z C=>?_));cases I:g y z with
    |none=>rw[I]at G;trivial
    |some pz=>rw[I]at G;exact cY F4 H4 y z u Z Q pz ((al.rep M).grow g4 D.fit) C I λY F5 H5 o t=>G F5 S4 H5 (r4.al o) o.grow Y t
theorem TB(o:bZ X (df i) r)(u:bZ X (df d) j)(n:P2 X.K r f)(v:P2 X.K j g)(t:DE X E a m)(s:DE X E b db)(q:DE X E c A)(p:lastMarks [i,d] [b,c]=am:=by with_unfolding_all rfl):DE X E (.Compare a [i,d] [b,c] pos) (sd f g m db A):=λF S x w H Q l h=>bU (QF o u bF bF bF p) (HQ n v t s q l h)
theorem Mu(o:bZ X (df i) r)(u:bZ X (df d) j)(n:P2 X.K r f)(v:P2 X.K j g)(t:DE X E a m)(s:DE X E b db)(q:DE X E c A)(p:lastMarks [i,d] [b,c]=am:=by with_unfolding_all rfl):DT X E (.Compare a [i,d] [b,c] pos) (dB (sd f g m db A)):=λF S z y H Q l h=>qf (Q6 o u bF bF bF p) (HQ (Q:=λx w=>∃k,x=.bl k/\Q k w) n v t s q l (pw h))
variable{n B:ad Bool}{rest:List aB}
noncomputable def DW(X:Cx)(E:XK)(e:aB)(d:ad Bool):Prop:=∀F S g f H Q,aX X.K F S g f H->Ok X.K E f F S H (d g) (λb _ _ _ i=>Q b i)->∀(h:Sem ah) ag s,Inv X ag f H s->au X.zz X.A (nH e X.env h) (TP X ag f Q) X.xe s
noncomputable def Nf(X:Cx)(e:aB):TT:=λd H Q=>∀(f:Sem ah) ag s,Inv X ag d H s->au X.zz X.A (nH e X.env f) (TP X ag d Q) X.xe s
theorem HS:PW X e (Nf X e):=λd f s _ _ _ I h=>h d f s I
theorem DW.dt(h:DW X E e d):DT X E e d:=λF S ε f H Q g q=>⟨λi s I=>h F S ε f H Q g q _ i s I⟩
noncomputable def ou(n B:ad Bool):ad Bool:=λε=>(n ε).bind λk ε1=>match k with
 |true=>B ε1
 |false=>.ok am ε1
noncomputable def jO(n B:ad Bool):ad Bool:=λε=>(n ε).bind λk d=>match k with
 |true=>.ok ai d
 |false=>B d
noncomputable def mP(n:ad Bool):ad Bool:=λf=>(n f).bind λk d=>.ok (!k) d
theorem K0(h:DT X E a n):DW X E (.BoolOp .And [a] pos) n:=λF S f d H Q g q i j s I=>Qs nj i j s d H Q I (h F S f d H Q g q)
theorem uy(h:DT X E a n):DW X E (.BoolOp .Or [a] pos) n:=λF S f d H Q g q i j s I=>OI nj i j s d H Q I (h F S f d H Q g q)
theorem Ol(t:DT X E a n)(r:DW X E (.BoolOp .And (b::rest) pos) B):DW X E (.BoolOp .And (a::b::rest) pos) (ou n B):=λF S o d H Q p q u v s I=>by
 refine Oy nj HS u v s d H Q I (t F S o d H _ p ((Ok.bind q).imp λk f l i j g w h=>?_));cases k with
 |true=>exact oH (r l i f d j Q g h)
 |false=>exact oB (h l i j g (bv.refl ..))
theorem uz(t:DT X E a n)(r:DW X E (.BoolOp .Or (b::rest) pos) B):DW X E (.BoolOp .Or (a::b::rest) pos) (jO n B):=λF S o d H Q p q u v s I=>by
 refine QE nj HS u v s d H Q I (t F S o d H _ p ((Ok.bind q).imp λk f l i j g w h=>?_));cases k with
 |true=>exact oH (h l i j g (bv.refl ..))
 |false=>exact oB (r l i f d j Q g h)
theorem pA(j:DT X E a n):DT X E (.UnaryOp .Not a pos) (mP n):=λF S g d H Q h q=>qf (MQ nj) (j F S g d H _ h ((Ok.bind q).imp λk f r o p i s l=>l r o p i (bv.refl ..)))
noncomputable def kN(m db:ad PV):ad PV:=λf=>(dB m f).bind λk d=>match k with
 |true=>db d
 |false=>.ok (.bl am) d
noncomputable def Qu(m db:ad PV):ad PV:=λf=>(dB m f).bind λk d=>match k with
 |true=>.ok (.bl ai) d
 |false=>db d
noncomputable def BP(m:ad PV):ad PV:=λf=>(dB m f).bind λk d=>.ok (.bl (!k)) d
theorem HR{k:Bool->aj->R q}{P:Bool->Hp->Prop}(h:Ok X.K E o F S H ((dB d p).bind k) D) (f:∀c g l j i,aX X.K l j g o i->bv (U S) (U j) F l H i->Ok X.K E o l j i (k c g) D->P c i):Ok X.K E o F S H (d p) (λpv _ x _ r=>∀v,aZ X.K r x pv v->∃c,v=.bl c/\P c r):=by have t:=(Ok.bind h).imp (C':=λc g l j i=>P c i) λc g l j i s w u=>f c g l j i s w u;exact pw t
theorem ui{op}(h:DE X E a d):DE X E (.BoolOp op [a] pos) d:=λF S g f H Q i q=>bU (NK bF) (h F S g f H Q i q)
theorem sE(s:DE X E a m)(r:DE X E (.BoolOp .And (b::rest) pos) db):DE X E (.BoolOp .And (a::b::rest) pos) (kN m db):=λF S o f H Q p q=>by
 refine bU (KJ bF bF) (s F S o f H _ p (HR q λk d l i j g t h=>?_));cases k with
 |true=>exact oH (r l i d f j Q g h)
 |false=>exact oB (h l i j g (bv.refl ..) _ rfl)
theorem RI(j:DE X E a m):DE X E (.UnaryOp .Not a pos) (BP m):=λF S g d H Q h q=>bU (Sf bF) (j F S g d H _ h (HR q λk f r o p i s l=>l r o p i (bv.refl ..) _ rfl))
noncomputable def bI{d:Type}(t:ad Bool)(m db:ad d):ad d:=λε=>(t ε).bind λk ε1=>match k with
 |true=>m ε1
 |false=>db ε1
theorem G0(r:DT X E c n)(t:DE X E a m)(s:DE X E b db):DE X E (.IfExp c a b pos) (bI n m db):=λF S o f H Q p q=>by
 refine bU (OB nj bF bF) (r F S o f H _ p ((Ok.bind q).imp λk d l i j g u h=>?_));cases k with
 |true=>exact oH (t l i d f j Q g h)
 |false=>exact oB (s l i d f j Q g h)
noncomputable def P1(K:ay)(r:V->Hp->VK->Prop)(f:PV->Option PV):Prop:=∀(F:ae->Prop) (H:Hp) (x:PV) (v:V) (Q:VK) (pv:PV),aZ K H F x v->f x=aa pv->(∀w g d,Al F g H d->aZ K d g pv w->Q w d)->r v H Q
noncomputable def d1(f:PV->Option PV)(m:ad PV):ad PV:=λε=>(m ε).bind λx ε1=>aD (f x) ε1
theorem QR(y:P1 X.K r f)(z:DE X E a m)(t:aX X.K F S i d H)(h:Ok X.K E d F S H (d1 f m i) (λpv _ p _ g=>∀v,aZ X.K g p pv v->Q v g)):iu X a d H λx o=>r x o Q:=by
 refine z F S i d H _ t ((Ok.bind h).imp λx q D C o u G l v s=>?_);cases e:f x with
 |none=>rw[e]at l;trivial
 |some pv=>rw[e]at l;exact y D o x v Q pv s e λw p g al j=>l p C g (u.al al) al.grow w j
theorem nk(j:yJ X (unaryOp d) r)(i:P1 X.K r f)(l:DE X E a m):DE X E (.UnaryOp d a pos) (d1 f m):=λF S p o H Q g h=>bU (R1 j bF) (QR i l g h)
end
noncomputable def pr(X:Cx)(d:List aB):TA:=λb H Q=>Bx (∀a c s,Inv X c b H s->au X.zz X.A (spliced (cx a (aK d X.env))) (AP X c b Q) X.xe s)
noncomputable def DA(X:Cx)(E:XK)(h:List aB)(d:ad (List PV)):Prop :=
 ∀F S c a H Q,aX X.K F S c a H->Ok X.K E a F S H (d c) (λb _ i _ g=>∀f,Reps X.K g i b f->Q f g)->pr X h a H Q
section
variable{X:Cx}{E:XK}{a b c e:aB}{es:List aB}{D d:ad PV}{j:ad (List PV)}{pos:Pos}
theorem g8:PA X es (pr X es):=λpos f s _ _ _ I h=>h.run pos f s I
theorem pF(h:PA X es t)(q:t f H Q):pr X es f H Q:=⟨λpos g s I=>h pos g s f H Q I q⟩
noncomputable def az:ad (List PV):=λε=>.ok [] ε
noncomputable def aw(d:ad PV)(j:ad (List PV)):ad (List PV):=λε=>(d ε).bind λx ε1=>(j ε1).bind λxs f=>.ok (x::xs) f
theorem aW:DA X E [] az:=λF S i g H Q f h=>pF gh (h F S H f (bv.refl ..) _ rfl)
theorem OZ(u:DE X E e d)(t:DA X E es j)(s:aK (e::es) X.env=(am,aQ e X.env)::aK es X.env:=by rfl):DA X E (e::es) (aw d j):=λF S m g H Q p h=>by refine pF (fz bF g8 s) (u F S m g H _ p ((Ok.bind h).imp λx f L C I i M y v o=>?_));refine t L C f g I _ i ((Ok.bind y).imp λxs l J A G q z w n r=>?_);exact w J A G q (bv.refl ..) _ ⟨v,n,rfl,o.grow z i.fit,r⟩
theorem aX.more{K:ay}{N:ae->Prop}{S:Nat->ae->Prop}{n:aj}{m:St}{H:Hp}(r:aX K F S n m H)(p:∀b,N b->¬U S b/\∃o,H b=aa o):aX K (λb=>F b\/N b) S n m H:=by
 have mono:∀x v,aZ K H F x v->aZ K H (λb=>F b\/N b) x v:=aZ.mono (λ_ h=>.inl h) (λ_ _ _ q=>q) (λ_ _ q _=>q);have f:∀x v,Reps K H F x v->Reps K H (λb=>F b\/N b) x v:=Reps.mono (λ_ h=>.inl h) (λ_ _ _ q=>q) (λ_ _ q _=>q);refine⟨r.len,λb h=>h.elim (r.ex b) λz=>(p b z).2,λi pv e=>?_,λi s e=>?_,λi b h=>?_,r.dist⟩
 .obtain⟨v,l,g⟩:=r.val i pv e;exact⟨v,l,mono _ _ g⟩
 .obtain⟨v,l,g⟩:=r.own i s e;exact⟨v,l,g.mono mono f λ_ _ _ z=>z⟩
 .obtain⟨l,g,t⟩:=r.foot i b h;exact⟨l,λz=>z.elim g λw=>(p b w).1 ⟨i,h⟩,t⟩
noncomputable def kc:PO->Option PV
 |.lst xs=>aa (.lst xs)
 |_=>ac
noncomputable def dF(d:ad PO):ad PV:=λε=>(d ε).bind λf ε1=>aD (kc f) ε1
theorem DN.de{d:ad PO}(h:DN X E e d):DE X E e (dF d):=λF S ε r H Q u q=>by
 unfold dF at q;refine h F S ε r H Q u ?_;cases i:d ε with
 |no=>rw[i]at q;trivial
 |er c s=>rw[i]at q;exact q
 |ok x ε1=>
  rw[i]at q;intro O l m v g a p A n;cases x with
  |dK f=>exact q.elim
  |lls M=>exact q.elim
  |dL M=>exact q.elim
  |ins C fs=>exact q.elim
  |dT f=>exact q.elim
  |dN f=>trivial
  |inl C fs y xs=>exact q.elim
  |lst xs=>
   have L:∀b,p b->¬U l b/\∃o,m b=aa o:=λb z=>let ⟨_,_,x3,o,x4,_⟩:=n b z;⟨x3,o,x4⟩
   obtain⟨⟨t,I,G⟩,J⟩:=A;have N:bv (U S) (U l) F (λb=>O b\/p b) H m:=⟨λb z=>.inl (g.fro b z),g.keep,g.there,λb z=>z.elim (g.fnew b) λw=>.inr (.inl (n b w).1),g.onew⟩
   exact q _ l m (v.more L) N _ ⟨a,t,rfl,.inl I,.inr ((J a).mpr rfl),Reps.mono (λ_ z=>.inl z) (λ_ _ _ z=>z) (λ_ _ z _=>z) _ _ G⟩
noncomputable def b9(xs:List PV):Option PV:=if xs.length<=1000 then aa (.tup xs)else ac
noncomputable def cK(xs:List PV):Option PO:=if xs.length<=1000 then aa (.lst xs)else ac
noncomputable def dL{g:Type}(f:List PV->Option g)(j:ad (List PV)):ad g:=λε=>(j ε).bind λxs ε1=>aD (f xs) ε1
noncomputable def PL(K:ay)(r:List V->Hp->VK->Prop)(f:List PV->Option PV):Prop:=∀(F:ae->Prop) (H:Hp) (xs:List PV) (h:List V) (Q:VK) (pv:PV),Reps K H F xs h->f xs=aa pv->(∀w i g,Al F i H g->aZ K g i pv w->Q w g)->r h H Q
noncomputable def ke(K:ay)(r:List V->Hp->VK->Prop)(f:List PV->Option PO):Prop:=∀(F:ae->Prop) (H:Hp) (xs:List PV) (i:List V) (Q:VK) (l:PO),(∀a,F a->∃o,H a=aa o)->Reps K H F xs i->f xs=aa l ->
 (∀a h g m,Al F h H g->fe K g h l a m->(∀b,m b->H b=ac/\¬h b/\∃o,g b=aa o/\eD o)->Q (.ref a) g)->r i H Q
theorem Bg(y:PL X.K r f)(z:DA X E es j)(t:aX X.K F S l g H)(h:Ok X.K E g F S H (dL f j l) (λpv _ p _ i=>∀v,aZ X.K i p pv v->Q v i)):pr X es g H λxs o=>r xs o Q:=by
 refine z F S l g H _ t ((Ok.bind h).imp λxs q C A o u G n s x=>?_);cases e:f xs with
 |none=>rw[e]at n;trivial
 |some pv=>rw[e]at n;exact y C o xs s Q pv x e λw p i al m=>n p A i (u.al al) al.grow w m
theorem oA{l:ae->Prop}{H f:Hp}(g:bv O i F l H f){b:ae}(h:f b=ac):H b=ac:=by
 cases q:H b with
 |none=>rfl
 |some o=>obtain⟨o',e⟩:=g.there b o q;lia
theorem sk(M:ke X.K r f)(N:DA X E es j)(I:aX X.K F S p l H)(h:Ok X.K E l F S H (dL f j p) (λs _ n W g=>∀a m,fe X.K g n s a m->(∀b,m b->H b=ac/\¬n b/\¬U W b/\∃o,g b=aa o/\eD o)->Q (.ref a) g)):pr X es l H λxs u=>r xs u Q:=by
 refine N F S p l H _ I ((Ok.bind h).imp λxs v Y T u q O t G L=>?_);cases e:f xs with
 |none=>rw[e]at t;trivial
 |some s=>rw[e]at t;refine M Y u xs G Q s q.ex L e λa n g m al J P=>t n T g (q.al al) al.grow a m J λb z=>?_;obtain⟨C,A,o,y,x⟩:=P b z;refine⟨oA O C,A,λ⟨i,w⟩=>?_,o,y,x⟩;obtain⟨_,_,o',Z,_⟩:=q.foot i b w;lia
theorem Av(h:n<=1000):n<=bd:=jZ (Rp h)
theorem N8{K:ay}:PL K (λxs H Q=>xs.length<=bd/\∀p,H p=ac->Q (.ref p) (upd H p (.tup xs))) b9:=λF H xs h Q pv f e q=>by
 unfold b9 at e;split at e
 .cases e;refine⟨by rw[f.len];exact Av (by trivial),λp g=>q _ F _ (Al.new0 g) ⟨p,h,rfl,upd_same,(Al.new0 g).reps f⟩⟩
 trivial
theorem xz{K:ay}{l:ae}{xs:List PV}{f:List V}(h:H l=ac)(g:Reps K H F xs f):fe K (upd H l (.lst f)) F (.lst xs) l (λb=>b=l):=⟨⟨f,upd_same,(Al.new0 h).reps g⟩,λb=>o0⟩
theorem xN{F:ae->Prop}{o:HO}(h:H l=ac)(i:∀a,F a->∃o,H a=aa o)(g:eD o):∀b,b=l->H b=ac/\¬F b/\∃f,(upd H l o) b=aa f/\eD f:=λb z=>by subst z;exact⟨h,(λw=>by grind),o,upd_same,g⟩
theorem SG{K:ay}:ke K (λxs H Q=>xs.length<=bd/\∀p,H p=ac->Q (.ref p) (upd H p (.lst xs))) cK:=λF H xs i Q l h g e q=>by
 unfold cK at e;split at e
 .cases e;exact⟨by rw[g.len];exact Av (by trivial),λp f=>q p F _ _ (Al.new0 f) (xz f g) (xN f h trivial)⟩
 trivial
theorem ix{x1}(h:DA X E es j):DE X E (.Tuple es x1 pos) (dL b9 j):=λF S i g H Q f q=>bU (MI g8) (Bg N8 h f q)
theorem mT(h:DA X E es j):DN X E (.List es pos) (dL cK j):=λF S i g H Q f q=>bU (Ii g8) (sk SG h f q)
theorem l8(h:DA X E es j):DE X E (.List es pos) (dF (dL cK j)):=(mT h).de
variable{x:Str}{p:Pos}{m:String}{r:List V->Hp->VK->Prop}{f:List PV->Option PV}{A:List PV->Option PO}
theorem cz(t:dq X (.builtin m) r)(i:PL X.K r f)(n:X.mg x=ac)(h:d_ x=aa (.builtin m))(u:DA X E (e::es) j)(o:Gl X x:=by rfl)(l:x≠"__name__":=by decide)(v:ap x:=by decide)(s:aK (e::es) X.env=(am,aQ e X.env)::aK es X.env:=by rfl) (w:(cx pos (aK es X.env)).any (·.1)=am:=by rfl):DE X E (.Call (.Name x p) (e::es) [] pos) (dL f j):=λF S z y H Q g q=>bU (nB t o n h g8 l v s w) (Bg i u g q)
theorem xm(t:dq X (.builtin m) r)(i:ke X.K r A)(n:X.mg x=ac)(h:d_ x=aa (.builtin m))(u:DA X E (e::es) j)(o:Gl X x:=by rfl)(l:x≠"__name__":=by decide)(v:ap x:=by decide)(s:aK (e::es) X.env=(am,aQ e X.env)::aK es X.env:=by rfl) (w:(cx pos (aK es X.env)).any (·.1)=am:=by rfl):DN X E (.Call (.Name x p) (e::es) [] pos) (dL A j):=λF S z y H Q g q=>bU (nB t o n h g8 l v s w) (sk i u g q)
theorem yH(t:dq X (.type T) r)(i:PL X.K r f)(n:X.mg x=ac)(h:d_ x=aa (.type T))(u:DA X E (e::es) j)(o:Gl X x:=by rfl)(l:x≠"__name__":=by decide)(v:ap x:=by decide)(s:aK (e::es) X.env=(am,aQ e X.env)::aK es X.env:=by rfl) (w:(cx pos (aK es X.env)).any (·.1)=am:=by rfl):DE X E (.Call (.Name x p) (e::es) [] pos) (dL f j):=λF S z y H Q g q=>bU (sG t o n h g8 l v s w) (Bg i u g q)
theorem Ay(t:dq X (.type T) r)(i:ke X.K r A)(n:X.mg x=ac)(h:d_ x=aa (.type T))(u:DA X E (e::es) j)(o:Gl X x:=by rfl)(l:x≠"__name__":=by decide)(v:ap x:=by decide)(s:aK (e::es) X.env=(am,aQ e X.env)::aK es X.env:=by rfl) (w:(cx pos (aK es X.env)).any (·.1)=am:=by rfl):DN X E (.Call (.Name x p) (e::es) [] pos) (dL A j):=λF S z y H Q g q=>bU (sG t o n h g8 l v s w) (sk i u g q)
theorem gA{r:R2}{f:PV->PV->Option PV}(l:mK X r)(n:P2 X.K r f)(q:DE X E a B)(o:DE X E b db)(i:GV b:=by exact λ_ _=>rfl):DE X E (.Subscript a b pos) (d2 f B db):=λF S t s H Q g h=>bU (Ot l bF bF i) (yv n q o g h)
noncomputable def Bd(X:Cx)(e:Option aB):TO:=λg H Q=>Bx (∀h s,Inv X h g H s->au X.zz X.A (evalPart e X.env) (λu l=>∃o i,Inv X h g i l/\lC u o/\Q o i) X.xe s)
theorem Ei:L2.PO X o (Bd X o):=λg s _ _ _ I h=>h.run g s I
theorem Iv(h:L2.PO X o t)(q:t g H Q):Bd X o g H Q:=⟨λi s I=>h i s g H Q I q⟩
noncomputable def DO(X:Cx)(E:XK)(e:Option aB)(d:ad (Option Int)):Prop:=∀F S ε g H Q,aX X.K F S ε g H->Ok X.K E g F S H (d ε) (λo _ _ _ h=>Q o h)->Bd X e g H Q
noncomputable def bS:ad (Option Int):=λε=>.ok ac ε
noncomputable def oK:PV->Option Int
 |.int i=>aa i
 |_=>ac
noncomputable def bJ(d:ad PV):ad (Option Int):=λε=>(d ε).bind λx ε1=>aD ((oK x).map aa) ε1
theorem iB:DO X E ac bS:=λF S l i H Q g h=>Iv Oi (h F S H g (bv.refl ..))
theorem gy(u:DE X E e d):DO X E (aa e) (bJ d):=λF S o l H Q s h=>by
 refine Iv (Qm bF) (u F S o l H _ s ((Ok.bind h).imp λx n z w y t C g v q=>?_));cases x <;> first|exact(show False from g).elim|skip
 rename_i i;exact⟨i,q,g z w y t (bv.refl ..)⟩
noncomputable def bN{i:Type}(f:PV->Option Int->Option Int->Option i)(d:ad PV)(o n:ad (Option Int)):ad i:=λε=>(d ε).bind λx ε1=>(o ε1).bind λl h=>(n h).bind λu g=>aD (f x l u) g
noncomputable def AT(K:ay)(r:V->Option Int->Option Int->Hp->VK->Prop)(f:PV->Option Int->Option Int->Option PV):Prop:=∀(F:ae->Prop) (H:Hp) (x:PV) (h i:Option Int) (v:V) (Q:VK) (pv:PV),aZ K H F x v->f x h i=aa pv->(∀w l g,Al F l H g->aZ K g l pv w->Q w g)->r v h i H Q
theorem g9{r:V->Option Int->Option Int->Hp->VK->Prop}{f:PV->Option Int->Option Int->Option PV}{z C:Option aB}{I G:ad (Option Int)}{P:Pos}(Y:kX X r)(Z:AT X.K r f)(he:DE X E e d)(hl:DO X E z I)(W:DO X E C G):DE X E (.Subscript e (.Slice z C ac P) pos) (bN f d I G):=λF S L g H Q N h=>by
 refine bU (Pd Y bF Ei Ei) (he F S L g H _ N ((Ok.bind h).imp λx n F1 S1 H1 y g1 h1 v M=>?_));refine hl F1 S1 n g H1 _ y ((Ok.bind h1).imp λl i F2 S2 H2 t g2 h2=>?_);refine W F2 S2 i g H2 _ t ((Ok.bind h2).imp λu J F3 S3 H3 O g3 q=>?_);cases s:f x l u with
 |none=>rw[s]at q;trivial
 |some pv=>rw[s]at q;exact Z F3 H3 x l u v Q pv ((M.grow g2 y.fit).grow g3 t.fit) s λw F' H' al o=>q F' S3 H' (O.al al) al.grow w o
end
inductive aG where
 |next|ret (s:Slot)|brk|cont
noncomputable def oJ(K:ay)(H:Hp)(F:ae->Prop)(s:Slot)(v:V)(c:ae->Prop):Prop:=match s with
 |.val pv=>aZ K H F pv v/\∀b,¬c b
 |.own d=>∃a,v=.ref a/\fe K H F d a c
 |.none=>False
noncomputable def jc(b:List Nat)(c a:St):Prop:=∀i∈b,a[i]?=c[i]?
theorem jc.refl(a:List Nat)(b:St):jc a b b:=λ_ _=>rfl
theorem jc.trans(a:jc c g f)(b:jc c f d):jc c g d:=λi h=>(b i h).trans (a i h)
theorem jc.set(h:i∉a):jc a b (b.set i x):=λj c=>by rw[eE (by rintro rfl;trivial)]
noncomputable def yz(f:ae->Prop)(c:Nat->ae->Prop)(d:Hp)(a:ae->Prop):Prop:=∀b,a b->¬f b/\¬U c b/\∃o,d b=aa o/\eD o
noncomputable def fW(K:ay)(E:XK)(i:List Nat)(j:St)(F:ae->Prop)(S:Nat->ae->Prop)(H:Hp)(r:R aG)(D:jT):Prop:=match r with
 |.ok .next f=>∀g h a d,aX K g h f a d->bv (U S) (U h) F g H d->jc i j a->D.nx a d
 |.ok .brk f=>∀g h a d,aX K g h f a d->bv (U S) (U h) F g H d->jc i j a->D.bk a d
 |.ok .cont f=>∀g h a d,aX K g h f a d->bv (U S) (U h) F g H d->jc i j a->D.ct a d
 |.ok (.ret s) f=>∀v g h a d l,aX K g h f a d->bv (U S) (λb=>U h b\/l b) F g H d->jc i j a->oJ K d g s v l->yz g h d l->D.rt v d
 |.er c f=>∀x g h a d,aX K g h f a d->bv (U S) (U h) F g H d->jc i j a->E c x d
 |.no=>False
noncomputable def DS(X:Cx)(E:XK)(b:List Nat)(f:bb)(d:ad aG):Prop:=∀F S c a H D,aX X.K F S c a H->fW X.K E b a F S H (d c) D->wpS X f D a H
noncomputable def fM(X:Cx)(E:XK)(b:List Nat)(f:List bb)(d:ad aG):Prop:=∀F S c a H D,aX X.K F S c a H->fW X.K E b a F S H (d c) D->oC X f D a H
section
variable{K:ay}{E:XK}{b:List Nat}{d i:St}{F m:ae->Prop}{S j:Nat->ae->Prop}{H l:Hp}{D:jT}
theorem fW.from(h:fW K E b d F S H r D)(g:bv (U S) (U j) F m H l)(p:jc b d i):fW K E b i m j l r D:=by
 cases r with
 |no=>exact h
 |er c w=>exact λx u q a t n g' o=>h x u q a t n (g.trans g') (p.trans o)
 |ok f w=>
  cases f with
  |next=>exact λu q a t n g' o=>h u q a t n (g.trans g') (p.trans o)
  |brk=>exact λu q a t n g' o=>h u q a t n (g.trans g') (p.trans o)
  |cont=>exact λu q a t n g' o=>h u q a t n (g.trans g') (p.trans o)
  |ret s=>exact λv u q a t y n g' o=>h v u q a t y n (g.trans g') (p.trans o)
theorem fW.bindE{r:R o}(h:fW K E b d F S H (r.bind k) D):Ok K E d F S H r (λa f m j l=>fW K E b d m j l (k a f) D):=by
 cases r with
 |no=>exact h
 |er c g=>exact λx t q s p n=>h x t q d s p n (jc.refl _ _)
 |ok a g=>exact λt q s p n=>h.from n (jc.refl _ _)
end
section
variable{X:Cx}{E:XK}{pin:List Nat}{l:bb}{rest:List bb}{d d1 d2:ad aG}{e:aB}{pos:Pos}
noncomputable def cH:ad aG:=λε=>.ok .next ε
theorem iw:fM X E pin [] cH:=λF S c a H D b h=>Bw Mp (h F S a H b (bv.refl ..) (jc.refl _ _))
noncomputable def aC(d1 d2:ad aG):ad aG:=λε=>match d1 ε with
 |.ok .next ε1=>d2 ε1
 |r=>r
theorem ba(q:DS X E pin l d1)(p:fM X E pin rest d2):fM X E pin (l::rest) (aC d1 d2):=λF S i j H D m h=>by
 refine Bw (KU FD pY) (q F S i j H {D with nx:=oC X rest D} m ?_);unfold aC at h;split at h
 .rename_i b u;rw[u];exact λy w a x n t o=>p y w b a x D n (h.from t o)
 .rename_i r v;generalize d1 i=r1 at h v;cases r1 with
  |no=>exact h
  |er c g=>exact h
  |ok f g=>
   cases f with
   |next=>lia
   |brk=>exact h
   |cont=>exact h
   |ret s=>exact h
theorem br(f:DS X E pin l d1):fM X E pin [l] d1:=λF S b a H D c h=>Bw (Mi FD) (f F S b a H D c h)
noncomputable def B7(f:aG):ad aG:=λa=>.ok f a
noncomputable def SZ(d:ad PV):ad aG:=λb=>(d b).bind λ_ a=>.ok .next a
noncomputable def bV(d:ad PV):ad aG:=λε=>(d ε).bind λx ε1=>.ok (.ret (.val x)) ε1
theorem bv.cup(g:bv O c F i H f):bv O (λb=>c b\/False) F i H f:=⟨g.fro,g.keep,g.there,g.fnew,λa h=>h.elim (g.onew a) False.elim⟩
theorem d8(j:DE X E e de):DS X E pin (.Return (aa e) pos) (bV de):=λF S c a H D g h=>gi (xt bF) (j F S c a H _ g (h.bindE.imp λx b p n o i q m v f=>m v p n a o (λ_=>False) i (bv.refl ..).cup (jc.refl _ _) ⟨f,λ_ z=>z⟩ λ_ z=>z.elim))
theorem Tf:DS X E pin (.Return ac pos) (B7 (.ret (.val .non))):=λF S c a H D b h=>gi TV (h _ F S a H (λ_=>False) b (bv.refl ..).cup (jc.refl _ _) ⟨rfl,λ_ z=>z⟩ λ_ z=>z.elim)
noncomputable def rA(d:ad PO):ad aG:=λε=>(d ε).bind λx ε1=>.ok (.ret (.own x)) ε1
theorem OG(t:DN X E e dn):DS X E pin (.Return (aa e) pos) (rA dn):=λF S j g H D p h=>by
 refine gi (xt bF) (t F S j g H _ p ?_);unfold rA at h;cases i:dn j with
 |no=>rw[i]at h;trivial
 |er c o=>rw[i]at h;exact λx I A C r u=>h x I A g C r u (jc.refl _ _)
 |ok J n=>rw[i]at h;intro G y B q f a v s m;exact h _ G y g B v q ⟨f.fro,f.keep,f.there,f.fnew,λb z=>z.elim (f.onew b) λw=>.inr (m b w).1⟩ (jc.refl _ _) ⟨a,rfl,s⟩ λb z=>let ⟨_,x2,x3,x4⟩:=m b z;⟨x2,x3,x4⟩
noncomputable def kn(i:Nat):ad aG:=λa=>match a[i]? with
 |some (.own b)=>.ok (.ret (.own b)) (a.set i .none)
 |_=>.no
theorem aX.drop{K:ay}{ε:aj}{f:St}{H:Hp}(r:aX K F S ε f H)(i:Nat):aX K F (λj b=>S j b/\j≠i) (ε.set i .none) f H:=by
 have no:∀{j s},(ε.set i .none)[j]?=aa s->s≠.none->j≠i/\ε[j]?=aa s:=λ{j s} e p=>by
  grind
 refine⟨by rw[iJ];exact r.len,r.ex,λj pv e=>r.val j pv (no e (by simp)).2,λj c e=>?_,λj b h=>?_,λj k b m g=>r.dist j k b m.1 g.1⟩
 .obtain⟨q,e⟩:=no e (by simp);obtain⟨a,m,g⟩:=r.own j c e;simp_all
 .obtain⟨⟨c,o⟩,n⟩:=r.foot j b h.1;exact⟨⟨c,by rw[eE (dQ h.2)];trivial⟩,n⟩
theorem u0(i:Nat)(s:X.N[i]?=aa x:=by rfl)(n:dr X.env.scope x:=by eq_refl)(r:ap x:=by decide)(u:aO x:=by decide):DS X E pin (.Return (aa (.Name x p)) pos) (kn i):=λF S v f H D c h=>by
 unfold kn at h;split at h
 .rename_i g e;obtain⟨a,t,m⟩:=c.own i g e;refine gi (xt (eJ s n r u)) ⟨_,t,h _ F (λj b=>S j b/\j≠i) f H (S i) (c.drop i) ⟨λ_ z=>z,λ_ _ z _=>z,λ_ o z=>⟨o,z⟩,λ_ z=>.inl z,λb z=>?_⟩ (jc.refl _ _) ⟨a,rfl,m⟩ λb z=>?_⟩
  .rcases z with⟨j,z,_⟩|z
   .exact .inl ⟨j,z⟩
   .exact .inl ⟨i,z⟩
  .exact⟨(c.foot i b z).2.1,λ⟨j,w,q⟩=>q (c.dist j i b w z),(c.foot i b z).2.2⟩
 .exact h.elim
theorem aX.set{K:ay}{f:aj}{g:St}{H:Hp}{i:Nat}{pv:PV}{v:V}(r:aX K F S f g H)(h:aZ K H F pv v):aX K F (λj b=>S j b/\j≠i) (f.set i (.val pv)) (g.set i (aa v)) H:=by
 have n:=r.drop i;have len:(f.set i (.val pv)).length=(g.set i (aa v)).length:=by rw[iJ,iJ];exact r.len
 refine⟨len,r.ex,λj p e=>?_,λj m e=>?_,λj b h=>?_,n.dist⟩
 .by_cases c:i=j
  .subst c;have t:i<f.length:=by have:=(c_.mp e).1;rw[iJ]at this;trivial
   rw[ie t]at e;cases e;exact⟨v,ie (by rw[<-r.len];trivial),h⟩
  .rw[eE c]at e;obtain⟨w,u,o⟩:=r.val j p e;exact⟨w,by rw[eE c];trivial,o⟩
 .have c:i≠j:=by
   grind
  rw[eE c]at e;obtain⟨a,u,o⟩:=r.own j m e;have x:(λb=>S j b/\j≠i)=S j:=by funext b;simp[dQ c]
  exact⟨a,by rw[eE c];trivial,by rw[x];trivial⟩
 .obtain⟨⟨m,s⟩,q⟩:=n.foot j b h;refine⟨⟨m,?_⟩,q⟩;rw[eE (dQ h.2)]at s ⊢;trivial
theorem bv.less(i:Nat):bv (U S) (U λj b=>S j b/\j≠i) F F H H:=⟨λ_ z=>z,λ_ _ z _=>z,λ_ o z=>⟨o,z⟩,λ_ z=>.inl z,λb ⟨j,z⟩=>.inl ⟨j,z.1⟩⟩
theorem aX.setOwn{K:ay}{o:aj}{t:St}{H:Hp}{i:Nat}{u:PO}{a:ae}{n:ae->Prop}(r:aX K F S o t H)(v:i<o.length)(h:fe K H F u a n)(q:yz F S H n):aX K F (λj b=>(S j b/\j≠i)\/(j=i/\n b)) (o.set i (.own u)) (t.set i (aa (.ref a))) H:=by
 have x:=r.drop i;refine⟨by rw[iJ,iJ];exact r.len,r.ex,λj p e=>?_,λj g e=>?_,λj b h=>?_,λj k b f c=>?_⟩
 .have m:i≠j:=by rintro rfl;rw[ie v]at e;cases e
  rw[eE m]at e;obtain⟨w,f,c⟩:=r.val j p e;exact⟨w,by rw[eE m];trivial,c⟩
 .by_cases m:i=j
  .subst m;rw[ie v]at e;cases e;have s:(λb=>(S i b/\i≠i)\/(i=i/\n b))=n:=by simp
   exact⟨a,ie (by rw[<-r.len];trivial),by rw[s];exact h⟩
  .rw[eE m]at e;obtain⟨A,f,c⟩:=r.own j g e;have s:(λb=>(S j b/\j≠i)\/(j=i/\n b))=S j:=by funext b;simp[dQ m]
   exact⟨A,by rw[eE m];trivial,by rw[s];trivial⟩
 .rcases h with h|⟨rfl,h⟩
  .obtain⟨⟨g,z⟩,y⟩:=x.foot j b h;refine⟨⟨g,?_⟩,y⟩;rw[eE (dQ h.2)]at z ⊢;trivial
  .obtain⟨D,C,B⟩:=q b h;simp_all
 .rcases f with f|⟨rfl,f⟩ <;> rcases c with c|⟨rfl,c⟩
  .exact r.dist j k b f.1 c.1
  .exact absurd ⟨j,f.1⟩ (q b c).2.1
  .exact absurd ⟨k,c.1⟩ (q b f).2.1
  rfl
noncomputable def bE(i:Nat)(d:ad PV):ad aG:=λa=>(d a).bind λx ε1=>.ok .next (ε1.set i (.val x))
theorem eC(i:Nat)(t:X.N.Nodup)(s:DE X E e de)(o:i∉pin:=by decide)(q:X.N[i]?=aa x:=by rfl)(m:Loc X.env.scope x:=by first|exact Or.inl rfl|exact Or.inr rfl)(n:jj e (aa (.Name x p)) pos.line X.env=pure am:=by rfl)(r:av X x:=by mleft):DS X E pin (.Assign [.Name x p] e pos) (bE i de):=λF S c a H D g h=>gi (Ik t q m bF n r) (s F S c a H _ g (h.bindE.imp λx b y A w j z u v f=>u y _ _ w (j.set f) (bv.less i) (jc.set o)))
noncomputable def cR(i:Nat)(d:ad PO):ad aG:=λε=>(d ε).bind λx ε1=>if i<ε1.length then .ok .next (ε1.set i (.own x))else .no
theorem jh(i:Nat){x:Str}(J:X.N.Nodup)(I:DN X E e dn)(B:i∉pin:=by decide)(C:X.N[i]?=aa x:=by rfl)(y:Loc X.env.scope x:=by first|exact Or.inl rfl|exact Or.inr rfl)(A:jj e (aa (.Name x p)) pos.line X.env=pure am:=by rfl)(G:av X x:=by mleft):DS X E pin (.Assign [.Name x p] e pos) (cR i dn):=λF S q o H D t h=>by
 refine gi (Ik J C y bF A G) (I F S q o H _ t ?_);unfold cR at h;cases n:dn q with
 |no=>rw[n]at h;trivial
 |er c s=>rw[n]at h;exact λx Q M O v L=>h x Q M o O v L (jc.refl _ _)
 |ok T g=>
  rw[n]at h;simp only[R.bind_ok]at h;intro P Y N u f a W w r;by_cases m:i<g.length
  .rw[if_pos m]at h;refine h P _ _ N (u.setOwn m w λb z=>(r b z).2) ⟨f.fro,f.keep,f.there,f.fnew,λb ⟨j,z⟩=>?_⟩ (jc.set B);rcases z with z|⟨_,z⟩
   .exact f.onew b ⟨j,z.1⟩
   .exact .inr (r b z).1
  .rw[if_neg m]at h;trivial
theorem iD{t:ad Bool}(r:DT X E c t)(u:fM X E pin a d1)(s:fM X E pin b d2):DS X E pin (.If c a b pos) (bI t d1 d2):=λF S p g H D q h=>by
 refine gi (Tq nj pY pY) (r F S p g H _ q (h.bindE.imp λk f o m n i v j=>?_));cases k with
 |true=>exact oH (u o m f g n D i j)
 |false=>exact oB (s o m f g n D i j)
noncomputable def xE:ad aG:=λ_=>.no
theorem BZ:fM X E pin a xE:=λ_ _ _ _ _ _ _ h=>h.elim
noncomputable def cm(r:R aG):R aG:=match r with
 |.er _ _=>.no
 |r=>r
theorem jR(h:DS X.nox E0 pin l d):DS X E pin l (λa=>cm (d a)):=λF S a b H D i q=>Bx.mk λm s I=>by
 have q:fW X.K E pin b F S H (cm (d a)) D:=q;have j:fW X.K E0 pin b F S H (d a) D:=by
  cases e:d a with
  |no=>rw[e]at q;exact q
  |er c g=>rw[e]at q;trivial
  |ok f g=>rw[e]at q;cases f <;> exact q
 exact eU ((h F S a b H D i j).run m s (I.wish _)) (λ_ _ z=>z.unwish) λ_ _ z=>z.elim
noncomputable def qg(X:Cx)(f a:aB):TI:=λb H h=>Bx (∀c s,Inv X c b H s->au X.zz X.A (aQ a X.env) (λv g=>au X.zz X.A (oU v) (xf X c b f h) X.xe g) X.xe s)
theorem vt:PI X b a (qg X b a):=λc s _ _ _ I h=>h.run c s I
theorem NB(h:PI X f a t)(q:t b H c):qg X f a b H c:=⟨λg s I=>h g s b H c I q⟩
noncomputable def DI(X:Cx)(E:XK)(p a:aB)(d:ad (List PV)):Prop:=∀F S ε c H m,aX X.K F S ε c H ->
 Ok X.K E c F S H (d ε) (λg _ o q i=>∀J f n,Reps X.K i o g f->f.length<=bd->Walk J f n->(∀h j b,bv (U q) (U h) o j i b->n b)->m J i)->qg X p a c H m
noncomputable def d9(i:Nat)(b:ad aG):List PV->aj->R aG
 |[],ε=>.ok .next ε
 |x::xs,ε=>match b (ε.set i (.val x))with
  |.ok .next a=>d9 i b xs a
  |.ok .cont a=>d9 i b xs a
  |.ok .brk a=>.ok .next a
  |r=>r
noncomputable def dJ(i:Nat)(a:ad (List PV))(db:ad aG):ad aG:=λε=>(a ε).bind λxs ε1=>d9 i db xs ε1
theorem lX(i:Nat){x:Str}{r:List bb}{Z:ad (List PV)}{B:ad aG}(wv:yP X.zz X.A X.env X.xe)(hc:X.calm=ai)(hN:X.N.Nodup)(hi:DI X E (.Name x p) o Z)(hb:fM X E pin r B)(hp:i∉pin:=by decide) (z:X.N[i]?=aa x:=by rfl) (O:Loc X.env.scope x:=by first|exact Or.inl rfl|exact Or.inr rfl) (hs:∀x,lw o X.env x=pure x:=by intro _;rfl)(hf:av X x:=by mleft):DS X E pin (.For (.Name x p) o r [] pos) (dJ i Z B):=λF S ε σ H D rl h=>by
 refine gi (GE wv hc vt (yM hN z O hf) pY hs) (hi F S ε σ H _ rl (h.bindE.imp λxs G F1 S1 H1 Y g1 h1 J vs RR W hz hw keep=>?_));refine Hk hw (λk a n=>∃t u m,aX X.K t u m a n/\bv (U S1) (U u) F1 t H1 n/\fW X.K E pin a t u n (d9 i B (xs.drop k) m) D) ⟨F1,S1,G,Y,bv.refl ..,h1⟩ (λk a n _ ⟨t,u,m,_,g,_⟩=>keep u t n g) ?_ ?_
 .rintro k v a n hv ⟨t,u,m,M,A,q⟩;obtain⟨x,z,rx⟩:=W.back hv;have hk:k<xs.length:=(c_.mp z).1;have ed:xs.drop k=x::xs.drop (k+1):=by rw[CY hk];congr 1;exact(c_.mp z).2
  rw[ed]at q;have I:=rx.grow A Y.fit;have r2:=M.set (i:=i) I;have P:bv (U u) (U λj b=>u j b/\j≠i) t t n n:=bv.less i;show oC X r _ (a.set i (aa v)) n;refine hb t _ _ _ n _ r2 ?_;unfold d9 at q;have q:=q.from P (jc.set (x:=aa v) hp);cases e:B (m.set i (.val x))with
  |no=>rw[e]at q;exact q
  |er c w=>rw[e]at q;exact q
  |ok f w=>
   rw[e]at q;cases f with
   |next=>exact λT Q C H3 L y N=>⟨T,Q,w,L,(A.trans P).trans y,q.from y N⟩
   |cont=>exact λT Q C H3 L y N=>⟨T,Q,w,L,(A.trans P).trans y,q.from y N⟩
   |brk=>exact q
   |ret s=>exact q
 .rintro a n ⟨t,u,m,M,A,q⟩;have O:vs.length=xs.length:=W.len;rw[O,Jy]at q;exact q t u a n M (bv.refl ..) (jc.refl _ _)
noncomputable def eO(t:ad Bool)(b:ad aG):Nat->aj->R aG
 |0,_=>.no
 |n+1,ε=>(t ε).bind λk ε1=>match k with
  |false=>.ok .next ε1
  |true=>match b ε1 with
   |.ok .next a=>eO t b n a
   |.ok .cont a=>eO t b n a
   |.ok .brk a=>.ok .next a
   |r=>r
theorem AG{j:ad aG}(P:aj->Nat)(Q:yP X.zz X.A X.env X.xe)(Y:DT X E c t)(Z:fM X E pin n j):DS X E pin (.While c n [] pos) (λv=>eO t j (P v) v):=λF S v σ H D T h=>by
 refine gi (SI Q nj pY) ⟨λm b u=>∃y x a,aX X.K y x a b u/\fW X.K E pin b y x u (eO t j m a) D,⟨P v,F,S,v,T,h⟩,?_⟩;rintro m g H1 ⟨F1,S1,A,W,q⟩;cases m with
 |zero=>exact q.elim
 |succ m=>
  refine Y F1 S1 A g H1 _ W (q.bindE.imp λk p N J L O g2 i=>?_);cases k with
  |false=>exact oB (i N J g L O (bv.refl ..) (jc.refl _ _))
  |true=>
   refine oH ⟨λb u=>∃y x a,aX X.K y x a b u/\fW X.K E pin b y x u (eO t j m a) D,λb u w=>⟨m,Jv m,w⟩,Z N J p g L _ O ?_⟩;have i:fW X.K E pin g N J L (match j p with
    |.ok .next a=>eO t j m a
    |.ok .cont a=>eO t j m a
    |.ok .brk a=>.ok .next a
    |r=>r) D:=i
   cases e:j p with
   |no=>rw[e]at i;exact i
   |er c o=>rw[e]at i;trivial
   |ok f o=>
    rw[e]at i;cases f with
    |next=>exact λM I z H3 B G C=>⟨M,I,o,B,i.from G C⟩
    |cont=>exact λM I z H3 B G C=>⟨M,I,o,B,i.from G C⟩
    |brk=>trivial
    |ret s=>trivial
end
noncomputable def yo(K:ay)(E:XK)(i:List V)(F:ae->Prop)(S:Nat->ae->Prop)(H:Hp)(r:R Slot)(Q:VK):Prop:=match r with
 |.ok s h=>∀v d f a g,aX K d f h (i.map aa) a->bv (U S) (λb=>U f b\/g b) F d H a->oJ K a d s v g->yz d f a g->(∀b,g b->H b=ac)->Q v a
 |.er c h=>∀x d f a,aX K d f h (i.map aa) a->bv (U S) (U f) F d H a->E c x a
 |.no=>False
noncomputable def eN(K:ay)(g:ad Slot):Sp:=λa H Q E=>∃F S b,aX K F S b (a.map aa) H/\yo K E a F S H (g b) Q
structure k9(CX:fN)(P:aS)(w:aJ)(K:ay)(mg:Str->Option ah)(base:aA)(x:Str)(k:Nat)(ps:List Str)(sp:Sp):Prop where
 ex:∃f fd,mg x=aa (.ref f)/\kU P w K mg base CX k f fd ps sp/\Binds K fd ps []/\qu K (.ref f)=ai
noncomputable def back:aj->aj->Option aj
 |[],_=>aa []
 |.own _::a,.own c::b=>(back a b).map (.own c::·)
 |.own _::_,_=>ac
 |s::a,_::b=>(back a b).map (s::·)
 |_::_,[]=>ac
theorem xM:∀{a c b:aj},back a c=aa b->b.length=a.length/\∀(i:Nat) (s:Slot),b[i]?=aa s->(∃f d,a[i]?=aa (.own f)/\c[i]?=aa (.own d)/\s=.own d)\/(a[i]?=aa s/\∀f,s≠.own f)
 |[],_,b,h=>by cases h;exact⟨rfl,λi s e=>by simp at e⟩
 |.own f::a,.own d::c,b,h=>by
  unfold back at h;cases e:back a c with
  |none=>rw[e]at h;cases h
  |some r=>
   rw[e]at h;cases h;obtain⟨l,q⟩:=xM e;refine⟨by simp[l],λi s g=>?_⟩;cases i with
   |zero=>simp at g;subst g;exact .inl ⟨f,d,rfl,rfl,rfl⟩
   |succ i=>simpa using q i s (by trivial)
 |.own f::a,.none::c,b,h=>by cases h
 |.own f::a,.val _::c,b,h=>by cases h
 |.own f::a,[],b,h=>by cases h
 |.none::a,[],b,h=>by cases h
 |.val _::a,[],b,h=>by cases h
 |.none::a,x::c,b,h=>by
  have h:(back a c).map (Slot.none::·)=aa b:=by trivial
  cases e:back a c with
  |none=>rw[e]at h;cases h
  |some r=>
   rw[e]at h;cases h;obtain⟨l,q⟩:=xM e;refine⟨by simp[l],λi s g=>?_⟩;cases i with
   |zero=>simp at g;subst g;exact .inr ⟨rfl,λ_ z=>by cases z⟩
   |succ i=>simpa using q i s (by trivial)
 |.val pv::a,x::c,b,h=>by
  have h:(back a c).map (Slot.val pv::·)=aa b:=by trivial
  cases e:back a c with
  |none=>rw[e]at h;cases h
  |some r=>
   rw[e]at h;cases h;obtain⟨l,q⟩:=xM e;refine⟨by simp[l],λi s g=>?_⟩;cases i with
   |zero=>simp at g;subst g;exact .inr ⟨rfl,λ_ z=>by cases z⟩
   |succ i=>simpa using q i s (by trivial)
noncomputable def bn(n:Nat)(d:ad aG):ad Slot:=λf=>match d (f++bz n .none)with
 |.ok (.ret r) a=>(aD (back f a) []).bind λb _=>.ok r b
 |.ok .next a=>(aD (back f a) []).bind λb _=>.ok (.val .non) b
 |.er c a=>(aD (back f a) []).bind λb _=>.er c b
 |_=>.no
section
variable{K:ay}{F u:ae->Prop}{S o:Nat->ae->Prop}{c l m:aj}{f:St}{H t:Hp}{d:List V}
theorem aX.start(r:aX K F S c (d.map aa) H)(n:Nat):aX K F S (c++bz n .none) (d.map aa++bz n ac) H:=by
 have w:c.length=(d.map aa).length:=r.len;have no:∀{j:Nat}{s:Slot},(c++bz n Slot.none)[j]?=aa s->s≠.none->c[j]?=aa s:=λ{j s} e x=>by
  grind
 have up:∀{j:Nat}{v:Option V},(d.map aa)[j]?=aa v->(d.map aa++bz n ac)[j]?=aa v:=λ{j v} e=>by rw[jG (c_.mp e).1];exact e
 refine⟨by simp[w],r.ex,λj pv e=>?_,λj a e=>?_,λj b h=>?_,r.dist⟩
 .obtain⟨v,i,g⟩:=r.val j pv (no e (by simp));exact⟨v,up i,g⟩
 .obtain⟨v,i,g⟩:=r.own j a (no e (by simp));exact⟨v,up i,g⟩
 .obtain⟨⟨a,q⟩,p⟩:=r.foot j b h;exact⟨⟨a,by rw[jG (c_.mp q).1];exact q⟩,p⟩
theorem FG(h:fe K H F i a j)(p:gf i=ai):∀b,j b↔b=a:=by
 cases i with
 |lst xs=>exact h.2
 |dK g=>exact h.2
 |lls n=>trivial
 |dL n=>trivial
 |ins C fs=>exact h.2
 |dT g=>exact h.2
 |dN g=>exact h.2
 |inl C fs y xs=>trivial
theorem Om(h:fe K H F g a i):i a:=by
 cases g with
 |lst xs=>exact(h.2 a).mpr rfl
 |dK b=>exact(h.2 a).mpr rfl
 |lls j=>obtain⟨n,_,_,_,_,w⟩:=h;simp_all
 |dL j=>obtain⟨n,_,_,_,_,w⟩:=h;simp_all
 |ins C fs=>exact(h.2 a).mpr rfl
 |dT b=>exact(h.2 a).mpr rfl
 |dN b=>exact(h.2 a).mpr rfl
 |inl C fs y xs=>obtain⟨_,_,_,_,_,_,_,_,_,_,w⟩:=h;simp_all
theorem aX.back(B:aX K F S c (d.map aa) H)(r:aX K u o l f t)(g:bv (U S) W F u H t)(p:jc C (d.map aa++bz n ac) f)(O:∀(i:Nat) (s:PO),c[i]?=aa (.own s)->i∈C)(Q:back c l=aa m):∃A,aX K u A m (d.map aa) t/\(∀b,U A b->U o b)/\((∀(i:Nat) (s:PO),c[i]?=aa (.own s)->gf s=ai)->∀b,U S b->U A b):=by
 obtain⟨J,D⟩:=xM Q;have inj:∀(i:Nat) (s:PO),c[i]?=aa (.own s)->∃a,(d.map aa)[i]?=aa (aa (.ref a))/\f[i]?=aa (aa (.ref a))/\fe K H F s a (S i):=λi s e=>by obtain⟨a,y,x⟩:=B.own i s e;refine⟨a,y,?_,x⟩;rw[p i (O i s e),jG (c_.mp y).1];trivial
 have bk:∀(i:Nat) (s:PO),c[i]?=aa (.own s)->∃w,m[i]?=aa (.own w)/\l[i]?=aa (.own w):=λi s e=>by
  have P:i<m.length:=by rw[J];exact(c_.mp e).1
  rcases D i m[i] (by simp)with⟨p1,p2,q1,q2,q3⟩|⟨q1,q2⟩
  .exact⟨p2,by rw[fj P,q3],q2⟩
  .rw[e]at q1;exact absurd (i5 q1).symm (q2 s)
 refine⟨λi b=>o i b/\∃s,c[i]?=aa (.own s),⟨by rw[J];exact B.len,r.ex,λi pv e=>?_,λi s e=>?_,λi b h=>?_,λi j b y x=>r.dist i j b y.1 x.1⟩,λb ⟨i,h⟩=>⟨i,h.1⟩,λN b ⟨i,h⟩=>?_⟩
 .rcases D i _ e with⟨_,_,_,_,z⟩|⟨q1,_⟩
  .cases z
  .obtain⟨v,y,x⟩:=B.val i pv q1;exact⟨v,y,x.grow g B.fit⟩
 .rcases D i _ e with⟨p1,p2,q1,q2,q3⟩|⟨_,q2⟩
  .cases q3;obtain⟨a,y,x,M⟩:=inj i p1 q1;obtain⟨T,E,L⟩:=r.own i s q2;simp_all
  .exact absurd rfl (q2 s)
 .obtain⟨s,q⟩:=h.2;obtain⟨w,I,G⟩:=bk i s q;exact⟨⟨w,I⟩,(r.foot i b h.1).2⟩
 .obtain⟨⟨s,q⟩,_⟩:=B.foot i b h;obtain⟨a,y,x,M⟩:=inj i s q;obtain⟨w,I,G⟩:=bk i s q;obtain⟨T,E,L⟩:=r.own i w G;rw[x]at E;cases E;have e:b=a:=(FG M (N i s q) b).mp h;exact⟨i,e ▸ Om L,s,q⟩
end
theorem yj{K:ay}{F:ae->Prop}{S:Nat->ae->Prop}{H:Hp}{r:R Slot}{Q:VK}(h:yo K E a F S H r Q):r≠.no:=λz=>by rw[z]at h;exact h
theorem EC{K:ay}(d:∀a,g a≠.no->a.length=m):∀b H Q E,eN K g b H Q E->b.length=m:=λb H Q E ⟨F,S,a,c,ok⟩=>by
 have:=d a (yj ok);have f:=c.len
 grind
theorem Iy{q:List bb}{N P:List Str}{n:Nat}{g:ad Slot}{d:ad aG}{u:List Nat}(hn:N.length=P.length+n)(bh:∀a,g a≠.no->a.length=P.length) (Z:∀a,g a≠.no->∀(i:Nat) po,a[i]?=aa (.own po)->i∈u) (Y:∀a o m,g a=.ok o m->(∃pv,o=.val pv)\/∀(i:Nat) po,a[i]?=aa (.own po)->gf po=ai) (hg:∀a,g a≠.no->bn n d a=g a)(hb:fM X E u q d) (ip:eN X.K g s H Q E):oC X q {nx:=λ_ l=>Q .non l,rt:=Q} (L2.start N s) H:=by
 obtain⟨F,S,a,J,ok⟩:=ip;have hl:=bh a (yj ok);have h2:=J.len;rw[cX]at h2;have es:L2.start N s=s.map aa++bz n ac:=by unfold L2.start;simp_all
 rw[es];refine hb F S _ _ H _ (J.start n) ?_;have W:=Z a (yj ok);have O:=hg a (yj ok);have I:=Y a;rw[<-O]at ok I;unfold bn at ok I;generalize d (a++bz n .none)=r at ok I ⊢;cases r with
 |no=>exact ok
 |er c h=>
  intro x p A j l B f C;have ok:yo X.K E s F S H ((aD (back a h) []).bind λm _=>.er c m) Q:=ok;cases e:back a h with
  |none=>rw[e]at ok;trivial
  |some m=>rw[e]at ok;obtain⟨y,t,sub,_⟩:=J.back B f C W e;exact ok x p y l t ⟨f.fro,f.keep,f.there,f.fnew,λb z=>f.onew b (sub b z)⟩
 |ok fl h=>
  have D:∀(o:Slot),(∀m,back a h=aa m->(∃pv,o=.val pv)\/∀(i:Nat) po,a[i]?=aa (.own po)->gf po=ai)->yo X.K E s F S H ((aD (back a h) []).bind λm _=>.ok o m) Q->∀(v:V) p A j l G,aX X.K p A h j l->bv (U S) (λb=>U A b\/G b) F p H l->jc u (s.map aa++bz n ac) j->oJ X.K l p o v G->yz p A l G->Q v l:=by
   intro o M ok v p A j l G B f C T L;cases e:back a h with
   |none=>rw[e]at ok;trivial
   |some m=>
    rw[e]at ok;obtain⟨y,t,sub,up⟩:=J.back B f C W e;refine ok v p y l G t ⟨f.fro,f.keep,f.there,f.fnew,λb z=>f.onew b (z.imp (sub b) id)⟩ T (λb z=>⟨(L b z).1,λw=>(L b z).2.1 (sub b w),(L b z).2.2⟩) λb z=>?_;rcases M m e with⟨pv,rfl⟩|hf
    .exact absurd z (T.2 b)
    rcases f.onew b (.inr z)with w|w
    .exact absurd (sub b (up hf b w)) (L b z).2.1
    trivial
  cases fl with
  |brk=>trivial
  |cont=>trivial
  |ret o=>exact D o (λm e=>I o m ⋯) ok
  |next=>exact λp A j l B f C=>D (.val .non) (λ_ _=>.inl ⟨_,rfl⟩) ok .non p A j l (λ_=>False) B ⟨f.fro,f.keep,f.there,f.fnew,λb z=>z.elim (f.onew b) False.elim⟩ C ⟨rfl,λ_ z=>z⟩ λ_ z=>z.elim
theorem Ln{P:aS}{w:aJ}{K:ay}{u:Str->Option ah}{j:aA}{x b:Str}{h:bb}{N l:List Str}{k n:Nat}{g:ad Slot}{d:ad aG}{m:List Nat}(Y:pG K x b h f p)(X:cr N l (bj h))(M:N.length=l.length+n)(hb:∀(kV o t:ah) (z:Option ae) (B v:ah) (q:List ah),q.length=l.length->fY (iI x b (jz h) (fD h) (bj h) .none kV o t z B v) ⟨q,[]⟩=pure (l.zip q))(y:∀c,g c≠.no->c.length=l.length) (I:∀c,g c≠.no->∀(i:Nat) po,c[i]?=aa (.own po)->i∈m) (F:∀c r W,g c=.ok r W->(∃pv,r=.val pv)\/∀(i:Nat) po,c[i]?=aa (.own po)->gf po=ai) (O:∀c,g c≠.no->bn n d c=g c)(S:∀(A:aY) (a:List Env) (s:ao) (H:Hp) (E:XK),fg k (A.deeper (i7 b (bj h) s.heap.objs.size f p.code))->fM (iV C P w K u j N b (bj h) f p.code A a s H E) E m (fD h) d):kU P w K u j C (k+1) f p l (eN K g):=by obtain⟨oc,od,kV,o,t,z,B,v,D,rfl,G,T⟩:=Y.ex;exact KM G T X (EC y) λA a s H Z Q E L J=>⟨_,pY,Iy M y I F O (S A a s H E L) J⟩
theorem GJ{P:aS}{w:aJ}{K:ay}{v:Str->Option ah}{l:aA}{x b:Str}{j:bb}{N m:List Str}{k n:Nat}{g:ad Slot}{d:ad aG}{p:List Nat}(O:pG K x b j f t)(M:cr N m (bj j))(C:N.length=m.length+n)(F:∀(kV u B:ah) (L:Option ae) (q I:ah) (r:List ah),r.length=m.length->fY (iI x b (jz j) (fD j) (bj j) .none kV u B L q I) ⟨r,[]⟩=pure (m.zip r))(J:∀c,g c≠.no->c.length=m.length) (y:∀c,g c≠.no->∀(i:Nat) o,c[i]?=aa (.own o)->i∈p/\gf o=ai) (D:∀c,g c≠.no->bn n d c=g c)(G:∀(f:ae) (q:ah) (A:aY) (a:List Env) (s:ao) (H:Hp) (E:XK),fg k (A.deeper (i7 b (bj j) s.heap.objs.size f q))->fM (iV z P w K v l N b (bj j) f q A a s H E) E p (fD j) d):kU P w K v l z (k+1) f t m (eN K g):=Ln O M C F J (λc h i o e=>(y c h i o e).1) (λc Q S h=>.inr λi o e=>(y c ⋯ i o e).2) D λA a s H E=>G f t.code A a s H E
theorem Ud{K:ay}{p:Str->Option ah}{c:aA}{x:Str}{b:bb}{N j:List Str}{k n:Nat}{g:ad Slot}{d:ad aG}{l:List Nat}(D:cG K p x b)(M:cr N j (bj b))(z:N.length=j.length+n)(t:∀(kV q v:ah) (L:Option ae) (m I:ah) (o:List ah),o.length=j.length->fY (iI x x (jz b) (fD b) (bj b) .none kV q v L m I) ⟨o,[]⟩=pure (j.zip o))(J:∀a,g a≠.no->a.length=j.length) (y:∀a,g a≠.no->∀(i:Nat) po,a[i]?=aa (.own po)->i∈l/\gf po=ai) (C:∀a,g a≠.no->bn n d a=g a)(F:∀(f:ae) (m:ah) (A:aY) (h:List Env) (s:ao) (H:Hp) (E:XK),fg k (A.deeper (i7 x (bj b) s.heap.objs.size f m))->fM (iV u P w K p c N x (bj b) f m A h s H E) E l (fD b) d):k9 u P w K p c x (k+1) j (eN K g):=by obtain⟨f,G,B,r⟩:=D.ex;exact⟨f,G,B,GJ r M z t J y C F,r.binds t,r.kp⟩
noncomputable abbrev cb:=Sum PV Nat
noncomputable def jb(K:ay)(b:St)(F:ae->Prop)(H:Hp):List cb->List V->Prop
 |[],a=>a=[]
 |.inl pv::c,a=>∃v r,a=v::r/\aZ K H F pv v/\jb K b F H c r
 |.inr i::c,a=>∃v r,a=v::r/\b[i]?=aa (aa v)/\jb K b F H c r
noncomputable def DG(X:Cx)(E:XK)(g:List aB)(d:ad (List cb)):Prop :=
 ∀F S b a H Q,aX X.K F S b a H->Ok X.K E a F S H (d b) (λh _ i _ f=>∀c,jb X.K a i f h c->Q c f)->pr X g a H Q
section
variable{c:ad (List cb)}{f:Pos}
noncomputable def bG:ad (List cb):=λε=>.ok [] ε
noncomputable def gV(d:ad PV)(c:ad (List cb)):ad (List cb):=λε=>(d ε).bind λx ε1=>(c ε1).bind λxs a=>.ok (.inl x::xs) a
noncomputable def gO(i:Nat)(c:ad (List cb)):ad (List cb):=λd=>match d[i]? with
 |some (.own _)=>(c d).bind λxs a=>.ok (.inr i::xs) a
 |_=>.no
theorem bP:DG X E [] bG:=λF S g d H Q a h=>pF gh (h F S H a (bv.refl ..) _ rfl)
theorem Mv(s:DE X E e de)(r:DG X E b c)(q:aK (e::b) X.env=(am,aQ e X.env)::aK b X.env:=by rfl):DG X E (e::b) (gV de c):=λF S j d H Q n h=>by refine pF (fz bF g8 q) (s F S j d H _ n ((Ok.bind h).imp λx a D z B g G u v m=>?_));refine r D z a d B _ g ((Ok.bind u).imp λxs i C y A o w t l p=>?_);exact t C y A o (bv.refl ..) _ ⟨v,l,rfl,m.grow w g.fit,p⟩
theorem iQ(i:Nat)(u:DG X E b c)(w:X.N[i]?=aa x:=by rfl)(s:dr X.env.scope x:=by eq_refl)(v:ap x:=by decide)(z:aO x:=by decide) (t:aK (.Name x p::b) X.env=(am,aQ (.Name x p) X.env)::aK b X.env:=by rfl):DG X E (.Name x p::b) (gO i c):=λF S m j H Q d h=>by
 unfold gO at h;split at h
 .rename_i q e;obtain⟨a,g,_⟩:=d.own i q e;refine pF (fz (eJ w s v z) g8 t) ⟨_,g,u F S m j H _ d ((Ok.bind h).imp λxs l C A B o D y n r=>?_)⟩;exact y C A B o (bv.refl ..) _ ⟨_,n,rfl,g,r⟩
 .exact h.elim
end
noncomputable def c8(a:aj):List cb->Option aj
 |[]=>aa []
 |.inl pv::b=>(c8 a b).map (.val pv::·)
 |.inr i::b=>match a[i]? with
  |some (.own c)=>(c8 a b).map (.own c::·)
  |_=>ac
noncomputable def eF:aj->List cb->aj->aj
 |a,.inl _::c,_::b=>eF a c b
 |a,.inr i::c,s::b=>eF (a.set i s) c b
 |a,_,_=>a
noncomputable def cg:List cb->List Nat
 |[]=>[]
 |.inl _::as=>cg as
 |.inr i::as=>i::cg as
theorem Gi:∀{as:List cb}{i:Nat},i∈cg as↔∃k:Nat,as[k]?=aa (.inr i)
 |[],i=>by simp[cg]
 |.inl _::as,i=>by
  unfold cg;rw[Gi];constructor
  .rintro⟨k,h⟩;exact⟨k+1,by trivial⟩
  .rintro⟨k,h⟩;cases k with
   |zero=>simp at h
   |succ k=>exact⟨k,by trivial⟩
 |.inr j::as,i=>by
  unfold cg;rw[bQ,Gi];constructor
  .rintro(rfl|⟨k,h⟩)
   .exact⟨0,rfl⟩
   .exact⟨k+1,by trivial⟩
  .rintro⟨k,h⟩;cases k with
   |zero=>simp at h;exact .inl h.symm
   |succ k=>exact .inr ⟨k,by trivial⟩
theorem x_:∀{a:List cb}{b:aj},c8 d a=aa b->b.length=a.length/\∀(k:Nat) (s:Slot),b[k]?=aa s->(∃pv,a[k]?=aa (.inl pv)/\s=.val pv)\/∃i f,a[k]?=aa (.inr i)/\d[i]?=aa (.own f)/\s=.own f
 |[],b,h=>by cases h;exact⟨rfl,λk s e=>by simp at e⟩
 |.inl pv::a,b,h=>by
  unfold c8 at h;cases e:c8 d a with
  |none=>rw[e]at h;cases h
  |some r=>
   rw[e]at h;cases h;obtain⟨l,q⟩:=x_ e;refine⟨by simp[l],λk s c=>?_⟩;cases k with
   |zero=>simp at c;exact .inl ⟨pv,rfl,c.symm⟩
   |succ k=>simpa using q k s (by trivial)
 |.inr i::a,b,h=>by
  unfold c8 at h;split at h
  .rename_i f g;cases e:c8 d a with
   |none=>rw[e]at h;cases h
   |some r=>
    rw[e]at h;cases h;obtain⟨l,q⟩:=x_ e;refine⟨by simp[l],λk s c=>?_⟩;cases k with
    |zero=>simp at c;exact .inr ⟨i,f,rfl,g,c.symm⟩
    |succ k=>simpa using q k s (by trivial)
  trivial
theorem xq:∀(c:List cb) (a b:aj),(eF a c b).length=a.length
 |[],a,b=>by cases b <;> rfl
 |.inl _::c,a,[]=>rfl
 |.inr _::c,a,[]=>rfl
 |.inl _::c,a,s::b=>xq c a b
 |.inr i::c,a,s::b=>by show(eF (a.set i s) c b).length=_;rw[xq,iJ]
theorem sK:∀(a:List cb) (b c:aj) (j:Nat),j∉cg a->(eF b a c)[j]?=b[j]?
 |[],b,c,j,_=>by cases c <;> rfl
 |.inl _::a,b,[],j,_=>rfl
 |.inr _::a,b,[],j,_=>rfl
 |.inl _::a,b,s::c,j,h=>sK a b c j h
 |.inr i::a,b,s::c,j,h=>by
  have d:¬(j=i\/j∈cg a):=by simpa[cg]using h
  show(eF (b.set i s) a c)[j]?=_;rw[sK a _ c j λz=>d (.inr z),eE λz=>d (.inl z.symm)]
theorem ug:∀(a:List cb) (b c:aj) (j k:Nat) (s:Slot),(cg a).Nodup->j<b.length->a[k]?=aa (.inr j)->c[k]?=aa s->(eF b a c)[j]?=aa s
 |[],b,c,j,k,s,_,_,h,_=>by trivial
 |_::a,b,[],j,k,s,_,_,_,h=>by trivial
 |.inl _::a,b,t::c,j,0,s,_,_,h,_=>by simp at h
 |.inl _::a,b,t::c,j,k+1,s,nd,hj,h,g=>ug a b c j k s nd hj (by trivial) (by trivial)
 |.inr i::a,b,t::c,j,0,s,nd,hj,h,g=>by simp at h g;subst h g;have d:i∉cg a:=(ik.mp nd).1;show(eF (b.set i t) a c)[i]?=_;rw[sK a _ c i d,ie hj]
 |.inr i::a,b,t::c,j,k+1,s,nd,hj,h,g=>ug a (b.set i t) c j k s (ik.mp nd).2 (by rw[iJ];trivial) (by trivial) (by trivial)
theorem jb.len{K:ay}{H:Hp}:∀{a:List cb}{b:List V},jb K c F H a b->b.length=a.length
 |[],_,h=>by rw[show _=[] from h];rfl
 |.inl _::a,_,⟨v,r,e,_,h⟩=>by rw[e,cI,cI,jb.len h]
 |.inr _::a,_,⟨v,r,e,_,h⟩=>by rw[e,cI,cI,jb.len h]
theorem jb.val{K:ay}{H:Hp}:∀{as:List cb}{c:List V}{k:Nat}{pv:PV},jb K d F H as c->as[k]?=aa (.inl pv)->∃v,c[k]?=aa v/\aZ K H F pv v
 |[],_,k,_,_,e=>by trivial
 |.inl x::as,_,0,pv,⟨v,r,e,h,_⟩,q=>by simp at q;subst q e;exact⟨v,rfl,h⟩
 |.inr _::as,_,0,pv,_,q=>by simp at q
 |.inl x::as,_,k+1,pv,⟨v,r,e,_,h⟩,q=>by obtain⟨w,a,b⟩:=jb.val (k:=k) h (by trivial);subst e;exact⟨w,by trivial,b⟩
 |.inr x::as,_,k+1,pv,⟨v,r,e,_,h⟩,q=>by obtain⟨w,a,b⟩:=jb.val (k:=k) h (by trivial);subst e;exact⟨w,by trivial,b⟩
theorem jb.own{K:ay}{H:Hp}:∀{as:List cb}{d:List V}{k i:Nat},jb K c F H as d->as[k]?=aa (.inr i)->∃v,d[k]?=aa v/\c[i]?=aa (aa v)
 |[],_,k,_,_,e=>by trivial
 |.inr x::as,_,0,pv,⟨v,r,e,h,_⟩,q=>by simp at q;subst q e;exact⟨v,rfl,h⟩
 |.inl _::as,_,0,pv,_,q=>by simp at q
 |.inl x::as,_,k+1,pv,⟨v,r,e,_,h⟩,q=>by obtain⟨w,a,b⟩:=jb.own (k:=k) h (by trivial);subst e;exact⟨w,by trivial,b⟩
 |.inr x::as,_,k+1,pv,⟨v,r,e,_,h⟩,q=>by obtain⟨w,a,b⟩:=jb.own (k:=k) h (by trivial);subst e;exact⟨w,by trivial,b⟩
section
variable{K:ay}{F y:ae->Prop}{S m:Nat->ae->Prop}{c s f:aj}{t:St}{H u:Hp}{as:List cb}{d:List V}
noncomputable def l5(as:List cb)(S:Nat->ae->Prop)(k:Nat)(b:ae):Prop:=∃i,as[k]?=aa (.inr i)/\S i b
theorem xP(b:ae)(h:U (l5 as S) b):U S b:=let ⟨_,i,_,h⟩:=h;⟨i,h⟩
theorem yI:∀{as:List cb}{i k l:Nat},(cg as).Nodup->as[k]?=aa (.inr i)->as[l]?=aa (.inr i)->k=l
 |[],_,_,_,_,h,_=>by trivial
 |.inl _::as,i,0,_,_,h,_=>by simp at h
 |.inl _::as,i,_,0,_,_,h=>by simp at h
 |.inl _::as,i,k+1,l+1,nd,h1,h2=>by rw[yI (as:=as) (i:=i) (k:=k) (l:=l) nd (by trivial) (by trivial)]
 |.inr j::as,i,0,0,_,_,_=>rfl
 |.inr j::as,i,0,l+1,nd,h1,h2=>by simp at h1;subst h1;exact absurd (Gi.mpr ⟨l,by trivial⟩) (ik.mp nd).1
 |.inr j::as,i,k+1,0,nd,h1,h2=>by simp at h2;subst h2;exact absurd (Gi.mpr ⟨k,by trivial⟩) (ik.mp nd).1
 |.inr j::as,i,k+1,l+1,nd,h1,h2=>by rw[yI (as:=as) (i:=i) (k:=k) (l:=l) (ik.mp nd).2 (by trivial) (by trivial)]
theorem aX.cal(r:aX K F S c t H)(B:jb K t F H as d)(G:c8 c as=aa s)(E:(cg as).Nodup):aX K F (l5 as S) s (d.map aa) H:=by
 obtain⟨D,A⟩:=x_ G;have up:∀{k:Nat}{v:V},d[k]?=aa v->(d.map aa)[k]?=aa (aa v):=λ{k v} e=>by rw[jl,e];rfl
 refine⟨by rw[D,cX,B.len],r.ex,λk pv e=>?_,λk C e=>?_,λk b h=>?_,λk l b n x=>?_⟩
 .rcases A k _ e with⟨p,q1,g⟩|⟨_,_,_,_,z⟩
  .cases g;obtain⟨v,w,o⟩:=B.val q1;exact⟨v,up w,o⟩
  trivial
 .rcases A k _ e with⟨_,_,z⟩|⟨i,p,q1,g,q3⟩
  .cases z
  .cases q3;obtain⟨v,w,o⟩:=B.own q1;obtain⟨a,b1,b2⟩:=r.own i C g;rw[o]at b1;cases b1;have J:l5 as S k=S i:=by funext b;exact propext ⟨λ⟨j,n,x⟩=>⋯,λh=>⟨i,q1,h⟩⟩
   exact⟨a,up w,by rw[J];trivial⟩
 .obtain⟨i,n,x⟩:=h;obtain⟨⟨C,q⟩,g⟩:=r.foot i b x;have I:k<s.length:=by rw[D];exact(c_.mp n).1
  refine⟨?_,g⟩;rcases A k s[k] (by simp)with⟨_,z,_⟩|⟨j,p,z1,z2,z3⟩
  .rw[n]at z;cases z
  .exact⟨p,by rw[fj I,z3]⟩
 .obtain⟨i,w,o⟩:=n;obtain⟨j,b1,b2⟩:=x;have:=r.dist i j b o b2;subst this;exact yI E w b1
theorem aX.called{O':ae->Prop}(r:aX K F S c t H)(ha:jb K t F H as d)(hs:c8 c as=aa s)(N:(cg as).Nodup)(M:aX K y m f (d.map aa) u)(g:bv (U (l5 as S)) O' F y H u)(hO:∀b,U m b->O' b)(Z:∀(k:Nat) i,as[k]?=aa (.inr i)->∃C,f[k]?=aa (.own C)):∃T,aX K y T (eF c as f) t u/\bv (U S) (U T) F y H u/\∀b,U T b->U m b\/U S b:=by
 have up:∀{k:Nat}{v:V},(d.map aa)[k]?=aa (aa v)->d[k]?=aa v:=λ{k v} e=>by
  rw[jl]at e;cases q:d[k]? with
  |none=>rw[q]at e;cases e
  |some x=>rw[q]at e;cases e;rfl
 have fit:Fit (U (l5 as S)) F H:=λb h=>r.fit b (xP b h);have J:∀i C,c[i]?=aa (.own C)->i<c.length:=λi C e=>(c_.mp e).1;have lt:∀(k:Nat) i,as[k]?=aa (.inr i)->i<c.length:=λk i e=>by
  obtain⟨hl,hg⟩:=x_ hs;have D:k<s.length:=by rw[hl];exact(c_.mp e).1
  rcases hg k s[k] (by simp)with⟨_,z,_⟩|⟨j,p,z1,z2,z3⟩
  .rw[e]at z;cases z
  .rw[e]at z1;cases z1;exact J _ _ z2
 refine⟨λj b=>(∃k:Nat,as[k]?=aa (.inr j)/\m k b)\/(j∉cg as/\S j b),⟨by rw[xq];exact r.len,M.ex,λj pv e=>?_,λj C e=>?_,λj b h=>?_,λi j b A B=>?_⟩,⟨g.fro,λb o e n=>g.keep b o e λz=>n (xP b z),g.there,λa z=>(g.fnew a z).imp id λw=>w.imp id (xP a),λb ⟨j,z⟩=>?_⟩,λb ⟨j,z⟩=>?_⟩
 .by_cases G:j∈cg as
  .obtain⟨k,D⟩:=Gi.mp G;obtain⟨C,q⟩:=Z k j D;rw[ug as c f j k _ N (lt k j D) D q]at e;cases e
  .rw[sK as c f j G]at e;obtain⟨v,A,B⟩:=r.val j pv e;exact⟨v,A,B.grow g fit⟩
 .by_cases G:j∈cg as
  .obtain⟨k,D⟩:=Gi.mp G;obtain⟨po',q⟩:=Z k j D;rw[ug as c f j k _ N (lt k j D) D q]at e;cases e;obtain⟨a,A,B⟩:=M.own k C q;obtain⟨v,Q,P⟩:=ha.own D;rw[up A]at Q;cases Q;have O:(λb=>(∃k:Nat,as[k]?=aa (.inr j)/\m k b)\/(j∉cg as/\S j b))=m k:=by
    funext b;refine propext ⟨λz=>?_,λz=>.inl ⟨k,D,z⟩⟩;rcases z with⟨l,z1,z2⟩|⟨z,_⟩
    .rw[yI N D z1];trivial
    lia
   exact⟨a,P,by rw[O];trivial⟩
  .rw[sK as c f j G]at e;obtain⟨a,A,B⟩:=r.own j C e;have O:(λb=>(∃k:Nat,as[k]?=aa (.inr j)/\m k b)\/(j∉cg as/\S j b))=S j:=by
    funext b;refine propext ⟨λz=>?_,λz=>.inr ⟨G,z⟩⟩;rcases z with⟨l,z1,z2⟩|⟨_,z⟩
    .exact absurd (Gi.mpr ⟨l,z1⟩) G
    trivial
   have h3:fe K u y C a (S j):=by refine B.mono (λ_ _ q=>q.grow g fit) (λ_ _ q=>q.grow g fit) λb o z q=>g.keep b o q λ⟨l,i,L,I⟩=>?_;have:=r.dist i j b I z;subst this;exact G (Gi.mpr ⟨l,L⟩)
   exact⟨a,A,by rw[O];trivial⟩
 .rcases h with⟨k,A,B⟩|⟨A,B⟩
  .obtain⟨⟨C,q⟩,Y⟩:=M.foot k b B;exact⟨⟨C,ug as c f j k _ N (lt k j A) A q⟩,Y⟩
  .obtain⟨⟨C,q⟩,Y,o,X,q4⟩:=r.foot j b B;have no:¬U (l5 as S) b:=λ⟨l,i,L,I⟩=>by have:=r.dist i j b I B;subst this;exact A (Gi.mpr ⟨l,L⟩)
   refine⟨⟨C,by rw[sK as c f j A];exact q⟩,λz=>?_,o,g.keep b o X no,q4⟩;rcases g.fnew b z with w|w|w
   all_goals simp_all
 .have E:∀{i j:Nat}{b:ae},(∃k:Nat,as[k]?=aa (.inr i)/\m k b)->(j∉cg as/\S j b)->False:=λ{i j b} ⟨k,L,I⟩ ⟨w3,W⟩=>by
   obtain⟨_,_,o,X,_⟩:=r.foot j b W;rcases g.onew b (hO b ⟨k,I⟩)with⟨l,i',z1,z2⟩|z
   .have:=r.dist i' j b z2 W;subst this;exact w3 (Gi.mpr ⟨l,z1⟩)
   lia
  rcases A with A|A <;> rcases B with B|B
  .obtain⟨k,Q,P⟩:=A;obtain⟨l,b1,b2⟩:=B;have:=M.dist k l b P b2;simp_all
  .exact(E A B).elim
  .exact(E B A).elim
  .exact r.dist i j b A.2 B.2
 .rcases z with⟨k,_,z⟩|⟨_,z⟩
  .rcases g.onew b (hO b ⟨k,z⟩)with w|w
   .exact .inl (xP b w)
   .exact .inr w
  .exact .inl ⟨j,z⟩
 .rcases z with⟨k,_,z⟩|⟨_,z⟩
  .exact .inl ⟨k,z⟩
  .exact .inr ⟨j,z⟩
end
noncomputable def DR(X:Cx)(E:XK)(e:aB)(d:ad Slot):Prop :=
 ∀F S f a H Q,aX X.K F S f a H->Ok X.K E a F S H (d f) (λs _ h i c=>∀v g,oJ X.K c h s v g->(∀b,g b->H b=ac/\¬h b/\¬U i b/\∃o,c b=aa o/\eD o)->Q v c)->iu X e a H Q
noncomputable def eT:List cb->aj->Bool
 |[],_=>ai
 |.inl _::as,_::ss=>eT as ss
 |.inr _::as,.own _::ss=>eT as ss
 |_,_=>am
theorem nh:∀{as:List cb}{ss:aj},eT as ss=ai->∀(k:Nat) i,as[k]?=aa (.inr i)->∃a,ss[k]?=aa (.own a)
 |[],_,_,k,i,h=>by trivial
 |.inl _::as,s::ss,q,0,i,h=>by simp at h
 |.inl _::as,s::ss,q,k+1,i,h=>by simpa using nh (as:=as) (ss:=ss) (by trivial) k i (by trivial)
 |.inr _::as,.own a::ss,q,0,i,h=>⟨a,rfl⟩
 |.inr _::as,.own a::ss,q,k+1,i,h=>by simpa using nh (as:=as) (ss:=ss) (by trivial) k i (by trivial)
 |.inr _::as,.val _::ss,q,k,i,h=>by cases q
 |.inr _::as,.none::ss,q,k,i,h=>by cases q
 |.inl _::as,[],q,k,i,h=>by cases q
 |.inr _::as,[],q,k,i,h=>by cases q
noncomputable def dY{f:Type}(d:aj)(b:List cb)(r:R f):R f:=match r with
 |.ok s a=>if eT b a then .ok s (eF d b a)else .no
 |.er c a=>if eT b a then .er c (eF d b a)else .no
 |.no=>.no
noncomputable def aL(g:ad Slot)(c:ad (List cb)):ad Slot:=λε=>(c ε).bind λa ε1=>(aD (if(cg a).Nodup then c8 ε1 a else ac) ε1).bind λb ε1=>dY ε1 a (g b)
section
variable{X:Cx}{E:XK}{es:List aB}{pos:Pos}{g:ad Slot}{d:ad Slot}
theorem Hr{K:ay}{S0 B:Nat->ae->Prop}{a:aj}{F:St}{H n:Hp}{c:List cb}{W:List V}{Q:VK}(u:aX K r B a F n)(g1:bv (U S0) (U B) F0 r H n)(O:jb K F r n c W)(q:Ok K E F r B n ((aD (if(cg c).Nodup then c8 a c else ac) a).bind λC a=>dY a c (g C)) λs _ t T h=>∀v D,oJ K h t s v D->(∀b,D b->H b=ac/\¬t b/\¬U T b/\∃o,h b=aa o/\eD o)->Q v h):eN K g W n Q E:=by
 have q:=Ok.bind q;by_cases A:(cg c).Nodup
 .rw[if_pos A]at q;cases es:c8 a c with
  |none=>rw[es]at q;trivial
  |some C=>
   rw[es]at q;have q:=q r B n u (bv.refl ..);dsimp only at q;refine⟨r,l5 c B,C,u.cal O es A,?_⟩;cases N:g C with
   |no=>rw[N]at q;trivial
   |er cv P=>
    rw[N]at q;intro y t T h I M;unfold dY at q;dsimp only at q;by_cases f:eT c P=ai
    .rw[if_pos f]at q;obtain⟨S,G,L,_⟩:=u.called O es A I M (λ_ z=>z) (nh f);exact q y t S h G L
    .rw[if_neg f]at q;trivial
   |ok s P=>
    rw[N]at q;intro v t T h D I M Z J fr;unfold dY at q;dsimp only at q;by_cases f:eT c P=ai
    .rw[if_pos f]at q;obtain⟨S,G,L,Y⟩:=u.called O es A I M (λ_ z=>.inl z) (nh f);refine q t S h G L v D Z λb z=>⟨oA g1 (fr b z),(J b z).1,λw=>?_,(J b z).2.2⟩
     rcases Y b w with w|⟨i,w⟩
     .exact(J b z).2.1 w
     .obtain⟨_,_,o,y1,_⟩:=u.foot i b w
      grind
    .rw[if_neg f]at q;trivial
 .rw[if_neg A]at q;trivial
theorem ma(c:k9 l X.prog X.w X.K X.mg X.base x k m (eN X.K g))(s:fg k X.A)(r:pP l X E)(z:DG X E (e::es) j)(v:Gl X x:=by rfl)(w:ap x:=by decide) (B:aK (e::es) X.env=(am,aQ e X.env)::aK es X.env:=by rfl) (A:(cx pos (aK es X.env)).any (·.1)=am:=by rfl):DR X E (.Call (.Name x p) (e::es) [] pos) (aL g j):=λF S i a H Q n h=>by obtain⟨f,J,t,G,y,u⟩:=c.ex;refine bU (Fm G s v t u y .nil r g8 w B A) (z F S i a H _ n ((Ok.bind h).imp λL b O M N o C q I D=>?_));rw[gJ];exact Hr o C D q
noncomputable def qe:Slot->Option PV
 |.val pv=>aa pv
 |.own (.lst xs)=>aa (.lst xs)
 |_=>ac
noncomputable def a9(d:ad Slot):ad PV:=λε=>(d ε).bind λs ε1=>aD (qe s) ε1
noncomputable def Bi:Slot->Option PO
 |.own a=>aa a
 |_=>ac
noncomputable def kZ(d:ad Slot):ad PO:=λb=>(d b).bind λs a=>aD (Bi s) a
theorem DR.dn(h:DR X E e d):DN X E e (kZ d):=λF S ε f H Q o q=>by
 unfold kZ at q;refine h F S ε f H Q o ?_;cases b:d ε with
 |no=>rw[b]at q;trivial
 |er c i=>rw[b]at q;exact q
 |ok s ε1=>
  rw[b]at q;cases s with
  |none=>trivial
  |val pv=>exact q.elim
  |own C=>intro B z A r u v y n w;obtain⟨a,rfl,t⟩:=n;exact q B z A r u a y t w
theorem DR.de(h:DR X E e d):DE X E e (a9 d):=λF S ε f H Q i q=>by
 unfold a9 at q;cases b:d ε with
 |no=>rw[b]at q;exact q.elim
 |er c n=>refine h F S ε f H Q i ?_;rw[b]at q ⊢;exact q
 |ok s ε1=>
  cases s with
  |none=>rw[b]at q;exact q.elim
  |val pv=>refine h F S ε f H Q i ?_;rw[b]at q ⊢;exact λB z A r w v G o D=>q B z A r w v o.1
  |own t=>
   refine h.dn.de F S ε f H Q i ?_;unfold dF kZ;rw[b]at q ⊢;cases t with
   |lst xs=>exact q
   |dK a=>exact q
   |lls u=>exact q
   |dL u=>exact q
   |ins C fs=>exact q
   |dT a=>exact q
   |dN a=>exact q
   |inl C fs y xs=>exact q
noncomputable def mQ(d:ad Slot):ad aG:=λb=>(d b).bind λs a=>.ok (.ret s) a
theorem zF(B:DR X E e d):DS X E pin (.Return (aa e) pos) (mQ d):=λF S n f H D u h=>by
 refine gi (xt bF) (B F S n f H _ u ?_);unfold mQ at h;cases i:d n with
 |no=>rw[i]at h;trivial
 |er c r=>rw[i]at h;exact λx O J M A C=>h x O J f M A C (jc.refl _ _)
 |ok s q=>rw[i]at h;intro N I L y a v G t o;exact h v N I f L G y ⟨a.fro,a.keep,a.there,a.fnew,λb z=>z.elim (a.onew b) λw=>.inr (o b w).1⟩ (jc.refl _ _) t λb z=>(o b z).2
noncomputable def ku(d:ad Slot):ad aG:=λb=>(d b).bind λ_ a=>.ok .next a
theorem rD(o:DR X E e d)(n:jj e ac pos.line X.env=pure am:=by rfl):DS X E pin (.Expr e pos) (ku d):=λF S c a H D f h=>gi (uX bF n) (o F S c a H _ f (h.bindE.imp λx b t r s i w q v z u y=>q t r a s i (bv.refl ..) (jc.refl _ _)))
end
end Pu
namespace L2
section
variable{m:List (ae×Obj)}{s:ao}
theorem OW{F:Pos}(B:iy X d x l i)(hk:k<=i.length)(hc:X.calm=ai)(hi:PI X P r wi)(cM:∀C t w Y T,PG (cc X d l C t w Y T) P λv N H Q=>∃vs,vs.length=k+1/\N.length=l.length/\O v H vs/\Q (vs++N.drop (k+1)) H)(ht:∀C t w Y T,pR (cc X d l C t w Y T) A ts) (he:∀C t w Y T,PE (cc X d l C t w Y T) E te) (hN:X.N.Nodup) (qW:X.N[G]?=aa y) (hxy:Loc X.env.scope y) (qX:jj (.ListComp E [⟨P,r,A,0⟩] d J) (aa (.Name y py)) F.line X.env=pure ai) (hf:X.fn y=ai\/X.env.scope.names.lookup y=aa .local) (hs:∀x,lw r X.env x=pure x):PS X (.Assign [.Name y py] (.ListComp E [⟨P,r,A,0⟩] d J) F) (λD j H=>Ch wi O k ts te i j H λv H'=>D.nx (j.set G (aa v)) H'):=by
 intro m s j H D I h;rw[exec_Assign_Name_used _ _ _ _ qX];refine aq (wpAny_standAt (aq ?_));show au _ X.A (do let _ <-comprehension (.ListComp E [⟨P,r,A,0⟩] d J) d X.env _ (newList []) am (aQ r X.env) (aa (oS (.Name y py) X.env))) _ _ s;refine aq (eU (?_:au _ X.A _ (λ_ s'=>SP X m D .next s') X.xe s) (λ_ s' hq=>aE (aE hq)) λ_ _ e=>e);refine HA (use:=aa (oS (.Name y py) X.env)) B hk hc hi cM ht he hs I h λ{L s6 H3 H5 fp σ5 a f} I3 f3 I6 q=>?_;obtain⟨mm,hn6,_⟩:=I6.loc;have J6:Inv X m j _ _:=I3.unblock f3 I6 (Jn _ _);have nlc:L.heap.objs.size≠X.env.locals:=λe=>absurd I3.lt (by rw[<-e];simp);have W:∀z c,X.env.cells.lookup z=aa c->c≠L.heap.objs.size:=λz c e Z=>by obtain⟨vv,oo,ho,_⟩:=I3.cell z c e;exact absurd (bC ho) (by rw[Z];simp)
 refine wpAny_assign_Name (Hs (v:=.ref a) J6 hN qW hxy rfl (λs7 I7 ⟨a7,sb7,ha7⟩=>?_) hf);have na7:L.heap.objs.size≠a7:=by
  rcases ha7 with z|z
  .rw[z];trivial
  .exact(W _ _ z).symm
 refine⟨mm,hn6.sameBut sb7 na7,λmD S=>⟨_,_,?_,q⟩⟩;have hC5:H5 L.heap.objs.size=ac:=I6.free;refine I7.call' (s':={s7 with heap:=mD}) (ch:=[L.heap.objs.size]) rfl ⟨λb o e n hb M=>?_,λb o e n hb M=>?_,λb o e n M=>n,λb o e M=>?_,λb xs e=>e,λb o u e=>e,λb ps e=>⟨e,λc o Z g=>⟨(S.2 c (λz=>by lia)).trans g,Z⟩⟩⟩ ?_ I7.bare λb hb=>?_
 .exact(S.2 b (~~~M)).trans e
 .exact⟨o.slots,(S.2 b (~~~M)).trans (by trivial)⟩
 .exact⟨o,(S.2 b (~~~M)).trans e⟩
 .intro b u e;refine(I7.hok b u e).stay (λc v hc q=>(S.2 c ?_).trans q) (λ_ q=>q) λ_ _ q=>q;lia
 .have e:b=L.heap.objs.size:= ~~~hb
  subst e;refine⟨.inr I3.sz,nlc,W,λp hp Z=>?_⟩;obtain⟨e3,_⟩:=I3.pin p hp;exact absurd (bC e3) (by rw[Z];simp)
theorem Il{f:Pos}(B:iy X d x l i)(J:X.calm=ai)(F:PI X (.Name x p) a wi)(A:∀C b c t q,pR (cc X d l C b c t q) h ts) (I:∀C b c t q,PE (cc X d l C b c t q) n te) (L:X.N.Nodup) (z:X.N[g]?=aa y) (r:Loc X.env.scope y) (w:jj (.ListComp n [⟨.Name x p,a,h,0⟩] d o) (aa (.Name y u)) f.line X.env=pure ai) (G:X.fn y=ai\/X.env.scope.names.lookup y=aa .local) (E:∀x,lw a X.env x=pure x):PS X (.Assign [.Name y u] (.ListComp n [⟨.Name x p,a,h,0⟩] d o) f) (λD j H=>Cg wi ts te i j H λv M=>D.nx (j.set g (aa v)) M):=OW B (gn _) J F (Eu B) A I L z r w G E
end
end L2
namespace Pu
open L2
noncomputable def gz(ε:aj):List Nat->Option (List cb)
 |[]=>aa []
 |j::cap=>match ε[j]? with
  |some (.val pv)=>(gz ε cap).map (.inl pv::·)
  |some (.own _)=>(gz ε cap).map (.inr j::·)
  |_=>ac
noncomputable def fR{b:Type}(cap:List Nat)(d:ad b)(x:PV):ad b:=λε=>(aD (gz ε cap) ε).bind λa _=>(aD (if(cg a).Nodup then c8 ε (.inl x::a)else ac) ε).bind λc _=>dY ε (.inl x::a) (d c)
noncomputable def cL{a:Type}(r:R a):R a:=match r with
 |.er _ _=>.no
 |r=>r
noncomputable def jB(cap:List Nat)(dt:ad Bool)(de:ad PV):List PV->List PV->aj->R (List PV)
 |[],a,ε=>.ok a ε
 |x::xs,a,ε=>(cL (fR cap dt x ε)).bind λk ε1=>match k with
  |true=>(cL (fR cap de x ε1)).bind λy b=>jB cap dt de xs (a++[y]) b
  |false=>jB cap dt de xs a ε1
noncomputable def cy(cap:List Nat)(c:ad (List PV))(dt:ad Bool)(de:ad PV):ad PO:=λε=>(c ε).bind λxs ε1=>(jB cap dt de xs [] ε1).bind λb a=>.ok (.lst b) a
theorem zD{K:ay}{f:aj}{d:St}{H:Hp}(r:aX K F S f d H):∀{b:List Nat}{i:List cb},gz f b=aa i->∃c,jb K d F H i c/\gB d b=c.map aa
 |[],i,h=>by cases h;exact⟨[],rfl,rfl⟩
 |j::b,i,h=>by
  unfold gz at h;split at h
  .rename_i pv e;cases q:gz f b with
   |none=>rw[q]at h;cases h
   |some bs=>
    rw[q]at h;cases h;obtain⟨c,m,l⟩:=zD r q;obtain⟨v,g,n⟩:=r.val j pv e;refine⟨v::c,⟨v,c,rfl,n,m⟩,?_⟩;show(d[j]?).join::gB d b=_;rw[g,l];rfl
  .rename_i o e;cases q:gz f b with
   |none=>rw[q]at h;cases h
   |some bs=>
    rw[q]at h;cases h;obtain⟨c,m,l⟩:=zD r q;obtain⟨a,g,n⟩:=r.own j o e;refine⟨.ref a::c,⟨_,c,rfl,g,m⟩,?_⟩;show(d[j]?).join::gB d b=_;rw[g,l];rfl
  trivial
theorem EF{K:ay}{S:Nat->ae->Prop}{s:aj}{f:St}{H:Hp}{G:Type}{b:List Nat}{d:ad G}{x:PV}{v:V}{C:G->aj->(ae->Prop)->(Nat->ae->Prop)->Hp->Prop}(r:aX K F S s f H) (N:aZ K H F x v) (h:Ok K E f F S H (cL (fR b d x s)) C):∃L l,aX K F L l (aa v::gB f b) H/\Ok K E0 (aa v::gB f b) F L H (d l) (λa _ q _ p=>∃j u,aX K q u j f p/\bv (U S) (U u) F q H p/\C a j q u p):=by
 unfold fR at h;cases B:gz s b with
 |none=>rw[B]at h;trivial
 |some g=>
  rw[B]at h;simp only[ci,R.bind_ok]at h;by_cases y:(cg g).Nodup
  .rw[if_pos y]at h;cases t:c8 s (.inl x::g)with
   |none=>rw[t]at h;trivial
   |some l=>
    rw[t]at h;simp only[ci,R.bind_ok]at h;obtain⟨w,T,Q⟩:=zD r B;have o:jb K f F H (.inl x::g) (v::w):=⟨v,w,rfl,N,T⟩
    have n:aa v::gB f b=(v::w).map aa:=by rw[Q];rfl
    have m:(cg (.inl x::g)).Nodup:=y;refine⟨l5 (.inl x::g) S,l,by rw[n];exact r.cal o t m,?_⟩;rw[n];cases A:d l with
    |no=>rw[A]at h;trivial
    |er c D=>
     rw[A]at h;unfold dY at h;dsimp only at h;by_cases i:eT (.inl x::g) D=ai
     .rw[if_pos i]at h;trivial
     .rw[if_neg i]at h;trivial
    |ok a D=>
     rw[A]at h;intro q u p O P;unfold dY at h;dsimp only at h;by_cases i:eT (.inl x::g) D=ai
     .rw[if_pos i]at h;obtain⟨M,I,J,_⟩:=r.called o t m O P (λ_ z=>z) (nh i);exact⟨_,M,I,J,h q M p I J⟩
     .rw[if_neg i]at h;trivial
  .rw[if_neg y]at h;trivial
noncomputable def uW(X:Cx)(a:List aB):TT:=λb H Q=>Bx (∀d s,Inv X d b H s->au X.zz X.A (forIn a ai λc r=>if r=ai then do let ok <-nH c X.env (aQ c X.env);pure (ForInStep.yield ok)else pure (ForInStep.yield r)) (TP X d b Q) X.xe s)
noncomputable def DF(X:Cx)(E:XK)(c:List aB)(d:ad Bool):Prop:=∀F S f a H Q,aX X.K F S f a H->Ok X.K E a F S H (d f) (λb _ _ _ g=>Q b g)->uW X c a H Q
noncomputable def dYes:ad Bool:=λε=>.ok ai ε
theorem Mm:DF X E [] dYes:=λF S d a H Q b h=>⟨λc s I=>N7 c s a H Q I (h F S H b (bv.refl ..))⟩
theorem uT(h:DT X E c d):DF X E [c] d:=λF S b a H Q f q=>⟨λg s I=>IM nj g s a H Q I (h F S b a H Q f q)⟩
theorem Ok.bindB{K:ay}{F s:ae->Prop}{S n:Nat->ae->Prop}{H p:Hp}{j i:Type}{D:i->aj->(ae->Prop)->(Nat->ae->Prop)->Hp->Prop}{r:R j}{k:j->aj->R i}(h:Ok K E b F S H (r.bind k) D)(g:bv (U S) (U n) F s H p):Ok K E b s n p r (λa d _ _ _=>Ok K E b F S H (k a d) D):=by
 cases r with
 |no=>exact h
 |er c f=>exact λx t o q l m=>h x t o q l (g.trans m)
 |ok a f=>exact λt o q l m=>h
section
theorem bv.stay(g:bv O a F h H b)(e:H l=aa o)(n:¬O l)(i:¬F l):b l=aa o/\¬h l/\¬a l :=⟨g.keep l o e n,λz=>(g.fnew l z).elim i λw=>w.elim (λq=>by lia) n,λz=>(g.onew l z).elim n λq=>by lia⟩
theorem aX.lay{K:ay}{p:aj}{m:St}{H:Hp}{l:ae}{o o':HO}(r:aX K F S p m H)(y:H l=aa o)(no:eD o)(v:¬F l)(nS:¬U S l):bv (λb=>U S b\/b=l) (U S) F F H (L2.upd H l o')/\Fit (λb=>U S b\/b=l) F H/\aX K F S p m (L2.upd H l o'):=by
 have h:bv (λb=>U S b\/b=l) (U S) F F H (L2.upd H l o'):=⟨λ_ z=>z,λb o e n=>by rw[bi λz=>n (.inr z)];exact e,λb o e=>by
  by_cases s:b=l
  .subst s;exact⟨_,upd_same⟩
  .exact⟨o,by rw[bi s];exact e⟩,λ_ z=>.inl z,λ_ z=>.inl (.inl z)⟩
 have i:Fit (λb=>U S b\/b=l) F H:=λb z=>by
  rcases z with z|rfl
  .exact r.fit b z
  .exact⟨v,_,y,no⟩
 refine⟨h,i,r.len,λb z=>let ⟨o,q⟩:=r.ex b z;h.there b o q,λj pv e=>?_,λj u e=>?_,λj b z=>?_,r.dist⟩
 .obtain⟨w,g,a⟩:=r.val j pv e;exact⟨w,g,a.grow h i⟩
 .obtain⟨w,g,a⟩:=r.own j u e;refine⟨w,g,a.mono (λ_ _ q=>q.grow h i) (λ_ _ q=>q.grow h i) λb o z q=>?_⟩;rw[bi (by rintro rfl;exact nS ⟨j,z⟩)];exact q
 .obtain⟨g,a,o,A,t⟩:=r.foot j b z;exact⟨g,a,o,by rw[bi (by rintro rfl;exact nS ⟨j,z⟩)];trivial,t⟩
theorem bv.lay(g:bv O a F i H h)(m:H l=ac):bv O a F i H (L2.upd h l o'):=by
 refine⟨g.fro,λb o e n=>?_,λb o e=>?_,g.fnew,g.onew⟩
 .rw[bi (by lia)];exact g.keep b o e n
 .obtain⟨j,q⟩:=g.there b o e;exact⟨j,by rw[bi (by lia)];exact q⟩
theorem AH{elt:aB}{ifs:List aB}{di:ad (List PV)}{dt:ad Bool}{de:ad PV}(hi:DI X E (.Name x px) D di)(ht:∀C g j w t,DF (cc X c f C g j w t) E0 ifs dt) (he:∀C g j w t,DE (cc X c f C g j w t) E0 elt de){F:ae->Prop}{S:Nat->ae->Prop}{ε:aj}{r:St}{H:Hp}{Q:VK} (rl:aX X.K F S ε r H) (h:Ok X.K E r F S H (cy d di dt de ε) (λpo _ A O n=>∀a Sa,fe X.K n A po a Sa->(∀b,Sa b->H b=ac/\¬A b/\¬U O b/\∃o,n b=aa o/\eD o)->Q (.ref a) n)):Cg (qg X (.Name x px) D) (λr H Q=>∀C g j w t,uW (cc X c f C g j w t) ifs r H Q) (λr H Q=>∀C g j w t,iu (cc X c f C g j w t) elt r H Q) d r H Q:=by
 refine hi F S ε r H _ rl ((Ok.bind h).imp λxs ε1 T S1 H1 r1 g1 h1 J vs RR rs hz hw keep l hl=>?_);have h1:=h1.bind;have hvl:vs.length=xs.length:=rs.len;have a0:Al T T H1 (upd H1 l (.lst [])):=Al.new0 hl;have nF1:¬T l:=λz=>by obtain⟨o,q⟩:=r1.ex l z;lia
 have nS1:¬U S1 l:=λ⟨i,z⟩=>by obtain⟨_,_,o,q,_⟩:=r1.foot i l z;lia
 have hH:H l=ac:=oA g1 hl;refine⟨λi m I n=>m=xs.length-i/\i<=xs.length/\∃A O ε' p,aX X.K A O ε' r n/\bv (U S1) (U O) T A H1 n/\n l=aa (.lst I)/\¬A l/\¬U O l/\Reps X.K n A p I/\I.length<=i /\ Ok X.K E r T S1 H1 (jB d dt de (xs.drop i) p ε') (λys' B Y S2 P=>Ok X.K E r Y S2 P (R.ok (PO.lst ys') B) (λpo _ A O n=>∀a Sa,fe X.K n A po a Sa->(∀b,Sa b->H b=ac/\¬A b/\¬U O b/\∃o,n b=aa o/\eD o)->Q (.ref a) n)),⟨_,rfl,gn _,T,S1,ε1,[],r1.al a0,a0.grow,upd_same,nF1,nS1,rfl,bc _,h1⟩,?_⟩;rintro i m I P ⟨rfl,hi,Y,S2,B,p,W,N,el,nF2,nS2,s,hyl,q2⟩;have RH:=keep S2 Y P N;by_cases bg:i<xs.length
 .obtain⟨v,hv⟩:∃v,vs[i]?=aa v:=⟨_,fj ⋯⟩
  obtain⟨go,yl⟩:=(hw P RH i).1 v hv;refine .inr ⟨go,λv' n y=>⟨[aa v'],rfl,rfl,?_⟩⟩;obtain⟨e1,e2⟩:=yl v' n y;subst e1 e2;obtain⟨px',hx,rx⟩:=rs.back hv;have ed:xs.drop i=px'::xs.drop (i+1):=by rw[CY bg];congr 1;exact(c_.mp hx).2
  rw[ed]at q2;have rx2:=rx.grow N r1.fit;have q3:=Ok.bindB q2 N;obtain⟨Sb,ss,rb,okb⟩:=EF W rx2 q3;intro C g j w t;refine ht C g j w t Y Sb ss _ n _ rb (okb.imp λb _ F3 _ H3 _ _ ⟨Z,S3,r3,M,q4⟩=>?_);obtain⟨el3,nF3,nS3⟩:=M.stay el nS2 nF2;cases b with
  |false=>exact oB ⟨_,nofun,rfl,bg,F3,S3,Z,p,r3,N.trans M,el3,nF3,nS3,s.grow M W.fit,∅,q4⟩
  |true=>refine oH ?_;have q5:Ok X.K E r T S1 H1 ((cL (fR d de px' Z)).bind λy B=>jB d dt de (xs.drop (i+1)) (p++[y]) B) _:=q4;obtain⟨Sc,sc,rc,okc⟩:=EF r3 (rx2.grow M W.fit) (Ok.bindB q5 (N.trans M));intro C g j w t;refine he C g j w t F3 Sc sc _ H3 _ rc (okc.imp λy _ F4 _ H4 _ _ ⟨ε4,S4,r4,g4,q6⟩ u ru=>?_);obtain⟨el4,nF4,nS4⟩:=g4.stay el3 nS3 nF3;have L:=(s.grow M W.fit).grow g4 r3.fit;obtain⟨gl,G,r5⟩:=r4.lay (o':=.lst (I++[u])) el4 trivial nF4 nS4;have g5:=((N.trans M).trans g4).lay (o':=.lst (I++[u])) hl;refine⟨el4,?_,_,nofun,rfl,bg,F4,S4,ε4,p++[y],r5,g5,upd_same,nF4,nS4,(L.grow gl G).app (.one (ru.grow gl G)),by simp;omega,q6⟩;lia
 .have e:i=xs.length:=∅
  subst e;refine .inl ⟨(hw P RH _).2 hvl.symm,?_⟩;rw[Jy]at q2;exact q2 Y S2 P W N Y S2 P W (bv.refl ..) l (λb=>b=l) ⟨⟨I,el,s⟩,λb=>o0⟩ λb z=>by subst z;exact⟨hH,nF2,nS2,_,el,trivial⟩
theorem lT(B:iy X c x f d)(y:X.calm=ai)(v:DI X E (.Name x o) g q)(t:∀C a b j i,DF (cc X c f C a b j i) E0 l dt) (w:∀C a b j i,DE (cc X c f C a b j i) E0 m de) (u:∀x,lw g X.env x=pure x:=by intro _;rfl):DN X E (.ListComp m [⟨.Name x o,g,l,0⟩] c pos) (cy d q dt de):=λF S z n H Q r h=>bU (Gp (wi:=qg X (.Name x o) g) (ts:=λn H Q=>∀C a b j i,uW (cc X c f C a b j i) l n H Q) (te:=λn H Q=>∀C a b j i,iu (cc X c f C a b j i) m n H Q) (pos:=pos) B y vt (λC a b j i p s n H Q I h=>(h C a b j i).run p s I) (λC a b j i p s n H Q I h=>(h C a b j i).run p s I) u) (AH v t w r h)
end
theorem MT(x y:Tx):tS x++tS y=tS (x++y):=by
 show(⟨x.toArray++y.toArray⟩:Str)=⟨(x++y).toArray⟩
 simp
noncomputable def bq:PV->PV->Option PV
 |.int i,.int j=>aa (.int (i+j))
 |.str x,.str y=>if(x++y).length<=bw then aa (.str (x++y))else ac
 |.tup xs,.tup a=>if xs≠[]/\a≠[]/\xs.length+a.length<=1000 then aa (.tup (xs++a))else ac
 |.lst xs,.lst a=>if xs.length+a.length<=bw then aa (.lst (xs++a))else ac
 |_,_=>ac
noncomputable def fA:PV->PV->Option PV
 |.int i,.int j=>aa (.int (i-j))
 |_,_=>ac
noncomputable def yy(i:Int):Bool:=decide (-(2^64)<i/\i<2^64)
noncomputable def jW:PV->PV->Option PV
 |.int i,.int j=>if yy i||yy j then aa (.int (i*j))else ac
 |.str x,.int j=>if 0<=j/\j<=100/\x.length<=100 then aa (.str (bz j.toNat x).flatten)else ac
 |_,_=>ac
noncomputable def iS:PV->PV->Option PV
 |.int i,.int j=>if 0<j then aa (.int (i % j))else ac
 |_,_=>ac
noncomputable def uK:PV->PV->Option PV
 |.int i,.int j=>if 0<=j/\j<=1000000/\i.natAbs<2^64 then aa (.int (i^j.toNat))else ac
 |_,_=>ac
noncomputable def dO:PV->Option PV
 |.int i=>aa (.int (-i))
 |_=>ac
noncomputable def GT:R2:=λx y H Q=>∃l b xs a,x=.ref l/\y=.ref b/\Rd H l (.lst xs)/\Rd H b (.lst a)/\xs.length+a.length<=bd/\∀p,H p=ac->Q (.ref p) (upd H p (.lst (xs++a)))
noncomputable def xA(K:ay):R2:=λx y H Q=>((lU λi j=>V.int (i+j)) x y H Q\/∃i j,x=.str i/\y=.str j/\i.length+j.length<=bd/\Q (.str (i++j)) H)\/(Fs K x y H Q\/GT x y H Q)
noncomputable def G6:R2:=λx y H Q=>rI Be (λi j=>.int (i*j)) x y H Q\/∃(z:Tx) (n:Nat),x=tV z/\y=.int n/\n<=100/\z.length<=100/\Q (tV (bz n z).flatten) H
section
variable{X:Cx}{K:ay}
theorem pt:P2 K (lU λi j=>.int (i-j)) fA:=λF H x y v u Q pv b a e q=>by
 unfold fA at e;split at e
 .cases e;exact⟨_,_,b,a,q _ F H (Al.refl ..) rfl⟩
 trivial
theorem sS:P2 K (rI (λ_ j=>0<j) λi j=>.int (i % j)) iS:=λF H x y v u Q pv b a e q=>by
 unfold iS at e;split at e
 .split at e
  .cases e;exact⟨_,_,b,a,by trivial,q _ F H (Al.refl ..) rfl⟩
  trivial
 trivial
theorem Up:P2 K (rI FQ λi j=>.int (i^j.toNat)) uK:=λF H x y v u Q pv b a e q=>by
 unfold uK at e;split at e
 .split at e
  .cases e;exact⟨_,_,b,a,by trivial,q _ F H (Al.refl ..) rfl⟩
  trivial
 trivial
theorem nA:P1 K (rU λi=>.int (-i)) dO:=λF H x v Q pv a e q=>by
 unfold dO at e;split at e
 .cases e;exact⟨_,a,q _ F H (Al.refl ..) rfl⟩
 trivial
theorem Bz(I:Inv X c b H s)(h:Rd H l (.lst xs)):∃(a:List ah) (n:Nat),bt xs a/\s.heap.get? l=aa {cls:=.type "list",data:=.seq a.toArray n}/\xs.length<=bd:=by obtain⟨z,a,n,r,e⟩:=h.ok I.hok;exact⟨a,n,r,e,z⟩
theorem NE:bZ X (iH .Add) GT:=by
 intro B s p H x y v u Q I i g h;obtain⟨l,b,xs,t,rfl,rfl,f,j,z,q⟩:=h;cases i;cases g;obtain⟨c,n,r,e,_⟩:=Bz I f;obtain⟨a,w,d,o,_⟩:=Bz I j;have f:=r.length;have A:=d.length;refine PySem.P.add_list e o ?_ ⋯;have m:c.toArray++a.toArray=(c++a).toArray:=by simp
 rw[m];exact⟨.ref _,_,I.lnew (t':=s.toks) (r.append d) (by rw[ef];omega),rfl,q _ I.fresh⟩
theorem fh:bZ X (iH .Add) (xA X.K):=(U8.or Nq).or (U4.or NE)
theorem e_:P2 K (xA K) bq:=λF H x y v u Q pv i h e q=>by
 unfold bq at e;split at e
 .cases e;exact .inl (.inl ⟨_,_,i,h,q _ F H (Al.refl ..) rfl⟩)
 .rename_i x y;split at e
  .rename_i c;cases e;refine .inl (.inr ⟨_,_,i.1,h.1,?_,?_⟩)
   .rw[m_,m_];rw[ef]at c;exact bT c lZ
   .exact q _ F H (Al.refl ..) ⟨by rw[MT];rfl,c⟩
  trivial
 .rename_i xs s;split at e
  .rename_i c;cases e;obtain⟨a,l,rfl,r,f⟩:=i;obtain⟨b,j,rfl,o,d⟩:=h;have n:=f.len;have m:=d.len;refine .inr (.inl ⟨a,b,l,j,rfl,rfl,cC.of r,cC.of o,λz=>c.1 (by grind),by rw[n,m];exact Av c.2.2,λz=>absurd (by grind) c.2.1,λ_ p g=>?_⟩);exact q _ F _ (Al.new0 g) ⟨p,_,rfl,upd_same,(Al.new0 g).reps (f.app d)⟩
  trivial
 .rename_i xs s;split at e
  .rename_i c;cases e;obtain⟨a,l,rfl,r,w,f⟩:=i;obtain⟨b,j,rfl,o,t,d⟩:=h;have n:=f.len;have m:=d.len;refine .inr (.inr ⟨a,b,l,j,rfl,rfl,r,o,by rw[n,m];exact bT c lZ,λp g=>?_⟩);exact q _ _ _ (Al.new g) ⟨p,_,rfl,.inl upd_same,.inr rfl,(Al.new g).reps (f.app d)⟩
  trivial
 trivial
theorem xL:bZ X (iH .Mult) G6:=UW.or QD
theorem xy:P2 K G6 jW:=λF H x y v u Q pv b a e q=>by
 unfold jW at e;split at e
 .rename_i i j;split at e
  .rename_i h;cases e;refine .inl ⟨_,_,b,a,?_,q _ F H (Al.refl ..) rfl⟩;rw[y0]at h;exact h.imp of_decide_eq_true of_decide_eq_true
  trivial
 .rename_i x j;split at e
  .rename_i h;cases e;refine .inr ⟨x,j.toNat,b.1,?_,⋯,h.2.2,q _ F H (Al.refl ..) ⟨rfl,?_⟩⟩
   .rw[show u=V.int j from a];congr 1;lia
   .rw[AN];have c:j.toNat<=100:=⋯
    exact bT (Nat.mul_le_mul c h.2.2) (by decide)
  trivial
 trivial
noncomputable def cP(f:Int->Int->Bool):PV->PV->Option PV
 |.int i,.int j=>aa (.bl (f i j))
 |_,_=>ac
theorem jC:P2 K (lU λi j=>.bl (f i j)) (cP f):=λF H x y v u Q pv b a e q=>by
 unfold cP at e;split at e
 .cases e;exact⟨_,_,b,a,q _ F H (Al.refl ..) rfl⟩
 trivial
noncomputable def dv:PV->Option V
 |.non=>aa .non
 |.bl b=>aa (.bl b)
 |.int i=>aa (.int i)
 |.str x=>aa (tV x)
 |_=>ac
theorem jv(r:aZ K H F x v)(e:dv x=aa w):v=w:=by
 cases x <;> simp[dv]at e <;> subst e
 .exact r
 .exact r
 .exact r
 .exact r.1
theorem rm(e:dv x=aa w):fU w=ai:=by
 cases x <;> simp[dv]at e <;> subst e <;> rfl
mutual
noncomputable def dP:PV->PV->Option Bool
 |.tup xs,y=>match y with
  |.tup a=>iF xs a
  |_=>ac
 |.lst xs,y=>match y with
  |.lst a=>iF xs a
  |_=>ac
 |.non,y=>(dv y).map (eG .non)
 |.bl b,y=>(dv y).map (eG (.bl b))
 |.int i,y=>(dv y).map (eG (.int i))
 |.str x,y=>(dv y).map (eG (tV x))
 |.raw _,_=>ac
 |.exc _,_=>ac
noncomputable def iF:List PV->List PV->Option Bool
 |[],c=>aa c.isEmpty
 |x::xs,c=>match c with
  |[]=>aa am
  |y::c=>(dP x y).bind λa=>(iF xs c).map λb=>a&&b
end
mutual
noncomputable def kt:PV->Nat
 |.tup xs=>jE xs+1
 |.lst xs=>jE xs+1
 |_=>0
noncomputable def jE:List PV->Nat
 |[]=>0
 |x::xs=>max (kt x) (jE xs)
end
theorem IK(h:iT K H d x y k)(l:d<=a):iT K H a x y k:=λX g i b s u v A I f c j=>h X g i b s u v A I f c ∅
theorem xS(b:fU w=ai)(e:(dv y).map (eG w)=aa k)(a:aZ K H F y u):iT K H d w u k:=by
 cases q:dv y with
 |none=>simp_all
 |some z=>
  rw[q]at e;cases e;rw[jv a q];exact Me b (rm q)
theorem Lx(h:Rd H a (.lst xs))(g:Rd H a (.lst b)):xs=b:=by
 rcases h with h|⟨o,h⟩ <;> rcases g with g|⟨c,g⟩ <;> rw[h]at g <;> cases g <;> rfl
theorem T7:gc (λj=>if j=0 then a else e (j-1)) (n+1) (m+1)=(a&&gc e n m):=by unfold gc;rw[show min (n+1) (m+1)=min n m+1 by simp,yZ,s_,List.all_map,if_pos rfl,Bool.and_assoc];congr 1;congr 1;simp
mutual
theorem At:∀(x y:PV) {v:V}{k:Bool},dP x y=aa k->aZ K H F x v->aZ K H F y v->k=ai
 |.tup xs,y,v,k,e,d,c=>by
  unfold dP at e;split at e
  .obtain⟨a,m,rfl,i,f⟩:=d;obtain⟨b,l,j,g,h⟩:=c;cases j;rw[i]at g;cases g;exact Br xs _ e f h
  .cases e
 |.lst xs,y,v,k,e,d,c=>by
  unfold dP at e;split at e
  .obtain⟨a,m,rfl,i,_,f⟩:=d;obtain⟨b,l,j,g,_,h⟩:=c;cases j;rw[Lx i g]at f;exact Br xs _ e f h
  .cases e
 |.non,y,v,k,e,d,c=>by
  unfold dP at e;cases q:dv y with
  |none=>rw[q]at e;cases e
  |some z=>rw[q]at e;cases e;rw[<-jv c q,show v=V.non from d];rfl
 |.bl b,y,v,k,e,d,c=>by
  unfold dP at e;cases q:dv y with
  |none=>rw[q]at e;cases e
  |some z=>rw[q]at e;cases e;rw[<-jv c q,show v=V.bl b from d];exact beq_self_eq_true b
 |.int b,y,v,k,e,d,c=>by
  unfold dP at e;cases q:dv y with
  |none=>rw[q]at e;cases e
  |some z=>rw[q]at e;cases e;rw[<-jv c q,show v=V.int b from d];exact beq_self_eq_true b
 |.str b,y,v,k,e,d,c=>by
  unfold dP at e;cases q:dv y with
  |none=>rw[q]at e;cases e
  |some z=>rw[q]at e;cases e;rw[<-jv c q,show v=tV b from d.1];exact beq_self_eq_true (tS b)
 |.raw _,_,_,_,e,_,_=>by unfold dP at e;cases e
 |.exc _,_,_,_,e,_,_=>by unfold dP at e;cases e
theorem Br:∀(xs c:List PV) {d:List V}{k:Bool},iF xs c=aa k->Reps K H F xs d->Reps K H F c d->k=ai
 |[],c,d,k,e,h,f=>by
  unfold iF at e;rw[show d=[] from h]at f;have:=f.len;cases c with
  |nil=>cases e;rfl
  |cons=>simp at this
 |x::xs,c,d,k,e,h,f=>by
  unfold iF at e;obtain⟨v,r,rfl,l,j⟩:=h;cases c with
  |nil=>have:=f.len;simp at this
  |cons y c=>
   obtain⟨p,q,o,n,m⟩:=f;cases o;simp only at e;cases g:dP x y with
   |none=>rw[g]at e;cases e
   |some a=>
    cases i:iF xs c with
    |none=>rw[g,i]at e;cases e
    |some b=>
     rw[g,i]at e;cases e;rw[At x y g l n,Br xs c i j m];rfl
end
mutual
theorem Us:∀(x y:PV) {v u:V}{k:Bool},dP x y=aa k->aZ K H F x v->aZ K H F y u->iT K H (kt x) v u k
 |.tup xs,y,v,u,k,e,d,c=>by
  have o:=e;unfold dP at e;split at e
  .rename_i h;obtain⟨a,q,rfl,n,j⟩:=id d;obtain⟨b,p,rfl,m,i⟩:=id c;by_cases g:a=b
   .subst g;rw[At _ _ o d c];exact EA
   .obtain⟨f,l,rfl⟩:=uY xs h e j i;unfold kt;exact Nb (cC.of n) (cC.of m) g l
  .cases e
 |.lst xs,y,v,u,k,e,d,c=>by
  have o:=e;unfold dP at e;split at e
  .rename_i h;obtain⟨a,q,rfl,n,_,j⟩:=id d;obtain⟨b,p,rfl,m,_,i⟩:=id c;by_cases g:a=b
   .subst g;rw[At _ _ o d c];exact EA
   .obtain⟨f,l,rfl⟩:=uY xs h e j i;unfold kt;exact KF (.inl n) (.inl m) g l
  .cases e
 |.non,y,v,u,k,e,d,c=>by unfold dP at e;rw[show v=V.non from d];exact xS rfl e c
 |.bl b,y,v,u,k,e,d,c=>by unfold dP at e;rw[show v=V.bl b from d];exact xS rfl e c
 |.int b,y,v,u,k,e,d,c=>by unfold dP at e;rw[show v=V.int b from d];exact xS rfl e c
 |.str b,y,v,u,k,e,d,c=>by unfold dP at e;rw[show v=tV b from d.1];exact xS rfl e c
 |.raw _,_,_,_,_,e,_,_=>by unfold dP at e;cases e
 |.exc _,_,_,_,_,e,_,_=>by unfold dP at e;cases e
theorem uY:∀(xs c:List PV) {d g:List V}{k:Bool},iF xs c=aa k->Reps K H F xs d->Reps K H F c g -> ∃f:Nat->Bool,(∀(j:Nat) x y,d[j]?=aa x->g[j]?=aa y->iT K H (jE xs) x y (f j))/\k=gc f d.length g.length
 |[],c,d,g,k,e,m,i=>by
  unfold iF at e;rw[show d=[] from m];refine⟨λ_=>ai,λj x y h=>by simp at h,?_⟩;have:=i.len;cases e;unfold gc;cases c with
  |nil=>simp at this;simp[this]
  |cons=>rw[this];simp
 |x::xs,c,d,g,k,e,m,i=>by
  unfold iF at e;obtain⟨v,r,rfl,z,w⟩:=m;cases c with
  |nil=>
   cases e;rw[show g=[] from i];exact⟨λ_=>ai,λj x y _ h=>by simp at h,by simp[gc]⟩
  |cons y c=>
   obtain⟨u,C,rfl,B,A⟩:=i;simp only at e;cases l:dP x y with
   |none=>rw[l]at e;cases e
   |some a=>
    cases n:iF xs c with
    |none=>rw[l,n]at e;cases e
    |some b=>
     rw[l,n]at e;cases e;obtain⟨f,t,rfl⟩:=uY xs c n w A;refine⟨λj=>if j=0 then a else f (j-1),λj p q s o=>?_,by rw[cI,cI,T7]⟩;cases j with
     |zero=>simp at s o;subst s o;show iT K H _ _ _ (if(0:Nat)=0 then a else f (0-1));rw[if_pos rfl];exact IK (Us x y l z B) (by unfold jE;exact Nat.le_max_left _ _)
     |succ j=>show iT K H _ _ _ (if j+1=0 then a else f (j+1-1));rw[if_neg ∅];exact IK (t j p q (~~~s) (~~~o)) (show jE xs<=max (kt x) (jE xs)from Nat.le_max_right _ _)
end
noncomputable def eqT(neg:Bool)(x y:PV):Option PV:=match dv x,dv y with
 |some v,aa u=>if u6 v u then aa (.bl (neg^^decide (v=u)))else ac
 |none,ac=>if kt x<=8 then(dP x y).map λk=>.bl (neg^^k)else ac
 |_,_=>ac
noncomputable def HN(K:ay):R2:=λx y H Q=>GW x y H Q\/uE K am x y H Q
noncomputable def Ev(K:ay):R2:=λx y H Q=>F7 x y H Q\/uE K ai x y H Q
theorem ny(a:X.A.units+64<cLine):bZ X (df .Eq) (HN X.K):=U5.or (K7 a)
theorem rJ(a:X.A.units+64<cLine):bZ X (df .NotEq) (Ev X.K):=Vg.or (Q5 a)
theorem HP(w:dv x=ac)(e:dP x y=aa k)(t:kt x<=8)(s:aZ K H F x v)(r:aZ K H F y u)(q:Q (.bl (neg^^k)) H):uE K neg v u H Q:=by
 have c:∀{d:Bool},k=d->Q (.bl (if neg=ai then !d else d)) H:=λ{d} z=>by subst z;cases neg <;> simpa using q
 cases x with
 |tup xs=>
  unfold dP at e;split at e
  .rename_i g;obtain⟨a,i,rfl,o,l⟩:=s;obtain⟨b,h,rfl,n,j⟩:=r;obtain⟨f,m,p⟩:=uY xs g e l j;unfold kt at t;exact⟨a,b,i,h,jE xs,f,rfl,rfl,.inr ⟨cC.of o,cC.of n⟩,∅,m,c p⟩
  trivial
 |lst xs=>
  unfold dP at e;split at e
  .rename_i g;obtain⟨a,i,rfl,o,_,l⟩:=s;obtain⟨b,h,rfl,n,_,j⟩:=r;obtain⟨f,m,p⟩:=uY xs g e l j;unfold kt at t;exact⟨a,b,i,h,jE xs,f,rfl,rfl,.inl ⟨.inl o,.inl n⟩,∅,m,c p⟩
  trivial
 |raw _=>trivial
 |exc _=>trivial
 |non=>trivial
 |bl _=>trivial
 |int _=>trivial
 |str _=>trivial
theorem mW:P2 K (HN K) (eqT am):=λF H x y v u Q pv g f e q=>by
 unfold eqT at e;split at e
 .rename_i a b d h;split at e
  .rename_i i;cases e;rw[jv g d,jv f h];refine .inl ⟨i,?_⟩;have:=q (.bl (decide (a=b))) F H (Al.refl ..) (by simp[aZ]);trivial
  trivial
 .rename_i d h;split at e
  .rename_i j;cases c:dP x y with
   |none=>rw[c]at e;cases e
   |some k=>
    rw[c]at e;cases e;exact .inr (HP (neg:=am) d c j g f (q _ F H (Al.refl ..) rfl))
  trivial
 trivial
theorem sB:P2 K (Ev K) (eqT ai):=λF H x y v u Q pv g f e q=>by
 unfold eqT at e;split at e
 .rename_i a b d h;split at e
  .rename_i i;cases e;rw[jv g d,jv f h];refine .inl ⟨i,?_⟩;have:=q (.bl (!decide (a=b))) F H (Al.refl ..) (by simp[aZ]);trivial
  trivial
 .rename_i d h;split at e
  .rename_i j;cases c:dP x y with
   |none=>rw[c]at e;cases e
   |some k=>
    rw[c]at e;cases e;exact .inr (HP (neg:=ai) d c j g f (q _ F H (Al.refl ..) rfl))
  trivial
 trivial
end
open L2
section
variable{X:Cx}{K:ay}
noncomputable def wV(i j:Tx):Bool:=!(IU (tS j) (tS i) 0 (tS j).length 1).isEmpty
noncomputable def iX:List PV->Option (List V)
 |[]=>aa []
 |x::xs=>(dv x).bind λv=>(iX xs).map λr=>v::r
theorem ut:∀{xs:List PV}{c a:List V},Reps K H F xs c->iX xs=aa a->c=a/\a.all fU=ai
 |[],_,_,r,e=>by cases e;trivial
 |x::xs,_,a,⟨v,r,rfl,f,d⟩,e=>by
  unfold iX at e;cases q:dv x with
  |none=>simp_all
  |some w=>
   cases b:iX xs with
   |none=>rw[q,b]at e;cases e
   |some i=>
    rw[q,b]at e;cases e;obtain⟨h,g⟩:=ut d b;exact⟨by rw[jv f q,h],by rw[s_,rm q,g];rfl⟩
noncomputable def rH(neg:Bool):PV->PV->Option PV
 |.str x,.str y=>aa (.bl (neg^^wV x y))
 |x,.lst a=>(dv x).bind λv=>(iX a).map λb=>.bl (neg^^uN v b)
 |x,.tup a=>(dv x).bind λv=>(iX a).map λb=>.bl (neg^^uN v b)
 |_,_=>ac
noncomputable def Iq(K:ay):R2:=λx y H Q=>(∃i j,x=.str i/\y=.str j/\Q (.bl (!(IU j i 0 j.length 1).isEmpty)) H)\/AE K am x y H Q
theorem Sg:bZ X (df .In) (Iq X.K):=U0.or Sn
theorem Ft{c:List PV}{v:V}{p:ae}{b:List V}{Q:VK}{neg:Bool}{pv:PV}(g:aZ K H F x v)(i:b_ K H p b\/cC K H p b)(h:Reps K H F c b)(e:((dv x).bind λv=>(iX c).map λf=>PV.bl (neg^^uN v f))=aa pv) (q:∀w,aZ K H F pv w->Q w H):AE K neg v (.ref p) H Q:=by
 cases a:dv x with
 |none=>rw[a]at e;cases e
 |some w=>
  cases d:iX c with
  |none=>rw[a,d]at e;cases e
  |some f=>
   rw[a,d]at e;cases e;obtain⟨rfl,j⟩:=ut h d;rw[jv g a];refine⟨p,b,rfl,i,rm a,j,?_⟩;have:=q _ rfl;cases neg <;> simpa using this
theorem KP:P2 K (Iq K) (rH am):=λF H x y v u Q pv d c e q=>by
 unfold rH at e;split at e
 .cases e;exact .inl ⟨_,_,d.1,c.1,by have:=q _ F H (Al.refl ..) rfl;simpa[wV]using this⟩
 .obtain⟨a,h,rfl,g,_,f⟩:=c;exact .inr (Ft (neg:=am) d (.inl (.inl g)) f e λw b=>q w F H (Al.refl ..) b)
 .obtain⟨a,h,rfl,g,f⟩:=c;exact .inr (Ft (neg:=am) d (.inr (cC.of g)) f e λw b=>q w F H (Al.refl ..) b)
 trivial
noncomputable def bu:List PV->Option PV
 |[.str x]=>aa (.int x.length)
 |[.lst xs]=>aa (.int xs.length)
 |[.tup xs]=>aa (.int xs.length)
 |_=>ac
theorem ge(r:Reps K H F [x] a):∃v,a=[v]/\aZ K H F x v:=by obtain⟨v,b,rfl,d,c⟩:=r;rw[show b=[] from c];exact⟨v,rfl,d⟩
theorem hZ:PL K (λxs H Q=>∃x n,xs=[x]/\Fe K x H n/\Q (.int n) H) bu:=λF H xs h Q pv c e q=>by
 unfold bu at e;split at e
 .cases e;obtain⟨v,rfl,g⟩:=ge c;rw[g.1];exact⟨_,_,rfl,⟨by rw[m_];exact bT g.2 lZ,rfl⟩,by rw[m_];exact q _ F H (Al.refl ..) rfl⟩
 .cases e;obtain⟨v,rfl,a,b,rfl,f,_,d⟩:=ge c;exact⟨_,_,rfl,.inl ⟨b,.inl f,rfl⟩,by rw[d.len];exact q _ F H (Al.refl ..) rfl⟩
 .cases e;obtain⟨v,rfl,a,b,rfl,f,d⟩:=ge c;exact⟨_,_,rfl,.inr ⟨b,cC.of f,rfl⟩,by rw[d.len];exact q _ F H (Al.refl ..) rfl⟩
 trivial
noncomputable def oG:List PV->Option PO
 |[.lst xs]=>aa (.lst xs)
 |[.tup xs]=>aa (.lst xs)
 |_=>ac
theorem A5:ke K (λxs H Q=>∃p c,xs=[.ref p]/\(b_ K H p c\/cC K H p c)/\∀l,H l=ac->Q (.ref l) (upd H l (.lst c))) oG:=λF H xs j Q m i h e q=>by
 unfold oG at e;split at e
 .cases e;obtain⟨v,rfl,a,d,rfl,g,_,f⟩:=ge h;exact⟨a,d,rfl,.inl (.inl g),λl b=>q l F _ _ (Al.new0 b) (xz b f) (xN b i trivial)⟩
 .cases e;obtain⟨v,rfl,a,d,rfl,g,f⟩:=ge h;exact⟨a,d,rfl,.inr (cC.of g),λl b=>q l F _ _ (Al.new0 b) (xz b f) (xN b i trivial)⟩
 trivial
noncomputable def gY:List PV->Option PV
 |[.lst xs]=>aa (.tup xs)
 |[.tup xs]=>aa (.tup xs)
 |_=>ac
theorem vi:PL K (λxs H Q=>∃p d,xs=[.ref p]/\((b_ K H p d/\∀l,H l=ac->Q (.ref l) (upd H l (.tup d)))\/(cC K H p d/\Q (.ref p) H))) gY:=λF H xs i Q pv g e q=>by
 unfold gY at e;split at e
 .cases e;obtain⟨v,rfl,a,b,rfl,c,_,f⟩:=ge g;exact⟨a,b,rfl,.inl ⟨.inl c,λl h=>q _ F _ (Al.new0 h) ⟨l,b,rfl,upd_same,(Al.new0 h).reps f⟩⟩⟩
 .cases e;obtain⟨v,rfl,a,b,rfl,c,f⟩:=ge g;exact⟨a,b,rfl,.inr ⟨cC.of c,q _ F H (Al.refl ..) ⟨a,b,rfl,c,f⟩⟩⟩
 trivial
noncomputable def dZ:List PV->Option (List Tx)
 |[]=>aa []
 |.str x::xs=>(dZ xs).map (x::·)
 |_=>ac
noncomputable def ak(ls:List Tx):List PV:=ls.map .str
theorem kb(a:List Tx):dZ (ak a)=aa a:=by
 induction a with
 |nil=>rfl
 |cons x a b=>show(dZ (ak a)).map (x::·)=_;rw[b];rfl
theorem mO:∀{xs:List PV}{a:List Tx},dZ xs=aa a->xs=ak a
 |[],a,e=>by cases e;rfl
 |.str x::xs,a,e=>by
  unfold dZ at e;cases q:dZ xs with
  |none=>simp_all
  |some r=>rw[q]at e;cases e;rw[mO q];rfl
 |.non::_,_,e=>by cases e
 |.bl _::_,_,e=>by cases e
 |.int _::_,_,e=>by cases e
 |.tup _::_,_,e=>by cases e
 |.lst _::_,_,e=>by cases e
 |.raw _::_,_,e=>by cases e
 |.exc _::_,_,e=>by cases e
theorem UX:∀{a:List Tx}{b:List V},Reps K H F (ak a) b↔b=bH a/\∀x∈a,x.length<=bw
 |[],b=>by simp[ak,Reps,bH]
 |x::a,b=>by
  show(∃v r,b=v::r/\(v=tV x/\x.length<=bw)/\Reps K H F (ak a) r)↔_;constructor
  .rintro⟨v,r,rfl,⟨rfl,f⟩,h2⟩;obtain⟨rfl,d⟩:=UX.mp h2;exact⟨rfl,λy c=>by
    grind⟩
  .rintro⟨rfl,h⟩;exact⟨tV x,bH a,rfl,⟨rfl,h x (by simp)⟩,UX.mpr ⟨rfl,λy c=>h y (by simp[c])⟩⟩
noncomputable def mL:List PV->Option (List Bool)
 |[]=>aa []
 |.bl b::xs=>(mL xs).map (b::·)
 |_=>ac
theorem Gz:∀{xs:List PV}{a:List V}{bs:List Bool},Reps K H F xs a->mL xs=aa bs->a=bs.map V.bl
 |[],_,_,r,e=>by cases e;exact r
 |.bl b::xs,_,bs,⟨v,r,rfl,d,c⟩,e=>by
  unfold mL at e;cases q:mL xs with
  |none=>simp_all
  |some f=>rw[q]at e;cases e;rw[Gz c q,show v=V.bl b from d];rfl
 |.non::_,_,_,_,e=>by cases e
 |.str _::_,_,_,_,e=>by cases e
 |.int _::_,_,_,_,e=>by cases e
 |.tup _::_,_,_,_,e=>by cases e
 |.lst _::_,_,_,_,e=>by cases e
 |.raw _::_,_,_,_,e=>by cases e
 |.exc _::_,_,_,_,e=>by cases e
noncomputable def sA:List PV->Option PV
 |[.lst xs]=>(mL xs).map λbs=>.bl (bs.all id)
 |_=>ac
theorem Co:PL K (λxs H Q=>∃(p:ae) (bs:List Bool),xs=[.ref p]/\b_ K H p (bs.map V.bl)/\Q (.bl (bs.all id)) H) sA:=λF H xs h Q pv f e q=>by
 unfold sA at e;split at e
 .rename_i d;cases b:mL d with
  |none=>rw[b]at e;cases e
  |some bs=>
   rw[b]at e;cases e;obtain⟨v,rfl,a,i,rfl,c,_,g⟩:=ge f;rw[Gz g b]at c;exact⟨a,bs,rfl,.inl c,q _ F H (Al.refl ..) rfl⟩
 trivial
noncomputable def vo:PV->Option String
 |.non=>aa "NoneType"
 |.bl _=>aa "bool"
 |.int _=>aa "int"
 |.str _=>aa "str"
 |.tup _=>aa "tuple"
 |.lst _=>aa "list"
 |_=>ac
noncomputable def jY:List PV->Option PV
 |[x,.raw (.ty T)]=>(vo x).bind λt=>(jk [] (.type t) (.type T)).map λb=>.bl b
 |_=>ac
theorem rE:dq X (.builtin "isinstance") (λxs H Q=>∃x t T b,xs=[x,.ty T]/\iZ X.K H x (.type t)/\jk X.K (.type t) (.type T)=aa b/\Q (.bl b) H):=by
 intro l s g H xs i Q I r h;obtain⟨x,t,T,b,rfl,ty,e,q⟩:=h;cases r with
 |cons f d=>
  cases d with
  |cons c a=>
   cases a;cases c;exact N2 I f ty e λj=>⟨.bl b,H,I.tok _,rfl,q⟩
theorem OE(r:aZ K H F x v)(e:vo x=aa t):iZ K H v (.type t):=by
 cases x with
 |non=>cases e;rw[show v=V.non from r];exact .non
 |bl b=>cases e;rw[show v=V.bl b from r];exact .bl b
 |int b=>cases e;rw[show v=V.int b from r];exact .int b
 |str b=>cases e;rw[show v=tV b from r.1];exact .str _
 |tup xs=>cases e;obtain⟨a,d,rfl,c,_⟩:=r;exact .tup c
 |lst xs=>
  cases e;obtain⟨a,d,rfl,c,_⟩:=r;rcases c with c|⟨o,c⟩
  .exact .lst c
  .exact .frz c
 |raw _=>cases e
 |exc _=>cases e
theorem sh:PL K (λxs H Q=>∃x t T b,xs=[x,.ty T]/\iZ K H x (.type t)/\jk K (.type t) (.type T)=aa b/\Q (.bl b) H) jY:=λF H xs i Q pv d e q=>by
 unfold jY at e;split at e
 .rename_i x T;cases a:vo x with
  |none=>rw[a]at e;cases e
  |some t=>
   cases c:jk [] (.type t) (.type T)with
   |none=>rw[a,eZ,c]at e;cases e
   |some b=>
    rw[a,eZ,c]at e;cases e;obtain⟨v,j,rfl,h,g⟩:=d;obtain⟨u,rfl,f⟩:=ge g;rw[show u=V.ty T from f];exact⟨v,t,T,b,rfl,OE h a,c,q _ F H (Al.refl ..) rfl⟩
 trivial
theorem rK(c:X.mg x=ac)(a:d_ x=aa (.type T))(d:Gl X x:=by rfl)(b:x≠"__name__":=by decide)(g:ap x:=by decide):DE X E (.Name x f) (dC (.raw (.ty T))):=λF S i h H Q r q=>bU (Ox (v:=.ty T) d c a rfl b g) (q F S H r (bv.refl ..) _ rfl)
noncomputable def bB:PV->PV->Option PV
 |.lst xs,.int i=>gb xs i
 |.tup xs,.int i=>gb xs i
 |.str x,.int i=>(gb x i).map λc=>.str [c]
 |_,_=>ac
theorem EJ(r:Reps K H F xs a)(e:gb xs i=aa x):∃v,gb a i=aa v/\aZ K H F x v:=by
 unfold gb at e ⊢;rw[r.len];cases q:kh xs.length i with
 |none=>rw[q]at e;cases e
 |some j=>rw[q]at e;exact r.get e
theorem gG:P2 K (HG K) bB:=λF H x y v u Q pv b f e q=>by
 unfold bB at e;split at e
 .rename_i xs i;obtain⟨a,d,rfl,h,_,g⟩:=b;obtain⟨w,l,j⟩:=EJ g e;exact .inl ⟨a,d,i,w,rfl,f,.inl h,l,q _ F H (Al.refl ..) j⟩
 .rename_i xs i;obtain⟨a,d,rfl,h,g⟩:=b;obtain⟨w,l,j⟩:=EJ g e;exact .inr (.inl ⟨a,d,i,w,rfl,f,cC.of h,l,q _ F H (Al.refl ..) j⟩)
 .rename_i x i;cases m:gb x i with
  |none=>simp_all
  |some c=>
   rw[m]at e;cases e;rw[b.1];exact .inr (.inr ⟨_,i,c,rfl,f,by rw[m_];exact bT b.2 lZ,by trivial,q _ F H (Al.refl ..) ⟨rfl,by show 1<=bw;decide⟩⟩)
 trivial
noncomputable def dS{a:Type}(xs:List a)(b c:Option Int):List a:=(xs.drop (HT.sIx xs.length 0 b)).take (HT.sIx xs.length xs.length c-HT.sIx xs.length 0 b)
theorem Qe(xs:List a)(b c:Option Int):(dS xs b c).length<=xs.length:=by unfold dS;rw[Jd,Cu];lia
noncomputable def bY:PV->Option Int->Option Int->Option PV
 |.str x,a,b=>aa (.str (dS x a b))
 |.lst xs,a,b=>aa (.lst (dS xs a b))
 |.tup xs,a,b=>if HT.sIx xs.length 0 a=0/\HT.sIx xs.length xs.length b=xs.length then ac else aa (.tup (dS xs a b))
 |_,_,_=>ac
noncomputable def xG(K:ay):V->Option Int->Option Int->Hp->VK->Prop:=λx a b H Q=>GD x a b H Q\/(F9 K x a b H Q\/Hl K x a b H Q)
theorem hU:kX X (xG X.K):=UU.or (UY.or NV)
theorem E_(r:Reps K H F xs a)(b c:Option Int):Reps K H F (dS xs b c) (oz a b c):=by unfold dS oz;rw[r.len];exact(r.drop _).take _
theorem gE:AT K (xG K) bY:=λF H x h i v Q pv b e q=>by
 unfold bY at e;split at e
 .cases e;rw[b.1];refine .inl ⟨_,rfl,by rw[m_];exact bT b.2 lZ,?_⟩;refine q _ F H (Al.refl ..) ⟨?_,bT (Qe ..) b.2⟩;rfl
 .cases e;obtain⟨a,f,rfl,g,_,d⟩:=b;exact .inr (.inl ⟨a,f,rfl,.inl g,λp c=>q _ _ _ (Al.new c) ⟨p,_,rfl,.inl upd_same,.inr rfl,(Al.new c).reps (E_ d h i)⟩⟩)
 .split at e
  .cases e
  .rename_i j;cases e;obtain⟨a,f,rfl,g,d⟩:=b;exact .inr (.inr ⟨a,f,rfl,cC.of g,by rw[d.len];trivial,λp c=>q _ _ _ (Al.new0 c) ⟨p,_,rfl,upd_same,(Al.new0 c).reps (E_ d h i)⟩⟩)
 trivial
variable{d:ad PV}
noncomputable def fV:PV->Option (List PV)
 |.lst xs=>aa xs
 |.tup xs=>aa xs
 |.str x=>aa (x.map λc=>.str [c])
 |_=>ac
noncomputable def bp(d:ad PV):ad (List PV):=λε=>(d ε).bind λx ε1=>aD (fV x) ε1
theorem FP:∀(x:Tx),Reps K H F (x.map λc=>PV.str [c]) (x.map sg)
 |[]=>rfl
 |c::x=>⟨sg c,x.map sg,rfl,⟨rfl,by show 1<=bw;decide⟩,FP x⟩
theorem fX(he:DE X E l d):DI X E g l (bp d):=λF S ε Z H Rr rl h=>Bx.mk λag s I=>by
 have w:=he F S ε Z H (λv r=>∃B D u x,aX X.K B D u Z r/\aZ X.K r B x v/\Ok X.K E Z B D r (aD (fV x) u) (λpvs _ F' S' H'=>∀J L RR,Reps X.K H' F' pvs L->L.length<=bd->Walk J L RR->(∀S'' F'' Y,bv (U S') (U S'') F' F'' H' Y->RR Y)->Rr J H')) rl
  ((Ok.bind h).imp λx u B D r G g1 q v N=>⟨B,D,u,x,G,N,q⟩)
 refine aR (w.run ag s I) λv c ⟨x,r,y,rx,B,D,u,pv,G,N,q⟩=>?_;cases pv with
 |lst xs=>
  obtain⟨a,M,rfl,C,hF,ra⟩:=N;cases rx;obtain⟨O,rr,pp,P⟩:=y.list (.inl C);refine CJ pp.isList ?_;refine⟨c.heap.objs.size,[c.heap.objs.size],_,_,r,rfl,y.kept (t':=c.toks) λb o e=>bD _ e,PF a _,⟨_,cS _ rfl,rfl,rfl⟩,λb T=>?_,q B D r G (bv.refl ..) (zW X.K a) M (λH=>b_ X.K H a M) ra P Qb λS2 F2 H2 g2=>.inl (g2.lst G.fit hF C)⟩;have e:b=c.heap.objs.size:= ~~~T
  subst e;exact y.fpOk (bc _) (y.hok.fresh (bc _))
 |tup xs=>
  obtain⟨a,M,rfl,C,ra⟩:=N;cases rx;obtain⟨O,rr,pp,P⟩:=y.tuple (cC.of C);refine wpAny_pyIter_tuple (show c.heap.IsTuple a O.toArray from pp) ?_;refine⟨c.heap.objs.size,[c.heap.objs.size],_,_,r,rfl,y.kept (t':=c.toks) λb o e=>bD _ e,Sj a _,⟨_,cS _ rfl,rfl,rfl⟩,λb T=>?_,q B D r G (bv.refl ..) (Bk X.K a) M (λH=>cC X.K H a M) ra P Ld λS2 F2 H2 g2=>cC.of (g2.imm G.fit C id)⟩;have e:b=c.heap.objs.size:= ~~~T
  subst e;exact y.fpOk (bc _) (y.hok.fresh (bc _))
 |str z=>
  obtain⟨rfl,P⟩:=N;obtain⟨t,rfl⟩:=rx;have qq:Rr (vn (tS z)) r:=q B D r G (bv.refl ..) (vn (tS z)) (z.map sg) (λ_=>True) (FP z) (by rw[cX];exact bT P lZ) (by have:=QS (z:=tS z);trivial) λ_ _ _ _=>trivial;have W:∀(n:String) (j:Nat->aA->Prop),(∀i h,j i h->∃o n L,h.get? c.heap.objs.size=aa o/\o.cls=.type n/\o.data=.fields L /\ ["enumerate","zip","dict_itemiterator","dict_reverseitemiterator","odict_iterator","itertools.zip_longest","itertools.pairwise"].contains n=am) ->
    (∀(A:aY) (i:Nat) (s:ao) (Q:ah->ao->Prop) (E:ah->ao->Prop),j i s.heap->Q (.ref c.heap.objs.size) s->au X.zz A (oU (.ref c.heap.objs.size)) Q E s) ->
    (∀A:aY,A.handled=ac->Walks X.prog X.w A c.heap.objs.size [c.heap.objs.size] [c.heap.objs.size] (tS z).cps.size (SignAt (tS z)) j) ->
    j 0 (c.heap.push {cls:=.type n,data:=.fields #[.str (tS z) t,.int 0 0]}) ->
    xf X ag Z g Rr (.ref c.heap.objs.size) {c with heap:=c.heap.push {cls:=.type n,data:=.fields #[.str (tS z) t,.int 0 0]}}:=λn j q h2 h3 h4=>by
   refine⟨c.heap.objs.size,[c.heap.objs.size],j,vn (tS z),r,rfl,y.kept (t':=c.toks) λb o e=>bD _ e,RZ q h2 h3,h4,λb T=>?_,qq⟩;have e:b=c.heap.objs.size:= ~~~T
   subst e;exact y.fpOk (bc _) (y.hok.fresh (bc _))
  cases C:(tS z).cps.all (· < 128)
  .refine wpAny_pyIter_wide C (W "str_iterator" (λi h=>h.IsStrIter c.heap.objs.size "str_iterator" (tS z) t i) (λi h ⟨o,e1,e2,e3⟩=>⟨o,_,_,e1,e2,e3,by rfl⟩) (λA i s Q E st h=>wpAny_pyIter_striter_wide st h) (λA' hA=>Walks.strWide hA _ (tS z) t) ⟨_,cS _ rfl,rfl,rfl⟩)
  .refine wpAny_pyIter_ascii C (W "str_ascii_iterator" (λi h=>h.IsStrIter c.heap.objs.size "str_ascii_iterator" (tS z) t i) (λi h ⟨o,e1,e2,e3⟩=>⟨o,_,_,e1,e2,e3,by rfl⟩) (λA i s Q E st h=>wpAny_pyIter_striter_ascii st h) (λA' hA=>Walks.strAscii hA _ (tS z) t) ⟨_,cS _ rfl,rfl,rfl⟩)
 |non=>exact(show False from q).elim
 |bl _=>exact(show False from q).elim
 |int _=>exact(show False from q).elim
 |raw _=>exact(show False from q).elim
 |exc _=>exact(show False from q).elim
noncomputable def fL(c:Int)(n:Nat):List PV:=(cu n).map λi=>PV.int (c+(i:Nat))
theorem Ma(c:Int)(n:Nat):Reps K H F (fL c n) (rZ c n):=by
 unfold fL rZ
 induction (cu n)with
 |nil=>rfl
 |cons x xs h=>exact⟨_,_,rfl,rfl,h⟩
noncomputable def km:List PV->Option (List PV)
 |[.int j]=>if j<=1000000/\-1000000<=j then aa (fL 0 j.toNat)else ac
 |_=>ac
theorem xj(w:X.mg "range"=ac)(y:DA X E [a] m)(x:Gl X "range":=by rfl)(u:aK [a] X.env=[(am,aQ a X.env)]:=by rfl):DI X E g (.Call (.Name "range" p) [a] [] f) (dL km m):=λF S o i H I r h=>by
 refine NB (T3 x w g8 u) (y F S o i H _ r ((Ok.bind h).imp λxs n B z A s G c C t=>?_));unfold km at c;split at c
 .rename_i j;split at c
  .rename_i D;obtain⟨v,rfl,q⟩:=ge t;refine⟨j,by rw[show v=V.int j from q],∅,∅,c B z A s (bv.refl ..) _ _ _ (Ma 0 j.toNat) (by rw[Af,sX];lia) Oa λ_ _ _ _=>trivial⟩
  trivial
 trivial
end
section
variable{K:ay}{F:ae->Prop}{S:Nat->ae->Prop}{f:aj}{l:St}{H:Hp}{i:Nat}{p m:List PV}{d:List V}{a:ae}
theorem aX.lstAt(r:aX K F S f l H)(e:f[i]?=aa (.own (.lst p))):∃a c,l[i]?=aa (aa (.ref a))/\H a=aa (.lst c)/\Reps K H F p c/\S i a/\∀b,S i b->b=a:=by obtain⟨a,o,⟨c,n,j⟩,g⟩:=r.own i _ e;exact⟨a,c,o,n,j,(g a).mpr rfl,λb h=>(g b).mp h⟩
theorem aX.upd(r:aX K F S f l H)(e:f[i]?=aa (.own (.lst p)))(D:l[i]?=aa (aa (.ref a)))(h:Reps K H F m d):aX K F S (f.set i (.own (.lst m))) l (upd H a (.lst d))/\bv (U S) (U S) F F H (upd H a (.lst d)):=by
 obtain⟨N,I,E,M,L,B,A⟩:=r.lstAt e;rw[D]at E;cases E;have y:i<f.length:=(c_.mp e).1;have g:bv (U S) (U S) F F H (L2.upd H a (.lst d)):=⟨λ_ z=>z,λb o q n=>by rw[bi (by rintro rfl;exact n ⟨i,B⟩)];exact q,λb o q=>by
  by_cases C:b=a
  .subst C;exact⟨_,upd_same⟩
  .exact⟨o,by rw[bi C];exact q⟩,λ_ z=>.inl z,λ_ z=>.inl z⟩
 refine⟨⟨by rw[iJ];exact r.len,λb z=>let ⟨o,q⟩:=r.ex b z;g.there b o q,λj pv q=>?_,λj x q=>?_,λj b z=>?_,r.dist⟩,g⟩
 .have s:i≠j:=by rintro rfl;rw[ie y]at q;cases q
  rw[eE s]at q;obtain⟨v,u,t⟩:=r.val j pv q;exact⟨v,u,t.grow g r.fit⟩
 .by_cases s:i=j
  .subst s;rw[ie y]at q;cases q;exact⟨a,D,⟨d,upd_same,h.grow g r.fit⟩,λb=>⟨A b,λz=>by rw[z];trivial⟩⟩
  .rw[eE s]at q;obtain⟨c,u,t⟩:=r.own j x q;refine⟨c,u,t.mono (λ_ _ z=>z.grow g r.fit) (λ_ _ z=>z.grow g r.fit) λb o z w=>?_⟩;rw[bi (by rintro rfl;exact s (r.dist i j b B z))];exact w
 .obtain⟨⟨x,u⟩,t,o,J,G⟩:=r.foot j b z;by_cases s:i=j
  .subst s;rw[A b z];exact⟨⟨_,ie y⟩,by rw[<-A b z];trivial,_,upd_same,trivial⟩
  .exact⟨⟨x,by rw[eE s];trivial⟩,t,o,by rw[bi (by rintro rfl;exact s (r.dist i j b B z))];trivial,G⟩
end
section
variable{X:Cx}{E:XK}{pin:List Nat}{e b:aB}{de db:ad PV}{d:Pos}
noncomputable def bR(ε:aj)(i:Nat):Option (List PV):=match ε[i]? with
 |some (.own (.lst xs))=>aa xs
 |_=>ac
theorem eM(h:bR a i=aa xs):a[i]?=aa (.own (.lst xs)):=by
 unfold bR at h;split at h
 .cases h;trivial
 trivial
noncomputable def gX(i:Nat)(de:ad PV):ad aG:=λa=>(aD (bR a i) a).bind λ_ a=>(de a).bind λy ε1=>(aD (bR ε1 i) ε1).bind λxs ε1=>if xs.length<bw then .ok .next (ε1.set i (.own (.lst (xs++[y]))))else .no
theorem sq(i:Nat){f:Pos}(N:DE X E e de)(Q:X.N[i]?=aa x:=by rfl)(J:dr X.env.scope x:=by eq_refl)(O:ap x:=by decide)(bf:aO x:=by decide) (Z:i8 (.Name x p) "append" X.env (aQ (.Name x p) X.env)=aQ (.Name x p) X.env:=by rfl)(Y:((cx c (aK [e] X.env)).all (λx=>!x.1)&&(mh c (mi [] X.env)).all (λx=>x.1.isSome)&&decide ([e].length+([]:List gk).length+(if([]:List gk).isEmpty then 0 else 1)<30))=ai:=by rfl)(W:(f.endLine == c.line)=ai:=by rfl) (w:aK [e] X.env=(am,aQ e X.env)::aK [] X.env:=by rfl) (T:(cx c (aK [] X.env)).any (·.1)=am:=by rfl)(L:jj (.Call (.Attribute (.Name x p) "append" f) [e] [] c) ac d.line X.env=pure am:=by rfl):DS X E pin (.Expr (.Call (.Attribute (.Name x p) "append" f) [e] [] c) d) (gX i de):=λF S r o H D s h=>by
 unfold gX at h;cases n:bR r i with
 |none=>rw[n]at h;exact h.elim
 |some z=>
  rw[n]at h;simp only[ci,R.bind_ok]at h;obtain⟨a,A,m,P,_,_,_⟩:=s.lstAt (eM n);refine gi (uX (p_ tG PySem.F.slot_list_append PySem.F.type_list_append GR (eJ Q J O bf) (fz bF gh w) Z Y W w T) L) ⟨.ref a,m,.inl ⟨rfl,_,b_.of P⟩,?_⟩;refine N F S r o H _ s (h.bindE.imp λy l F1 S1 H1 u g1 q v C=>?_);cases j:bR l i with
  |none=>rw[j]at q;trivial
  |some xs=>
   rw[j]at q;simp only[ci,R.bind_ok]at q;obtain⟨a',B,g,I,t,_,_⟩:=u.lstAt (eM j);rw[m]at g;cases g;split at q
   .rename_i M;obtain⟨G,g2⟩:=u.upd (eM j) m (t.app (.one C));exact⟨a,B,v,rfl,rfl,I,by rw[t.len];exact gH M lZ,q F1 S1 o _ G g2 (jc.refl _ _)⟩
   trivial
noncomputable def Py:V->List V->Hp->VK->Prop:=λx c H Q=>∃l b xs a,x=.ref l/\c=[.ref b]/\H l=aa (.lst xs)/\Rd H b (.lst a)/\xs.length+a.length<=bd/\Q .non (L2.upd H l (.lst (xs++a)))
theorem Qo:oR X "list.extend" Py:=by
 intro M s A H x C v D Q I j m h;obtain⟨l,b,xs,B,rfl,rfl,i,t,G,q⟩:=h;cases j;obtain⟨u,rfl,o⟩:=m.one;cases o;obtain⟨z,c,n,r,J,e⟩:=I.lstM i;obtain⟨a,p,g,w,_⟩:=Bz I t;have L:=g.length;have f:c.toArray.size+a.toArray.size<=bd:=⋯
 have y:¬(!c.toArray.isEmpty&&yW (c.toArray.size+a.toArray.size))=ai:=by rw[Hw f,vK];lia
 refine nN F.slot_list_extend ⟨_,e,rfl⟩ F.entry_list_extend (F.args_list_extend_2 _ _)
  (AutoSeq1.list_extend_list_list_0 l c.toArray n b a.toArray p y ⋯ ∅) ⟨e,w,?_⟩
 refine⟨.non,_,I.lset (its':=c++a) i e (by simp) (r.append g) ?_,rfl,q⟩;rw[ef];omega
noncomputable def l7(i:Nat)(de:ad PV):ad aG:=λε=>(aD (bR ε i) ε).bind λ_ ε=>(de ε).bind λy ε1=>(aD (bR ε1 i) ε1).bind λxs ε1=>match y with
 |.lst a=>if xs.length+a.length<=bw then .ok .next (ε1.set i (.own (.lst (xs++a))))else .no
 |_=>.no
theorem xF(i:Nat){g:Pos}(Q:DE X E e de)(Z:X.N[i]?=aa x:=by rfl)(N:dr X.env.scope x:=by eq_refl)(T:ap x:=by decide)(bf:aO x:=by decide) (h1:i8 (.Name x p) "extend" X.env (aQ (.Name x p) X.env)=aQ (.Name x p) X.env:=by rfl)(h2:((cx f (aK [e] X.env)).all (λx=>!x.1)&&(mh f (mi [] X.env)).all (λx=>x.1.isSome)&&decide ([e].length+([]:List gk).length+(if([]:List gk).isEmpty then 0 else 1)<30))=ai:=by rfl)(h3:(g.endLine == f.line)=ai:=by rfl) (A:aK [e] X.env=(am,aQ e X.env)::aK [] X.env:=by rfl) (h5:(cx f (aK [] X.env)).any (·.1)=am:=by rfl)(O:jj (.Call (.Attribute (.Name x p) "extend" g) [e] [] f) ac d.line X.env=pure am:=by rfl):DS X E pin (.Expr (.Call (.Attribute (.Name x p) "extend" g) [e] [] f) d) (l7 i de):=λF S s r H D t h=>by
 unfold l7 at h;cases o:bR s i with
 |none=>rw[o]at h;exact h.elim
 |some B=>
  rw[o]at h;simp only[ci,R.bind_ok]at h;obtain⟨a,C,n,Y,_,_,_⟩:=t.lstAt (eM o);refine gi (uX (p_ tG PySem.F.slot_list_extend PySem.F.type_list_extend Qo (eJ Z N T bf) (fz bF gh A) h1 h2 h3 A h5) O) ⟨.ref a,n,.inl ⟨rfl,_,b_.of Y⟩,?_⟩;refine Q F S s r H _ t (h.bindE.imp λy m F1 S1 H1 z g1 q v J=>?_);cases l:bR m i with
  |none=>rw[l]at q;trivial
  |some xs=>
   rw[l]at q;simp only[ci,R.bind_ok]at q;obtain⟨a',G,j,M,w,_,_⟩:=z.lstAt (eM l);rw[n]at j;cases j;split at q
   .rename_i ys;split at q
    .rename_i P;obtain⟨c,I,rfl,W,_,u⟩:=J;obtain⟨L,g2⟩:=z.upd (eM l) n (w.app u);exact⟨a,c,G,I,rfl,rfl,M,W,by rw[w.len,u.len];exact bT P lZ,q F1 S1 r _ L g2 (jc.refl _ _)⟩
    trivial
   trivial
noncomputable def yD(i:Nat)(db de:ad PV):ad aG:=λf=>(de f).bind λy c=>(aD (bR c i) c).bind λ_ c=>(db c).bind λk a=>(aD (bR a i) a).bind λxs a=>match k with
 |.int k=>match kh xs.length k with
  |some j=>.ok .next (a.set i (.own (.lst (xs.set j y))))
  |none=>.no
 |_=>.no
theorem QO(i:Nat)(Y:DE X E b db)(T:DE X E e de)(hN:X.N[i]?=aa x:=by rfl)(P:dr X.env.scope x:=by eq_refl)(W:ap x:=by decide)(bf:aO x:=by decide) (ha:∀v,oS (.Subscript (.Name x p) b c) X.env v=(do
   let ov <-lv [v] (aQ (.Name x p) X.env)
   let iv <-lv [v,ov] (aQ b X.env)
   standAt c
   lv [v,ov,iv] (setItem ov iv v)
   release [v,ov,iv] []):=by intro _;rfl) (Q:swapsWithSole [.Subscript (.Name x p) b c] e d.line X.env=pure am:=by rfl) (O:swappedStores [.Subscript (.Name x p) b c] e X.env=pure ac:=by rfl)
  (h1:(sU [.Subscript (.Name x p) b c] X.env).map (·.2)=[oS (.Subscript (.Name x p) b c) X.env]:=by rfl):DS X E pin (.Assign [.Subscript (.Name x p) b c] e d) (yD i db de):=λF S A n H D L h=>by
 refine gi (Oz bF (Kc (eJ hN P W bf) bF Tw ha) Q O h1) (T F S A n H _ L (h.bindE.imp λy g F1 S1 H1 r g1 q v I=>?_));cases t:bR g i with
 |none=>rw[t]at q;trivial
 |some B=>
  rw[t]at q;simp only[ci,R.bind_ok]at q;obtain⟨a,C,s,Z,_,_,_⟩:=r.lstAt (eM t);refine⟨.ref a,s,Y F1 S1 g n H1 _ r (q.bindE.imp λk o F2 S2 H2 z g2 f u J=>?_)⟩;cases m:bR o i with
  |none=>rw[m]at f;trivial
  |some xs=>
   rw[m]at f;simp only[ci,R.bind_ok]at f;obtain⟨a',G,l,N,w,_,_⟩:=z.lstAt (eM m);rw[s]at l;cases l;split at f
   .rename_i k;split at f
    .rename_i j hj;obtain⟨M,g3⟩:=z.upd (eM m) s (w.set (I.grow g2 r.fit) j);exact⟨a,G,k,j,rfl,J,N,by rw[w.len];trivial,f F2 S2 n _ M g3 (jc.refl _ _)⟩
    trivial
   trivial
end
mutual
noncomputable def imm:PV->Bool
 |.lst _=>am
 |.tup xs=>je xs
 |_=>ai
noncomputable def je:List PV->Bool
 |[]=>ai
 |x::xs=>imm x&&je xs
end
mutual
theorem aZ.imm{K:ay}{g:ae->Prop}:∀(x:PV) {v:V},imm x=ai->aZ K H F x v->aZ K H g x v
 |.non,_,_,h=>h
 |.bl _,_,_,h=>h
 |.int _,_,_,h=>h
 |.str _,_,_,h=>h
 |.raw _,_,_,h=>h
 |.exc _,_,_,h=>h
 |.lst _,_,e,_=>by simp[Pu.imm]at e
 |.tup xs,_,e,⟨a,b,f,d,c⟩=>⟨a,b,f,d,Reps.imm xs (by simpa[Pu.imm]using e) c⟩
theorem Reps.imm{K:ay}{g:ae->Prop}:∀(xs:List PV) {a:List V},je xs=ai->Reps K H F xs a->Reps K H g xs a
 |[],_,_,h=>h
 |x::xs,_,e,⟨v,r,f,d,c⟩=>by
  have b:imm x=ai/\je xs=ai:=by simpa[je]using e
  exact⟨v,r,f,aZ.imm x b.1 d,Reps.imm xs b.2 c⟩
end
section
variable{K:ay}{F:ae->Prop}{S:Nat->ae->Prop}{d:aj}{c:St}{H:Hp}{i:Nat}{f:List PV}
theorem aX.look(r:aX K F S d c H)(e:d[i]?=aa (.own (.lst f))):∃a,c[i]?=aa (aa (.ref a))/\¬F a/\aZ K H (λb=>F b\/b=a) (.lst f) (.ref a)/\(∀b,F b\/b=a->∃o,H b=aa o) /\ (∀{h g},Al (λb=>F b\/b=a) h H g->Al F (λb=>h b/\b≠a) H g):=by
 obtain⟨a,l,q,j,p,n,s⟩:=r.lstAt e;have m:¬F a:=(r.foot i a n).2.1;refine⟨a,q,m,⟨a,l,rfl,.inl j,.inr rfl,Reps.mono (λ_ z=>.inl z) (λ_ _ _ z=>z) (λ_ _ z _=>z) _ _ p⟩,λb z=>z.elim (r.ex b) λz=>by rw[z];exact⟨_,j⟩,λ{h g} al=>⟨λb z=>⟨al.fro b (.inl z),by lia⟩,al.same,λb z=>?_⟩⟩;rcases al.fnew b z.1 with(w|w)|w
 .exact .inl w
 .exact absurd w z.2
 .exact .inr w
end
section
variable{X:Cx}{E:XK}{e b:aB}{de db:ad PV}{d p:Pos}{x y:Str}{l:String}{r:List V->Hp->VK->Prop}{f:List PV->Option PV}{g:List PV->Option PO}
noncomputable def jd(o:Option PV):Option PV:=o.bind λv=>if imm v then aa v else ac
theorem D_(h:jd o=aa v):o=aa v/\imm v=ai:=by
 cases o with
 |none=>cases h
 |some w=>have h:(if imm w then aa w else ac)=aa v:=h;lia
noncomputable def BC:PO->Bool
 |.lst xs=>je xs
 |_=>am
noncomputable def eR{a:Type}(f:List PV->Option a)(i:Nat):ad a:=λε=>(aD (bR ε i) ε).bind λxs ε=>aD (f [.lst xs]) ε
theorem IF(A:PL X.K r f)(s:aX X.K F S m j H)(h:Ok X.K E j F S H (eR (λxs=>jd (f xs)) i m) (λpv _ u _ c=>∀v,aZ X.K c u pv v->Q v c)):∃a,j[i]?=aa (aa (.ref a))/\r [.ref a] H Q:=by
 unfold eR at h;cases q:bR m i with
 |none=>rw[q]at h;trivial
 |some xs=>
  rw[q]at h;simp only[ci,R.bind_ok]at h;obtain⟨a,C,I,z,B,t⟩:=s.look (eM q);refine⟨a,C,?_⟩;cases o:jd (f [.lst xs])with
  |none=>rw[o]at h;trivial
  |some pv=>rw[o]at h;obtain⟨G,D⟩:=D_ o;exact A _ H [.lst xs] [.ref a] Q pv (.one z) G λw u c al n=>h _ S c (s.al (t al)) (t al).grow w (aZ.imm pv D n)
theorem Hg(i:Nat)(w:dq X (.builtin l) r)(o:PL X.K r f)(t:X.mg x=ac)(m:d_ x=aa (.builtin l))(z:X.N[i]?=aa y:=by rfl)(C:dr X.env.scope y:=by eq_refl)(v:ap y:=by decide) (G:aO y:=by decide) (u:Gl X x:=by rfl) (s:x≠"__name__":=by decide) (A:ap x:=by decide)(h:aK [.Name y c] X.env=(am,aQ (.Name y c) X.env)::aK [] X.env:=by rfl) (D:(cx d (aK [] X.env)).any (·.1)=am:=by rfl):DE X E (.Call (.Name x p) [.Name y c] [] d) (eR (λxs=>jd (f xs)) i):=λF S J I H Q j q=>by obtain⟨a,B,n⟩:=IF o j q;exact bU (nB w u t m (fz (eJ z C v G) gh h) s A h D) ⟨_,B,n⟩
theorem Px(i:Nat)(w:dq X (.type T) r)(o:PL X.K r f)(t:X.mg x=ac)(m:d_ x=aa (.type T))(z:X.N[i]?=aa y:=by rfl)(C:dr X.env.scope y:=by eq_refl)(v:ap y:=by decide) (G:aO y:=by decide) (u:Gl X x:=by rfl) (s:x≠"__name__":=by decide) (A:ap x:=by decide)(h:aK [.Name y c] X.env=(am,aQ (.Name y c) X.env)::aK [] X.env:=by rfl) (D:(cx d (aK [] X.env)).any (·.1)=am:=by rfl):DE X E (.Call (.Name x p) [.Name y c] [] d) (eR (λxs=>jd (f xs)) i):=λF S J I H Q j q=>by obtain⟨a,B,n⟩:=IF o j q;exact bU (sG w u t m (fz (eJ z C v G) gh h) s A h D) ⟨_,B,n⟩
noncomputable def kq(o:Option PO):Option PO:=o.bind λv=>if BC v then aa v else ac
theorem R5(hp:ke X.K r g)(v:aX X.K F S s q H)(h:Ok X.K E q F S H (eR (λxs=>kq (g xs)) i s) (λA _ I S' n=>∀a t,fe X.K n I A a t->(∀b,t b->H b=ac/\¬I b/\¬U S' b/\∃o,n b=aa o/\eD o)->Q (.ref a) n)):∃a,q[i]?=aa (aa (.ref a))/\r [.ref a] H Q:=by
 unfold eR at h;cases G:bR s i with
 |none=>rw[G]at h;trivial
 |some xs=>
  rw[G]at h;simp only[ci,R.bind_ok]at h;obtain⟨a,ea,nF,W,B,J⟩:=v.look (eM G);refine⟨a,ea,?_⟩;cases D:g [.lst xs]with
  |none=>rw[D]at h;trivial
  |some A=>
   rw[D]at h;cases A with
   |dK m=>exact h.elim
   |lls gx=>exact h.elim
   |dL gx=>exact h.elim
   |ins C fs=>exact h.elim
   |dT m=>exact h.elim
   |dN m=>trivial
   |inl C fs y xs=>exact h.elim
   |lst u=>
    have h:Ok X.K E q F S H (aD (if je u then aa (PO.lst u)else ac) s) _:=h;split at h
    .rename_i hi;refine hp _ H [.lst xs] [.ref a] Q _ B (.one W) D λc I n t al Y fr=>h _ S n (v.al (J al)) (J al).grow c t ?_ λb z=>?_
     .obtain⟨⟨P,o1,o2⟩,Z⟩:=Y;exact⟨⟨P,o1,Reps.imm u hi o2⟩,Z⟩
     .obtain⟨O,N,o,M,L⟩:=fr b z;refine⟨O,λw=>N w.1,λ⟨j,w⟩=>?_,o,M,L⟩;obtain⟨_,_,o',w1,_⟩:=v.foot j b w;lia
    trivial
theorem Bh(i:Nat)(w:dq X (.builtin l) r)(o:ke X.K r g)(t:X.mg x=ac)(m:d_ x=aa (.builtin l))(z:X.N[i]?=aa y:=by rfl)(C:dr X.env.scope y:=by eq_refl)(v:ap y:=by decide) (G:aO y:=by decide) (u:Gl X x:=by rfl) (s:x≠"__name__":=by decide) (A:ap x:=by decide)(h:aK [.Name y c] X.env=(am,aQ (.Name y c) X.env)::aK [] X.env:=by rfl) (D:(cx d (aK [] X.env)).any (·.1)=am:=by rfl):DN X E (.Call (.Name x p) [.Name y c] [] d) (eR (λxs=>kq (g xs)) i):=λF S J I H Q j q=>by obtain⟨a,B,n⟩:=R5 o j q;exact bU (nB w u t m (fz (eJ z C v G) gh h) s A h D) ⟨_,B,n⟩
noncomputable def rq(f:PV->PV->Option PV)(i:Nat)(db:ad PV):ad PV:=λc=>(aD (bR c i) c).bind λ_ c=>(db c).bind λk a=>(aD (bR a i) a).bind λxs a=>aD (jd (f (.lst xs) k)) a
theorem SA{r:R2}{f:PV->PV->Option PV}(P:P2 X.K r f)(Y:DE X E b db)(D:aX X.K F S m c H)(h:Ok X.K E c F S H (rq f i db m) (λpv _ L _ n=>∀v,aZ X.K n L pv v->Q v n)):∃a,c[i]?=aa (aa (.ref a))/\iu X b c H λu C=>r (.ref a) u C Q:=by
 unfold rq at h;cases B:bR m i with
 |none=>rw[B]at h;trivial
 |some M=>
  rw[B]at h;simp only[ci,R.bind_ok]at h;obtain⟨a,vs,J,_⟩:=D.lstAt (eM B);refine⟨a,J,Y F S m c H _ D ((Ok.bind h).imp λk o F1 S1 C G g1 q u N=>?_)⟩;cases A:bR o i with
  |none=>rw[A]at q;trivial
  |some xs=>
   rw[A]at q;simp only[ci,R.bind_ok]at q;obtain⟨a',j,nF,O,W,I⟩:=G.look (eM A);rw[J]at j;cases j;cases t:jd (f (.lst xs) k)with
   |none=>rw[t]at q;trivial
   |some pv=>rw[t]at q;obtain⟨e3,Z⟩:=D_ t;exact P _ C (.lst xs) k (.ref a) u Q pv O (aZ.mono (λ_ z=>.inl z) (λ_ _ _ z=>z) (λ_ _ z _=>z) _ _ N) e3 λw L n al s=>q _ S1 n (G.al (I al)) (I al).grow w (aZ.imm pv Z s)
end
open L2
noncomputable def k6(h:aA)(e T:ae)(c g:ah):Prop:=∃a b f d,h.get? e=aa a/\a.cls=c/\(a.data=.fields b/\a.dict=ac)/\b[1]?=aa (.ref T)/\T≠e/\h.get? T=aa f/\f.data=.fields d/\d[3]?=aa g
noncomputable def Made(h:aA)(e:ae)(c:ah):Prop:=∃a b,h.get? e=aa a/\a.cls=c/\(a.data=.fields b/\a.dict=ac)/\b[1]?=aa .none
structure Kp(fs:List ae)(X:ae->Prop)(h h':aA):Prop where
 keep:∀b o,h.get? b=aa o->b∉fs->¬X b->h'.get? b=aa o
 slot:∀b o,h.get? b=aa o->b∈fs->¬X b->∃sl,h'.get? b=aa {o with slots:=sl}
 there:∀b o,h.get? b=aa o->∃o',h'.get? b=aa o'
theorem Kp.trans(a:Kp fs X h g)(b:Kp fs Y g f):Kp fs (λc=>X c\/Y c) h f where
 keep:=λc o e n x=>b.keep c o (a.keep c o e n λz=>x (.inl z)) n λz=>x (.inr z)
 slot:=λc o e n x=>by obtain⟨j,e1⟩:=a.slot c o e n λz=>x (.inl z);obtain⟨d,i⟩:=b.slot c _ e1 n λz=>x (.inr z);exact⟨d,i⟩
 there:=λc o e=>let ⟨o',e'⟩:=a.there c o e;b.there c o' e'
theorem Kp.imp(a:Kp fs X h i)(f:∀b,b∈fs->b∈d)(hX:∀b o,h.get? b=aa o->X b->Y b):Kp d Y h i where
 keep:=λc o e n x=>a.keep c o e (λz=>n (f c z)) λz=>x (hX c o e z)
 slot:=λc o e n x=>by
  by_cases g:c∈fs
  .exact a.slot c o e g λz=>x (hX c o e z)
  .exact⟨o.slots,a.keep c o e g λz=>x (hX c o e z)⟩
 there:=a.there
theorem N1(f:Array ah->Array ah)(o:Obj):(o4 f o).dict=o.dict:=by
 obtain⟨c,d,dt,a⟩:=o;cases dt <;> rfl
section
variable{A:aY}{s:ao}
theorem FH(Y:A.frames=aa (l::g)) (P:s.heap.FunFrames y (l::g)) (hf:l.frame=aa L) (S:s.heap.get? e=aa v) (H:v.data=.fields F) (t8:v.dict=ac) (u:1<F.size)(h:∀J T,Kp (fc (l::g)) (λb=>b=e) s.heap J->k6 J e T v.cls .none->s.heap.objs.size<=T->Q () {s with heap:=J}):au M A (do let a <-frameOf l;let r <-entryPlaceOf L UF;let b <-EntryCells.newEntry z a .none (ee L) .none r;nW (.ref e) 1 b) (λ_ X=>au M A (vP (.ref e) ac) Q E X) E s:=by
 have w:e∉(l::g).filterMap (·.frame):=λZ=>by obtain⟨_,o,D,W⟩:=P.mem Z;rw[S]at D;injection D with D;subst D;exact W F H
 refine aq (wpAny_frameOf_fun Y P hf λc d=>?_);refine aq (wpAny_entryPlaceOf λr cN=>?_);unfold EntryCells.newEntry newFields;refine aq (nL ?_ (cN.sizeOk5 _ _ _ _ _));have n:c.get? e=aa v:=(d.2.1 e w).trans S;have m:=bD (h:=c) {cls:=.type "traceback",dict:=ac,data:=.fields ([z,.ref L,.none,ee L,.none]++(if r.isEmpty then bz 6 Value.none else r)).toArray} n;refine tD m H u ?_;have C:c.objs.size≠e:=sW (bC n);have j:=vQ H (·.setIfInBounds 1 (Value.ref c.objs.size));have i:=oW (o4 (·.setIfInBounds 1 (Value.ref c.objs.size))) m (CZ j);have p:=(nM (c.push {cls:=.type "traceback",dict:=ac,data:=.fields ([z,.ref L,.none,ee L,.none]++(if r.isEmpty then bz 6 Value.none else r)).toArray}) (o4 (·.setIfInBounds 1 (Value.ref c.objs.size))) (dQ C)).trans (cS c rfl);unfold vP;refine aq (qx i j (x:=.ref c.objs.size) (by simp[u]) ?_);rw[if_pos (show(Value.ref c.objs.size != Value.none)=ai from by rfl)];refine tD p rfl (by simp) (h _ c.objs.size ?_ ?_ ?_)
 .have keep:∀b o,b≠e->c.get? b=aa o ->
    (((c.push {cls:=.type "traceback",dict:=ac,data:=.fields ([z,.ref L,.none,ee L,.none]++(if r.isEmpty then bz 6 Value.none else r)).toArray}).update e (o4 (·.setIfInBounds 1 (Value.ref c.objs.size)))).update c.objs.size (o4 (·.setIfInBounds 3 ((ac:Option ae).elim Value.none λf=>ee f)))).get? b=aa o:=λb o B t=>by
   have I:c.objs.size≠b:=sW (bC t);rw[nM _ _ I,nM _ _ (dQ B)];exact bD _ t
  refine⟨λb o t O G=>keep b o G ((d.2.1 b O).trans t),λb o t O G=>?_,λb o t=>?_⟩
  .obtain⟨N,q⟩:=d.2.2 b o t;exact⟨N,keep b _ G q⟩
  .by_cases B:b=e
   .subst B;exact⟨_,(nM _ _ C).trans i⟩
   .obtain⟨N,q⟩:=d.2.2 b o t;exact⟨_,keep b _ B q⟩
 .refine⟨_,_,_,_,(nM _ _ C).trans i,Obj.cls_mapFields _ _,⟨j,by rw[N1];trivial⟩,by simp[u],C,oW _ p (CZ (vQ rfl _)),vQ rfl _,by rfl⟩
 .exact oZ d.1.symm
theorem QW(o:A.frames=aa (d::a))(q:s.heap.FunFrames f (d::a))(i:d.frame=aa L)(p:Made s.heap e c)(h:∀g T,Kp (fc (d::a)) (λb=>b=e) s.heap g->k6 g e T c .none->s.heap.objs.size<=T->Q () {s with heap:=g}):au M A (leaving d (.ref e)) Q E s:=by obtain⟨u,t,j,r,⟨l,n⟩,m⟩:=p;subst r;unfold leaving yY;simp only[i];refine aq (aq (qx j l m ?_));rw[if_neg (by decide)];exact FH o q i j l n (qA.mp m).1 h
theorem G2(G:A.frames=aa (g::outer))(J:s.heap.FunFrames l (g::outer))(t:g.frame=aa L)(I:k6 s.heap e T c .none)(h:∀j T',Kp (fc (g::outer)) (λb=>b=e\/b=T) s.heap j->k6 j e T' c .none->s.heap.objs.size<=T'->Q () {s with heap:=j}):au M A (yY (.ref e) g) (λ_ C=>au M A (vP (.ref e) ac) Q E C) E s:=by
 obtain⟨O,r,P,y,u,F,⟨v,B⟩,x,D,n,m,w⟩:=I;subst F;unfold yY;simp only[t];refine aq (qx u v x ?_);rw[if_pos (show(Value.ref T != Value.none)=ai from by rfl)];refine aq (qx n m w ?_);rw[if_neg (show ¬((Value.none == ee L)=ai)from by simp[ee])];refine aq (tD n m (qA.mp w).1 ?_);have a:∀b,b≠T->(s.heap.update T (o4 (·.setIfInBounds 3 Value.none))).get? b=s.heap.get? b:=λb d=>nM _ _ (dQ d);have f:∀b o,s.heap.get? b=aa o->(∀r,o.data≠.fields r)->b≠T:=λb o d p q=>by rw[q,n]at d;injection d with d;subst d;exact p y m
 refine FH G (J.of_keeps λb o d p=>⟨o,(a b (f b o d p)).trans d,rfl⟩) t ((a e (dQ D)).trans u) v B (qA.mp x).1 λj T' k N S=>?_;have H:Kp (fc (g::outer)) (λb=>b=T) s.heap (s.heap.update T (o4 (·.setIfInBounds 3 Value.none))):=by
  refine⟨λb o d _ i=>(a b i).trans d,λb o d _ i=>⟨o.slots,(a b i).trans d⟩,λb o d=>?_⟩;by_cases i:b=T
  .subst i;exact⟨_,oW _ n (CZ (vQ m _))⟩
  .exact⟨o,(a b i).trans d⟩
 refine h j T' ((H.trans k).imp (λ_ z=>z) λb o _ z=>z.symm) N ?_;simp_all
theorem SD(j:A.frames=aa (d::a))(m:s.heap.FunFrames f (d::a))(n:d.frame=aa L)(l:k6 s.heap e T c .none)(h:∀g i,Kp (fc (d::a)) (λb=>b=e\/b=T) s.heap g->k6 g e i c .none->s.heap.objs.size<=i->Q () {s with heap:=g}):au M A (leaving d (.ref e)) Q E s:=by unfold leaving;exact aq (G2 j m n l h)
theorem Si(z:k6 s.heap e T c C)(h:∀l,Kp [] (λb=>b=T) s.heap l->k6 l e T c .none->Q () {s with heap:=l}):au M A (vP (.ref e) ac) Q E s:=by
 obtain⟨x,u,D,v,p,y,⟨q,w⟩,t,n,r,j,B⟩:=z;have m:3<v.size:=(qA.mp B).1;have a:∀b,b≠T->(s.heap.update T (o4 (·.setIfInBounds 3 ((ac:Option ae).elim Value.none λf=>ee f)))).get? b=s.heap.get? b:=λb g=>nM _ _ (dQ g);have d:=oW (o4 (·.setIfInBounds 3 ((ac:Option ae).elim Value.none λf=>ee f))) r (CZ (vQ j _));unfold vP;refine aq (qx p q t ?_);rw[if_pos (show(Value.ref T != Value.none)=ai from by rfl)];refine tD r j m (h _ ⟨λb o g _ i=>(a b i).trans g,λb o g _ i=>⟨o.slots,(a b i).trans g⟩,λb o g=>?_⟩ ⟨x,u,_,_,(a e (dQ n)).trans p,y,⟨q,w⟩,t,n,d,vQ j _,by simp[m]⟩);by_cases i:b=T
 .subst i;exact⟨_,d⟩
 .exact⟨o,(a b i).trans g⟩
end
noncomputable def jy(P:aS)(w:aJ):fN:=λb H s E e s'=>∃(a T:ae) (c:ah) (d:Hp),e=.ref a/\s'.os=s.os/\nG s'.gens/\Un (fc b) [] H d s.heap s'.heap/\cV P w d s'.heap/\k6 s'.heap a T c .none /\
 (s.heap.get? a=ac/\s.heap.get? T=ac/\d a=ac/\d T=ac)/\E c ac d
theorem KD(x:cf P w H h a o):∃u,h.get? a=aa u:=by
 cases o with
 |lst xs=>obtain⟨_,_,_,_,e⟩:=x;exact⟨_,e⟩
 |tup xs=>obtain⟨_,_,_,⟨o,e,_⟩,_⟩:=x;exact⟨_,e⟩
 |dK b=>obtain⟨_,_,_,_,o,_,_,e,_⟩:=x;exact⟨_,e⟩
 |dT b=>obtain⟨_,_,_,_,o,_,_,e,_⟩:=x;exact⟨_,e⟩
 |dN b=>obtain⟨_,_,_,_,o,_,_,e,_⟩:=x;exact⟨_,e⟩
 |set S n=>obtain⟨o,_,_,_,e,_⟩:=x;exact⟨_,e⟩
 |ins C l fs=>obtain⟨_,_,_,e,_⟩:=x;exact⟨_,e⟩
 |own y=>exact x
 |xd fs=>obtain⟨_,⟨_,_,_,e,_⟩,_⟩:=x;exact⟨_,e⟩
 |rng i j=>obtain⟨_,_,_,e⟩:=x;exact⟨_,e⟩
 |frz g u=>obtain⟨e,_⟩:=x;exact⟨_,e⟩
 |tbl d=>obtain⟨_,e,_⟩:=x;exact⟨_,e⟩
 |met f y=>exact⟨_,x⟩
 |ext c=>obtain⟨_,e,_⟩:=x;exact e
theorem Ni(x:cV P w H h)(e:h.get? a=ac):H a=ac:=by
 cases q:H a with
 |none=>rfl
 |some u=>obtain⟨o,z⟩:=KD (x a u q);lia
theorem sL(u:Un fs [] H c h b)(e:b.get? a=ac):h.get? a=ac:=by
 cases q:h.get? a with
 |none=>rfl
 |some o=>obtain⟨d,z⟩:=u.there a o q (by simp);lia
theorem BK(u:Un fs [] H m h s)(k:Kp a X s r)(v:∀b o,h.get? b=aa o->b∈a->b∈fs)(hX:∀b o,h.get? b=aa o->¬X b)(w:∀b∈a,m b=ac):Un fs [] H m h r where
 keep:=λb o e n i d=>k.keep b o (u.keep b o e n i d) (λz=>i (v b o e z)) (hX b o e)
 slot:=λb o e n i d=>by
  obtain⟨t,l⟩:=u.slot b o e n i d;by_cases p:b∈a
  .obtain⟨j,f⟩:=k.slot b _ l p (hX b o e);exact⟨j,f⟩
  .exact⟨t,k.keep b _ l p (hX b o e)⟩
 free:=u.free
 there:=λb o e d=>let ⟨o',e'⟩:=u.there b o e d;k.there b o' e'
 tups:=u.tups
 frzs:=u.frzs
 tbls:=λb q e=>⟨(u.tbls b q e).1,λc o f g=>⟨k.keep c o ((u.tbls b q e).2 c o f g).1 (λz=>by have l:=((u.tbls b q e).2 c o f g).2;simp_all) (hX c o g),((u.tbls b q e).2 c o f g).2⟩⟩
theorem AI(x:cV P w H h)(k:Kp fs X h a)(d:∀b∈fs,H b=ac)(hX:∀b,X b->H b=ac):cV P w H a:=λb u e=>
 (x b u e).stay (λc v f q=>k.keep c v q (λz=>by
   simp_all) λz=>by
   simp_all) (λ_ q=>q) λ_ _ q=>q
section
variable{P:aS}{w:aJ}{K:ay}{n:Str->Option ah}{l:aA}{N:List Str}{j:Str}{g:dG}{f:ae}{p:ah}{A:aY}{i:List Env}{d:ao}{m:Hp}{E:XK}
theorem dR:pP (jy P w) (iV (jy P w) P w K n l N j g f p A i d m E) E:=λag X H s e s' I h=>by
 obtain⟨a,T,c,W,rfl,F,G,un,x,M,⟨O,S,D,Y⟩,J⟩:=h;have r:=I.call' (s':=s') (ch:=[]) F un x G (λb z=>absurd z (by simp));refine SD (L:=d.heap.objs.size) I.ok.frames r.stack rfl M λZ C k y v=>?_;have OO:(iV (jy P w) P w K n l N j g f p A i d m E).ex=[]:=rfl;have B:d.heap.get? a=ac:=sL I.base O;have Q:d.heap.get? T=ac:=sL I.base S;have u:d.heap.get? C=ac:=sL r.base (vA v);have t:∀b o,d.heap.get? b=aa o->b≠a/\b≠T:=λb o e=>⟨(by lia),(by lia)⟩
 refine⟨a,C,c,W,rfl,r.os,r.bare,BK r.base k (λb o e z=>?_) (λb o e z=>z.elim (t b o e).1 (t b o e).2) r.stkFree,AI r.hok k r.stkFree (λb z=>by lia),y,⟨B,u,D,r.hok.fresh v⟩,J⟩;rcases bQ.mp (I.stkSub b z)with q|q
 .exact absurd (bC e) (by rw[q];exact lr _)
 trivial
end
section
variable{X:Cx}{E:XK}{de:ad PV}
noncomputable def DZ(X:Cx)(E:XK):Prop:=∀(p:List (ae×Obj)) (m:St) (H:Hp) (s:ao) (a:ae) (c:ah) (h:aA),Inv X p m H s->(∀b o,s.heap.get? b=aa o->h.get? b=aa o)->Made h a c->s.heap.get? a=ac->(E c ac H)->X.xe (.ref a) {s with heap:=h}
noncomputable def uB(c:ah)(de:ad PV):ad aG:=λb=>(de b).bind λ_ a=>.er c a
theorem Qi{a:ah}{b:List ah}(m:Heap.MadeExcOf h c e a b):Made c e a:=by obtain⟨t,o,_,_⟩:=m.there;exact⟨_,_,o,rfl,⟨rfl,rfl⟩,rfl⟩
theorem GX(hx:DZ X E)(hc:X.calm=ai)(O:OwnCls x C j d X.mg X.base)(W:ExcBaseFacts B d g j)(he:DE X.nox E0 e de)(hg:Gl X x:=by rfl)(hd:ap x:=by decide)(P:aK [e] X.env=[(am,aQ e X.env)]:=by rfl):DS X E f (.Raise (aa (.Call (.Name x n) [e] [] i)) ac l) (uB (.ref C) (λw=>cL (de w))):=λF S w o H D rl q=>Bx.mk λQ s I=>by
 obtain⟨Y,N,nm,qn,bs,hdct,sn,sub,ab,col,dd,k0,k1,k2,k3,k5,mN,hC,hN,J,T⟩:=O.obj;refine wpAny_Raise_call_subT (C:=C) (nm:=nm) (q:=qn) (N:=N) (bs:=bs) (bm:=Y) (hdct:=hdct) (sn:=sn) (sub:=sub) (ab:=ab) (col:=col) (dd:=dd) (k0:=k0) (k1:=k1) (k2:=k2) (k3:=k3) (k5:=k5)
  W (mN:=mN) (T.hasType W.hasBase) (I.ok.hd hc) (by rw[P];rfl) J (sQ I hg O.bound ⟨rfl,?_⟩ hd)
 have q2:Ok X.K E0 o F S H (de w) (λ_ b t p r=>fW X.K E f o t p r (.er (.ref C) b) D):=by
  have q:fW X.K E f o F S H ((cL (de w)).bind λ_ b=>.er (.ref C) b) D:=q;cases L:de w with
  |no=>rw[L]at q;trivial
  |er c A=>rw[L]at q;trivial
  |ok v A=>rw[L]at q;exact λF' S' H' r' g'=>q.from g' (jc.refl _ _)
 rw[P];refine CA (eU (Cr (eU ((he F S w o H (λv r=>∃t p b,aX X.K t p b o r/\fW X.K E f o t p r (.er (.ref C) b) D) rl (q2.imp λv b t p r M g1 h v' rv=>⟨t,p,b,M,h⟩)).run Q s (I.wish _)) (λu Z ⟨v,r,y,M,t,p,b,G,ok⟩=>?_) λ_ _ z=>z.elim)) (λ_ _ z=>z) λ_ _ z=>z);have y:=y.unwish;refine IW ⟨rfl,(by show 1<=bd;decide),y.bk _ _ hC,hN.keeps y.bk,T.keeps y.bk,λh' a m=>?_⟩;exact hx Q o r Z a (.ref C) h' y m.keeps (Qi m) m.new (ok ac t p o r G (bv.refl ..) (jc.refl _ _))
end
section
variable{P:aS}{w:aJ}{K:ay}{m:Str->Option ah}{j:aA}{N:List Str}{i:Str}{g:dG}{f:ae}{n:ah}{A:aY}{h:List Env}{d:ao}{l:Hp}{E:XK}
theorem EH:DZ (iV (jy P w) P w K m j N i g f n A h d l E) E:=λJ B H s a c x I F D new G=>by
 have p:Inv _ J B H {s with heap:=x}:=I.kept (t':=s.toks) F;refine QW (s:={s with heap:=x}) (L:=d.heap.objs.size) I.ok.frames p.stack rfl D λM y k u t=>?_;have v:d.heap.get? a=ac:=sL I.base new;have r:d.heap.get? y=ac:=sL p.base (vA t);have C:H a=ac:=Ni I.hok new;refine⟨a,y,c,H,rfl,p.os,p.bare,BK p.base k (λb o e z=>?_) (λb o e z=>by lia) p.stkFree,AI p.hok k p.stkFree (λb z=>by lia),u,⟨v,r,C,p.hok.fresh t⟩,G⟩;rcases bQ.mp (I.stkSub b z)with q|q
 .exact absurd (bC e) (by rw[q];exact lr _)
 trivial
end
section
theorem Nx(I:Inv X f a H s)(hN:X.N.Nodup)(W:X.N[i]?=aa x)(T:X.env.scope.names.lookup x=aa .local)(O:a[i]?=aa (aa v))(h:∀s',Inv X f (a.set i ac) H s'->Q () s'):au M A (unbindName X.env x) Q E s:=by
 obtain⟨m,P,S⟩:=id I.loc;have n0:(X.env.scope.kind == .class||(X.env.scope.kind == .module&&X.env.locals != X.env.globals))=am:=by rw[I.ok.kind];rfl
 have B:i<a.length:=(c_.mp O).1;obtain⟨u,_,lk⟩:=S i x v W O (.inl T);have hm:m x=aa u:=by
  rcases lk with⟨_,z⟩|⟨z,_⟩
  .exact z
  .have z:X.env.scope.names.lookup x=aa .cell\/X.env.scope.names.lookup x=aa .free:=z;simp_all
 refine wpAny_unbindName_local T P hm n0 λh' u' D r=>?_;obtain⟨oL,_,_,mB,_⟩:=id P;have up:∀b o,X.s₀.heap.get? b=aa o->h'.get? b=s.heap.get? b:=λb o e=>r.2 b (dE (gH (bC e) I.ok.above));refine h _ ⟨I.ok,I.os,I.bare,⟨λb o e n J t=>(up b o e).trans (I.base.keep b o e n J t),λb o e n J t=>?_,I.base.free,λb o e t=>?_,I.base.tups,I.base.frzs,λb q e=>⟨(I.base.tbls b q e).1,λc o l g=>⟨(r.2 c (λz=>by have C:=((I.base.tbls b q e).2 c o l g).2;rw[z,I.free]at C;trivial)).trans ((I.base.tbls b q e).2 c o l g).1,((I.base.tbls b q e).2 c o l g).2⟩⟩⟩,⟨_,D,λj y Y C l e3=>?_⟩,λy c e=>?_,I.free,I.freeC,λp hp=>?_,λb ob e=>?_,by rw[iJ];exact I.len⟩
 .obtain⟨Z,q⟩:=I.base.slot b o e n J t;exact⟨Z,(up b o e).trans q⟩
 .obtain⟨o',q⟩:=I.base.there b o e t;exact⟨o',(up b o e).trans q⟩
 .by_cases F:j=i
  .subst F;rw[ie B]at l;cases l
  .rw[eE (dQ F)]at l;obtain⟨w,r',q⟩:=S j y Y C l e3;refine⟨w,r',?_⟩;rcases q with⟨k,e⟩|⟨k,c,e,z⟩
   .have:y≠x:=λe=>F (zP hN C (e ▸ W));exact .inl ⟨k,by simp[this,e]⟩
   .exact .inr ⟨k,c,e,z.sameBut r (I.cne y c e)⟩
 .obtain⟨L,z⟩:=I.cell y c e;exact⟨L,z.sameBut r (I.cne y c e)⟩
 .obtain⟨e,n,N,nf,d⟩:=I.pin p hp;exact⟨(r.2 p.1 N).trans e,n,N,nf,d⟩
 .refine(I.hok b ob e).stay (λc L G q=>(r.2 c ?_).trans q) (λ_ q=>q) λ_ _ q=>q;rintro rfl;rcases G with rfl|G
  .rw[I.free]at e;cases e
  .rw[I.free]at G;trivial
end
noncomputable def XP(X:Cx)(f:List (ae×Obj))(d:St)(g:ah->Hp->Prop)(e:ah)(s':ao):Prop:=∃a b,Inv X f d b a/\jy X.prog X.w X.stack b a (λc _ h=>g c h) e s'
noncomputable def DX(X:Cx)(e:aB)(d:ad Slot):Prop :=
 ∀F S ε a H Q (h:ah->Hp->Prop),aX X.K F S ε a H->Ok X.K (λc _ f=>h c f) a F S H (d ε) (λs _ j l f=>∀v i,oJ X.K f j s v i->(∀b,i b->H b=ac/\¬j b/\¬U l b/\∃o,f b=aa o/\eD o)->Q v f) ->
  ∀g s,Inv X g a H s->au X.zz X.A (aQ e X.env) (EP X g a Q) (XP X g a h) s
section
variable{X:Cx}{l:ad (List cb)}{g:ad Slot}{d:ad Slot}
noncomputable def sv(g:ad Slot)(l:ad (List cb)):ad Slot:=λf=>(cL (l f)).bind λc b=>(aD (if(cg c).Nodup then c8 b c else ac) b).bind λh b=>dY b c (g h)
theorem MA(c:k9 (jy X.prog X.w) X.prog X.w X.K X.mg X.base x k m (eN X.K g))(hr:fg k X.A)(ha:DG X.nox E0 (e::a) l)(hg:Gl X x:=by rfl)(hd:ap x:=by decide) (h1:aK (e::a) X.env=(am,aQ e X.env)::aK a X.env:=by rfl) (h2:(cx j (aK a X.env)).any (·.1)=am:=by rfl):DX X (.Call (.Name x p) (e::a) [] j) (sv g l):=λF S ε N H Q XE rl h ag s I=>by
 obtain⟨f,fd,hm,Fn,hb,hk⟩:=c.ex;have q0:Ok X.K E0 N F S H (l ε) (λt n C D B=>Ok X.K (λc _ A=>XE c A) N C D B ((aD (if(cg t).Nodup then c8 n t else ac) n).bind λO n=>dY n t (g O)) (λs _ E Y A=>∀v L,oJ X.K A E s v L->(∀b,L b->H b=ac/\¬E b/\¬U Y b/\∃o,A b=aa o/\eD o)->Q v A)):=by
  unfold sv at h;cases e0:l ε with
  |no=>rw[e0]at h;trivial
  |er c ε'=>rw[e0]at h;trivial
  |ok t n=>rw[e0]at h;exact λC D B G g1=>Ok.from h g1
 refine vE (sQ I hg hm ?_ hd);have wa:=(ha F S ε N H (λP B=>∃C D n t,aX X.K C D n N B/\jb X.K N C B t P/\(∀b,B b=ac->H b=ac)/\Ok X.K (λc _ A=>XE c A) N C D B ((aD (if(cg t).Nodup then c8 n t else ac) n).bind λO n=>dY n t (g O)) (λs _ E Y A=>∀v L,oJ X.K A E s v L->(∀b,L b->H b=ac/\¬E b/\¬U Y b/\∃o,A b=aa o/\eD o)->Q v A)) rl (q0.imp λt n C D B G g1 q P W=>⟨C,D,n,t,G,W,λb z=>oA g1 z,q⟩)).run j ag s (I.wish _);refine IX (h₀:=X.base) I.ok.mod.kin hk (eU wa (λZ s1 ⟨P,B,M,r,C,D,n,t,G,W,fb,q⟩=>⟨M.unwish.kIn,?_⟩) λ_ _ z=>z.elim) h1 h2;have M:=M.unwish;have q:=Ok.bind q;by_cases T:(cg t).Nodup
 .rw[if_pos T]at q;cases a:c8 n t with
  |none=>rw[a]at q;exact q.elim
  |some O=>
   rw[a]at q;have q:=q C D B G (bv.refl ..);dsimp only at q;have ip:eN X.K g P B Q (λc _ A=>XE c A):=by
    refine⟨C,l5 t D,O,G.cal W a T,?_⟩;cases eg:g O with
    |no=>rw[eg]at q;trivial
    |er cv aT=>
     rw[eg]at q;intro y E Y A r' g';unfold dY at q;dsimp only at q;by_cases J:eT t aT=ai
     .rw[if_pos J]at q;obtain⟨S2,r2,g2,_⟩:=G.called W a T r' g' (λ_ z=>z) (nh J);exact q ac E S2 A r2 g2
     .rw[if_neg J]at q;trivial
    |ok sl aT=>
     rw[eg]at q;intro v E Y A L r' g' rv lo fr;unfold dY at q;dsimp only at q;by_cases J:eT t aT=ai
     .rw[if_pos J]at q;obtain⟨S2,r2,g2,u2⟩:=G.called W a T r' g' (λ_ z=>.inl z) (nh J);refine q E S2 A r2 g2 v L rv λb z=>⟨fb b (fr b z),(lo b z).1,λw=>?_,(lo b z).2.2⟩
      rcases u2 b w with w|⟨i,w⟩
      .exact(lo b z).2.1 w
      .obtain⟨_,_,o,y1,_⟩:=G.foot i b w;simp_all
     .rw[if_neg J]at q;trivial
   have hl:Z.length=m.length:=by rw[<-r.length];exact Fn.len _ _ _ _ ip
   refine yS (qt (Fn.run X.A X.stack s1 B ⟨Z,[]⟩ Z P Q _ hr M.env0 (by have:=hb s1 Z M.kIn ⋯;rwa[gJ]at this) r ip) λrr s' hq=>?_);cases rr with
   |error er=>exact⟨s1,B,M,hq⟩
   |ok fl=>
    cases fl with
    |ret u=>exact M.after hq
    |next=>trivial
    |brk=>trivial
    |cont=>trivial
 .rw[if_neg T]at q;exact q.elim
end
noncomputable abbrev hand(X:Cx)(a:ae):Cx:={X with A:=X.A.mark (aa (.ref a)),calm:=am,xe:=λ_ _=>False}
section
theorem Inv.hand(I:Inv X c b H s)(d:(X.A.mark (aa (.ref a))).frames=X.A.frames:=by rfl):Inv (Pu.hand X a) c b H s :=
 ⟨⟨I.ok.mod,I.ok.kind,I.ok.glob,I.ok.blt,I.ok.above,I.ok.inj,I.ok.has,I.ok.cab,(λz=>by cases z),d.trans I.ok.frames,I.ok.stk,I.ok.exf,I.ok.bs,I.ok.bsz,I.ok.noex,I.ok.exfs,I.ok.funs,I.ok.frf,I.ok.tab⟩,I.os,I.bare,I.base,I.loc,I.cell,I.free,I.freeC,I.pin,I.hok,I.len⟩
theorem Inv.unhand(I:Inv (Pu.hand X a) c b H s)(ok:X.Ok):Inv X c b H s:=⟨ok,I.os,I.bare,I.base,I.loc,I.cell,I.free,I.freeC,I.pin,I.hok,I.len⟩
end
noncomputable def Under(h:aA)(D:ae)(c:ah):Prop:=∃C f N i q bs b g sub r d p o n m l j a,c=.ref C/\h.get? C=aa (excClassObj i q C N bs f b g sub r d p o n m l j a)/\(Value.ref C::f).contains (.ref D)=ai
noncomputable def p8(h:aA)(D:ae):Prop:=∃d N g q bs b f sub p c o n m l j i a,h.get? D=aa (excClassObj g q D N bs d b f sub p c o n m l j i a)/\d.contains (.type "BaseException")=ai
theorem Under.keeps{d:aA}(x:Under h D c)(k:∀b o,h.get? b=aa o->d.get? b=aa o):Under d D c:=by obtain⟨C,bm,N,nm,q,bs,hdct,sn,sub,ab,col,dd,k0,k1,k2,k3,k5,a,e,g,f⟩:=x;exact⟨C,bm,N,nm,q,bs,hdct,sn,sub,ab,col,dd,k0,k1,k2,k3,k5,a,e,k _ _ g,f⟩
theorem p8.keeps{c:aA}(x:p8 h D)(k:∀b o,h.get? b=aa o->c.get? b=aa o):p8 c D:=by obtain⟨bm,N,nm,q,bs,hdct,sn,sub,ab,col,dd,k0,k1,k2,k3,k5,a,f,d⟩:=x;exact⟨bm,N,nm,q,bs,hdct,sn,sub,ab,col,dd,k0,k1,k2,k3,k5,a,k _ _ f,d⟩
theorem LK{s:ao}(I:Under s.heap D c)(b:p8 s.heap D)(L:s.heap.get? e=aa o)(x:o.cls=c)(J:Q ai s):au M A (excMatches (.ref e) (.ref D)) Q E s:=by
 obtain⟨C,bm,N,Z,q,bs,p,W,sub,ab,P,dd,k0,k1,k2,k3,k5,i,rfl,r,H⟩:=I;obtain⟨m,N',w,X,S,j,v,n,T,u,O,G,F,B,z,y,a,b,hb⟩:=b;obtain⟨h,g,d,t,Y⟩:=s;have l:(Value.ref D::m).contains (.type "BaseException")=ai:=∅
 have f:=tc_notTuple;unfold excMatches
 repeat (first | (with_reducible refine Jz L ?_;rw[x])|with_reducible refine Jz r ?_|with_reducible refine Jz b ?_ | (with_reducible refine wpAny_isSubtype_exc r ?_;rw[H]) | (with_reducible refine wpAny_isSubtype_exc b ?_;rw[l])|wp_step)
 exact J
section
variable{X:Cx}{l:List bb}{g:ah->Bool}
theorem aX.unset{K:ay}{c:aj}{f:St}{H:Hp}{i:Nat}(r:aX K F S c f H):aX K F (λj b=>S j b/\j≠i) (c.set i .none) (f.set i ac) H:=by
 have a:=r.drop i;have h:∀{j:Nat}{s:Slot},(c.set i .none)[j]?=aa s->s≠.none->j≠i:=λ{j s} e u z=>by
  grind
 refine⟨by rw[iJ,iJ];exact r.len,r.ex,λj pv e=>?_,λj o e=>?_,a.foot,a.dist⟩
 .obtain⟨v,q,d⟩:=a.val j pv e;exact⟨v,by rw[eE (dQ (h e (by simp)))];trivial,d⟩
 .obtain⟨v,q,d⟩:=a.own j o e;exact⟨v,by rw[eE (dQ (h e (by simp)))];trivial,d⟩
theorem SH(ok:cV P w H h)(j:H a=ac)(f:k6 h a T c L):cV P w (upd H a (m8 a c)) h:=λb u q=>by
 by_cases s:b=a
 .subst s;rw[upd_same]at q;cases q;obtain⟨i,F,_,_,r,J,I,_⟩:=f;exact⟨⟨i,F,r,J,I⟩,⟨i,r⟩,λS Q ⟨o,v,O,N,M⟩ k=>⟨o,v,k o O,N,M⟩⟩
 .rw[bi s]at q;exact(ok b u q).stay (λ_ _ _ z=>z) (λd z=>by rw[bi (jS z j)];exact z) λd xs z=>by rw[bi (jS z j)];exact z
end
structure kj(k:Nat)(A:aY):Prop where
 dp:A.depth+3*k+5<recursionLimit
 un:A.units+16*k+200<cLine
theorem fg.hand(r:fg k A):kj k (A.mark v):=⟨r.dp,r.un⟩
theorem kj.mono(r:kj k A)(h:j<=k):kj j A:=⟨by have:=r.dp;lia,by have:=r.un;lia⟩
theorem kj.deeper(r:kj (k+1) A)(a:Env):kj k (A.deeper a) :=⟨by have:=r.dp;show A.depth+1+3*k+5<_;lia,by have:=r.un;show A.units+3+16*k+200<_;lia⟩
theorem kj.units(r:kj k A):A.units+64<cLine:=by have:=r.un;lia
noncomputable def vm(P:aS)(w:aJ)(K:ay)(g:Str->Option ah)(d:aA)(N:List Str)(c:Str)(a:dG)(f:ae)(h:ah)(A:aY)(b:List Env)(s:ao)(H:Hp):Cx :=
 {(iV Ar P w K g d N c a f h A b s H E0)with calm:=am,xe:=λ_ _=>False}
structure z7(P:aS)(w:aJ)(K:ay)(mg:Str->Option ah)(base:aA)(k:Nat)(f:ae)(fd:ii)(ps:List Str)(sp:Sp):Prop where
 len:∀vs H Q E,sp vs H Q E->vs.length=ps.length
 run:∀(A:aY) (outer:List Env) (s:ao) (H:Hp) (args:Args) (us:List ah) (vs:List V) (Q:VK),kj k A->rQ P w K mg base A outer s H->BindsTo s fd args (ps.zip us)->bt vs us->sp vs H Q E0 ->
  lA (ax P w) A (.call (.ref f) args) (CR Ar outer P w H s Q E0) s
structure xw(P:aS)(w:aJ)(K:ay)(mg:Str->Option ah)(base:aA)(x:Str)(k:Nat)(ps:List Str)(sp:Sp):Prop where
 ex:∃f fd,mg x=aa (.ref f)/\z7 P w K mg base k f fd ps sp/\Binds K fd ps []/\qu K (.ref f)=ai
theorem ND{K:ay}{g:Str}{i:Arguments}{l:List bb}{a:dG}{dV kV L pm B ct oc:ah}{an od:Option ae}{Y:Array (Option ah)}{N M:List Str}{O:Sp} (lk:K.lookup f=aa ⟨oc,od,.func (iI t g i l a dV kV L pm an B ct),Y⟩) (bf:vG K B g=ai) (S:cr N M a)(len:∀p H Q E,O p H Q E->p.length=M.length)(gP:∀(A:aY) (c:List Env) (s:ao) (H:Hp) (p:List V) (Q:VK),kj k (A.deeper (i7 g a s.heap.objs.size f B))->O p H Q E0 -> oC (vm P w K D h N g a f B A c s H) l {nx:=λ_ C=>Q .non C,rt:=Q} (L2.start N p) H):z7 P w K D h (k+1) f (iI t g i l a dV kV L pm an B ct) M O:=by
 refine⟨len,λA c s H args us p Q hr j hb r ip=>?_⟩;have hl:=len _ _ _ _ ip;have KX:K.In s.heap:=j.mod.kin.keeps λb o e=>(j.bs b o e).1;have Z:s.heap.NoLimit:=j.mod.nolimit.keeps λb o e=>(j.bs b o e).1;have Ds:∀y∈M.zip us,a.names.lookup y.1=aa .local\/(a.names.lookup y.1=aa .cell/\((fF (s.heap.objs.size+1) a.names []).lookup y.1).isSome=ai):=λ⟨n,v⟩ hy=>(S.par n (yT hy).1).imp id λq=>⟨q,IY _ _ _ (.inl q)⟩
 refine codeAny_call_function (by have:=hr.dp;lia) (KX _ _ lk) rfl S.co S.gen rfl (PySem.W.codeRec_of KX bf) (hb _ _ _ _ ?_);refine wpAny_newFunctionEnv_cells S.kind Ds λenv he T x=>?_;subst he;refine⟨Z.keeps x.toInCall.keep,codeAny_func ?_⟩;have e1:rQ P w K D h {A with handled:=ac} c s H:=⟨j.frames,j.mod,j.bs,j.bsz,j.funs,j.frf,j.hok,j.bare,j.tab⟩
 have d:Inv (iV Ar P w K D h N g a f B {A with handled:=ac} c s H E0) [] (L2.start N p) H T:=Gu S rfl e1 hl r x;have I:Inv (vm P w K D h N g a f B A c s H) [] (L2.start N p) H T :=
  ⟨⟨d.ok.mod,d.ok.kind,d.ok.glob,d.ok.blt,d.ok.above,d.ok.inj,d.ok.has,d.ok.cab,(λz=>by cases z),Around.frames_deeper j.frames,d.ok.stk,d.ok.exf,d.ok.bs,d.ok.bsz,d.ok.noex,d.ok.exfs,d.ok.funs,d.ok.frf,d.ok.tab⟩,d.os,d.bare,d.base,d.loc,d.cell,d.free,d.freeC,d.pin,d.hok,d.len⟩
 refine eU ((gP A c s H p Q (hr.deeper _) ip).run [] T I) (λfl W F=>?_) λe W F=>F.elim;have G:∀{m:St}{C:Hp}{v:V}{u:ah},Inv (vm P w K D h N g a f B A c s H) [] m C W->RelV v u->Q v C->CE c P w H s Q u W:=λ{m C v u} J X q=>⟨v,C,J.os,J.bare,J.base,J.hok,X,q⟩
 cases fl with
 |ret u=>obtain⟨v,m,C,J,X,q⟩:=F;exact G J X q
 |next=>obtain⟨m,C,J,q⟩:=F;exact G (v:=V.non) (u:=Value.none) J rfl q
 |brk=>obtain⟨_,_,_,q⟩:=F;trivial
 |cont=>obtain⟨_,_,_,q⟩:=F;trivial
theorem Kg{K:ay}{t:Str->Option ah}{j:aA}{x:Str}{c:bb}{N l:List Str}{k n:Nat}{g:ad Slot}{d:ad aG}{p:List Nat}(D:cG K t x c)(X:cr N l (bj c))(J:N.length=l.length+n)(O:∀(kV q v:ah) (C:Option ae) (o z:ah) (r:List ah),r.length=l.length->fY (iI x x (jz c) (fD c) (bj c) .none kV q v C o z) ⟨r,[]⟩=pure (l.zip r))(B:∀b,g b≠.no->b.length=l.length) (y:∀b,g b≠.no->∀(i:Nat) m,b[i]?=aa (.own m)->i∈p/\gf m=ai) (M:∀b,g b≠.no->bn n d b=g b)(S:∀(f:ae) (o:ah) (A:aY) (a:List Env) (s:ao) (H:Hp),kj k (A.deeper (i7 x (bj c) s.heap.objs.size f o))->fM (vm P w K t j N x (bj c) f o A a s H) E0 p (fD c) d):xw P w K t j x (k+1) l (eN K g):=by obtain⟨f,T,L,u⟩:=D.ex;refine⟨f,T,L,?_,u.binds O,u.kp⟩;obtain⟨oc,od,kV,q,v,C,o,z,E,rfl,F,W⟩:=u.ex;exact ND F W X (EC B) λA a s H Y Q I G=>Iy J B (λb h i m e=>(y b h i m e).1) (λb Z aT h=>.inr λi m e=>(y b ⋯ i m e).2) M (S f o A a s H I) G
section
variable{X:Cx}
theorem Q4(y:z7 X.prog X.w X.K X.mg X.base k f w i o)(A:kj k X.A)(F:Gl X x)(C:X.mg x=aa (.ref f))(D:qu X.K (.ref f)=ai)(L:Binds X.K w i [])(M:PA X (e::d) t) (J:ap x) (G:aK (e::d) X.env=(am,aQ e X.env)::aK d X.env) (O:(cx b (aK d X.env)).any (·.1)=am):PE X (.Call (.Name x p) (e::d) [] b) (λl H Q=>t l H λm n=>o m n Q E0):=λP s l H Q I h=>by
 refine vE (sQ I F C ?_ J);refine IX (h₀:=X.base) I.ok.mod.kin D (aR (M b P s l H _ I h) λa v ⟨m,n,c,r,q⟩=>⟨c.kIn,?_⟩) G O;have T:a.length=i.length:=by rw[<-r.length];exact y.len _ _ _ _ q
 refine yS (qt (y.run X.A X.stack v n ⟨a,[]⟩ a m Q A c.env0 (by have:=L v a c.kIn ⋯;rwa[gJ]at this) r q) λz S B=>?_);cases z with
 |error er=>trivial
 |ok N=>
  cases N with
  |ret u=>exact c.after B
  |next=>trivial
  |brk=>trivial
  |cont=>trivial
theorem Kd{K:ay}{E o:XK}{c:St}{F:ae->Prop}{S:Nat->ae->Prop}{H:Hp}{C:m->aj->(ae->Prop)->(Nat->ae->Prop)->Hp->Prop}{r:R n}{f:n->aj->R m}(h:Ok K E c F S H (cL (r.bind f)) C):Ok K E c F S H r λa l F S H=>Ok K o c F S H (f a l) C:=by
 cases r with
 |ok a l=>
  intro v t u s q;have h:Ok K E c F S H (cL (f a l)) C:=h;cases e:f a l with
  |ok=>rw[e]at h;exact Ok.from (E:=o) h q
  |_=>rw[e]at h;trivial
 |_=>exact h.elim
theorem PP(c:xw X.prog X.w X.K X.mg X.base x k i (eN X.K g))(r:kj k X.A)(y:DG X E (e::d) j)(u:Gl X x:=by rfl)(v:ap x:=by decide) (A:aK (e::d) X.env=(am,aQ e X.env)::aK d X.env:=by rfl) (z:(cx b (aK d X.env)).any (·.1)=am:=by rfl):DR X E (.Call (.Name x p) (e::d) [] b) (λa=>cL (aL g j a)):=λF S a l H Q n h=>by obtain⟨f,I,s,D,w,t⟩:=c.ex;exact bU (Q4 D r u s t w g8 v A z) (y F S a l H _ n ((Kd h).imp λJ m N L M o B q G C=>Hr o B C q))
end
structure oF(K:ay)(C:ae):Prop where
 ga:qr K (.ref C) "__getattribute__"=aa (aa (.builtin "BaseException.__getattribute__"))
 gt:qr K (.ref C) "__getattr__"=aa ac
 cl:qr K (.ref C) "__class__"=aa (aa (.builtin "object.__class__"))
 gs:IV K (.builtin "object.__class__") "__get__"=aa (aa (.builtin "getset_descriptor.__get__"))
 tk:PySem.W.takesIn K (.builtin "object.__class__")=aa ai
 ob:yR K C (.type "object")=aa ai
 be:yR K C (.type "BaseException")=aa ai
 cs:(C0 K C).isSome=ai
section
variable{b:aS}{w:aJ}{A:aY}{E:ah->ao->Prop}{K:ay}{h:aA}{g:Array GenState}{d:Drawn}{t:Nat}{c:OsState}{a C:ae}{o:Obj}
theorem R_(X:K.In h)(k:oF K C)(I:vD h a o C ac)(j:Q () ⟨h,g,d,t,c⟩):au M A (Jr "BaseException.__getattribute__" ⟨[.ref a,f],[]⟩) Q E ⟨h,g,d,t,c⟩:=by
 have l:builtinKind "BaseException.__getattribute__"=aa .slot:=by decide +kernel
 have m:splitId "BaseException.__getattribute__"=aa ("BaseException","__getattribute__"):=by rfl
 have p:=F.args_bexc_ga (.ref a) f;have n:=I.type (M:=M);have i:=PySem.W.looks_mroIn (M:=M) X k.be;simp only[Jr,l,m];refine aq ?_
 .unfold y4
  repeat (first|with_reducible refine aq (n.at ?_)|with_reducible refine i.at ?_|with_reducible refine aq (i.at ?_)|wp_step)
  exact j
theorem QU(X:K.In h)(k:oF K C)(I:vD h a o C ac)(j:Q (.done (.ret (.ref C))) ⟨h,g,d,t,c⟩):au (ax b w) A (Builtin.«object.__getattribute__» ⟨[.ref a,.str "__class__" i],[]⟩) Q E ⟨h,g,d,t,c⟩:=by
 have q:=I.type (M:=ax b w);have l:PySem.W.findObj K C ac "__class__"=aa (.bind (.builtin "getset_descriptor.__get__") (.builtin "object.__class__")):=by obtain⟨u,m⟩:=Cs.mp k.cs;unfold PySem.W.findObj;rw[m,eZ,k.cl,eZ];simp[k.gs,k.tk]
 have p:=PySem.W.looks_find (M:=ax b w) X I l;have n:lA (ax b w) A (.call (.builtin "getset_descriptor.__get__") ⟨[.builtin "object.__class__",.ref a,.ref C],[]⟩) (λr f=>r=.ok (.ret (.ref C))/\f=⟨h,g,d,t,c⟩) ⟨h,g,d,t,c⟩:=PySem.W.class_get (s:=⟨h,g,d,t,c⟩) X I k.ob ⟨rfl,rfl⟩;refine aq (aE (aq (aE (aq (q.at (aq (p.at ?_)))))));show au _ _ (do ret (<-lv [Value.builtin "object.__class__"] (call (.builtin "getset_descriptor.__get__") [.builtin "object.__class__",.ref a,.ref C]))) _ _ _;refine aq (ig (yS (qt n λr f z=>?_)));obtain⟨rfl,rfl⟩:=z;exact aE j
theorem Lh(X:K.In h)(k:oF K C)(I:vD h a o C ac)(q:Q (.ref C) ⟨h,g,d,t,c⟩):au (ax b w) A (getAttrBy (.ref a) (.str "__class__" i) am) Q E ⟨h,g,d,t,c⟩:=by
 have n:=I.type (M:=ax b w);have m:=PySem.W.looks_findIn (M:=ax b w) X k.ga;have f:=PySem.W.looks_findIn (M:=ax b w) X k.gt;have p:(Value.builtin "BaseException.__getattribute__" == Value.builtin "object.__getattribute__")=am:=by rfl
 have j:(onTheHeap (Value.ref C)&&Value.builtin "BaseException.__getattribute__" == Value.builtin "object.__getattribute__")=am:=by rfl
 unfold getAttrBy;refine ig (aq (n.at (aq (m.at ?_))));dsimp only;rw[j];rw[if_neg (by decide)];have f3:=F.attr_ValueError.ga.bind (.ref a);have l:(am&&onTheHeap (Value.builtin "BaseException.__getattribute__"))=am:=rfl
 repeat (any_goals (first|assumption|with_reducible refine f.at ?_|with_reducible refine aq (f.at ?_)|wp_step))
 refine codeAny_call_builtin F.attr_ValueError.ga.plain F.entry_bexc_ga (R_ X k I (QU X k I ?_))
 repeat (any_goals (first|assumption|wp_step))
theorem Kj(X:K.In h)(k:oF K C)(I:vD h a o C ac)(f:Q (aa (.ref C)) ⟨h,g,d,t+1,c⟩):au (ax b w) A (getAttr? (.ref a) "__class__") Q E ⟨h,g,d,t,c⟩:=by
 unfold getAttr? getAttrBy?
 repeat (any_goals (first|assumption|with_reducible apply Lh X k I|wp_step))
theorem Nw(k:oF K C):PySem.W.KitX K (.ref a) (.ref C) (λh=>∃o,vD h a o C ac) where
 ty:=λ_ _ _ ⟨o,I⟩=>I.type
 it:=λ_ _ X _=>by
  obtain⟨x,f⟩:=Cs.mp k.cs;unfold C0 at f;split at f
  .rename_i y v m i l;intro J G H D r q;unfold isType loadHead;exact aq (wpAny_loadPart (r _ _ (X _ _ l)) (aE q))
  trivial
 ne:=λh p F u n B X j=>by
  obtain⟨x,f⟩:=Cs.mp k.cs;refine C3.mpr λq=>?_;have e:C=p:=Value.ref.inj (beq_iff_eq.mp q);subst e;unfold C0 at f;split at f
  .rename_i y v m i l;have z:=(X _ _ l).symm.trans j;cases z
  trivial
 ca:=λ{_ _ _ _ _ s} X I q=>by obtain⟨o,I⟩:=I;obtain⟨h,g,d,t,c⟩:=s;exact Kj X k I q
end
noncomputable def xZ:V->Option ah
 |.ref D=>aa (.ref D)
 |.ty T=>aa (.type T)
 |_=>ac
theorem LH(e:xZ v=aa u)(r:RelV v a):a=u:=by
 cases v <;> simp[xZ]at e <;> subst e <;> exact r
section
variable{X:Cx}{K:ay}
noncomputable def IP(K:ay):List V->Hp->VK->Prop:=λxs H Q=>∃a C D u b,xs=[.ref a,D]/\H a=aa (m8 a (.ref C))/\oF K C/\xZ D=aa u/\jk K (.ref C) u=aa b/\Q (.bl b) H
theorem UT:dq X (.builtin "isinstance") (IP X.K):=by
 intro z s v H xs x Q I r h;obtain⟨a,C,D,u,b,rfl,j,k,i,e,q⟩:=h;cases r with
 |cons g f=>
  cases f with
  |cons d c=>
   cases c;cases g;have t:=LH i d;subst t;obtain⟨⟨o,w,p,n,m,l⟩,_,_⟩:=I.hok a _ j;refine lz (Nw (a:=a) k) I.kIn ⟨o,p,n,?_,?_⟩ e (by simp) λy=>⟨.bl b,H,I.tok _,rfl,q⟩
   .unfold PySem.W.notCls;rw[m]
   .rw[l];simp
noncomputable def jw(tab:ah->V->Option Bool):List PV->Option PV
 |[.exc c,.raw D]=>(tab c D).map .bl
 |xs=>jY xs
noncomputable def Gr(K:ay):List V->Hp->VK->Prop:=λxs H Q=>IP K xs H Q\/∃x t T b,xs=[x,.ty T]/\iZ K H x (.type t)/\jk K (.type t) (.type T)=aa b/\Q (.bl b) H
theorem ko:dq X (.builtin "isinstance") (Gr X.K):=UT.or rE
noncomputable def Ao(K:ay)(tab:ah->V->Option Bool):Prop:=∀c D b,tab c D=aa b->∃C u,c=.ref C/\oF K C/\xZ D=aa u/\jk K (.ref C) u=aa b
theorem ki(j:Ao K tab):PL K (Gr K) (jw tab):=λF H xs g Q pv d e q=>by
 unfold jw at e;split at e
 .rename_i c D;cases f:tab c D with
  |none=>simp_all
  |some b=>
   rw[f]at e;cases e;obtain⟨C,u,rfl,k,i,l⟩:=j c D b f;obtain⟨v,p,rfl,⟨a,rfl,m⟩,o⟩:=d;obtain⟨h,rfl,n⟩:=ge o;rw[show h=D from n];exact .inl ⟨a,C,D,u,b,rfl,m,k,i,l,q _ F H (Al.refl ..) rfl⟩
 .exact .inr (sh F H _ g Q pv d e q)
theorem k8(a:X.mg x=aa (.ref D))(b:Gl X x:=by rfl)(c:ap x:=by decide):DE X E (.Name x d) (dC (.raw (.ref D))):=λF S g f H Q r q=>bU (Bb (v:=.ref D) b a rfl c) (q F S H r (bv.refl ..) _ rfl)
variable{de:ad PV}{d:Pos}{y:Str}
noncomputable def lY(xs:List PV)(y:PV):Option PV:=(dv y).bind λv=>(iX xs).map λa=>.int (a.countP λz=>eG z v)
noncomputable def Bs(xs:List PV)(y:PV):Option PV:=(dv y).bind λv=>(iX xs).bind λa=>(a.findIdx? λz=>eG z v).map λj=>.int j
noncomputable def sj(f:List PV->PV->Option PV)(i:Nat)(de:ad PV):ad PV:=λb=>(aD (bR b i) b).bind λ_ b=>(de b).bind λk a=>(aD (bR a i) a).bind λxs a=>aD (f xs k) a
theorem Ng(i:Nat){c:Pos}(M:DE X E e de)(P:X.N[i]?=aa y:=by rfl)(J:dr X.env.scope y:=by eq_refl)(N:ap y:=by decide)(bf:aO y:=by decide) (Z:i8 (.Name y p) "count" X.env (aQ (.Name y p) X.env)=aQ (.Name y p) X.env:=by rfl)(Y:((cx b (aK [e] X.env)).all (λx=>!x.1)&&(mh b (mi [] X.env)).all (λx=>x.1.isSome)&&decide ([e].length+([]:List gk).length+(if([]:List gk).isEmpty then 0 else 1)<30))=ai:=by rfl)(W:(c.endLine == b.line)=ai:=by rfl) (t:aK [e] X.env=(am,aQ e X.env)::aK [] X.env:=by rfl) (T:(cx b (aK [] X.env)).any (·.1)=am:=by rfl):DE X E (.Call (.Attribute (.Name y p) "count" c) [e] [] b) (sj lY i de):=λF S o z H Q r h=>by
 unfold sj at h;cases n:bR o i with
 |none=>rw[n]at h;exact h.elim
 |some A=>
  rw[n]at h;simp only[ci,R.bind_ok]at h;obtain⟨a,B,u,O,_,_,_⟩:=r.lstAt (eM n);refine bU (p_ tG PySem.F.slot_list_count PySem.F.type_list_count Np (eJ P J N bf) (fz bF gh t) Z Y W t T) ⟨.ref a,u,.inl ⟨rfl,_,b_.of O⟩,?_⟩;refine M F S o z H _ r ((Ok.bind h).imp λk j F1 S1 H1 s g1 q v D=>?_);cases m:bR j i with
  |none=>rw[m]at q;trivial
  |some xs=>
   rw[m]at q;simp only[ci,R.bind_ok]at q;obtain⟨a',C,g,I,G,_,_⟩:=s.lstAt (eM m);rw[u]at g;cases g;unfold lY at q;cases f:dv k with
   |none=>rw[f]at q;trivial
   |some w=>
    cases l:iX xs with
    |none=>rw[f,l]at q;trivial
    |some ws=>rw[f,l]at q;obtain⟨rfl,L⟩:=ut G l;rw[jv D f];exact⟨a,C,w,rfl,rfl,I,rm f,L,q F1 S1 H1 s (bv.refl ..) _ rfl⟩
theorem Lu(i:Nat){c:Pos}(he:DE X E e de)(hN:X.N[i]?=aa y:=by rfl)(W:dr X.env.scope y:=by eq_refl)(hd:ap y:=by decide)(bf:aO y:=by decide) (h1:i8 (.Name y p) "index" X.env (aQ (.Name y p) X.env)=aQ (.Name y p) X.env:=by rfl)(h2:((cx b (aK [e] X.env)).all (λx=>!x.1)&&(mh b (mi [] X.env)).all (λx=>x.1.isSome)&&decide ([e].length+([]:List gk).length+(if([]:List gk).isEmpty then 0 else 1)<30))=ai:=by rfl)(h3:(c.endLine == b.line)=ai:=by rfl) (D:aK [e] X.env=(am,aQ e X.env)::aK [] X.env:=by rfl) (h5:(cx b (aK [] X.env)).any (·.1)=am:=by rfl):DE X E (.Call (.Attribute (.Name y p) "index" c) [e] [] b) (sj Bs i de):=λF S u I H Q A h=>by
 unfold sj at h;cases t:bR u i with
 |none=>rw[t]at h;exact h.elim
 |some J=>
  rw[t]at h;simp only[ci,R.bind_ok]at h;obtain⟨a,M,G,ha,_,_,_⟩:=A.lstAt (eM t);refine bU (p_ tG PySem.F.slot_list_index PySem.F.type_list_index QM (eJ hN W hd bf) (fz bF gh D) h1 h2 h3 D h5) ⟨.ref a,G,.inl ⟨rfl,_,b_.of ha⟩,?_⟩;refine he F S u I H _ A ((Ok.bind h).imp λk r F1 S1 H1 B g1 q v O=>?_);cases s:bR r i with
  |none=>rw[s]at q;trivial
  |some xs=>
   rw[s]at q;simp only[ci,R.bind_ok]at q;obtain⟨a',N,l,T,P,_,_⟩:=B.lstAt (eM s);rw[G]at l;cases l;unfold Bs at q;cases f:dv k with
   |none=>rw[f]at q;trivial
   |some w=>
    cases o:iX xs with
    |none=>rw[f,o]at q;trivial
    |some L=>
     cases n:L.findIdx? λz=>eG z w with
     |none=>rw[f,o]at q;simp only[eZ]at q;rw[n]at q;trivial
     |some j=>
      rw[f,o]at q;simp only[eZ]at q;rw[n]at q;obtain⟨rfl,Z⟩:=ut P o;rw[jv O f];rw[Uy]at n;obtain⟨C,h6,h7⟩:=n;refine⟨a,N,w,j,rfl,rfl,T,rm f,Z,C,λz g=>?_,λm z Y g=>?_,q F1 S1 H1 B (bv.refl ..) _ rfl⟩
      .rw[fj C]at g;cases g;trivial
      .have:=h7 m Y;rw[fj ∅]at g;cases g;simpa using this
end
theorem LR(c:Nat)(x:Tx):wV [c] x=x.contains c:=by unfold wV;have:=StrLaws.found_one (tS x) c;rw[l9]at this;rw[show(tS [c])=⟨#[c]⟩from rfl,this];simp
section
variable{X:Cx}{K:ay}
noncomputable def PM(K:ay)(r:V->List V->Hp->VK->Prop)(f:Tx->List PV->Option PV):Prop:=∀(F:ae->Prop) (H:Hp) (x:Tx) (xs:List PV) (b:List V) (Q:VK) (pv:PV),x.length<=bw->Reps K H F xs b->f x xs=aa pv->(∀w c a,Al F c H a->aZ K a c pv w->Q w a)->r (tV x) b H Q
variable{E:XK}{o e:aB}{h:List aB}{d:ad PV}{i:ad (List PV)}{a:Str}{c b:Pos}{g:String}{r:V->List V->Hp->VK->Prop}{f:Tx->List PV->Option PV}
end
theorem TK:fillsNumberSlot (.type "tuple") "mul"=pure am :=PySem.fillsNumberSlot_seq (id:="tuple.__mul__") (r:=aa (.builtin "tuple.__rmul__")) F.slot_tuple_mul.lookup (by rfl) F.slot_tuple_rmul.lookup (by rfl)
theorem Qz:seqRepeat? (.type "tuple")=pure (aa (.builtin "tuple.__mul__")):=by unfold seqRepeat?;rw[PySem.seqSlot_of (T:="tuple") (name:="__mul__") (id:="tuple.__mul__") F.slot_tuple_mul.lookup (by rfl),PySem.seqSlot_of (T:="tuple") (name:="__rmul__") (id:="tuple.__rmul__") F.slot_tuple_rmul.lookup (by rfl)];rfl
theorem Uj(a:Int)(t:Tok)(l:ae)(b:Array ah)(n:Nat)(i:Option ae)(f:Array (Option ah)):Meets (Builtin.«int.__rmul__» ⟨[.int a t,.ref l],[]⟩) (λ_ R s=>s.heap.get? l=aa {cls:=.type "tuple",dict:=i,data:=.seq b n,slots:=f}/\R (.ok (.ret Value.notImplemented)) s) :=.of_wp λc w A R s h=>by obtain⟨o,g,d,j,m⟩:=s;obtain⟨p,h⟩:=h;wp_walk;exact⟨_,rfl,h⟩
theorem Ow(l:ae)(a:Array ah)(n:Nat)(j:Option ae)(c:Array (Option ah))(x:Int)(u:Tok)(i:(decide (x < -(2^63))||decide (x ≥ 2^63))=am)(y:(a.isEmpty||x == 1)=am)(v:(decide (x<=0)||a.isEmpty)=am)(f:¬(a.size*x > (2^63-1) / 8))(t:Builtin.Tuple.tupleTooMany (a.size*x)=am)(r:((bz x.toNat a).foldl (·++·) #[]).size<=bd):Meets (Builtin.«tuple.__mul__» ⟨[.ref l,.int x u],[]⟩) (λ_ R s=>s.heap.get? l=aa {cls:=.type "tuple",dict:=j,data:=.seq a n,slots:=c}/\R (.ok (.ret (.ref s.heap.objs.size))) {s with heap:=s.heap.push {cls:=.type "tuple",data:=.seq ((bz x.toNat a).foldl (·++·) #[])}}) :=
 .of_wp λb w A R s h=>by
  obtain⟨p,g,d,m,o⟩:=s;obtain⟨q,h⟩:=h
  wp_walk
  refine wpAny_ite_false (decide_eq_false (by rw[i];simp)) ?_
  wp_walk
  refine wpAny_ite_false (decide_eq_false f) ?_
  wp_walk
  exact⟨_,rfl,h⟩
section
variable{K:ay}
noncomputable def Hj(K:ay):R2:=λx y H Q=>∃a k xs,x=.ref a/\y=.int k/\cC K H a xs/\xs≠[]/\2<=k/\k<=1000/\xs.length<=1000/\∀p,H p=ac->Q (.ref p) (upd H p (.tup (bz k.toNat xs).flatten))
theorem Uk:bZ X (iH .Mult) (Hj X.K):=by
 intro ag s S H x y v u Q I D C h;obtain⟨l,k,xs,rfl,rfl,L,P,h1,M,Y,q⟩:=h;cases D;obtain⟨t,rfl⟩:=C;obtain⟨a,r,E,_⟩:=I.tuple L;obtain⟨⟨O,m,p,d⟩,c,i,n,g⟩:=id E;simp only at i g;subst i g;have Z:=r.length;have f:a≠[]:=λz=>P (r.nil_iff.mp z);have j:List.foldl (λA w=>A++w) #[] (bz k.toNat a.toArray)=(bz k.toNat a).flatten.toArray:=by have:=foldl_rep a k.toNat [];trivial
 have G:a.toArray.isEmpty=am:=by grind
 have N:(k == 1)=am:=by lia
 have J_:a.toArray.size*k<=1000000:=by
  rw[dW];have J:(a.length:Int)<=1000:=∅
  have:=Int.mul_le_mul J M ∅ (by simp);ac_rfl
 refine wpAny_binaryOp_repeat_ref (T:="tuple") (U:="int") (by rfl) ⟨_,c,rfl⟩ (λB=>typeIs_int B k t) TK F.fills_int_mul F.slot_int_rmul Qz F.slot_int_index.lookup
  (nN F.slot_int_rmul (typeIs_int s k t) F.entry_int_rmul (F.args_int_rmul_2 _ _) (Uj k t l a.toArray n m d) ⟨c,rfl,⟨_,c,rfl⟩,nN F.slot_tuple_mul ⟨_,c,rfl⟩ F.entry_tuple_mul (F.args_tuple_mul_2 _ _) (Ow l a.toArray n m d k t ?_ ?_ ?_ ?_ ?_ ?_) ⟨c,?_⟩⟩)
 .lia
 .rw[G,N];rfl
 .lia
 .lia
 .unfold Builtin.Tuple.tupleTooMany;exact decide_eq_false (by rw[sX];lia)
 .rw[j,dW,AN,sX]
  grind
 .rw[j];refine⟨.ref s.heap.objs.size,_,I.laid (t':=s.toks) (o:=.tup (bz k.toNat xs).flatten) (λb W q=>bD _ q) (bc _) ?_,rfl,q _ (I.hok.fresh (bc _))⟩;refine⟨?_,_,r.rep k.toNat,IQ.new _ _⟩;rw[AN,sX]
  grind
theorem _root_.Pu.Reps.rep(r:Reps K H F xs a):∀n:Nat,Reps K H F (bz n xs).flatten (bz n a).flatten
 |0=>rfl
 |n+1=>by rw[yV,yV,CB,CB];exact r.app (r.rep n)
noncomputable def uG:PV->PV->Option PV
 |.tup xs,.int k=>if xs≠[]/\2<=k/\k<=1000/\xs.length<=1000 then aa (.tup (bz k.toNat xs).flatten)else ac
 |_,_=>ac
theorem TL:P2 K (Hj K) uG:=λF H x y v u Q pv i g e q=>by
 unfold uG at e;split at e
 .split at e
  .rename_i xs k h;cases e;obtain⟨a,f,rfl,j,b⟩:=i;have d:=b.len;exact⟨a,k,f,rfl,g,cC.of j,(λz=>h.1 (by rw[z]at d;exact lF d.symm)),h.2.1,h.2.2.1,⋯,λp c=>q _ F _ (Al.new0 c) ⟨p,_,rfl,upd_same,(Al.new0 c).reps (b.rep _)⟩⟩
  trivial
 trivial
end
section
variable{X:Cx}{E:XK}{n:dG}{x:Str}{q:List Str}{r:List Nat}
variable{p:List Nat}
theorem QQ(J:i∉p)(O:aX X.K F S l d H)(h:fW X.K E p d F S H (cR i dn l) D):Ok X.K E d F S H (dn l) (λy _ m w g=>∀a v,fe X.K g m y a v->(∀b,v b->H b=ac/\¬m b/\¬U w b/\∃o,g b=aa o/\eD o)->D.nx (d.set i (aa (.ref a))) g):=by
 unfold cR at h;cases u:dn l with
 |no=>rw[u]at h;trivial
 |er c B=>rw[u]at h;exact λx m w g G L=>h x m w d g G L (jc.refl _ _)
 |ok y s=>
  rw[u]at h;simp only[R.bind_ok]at h;intro N P M C f a v I A;by_cases t:i<s.length
  .rw[if_pos t]at h;refine h N _ _ M (C.setOwn t I λb z=>(A b z).2) ⟨f.fro,f.keep,f.there,f.fnew,λb ⟨j,z⟩=>?_⟩ (jc.set J);rcases z with z|⟨_,z⟩
   .exact f.onew b ⟨j,z.1⟩
   .exact .inr (A b z).1
  .rw[if_neg t]at h;trivial
theorem L6(W:i∉p)(rl:aX X.K F S m f H)(h:fW X.K E p f F S H (bE i (dF dn) m) D):Ok X.K E f F S H (dn m) (λu _ t A l=>∀a d,fe X.K l t u a d->(∀b,d b->H b=ac/\¬t b/\¬U A b/\∃o,l b=aa o/\eD o)->D.nx (f.set i (aa (.ref a))) l):=by
 unfold bE dF at h;cases v:dn m with
 |no=>rw[v]at h;trivial
 |er c L=>rw[v]at h;exact λx t A l P g'=>h x t A f l P g' (jc.refl _ _)
 |ok u J=>
  rw[v]at h;intro I G s O j a d Q B;cases u with
  |dK g=>exact h.elim
  |lls gx=>exact h.elim
  |dL gx=>exact h.elim
  |ins C fs=>exact h.elim
  |dT g=>exact h.elim
  |dN g=>exact h.elim
  |inl C fs y xs=>exact h.elim
  |lst xs=>
   have hN:∀b,d b->¬U G b/\∃o,s b=aa o:=λb z=>let ⟨_,_,x3,o,x4,_⟩:=B b z;⟨x3,o,x4⟩
   obtain⟨⟨M,Y,T⟩,Z⟩:=Q;have g2:bv (U S) (U G) F (λb=>I b\/d b) H s:=⟨λb z=>.inl (j.fro b z),j.keep,j.there,λb z=>z.elim (j.fnew b) λw=>.inr (.inl (B b w).1),j.onew⟩
   have N:aZ X.K s (λb=>I b\/d b) (.lst xs) (.ref a):=⟨a,M,rfl,.inl Y,.inr ((Z a).mpr rfl),Reps.mono (λ_ z=>.inl z) (λ_ _ _ z=>z) (λ_ _ z _=>z) _ _ T⟩
   exact h _ _ _ s ((O.more hN).set N) (g2.trans (bv.less i)) (jc.set W)
section
variable{c a:aB}{y:Str}{g j f d:Pos}{l:ad (List PV)}{m:ad PO}
theorem T6(i:Nat)(Z:X.N.Nodup)(B:iy X n x q r)(Y:X.calm=ai)(P:DI X E (.Name x g) a l)(M:∀C o t v u,DF (cc X n q C o t v u) E0 b dt) (W:∀C o t v u,DE (cc X n q C o t v u) E0 c de)(O:i∉p:=by decide) (J:X.N[i]?=aa y:=by rfl) (L:Loc X.env.scope y:=by first|exact Or.inl rfl|exact Or.inr rfl) (G:jj (.ListComp c [⟨.Name x g,a,b,0⟩] n f) (aa (.Name y j)) d.line X.env=pure ai:=by rfl)(T:av X y:=by mleft) (N:∀x,lw a X.env x=pure x:=by intro _;rfl):DS X E p (.Assign [.Name y j] (.ListComp c [⟨.Name x g,a,b,0⟩] n f) d) (cR i (cy r l dt de)):=λF S ε w H D A h=>gi (Il (wi:=qg X (.Name x g) a) (ts:=λw H Q=>∀C o t v u,uW (cc X n q C o t v u) b w H Q) (te:=λw H Q=>∀C o t v u,iu (cc X n q C o t v u) c w H Q) B Y vt (λC o t v u z s w H Q I h=>(h C o t v u).run z s I) (λC o t v u z s w H Q I h=>(h C o t v u).run z s I) Z J L G T N) (AH P M W A (QQ O A h))
theorem K3(i:Nat)(Z:X.N.Nodup)(B:iy X n x q r)(Y:X.calm=ai)(P:DI X E (.Name x g) a l)(M:∀C o t v u,DF (cc X n q C o t v u) E0 b dt) (W:∀C o t v u,DE (cc X n q C o t v u) E0 c de)(O:i∉p:=by decide) (J:X.N[i]?=aa y:=by rfl) (L:Loc X.env.scope y:=by first|exact Or.inl rfl|exact Or.inr rfl) (G:jj (.ListComp c [⟨.Name x g,a,b,0⟩] n f) (aa (.Name y j)) d.line X.env=pure ai:=by rfl)(T:av X y:=by mleft) (N:∀x,lw a X.env x=pure x:=by intro _;rfl):DS X E p (.Assign [.Name y j] (.ListComp c [⟨.Name x g,a,b,0⟩] n f) d) (bE i (dF (cy r l dt de))):=λF S ε w H D A h=>gi (Il (wi:=qg X (.Name x g) a) (ts:=λw H Q=>∀C o t v u,uW (cc X n q C o t v u) b w H Q) (te:=λw H Q=>∀C o t v u,iu (cc X n q C o t v u) c w H Q) B Y vt (λC o t v u z s w H Q I h=>(h C o t v u).run z s I) (λC o t v u z s w H Q I h=>(h C o t v u).run z s I) Z J L G T N) (AH P M W A (L6 O A h))
end
end
noncomputable def fP(a:List Nat):Nat->aj->Bool
 |_,[]=>ai
 |i,.own c::b=>a.contains i&&gf c&&fP a (i+1) b
 |i,_::b=>fP a (i+1) b
theorem rN:∀{b:aj}{k:Nat},fP c k b=ai->∀(i:Nat) a,b[i]?=aa (.own a)->k+i∈c/\gf a=ai
 |[],_,_,i,a,e=>by trivial
 |.own q::b,k,h,0,a,e=>by simp only[List.getElem?_cons_zero,Option.some.injEq,Slot.own.injEq]at e;subst e;simp only[fP,gL]at h;exact⟨~~~h.1.1,h.1.2⟩
 |.own q::b,k,h,i+1,a,e=>by simp only[fP,gL]at h;have:=rN (k:=k+1) h.2 i a (by trivial);lia
 |.val q::b,k,h,0,a,e=>by simp at e
 |.none::b,k,h,0,a,e=>by simp at e
 |.val q::b,k,h,i+1,a,e=>by have:=rN (k:=k+1) (by trivial) i a (by trivial);lia
 |.none::b,k,h,i+1,a,e=>by have:=rN (k:=k+1) (by trivial) i a (by trivial);lia
noncomputable def bo(len:Nat)(b:List Nat)(g:ad Slot):ad Slot:=λa=>if a.length=len/\fP b 0 a=ai then g a else .no
theorem xo{K:ay}{o:Str->Option ah}{c:aA}{x:Str}{a:bb}{N b:List Str}{k n:Nat}{d:ad aG}{pin:List Nat}(D:cG K o x a)(C:cr N b (bj a))(u:N.length=b.length+n)(v:∀(kV p t:ah) (B:Option ae) (l z:ah) (m:List ah),m.length=b.length->fY (iI x x (jz a) (fD a) (bj a) .none kV p t B l z) ⟨m,[]⟩=pure (b.zip m))(y:∀(f:ae) (l:ah) (A:aY) (j:List Env) (s:ao) (H:Hp) (E:XK),fg k (A.deeper (i7 x (bj a) s.heap.objs.size f l))->fM (iV q P w K o c N x (bj a) f l A j s H E) E pin (fD a) d):k9 q P w K o c x (k+1) b (eN K (bo b.length pin (bn n d))):=by
 have no:∀{g},bo b.length pin (bn n d) g≠.no->g.length=b.length/\fP pin 0 g=ai:=λ{g} h=>by unfold bo at h;simp_all
 exact Ud D C u v (λg h=>(no h).1) (λg h i r e=>by have:=rN (no h).2 i r e;rwa[nZ]at this) (λg h=>by unfold bo;rw[if_pos (no h)]) y
theorem Oj{P:aS}{w:aJ}{K:ay}{q:Str->Option ah}{g:aA}{x a:Str}{b:bb}{N c:List Str}{k n:Nat}{d:ad aG}{pin:List Nat}(G:pG K x a b f r)(F:cr N c (bj b))(y:N.length=c.length+n)(z:∀(kV p v:ah) (D:Option ae) (m C:ah) (o:List ah),o.length=c.length->fY (iI x a (jz b) (fD b) (bj b) .none kV p v D m C) ⟨o,[]⟩=pure (c.zip o))(B:∀(f:ae) (m:ah) (A:aY) (l:List Env) (s:ao) (H:Hp) (E:XK),fg k (A.deeper (i7 a (bj b) s.heap.objs.size f m))->fM (iV t P w K q g N a (bj b) f m A l s H E) E pin (fD b) d):kU P w K q g t (k+1) f r c (eN K (bo c.length pin (bn n d))):=by
 have no:∀{j},bo c.length pin (bn n d) j≠.no->j.length=c.length/\fP pin 0 j=ai:=λ{j} h=>by unfold bo at h;simp_all
 exact GJ G F y z (λj h=>(no h).1) (λj h i u e=>by have:=rN (no h).2 i u e;rwa[nZ]at this) (λj h=>by unfold bo;rw[if_pos (no h)]) B
theorem ML{K:ay}{o:Str->Option ah}{c:aA}{x:Str}{a:bb}{N b:List Str}{k n:Nat}{d:ad aG}{pin:List Nat}(D:cG K o x a)(B:cr N b (bj a))(t:N.length=b.length+n)(u:∀(kV p r:ah) (z:Option ae) (l y:ah) (m:List ah),m.length=b.length->fY (iI x x (jz a) (fD a) (bj a) .none kV p r z l y) ⟨m,[]⟩=pure (b.zip m))(v:∀(f:ae) (l:ah) (A:aY) (j:List Env) (s:ao) (H:Hp),kj k (A.deeper (i7 x (bj a) s.heap.objs.size f l))->fM (vm P w K o c N x (bj a) f l A j s H) E0 pin (fD a) d):xw P w K o c x (k+1) b (eN K (bo b.length pin (bn n d))):=by
 have no:∀{g},bo b.length pin (bn n d) g≠.no->g.length=b.length/\fP pin 0 g=ai:=λ{g} h=>by unfold bo at h;simp_all
 exact Kg D B t u (λg h=>(no h).1) (λg h i q e=>by have:=rN (no h).2 i q e;rwa[nZ]at this) (λg h=>by unfold bo;rw[if_pos (no h)]) v
theorem Ia{P:List ah->Prop}(h:∀a,P [a])(b:List ah)(c:b.length=1):P b:=by
 cases b with
 |nil=>trivial
 |cons a r=>simp_all
theorem Iz{P:List ah->Prop}(h:∀a b,P [a,b])(c:List ah)(d:c.length=2):P c:=by
 cases c with
 |nil=>trivial
 |cons a r=>exact Ia (P:=λr=>P (a::r)) (h a) r (C4 d)
theorem Fp{P:List ah->Prop}(h:∀a b c,P [a,b,c])(d:List ah)(f:d.length=3):P d:=by
 cases d with
 |nil=>trivial
 |cons a r=>exact Iz (P:=λr=>P (a::r)) (h a) r (C4 f)
theorem Tb{P:List ah->Prop}(h:∀a b c d,P [a,b,c,d])(f:List ah)(g:f.length=4):P f:=by
 cases f with
 |nil=>trivial
 |cons a r=>exact Fp (P:=λr=>P (a::r)) (h a) r (C4 g)
theorem OU{d:ii}{c:List Str}(h:∀a,fY d ⟨[a],[]⟩=pure (c.zip [a]))(b:List ah)(f:b.length=1):fY d ⟨b,[]⟩=pure (c.zip b):=Ia (P:=λb=>fY d ⟨b,[]⟩=pure (c.zip b)) h b f
theorem KH{f:ii}{d:List Str}(h:∀a b,fY f ⟨[a,b],[]⟩=pure (d.zip [a,b]))(c:List ah)(g:c.length=2):fY f ⟨c,[]⟩=pure (d.zip c):=Iz (P:=λc=>fY f ⟨c,[]⟩=pure (d.zip c)) h c g
theorem NU{g:ii}{f:List Str}(h:∀a b c,fY g ⟨[a,b,c],[]⟩=pure (f.zip [a,b,c]))(d:List ah)(i:d.length=3):fY g ⟨d,[]⟩=pure (f.zip d):=Fp (P:=λd=>fY g ⟨d,[]⟩=pure (f.zip d)) h d i
theorem SR{i:ii}{g:List Str}(h:∀a b c d,fY i ⟨[a,b,c,d],[]⟩=pure (g.zip [a,b,c,d]))(f:List ah)(j:f.length=4):fY i ⟨f,[]⟩=pure (g.zip f):=Tb (P:=λf=>fY i ⟨f,[]⟩=pure (g.zip f)) h f j
theorem gF:pP (jy P w) X E0:=λ_ _ _ _ _ _ _ h=>by obtain⟨a,T,c,b,_,_,_,_,_,_,_,z⟩:=h;trivial
theorem gW:d_ "len"=aa (.builtin "len"):=by decide +kernel
theorem Cf:d_ "all"=aa (.builtin "all"):=by decide +kernel
theorem QB:d_ "any"=aa (.builtin "any"):=by decide +kernel
theorem l6:d_ "sorted"=aa (.builtin "sorted"):=by decide +kernel
theorem iC:d_ "isinstance"=aa (.builtin "isinstance"):=by decide +kernel
theorem QN:d_ "int"=aa (.type "int"):=by decide +kernel
theorem QC:d_ "bool"=aa (.type "bool"):=by decide +kernel
theorem OK:d_ "str"=aa (.type "str"):=by decide +kernel
theorem Ab:d_ "list"=aa (.type "list"):=by decide +kernel
theorem pH:d_ "tuple"=aa (.type "tuple"):=by decide +kernel
theorem Ax:d_ "set"=aa (.type "set"):=by decide +kernel
theorem RP:d_ "ValueError"=aa (.type "ValueError"):=by decide +kernel
noncomputable def k7:aB->Bool
 |.Starred _ _=>ai
 |_=>am
theorem iP(h:k7 e=am):aK (e::es) env=(am,aQ e env)::aK es env:=by
 cases e <;> first|rfl|cases h
section
theorem aH(g:DE X E e d)(f:DA X E a b)(h:k7 e=am:=by rfl):DA X E (e::a) (aw d b):=OZ g f (iP h)
theorem aV(g:DE X E e d)(f:DG X E a c)(h:k7 e=am:=by rfl):DG X E (e::a) (gV d c):=Mv g f (iP h)
end
noncomputable def uU:List ah:=[.type "ValueError",.type "Exception",.type "BaseException",.type "object"]
theorem BS{K:ay}(X:K.In h)(q:o5 K C B nw=ai):∃g N u o bs A i sub E b D z y x w v f,h.get? C=aa (excClassObj u o C N bs g A i sub E b D z y x w v nw)/\h.Ns N f/\f "__init__"=ac/\OwnTail h B g:=by
 unfold o5 at q;split at q
 case h_2=>cases q
 case h_1 d0 cdata slots look=>
  split at q
  case h_2=>cases q
  case h_1 C2 tl s0 s1 s2 s3 nn s5 em es=>
   rw[gL,gL,gL,gL,gL]at q;obtain⟨⟨⟨⟨⟨t,s⟩,d⟩,r⟩,a⟩,p⟩:=q;have n:=beq_iff_eq.mp t;have m:=beq_iff_eq.mp s;have c:=beq_iff_eq.mp p;subst n m;cases cdata;dsimp only at em d a c;subst em;have l:=Bool.not_eq_true' _ |>.mp d
   subst l;have j:slots=#[s0,s1,s2,s3,aa (.builtin nn),s5]:=by cases slots;exact congrArg Array.mk es
   subst j;exact⟨tl,_,_,_,_,_,_,_,_,_,d0,s0,s1,s2,s3,s5,_,X _ _ look,Heap.Ns.of_isNs (PySem.W.isNs_of_in X a),PySem.W.nsMap_none_of_in X a c,PySem.W.tail_of_in X r⟩
theorem MC{K:ay}(X:K.In h)(e:a x=aa (.ref C))(q:o5 K C B nw=ai):OwnCls x C B nw a h:=⟨e,BS X q⟩
theorem Sl{K:ay}(X:K.In h)(q:o5 K C uU nw=ai):p8 h C:=by obtain⟨o,N,d,c,bs,m,b,sub,p,a,n,l,j,i,g,f,r,e,_,_,t⟩:=BS X q;exact⟨o,N,d,c,bs,m,b,sub,p,a,n,l,j,i,g,f,nw,e,t.hasType rfl⟩
noncomputable def subB(K:ay)(D C:ae):Bool:=match K.lookup C with
 |some ⟨_,_,.cls a,_⟩=>a.mro.contains (.ref D)
 |_=>am
theorem Nc{K:ay}(X:K.In h)(q:o5 K C B nw=ai)(s:subB K D C=ai):Under h D (.ref C):=by
 obtain⟨o,N,d,c,bs,m,b,sub,p,a,n,l,j,i,g,f,v,e,_⟩:=BS X q;refine⟨C,o,N,d,c,bs,m,b,sub,p,a,n,l,j,i,g,f,nw,rfl,e,?_⟩;unfold subB at s;split at s
 .rename_i u t x r look;have w:=X _ _ look;lia
 trivial
noncomputable def xO(K:ay)(C:ae):Bool :=
 qr K (.ref C) "__getattribute__" == aa (aa (.builtin "BaseException.__getattribute__"))&&qr K (.ref C) "__getattr__" == aa ac&&qr K (.ref C) "__class__" == aa (aa (.builtin "object.__class__")) &&
 IV K (.builtin "object.__class__") "__get__" == aa (aa (.builtin "getset_descriptor.__get__"))&&PySem.W.takesIn K (.builtin "object.__class__") == aa ai&&yR K C (.type "object") == aa ai&&yR K C (.type "BaseException") == aa ai&&(C0 K C).isSome
theorem Fv{K:ay}(h:xO K C=ai):oF K C:=by simp only[xO,gL,beq_iff_eq]at h;obtain⟨⟨⟨⟨⟨⟨⟨j,i⟩,g⟩,f⟩,d⟩,c⟩,b⟩,a⟩:=h;exact⟨j,i,g,f,d,c,b,a⟩
noncomputable def zx(K:ay):Bool:=K.all λp=>match p.2.cls with
 |.type t=>t != "list"
 |_=>ai
theorem HE:∀{K:ay},K.lookup a=aa o->(a,o)∈K
 |[],e=>by cases e
 | (b,u)::K,e=>by
  rw[nO]at e;cases q:a == b with
  |true=>simp_all
  |false=>rw[q]at e;exact fE _ (HE e)
theorem GA{K:ay}:∀a:List Int,Reps K H F (a.map .int) (a.map V.int)
 |[]=>rfl
 |x::a=>⟨.int x,a.map V.int,rfl,rfl,GA a⟩
theorem R0{K:ay}{xs:List V}(h:zx K=ai)(s:b_ K H a xs):Rd H a (.lst xs):=by
 rcases s with s|⟨o,c,n,b,d,_⟩
 .exact s
 .have:=tq.mp h _ (HE b);rw[d]at this;trivial
theorem S5{K:ay}{a:ae}{c:List Int}{E:XK}(d:Rd H a (.lst (c.map V.int)))(h:g [.val (.lst (c.map .int))]=.ok (.val (.bl ai)) [.val (.lst (c.map .int))]):eN K g [.ref a] H (λv _=>v=.bl ai) E:=by
 refine⟨λb=>b=a,λ_ _=>False,[.val (.lst (c.map .int))],⟨rfl,λb e=>?_,λi pv e=>?_,λi l e=>?_,λi b z=>z.elim,λi j b z=>z.elim⟩,?_⟩
 .subst e;rcases d with d|⟨o,d⟩ <;> exact⟨_,d⟩
 .cases i with
  |zero=>cases e;exact⟨_,rfl,a,_,rfl,d,rfl,GA c⟩
  |succ i=>trivial
 .cases i with
  |zero=>cases e
  |succ i=>trivial
 .rw[h];exact λv q n p m _ _ f _ _=>f.1
theorem Va{K:ay}{t:Tok}(e:cJ K b7 x=aa (aa (.int i t))):∃t,cJ K b7 x=aa (aa (.int i t)):=⟨t,e⟩
theorem U7{K:ay}{t:Tok}(e:cJ K b7 x=aa (aa (.str (tS l) t))):∃t,cJ K b7 x=aa (aa (.str (tS l) t)):=⟨t,e⟩
noncomputable def c7(K:ay)(x:Str)(a:bb):Prop:=∃f oc g kV h d j b i c,cJ K b7 x=aa (aa (.ref f))/\K.lookup f=aa ⟨oc,g,.func (iI x x (jz a) (fD a) (bj a) .none kV h d j b i),c⟩/\vG K b x=ai/\qu K (.ref f)=ai
theorem US{K:ay}{b:bb}{f:ae}{oc kV j h d m:ah}{i n:Option ae}{g:Array (Option ah)}(a:cJ K b7 x=aa (aa (.ref f)))(l:K.lookup f=aa ⟨oc,i,.func (iI x x (jz b) (fD b) (bj b) .none kV j h n d m),g⟩)(c:vG K d x=ai) (k:qu K (.ref f)=ai):c7 K x b:=⟨f,oc,i,kV,j,h,n,d,m,g,a,l,c,k⟩
theorem c7.at{K:ay}{x:Str}{st:bb}(d:c7 K x st)(X:K.In h)(G:h.Ns b7 b):cG K b x st:=by obtain⟨f,oc,j,kV,m,i,o,n,ct,g,a,l,c,k⟩:=d;exact⟨f,_,zd X G a,Hv l c k⟩
noncomputable def jx(a:List (aI×PV))(k:aI):Option PV:=(a.find? λb=>decide (b.1=k)).map (·.2)
noncomputable def oy(a:List (aI×PV))(k:aI)(v:PV):List (aI×PV):=if(a.any λb=>decide (b.1=k))=ai then a.map (λb=>if b.1=k then(b.1,v)else b)else a++[(k,v)]
noncomputable def iU:PV->Option aI
 |.int i=>aa (.inl i)
 |.str x=>aa (.inr (tS x))
 |_=>ac
section
variable{K:ay}{F:ae->Prop}{S:Nat->ae->Prop}{ε:aj}{f:St}{H:Hp}{i:Nat}{d:List (aI×PV)}{ws:List (aI×V)}{a:ae}
theorem vh(r:aZ K H F x v)(e:iU x=aa k):v=kV k:=by
 cases x <;> simp[iU]at e
 .subst e;exact r
 .subst e;exact r.1
theorem h_.len(h:h_ K H F d ws):ws.length=d.length:=by
 unfold h_ at h
 induction h with
 |nil=>rfl
 |cons _ _ b=>simp[b]
theorem h_.val(h:h_ K H F d ws)(k:aI):(∃x v,jx d k=aa x/\jA ws k=aa v/\aZ K H F x v)\/(jx d k=ac/\jA ws k=ac):=by
 unfold h_ at h
 induction h with
 |nil=>exact .inr ⟨rfl,rfl⟩
 |@cons p q ps qs r _ ih=>
  by_cases e:p.1=k
  .refine .inl ⟨p.2,q.2,by simp[jx,mj,e],?_,r.2⟩;rw[yd (by rw[<-r.1];exact e)]
  .have b:¬q.1=k:=by rw[<-r.1];exact e
   rw[xH b];have:jx (p::ps) k=jx ps k:=by simp[jx,mj,e]
   rw[this];trivial
theorem h_.any(h:h_ K H F d ws)(k:aI):(d.any λb=>decide (b.1=k))=ws.any λb=>decide (b.1=k):=by
 unfold h_ at h
 induction h with
 |nil=>rfl
 |cons r _ c=>rw[qz,qz,c,r.1]
theorem h_.put(h:h_ K H F d ws)(k:aI)(r:aZ K H F x v):h_ K H F (oy d k x) (g_ ws k v):=by
 unfold oy g_;rw[h.any k];split
 .rename_i b;clear b;unfold h_ at h ⊢
  induction h with
  |nil=>exact .nil
  |@cons p q ps qs r1 _ ih=>refine .cons ?_ ih;lia
 .exact Paired.snoc h ⟨rfl,r⟩
theorem aX.dkAt(r:aX K F S ε f H)(e:ε[i]?=aa (.own (.dK d))):∃a ws,f[i]?=aa (aa (.ref a))/\H a=aa (.dK ws)/\h_ K H F d ws/\S i a/\∀b,S i b->b=a:=by obtain⟨a,m,⟨g,l,j⟩,c⟩:=r.own i _ e;exact⟨a,g,m,l,j,(c a).mpr rfl,λb h=>(c b).mp h⟩
theorem aX.updO(r:aX K F S ε f H)(e:ε[i]?=aa (.own m))(M:gf m=ai)(D:f[i]?=aa (aa (.ref a)))(L:eD o')(h:∀u,(∀x v,aZ K H F x v->aZ K u F x v)->(∀x v,Reps K H F x v->Reps K u F x v)->u a=aa o'->∀G:ae->Prop,(∀b,G b↔b=a)->fe K u F po' a G):aX K F S (ε.set i (.own po')) f (L2.upd H a o')/\bv (U S) (U S) F F H (L2.upd H a o'):=by
 obtain⟨O,E,J⟩:=r.own i m e;rw[D]at E;cases E;have p:=FG J M;have A:S i a:=(p a).mpr rfl;have C:∀b,S i b->b=a:=λb z=>(p b).mp z;have y:i<ε.length:=(c_.mp e).1;have g:bv (U S) (U S) F F H (L2.upd H a o'):=⟨λ_ z=>z,λb o q n=>by rw[bi (by rintro rfl;exact n ⟨i,A⟩)];exact q,λb o q=>by
  by_cases B:b=a
  .subst B;exact⟨_,upd_same⟩
  .exact⟨o,by rw[bi B];exact q⟩,λ_ z=>.inl z,λ_ z=>.inl z⟩
 refine⟨⟨by rw[iJ];exact r.len,λb z=>let ⟨o,q⟩:=r.ex b z;g.there b o q,λj pv q=>?_,λj m q=>?_,λj b z=>?_,r.dist⟩,g⟩
 .have l:i≠j:=by rintro rfl;rw[ie y]at q;cases q
  rw[eE l]at q;obtain⟨v,t,s⟩:=r.val j pv q;exact⟨v,t,s.grow g r.fit⟩
 .by_cases l:i=j
  .subst l;rw[ie y]at q;cases q;exact⟨a,D,h _ (λ_ _ z=>z.grow g r.fit) (λ_ _ z=>z.grow g r.fit) upd_same _ p⟩
  .rw[eE l]at q;obtain⟨c,t,s⟩:=r.own j m q;refine⟨c,t,s.mono (λ_ _ z=>z.grow g r.fit) (λ_ _ z=>z.grow g r.fit) λb o z w=>?_⟩;rw[bi (by rintro rfl;exact l (r.dist i j b A z))];exact w
 .obtain⟨⟨m,t⟩,s,o,N,I⟩:=r.foot j b z;by_cases l:i=j
  .subst l;rw[C b z];exact⟨⟨_,ie y⟩,by rw[<-C b z];trivial,_,upd_same,L⟩
  .exact⟨⟨m,by rw[eE l];trivial⟩,s,o,by rw[bi (by rintro rfl;exact l (r.dist i j b A z))];trivial,I⟩
end
noncomputable def cW(b:aj)(i:Nat):Option (List (aI×PV)):=match b[i]? with
 |some (.own (.dK a))=>aa a
 |_=>ac
theorem li(h:cW b i=aa a):b[i]?=aa (.own (.dK a)):=by
 unfold cW at h;split at h
 .cases h;trivial
 trivial
section
variable{X:Cx}{E:XK}{pin:List Nat}{e b c:aB}{de db f:ad PV}{d:Pos}
noncomputable def r9:ad PO:=λa=>.ok (.dK []) a
theorem EZ:DN X E (.Dict [] [] d) r9:=λF S l i H Q a h=>bU Nn λp g=>by
 have al:Al F F H (upd H p (.dK [])):=Al.new0 g;refine h F S _ (a.al al) al.grow p (λb=>b=p) ⟨⟨[],upd_same,.nil⟩,λb=>o0⟩ λb z=>?_;subst z;refine⟨g,λz=>?_,λ⟨j,z⟩=>?_,_,upd_same,trivial⟩
 .obtain⟨o,q⟩:=a.ex b z;lia
 .obtain⟨_,_,o,q,_⟩:=a.foot j b z;lia
noncomputable def nv(i:Nat)(db:ad PV):ad PV:=λg=>(aD (cW g i) g).bind λ_ g=>(db g).bind λk a=>(aD (cW a i) a).bind λh a=>aD ((iU k).bind λk=>jx h k) a
theorem F_(i:Nat)(hu:X.A.units+64<cLine)(L:DE X E b db)(N:X.N[i]?=aa y:=by rfl)(O:dr X.env.scope y:=by eq_refl)(J:ap y:=by decide) (P:aO y:=by decide) (G:AU b:=by exact λ_ _=>rfl):DE X E (.Subscript (.Name y z) b d) (nv i db):=λF S o w H Q p h=>by
 unfold nv at h;cases n:cW o i with
 |none=>rw[n]at h;exact h.elim
 |some s=>
  rw[n]at h;simp only[ci,R.bind_ok]at h;obtain⟨a,A,t,_⟩:=p.dkAt (li n);refine bU (Kv ∅ (eJ N O J P) bF G) ⟨.ref a,t,L F S o w H _ p ((Ok.bind h).imp λk j Y T W r g1 q u B=>?_)⟩;cases m:cW j i with
  |none=>rw[m]at q;trivial
  |some D=>
   rw[m]at q;simp only[ci,R.bind_ok]at q;obtain⟨a',Z,g,M,I,_⟩:=r.dkAt (li m);rw[t]at g;cases g;cases l:iU k with
   |none=>rw[l]at q;trivial
   |some C=>
    rw[l,eZ]at q;rw[vh B l];rcases I.val C with⟨x,v,h1,h2,h3⟩|⟨h1,h2⟩
    .rw[h1]at q;exact⟨a,v,rfl,by rw[<-h2];exact kT.k M,q Y T W r (bv.refl ..) v h3⟩
    .rw[h1]at q;trivial
noncomputable def iG(i:Nat)(db f:ad PV):ad PV:=λg=>(aD (cW g i) g).bind λ_ g=>(db g).bind λk h=>(f h).bind λz a=>(aD (cW a i) a).bind λj a=>aD ((iU k).map λk=>(jx j k).getD z) a
theorem yg(i:Nat){g:Pos}(hu:X.A.units+64<cLine)(hb:DE X E b db)(hc:DE X E c f)(hN:X.N[i]?=aa y:=by rfl)(dX:dr X.env.scope y:=by eq_refl)(hd:ap y:=by decide) (bf:aO y:=by decide)(l:i8 (.Name y j) "get" X.env (aQ (.Name y j) X.env)=aQ (.Name y j) X.env:=by rfl) (A:(g.endLine == d.line)=ai:=by rfl) (s1:k7 b=am:=by rfl) (Z:k7 c=am:=by rfl):DE X E (.Call (.Attribute (.Name y j) "get" g) [b,c] [] d) (iG i db f):=λF S I G H Q L h=>by
 have J:aK [b,c] X.env=[(am,aQ b X.env),(am,aQ c X.env)]:=by rw[iP s1,iP Z];rfl
 have m:M2 X (.Name y j) "get" g b c d:=⟨l,by rw[J];rfl,A,by rw[J];rfl⟩
 unfold iG at h;cases D:cW I i with
 |none=>rw[D]at h;exact h.elim
 |some M=>
  rw[D]at h;simp only[ci,R.bind_ok]at h;obtain⟨a,Y,O,t,_⟩:=L.dkAt (li D);refine bU (Nv ∅ (eJ hN dX hd bf) bF bF m) ⟨.ref a,O,a,rfl,.inl ⟨_,.inl t⟩,hb F S I G H _ L ((Ok.bind h).imp λk p F1 S1 H1 r1 g1 q u ru=>?_)⟩;refine hc F1 S1 p G H1 _ r1 ((Ok.bind q).imp λz o W P T s g2 q w r=>?_);cases C:cW o i with
  |none=>rw[C]at q;trivial
  |some kvs=>
   rw[C]at q;simp only[ci,R.bind_ok]at q;obtain⟨a',ws,n,N,hk,_⟩:=s.dkAt (li C);rw[O]at n;cases n;cases B:iU k with
   |none=>rw[B]at q;trivial
   |some ky=>
    rw[B,vO]at q;rw[vh ru B];rcases hk.val ky with⟨x,v,l,h2,A⟩|⟨l,h2⟩
    .rw[l]at q;exact⟨aa v,by rw[<-h2];exact kT.k N,q W P T s (bv.refl ..) v A⟩
    .rw[l]at q;exact⟨ac,by rw[<-h2];exact kT.k N,q W P T s (bv.refl ..) w r⟩
noncomputable def fq(i:Nat)(db de:ad PV):ad aG:=λj=>(de j).bind λy g=>(aD (cW g i) g).bind λ_ g=>(db g).bind λk a=>(aD (cW a i) a).bind λh a=>(aD (iU k) a).bind λk a=>if h.length<bw then .ok .next (a.set i (.own (.dK (oy h k y))))else .no
theorem qi(i:Nat)(hu:X.A.units+64<cLine)(hb:DE X E b db)(he:DE X E e de)(hN:X.N[i]?=aa y:=by rfl)(dX:dr X.env.scope y:=by eq_refl)(hd:ap y:=by decide) (bf:aO y:=by decide) (Z:jj e (aa (.Subscript (.Name y C) b g)) d.line X.env=pure am:=by rfl):DS X E pin (.Assign [.Subscript (.Name y C) b g] e d) (fq i db de):=λF S L o H D Q h=>by
 refine gi (Ml ∅ (eJ hN dX hd bf) bF bF Z) (he F S L o H _ Q (h.bindE.imp λy l F1 S1 H1 r g1 q v O=>?_));cases B:cW l i with
 |none=>rw[B]at q;trivial
 |some I=>
  rw[B]at q;simp only[ci,R.bind_ok]at q;obtain⟨a,M,z,ha0,_⟩:=r.dkAt (li B);refine⟨.ref a,z,hb F1 S1 l o H1 _ r (q.bindE.imp λk p F2 S2 H2 G g2 j u P=>?_)⟩;cases n:cW p i with
  |none=>rw[n]at j;trivial
  |some t=>
   rw[n]at j;simp only[ci,R.bind_ok]at j;obtain⟨a',N,m,ha,J,_⟩:=G.dkAt (li n);rw[z]at m;cases m;cases A:iU k with
   |none=>rw[A]at j;trivial
   |some s=>
    rw[A]at j;simp only[ci,R.bind_ok]at j;split at j
    .rename_i hl;rw[vh P A];have W:=J.put s (O.grow g2 r.fit);obtain⟨T,g3⟩:=G.updO (po':=.dK (oy t s y)) (o':=.dK (g_ N s v)) (li n) rfl z trivial λH' Y m2 x Sa w=>⟨⟨_,x,W.mono Y⟩,w⟩
     exact⟨a,_,rfl,Cn.k ha (by rw[J.len];exact gH hl lZ),j F2 S2 o _ T g3 (jc.refl _ _)⟩
    trivial
end
section
variable{X:Cx}
noncomputable def iE(a d:ae):HO:=.ext λh=>h.IsValuesView a d
theorem GM:yL X "dict.values" (λx xs H Q=>∃d b,x=.ref d/\xs=[]/\H d=aa (.dK b)/\∀a,H a=ac->Q (.ref a) (upd H a (iE a d))):=by
 intro y s r H x xs v t Q I g i h;obtain⟨d,b,rfl,rfl,p,q⟩:=h;cases g;cases i.zero;obtain⟨z,n,f,j,c⟩:=x5 I.hok p;refine call_meetsIn JA c.typeIs PySem.F.entry_dict_values (PySem.F.args_dict_values_1 _) (meets_dict_values (gC X.prog X.w) d n) ⟨⟨f,c⟩,?_⟩;refine⟨.ref s.heap.objs.size,_,I.laid (a:=s.heap.objs.size) (o:=iE s.heap.objs.size d) (t':=s.toks) (λ_ _ q=>bD _ q) (bc _) ?_,rfl,q _ I.fresh⟩;exact⟨⟨_,cS _ rfl,rfl,rfl⟩,⟨_,cS _ rfl⟩,λw u ⟨o,m,l⟩ k=>⟨o,k o m,l⟩⟩
theorem KV.at(r:KV a vs){i:Nat}{k:aI}{u:ah}(h:vs[i]?=aa (k,u)):∃v,a[i]?=aa (k,v)/\RelV v u:=by
 unfold KV at r
 induction r generalizing i with
 |nil=>trivial
 |@cons p q ps qs r1 _ ih=>
  cases i with
  |zero=>simp at h;subst h;exact⟨p.2,by simp[show k=p.1 from r1.1.symm],r1.2⟩
  |succ i=>exact ih (by trivial)
noncomputable def p9(a:List (aI×V)):Option Bool:=match a with
 |[]=>aa am
 | (_,.int i)::r=>(p9 r).map λb=>(decide (i≠0))||b
 |_=>ac
theorem Gn:∀{a:List (aI×V)}{b:Bool},p9 a=aa b->(∀(i:Nat) k v,a[i]?=aa (k,v)->∃n,v=.int n)/\b=(cu a.length).any λi=>match a[i]? with|aa (_,.int n)=>decide (n≠0)|_=>am
 |[],b,h=>by simp[p9]at h;subst h;exact⟨by simp,rfl⟩
 | (k,.int n)::r,b,h=>by
  simp only[p9,lE]at h;obtain⟨l,j,g⟩:=h;obtain⟨f,d⟩:=Gn j;refine⟨λi c v e=>?_,?_⟩
  .cases i with
   |zero=>simp at e;exact⟨n,e.2.symm⟩
   |succ i=>exact f i c v (by trivial)
  .rw[cI,yZ,qz,List.any_map,<-g,d];rfl
 | (_,.non)::_,_,h=>by trivial
 | (_,.bl _)::_,_,h=>by trivial
 | (_,.str _)::_,_,h=>by trivial
 | (_,.ref _)::_,_,h=>by trivial
 | (_,.ty _)::_,_,h=>by trivial
theorem MD(P:X.calm=ai):dq X (.builtin "any") (λxs H Q=>∃(p d:ae) (a:List (aI×V)) (b:Bool),xs=[.ref p]/\H p=aa (iE p d)/\H d=aa (.dK a)/\p9 a=aa b/\Q (.bl b) H):=by
 intro ag s C H xs us Q I r h;obtain⟨p,d,a,b,rfl,m,O,T,q⟩:=h;obtain⟨u,rfl,E⟩:=vals1 r;cases E;obtain⟨l,_,_⟩:=(show cf X.prog X.w H s.heap p (iE p d)from I.hok p _ m)
 obtain⟨z,hs,j,g,Z⟩:=x5 I.hok O;obtain⟨A,f⟩:=Z.dictAt;obtain⟨M,L⟩:=Gn T;refine call_any_walk (wpAny_pyIter_values l f ?_);refine⟨s.heap.objs.size,_,_,_,_,_,λi=>match a[i]? with|aa (_,.int n)=>decide (n≠0)|_=>am,rfl,Walks.dictValues (wW (I.ok.hd P)) _ d (dE f.lt_size) j A,⟨⟨_,cS _ rfl,rfl,rfl⟩,f.push _⟩,λi v s' Q' E' l y=>?_,λh' D k=>?_⟩
 .obtain⟨J,N⟩:=l;obtain⟨w,B,Y⟩:=KV.at g N;obtain⟨n,rfl⟩:=M i J w B;obtain⟨t,rfl⟩:=Y;dsimp only at y;rw[B]at y;exact PyProof.Rows.truthy_int (by rw[show(n != 0)=decide (n≠0) by by_cases z:n=0 <;> simp[z]];trivial)
 .have I1:Inv X ag C H {s with heap:=s.heap.push {cls:=.type "dict_valueiterator",data:=.fields #[.ref d,.int 0 0,.int j.length 0,.int A 0]},toks:=s.toks}:=I.kept (t':=s.toks) λb o e=>bD _ e;have W:(cu j.length).any (λi=>match a[i]? with|aa (_,.int n)=>decide (n≠0)|_=>am)=b:=by rw[<-g.length];exact L.symm
  rw[W];exact⟨.bl _,H,Inv.turned (t':=D) I1 (it:=s.heap.objs.size) (λb o S e=>k b o (~~~S) e) I.fresh (sW I.lt) (.inr I.sz) (λx c e z=>by obtain⟨v,F⟩:=I.cell x c e;exact absurd F.lt (by rw[z];simp)) (λG m z=>absurd (bC (I.pin G m).1) (by rw[z];simp)),rfl,q⟩
end
section
variable{X:Cx}{E:XK}{pin:List Nat}{b c:aB}{db G:ad PV}
noncomputable def pV:List (aI×PV)->Option Bool
 |[]=>aa am
 | (_,.int i)::r=>(pV r).map λb=>(decide (i≠0))||b
 |_=>ac
theorem QY{K:ay}{a:List (aI×PV)}{d:List (aI×V)}{k:Bool}(h:h_ K H F a d)(e:pV a=aa k):p9 d=aa k:=by
 unfold h_ at h
 induction h generalizing k with
 |nil=>exact e
 |@cons p q C qs r _ ih=>
  obtain⟨l,pv⟩:=p;obtain⟨j,g⟩:=q;cases pv <;> simp only[pV,lE]at e <;> try cases e
  obtain⟨i,f⟩:=r;obtain rfl:g=V.int _:=f;rename_i h;simp only[p9,ih h.1,vO];rw[<-h.2]
noncomputable def uO(i:Nat):ad PV:=λa=>(aD (cW a i) a).bind λd a=>aD ((pV d).map .bl) a
theorem P4(i:Nat){f d:Pos}(D:X.calm=ai)(z:X.mg "any"=ac)(I:X.N[i]?=aa y:=by rfl)(L:dr X.env.scope y:=by eq_refl)(C:ap y:=by decide) (O:aO y:=by decide) (B:Gl X "any":=by rfl)(w:i8 (.Name y g) "values" X.env (aQ (.Name y g) X.env)=aQ (.Name y g) X.env:=by rfl) (v:(f.endLine == d.line)=ai:=by rfl)(r:aK [.Call (.Attribute (.Name y g) "values" f) [] [] d] X.env=(am,aQ (.Call (.Attribute (.Name y g) "values" f) [] [] d) X.env)::aK [] X.env:=by rfl) (N:(cx t (aK [] X.env)).any (·.1)=am:=by rfl):DE X E (.Call (.Name "any" p) [.Call (.Attribute (.Name y g) "values" f) [] [] d] [] t) (uO i):=λF S u P H Q o h=>by
 unfold uO at h;cases m:cW u i with
 |none=>rw[m]at h;exact h.elim
 |some j=>
  rw[m]at h;simp only[ci,R.bind_ok]at h;obtain⟨a,n,J,s,A,T,_⟩:=o.dkAt (li m);cases l:pV j with
  |none=>rw[l]at h;exact h.elim
  |some k=>
   rw[l,vO]at h;refine bU (nB (MD D) B z QB (fz (Fi Jj JA PySem.F.type_dict_values GM (eJ I L C O) w v) gh r) (by decide) (by rfl) r N) ⟨.ref a,J,.inr (.inr (.inl ⟨rfl,.inl ⟨_,s⟩⟩)),a,n,rfl,rfl,s,λq x=>?_⟩;have al:Al F F H (L2.upd H q (iE q a)):=Al.new0 x;have M:a≠q:=by lia
   exact⟨q,a,n,k,rfl,upd_same,by rw[bi M];trivial,QY A l,h F S _ (o.al al) al.grow _ rfl⟩
noncomputable def xC(X:Cx)(E:XK)(m:List aB)(d:ad (PO×List cb)):Prop :=
 ∀F S i f H Q,aX X.K F S i f H->Ok X.K E f F S H (d i) (λp _ h n g=>∀a l j,fe X.K g h p.1 a l->(∀b,l b->H b=ac/\¬h b/\¬U n b/\∃o,g b=aa o/\eD o)->jb X.K (f++[aa (.ref a)]) h g p.2 j->Q j g)->pr X m f H Q
theorem jb.app{K:ay}{H:Hp}(a:St):∀{l:List cb}{j:List V},jb K g F H l j->jb K (g++a) F H l j
 |[],_,h=>h
 |.inl _::_,_,⟨v,r,e,f,d⟩=>⟨v,r,e,f,d.app a⟩
 |.inr i::_,_,⟨v,r,e,f,d⟩=>⟨v,r,e,by rw[jG (c_.mp f).1];trivial,d.app a⟩
theorem fe.stay{K:ay}{F i:ae->Prop}{H h:Hp}{j:PO}{a:ae}{d:ae->Prop}(q:fe K H F j a d)(g:bv O l F i H h)(fit:Fit O F H)(f:∀b,d b->¬F b/\¬O b/\∃o,H b=aa o/\eD o):fe K h i j a d/\∀b,d b->¬i b/\¬l b/\∃o,h b=aa o/\eD o:=by refine⟨q.mono (λ_ _ z=>z.grow g fit) (λ_ _ z=>z.grow g fit) λb o z w=>(g.stay w (f b z).2.1 (f b z).1).1,λb z=>?_⟩;obtain⟨v,u,o,s,r⟩:=f b z;obtain⟨p,n,m⟩:=g.stay s u v;exact⟨n,m,o,p,r⟩
variable{dn:ad PO}{B:ad (List cb)}{A:ad (PO×List cb)}
noncomputable def gN(dn:ad PO)(B:ad (List cb)):ad (PO×List cb):=λf=>(dn f).bind λg d=>(B d).bind λh a=>.ok (g,.inr a.length::h) a
theorem Nu(w:DN X E e dn)(v:DG X E m B)(u:k7 e=am:=by rfl):xC X E (e::m) (gN dn B):=λF S q i H Q r h=>by refine pF (fz bF g8 (iP u)) (w F S q i H _ r ((Ok.bind h).imp λT d P L N n W y a I s o=>?_));refine v P L d i N _ n ((Ok.bind y).imp λY p O J M l C x j D=>?_);obtain⟨f,g⟩:=s.stay C n.fit λb z=>(o b z).2;refine x O J M l (bv.refl ..) a I (.ref a::j) f (λb z=>⟨(o b z).1,g b z⟩) ⟨.ref a,j,rfl,?_,D.app _⟩;rw[l.len,vF (bc _),C5];rfl
noncomputable def si(d:ad PV)(A:ad (PO×List cb)):ad (PO×List cb):=λg=>(d g).bind λx f=>(A f).bind λp a=>.ok (p.1,.inl x::p.2) a
theorem Et(y:DE X E e de)(w:xC X E m A)(u:k7 e=am:=by rfl):xC X E (e::m) (si de A):=λF S l f H Q q h=>by refine pF (fz bF g8 (iP u)) (y F S l f H _ q ((Ok.bind h).imp λx d Y O T g J D v o=>?_));refine w Y O d f T _ g ((Ok.bind D).imp λp j W N P r I C a M n s i L=>?_);exact C W N P r (bv.refl ..) a M _ s (λb z=>⟨oA J (i b z).1,(i b z).2⟩) ⟨v,n,rfl,o.grow I g.fit,L⟩
theorem aX.push{K:ay}{d:aj}{u:St}{H:Hp}{w:PO}{a:ae}{h:ae->Prop}(r:aX K F S d u H)(D:fe K H F w a h)(x:∀b,h b->¬F b/\¬U S b/\∃o,H b=aa o/\eD o):aX K F (λj b=>S j b\/(j=d.length/\h b)) (d++[.own w]) (u++[aa (.ref a)]) H:=by
 have lt:∀j b,S j b->j<d.length:=λj b z=>by obtain⟨⟨p,q⟩,_⟩:=r.foot j b z;exact(c_.mp q).1
 refine⟨by simp[r.len],r.ex,λj pv q=>?_,λj p q=>?_,λj b z=>?_,λj k b g f=>?_⟩
 .by_cases s:j<d.length
  .rw[jG s]at q;obtain⟨v,y,l⟩:=r.val j pv q;exact⟨v,by rw[jG (by rw[<-r.len];trivial)];trivial,l⟩
  .rw[vF ∅]at q;cases i:j-d.length with
   |zero=>rw[i]at q;simp at q
   |succ n=>rw[i]at q;trivial
 .by_cases s:j<d.length
  .rw[jG s]at q;obtain⟨v,y,l⟩:=r.own j p q;refine⟨v,by rw[jG (by rw[<-r.len];trivial)];trivial,?_⟩;have:(λb=>S j b\/(j=d.length/\h b))=S j:=by funext b;exact propext ⟨λz=>z.elim id λz=>absurd z.1 (dE s),.inl⟩
   rw[this];trivial
  .rw[vF ∅]at q;cases i:j-d.length with
   |zero=>
    rw[i]at q;simp at q;subst q;have C:j=d.length:=∅
    subst C;refine⟨a,by rw[r.len,vF (bc _),C5];rfl,?_⟩;have:(λb=>S d.length b\/(d.length=d.length/\h b))=h:=by
     grind
    rw[this];trivial
   |succ n=>rw[i]at q;trivial
 .rcases z with z|⟨rfl,z⟩
  .obtain⟨⟨p,q⟩,l⟩:=r.foot j b z;exact⟨⟨p,by rw[jG (lt j b z)];exact q⟩,l⟩
  simp_all
 .rcases g with g|⟨rfl,g⟩ <;> rcases f with f|⟨rfl,f⟩
  .exact r.dist j k b g f
  .exact absurd ⟨j,g⟩ (x b f).2.1
  .exact absurd ⟨k,f⟩ (x b g).2.1
  rfl
theorem aX.pop{K:ay}{a:aj}{l:Slot}{f:St}{u:Option V}{H:Hp}(r:aX K F S (a++[l]) (f++[u]) H):aX K F (λj b=>S j b/\j<a.length) a f H:=by
 have len:a.length=f.length:=by have:=r.len;simpa using this
 refine⟨len,r.ex,λj pv q=>?_,λj p q=>?_,λj b z=>?_,λj k b i h=>r.dist j k b i.1 h.1⟩
 .have n:=(c_.mp q).1;obtain⟨v,g,d⟩:=r.val j pv (by grind);exact⟨v,by rw[jG (by rw[<-len];trivial)]at g;trivial,d⟩
 .have n:=(c_.mp q).1;obtain⟨v,g,d⟩:=r.own j p (by grind);refine⟨v,by rw[jG (by rw[<-len];trivial)]at g;trivial,?_⟩;simp_all
 .obtain⟨⟨p,q⟩,d⟩:=r.foot j b z.1;exact⟨⟨p,by rw[jG z.2]at q;exact q⟩,d⟩
noncomputable def Gc{d:Type}:R d->R d
 |.ok s a=>.ok s a.dropLast
 |.er c a=>.er c a.dropLast
 |.no=>.no
noncomputable def uj(g:ad Slot)(A:ad (PO×List cb)):ad Slot:=λd=>(A d).bind λp a=>(aD (if(cg p.2).Nodup then c8 (a++[.own p.1]) p.2 else ac) a).bind λf a=>Gc (dY (a++[.own p.1]) p.2 (g f))
theorem Ef{a:aj}(h:a.length=n+1):∃l x,a=l++[x]/\l.length=n:=by refine⟨a.dropLast,a.getLast (by grind),(List.dropLast_concat_getLast _).symm,by rw[JB,h];rfl⟩
theorem bv.pushed{K:ay}{h:Nat->ae->Prop}{d H l:Hp}{n:Nat}{f:ae->Prop}(g:bv (U λj b=>S j b\/(j=n/\f b)) (U h) F r H l){p:ae->Prop}{i:Nat->ae->Prop}(a:bv (U i) (U S) p F d H)(s:∀b,f b->d b=ac):bv (U i) (U λj b=>h j b/\j<n) p r d l where
 fro:=λb z=>g.fro b (a.fro b z)
 keep:=λb o q no=>g.keep b o (a.keep b o q no) λ⟨j,z⟩=>by
  rcases z with z|⟨_,z⟩
  .rcases a.onew b ⟨j,z⟩with w|w
   all_goals lia
  grind
 there:=λb o q=>let ⟨o',q'⟩:=a.there b o q;g.there b o' q'
 fnew:=λb z=>by
  rcases g.fnew b z with w|w|⟨j,w|⟨_,w⟩⟩
  .exact a.fnew b w
  .exact .inr (.inl (oA a w))
  .exact .inr ((a.onew b ⟨j,w⟩).symm)
  simp_all
 onew:=λb ⟨j,z,_⟩=>by
  rcases g.onew b ⟨j,z⟩with⟨k,w|⟨_,w⟩⟩|w
  .exact a.onew b ⟨k,w⟩
  .exact .inr (s b w)
  .exact .inr (oA a w)
theorem RS(c:k9 D X.prog X.w X.K X.mg X.base x k C (eN X.K g))(hr:fg k X.A)(hx:pP D X E)(ha:xC X E (e::m) A)(hg:Gl X x:=by rfl)(hd:ap x:=by decide) (h1:aK (e::m) X.env=(am,aQ e X.env)::aK m X.env:=by rfl) (h2:(cx t (aK m X.env)).any (·.1)=am:=by rfl):DR X E (.Call (.Name x p) (e::m) [] t) (uj g A):=λF S ε T H Q rl h=>by
 obtain⟨f,fd,hm,Fn,hb,hk⟩:=c.ex;refine bU (Fm Fn hr hg hm hk hb .nil hx g8 hd h1 h2) (ha F S ε T H _ rl ?_);unfold uj at h;cases ed:A ε with
 |no=>rw[ed]at h;trivial
 |er cv d=>rw[ed]at h;exact h
 |ok pa d=>
  obtain⟨O,q⟩:=pa;rw[ed]at h;simp only[R.bind_ok]at h;intro F1 S1 H1 r1 g1 a Sa vs ow Y P;dsimp only at h P ow;have N:=r1.push ow λb z=>(Y b z).2;by_cases J:(cg q).Nodup
  .rw[if_pos J]at h;cases m:c8 (d++[.own O]) q with
   |none=>rw[m]at h;trivial
   |some ss=>
    rw[m]at h;simp only[ci,R.bind_ok]at h;rw[gJ];refine⟨F1,l5 q _,ss,N.cal P m J,?_⟩;have len:∀n,(eF (d++[.own O]) q n).length=d.length+1:=λn=>by rw[xq];simp
    cases eg:g ss with
    |no=>rw[eg]at h;trivial
    |er cv n=>
     rw[eg]at h;intro y F' S' H' W g';unfold dY at h;dsimp only at h;by_cases u:eT q n=ai
     .rw[if_pos u]at h;obtain⟨S2,I,g2,_⟩:=N.called P m J W g' (λ_ z=>z) (nh u);obtain⟨l,sl,M,Z⟩:=Ef (len n);rw[M]at I;have h:Ok X.K E T F S H (R.er cv (eF (d++[.own O]) q n).dropLast:R Slot) _:=h;rw[M,JC]at h;have L:=bv.pushed (K:=X.K) g2 g1 λb z=>(Y b z).1;rw[<-Z]at L;exact h y F' _ H' I.pop L
     .rw[if_neg u]at h;trivial
    |ok s n=>
     rw[eg]at h;intro v F' S' H' Sr W g' rv r fr;unfold dY at h;dsimp only at h;by_cases u:eT q n=ai
     .rw[if_pos u]at h;obtain⟨S2,I,g2,u2⟩:=N.called P m J W g' (λ_ z=>.inl z) (nh u);obtain⟨l,sl,M,Z⟩:=Ef (len n);rw[M]at I;have h:Ok X.K E T F S H (R.ok s (eF (d++[.own O]) q n).dropLast:R Slot) _:=h;rw[M,JC]at h;have L:=bv.pushed (K:=X.K) g2 g1 λb z=>(Y b z).1;rw[<-Z]at L;refine h F' _ H' I.pop L v Sr rv λb z=>⟨oA g1 (fr b z),(r b z).1,λ⟨j,w,_⟩=>?_,(r b z).2.2⟩
      rcases u2 b ⟨j,w⟩with w|⟨i,w⟩
      .exact(r b z).2.1 w
      .obtain⟨_,_,o,y1,_⟩:=N.foot i b w
       grind
     .rw[if_neg u]at h;trivial
  .rw[if_neg J]at h;trivial
end
section
variable{X:Cx}{e b c:aB}{de u d:ad PV}{g p:Pos}
noncomputable def Q3(X:Cx)(r:List V->Hp->VK->Prop):List V->Hp->VK->Prop:=λxs H Q=>∃(p:ae) (f:List Tx),xs=[.ref p]/\b_ X.K H p (bH f)/\(bK f).length<4000/\∀a,H a=ac->r [.ref a] (upd H a (kP X a (bK f))) Q
noncomputable def NR(K:ay)(r:V->List V->Hp->VK->Prop)(h:TE)(t:TA):TE:=λa H Q=>h a H λx f=>(∃p xs,x=.ref p/\f p=aa (.tup xs))/\t a f λxs i=>r x xs i Q
theorem K8{A:String}{D:TE}{t:TA}{w f:Pos}{es:List aB}(y:PySem.Slot "tuple" i A)(W:typeOf (.builtin A)=pure (.type "method_descriptor"))(hm:yL X A r)(ho:PE X o D)(ha:PA X (e::es) t)(jq:i8 o i X.env (aQ o X.env)=aQ o X.env:=by rfl)(M:((cx f (aK (e::es) X.env)).all (λx=>!x.1)&&(mh f (mi [] X.env)).all (λx=>x.1.isSome)&&decide ((e::es).length+([]:List gk).length+(if([]:List gk).isEmpty then 0 else 1)<30))=ai:=by rfl)(jr:(w.endLine == f.line)=ai:=by rfl) (hs:aK (e::es) X.env=(am,aQ e X.env)::aK es X.env:=by rfl) (UG:(cx f (aK es X.env)).any (·.1)=am:=by rfl):PE X (.Call (.Attribute o i w) (e::es) [] f) (NR X.K r D t):=by
 intro C s B H Q I h;refine wpAny_Call_method_late jq M jr rfl (aR (ho C s B H _ I h) λv F h'=>?_);obtain⟨x,L,J,T,⟨p,xs,rfl,hp⟩,Z⟩:=h';cases T;obtain⟨_,its,_,⟨ob,e1,e2,_⟩,o2,e3,e4⟩:=(show cf X.prog X.w L F.heap p (.tup xs)from J.hok p _ hp)
 refine⟨"tuple",A,PySem.F.plainAttrs_tuple,y,W,⟨ob,e1,e2⟩,λa z=>?_,?_⟩
 .grind
 have G:=ha f C F B L _ J Z;rw[hs]at G ⊢;refine Cz (by trivial) (CA ?_);exact aR G λO P h2=>by obtain⟨N,H2,I2,S,Y⟩:=h2;exact hm C P B H2 (.ref p) N (.ref p) O Q I2 rfl S Y
noncomputable def rP(f:List PV->PV->Option PV)(d de:ad PV):ad PV:=λε=>(d ε).bind λx h=>match x with
 |.tup xs=>(de h).bind λk a=>aD (f xs k) a
 |_=>.no
theorem GQ{f a:Pos}(Y:DE X E o d)(he:DE X E e de)(W:i8 o "count" X.env (aQ o X.env)=aQ o X.env:=by rfl)(T:(f.endLine == a.line)=ai:=by rfl) (cM:k7 e=am:=by rfl):DE X E (.Call (.Attribute o "count" f) [e] [] a) (rP lY d de):=λF S L B H Q O h=>by
 have A:=iP (es:=[]) (env:=X.env) cM;refine bU (K8 PySem.F.slot_tuple_count PySem.F.type_tuple_count Ko bF (fz bF gh A) W (by rw[A];rfl) T A rfl) (Y F S L B H _ O ((Ok.bind h).imp λx r F1 S1 H1 t g1 G v M=>?_));split at G
 .rename_i xs;obtain⟨p,C,rfl,D,N⟩:=M;refine⟨⟨p,C,rfl,D⟩,he F1 S1 r B H1 _ t ((Ok.bind G).imp λk J F2 S2 H2 P I q w s=>?_)⟩;unfold lY at q;cases i:dv k with
  |none=>rw[i]at q;trivial
  |some z=>
   cases y:iX xs with
   |none=>rw[i,y]at q;trivial
   |some ws=>rw[i,y]at q;obtain⟨rfl,Z⟩:=ut (N.grow I t.fit) y;rw[jv s i];exact⟨p,C,z,rfl,rfl,cC.of (I.imm t.fit D id),rm i,Z,q F2 S2 H2 P (bv.refl ..) _ rfl⟩
 trivial
theorem Md(i:Nat)(A:bZ X (df s) r)(z:P2 X.K r f)(D:DE X E b l)(B:nI s b=am)(G:X.N[i]?=aa y:=by rfl)(J:dr X.env.scope y:=by eq_refl)(C:ap y:=by decide) (L:aO y:=by decide):DT X E (.Compare (.Name y t) [s] [b] g) (dB (rq f i l)):=λF S O N H Q v h=>by obtain⟨a,I,w⟩:=SA (Q:=λx M=>∃k,x=.bl k/\Q k M) z D v (pw h);exact qf (FT A (eJ G J C L) bF B) ⟨_,I,w⟩
end
section
variable{X:Cx}
theorem Ke:d_ "min"=aa (.builtin "min"):=by decide +kernel
noncomputable def Hc:List (aI×PV)->Option (List Tx)
 |[]=>aa []
 | (.inr k,_)::r=>(Hc r).map (k.cps.toList::·)
 |_=>ac
noncomputable def N6(b:List (aI×PV)):Option PO:=(Hc b).bind λa=>if a.length<64/\(∀x∈a,x.length<=bw)then aa (.lst (ak (aN a)))else ac
noncomputable def TM(i:Nat):ad PO:=λa=>(aD (cW a i) a).bind λb a=>aD (N6 b) a
end
end Pu
namespace L2
noncomputable def kO(κ:KeyKind)(p:Keyed):κ.α:=(κ.keyOf p.1).getD κ.dflt
noncomputable def xl(b:KeyKind)(p:Keyed):Prop:=∃a,b.keyOf p.1=aa a
theorem xl.k(h:xl κ p):κ.keyOf p.1=aa (kO κ p):=by obtain⟨a,e⟩:=h;unfold kO;rw[e];rfl
noncomputable def me(κ:KeyKind)(kz:im)(c:aS)(w:aJ)(A:aY)(s:ao):Prop :=
 ∀(E:ah->ao->Prop) (x y:ah) (a b:κ.α) {Q:Bool->ao->Prop},κ.keyOf x=aa a->κ.keyOf y=aa b->Q (κ.blt a b) s->au (ax c w) A (keyLt' kz x y) Q E s
theorem OneLt.ok{κ:KeyKind}(f:κ.OneLt):me κ oneType' prog w A s:=λE x y a b _ d c h=>by rw[keyLt'_oneType];exact f prog w A E s x y a b d c h
structure SB(kz:im)(st:et):Prop where
 kind:kindOf st=kz
 failed:failedOf st=ac
section
variable{b:KeyKind}
theorem TW(j:me b c a w A s){d:et}{Q:Option Bool->et->Prop}(i:SB c d)(g:xl b x)(f:xl b y)(h:Q (aa (b.blt (kO b x) (kO b y))) d):wpS (ax a w) A E s (lt' x y) Q d:=by rw[lt'_eq];refine cT (wpS_get ?_);rw[i.kind];exact cT (wpS_lift (wpAny_attempt (j _ x.1 y.1 _ _ g.k f.k ⟨rfl,eV h⟩)))
theorem Fc{f:et}{d:Array Keyed}(g:i<d.size)(h:Q d[i] f):wpS (ax a w) A E s (elem' d i) Q f:=by rw[elem'_eq,getElem?_pos d i g];exact eV h
end
section
variable{c:KeyKind}{f:im}
noncomputable def sM(c:KeyKind)(x y:Keyed):Prop:=c.kle (kO c x) (kO c y)
structure MS(c:KeyKind)(T o ra rb:List Keyed):Prop where
 perm:(o++(ra++rb)).Perm T
 so:o.Pairwise (sM c)
 sa:ra.Pairwise (sM c)
 sb:rb.Pairwise (sM c)
 oa:∀x∈o,∀y∈ra,sM c x y
 ob:∀x∈o,∀y∈rb,sM c x y
end
section
theorem uS{c:Prop}[Decidable c]{t e:StateT d Sem g}{Q:g->d->Prop}{f:d}(i:c->wpS M A E s t Q f)(h:¬c->wpS M A E s e Q f):wpS M A E s (if c then t else e) Q f:=by
 split
 .exact i ‹_›
 .exact h ‹_›
end
section
variable{d:KeyKind}{h:im}
theorem OO(a:Array Keyed)(n:Nat):(a.extract 0 n).toList=a.toList.take n:=by simp
end
section
variable{κ:KeyKind}{kz:im}
noncomputable def Run(κ:KeyKind)(a:Array Keyed)(b n:Nat):Prop:=∀i j x y,b<=i->i<=j->j<b+n->a[i]?=aa x->a[j]?=aa y->sM κ x y
structure Wr(a a':Array Keyed)(lo n:Nat):Prop where
 perm:a'.toList.Perm a.toList
 size:a'.size=a.size
 out:∀k,k<lo\/lo+n<=k->a'[k]?=a[k]?
end
section
theorem Wr.same{lo:Nat}:Wr a a lo n:=⟨vN _,rfl,λ_ _=>rfl⟩
end
section
variable{κ:KeyKind}{kz:im}
theorem Aj(h:a[i]?=aa x):KK κ a i=kO κ x:=by unfold KK kO;rw[h]
theorem sD{a:Array Keyed}(h:i<a.size):KK κ a i=kO κ a[i]:=Aj (getElem?_pos _ _ _)
noncomputable def gU(κ:KeyKind)(a:Array Keyed)(lo n:Nat):Prop:=∀i j,lo<=i->i<=j->j<lo+n->κ.kle (KK κ a i) (KK κ a j)
noncomputable def oq(κ:KeyKind)(a:Array Keyed)(lo n:Nat):Prop:=∀i j,lo<=i->i<=j->j<lo+n->κ.kle (KK κ a j) (KK κ a i)
theorem gU.run{b:Nat}(h:gU κ a b n):Run κ a b n:=by intro i j x y l g f d c;have:=h i j l g f;rw[Aj d,Aj c]at this;trivial
theorem Wr.trans{d:Nat}(g:Wr a b d n)(f:Wr b c d n):Wr a c d n :=⟨f.perm.trans g.perm,f.size.trans g.size,λk h=>(f.out k h).trans (g.out k h)⟩
theorem Wr.mono{d f:Nat}(h:Wr a b d n)(j:c<=d)(i:d+n<=c+f):Wr a b c f :=⟨h.perm,h.size,λk g=>h.out k ∅⟩
theorem KB{a:Array Keyed}(b:j<=a.size)(c:i<=j):Wr a (mirror a i j ((j-i) / 2)) i (j-i) :=⟨C7.mp (mirror_perm _ _ _ _),mirror_size _ _ _ _,λk d=>by rw[getElem?_mirror_all b,if_neg ∅]⟩
theorem O6{a:Array Keyed}(c:b<a.size)(f:d<=b):Wr a (bubble a b d) (b-d) (d+1) :=⟨C7.mp (bubble_perm _ _ _),bubble_size _ _ _,λk g=>by rw[getElem?_bubble c d f,if_neg ∅,if_neg ∅]⟩
noncomputable def AllK(κ:KeyKind)(a:Array Keyed):Prop:=∀i (b:i<a.size),xl κ a[i]
theorem AllK.of{b:Array Keyed}(h:AllK κ a)(p:b.toList.Perm a.toList):AllK κ b:=by intro i f;have c:b[i]∈a.toList:=p.mem_iff.mp (by simp);obtain⟨j,d,e⟩:=vR c;rw[<-e];simpa using h j (by trivial)
end
section
theorem pB(m:me κ f d w A s){a:et}(l:SB f a)(g:AllK κ (arrOf a)){Q:Option Bool->et->Prop}(c:i<(arrOf a).size)(b:j<(arrOf a).size)(h:Q (aa (κ.blt (KK κ (arrOf a) i) (KK κ (arrOf a) j))) a):wpS (ax d w) A E s (ltAt' i j) Q a:=by rw[sD c,sD b]at h;rw[ltAt'_eq];refine cT (wpS_get ?_);exact cT (Fc c (cT (Fc b (TW m l (g i c) (g j b) h))))
theorem uV{b a:et}{lo n i j:Nat}{Q:Unit->et->Prop}(l:SB f a)(p:dH a=dH b)(g:Wr (arrOf b) (arrOf a) lo n)(o:i<=j)(r:j<=(arrOf b).size)(q:lo<=i)(t:j<=lo+n)(h:∀c,SB f c->dH c=dH b->Wr (arrOf b) (arrOf c) lo n->(∀k,KK κ (arrOf c) k=if i<=k/\k<j then KK κ (arrOf a) (i+j-1-k)else KK κ (arrOf a) k)->Q () c):wpS (ax d w) A E s (reverseSlice' i j) Q a:=by
 have m:j<=(arrOf a).size:=by rw[g.size];trivial
 exact wpS_reverse (h _ ⟨l.kind,l.failed⟩ p (g.trans ((KB m o).mono q ⋯)) λk=>KK_mirror m k)
theorem Um[Decidable c]{i:StateT et Sem h}{Q:h->et->Prop}{g:et}{J:et->Prop}(l:¬c->J g)(a:∀b,J b->wpS (ax d w) A E s i Q b)(m:c->(∀b,J b->wpS (ax d w) A E s i Q b)->wpS (ax d w) A E s j Q g):wpS (ax d w) A E s (if c then j else i) Q g :=uS (λe=>m e a) λe=>a g (l e)
theorem AX{lo:Nat}(b:gU κ a lo x)(h:1<=x)(e:κ.kle (KK κ a (lo+x-1)) (KK κ a (lo+x))):gU κ a lo (x+1):=λi j c n o=>by
 by_cases g:j<lo+x
 .exact b i j c n g
 .have m:j=lo+x:=∅
  subst m;by_cases l:i=lo+x
  .subst l;exact o6 _
  .exact vS (b i (lo+x-1) c ∅ ∅) e
theorem Ed{lo:Nat}(b:oq κ a lo x)(h:1<=x)(e:κ.kle (KK κ a (lo+x)) (KK κ a (lo+x-1))):oq κ a lo (x+1):=λi j c n o=>by
 by_cases g:j<lo+x
 .exact b i j c n g
 .have m:j=lo+x:=∅
  subst m;by_cases l:i=lo+x
  .subst l;exact o6 _
  .exact vS e (b i (lo+x-1) c ∅ ∅)
theorem On{lo:Nat}(c:∀i,lo+x-(b+1)<=i->i<lo+x->KK κ a i=KK κ a (lo+x-1))(g:KK κ a (lo+x)=KK κ a (lo+x-1)):∀i,lo+(x+1)-(b+1+1)<=i->i<lo+(x+1)->KK κ a i=KK κ a (lo+(x+1)-1):=λi j h=>by
 grind
theorem E4(c:∀k,KK κ b k=if i<=k/\k<j then KK κ a (i+j-1-k)else KK κ a k)(g:∀k,i<=k->k<j->KK κ a k=KK κ a n):∀k,KK κ b k=KK κ a k:=λk=>by
 grind
theorem LU(P:me κ f d w A s){t:et}(O:SB f t)(S:AllK κ (arrOf t)){lo b:Nat}(h1:1<=b)(hsz:lo+b<=(arrOf t).size){Q:Option Nat->et->Prop}(h:∀n o,SB f o->dH o=dH t->Wr (arrOf t) (arrOf o) lo b->1<=n->n<=b->gU κ (arrOf o) lo n->Q (aa n) o):wpS (ax d w) A E s (countRun' lo b) Q t:=by
 have one:gU κ (arrOf t) lo 1:=λi j r y D=>by
  have:i=j:=∅
  subst this;exact o6 _
 have go:∀{p:et},Wr (arrOf t) (arrOf p) lo b->(arrOf p).size=(arrOf t).size:=λw=>w.size;unfold countRun';refine cT (qF (qG (I:=λx c g=>g=t/\c=(ac,x)/\gU κ (arrOf t) lo x) (Q:=λc g=>g=t/\∃n,c=(ac,n)/\1<=n/\n<=b/\gU κ (arrOf t) lo n/\(n=b\/κ.klt (KK κ (arrOf t) (lo+n)) (KK κ (arrOf t) (lo+n-1)))) ?_ ?_ ?_) ?_)
 .rintro x c g n9 mH ⟨rfl,rfl,v⟩;dsimp only;refine cT (pB P O S ∅ ∅ ?_);cases e:κ.blt (KK κ (arrOf g) (lo+x)) (KK κ (arrOf g) (lo+x-1))with
  |true=>exact eV ⟨rfl,x,rfl,nofun,∅,v,.inr e⟩
  |false=>exact eV ⟨rfl,rfl,AX v ⋯ e⟩
 .simp_all
 .trivial
 rintro c o ⟨rfl,n,rfl,n1,n2,v,hn⟩;dsimp only;refine uS (λe1=>eV (h n o O rfl Wr.same n1 n2 v)) λe1=>?_;have e1':n≠b:= ~~~e1
 replace hn:κ.klt (KK κ (arrOf o) (lo+n)) (KK κ (arrOf o) (lo+n-1)):=hn.resolve_left e1';refine Um (J:=λC=>SB f C/\dH C=dH o/\Wr (arrOf o) (arrOf C) lo b/\oq κ (arrOf C) lo (n+1)) (λen=>⟨O,rfl,Wr.same,λi j r y D=>?_⟩) (λC ⟨qY,iq,wx,hD⟩=>?_) λen key=>?_
 .have en':n=1:=∅
  by_cases hi:i=j
  .subst hi;exact o6 _
  .have e1:i=lo+n-1:=∅
   have e2:j=lo+n:=∅
   rw[e1,e2];exact C8 hn
 .refine cT (wpS_lift (qD ⟨rfl,?_⟩));refine cT (qF (qG (I:=λx c l=>∃a,c=(ac,x,a)/\SB f l/\dH l=dH o/\Wr (arrOf o) (arrOf l) lo b/\oq κ (arrOf l) lo x/\a+1<=x/\(∀i,lo+x-(a+1)<=i->i<lo+x->KK κ (arrOf l) i=KK κ (arrOf l) (lo+x-1))) (Q:=λc l=>∃m a,c=(ac,m,a)/\SB f l/\dH l=dH o/\Wr (arrOf o) (arrOf l) lo b/\1<=m/\m<=b/\oq κ (arrOf l) lo m/\a+1<=m/\(∀i,lo+m-(a+1)<=i->i<lo+m->KK κ (arrOf l) i=KK κ (arrOf l) (lo+m-1))) ?_ ?_ ?_) ?_)
  .rintro x c l n9 mH ⟨a,rfl,B,F,z,G,hq,H⟩;have sz3:=z.size;dsimp only;refine cT (pB P B (S.of z.perm) ∅ ∅ ?_);cases e3:κ.blt (KK κ (arrOf l) (lo+x)) (KK κ (arrOf l) (lo+x-1))with
   |true=>
    have qL:oq κ (arrOf l) lo (x+1):=Ed G ∅ (C8 e3);dsimp only;rw[if_pos rfl];refine uS (λDB=>?_) λDB=>?_
    .refine cT (uV (κ:=κ) (lo:=lo) (n:=b) B F z (by simp) ∅ ∅ ∅ λqT W T Y DC=>?_);have v9:=E4 DC H;exact eV ⟨0,rfl,W,T,Y,λi j r y D=>by rw[v9,v9];exact qL i j r y D,∅,λi r y=>by congr 1;lia⟩
    .exact eV ⟨0,rfl,B,F,z,qL,∅,λi r y=>by congr 1;lia⟩
   |false=>
    dsimp only;rw[if_neg (by simp)];refine cT (pB P B (S.of z.perm) ∅ ∅ ?_);cases e4:κ.blt (KK κ (arrOf l) (lo+x-1)) (KK κ (arrOf l) (lo+x))with
    |true=>exact eV ⟨x,a,rfl,B,F,z,∅,∅,G,hq,H⟩
    |false=>have ex:KK κ (arrOf l) (lo+x)=KK κ (arrOf l) (lo+x-1):=KeyOrd.kle_antisymm e4 e3;exact eV ⟨a+1,rfl,B,F,z,Ed G ∅ (by trivial),∅,On H ex⟩
  .rintro c l ⟨a,rfl,B,F,z,G,hq,H⟩;rw[show max (n+1) b=b by lia]at G hq H ⊢;exact⟨b,a,rfl,B,F,z,nofun,by simp,G,hq,H⟩
  .grind
  rintro c l ⟨m,a,rfl,B,F,z,m1,m2,G,hq,H⟩;dsimp only;refine uS (λDB=>?_) λDB=>?_
  .refine cT (uV (κ:=κ) (lo:=lo) (n:=b) B F z (by simp) ∅ ∅ ⋯ λqT W T Y DC=>?_);have v9:=E4 DC H;have N:oq κ (arrOf qT) lo m:=λi j r y D=>by rw[v9,v9];exact G i j r y D
   refine cT (uV (κ:=κ) (lo:=lo) (n:=b) W T Y (by simp) ∅ (by simp) ⋯ λp X M u Z=>?_);have hr5:gU κ (arrOf p) lo m:=λi j r y D=>by rw[Z,Z,if_pos ⟨r,∅⟩,if_pos ⟨∅,D⟩];exact N _ _ nofun nofun nofun
   have sz5:=u.size;refine cT (qF (qG (I:=λx c g=>g=p/\c=(ac,x)/\gU κ (arrOf p) lo x) (Q:=λc g=>g=p/\∃n,c=(ac,n)/\1<=n/\n<=b/\gU κ (arrOf p) lo n/\(n=b\/κ.klt (KK κ (arrOf p) (lo+n)) (KK κ (arrOf p) (lo+n-1)))) ?_ ?_ ?_) ?_)
   .rintro x c g n9 mH ⟨rfl,rfl,v⟩;dsimp only;refine cT (pB P X (S.of u.perm) ∅ ∅ ?_);cases e:κ.blt (KK κ (arrOf g) (lo+x)) (KK κ (arrOf g) (lo+x-1))with
    |true=>exact eV ⟨rfl,x,rfl,∅,∅,v,.inr e⟩
    |false=>exact eV ⟨rfl,rfl,AX v ∅ e⟩
   .simp_all
   .trivial
   rintro c g ⟨rfl,q,rfl,q1,q2,L,_⟩;exact eV (h q g X M u q1 q2 L)
  .have W:=B;have T:=F;have Y:=z;have N:=G;refine cT (uV (κ:=κ) (lo:=lo) (n:=b) W T Y (by simp) ∅ (by simp) ⋯ λp X M u Z=>?_);have hr5:gU κ (arrOf p) lo m:=λi j r y D=>by rw[Z,Z,if_pos ⟨r,∅⟩,if_pos ⟨∅,D⟩];exact N _ _ nofun nofun nofun
   have sz5:=u.size;refine cT (qF (qG (I:=λx c g=>g=p/\c=(ac,x)/\gU κ (arrOf p) lo x) (Q:=λc g=>g=p/\∃n,c=(ac,n)/\1<=n/\n<=b/\gU κ (arrOf p) lo n/\(n=b\/κ.klt (KK κ (arrOf p) (lo+n)) (KK κ (arrOf p) (lo+n-1)))) ?_ ?_ ?_) ?_)
   .rintro x c g n9 mH ⟨rfl,rfl,v⟩;dsimp only;refine cT (pB P X (S.of u.perm) ∅ ∅ ?_);cases e:κ.blt (KK κ (arrOf g) (lo+x)) (KK κ (arrOf g) (lo+x-1))with
    |true=>exact eV ⟨rfl,x,rfl,∅,∅,v,.inr e⟩
    |false=>exact eV ⟨rfl,rfl,AX v ∅ e⟩
   .simp_all
   .simp_all
   rintro c g ⟨rfl,q,rfl,q1,q2,L,_⟩;exact eV (h q g X M u q1 q2 L)
 .refine cT (pB P O S nofun nofun ?_);cases e2:κ.blt (KK κ (arrOf o) lo) (KK κ (arrOf o) (lo+n-1))with
  |true=>exact eV (h n o O rfl Wr.same n1 n2 v)
  |false=>
   dsimp only;rw[if_neg (by simp)];have iL:∀i,lo<=i->i<lo+n->KK κ (arrOf o) i=KK κ (arrOf o) lo:=λi r y=>KeyOrd.kle_antisymm (vS (v i (lo+n-1) r nofun nofun) e2) (v lo i (bc _) r y);refine cT (uV (κ:=κ) (lo:=lo) (n:=b) O rfl Wr.same (by simp) nofun (by simp) nofun λC qY iq wx t9=>?_);have hD:oq κ (arrOf C) lo (n+1):=by
    have hv:∀i,lo<=i->i<lo+n->KK κ (arrOf C) i=KK κ (arrOf o) lo:=λi r y=>by
     grind
    have hl:κ.klt (KK κ (arrOf C) (lo+n)) (KK κ (arrOf o) lo):=by
     grind
    intro i j r y D;by_cases hj:j<lo+n
    .rw[hv i r ∅,hv j ∅ hj];exact o6 _
    .have fJ:j=lo+n:=∅
     subst fJ;by_cases hi:i=lo+n
     .subst hi;exact o6 _
     .rw[hv i r ∅];exact C8 hl
   exact key C ⟨qY,iq,wx,hD⟩
theorem QP{c:et}{lo n a b:Nat}{Q:Unit->et->Prop}(l:SB f c)(o:dH c=dH g)(j:Wr (arrOf g) (arrOf c) lo n)(p:b<=a)(q:a<(arrOf g).size)(t:lo<=b)(r:a<lo+n)(h:∀i,SB f i->dH i=dH g->Wr (arrOf g) (arrOf i) lo n->(∀k,KK κ (arrOf i) k=if k=b then KK κ (arrOf c) a else if b<k/\k<=a then KK κ (arrOf c) (k-1)else KK κ (arrOf c) k)->Q () i):wpS (ax d w) A E s (moveDown' a b) Q c:=by
 have m:a<(arrOf c).size:=by rw[j.size];trivial
 rw[moveDown'_eq];refine wpS_modify (h _ ⟨l.kind,l.failed⟩ o (j.trans ((O6 m (show a-b<=a by simp)).mono ∅ ∅)) λk=>?_);have:=KK_bubble (κ:=κ) m (show a-b<=a by simp) k;rw[show a-(a-b)=b by lia]at this;trivial
theorem KS(P:me κ f d w A s){b:et}(O:SB f b)(S:AllK κ (arrOf b)){lo n ok:Nat}(N:ok<=n)(L:lo+n<=(arrOf b).size)(M:gU κ (arrOf b) lo ok){Q:Bool->et->Prop}(h:∀q,SB f q->dH q=dH b->Wr (arrOf b) (arrOf q) lo n->gU κ (arrOf q) lo n->Q ai q):wpS (ax d w) A E s (binarySort' lo n ok) Q b:=by
 unfold binarySort';refine cT (qF (qG (I:=λk c a=>c=(ac,())/\SB f a/\dH a=dH b/\Wr (arrOf b) (arrOf a) lo n/\gU κ (arrOf a) lo (min k n)) (Q:=λc a=>c=(ac,())/\SB f a/\dH a=dH b/\Wr (arrOf b) (arrOf a) lo n/\gU κ (arrOf a) lo n) ?_ ?_ ?_) ?_)
 .rintro k c a Y Z ⟨rfl,m,v,g,p⟩;have sz:=g.size;rw[show min k n=k by lia]at p;refine cT (qF (qG (I:=λx c o=>o=a/\∃l r,c=(ac,l,r)/\l<=r/\r<=k/\r-l<=k-x /\ (∀i,i<l->κ.kle (KK κ (arrOf a) (lo+i)) (KK κ (arrOf a) (lo+k)))/\(∀i,r<=i->i<k->κ.klt (KK κ (arrOf a) (lo+k)) (KK κ (arrOf a) (lo+i)))) (Q:=λc o=>o=a/\∃l r,c=(ac,l,r)/\l<=k /\ (∀i,i<l->κ.kle (KK κ (arrOf a) (lo+i)) (KK κ (arrOf a) (lo+k)))/\(∀i,l<=i->i<k->κ.klt (KK κ (arrOf a) (lo+k)) (KK κ (arrOf a) (lo+i)))) ?_ ?_ ?_) ?_)
  .rintro x c o _ hx ⟨rfl,l,r,rfl,X,B,W,u,t⟩;dsimp only;refine uS (λy=>?_) λy=>?_
   .have:l=r:=∅
    subst this;exact eV ⟨rfl,l,l,rfl,B,u,t⟩
   .refine cT (pB P m (S.of g.perm) ∅ ∅ ?_);cases e:κ.blt (KK κ (arrOf o) (lo+k)) (KK κ (arrOf o) (lo+(l+r) / 2))with
    |true=>exact eV ⟨rfl,l,(l+r) / 2,rfl,∅,∅,nofun,u,λi D h2=>KeyOrd.klt_of_klt_of_kle e (p _ _ (by simp) ⋯ ⋯)⟩
    |false=>exact eV ⟨rfl,(l+r) / 2+1,r,rfl,∅,nofun,nofun,λi D=>vS (p (lo+i) (lo+(l+r) / 2) (by simp) ∅ ∅) e,t⟩
  .rintro c o ⟨rfl,l,r,rfl,X,B,W,u,t⟩
   grind
  .lia
  .rintro c o ⟨rfl,l,r,rfl,B,u,t⟩;dsimp only;refine cT (QP (κ:=κ) (lo:=lo) (n:=n) m v g ⋯ ∅ (by simp) ⋯ λdj z H J C=>eV ⟨rfl,z,H,J,?_⟩);rw[show min (k+1) n=k+1 by lia];intro i j G F T;rw[C,C]
   repeat' split
   all_goals first
    | (exfalso;lia)
    |exact o6 _
    | (have:=u (i-lo) ∅;rw[show lo+(i-lo)=i by lia]at this;exact this)
    | (have:=t (j-1-lo) ∅ ∅;rw[show lo+(j-1-lo)=j-1 by lia]at this;exact C8 this)
    |exact p _ _ ∅ ∅ ∅
 .lia
 .refine⟨rfl,O,rfl,Wr.same,λi j G F T=>?_⟩;by_cases D:ok=0
  .have:i=j:=∅
   subst this;exact o6 _
  .exact M i j G F ∅
 .rintro c a ⟨rfl,m,v,g,p⟩;exact eV (h a m v g p)
end
section
variable{a:aS}{w:aJ}{A:aY}{E:ah->ao->Prop}{s:ao}{κ:KeyKind}{kz:im}
noncomputable def HD(κ:KeyKind)(kz:im)(c b:et):Prop:=SB kz b/\(arrOf b).toList.Perm (arrOf c).toList/\(dH b).size<=1/\Run κ (arrOf b) 0 (arrOf c).size
theorem HD.mk'{st b:et}{n:Nat}(h:0+n=(arrOf st).size)(k:SB kz b)(g:dH st=#[])(f:dH b=dH st)(c:Wr (arrOf st) (arrOf b) 0 n)(d:gU κ (arrOf b) 0 n)(e:Nat×Nat×Nat):HD κ kz st (setPending b ((dH b).push e)) :=⟨⟨k.kind,k.failed⟩,c.perm,by show((dH b).push e).size<=1;rw[f,g];exact bc 1,by rw[<-h,nZ];exact d.run⟩
theorem Mf(C:me κ kz a w A s){st:et}(B:SB kz st)(D:AllK κ (arrOf st))(o:dH st=#[])(W:(arrOf st).size<64)(h:∀d,SB kz d->(arrOf d).toList.Perm (arrOf st).toList->Run κ (arrOf d) 0 (arrOf st).size->Q () d):wpS (ax a w) A E s sortRuns' Q st:=by
 rw[sortRuns'_eq];refine cT (wpS_get ?_);dsimp only;obtain⟨b,r⟩:∃n,(arrOf st).size=n:=⟨_,rfl⟩
 have u:minRun' b b 0=b:=by
  cases b with
  |zero=>rfl
  |succ f=>rw[minRun'_succ,if_pos ⋯]
 simp only[r,u];refine cT (qF (qG (I:=λx c d=>(x=0/\c=(ac,0)/\d=st)\/(1<=x/\c=(ac,b)/\HD κ kz st d)) (Q:=λc d=>SB kz d/\(arrOf d).toList.Perm (arrOf st).toList/\(dH d).size<=1/\Run κ (arrOf d) 0 b/\∃n,c=(ac,n)) ?_ ?_ (.inl ⟨rfl,rfl,rfl⟩)) ?_)
 .rintro x c d _ J (⟨rfl,rfl,rfl⟩|⟨n9,rfl,hD⟩)
  .dsimp only;rw[if_neg ∅];simp only[Nat.sub_zero,Nat.min_self,nZ];refine cT (LU C B D ∅ ⋯ λm P z q p T S v=>?_);dsimp only;by_cases F:m<b
   .rw[if_pos F];refine cT (wpS_lift (qD ⟨rfl,?_⟩));refine cT (KS C z (D.of p.perm) ⋯ (by rw[p.size];simp_all) v λM G l H t=>?_);simp only[mr,fG,if_false];refine cT (wpS_get ?_);rw[show(dH M).back?=ac by rw[l,q,o];rfl];dsimp only;exact cT (wpS_modify (eV (.inr ⟨by simp,rfl,HD.mk' ⋯ G o (l.trans q) (p.trans H) t _⟩)))
   .rw[if_neg F];obtain rfl:m=b:=∅
    refine cT (wpS_get ?_);rw[show(dH P).back?=ac by rw[q,o];rfl];dsimp only;exact cT (wpS_modify (eV (.inr ⟨by simp,rfl,HD.mk' ⋯ z o q p v _⟩)))
  .dsimp only;rw[if_pos (bc _)];exact eV ⟨hD.1,hD.2.1,hD.2.2.1,r ▸ hD.2.2.2,_,rfl⟩
 .rintro c d (⟨J,rfl,rfl⟩|⟨_,rfl,hD⟩)
  .exact⟨B,.refl _,by rw[o];simp,λi j x y _ _ X=>⋯,_,rfl⟩
  .exact⟨hD.1,hD.2.1,hD.2.2.1,r ▸ hD.2.2.2,_,rfl⟩
 .rintro c d ⟨d1,d2,O,N,n,rfl⟩;dsimp only;refine cT (qF (qG (I:=λ_ c g=>g=d/\c=(ac,())) (Q:=λc g=>g=d/\c=(ac,())) ?_ (λ_ _ L=>L) ⟨rfl,rfl⟩) ?_)
  .rintro x c g _ _ ⟨rfl,rfl⟩;refine cT (wpS_get ?_);rw[if_pos O];exact eV ⟨rfl,rfl⟩
  .rintro c g ⟨rfl,rfl⟩;exact eV (h _ d1 d2 (r ▸ N))
end
theorem r_(h:n<=1000000):n<bd:=tm h (by decide)
theorem Run.sortedTo(h:Run κ a 0 n)(c:n<=a.size):SortedToK κ a n:=by intro i j b d;have:=h i j _ _ (gn _) b ⋯ (getElem?_pos a i ∅) (getElem?_pos a j ∅);rw[sD (show i<a.size by lia),sD (show j<a.size by ac_rfl)];trivial
theorem KeysOf.all(h:KeysOf κ a):AllK κ a:=λi b=>h _ (by simp)
section
variable{s:ao}
theorem EU{c:List ah}(p:s.heap.get? a=aa (eu "list" c.toArray n))(I:KeysOf κ (j0 c))(y:c.length<64)(B:∀r:aA,(∀b o,b≠a->s.heap.get? b=aa o->r.get? b=aa o)->2<=c.length->me κ kz P w A {s with heap:=r}/\∀{E:ah->ao->Prop}{Q:im->ao->Prop},Q kz {s with heap:=r}->au (ax P w) A (keyKind' c.toArray) Q E {s with heap:=r})(h:∀d:et,(arrOf d).Perm (j0 c)->SortedToK κ (arrOf d) (j0 c).size->F (.done (.ret .none)) {s with heap:=sortedHeap s.heap a c ((arrOf d).map (·.2))}):au (ax P w) A (Builtin.«list.sort» ⟨[.ref a],[]⟩) F E s:=by
 rw[list_sort_plain];have D:a<s.heap.objs.size:=bC p;have z:c.length<=bd:=jZ (r_ ∅);refine aq (listItems_at p rfl ?_);refine aq (CU p rfl ?_);obtain⟨t,x⟩:∃t,(s.heap.update a (gm λ_=>#[])).get? a=aa (eu "list" #[] t):=⟨_,zb p (λ_=>#[])⟩
 refine aq (seqEpoch_at x rfl ?_);refine aq (wpAny_newTuple ?_ (hsz:=nofun));refine aq (C9 ?_);refine ig ?_;have g:(((s.heap.update a (gm λ_=>#[])).push (eu "tuple" c.toArray 0)).push (eu "list" #[] 0)).get? a=aa (eu "list" #[] t):=by rw[Heap.get?_push_ne _ _ _ (by rw[lI,Heap.size_update];lia),Heap.get?_push_ne _ _ _ (by rw[Heap.size_update];exact dE D)];trivial
 have keep:∀b o,b≠a->s.heap.get? b=aa o->(((s.heap.update a (gm λ_=>#[])).push (eu "tuple" c.toArray 0)).push (eu "list" #[] 0)).get? b=aa o:=λb o l e=>bD _ (bD _ (by rw[Jx _ _ _ _ l];exact e));show au (ax P w) A _ F E {s with heap:=((s.heap.update a (gm λ_=>#[])).push (eu "tuple" c.toArray 0)).push (eu "list" #[] 0)};dsimp only;have f:∀d:et,failedOf d=ac->(arrOf d).Perm (j0 c)->SortedToK κ (arrOf d) (j0 c).size ->
   au (ax P w) A (do
    let touched:=(<-seqEpoch a) != t
    Builtin.List.listUpdate (.ref a) λ_=>(arrOf d).map (·.2)
    if let aa e:=failedOf d then rule "list.sort.comparison-raised";throw e
    if touched then rule "list.sort.modified";raiseError "ValueError" "list modified during sort"
    ret .none) F E {s with heap:=((s.heap.update a (gm λ_=>#[])).push (eu "tuple" c.toArray 0)).push (eu "list" #[] 0)}:=λd l m u=>by
  refine aq (seqEpoch_at g rfl ?_);refine aq (CU g rfl ?_ (hsz2:=by refine bT (oZ ((Array.size_map ..).trans (m.size_eq.trans (pairsOf_size _)))) (Nat.le_succ_of_le z)));rw[l];simp only[bne_self_eq_false,fG,if_false];exact aE (h d m u)
 by_cases q:c.toArray.size<2
 .rw[if_pos q,if_pos q];refine aq (aE ?_);refine aq (aE ?_);refine f (SortSt.mk' general' (c.toArray.zip c.toArray) #[] 7 ac) rfl (Array.Perm.refl _) λi j N C=>?_;have:i=j:=by rw[pairsOf_size]at C;grind
  subst this;exact o6 _
 .rw[if_neg q,if_neg q];obtain⟨G,H⟩:=B _ keep ∅;refine aq (H ?_);refine aq (eU (Mf (κ:=κ) (kz:=kz) G (st:=SortSt.mk' kz (c.toArray.zip c.toArray) #[] 7 ac) (Q:=λ_ d=>SB kz d/\(arrOf d).toList.Perm (j0 c).toList/\Run κ (arrOf d) 0 (j0 c).size) ⟨rfl,rfl⟩ (KeysOf.all I) rfl (show(j0 c).size<64 by rw[pairsOf_size];exact y) λd M L J=>⟨M,L,J⟩) ?_ λ_ _ e=>e);rintro⟨⟨⟩,d⟩ s' ⟨rfl,l,m,u⟩;have v:(arrOf d).Perm (j0 c):=C7.mpr m;exact f d l.failed v (u.sortedTo (by rw[v.size_eq];simp))
theorem SM{g:KeyKind}(o:g.OneLt){d:List ah}(m:s.heap.get? a=aa (eu "list" d.toArray n))(p:KeysOf g (j0 d)) (j:∀c b rest,d=c::b::rest->keyKind' (c::b::rest).toArray=pure oneType') (l:d.length<64)(h:∀i:et,(arrOf i).Perm (j0 d)->SortedToK g (arrOf i) (j0 d).size->F (.done (.ret .none)) {s with heap:=sortedHeap s.heap a d ((arrOf i).map (·.2))}):au (ax P w) A (Builtin.«list.sort» ⟨[.ref a],[]⟩) F E s :=
 EU m p l (λr _ f=>⟨OneLt.ok o,λq=>by
  obtain⟨c,b,rest,rfl⟩:∃c b rest,d=c::b::rest:=by
   match d,f with
   |[],f=>trivial
   |[_],f=>simp at f
   |c::b::rest,_=>lia
  rw[j _ _ _ rfl];exact aE q⟩) h
end
section
variable{A:aY}
theorem Gv(u:au (ax P w) A.in1 (collect v) (λd s1=>∃ss:List Str,cD d ss/\d.length<64/\∀(h:aA) (out:Array ah) (f:List Str) (e:Nat),(∀b o,s1.heap.get? b=aa o->h.get? b=aa o) -> h.get? s1.heap.objs.size=aa (eu "list" out e)->cD out.toList f->f.Perm ss->sortedS f=ai->Q (.ref s1.heap.objs.size) {s1 with heap:=h}) E s):au (ax P w) A (call (.builtin "sorted") [v]) Q E s:=by refine Calls.call_function_entry kind_sorted plain_sorted entry_sorted (args_sorted1 _) ?_;unfold Builtin.«sorted»;refine aq (m:=checkCount "sorted" 1 1 _) (aE ?_);refine aq (aR u λd s1 ⟨ss,l,p,i⟩=>?_);refine aq (C9 ?_);have g:(s1.heap.push (eu "list" d.toArray 0)).get? s1.heap.objs.size=aa (eu "list" d.toArray 0):=cS _ rfl;refine aq (ig (qy slot_list_sort ⟨_,g,rfl⟩ entry_list_sort (SM strKind_oneLt g l.keysOf (λa b c e=>keyKind_strs (by rw[<-e];trivial)) p λx r q=>⟨_,rfl,?_⟩) (args_list_sort _)));obtain⟨f,B,z,y⟩:=sorted_out_str l r q;obtain⟨e,t⟩:=sortedHeap_at (out:=(arrOf x).map (·.2)) g;refine aE ⟨_,rfl,i _ _ f e (λb o j=>?_) t B z y⟩;have n:b<s1.heap.objs.size:=bC j;rw[sortedHeap_old (dE n) (by rw[lI];exact y_ n)];exact bD _ j
end
section
theorem Inv.sorted2{c:List Tx}{f:aA}(I:Inv X h g H s1)(j:ss=c.map tS)(q:c.length<64)(k:∀b o,s1.heap.get? b=aa o->f.get? b=aa o) (r:f.get? s1.heap.objs.size=aa (eu "list" a e)) (p:cD a.toList d) (n:d.Perm ss) (m:sortedS d=ai):Inv X h g (upd H s1.heap.objs.size (.lst (bH (aN c)))) {s1 with heap:=f}:=by
 have l:d.map (λz=>z.cps.toList)=aN c:=by
  refine yi ?_ (TF m);have:=n.map λz=>z.cps.toList;rw[j,cU]at this;have s:(c.map ((λz:Str=>z.cps.toList) ∘ tS))=c:=by simp[tI,l9]
  simp_all
 have i:bt (bH (aN c)) a.toList:=by rw[<-l];exact G5 p
 refine I.laid (t':=s1.toks) k (bc _) ⟨?_,a.toList,e,i,?_⟩
 .rw[yk,Bt];exact jZ (r_ ∅)
 trivial
theorem rL:dq X (.builtin "sorted") (λxs H Q=>∃(p:ae) (d:List Tx),xs=[.ref p]/\(b_ X.K H p (bH d)\/cC X.K H p (bH d))/\d.length<64/\∀l,H l=ac->Q (.ref l) (upd H l (.lst (bH (aN d))))):=by
 intro E s v H xs L Q I r h;obtain⟨p,d,rfl,f,z,q⟩:=h;obtain⟨u,rfl,w⟩:=vals1 r;cases w;have b:∀(T:String) (o:Obj) (a:List ah) (n:Nat),(T = "list"\/T = "tuple")->s.heap.get? p=aa o->o.cls=.type T->o.data=.seq a.toArray n->bt (bH d) a ->
   au X.zz X.A (call (.builtin "sorted") [Value.ref p]) (EP X E v Q) X.xe s:=λT o a n D j i g c=>by
  have C:=c.length;rw[yk]at C;have m:=r_ (n:=a.length) ∅;refine Gv (wpAny_collect_seq p D j i g (λM A=>?_) ∅);have t:=I.kept (t':=s.toks) A;refine⟨_,om c,by rw[CL];simp_all,λN y O e k j J G F=>?_⟩;exact⟨.ref _,_,Inv.sorted2 t rfl z k j J G F,rfl,q _ t.fresh⟩
 rcases f with f|f
 .obtain⟨a,c,x,B⟩:=I.list f;obtain⟨o,e,i,n,g⟩:=x.isList;exact b "list" o a n (.inl rfl) e i g c
 .obtain⟨a,c,⟨o,e,i,n,g⟩,B⟩:=I.tuple f;exact b "tuple" o a n (.inr rfl) e i g c
end
end L2
namespace Pu
open L2
section
variable{X:Cx}{K:ay}
noncomputable def gZ:List PV->Option PO
 |[.lst xs]=>(dZ xs).bind λa=>if a.length<64 then aa (.lst (ak (aN a)))else ac
 |[.tup xs]=>(dZ xs).bind λa=>if a.length<64 then aa (.lst (ak (aN a)))else ac
 |_=>ac
theorem sN:ke K (λxs H Q=>∃(p:ae) (b:List Tx),xs=[.ref p]/\(b_ K H p (bH b)\/cC K H p (bH b))/\b.length<64/\∀l,H l=ac->Q (.ref l) (upd H l (.lst (bH (aN b))))) gZ:=λF H xs w Q n u m e q=>by
 have f:∀{g:List PV}{c:List V}{a:ae},((dZ g).bind λb=>if b.length<64 then aa (PO.lst (ak (aN b)))else ac)=aa n->Reps K H F g c->(b_ K H a c\/cC K H a c) ->
   ∃(p:ae) (b:List Tx),[V.ref a]=[.ref p]/\(b_ K H p (bH b)\/cC K H p (bH b))/\b.length<64/\∀l,H l=ac->Q (.ref l) (upd H l (.lst (bH (aN b)))):=λ{g c a} e d s=>by
  cases h:dZ g with
  |none=>rw[h]at e;cases e
  |some b=>
   rw[h]at e;simp only[eZ]at e;split at e
   .rename_i o;cases e;rw[mO h]at d;obtain⟨rfl,t⟩:=UX.mp d;refine⟨a,b,rfl,s,o,λl i=>q l F _ _ (Al.new0 i) (xz i (UX.mpr ⟨rfl,λx r=>t x ((dI b).mem_iff.mp r)⟩)) (xN i u trivial)⟩
   trivial
 unfold gZ at e;split at e
 .obtain⟨v,rfl,a,c,rfl,j,_,d⟩:=ge m;exact f e d (.inl (.inl j))
 .obtain⟨v,rfl,a,c,rfl,j,d⟩:=ge m;exact f e d (.inr (cC.of j))
 trivial
end
theorem MY(H:Hp)(p:ae)(a b:HO):L2.upd (L2.upd H p a) p b=L2.upd H p b:=by
 funext q;by_cases h:q=p
 .subst h;rw[upd_same,upd_same]
 .rw[bi h,bi h,bi h]
section
variable{X:Cx}{E:XK}{h:List Nat}{e:aB}{r:ad aG}{A y t:Pos}{q n:Str}{D:ae}{l:List bb}{m:bb}{d:ah->Bool}
theorem KC(i:Nat)(hN:X.N.Nodup)(hD:X.mg q=aa (.ref D))(hE:p8 X.base D)(hcg:∀c,d c=ai->Under X.base D c)(hh:∀a,fM (hand X a) E0 h (m::l) r)(cY:i∉h:=by decide) (hi:X.N[i]?=aa n:=by rfl) (hl:X.env.scope.names.lookup n=aa .local:=by rfl) (hg:Gl X q:=by rfl) (hd:ap q:=by decide) (cM:X.stack=X.env::X.outer:=by rfl) (hfm:X.env.frame=aa X.env.locals:=by rfl) (hf:av X n:=by mleft)(xp:XP X ag Z (λc G=>∃M P ε',aX X.K M P ε' Z G/\bv (U S) (U P) F M H G/\d c=ai/\i<ε'.length/\fW X.K E h Z F S H (match r (ε'.set i (.val (.exc c)))with
  |.ok f ε2=>(match ε2[i]? with
   |some (.val _)=>.ok f (ε2.set i .none)
   |_=>.no)
  |_=>.no) Dn) ev N) :
  au X.zz X.A (yY ev X.env) (λ_ s₂=>au X.zz X.A (vP ev ac) (λ_ s₃=>au X.zz X.A (handleBy ev X.env [.ExceptHandler (aa (.Name q y)) (aa n) (m::l) t]) (SP X ag Dn) X.xe s₃) X.xe s₂) X.xe N:=by
 obtain⟨s0,H0,I0,a,T,c,W,rfl,ho,hg1,un,hok,fl,⟨fa,fT,na,nT⟩,F1,S1,ε1,rl1,g1,n4,bg,I⟩:=xp;have I1:=I0.call' (s':=N) (ch:=[]) ho un hok hg1 (λb z=>absurd z (by simp));have kpI:∀{h2:aA}{Y:ae->Prop}{T':ae},Kp (fc X.stack) Y N.heap h2->(∀b o,s0.heap.get? b=aa o->¬Y b)->(∀b,Y b->W b=ac)->k6 h2 a T' c .none->∀tk,Inv X ag Z (upd W a (m8 a c)) {N with heap:=h2,toks:=tk}:=λ{h2 Y T'} k hY1 hY2 f2 tk=>by
  refine I0.call' (s':={N with heap:=h2,toks:=tk}) (ch:=[]) ho ?_ (SH (AI hok k (λb hb=>I1.stkFree b hb) hY2) na f2) hg1 (λb z=>absurd z (by simp));have u2:=BK un k (λb o _ z=>z) hY1 (λb hb=>I1.stkFree b hb);have na':∀b o,W b=aa o->b≠a:=λb o e=>jS e na;refine⟨u2.keep,u2.slot,λb o e n hx=>?_,u2.there,λb xs e=>?_,λb o u e=>?_,λb ps e=>?_⟩
  .rw[bi (by rintro rfl;rw[fa]at e;cases e)];exact u2.free b o e n hx
  .have:=u2.tups b xs e;rw[bi (na' b _ this)];trivial
  .have:=u2.frzs b o u e;rw[bi (na' b _ this)];trivial
  .refine⟨by have:=(u2.tbls b ps e).1;rw[bi (na' b _ this)];trivial,λc' o e2 g=>?_⟩;obtain⟨g1,e1⟩:=(u2.tbls b ps e).2 c' o e2 g;exact⟨g1,by rw[bi (na' c' _ e1)];trivial⟩
 have H1T:∀b,b=a\/b=T->W b=ac:=λb z=>by rcases z with rfl|rfl <;> assumption
 have old1:∀b o,s0.heap.get? b=aa o->¬(b=a\/b=T):=λb o e z=>by
  rcases z with hz|hz
  .rw[hz,fa]at e;cases e
  .rw[hz,fT]at e;cases e
 refine G2 (outer:=X.outer) (by rw[I0.ok.frames,cM]) (by rw[<-cM];exact I1.stack) hfm fl λh2 T' k fl2 fT'=>?_;rw[<-cM]at k;have I2:=kpI k old1 H1T fl2 N.toks;refine wpAny_handleBy_cons (codeAny_handlers_test ?_) (by intro z;cases z);have I2h:Inv (hand X a) ag Z (upd W a (m8 a c)) {N with heap:=h2}:=Inv.hand I2;refine sQ (X:=hand X a) I2h hg hD ?_ hd;obtain⟨oe,vs,oT,ts,he2,UN,_⟩:=id fl2;refine LK (s:={N with heap:=h2}) ((hcg c n4).keeps I2.bk) (hE.keeps I2.bk) he2 UN ?_;show lA _ _ _ _ _;refine codeAny_handlers_suite_as (Si (s:={N with heap:=h2}) fl2 λh3 k3 fl3=>?_);have k':Kp (fc X.stack) (λb=>(b=a\/b=T)\/b=T') N.heap h3:=k.trans (k3.imp (λb z=>by simp at z) λb o _ z=>z);have I3:=kpI (T':=T') k' (λb o e z=>by
  rcases z with z|rfl
  .exact old1 b o e z
  .rw[sL un (vA fT')]at e;cases e) (λb z=>by
  rcases z with z|rfl
  .exact H1T b z
  .exact I1.hok.fresh fT') fl3 N.toks
 have I3h:Inv (hand X a) ag Z (upd W a (m8 a c)) {N with heap:=h3}:=Inv.hand I3;refine x9 (X:=hand X a) (v:=.ref a) I3h hN hi (.inl hl) rfl (λs4 I4=>?_) hf;have al:Al F1 F1 W (upd W a (m8 a c)):=Al.new0 na;have r2:=rl1.al al;have r3:=r2.set (i:=i) (pv:=.exc c) (v:=.ref a) ⟨a,rfl,upd_same⟩;have g3:bv (U S) (U λj b=>S1 j b/\j≠i) F F1 H (upd W a (m8 a c)):=(g1.trans al.grow).trans (bv.less i);have less:∀{P:Nat->ae->Prop}{M:ae->Prop}{G:Hp},bv (U P) (U λj b=>P j b/\j≠i) M M G G:=λ{P M G}=>bv.less i;have pn:∀{C:St},jc h (Z.set i (aa (.ref a))) C->jc h Z (C.set i ac):=λ{C} p=>((jc.set cY).trans p).trans (jc.set cY);have okd:fW (hand X a).K E0 h (Z.set i (aa (.ref a))) F1 (λj b=>S1 j b/\j≠i) (upd W a (m8 a c)) (r (ε1.set i (.val (.exc c)))) {nx:=λC G=>Dn.nx (C.set i ac) G,rt:=Dn.rt,bk:=λC G=>Dn.bk (C.set i ac) G,ct:=λC G=>Dn.ct (C.set i ac) G}:=by
  cases ed:r (ε1.set i (.val (.exc c)))with
  |no=>rw[ed]at I;trivial
  |er c' ε2=>rw[ed]at I;trivial
  |ok f ε2=>
   rw[ed]at I;dsimp only at I;split at I
   .cases f with
    |next=>exact λM P C G r' g' p'=>I M _ _ G r'.unset ((g3.trans g').trans less) (pn p')
    |brk=>exact λM P C G r' g' p'=>I M _ _ G r'.unset ((g3.trans g').trans less) (pn p')
    |cont=>exact λM P C G r' g' p'=>I M _ _ G r'.unset ((g3.trans g').trans less) (pn p')
    |ret sl=>
     intro v M P C G Sr r' g' p' rv lo;refine I v M _ _ G Sr r'.unset ?_ (pn p') rv λb z=>⟨(lo b z).1,λ⟨j,w⟩=>(lo b z).2.1 ⟨j,w.1⟩,(lo b z).2.2⟩
     have gg:=g3.trans g';exact⟨gg.fro,gg.keep,gg.there,gg.fnew,λb z=>gg.onew b (z.imp (λ⟨j,w⟩=>⟨j,w.1⟩) id)⟩
   trivial
 refine eU ((hh a F1 _ _ _ _ _ r3 okd).run ag s4 I4) (λf s5 sp=>?_) λ_ _ z=>z.elim;have L:∀{J:St}{O:Hp}{Q:Unit->ao->Prop},Inv (hand X a) ag J O s5->(∀s6,Inv X ag (J.set i ac) O s6->Q () s6)->au X.zz X.A (do bindName X.env n .none;unbindBehindTheSuite X.env n t) Q X.xe s5:=λ{J O Q} I5 hQ=>by
  have I5':=Inv.unhand I5 I0.ok;refine aq (wpAny_bindName (x9 (v:=.non) I5' hN hi (.inl hl) rfl (λs6 I6=>?_) hf));unfold unbindBehindTheSuite;refine wpAny_onRaise ?_;have hiσ:i<J.length:=by rw[I5'.len];exact(c_.mp hi).1
  refine Nx I6 hN hi hl (ie hiσ) λs7 I7=>hQ s7 ?_;rw[List.set_set]at I7;trivial
 cases f with
 |next=>obtain⟨J,O,I5,q5⟩:=sp;exact L I5 λs6 I6=>⟨_,O,I6,q5⟩
 |brk=>obtain⟨J,O,I5,q5⟩:=sp;exact L I5 λs6 I6=>⟨_,O,I6,q5⟩
 |cont=>obtain⟨J,O,I5,q5⟩:=sp;exact L I5 λs6 I6=>⟨_,O,I6,q5⟩
 |ret u=>obtain⟨v,J,O,I5,rv,q5⟩:=sp;exact L I5 λs6 I6=>⟨v,_,O,I6,rv,q5⟩
end
end Pu
namespace L2
section
variable{X:Cx}
theorem Gx(x:X.calm=ai):dq X (.builtin "sorted") (λxs H Q=>∃(p:ae) (a:List Tx),xs=[.ref p]/\H p=aa (kP X p a)/\a.length<64/\∀l,H l=ac->Q (.ref l) (upd H l (.lst (bH (aN a))))):=by
 intro C s i H xs E Q I r h;obtain⟨p,a,rfl,v,F,q⟩:=h;obtain⟨u,rfl,m⟩:=vals1 r;cases m;obtain⟨S,_,_⟩:=(show cf X.prog X.w H s.heap p (kP X p a)from I.hok p _ v)
 refine Gv (O3 (wW (I.ok.hd x)) S λj D ss f d L k A z=>?_);obtain⟨c,g',d',t',o⟩:=j;obtain rfl:g'=s.gens:=A;obtain rfl:o=s.os:=z;have g:Inv X C i H {s with heap:=c,drawn:=d',toks:=t'}:=by have:=Inv.call (ch:=[]) I (g':=s.gens) (d':=d') (t':=t') (Un.kept (fs:=fc X.stack) (ex:=[]) k) (I.hok.kept k) I.bare (λb y=>absurd y (by simp));trivial
 refine⟨ss,f,by have h:=d.length_eq;rw[cX]at h;have:=f.length;lia,λG n J e t w b1 b2 B=>?_⟩;exact⟨.ref _,_,Inv.sorted2 (s1:={s with heap:=c,drawn:=d',toks:=t'}) (ss:=a.map tS) g rfl ∅ t w b1 (b2.trans d) B,rfl,q _ g.fresh⟩
end
end L2
namespace Pu
open L2
section
variable{X:Cx}{m:List Nat}{e:aB}{j n:ad (List PV)}{p:Pos}
theorem Ha(l:List Tx):(bK l).Nodup:=by
 unfold bK;have:∀(l a:List Tx),a.Nodup->(l.foldl (λks x=>if x∈ks then ks else ks++[x]) a).Nodup:=by
  intro l
  induction l with
  |nil=>simp
  |cons x l b=>grind
 exact this l [] List.nodup_nil
noncomputable def vg:List PV->Option PO
 |[.lst xs]=>(dZ xs).bind λa=>if(bK a).length<64 then aa (.lst (ak (aN (bK a))))else ac
 |_=>ac
noncomputable def EY(X:Cx):List V->Hp->VK->Prop:=λxs H Q=>∃(p:ae) (a:List Tx),xs=[.ref p]/\H p=aa (kP X p a)/\a.length<64/\∀l,H l=ac->Q (.ref l) (upd H l (.lst (bH (aN a))))
theorem Ms:ke X.K (Q3 X (EY X)) vg:=λF H xs N Q P L B e q=>by
 unfold vg at e;split at e
 .obtain⟨v,rfl,a,O,rfl,J,_,u⟩:=ge B;obtain⟨h,M,g⟩:=kJ.mp e;rw[mO M]at u;obtain⟨rfl,G⟩:=UX.mp u;split at g
  .rename_i y;cases g;refine⟨a,h,rfl,.inl J,oX y (by decide),λb I=>⟨b,bK h,rfl,upd_same,y,λl t=>?_⟩⟩;have A:l≠b:=by rintro rfl;rw[upd_same]at t;trivial
   have C:H l=ac:=by rw[bi A]at t;trivial
   have al:Al F F H (upd (upd H b (kP X b (bK h))) l (.lst (bH (aN (bK h))))):=(Al.new0 I).trans (Al.new0 t);refine q l F _ (λc=>c=l) al ⟨⟨_,upd_same,UX.mpr ⟨rfl,λx D=>G x ((kY _ _).mp ((dI _).mem_iff.mp D))⟩⟩,λc=>o0⟩ λc z=>?_;subst z;exact⟨C,λz=>C_ (L _ z) (λo w=>by lia),_,upd_same,trivial⟩
  trivial
 trivial
theorem Ny(a:X.calm=ai)(u:DA X E [e] j)(o:X.mg "sorted"=ac)(c:X.mg "set"=ac)(t:Gl X "sorted":=by rfl)(b:Gl X "set":=by rfl)(h:k7 e=am:=by rfl):DN X E (.Call (.Name "sorted" p) [.Call (.Name "set" q) [e] [] d] [] f) (dL vg j):=λF S x w H Q l v=>bU (nB (Gx a) t o l6 (fz (sG (NY a) b c Ax g8 (by decide) (by rfl) (iP h) rfl) gh (iP rfl)) (by decide) (by rfl) (iP rfl) rfl) (sk Ms u l v)
end
theorem N9:d_ "max"=aa (.builtin "max"):=by decide +kernel
end Pu
namespace Mx
theorem LO(p:Nat):∃o,5^(2^p)=1+2^(p+2)*(2*o+1):=by
 induction p with
 |zero=>exact⟨0,by rfl⟩
 |succ p a=>
  obtain⟨o,h⟩:=a;refine⟨o+2^p*(2*o+1)*(2*o+1),?_⟩;rw[show 2^(p+1)=2^p*2 from tJ ..,Nat.pow_mul,h];rw[show(2:Nat)^(p+1+2)=8*2^p from by rw[Nat.pow_add,tJ];lia,show(2:Nat)^(p+2)=4*2^p from by rw[Nat.pow_add];lia];generalize 2^p=q
  grind
noncomputable def F5:Nat->Nat->Nat
 |0,x=>x
 |n+1,x=>F5 n (5*x+1)
theorem Ll(m n x:Nat):F5 (m+n) x=F5 n (F5 m x):=by
 induction m generalizing x with
 |zero=>simp[F5]
 |succ m a=>rw[JD];exact a _
theorem LP(n x:Nat):4*F5 n x+1=5^n*(4*x+1):=by
 induction n generalizing x with
 |zero=>simp[F5]
 |succ n a=>show 4*F5 n (5*x+1)+1=_;rw[a,tJ];grind
theorem SX(p x:Nat):∃o,F5 (2^p) x=x+2^p*(2*o+1):=by obtain⟨o,h⟩:=LO p;have c:=LP (2^p) x;rw[h,show(2:Nat)^(p+2)=4*2^p from by lia]at c;refine⟨o*(4*x+1)+2*x,?_⟩;lia
theorem Ie(p:Nat):∀x y,y<2^p->∃n,n<2^p/\F5 n x % 2^p=y:=by
 induction p with
 |zero=>lia
 |succ p d=>
  intro x y f;obtain⟨n,s,e⟩:=d x (y % 2^p) (nX _ (Nat.two_pow_pos p));have g:(2:Nat)^(p+1)=2*2^p:=by lia
  obtain⟨o,j⟩:=SX p (F5 n x);have c:=Nat.two_pow_pos p;by_cases q:F5 n x % 2^(p+1)=y
  .grind
  .refine⟨n+2^p,∅,?_⟩;rw[Ll,j];rw[g]at q f ⊢;generalize 2^p=N at *;generalize F5 n x=z at *;have l:z % (2*N) % N=z % N:=Nat.mod_mod_of_dvd _ ⟨2,∅⟩;have i:(z+N*(2*o+1)) % (2*N)=(z+N) % (2*N):=by rw[show z+N*(2*o+1)=(z+N)+(2*N)*o by grind,Nat.add_mul_mod_self_left]
   rw[i];have r:=nX z (show 2*N > 0 by ac_rfl);have h:(z+N) % (2*N)=(z % (2*N)+N) % (2*N):=by simp
   rw[h];generalize z % (2*N)=u at *;rw[<-l]at e;have a:=Nat.div_add_mod u N;have b:=Nat.div_add_mod y N;have b1:u / N<2:=Nat.div_lt_of_lt_mul (by rw[tK];trivial);have b2:y / N<2:=Nat.div_lt_of_lt_mul (by rw[tK];trivial);rw[e]at a;generalize u / N=uq at a b1;generalize y / N=yq at b b2;have m:=nX y c;rcases(show uq=0\/uq=1 by lia)with c1|c1 <;> rcases(show yq=0\/yq=1 by lia)with c2|c2 <;> subst c1 <;> subst c2 <;> simp only[Nat.mul_zero,Nat.mul_one,nZ]at a b
   .exact absurd (a.symm.trans b) q
   .rw[Da ∅];lia
   .rw[show u+N=y+2*N by lia,Nat.add_mod_right,Da ⋯]
   .exact absurd (a.symm.trans b) q
end Mx
namespace L2
open Mx
noncomputable def eQ(mask:Nat):Nat->Nat->Nat->Nat×Nat
 |0,i,p=>(i,p)
 |n+1,i,p=>eQ mask n (mv mask i p).1 (mv mask i p).2
theorem Aa(mask:Nat):∀(m n i p:Nat),eQ mask (m+n) i p=eQ mask n (eQ mask m i p).1 (eQ mask m i p).2
 |0,n,i,p=>by rw[nZ];rfl
 |m+1,n,i,p=>by rw[JD];exact Aa mask m n _ _
theorem Bc(mask:Nat):∀(m i p:Nat),(eQ mask m i p).2=p / 32^m
 |0,i,p=>by simp[eQ]
 |m+1,i,p=>by show(eQ mask m _ _).2=_;rw[Bc mask m];show p / 32 / 32^m=_;rw[Nat.div_div_eq_div_mul,tJ,tK]
theorem A8(mask:Nat):∀(n i:Nat),(eQ mask n i 0).1 % (mask+1)=F5 n i % (mask+1)
 |0,i=>rfl
 |n+1,i=>by show(eQ mask n ((i*5+1+0 / 32) % (mask+1)) (0 / 32)).1 % _=F5 n (5*i+1) % _;rw[show 0 / 32=0 from rfl,A8 mask n,Nat.add_zero,tK i 5];exact F5_mod n (mask+1) (5*i+1)
where
 F5_mod:∀(n N x:Nat),F5 n (x % N) % N=F5 n x % N
  |0,N,x=>by simp[F5]
  |n+1,N,x=>by show F5 n (5*(x % N)+1) % N=F5 n (5*x+1) % N;rw[<-F5_mod n N (5*(x % N)+1),<-F5_mod n N (5*x+1)];congr 2;rw[Nat.add_mod,Nat.mul_mod,Nat.mod_mod,<-Nat.mul_mod,<-Nat.add_mod]
theorem BW(mask:Nat):∀(n i p:Nat),(eQ mask (n+1) i p).1<mask+1
 |0,i,p=>nX _ (tL _)
 |n+1,i,p=>BW mask n _ _
theorem ES{owner:Array (Option Nat)}:∀(a i p:Nat),(∃t,t<a/\(owner.getD (eQ mask t i p).1 (aa 0)).isNone=ai)->∃j,tN mask owner a i p=aa j/\(owner.getD j (aa 0)).isNone=ai
 |0,i,p,⟨t,h,_⟩=>absurd h (nY _)
 |a+1,i,p,⟨t,h,e⟩=>by
  unfold tN;cases q:(cu (fk mask i+1-i)).find? (λk=>(owner.getD (i+k) (aa 0)).isNone)with
  |some k=>exact⟨i+k,rfl,by have:=List.find?_some q;trivial⟩
  |none=>
   cases t with
   |zero=>have:=List.find?_eq_none.mp q 0 (by rw[kE];unfold fk;split <;> omega);trivial
   |succ t=>exact ES a _ _ ⟨t,∅,e⟩
theorem Lo{owner:Array (Option Nat)}(a:mask+1=2^q)(b:owner.size=mask+1)(m:y<owner.size)(s:owner[y]?=aa ac)(i p:Nat)(c:p<2^64):∃j,tN mask owner (tO mask) i p=aa j/\owner[j]?=aa ac:=by
 obtain⟨n,r,e⟩:=Ie q (eQ mask 13 i p).1 y (by rw[<-a,<-b];trivial);have f:(eQ mask 13 i p).2=0:=by rw[Bc];exact Nat.div_eq_of_lt (gH c (by simp))
 have l:(eQ mask (13+n) i p).1<mask+1:=by rw[show 13+n=(12+n)+1 by lia];exact BW mask _ _ _
 have t:(eQ mask (13+n) i p).1=y:=by
  have h:(eQ mask (13+n) i p).1 % (mask+1)=y:=by rw[Aa,f,A8,a];exact e
  rwa[Da l]at h
 obtain⟨j,g,f2⟩:=ES (mask:=mask) (owner:=owner) (tO mask) i p ⟨13+n,by unfold tO;lia,by simp_all⟩;refine⟨j,g,?_⟩;rw[Db]at f2;cases d:owner[j]? with
 |none=>rw[d]at f2;trivial
 |some o=>simp_all
theorem Ih:∀(l:List (Option Nat)) (j k:Nat),l[j]?=aa ac->((l.set j (aa k)).filterMap id).Perm (k::l.filterMap id)
 |[],j,k,h=>by trivial
 |x::l,0,k,h=>by simp at h;subst h;rfl
 |x::l,j+1,k,h=>by
  have a:=Ih l j k (by trivial);cases x with
  |none=>trivial
  |some v=>simp only[List.set_cons_succ,mf,id];exact(a.cons v).trans (List.Perm.swap ..)
theorem G8:∀(l:List (Option Nat)),(∀y,y<l.length->l[y]?≠aa ac)->(l.filterMap id).length=l.length
 |[],_=>rfl
 |x::l,h=>by
  have a:=G8 l λy b e=>h (y+1) (by simp;omega) (by trivial);cases x with
  |none=>exact absurd rfl (h 0 (by simp))
  |some v=>simp[a]
noncomputable def Laid(b:Nat)(a:Array (Option Nat))(k:Nat):Prop:=a.size=b+1/\(a.toList.filterMap id).Perm (cu k)
theorem Tu(g:b+1=2^q)(L:Laid b a k)(n:k<b+1)(h:Int):∃j,tN b a (tO b) (e7 h % (b+1)) (e7 h)=aa j/\Laid b (a.setIfInBounds j (aa k)) (k+1):=by
 obtain⟨d,f⟩:=L;have:∃y,y<a.toList.length/\a.toList[y]?=aa ac:=by
  by_cases z:∃y,y<a.toList.length/\a.toList[y]?=aa ac
  .exact z
  .have:=G8 a.toList λy c e=>z ⟨y,c,e⟩;have:=f.length_eq;simp_all
 obtain⟨y,c,i⟩:=this;have l:e7 h<2^64:=by unfold e7;lia
 obtain⟨j,m,f2⟩:=Lo g d (by trivial) (~~~i) (e7 h % (b+1)) _ l;refine⟨j,m,~~~d,?_⟩;rw[Array.toList_setIfInBounds,qB];exact(Ih a.toList j k (~~~f2)).trans ((f.cons k).trans (List.perm_append_singleton ..).symm)
end L2
namespace Pu
open L2
noncomputable def sC:List PV->Option PV
 |[.int i,.int j]=>aa (.int (if j > i then j else i))
 |_=>ac
theorem Na{K:ay}:PL K (λxs H Q=>∃i j,xs=[.int i,.int j]/\Q (.int (if j > i then j else i)) H) sC:=λF H xs f Q pv a e q=>by
 unfold sC at e;split at e
 .cases e;obtain⟨v,g,rfl,d,c⟩:=a;obtain⟨u,rfl,b⟩:=ge c;exact⟨_,_,by rw[show v=V.int _ from d,show u=V.int _ from b],q _ F H (Al.refl ..) rfl⟩
 trivial
end Pu
namespace L2
section
theorem Inv.recast(I:Inv X f d H s)(e:H a=aa p)(L:∀xs,p≠.tup xs)(J:∀o u,X.H₀ a≠aa (.frz o u))(G:∀l,p≠.tbl l)(F:∀x,p≠.own x)(new:cf X.prog X.w (upd H a q) s.heap a q):Inv X f d (upd H a q) s:=by
 have i:∀b,H b=ac->(upd H a q) b=ac:=λb m=>by rw[bi (by lia)];trivial
 refine⟨I.ok,I.os,I.bare,⟨I.base.keep,I.base.slot,λb o h n w=>i b (I.base.free b o h n w),I.base.there,λb xs h=>?_,λb o u h=>?_,λb l h=>?_⟩,I.loc,I.cell,i _ I.free,λx c h=>i _ (I.freeC x c h),λp y=>?_,λb u m=>?_,I.len⟩
 .have z:=I.base.tups b xs h;rw[bi (by grind)];exact z
 .have z:=I.base.frzs b o u h;rw[bi (by grind)];exact z
 .have z:=(I.base.tbls b l h).1;refine⟨by rw[bi (by grind)];exact z,λc t B g=>?_⟩;obtain⟨A,M⟩:=(I.base.tbls b l h).2 c t B g;exact⟨A,by rw[bi (by grind)];trivial⟩
 .obtain⟨E,D,C⟩:=I.pin p y;exact⟨E,i _ D,C⟩
 .by_cases j:b=a
  .subst j;rw[upd_same]at m;lia
  .rw[bi j]at m;refine(I.hok b u m).stay (λc v _ r=>r) (λc r=>?_) λc xs r=>?_
   .rw[bi (by grind)];exact r
   .rw[bi (by grind)];exact r
noncomputable def wY(o:Obj):Nat:=match o.data with
 |.dict _ b=>b
 |_=>0
theorem Cj{h:aA}(g:h.get? a=aa o)(k:cf P w H h a (.dK b)):(a == lq)=am/\∃c,KV b c/\h.DictAt (gC P w) a c (wY o):=by
 obtain⟨_,m,c,j,t,p,q,i,l,n,r⟩:=k;rw[g]at i;cases i;refine⟨m,c,j,o,p,g,l,?_,r⟩;have:wY o=q:=by unfold wY;rw[n]
 lia
theorem Inv.freeze(I:Inv X f d H s)(e:H a=aa (.dK b)):∃o,s.heap.get? a=aa o/\Inv X f d (upd H a (.frz o (.dK b))) s:=by
 have k:cf X.prog X.w H s.heap a (.dK b):=I.hok a _ e;obtain⟨z,i,g,h,o,j,l,c,r⟩:=id k;refine⟨o,c,I.recast e (λ_ q=>by cases q) (λo u q=>?_) (λ_ q=>by cases q) (λ_ q=>by cases q) ⟨c,⟨z,i,g,h,o,j,l,c,r⟩⟩⟩;have:=I.base.frzs a o u q;lia
theorem Inv.thaw(I:Inv X f d H s)(e:H a=aa (.frz o (.dK b)))(i:∀o u,X.H₀ a≠aa (.frz o u)):Inv X f d (upd H a (.dK b)) s:=by
 obtain⟨j,z,h,c,g,r⟩:=(show cf X.prog X.w H s.heap a (.frz o (.dK b))from I.hok a _ e)
 exact I.recast e (λ_ q=>by cases q) i (λ_ q=>by cases q) (λ_ q=>by cases q) ⟨z,h,c,g,r⟩
end
theorem KV.at(h:KV a vs){i:Nat}{p:aI×V}(e:a[i]?=aa p):∃q,vs[i]?=aa q/\p.1=q.1/\RelV p.2 q.2:=by
 unfold KV at h
 induction h generalizing i with
 |nil=>trivial
 |cons r _ b=>
  cases i with
  |zero=>simp at e;subst e;exact⟨_,rfl,r⟩
  |succ i=>exact b (by trivial)
theorem KV.len{b:List (aI×ah)}(h:KV a b):a.length=b.length:=by
 unfold KV at h
 induction h with
 |nil=>rfl
 |cons _ _ c=>simp[c]
theorem KV.keysD{b:List (aI×ah)}(h:KV a b):a.map (·.1)=b.map (·.1):=by
 unfold KV at h
 induction h with
 |nil=>rfl
 |cons r _ c=>simp[c,r.1]
end L2
namespace Pu
open L2
section
variable{X:Cx}{f:List Nat}{c:aB}{de db g:ad PV}
noncomputable def nr(i:Nat):ad PV:=λa=>(aD (cW a i) a).bind λh a=>.ok (.int (h.length:Nat)) a
theorem HH(i:Nat)(s:X.mg "len"=ac)(x:X.N[i]?=aa y:=by rfl)(A:dr X.env.scope y:=by eq_refl)(v:ap y:=by decide) (C:aO y:=by decide) (u:Gl X "len":=by rfl)(m:aK [.Name y j] X.env=(am,aQ (.Name y j) X.env)::aK [] X.env:=by rfl) (B:(cx d (aK [] X.env)).any (·.1)=am:=by rfl):DE X E (.Call (.Name "len" p) [.Name y j] [] d) (nr i):=λF S n D H Q r h=>by
 unfold nr at h;cases l:cW n i with
 |none=>rw[l]at h;exact h.elim
 |some q=>rw[l]at h;obtain⟨a,o,z,w,t,_⟩:=r.dkAt (li l);refine bU (nB Nj u s rfl (fz (eJ x A v C) gh m) (by decide) (by rfl) m B) ⟨_,z,a,o,rfl,w,?_⟩;rw[t.len];exact h F S H r (bv.refl ..) _ rfl
noncomputable def fO(neg:Bool)(i:Nat)(db:ad PV):ad PV:=λε=>(db ε).bind λk ε1=>(aD (cW ε1 i) ε1).bind λa ε1=>aD ((iU k).map λk=>.bl (neg^^(jx a k).isSome)) ε1
theorem D6(l:Bool){Q:VK}(L:DE X E b db)(G:aX X.K F S p j H)(h:Ok X.K E j F S H (fO l i db p) (λpv _ O _ A=>∀v,aZ X.K A O pv v->Q v A)):iu X b j H λy m=>∃x,j[i]?=aa (aa x)/\∃a o,x=.ref a/\kT m a y o/\Q (.bl (l^^o.isSome)) m:=by
 unfold fO at h;refine L F S p j H _ G ((Ok.bind h).imp λk n B z m r P q u D=>?_);cases t:cW n i with
 |none=>rw[t]at q;trivial
 |some I=>
  rw[t]at q;simp only[ci,R.bind_ok]at q;obtain⟨a,C,N,M,J,_⟩:=r.dkAt (li t);cases s:iU k with
  |none=>rw[s]at q;trivial
  |some w=>
   rw[s,vO]at q;rw[vh D s];refine⟨.ref a,N,a,jA C w,rfl,kT.k M,?_⟩;rcases J.val w with⟨x,v,h1,h2,h3⟩|⟨h1,h2⟩
   .rw[h1]at q;rw[h2];exact q B z m r (bv.refl ..) _ rfl
   .rw[h1]at q;rw[h2];exact q B z m r (bv.refl ..) _ rfl
theorem AR(i:Nat){a:Pos}(u:X.A.units+64<cLine)(n:DE X E b db)(o:X.N[i]?=aa y:=by rfl)(p:dr X.env.scope y:=by eq_refl)(m:ap y:=by decide) (q:aO y:=by decide) (l:nI .In (.Name y a)=am:=by rfl):DT X E (.Compare b [.In] [.Name y a] d) (dB (fO am i db)):=λF S t s H Q j h=>by refine qf (BM (O8 ∅ bF (eJ o p m q)) l) ?_;have:=D6 (Q:=λv r=>∃k,v=.bl k/\Q k r) am n j (pw h);simp only[Dc]at this;trivial
theorem Pk(i:Nat){a:Pos}(u:X.A.units+64<cLine)(n:DE X E b db)(o:X.N[i]?=aa y:=by rfl)(p:dr X.env.scope y:=by eq_refl)(m:ap y:=by decide) (q:aO y:=by decide) (l:nI .NotIn (.Name y a)=am:=by rfl):DT X E (.Compare b [.NotIn] [.Name y a] d) (dB (fO ai i db)):=λF S t s H Q j h=>by refine qf (BM (Q9 ∅ bF (eJ o p m q)) l) ?_;have:=D6 (Q:=λv r=>∃k,v=.bl k/\Q k r) ai n j (pw h);simp only[Bool.true_xor]at this;trivial
theorem Uo(e:H a=aa v)(j:l≠a):upd (upd (upd H a o) l u) a v=upd H l u:=by
 funext b;by_cases i:b=a
 .subst i;rw[upd_same,bi (dQ j),e]
 .rw[bi i];by_cases h:b=l
  .subst h;rw[upd_same,upd_same]
  .rw[bi h,bi h,bi i]
end
section
variable{g:List Nat}{e:aB}{de d a:ad PV}
noncomputable def ur(d a:ad PV):ad PO:=λj=>(d j).bind λk i=>(a i).bind λy h=>(aD (iU k) h).bind λl h=>.ok (.dK [(l,y)]) h
theorem NL(hb:DE X E b d)(hc:DE X E c a):DN X E (.Dict [aa b] [c] f) (ur d a):=λF S P J H Q v h=>by
 refine bU (LV (PY bF bF SN) rfl rfl (by simp) (by simp)) λp B=>?_;have al:Al F F H (upd H p (.dK [])):=Al.new0 B;have Z:¬F p:=λz=>by obtain⟨o,q⟩:=v.ex p z;lia
 have nS:¬U S p:=λ⟨i,z⟩=>by obtain⟨_,_,o,q,_⟩:=v.foot i p z;lia
 have C:bv (U S) (U S) F F H (upd H p (.dK [])):=al.grow;refine hb F S P J _ _ (v.al al) ((Ok.bindB h C).imp λk r F1 S1 H1 L G h1 u T=>?_);obtain⟨e1,A,x⟩:=G.stay (upd_same:upd H p (.dK []) p=aa (.dK [])) nS Z;refine hc F1 S1 r J H1 _ L ((Ok.bindB h1 (C.trans G)).imp λy O N S2 H2 Y D n w s=>?_);obtain⟨M,l,j⟩:=D.stay e1 x A;cases I:iU k with
 |none=>rw[I]at n;exact n.elim
 |some m=>
  rw[I]at n;simp only[ci,R.bind_ok]at n;have t:aZ X.K H2 N k u:=T.grow D L.fit;refine⟨M,[(m,w)],?_,by simp,?_⟩
  .rw[cn,kI,<-vh t I]
  .rw[show sR [] [(m,w)]=[(m,w)] from rfl];obtain⟨gl,fit,W⟩:=Y.lay (o':=.dK [(m,w)]) M trivial l j;have g3:=((C.trans G).trans D).lay (o':=.dK [(m,w)]) B;refine n N S2 _ W g3 p (λb=>b=p) ⟨⟨_,upd_same,.cons ⟨rfl,s.grow gl fit⟩ .nil⟩,λb=>o0⟩ λb z=>?_;subst z;exact⟨B,l,j,_,upd_same,trivial⟩
end
end Pu
namespace L2
open Att
theorem BG:∀{xs:List V}{c:List ah}{i:Nat}{v:ah},bt xs c->c[i]?=aa v->∃x,xs[i]?=aa x/\RelV x v
 |_,_,_,_,.nil,e=>by trivial
 |_,_,0,_,.cons h _,e=>by simp at e;subst e;exact⟨_,rfl,h⟩
 |_,_,i+1,_,.cons _ t,e=>by obtain⟨x,a,b⟩:=BG (i:=i) t (by trivial);exact⟨x,by trivial,b⟩
open Mx
theorem perm_mapE{g o:Type}{f:g->o}{l:List o}{m:List g}(h:l.Perm (m.map f)):∃d:List g,l=d.map f/\d.Perm m:=by
 generalize c:m.map f=mm at h
 induction h generalizing m with
 |nil=>simp_all
 |cons x _ v=>
  cases m with
  |nil=>trivial
  |cons y r=>rw[cn]at c;injection c with q n;obtain⟨d,e,p⟩:=v n;exact⟨y::d,⋯,p.cons y⟩
 |swap x y l=>
  match m,c with
  |a::b::r,c=>simp only[cn,Dd]at c;obtain⟨q,n,w⟩:=c;exact⟨b::a::r,by simp[q,n,w],.swap ..⟩
 |trans _ _ j i=>obtain⟨B,z,s⟩:=i c;obtain⟨u,A,t⟩:=j z.symm;exact⟨u,A,t.trans s⟩
theorem below_go{xs:Array Nat}(g:xs.toList.Pairwise (· < ·)):∀(f d c:Nat),c-d<=f->d<=c->c<=xs.size -> (∀i (h:i<xs.size),i<d->xs[i]<j)->(∀i (h:i<xs.size),c<=i->j<=xs[i]) -> De xs j f d c<=xs.size/\(∀i (h:i<xs.size),i<De xs j f d c->xs[i]<j)/\∀i (h:i<xs.size),De xs j f d c<=i->j<=xs[i]
 |0,d,c,h,hl,hs,h1,h2=>by
  have:d=c:=∅
  subst this;trivial
 |f+1,d,c,h,hl,hs,h1,h2=>by
  unfold De;split
  .rename_i t;have s:(d+c) / 2<xs.size:=∅
   have mono:∀a b (r:a<xs.size) (q:b<xs.size),a<b->xs[a]<xs[b]:=λa b r q m=>by have:=ze.mp g a b (by trivial) (by trivial) m;trivial
   have o:xs.getD ((d+c) / 2) j=xs[(d+c) / 2]:=by simp_all
   dsimp only;rw[o];split
   .rename_i p;refine below_go g f _ _ nofun ∅ hs (λi n l=>?_) h2;by_cases e:i=(d+c) / 2
    all_goals grind
   .rename_i p;refine below_go g f _ _ nofun ∅ ∅ h1 (λi n l=>?_);by_cases e:i=(d+c) / 2
    all_goals grind
  grind
theorem below_ok{xs:Array Nat}(a:xs.toList.Pairwise (· < ·))(j:Nat):jn xs j<=xs.size/\(∀i (h:i<xs.size),i<jn xs j->xs[i]<j)/\∀i (h:i<xs.size),jn xs j<=i->j<=xs[i] :=below_go a xs.size 0 xs.size (by simp) (by simp) (bc _) (λi _ h=>absurd h (nY _)) λi h b=>absurd h ∅
structure TOk(t:cj):Prop where
 dm:t.dummies=#[]
 ris:t.place.toList.Pairwise (· < ·)
 le:∀j∈t.place.toList,j<=t.mask
 sz:t.mask∈[7,31,127,511,2047,8191]
 roomy:t.place.size*5<t.mask*3
theorem TOk.pow(h:TOk t):∃q,t.mask+1=2^q:=by
 have:=h.sz;simp only[bQ,jI,or_false]at this;rcases this with e|e|e|e|e|e <;> rw[e]
 .exact⟨3,rfl⟩
 .exact⟨5,rfl⟩
 .exact⟨7,rfl⟩
 .exact⟨9,rfl⟩
 .exact⟨11,rfl⟩
 .exact⟨13,rfl⟩
theorem TOk.most(h:TOk t):t.mask<=8191/\7<=t.mask/\t.mask % 2=1:=by
 have:=h.sz
 grind
theorem slot_of{t:cj}(h:t.dummies=#[])(a:t.place.toList.Pairwise (· < ·))(j:Nat):(j∉t.place.toList/\t.slot j=.empty)\/∃i,t.place[i]?=aa j/\t.slot j=.live i:=by
 obtain⟨o,b1,b2⟩:=below_ok a j;unfold SetTable.slot;dsimp only;by_cases b:t.place[jn t.place j]?=aa j
 .exact .inr ⟨_,b,by rw[b];simp⟩
 .refine .inl ⟨λd=>?_,?_⟩
  .obtain⟨i,l,e⟩:=vR d;have c:i<t.place.size:=by trivial
   have g:t.place[i]=j:=by trivial
   have n:¬i<jn t.place j:=λz=>by grind
   have f:jn t.place j<t.place.size:=∅
   have m:=b2 _ f (bc _);have:jn t.place j=i:=by
    by_cases q:jn t.place j=i
    .exact q
    .have:=ze.mp a _ i (by trivial) (by trivial) ∅
     grind
   exact b (by rw[this,mq c,g])
  .rw[if_neg (~~~b),h];rfl
noncomputable def stp(a i p:Nat):j5:={j:=i,more:=fk a i-i,i:=i,perturb:=p,dummy:=ac}
noncomputable def pth(t:cj):Nat->j5->j5
 |0,p=>p
 |n+1,p=>pth t n (t.advance p)
theorem pth_add(t:cj):∀(m n:Nat) (p:j5),pth t (m+n) p=pth t n (pth t m p)
 |0,n,p=>by rw[nZ];rfl
 |m+1,n,p=>by rw[JD];exact pth_add t m n _
theorem pth_succ(t:cj)(n:Nat)(p:j5):pth t (n+1) p=t.advance (pth t n p):=pth_add t n 1 p
theorem adv_dummy(t:cj)(p:j5):(t.advance p).dummy=p.dummy:=by unfold Df;split <;> rfl
theorem pth_dummy(t:cj):∀(n:Nat) (p:j5),(pth t n p).dummy=p.dummy
 |0,p=>rfl
 |n+1,p=>(pth_dummy t n _).trans (adv_dummy t p)
theorem pth_mask{t a:cj}(h:t.mask=a.mask):∀(n:Nat) (p:j5),pth t n p=pth a n p
 |0,p=>rfl
 |n+1,p=>by
  have:t.advance p=a.advance p:=by unfold Df;rw[h]
  show pth t n (t.advance p)=pth a n (a.advance p);rw[this,pth_mask h n]
theorem pth_run(t:cj):∀(k:Nat) (p:j5),k<=p.more->pth t k p={p with j:=p.j+k,more:=p.more-k}
 |0,p,_=>rfl
 |k+1,p,h=>by
  show pth t k (t.advance p)=_;have:t.advance p={p with j:=p.j+1,more:=p.more-1}:=by unfold Df;lia
  rw[this,pth_run t k _ (by dsimp only;lia)];lia
theorem run_le(a i:Nat):fk a i-i<=9:=by unfold fk;split <;> simp
theorem pth_leap(t:cj)(i p:Nat):pth t (fk t.mask i-i+1) (stp t.mask i p)=stp t.mask (mv t.mask i p).1 (mv t.mask i p).2:=by rw[pth_succ,pth_run t (fk t.mask i-i) (stp t.mask i p) (bc _)];exact(if_neg (show ¬(fk t.mask i-i-(fk t.mask i-i) > 0) by simp)).trans rfl
theorem pth_orb(t:cj):∀(m i p:Nat),∃n,n<=10*m/\pth t n (stp t.mask i p)=stp t.mask (eQ t.mask m i p).1 (eQ t.mask m i p).2
 |0,i,p=>⟨0,bc _,rfl⟩
 |m+1,i,p=>by obtain⟨n,b,a⟩:=pth_orb t m (mv t.mask i p).1 (mv t.mask i p).2;refine⟨fk t.mask i-i+1+n,by have:=run_le t.mask i;lia,?_⟩;rw[pth_add,pth_leap];trivial
theorem nat_len_sub:∀{l m:List Nat},l.Nodup->(∀x∈l,x∈m)->l.length<=m.length
 |[],m,_,_=>gn _
 |x::l,m,b,h=>by
  have d:x∈m:=h x (i4 ..);have a:=ik.mp b;have:=nat_len_sub (l:=l) (m:=m.erase x) a.2 λy c=>by
   grind
  grind
theorem bits_lt(h:Int):e7 h<2^64:=by unfold e7;lia
theorem pth_empty(ok:TOk t)(h:Int):∃n,n<=10*(t.mask+14)/\(pth t n (t.probeStart h)).j∉t.place.toList:=by
 obtain⟨q,o⟩:=ok.pow;have:∃y,y<t.mask+1/\y∉t.place.toList:=by
  by_cases z:∃y,y<t.mask+1/\y∉t.place.toList
  .exact z
  .have:=nat_len_sub (l:=cu (t.mask+1)) (m:=t.place.toList) List.nodup_range λx i=>by
    simp_all
   have:=ok.roomy
   grind
 obtain⟨y,g,r⟩:=this;obtain⟨n,j,e⟩:=Ie q (eQ t.mask 13 (e7 h % (t.mask+1)) (e7 h)).1 y ⋯;have a:(eQ t.mask 13 (e7 h % (t.mask+1)) (e7 h)).2=0:=by rw[Bc];exact Nat.div_eq_of_lt (gH (bits_lt h) (by simp))
 have f:(eQ t.mask (13+n) (e7 h % (t.mask+1)) (e7 h)).1<t.mask+1:=by rw[show 13+n=(12+n)+1 by lia];exact BW t.mask _ _ _
 have d:(eQ t.mask (13+n) (e7 h % (t.mask+1)) (e7 h)).1=y:=by
  have c:(eQ t.mask (13+n) (e7 h % (t.mask+1)) (e7 h)).1 % (t.mask+1)=y:=by rw[Aa,a,A8];simp_all
  rwa[Da f]at c
 obtain⟨k,p,b⟩:=pth_orb t (13+n) (e7 h % (t.mask+1)) (e7 h);refine⟨k,∅,?_⟩;show(pth t k (stp t.mask (e7 h % (t.mask+1)) (e7 h))).j∉_;rw[b];show(eQ t.mask (13+n) _ _).1∉_;rw[d];trivial
theorem least{p:Nat->Prop}:∀(n:Nat),p n->∃m,m<=n/\p m/\∀k,k<m->¬p k
 |0,h=>⟨0,bc _,h,λk d=>absurd d (nY _)⟩
 |n+1,h=>by
  by_cases z:∃m,m<=n/\p m/\∀k,k<m->¬p k
  .obtain⟨m,a,b,c⟩:=z;exact⟨m,∅,b,c⟩
  .refine⟨n+1,bc _,h,λk d f=>z ?_⟩;obtain⟨m,a,b,c⟩:=least k f
   grind
theorem go_met{t:cj}(j:t.dummies=#[])(b:t.place.toList.Pairwise (· < ·))(qH:Nat->Int)(h:Int):∀(d n:Nat) (p:j5),n<d->p.dummy=ac->(pth t n p).j∉t.place.toList->(∀k,k<n->(pth t k p).j∈t.place.toList) -> ((vT t qH h d p=aa (.empty (pth t n p).j ac)/\∀k i,k<n->t.place[i]?=aa (pth t k p).j->t.slot (pth t k p).j=.live i->qH i≠h) \/ ∃m i,m<n/\t.place[i]?=aa (pth t m p).j/\t.slot (pth t m p).j=.live i/\qH i=h/\vT t qH h d p=aa (.candidate (pth t m p).j i (pth t (m+1) p))/\∀k i,k<m->t.slot (pth t k p).j=.live i->qH i≠h)
 |0,n,p,hf,_,_,_=>absurd hf (nY _)
 |d+1,0,p,hf,hd,he,_=>by
  left;refine⟨?_,λk i c=>absurd c (nY _)⟩;rcases slot_of j b p.j with⟨_,e⟩|⟨i,e,_⟩
  .unfold vT;rw[e,hd];rfl
  .exact absurd (oV (show t.place.toList[i]?=aa p.j by simpa using e)) he
 |d+1,n+1,p,hf,hd,he,hb=>by
  rcases slot_of j b p.j with⟨e,_⟩|⟨i,e1,e2⟩
  .exact absurd (hb 0 (tL _)) e
  .unfold vT;rw[e2];dsimp only;by_cases g:qH i=h
   .right;refine⟨0,i,tL _,e1,e2,g,?_,λk i c=>absurd c (nY _)⟩;rw[if_pos (~~~g)];rfl
   .rw[if_neg (~~~g)];rcases go_met j b qH h d n (t.advance p) ∅ ((adv_dummy t p).trans hd) he (λk c=>hb (k+1) ∅)with⟨g1,g2⟩|⟨m,a,g1,g2,g3,g4,g5,g6⟩
    .refine .inl ⟨g1,λk a c l f=>?_⟩;cases k with
     |zero=>
      have:a=i:=by have o:t.slot p.j=.live a:=f;lia
      lia
     |succ k=>exact g2 k a ∅ l f
    .refine .inr ⟨m+1,a,∅,g2,g3,g4,g5,λk a c f=>?_⟩;cases k with
     |zero=>
      have:a=i:=by have o:t.slot p.j=.live a:=f;lia
      lia
     |succ k=>exact g6 k a ∅ f
theorem ins_list(xs:Array a)(p:Nat)(x:a):(qC xs p x).toList=xs.toList.take p++x::xs.toList.drop p:=by unfold qC;simp[Array.toList_append,Jo,Array.toList_extract,List.extract,fZ];exact mn (by simp)
theorem zip_ins{d c:Type}{a:List d}{b:List c}(h:a.length=b.length)(p:Nat)(x:d)(y:c)(q:d×c):q∈(a.take p++x::a.drop p).zip (b.take p++y::b.drop p)↔q=(x,y)\/q∈a.zip b:=by
 rw[List.zip_append (by simp[h]),lu,JE,bQ];have:a.zip b=(a.take p).zip (b.take p)++(a.drop p).zip (b.drop p):=by rw[<-List.zip_append (by simp[h]),o7,o7]
 grind
noncomputable def Rch(t:cj)(a:List Nat)(j:Nat)(h:Int):Prop:=∃n,(pth t n (t.probeStart h)).j=j/\∀k,k<n->(pth t k (t.probeStart h)).j∈a
structure TPl(t:cj)(hs:List Int):Prop where
 ok:TOk t
 len:t.place.size=hs.length
 rch:∀q∈t.place.toList.zip hs,Rch t t.place.toList q.1 q.2
theorem put_ris{a:Array Nat}(b:a.toList.Pairwise (· < ·))(g:j∉a.toList):(qC a (jn a j) j).toList.Pairwise (· < ·):=by
 obtain⟨h,b1,b2⟩:=below_ok b j;rw[ins_list];have up:∀y∈a.toList.drop (jn a j),j<y:=λy c=>by
  obtain⟨k,f,e⟩:=vR c
  grind
 have dn:∀x∈a.toList.take (jn a j),x<j:=λx d=>by
  obtain⟨k,f,e⟩:=vR d
  grind
 refine List.pairwise_append.mpr ⟨b.sublist (List.take_sublist _ _),jH.mpr ⟨up,b.sublist (List.drop_sublist _ _)⟩,λx d y c=>?_⟩
 grind
theorem Rch.up{t t':cj}(b:t.mask=t'.mask)(g:∀x∈c,x∈a)(r:Rch t c j h):Rch t' a j h:=by
 obtain⟨n,e,f⟩:=r;have d:t'.probeStart h=t.probeStart h:=by unfold SetTable.probeStart;rw[b]
 exact⟨n,by rw[d,<-pth_mask b];exact e,λk i=>by rw[d,<-pth_mask b];exact g _ (f k i)⟩
theorem put_tp(T:TPl t a)(h:Int)(m:(pth t n (t.probeStart h)).j∉t.place.toList)(o:∀k,k<n->(pth t k (t.probeStart h)).j∈t.place.toList)(r:(pth t n (t.probeStart h)).j<=t.mask):let t':=(t.put (pth t n (t.probeStart h)).j).1
  let c:=a.take (t.put (pth t n (t.probeStart h)).j).2++h::a.drop (t.put (pth t n (t.probeStart h)).j).2
  t'.dummies=#[]/\t'.place.toList.Pairwise (· < ·)/\(∀j∈t'.place.toList,j<=t'.mask)/\t'.mask=t.mask/\t'.place.size=t.place.size+1/\c.length=a.length+1 /\
   ∀q∈t'.place.toList.zip c,Rch t' t'.place.toList q.1 q.2:=by
 intro t' c;have f:t'.place.toList=t.place.toList.take (jn t.place (pth t n (t.probeStart h)).j)++(pth t n (t.probeStart h)).j::t.place.toList.drop (jn t.place (pth t n (t.probeStart h)).j):=ins_list _ _ _;have mem:∀x,x∈t'.place.toList↔x=(pth t n (t.probeStart h)).j\/x∈t.place.toList:=λx=>by
  rw[f,lu,bQ];have:=congrArg (x∈·) (o7 (jn t.place (pth t n (t.probeStart h)).j) t.place.toList)
  grind
 have g:t'.mask=t.mask:=rfl;have p:t.place.toList.length=a.length:=by have:=T.len;trivial
 refine⟨?_,put_ris T.ok.ris m,λj d=>?_,rfl,?_,?_,λq b=>?_⟩
 .show(if SetTable.has t.dummies _ then _ else t.dummies)=#[];rw[T.ok.dm];rfl
 .rcases(mem j).mp d with rfl|d
  .trivial
  .exact T.ok.le j d
 .rw[<-sT,f];simp;lia
 .grind
 .rw[f]at b;rcases(zip_ins p _ _ _ q).mp b with rfl|b
  .exact⟨n,by rw[pth_mask g];rfl,λk l=>by rw[pth_mask g];exact(mem _).mpr (.inr (o k l))⟩
  .exact(T.rch q b).up g.symm λx i=>(mem x).mpr (.inr i)
theorem adv_le{t:cj}{p:j5}(h:p.j+p.more<=t.mask):(t.advance p).j+(t.advance p).more<=t.mask:=by
 unfold Df;split
 .dsimp only;lia
 .show(mv t.mask p.i p.perturb).1+(fk t.mask (mv t.mask p.i p.perturb).1-(mv t.mask p.i p.perturb).1)<=t.mask;have:(mv t.mask p.i p.perturb).1<t.mask+1:=nX _ (tL _);generalize (mv t.mask p.i p.perturb).1=i at *;unfold fk;split <;> lia
theorem pth_le{t:cj}:∀(n:Nat) {p:j5},p.j+p.more<=t.mask->(pth t n p).j+(pth t n p).more<=t.mask
 |0,p,h=>h
 |n+1,p,h=>pth_le n (adv_le h)
theorem stp_le(h:i<a+1):(stp a i p).j+(stp a i p).more<=a:=by show i+(fk a i-i)<=a;unfold fk;split <;> lia
theorem start_le(t:cj)(h:Int)(n:Nat):(pth t n (t.probeStart h)).j<=t.mask:=by have:=pth_le (t:=t) n (p:=t.probeStart h) (stp_le (p:=e7 h) (nX (e7 h) (tL t.mask)));lia
noncomputable def Occ(a:Array (Option Nat))(j:Nat):Prop:=∃k,a[j]?=aa (aa k)
theorem free_path(t:cj){a:Array (Option Nat)}(s:a.size=t.mask+1):∀(g i p j:Nat),i<t.mask+1->tN t.mask a g i p=aa j -> ∃n,(pth t n (stp t.mask i p)).j=j/\∀k,k<n->Occ a (pth t k (stp t.mask i p)).j
 |0,i,p,j,_,h=>by trivial
 |g+1,i,p,j,hi,h=>by
  have c:∀k,k<=fk t.mask i-i->(a.getD (i+k) (aa 0)).isNone=am->Occ a (i+k):=λk d e=>by
   have r:i+k<a.size:=by have:=stp_le (p:=p) hi;have:i+(fk t.mask i-i)<=t.mask:=this;lia
   rw[Db,mq r]at e;unfold Occ;rw[mq r];cases q:a[i+k]with
   |none=>simp_all
   |some v=>lia
  have b:∀k,k<=fk t.mask i-i->(pth t k (stp t.mask i p)).j=i+k:=λk d=>by rw[pth_run t k (stp t.mask i p) d];rfl
  unfold tN at h;cases q:(cu (fk t.mask i+1-i)).find? (λk=>(a.getD (i+k) (aa 0)).isNone)with
  |some k=>
   rw[q]at h;cases h;obtain⟨_,f,bs,o,A⟩:=List.find?_eq_some_iff_append.mp q;have d:k<fk t.mask i+1-i:=kE.mp (List.mem_of_find?_eq_some q);refine⟨k,b k nofun,λm w=>?_⟩;rw[b m nofun];refine c m nofun ?_;have:m∈f:=by
    have x:f.length=k:=by have:=congrArg (λl=>l[f.length]?) o;simp only[vF (bc _),C5,List.getElem?_cons_zero]at this;rw[c_]at this;obtain⟨y,e⟩:=this;rw[List.getElem_range]at e;exact e
    have:=congrArg (λl=>l[m]?) o;rw[jG ⋯,CI ∅]at this;exact oV this.symm
   simp_all
  |none=>
   rw[q]at h;obtain⟨n,z,f2⟩:=free_path t s g _ _ j (nX _ (tL _)) h;refine⟨fk t.mask i-i+1+n,by rw[pth_add,pth_leap];trivial,λk d=>?_⟩;by_cases u:k<fk t.mask i-i+1
   .rw[b k ∅];refine c k ∅ ?_;have:=List.find?_eq_none.mp q k (kE.mpr (by unfold fk at u ⊢;lia));exact C3.mpr this
   .have e:k=fk t.mask i-i+1+(k-(fk t.mask i-i+1)):=⋯
    rw[e,pth_add,pth_leap];exact f2 _ ∅
noncomputable def LaidR(t:cj)(a:Array (Option Nat))(b:List Int):Prop:=∀(j k:Nat),a[j]?=aa (aa k)->∃h,b[k]?=aa h/\∃n,(pth t n (t.probeStart h)).j=j/\∀m,m<n->Occ a (pth t m (t.probeStart h)).j
theorem layClean_ok2(t:cj)(y:t.mask+1=2^q)(f:Array Int)(G:f.size<=t.mask):∃a,CP t.mask f=aa a/\Laid t.mask a f.size/\LaidR t a f.toList:=by
 unfold CP;have i:∀(l b:List Int) (a:Array (Option Nat)),Laid t.mask a b.length->LaidR t a b->b.length+l.length<=t.mask+1->∃c,l.foldl (λo h=>do
   let (a,k) <-o
   let j <-tN t.mask a (tO t.mask) (e7 h % (t.mask+1)) (e7 h)
   pure (a.setIfInBounds j (aa k),k+1)) (aa (a,b.length))=aa (c,(b++l).length)/\Laid t.mask c (b++l).length/\LaidR t c (b++l):=by
  intro l
  induction l with
  |nil=>intro b a L R _;rw[gJ];exact⟨a,rfl,L,R⟩
  |cons h l w=>
   intro b a L R z;simp only[cI]at z;obtain⟨j,C,L2⟩:=Tu y L ∅ h;obtain⟨n,r,s⟩:=free_path t L.1 _ _ _ _ (nX _ (tL _)) C;have A:j<a.size:=by rw[L.1,<-r];exact Nat.lt_succ_of_le (start_le t h n)
   have grow:∀x,Occ a x->Occ (a.setIfInBounds j (aa b.length)) x:=λx ⟨k,e⟩=>by
    unfold Occ;rw[Array.getElem?_setIfInBounds];by_cases d:j=x
    .rw[if_pos d,if_pos ∅];exact⟨_,rfl⟩
    .rw[if_neg d];trivial
   have R2:LaidR t (a.setIfInBounds j (aa b.length)) (b++[h]):=λx k e=>by
    rw[Array.getElem?_setIfInBounds]at e;by_cases d:j=x
    .subst d;rw[if_pos rfl,if_pos ⋯]at e;cases e;exact⟨h,by simp,n,r,λm g=>grow _ (s m g)⟩
    .rw[if_neg d]at e;obtain⟨B,F,u,E,D⟩:=R x k e;have v:k<b.length:=(c_.mp F).1;exact⟨B,by rw[jG v];trivial,u,E,λm g=>grow _ (D m g)⟩
   have p:Laid t.mask (a.setIfInBounds j (aa b.length)) (b++[h]).length:=by rw[ef];trivial
   obtain⟨c,e,I,H⟩:=w (b++[h]) _ p R2 (by simp;lia);simp_all
 obtain⟨c,e,L,R⟩:=i f.toList [] (Array.replicate (t.mask+1) ac) ⟨by simp,by simp⟩ (λj k e=>by
  rw[Array.getElem?_replicate]at e;split at e <;> cases e) (by simp;lia)
 simp_all
theorem laid_tp(finger moves:Nat)(led plain:Bool)(M:mask+1=2^q)(I:mask∈[7,31,127,511,2047,8191])(b:Array (Int×ah))(hn:b.size*5<mask*3):∃t c,CO mask finger moves led plain (b.map (·.1))=aa (t,c)/\t.led=led/\t.plain=plain/\t.mask=mask/\t.moves=moves/\(c.filterMap (b[·]?)).toList.Perm b.toList/\TPl t ((c.filterMap (b[·]?)).toList.map (·.1)):=by
 let t0:cj:={mask:=mask,place:=#[],dummies:=#[],finger:=finger,led:=led,moves:=moves,plain:=plain}
 obtain⟨a,e,L,R⟩:=layClean_ok2 t0 (q:=q) M (b.map (·.1)) (by grind)
 let live:=(cu (mask+1)).filterMap λj=>(a.getD j ac).map (j,·)
 let t:cj:={mask:=mask,place:=(live.map (·.1)).toArray,dummies:=#[],finger:=finger,led:=led,moves:=moves,plain:=plain}
 have Q:CO mask finger moves led plain (b.map (·.1))=aa (t,(live.map (·.2)).toArray):=by unfold CO;have W:CP mask (b.map (·.1))=aa a:=e;rw[W];rfl
 have g:∀x:Nat×Nat,x∈live↔x.1<mask+1/\a[x.1]?=aa (aa x.2):=λx=>by
  show x∈(cu (mask+1)).filterMap _↔_;rw[yQ];constructor
  .rintro⟨j,u,e⟩;have v:j<a.size:=by rw[L.1];exact kE.mp u
   rw[Db,mq v]at e;simp only[Option.getD_some,lE]at e;obtain⟨k,T,rfl⟩:=e;exact⟨kE.mp u,by rw[mq v,T]⟩
  .rintro⟨E,D⟩;exact⟨x.1,kE.mpr E,by simp_all⟩
 have S:live.map (·.2)=a.toList.filterMap id:=by
  show((cu (mask+1)).filterMap _).map _=_;rw[Jw];have:a.toList=(cu (mask+1)).map λj=>a.getD j ac:=by
   refine za λi=>?_;rw[jl];by_cases C:i<mask+1
   .rw[CI C];simp[Db,show i<a.size by rw[L.1];trivial]
   .rw[tF (by rw[sT,L.1];ac_rfl),tF (~~~C)];rfl
  rw[this,List.filterMap_map];refine fm_congr' λj _=>?_;show Option.map (λx=>x.snd) (Option.map (λx=>(j,x)) (a.getD j ac))=a.getD j ac;cases a.getD j ac <;> rfl
 have d:(live.map (·.2)).Perm (cu b.size):=by rw[S];have:=L.2;simpa using this
 have X:∀k∈live.map (·.2),k<b.size:=λk z=>kE.mp (d.mem_iff.mp z);have s:∀l:List (Nat×Nat),(∀x∈l,x.2<b.size)->((l.map (·.2)).filterMap (b[·]?)).map (·.1)=l.map λx=>((b[x.2]?).map (·.1)).getD 0:=by
  intro l
  induction l with
  |nil=>intro _;rfl
  |cons x r Z=>grind
 have F:∀x∈live,x.2<b.size:=λx f=>X _ (b8.mpr ⟨x,f,rfl⟩);have o:(((live.map (·.2)).toArray).filterMap (b[·]?)).toList=(live.map (·.2)).filterMap (b[·]?):=by simp
 have Y:((live.map (·.2)).filterMap (b[·]?)).Perm b.toList:=by have:=d.filterMap (b[·]?);rwa[filterMap_getElem?_range]at this
 have p:live.length=b.size:=by have:=d.length_eq;simpa using this
 have w:∀x,Occ a x->x∈t.place.toList:=λx ⟨k,z⟩=>by
  show x∈(live.map (·.1)).toArray.toList;have f:x<mask+1:=by have:=(qA.mp z).1;rw[L.1]at this;trivial
  simp_all
 refine⟨t,_,Q,rfl,rfl,rfl,rfl,by rw[o];trivial,⟨⟨rfl,?_,λj u=>?_,I,?_⟩,?_,λx f=>?_⟩⟩
 .show(live.map (·.1)).Pairwise (· < ·);have sub:(live.map (·.1)).Sublist (cu (mask+1)):=by show(((cu (mask+1)).filterMap _).map _).Sublist _;rw[Jw];refine fm_sub _ λj k e=>?_;simp_all
  exact List.pairwise_lt_range.sublist sub
 .have v:j∈live.map (·.1):=u;obtain⟨x,f,rfl⟩:=b8.mp v;exact Nat.le_of_lt_succ ((g x).mp f).1
 .show(live.map (·.1)).toArray.size*5<mask*3;simp[p];trivial
 .rw[o];show(live.map (·.1)).toArray.size=_;rw[s live F];simp
 .rw[o,s live F]at f;have B:x∈(live.map (·.1)).zip (live.map λx=>((b[x.2]?).map (·.1)).getD 0):=f;rw[List.zip_map']at B;obtain⟨y,J,rfl⟩:=b8.mp B;obtain⟨E,D⟩:=(g y).mp J;obtain⟨h,P,n,O,N⟩:=R _ _ D;have A:((b[y.2]?).map (·.1))=aa h:=by have:(b.map (·.1)).toList[y.2]?=aa h:=P;simpa using this
  show Rch t t.place.toList y.1 (((b[y.2]?).map (·.1)).getD 0);rw[A];have H:t0.mask=t.mask:=rfl;refine Rch.up (t:=t0) H (λx f=>f) ⟨n,O,λm G=>w _ (N m G)⟩
where
 fm_congr' {α β:Type}{f g:α->Option β}:∀{l:List α},(∀k∈l,f k=g k)->l.filterMap f=l.filterMap g
  |[],_=>rfl
  |x::l,h=>by rw[mf,mf,h x (i4 ..),fm_congr' λk hk=>h k (fE _ hk)]
 fm_sub {f:Nat->Option Nat}:∀(l:List Nat),(∀j k,f j=aa k->k=j)->(l.filterMap f).Sublist l
  |[],_=>.slnil
  |x::l,h=>by
   rw[mf];cases q:f x with
   |none=>exact(fm_sub l h).cons _
   |some k=>rw[h x k q];exact(fm_sub l h).cons₂ _
section
variable{P:aS}{w:aJ}{A:aY}{E:ah->ao->Prop}{s:ao}
structure Keyd(P:aS)(w:aJ)(K:Type)[DecidableEq K] where
 is:aA->K->ah->Prop
 hash:K->Int
 room:aY->Prop
 keep:∀{h h':aA}{k:K}{v:ah},is h k v->(∀b o,h.get? b=aa o->o.cls=.type "tuple"->h'.get? b=aa o)->is h' k v
 ref:∀{h:aA}{k:K}{v:ah},is h k v->∃a o,v=.ref a/\h.get? a=aa o
 eqBool:∀{A:aY}{E:ah->ao->Prop}{s:ao}{x y:K}{u v:ah}{Q:Bool->ao->Prop},room A->is s.heap x u->is s.heap y v->Q (decide (x=y)) s->au (ax P w) A (PySem.eqBool u v) Q E s
 quiet:∀{A:aY}{E:ah->ao->Prop}{s:ao}{k:K}{v:ah}{Q:Bool->ao->Prop},is s.heap k v->Q ai s->au (ax P w) A (vU 8 v) Q E s
 cls:∀{A:aY}{E:ah->ao->Prop}{s:ao}{k:K}{v:ah}{Q:Bool->ao->Prop},is s.heap k v->Q am s->au (ax P w) A (vV 8 v) Q E s
 hbv:∀{A:aY}{E:ah->ao->Prop}{s:ao}{k:K}{v:ah}{Q:Bool->ao->Prop},is s.heap k v->Q am s->au (ax P w) A (vW 8 v) Q E s
variable{K:Type}[DecidableEq K]{kd:Keyd P w K}
noncomputable def Els(kd:Keyd P w K)(h:aA)(a:List (Int×ah))(ks:List K):Prop:=a.length=ks.length/\∀q∈a.zip ks,q.1.1=kd.hash q.2/\kd.is h q.2 q.1.2
theorem seen_not(i:kd.is s.heap k x):∀(c:List ah),(∀y∈c,∃k,kd.is s.heap k y)->∀{Q:Bool->ao->Prop},Q am s->au (ax P w) A (JF x c) Q E s:=by
 intro c m Q q;unfold JF;refine aq ?_;refine vX _ (λrest r d=>r.1=ac/\d=s/\∀y∈rest,∃k,kd.is s.heap k y) _ ?_ ?_ _ _ ⟨rfl,rfl,m⟩
 .rintro y rest r d ⟨j,rfl,g⟩;obtain⟨u,f⟩:=g y i4;have next:∀z,z=(ForInStep.yield ((ac:Option Bool),()):ForInStep (Option Bool×Unit))->(∃l,z=ForInStep.yield l/\l.1=ac):=λz e=>⟨_,e,rfl⟩
  obtain⟨a,o,rfl,v⟩:=kd.ref i;obtain⟨b,t,rfl,B⟩:=kd.ref f;dsimp only;split
  .exact aE ⟨rfl,rfl,λz h=>g z (fE _ h)⟩
  .refine aq (kd.quiet i ?_);simp only[mr,fG,if_false];refine aq (kd.quiet f ?_);simp only[mr,fG,if_false];refine aq (kd.cls i ?_);simp only[fG,if_false];refine aq (kd.cls f ?_);simp only[fG,if_false];exact aE ⟨rfl,rfl,λz h=>g z (fE _ h)⟩
 .rintro⟨p,n⟩ d ⟨j,rfl,_⟩;simp only at j;subst j;exact aE q
theorem search_eq(a:ae)(x:ah)(h:Int)(b:Bool)(l:Nat)(c:Option j5):tP a x h b (l+1) c=(do
  let (es,_,t) <-setState a
  if t.gaveWay then lH "set:on-a-table-that-gave-way"
  let aa met:=t.probe (λi=>(es[i]?.map (·.1)).getD 0) h (c.getD (t.probeStart h))|lH "internal:set-table-without-an-empty-slot"
  match met with
  |.empty j f=>
   match f with
   |none=>return .free j am
   |some d=>
    if b&&t.slot d != .dummy then rule "set.search.the-dummy-was-taken";return <-tP a x h b l ac
    return .free d ai
  |.candidate j i next=>
   if !t.led then
    if <-JF x ((es.filter (·.1 == h)).toList.map (·.2))then lH "set:the-search-would-show-the-table"
   let aa (_,y):=es[i]?|lH "internal:set-entry"
   let equal <-lv [y] (eqBool y x)
   let (es',_,t') <-setState a
   if b&&equal then return .there ac
   let aa same:=t'.sameMemory t.moves t.mask|lH "set.changed-during-lookup:is-the-new-block-at-the-old-address"
   let still <-match (if same then t'.slot j else .empty)with
    |.live g=>match es'[g]? with
     |some (_,m)=>do pure (if <-isSame m y then aa g else ac)
     |none=>pure ac
    |_=>pure ac
   match still with
   |none=>rule "set.search.anew";tP a x h b l ac
   |some g=>if equal then return .there (aa g)else tP a x h b l (aa next)):=rfl
theorem same_self(h:s.heap.get? a=aa o)(q:Q ai s):au (ax P w) A (isSame (.ref a) (.ref a)) Q E s:=by unfold isSame;dsimp only;rw[if_pos (by simp)];exact aE q
theorem live_at(ok:TOk t)(a:i<t.place.size):t.slot t.place[i]=.live i:=by
 rcases slot_of ok.dm ok.ris t.place[i]with⟨e,_⟩|⟨i',e1,e2⟩
 .exact absurd (by simp) e
 .rw[e2];obtain⟨c,b⟩:=qA.mp e1;have:i'=i:=by
   rcases Nat.lt_trichotomy i' i with z|z|z
   .have:=ze.mp ok.ris i' i (by trivial) (by trivial) z;simp at this;simp_all
   .exact z
   .have:=ze.mp ok.ris i i' (by trivial) (by trivial) z;simp at this;simp_all
  rw[this]
theorem searchV(hr:kd.room A)(L:s.heap.get? a=aa {cls:=.type "set",dict:=ac,data:=.set d ep t})(O:t.fits d.size=ai)(T:TPl t (d.toList.map (·.1))) (f:Els kd s.heap d.toList ks) (G:kd.is s.heap k x) (he:(pth t N (t.probeStart (kd.hash k))).j∉t.place.toList) (hb:∀m,m<N->(pth t m (t.probeStart (kd.hash k))).j∈t.place.toList) (hN:N<10*(t.mask+15)) (q1:k∈ks->Q (.there ac) s) (q2:k∉ks->Q (.free (pth t N (t.probeStart (kd.hash k))).j am) s):∀(q m:Nat) (c:Option j5),N-m<q->m<=N->c.getD (t.probeStart (kd.hash k))=pth t m (t.probeStart (kd.hash k)) -> (∀j i g,j<m->t.slot (pth t j (t.probeStart (kd.hash k))).j=.live i->ks[i]?=aa g->g≠k)->au (ax P w) A (tP a x (kd.hash k) ai q c) Q E s
 |0,m,c,h,_,_,_=>absurd h (nY _)
 |q+1,m,c,h1,h2,h3,h4=>by
  rw[search_eq];refine aq (lG L rfl O ?_);dsimp only;have hg:t.gaveWay=am:=by unfold SetTable.gaveWay;have:=T.ok.most.2.2;simp[this]
  rw[hg];simp only[fG,if_false];have cM:∀i j,t.place[i]?=aa j->∃(p:Int×ah) (g:K),d[i]?=aa p/\ks[i]?=aa g/\p.1=kd.hash g/\kd.is s.heap g p.2:=λi j hi=>by
   have bg:i<d.size:=by have:=(qA.mp hi).1;have:=T.len;simp_all
   have M:i<ks.length:=by have:=f.1;simp_all
   refine⟨d[i],ks[i],mq bg,fj M,?_⟩;exact f.2 (d[i],ks[i]) (oV (i:=i) (by rw[CV];simp))
  rcases go_met T.ok.dm T.ok.ris (λi=>((d[i]?).map (·.1)).getD 0) (kd.hash k) (10*tO t.mask) (N-m) (pth t m (t.probeStart (kd.hash k))) (by unfold tO;lia) (pth_dummy t m _)
    (by rw[<-pth_add,show m+(N-m)=N by simp_all];trivial) (λj hj=>by rw[<-pth_add];grind)with⟨g1,g2⟩|⟨n,i,g1,g2,g3,g4,g5,g6⟩
  .have Z:t.probe (λi=>((d[i]?).map (·.1)).getD 0) (kd.hash k) (c.getD (t.probeStart (kd.hash k)))=aa (.empty (pth t N (t.probeStart (kd.hash k))).j ac):=by
    rw[h3];show vT t _ _ _ _=_;rw[g1,<-pth_add,show m+(N-m)=N by simp_all]
   rw[Z];refine aE (q2 λD=>?_);obtain⟨i,hi,ek⟩:=vR D;have u:i<t.place.size:=by have:=T.len;have:=f.1;simp at *;simp_all
   obtain⟨p,g,C,Y,e4,X⟩:=cM i _ (mq u);have W:g=k:=⋯
   subst W;obtain⟨n,F,r2⟩:=T.rch (t.place[i],p.1) (oV (i:=i) (by rw[CV];exact⟨by simp,by rw[jl,Array.getElem?_toList,C];rfl⟩));rw[e4]at F r2;have ju:t.place[i]∈t.place.toList:=by simp
   have hnN:n<N:=by
    grind
   have lP:t.slot (pth t n (t.probeStart (kd.hash g))).j=.live i:=by rw[F];exact live_at T.ok u
   by_cases B:n<m
   .exact h4 n i g B lP Y rfl
   .have:=g2 (n-m) i ∅ (by rw[<-pth_add,show m+(n-m)=n by simp_all,F];simp) (by rw[<-pth_add,show m+(n-m)=n by simp_all];trivial);exact this (by rw[C];trivial)
  .rw[<-pth_add]at g2 g3;have Z:t.probe (λi=>((d[i]?).map (·.1)).getD 0) (kd.hash k) (c.getD (t.probeStart (kd.hash k)))=aa (.candidate (pth t (m+n) (t.probeStart (kd.hash k))).j i (pth t (m+n+1) (t.probeStart (kd.hash k)))):=by rw[h3];show vT t _ _ _ _=_;rw[g5,<-pth_add,<-pth_add,Nat.add_assoc]
   rw[Z];dsimp only;obtain⟨p,g,C,Y,e4,X⟩:=cM i _ g2;have rest:au (ax P w) A (do
     let aa (_,y):=d[i]?|lH "internal:set-entry"
     let equal <-lv [y] (PySem.eqBool y x)
     let (es',_,t') <-setState a
     if ai&&equal then return .there ac
     let aa same:=t'.sameMemory t.moves t.mask|lH "set.changed-during-lookup:is-the-new-block-at-the-old-address"
     let still <-match (if same then t'.slot (pth t (m+n) (t.probeStart (kd.hash k))).j else .empty)with
      |.live l=>match es'[l]? with
       |some (_,y')=>do pure (if <-isSame y' y then aa l else ac)
       |none=>pure ac
      |_=>pure ac
     match still with
     |none=>rule "set.search.anew";tP a x (kd.hash k) ai q ac
     |some l=>if equal then return .there (aa l)else tP a x (kd.hash k) ai q (aa (pth t (m+n+1) (t.probeStart (kd.hash k))))) Q E s:=by
    rw[C];dsimp only;refine aq (ig (kd.eqBool hr X G ?_));refine aq (lG L rfl O ?_);dsimp only;by_cases B:g=k
    .rw[decide_eq_true B];simp only[Bool.and_self,if_true];exact aE (q1 (by subst B;exact oV Y))
    .rw[decide_eq_false B];simp only[vK,fG,if_false];have H:t.sameMemory t.moves t.mask=aa ai:=by unfold SetTable.sameMemory;simp
     rw[H];dsimp only;rw[if_pos rfl,g3];dsimp only;rw[C];dsimp only;obtain⟨b,ob,eb,J⟩:=kd.ref X;rw[eb];refine aq (same_self J ?_);rw[if_pos rfl];refine aq (aE ?_);dsimp only;refine searchV hr L O T f G he hb hN q1 q2 q (m+n+1) _ ∅ ∅ rfl λj l o hj I D=>?_;by_cases c1:j<m
     .exact h4 j l o c1 I D
     .by_cases c2:j=m+n
      .simp_all
      .intro z;subst z;have pb:t.slot (pth t (j-m) (pth t m (t.probeStart (kd.hash o)))).j=.live l:=by rw[<-pth_add,show m+(j-m)=j by simp_all];trivial
       have:=g6 (j-m) l ∅ pb;rcases slot_of T.ok.dm T.ok.ris (pth t j (t.probeStart (kd.hash o))).j with⟨_,y⟩|⟨i2,y1,y2⟩
       .rw[I]at y;cases y
       .rw[I]at y2;injection y2 with z2;subst z2;obtain⟨wH,k2,f2,f3,f4,f5⟩:=cM l _ y1;rw[D]at f3;cases f3;exact this (by rw[f2];trivial)
   cases hl:t.led with
   |true=>simp only[mr,fG,if_false];exact rest
   |false=>
    simp only[vY,if_true];refine aq (seen_not (kd:=kd) G _ (λy hy=>?_) ?_)
    .obtain⟨e,v,rfl⟩:=b8.mp hy;have S:e∈d.toList:=by rw[Array.toList_filter]at v;exact(jF.mp v).1
     obtain⟨r,hi3,e6⟩:=vR S;have hik:r<ks.length:=by rw[<-f.1];trivial
     exact⟨ks[r],by have:=(f.2 (d.toList[r],ks[r]) (oV (i:=r) (by rw[CV];simp))).2;rw[e6]at this;trivial⟩
    .simp only[fG,if_false];exact rest
end
section
variable{P:aS}{w:aJ}{s:ao}{K:Type}[DecidableEq K]
noncomputable def elV(kd:Keyd P w K)(p:K×ah):Int×ah:=(kd.hash p.1,p.2)
structure SetV(kd:Keyd P w K)(h:aA)(a:ae)(ps:List (K×ah)):Prop where
 ex:∃(es:Array (Int×ah)) (ep:Nat) (t:cj) (qs:List (K×ah)),h.get? a=aa {cls:=.type "set",dict:=ac,data:=.set es ep t}/\qs.Perm ps/\es.toList=qs.map (elV kd)/\es.size<4090/\TPl t (es.toList.map (·.1))/\t.led=(!d7 w)/\(ps≠[]->t.plain=am)
variable{kd:Keyd P w K}
theorem SetV.at{h':aA}(S:SetV kd h a b)(k:∀o,h.get? a=aa o->h'.get? a=aa o):SetV kd h' a b:=by obtain⟨es,d,t,c,e,r⟩:=S.ex;exact⟨es,d,t,c,k _ e,r⟩
theorem TPl.fits(T:TPl t a)(b:n=a.length):t.fits n=ai:=by unfold SetTable.fits SetTable.fill;have:=T.len;have:=T.ok.roomy;rw[T.ok.dm];simp;lia
noncomputable def addV(a:List (K×ah))(p:K×ah):List (K×ah):=if p.1∈a.map (·.1)then a else a++[p]
theorem relay_eq(a:ae)(b:Nat):setRelay a b=(do
  let (es,_,t) <-setState a
  if Jm b > bd then lH "set:memory"
  let (es,t) <-(do
   let aa (t,order):=t.relaid (es.map (·.1)) b|lH "internal:set-table-without-room"
   let es':=order.filterMap (es[·]?)
   if es'.size != es.size then lH "internal:set-table-lost-an-element"
   pure (es',t))
  storeSet a es t):=rfl
theorem grow_ok(b:mask∈[7,31,127,511,2047,8191])(f:(n-1)*5<mask*3)(d:mask*3<=n*5)(c:n<4090):∃a q,Jm (nP n)=a+1/\a+1=2^q/\a∈[7,31,127,511,2047,8191]/\n*5<a * 3/\a+1<=bd:=by
 simp only[bQ,jI,or_false]at b;rcases b with e|e|e|e|e|e <;> subst e
 .obtain rfl:n=5:=∅
  exact⟨31,5,by rfl,rfl,by decide,by decide,by decide⟩
 .obtain rfl:n=19:=∅
  exact⟨127,7,by rfl,rfl,by decide,by decide,by decide⟩
 .obtain rfl:n=77:=∅
  exact⟨511,9,by rfl,rfl,by decide,by decide,by decide⟩
 .obtain rfl:n=307:=∅
  exact⟨2047,11,by rfl,rfl,by decide,by decide,by decide⟩
 .obtain rfl:n=1229:=∅
  exact⟨8191,13,by rfl,rfl,by decide,by decide,by decide⟩
 .omega
theorem els_of{a:List (K×ah)}(e:c=a.map (elV kd))(f:∀p∈a,kd.is h p.1 p.2):Els kd h c (a.map (·.1)):=by subst e;refine⟨by simp,λq b=>?_⟩;rw[List.zip_map']at b;obtain⟨p,d,rfl⟩:=b8.mp b;exact⟨rfl,f p d⟩
theorem set_addV(hr:kd.room A)(S:SetV kd s.heap a y)(hk:∀p∈y,kd.is s.heap p.1 p.2)(W:kd.is s.heap k x)(hn:y.length<4000)(h:∀l b,kF a s.heap l->SetV kd l a (addV y (k,x))->Q b {s with heap:=l}):au (ax P w) A (CQ a x (kd.hash k)) Q E s:=by
 obtain⟨f,ep,t,C,Z,hp,ub,hsz,T,mx,cN⟩:=S.ex;have hqk:∀p∈C,kd.is s.heap p.1 p.2:=λp hq=>hk p (hp.mem_iff.mp hq);have els:=els_of ub hqk;have bh:f.size=y.length:=by
  have e1:=congrArg qw ub;have u:=hp.length_eq
  grind
 have hf:t.fits f.size=ai:=T.fits (by simp);have D:k∈C.map (·.1)↔k∈y.map (·.1):=(hp.map (·.1)).mem_iff;obtain⟨o,ox,rfl,hox⟩:=kd.ref W;unfold CQ setAddHashedIn;refine ig (aq (lG Z rfl hf ?_));dsimp only;have hbs:byScan (.ref o) f=am:=by rfl
 rw[hbs];simp only[fG,if_false];obtain⟨N0,hN0,hE0⟩:=pth_empty T.ok (kd.hash k);obtain⟨N,hN,hE,hB⟩:=least (p:=λn=>(pth t n (t.probeStart (kd.hash k))).j∉t.place.toList) N0 hE0;have hB':∀m,m<N->(pth t m (t.probeStart (kd.hash k))).j∈t.place.toList:=λm hm=>Classical.not_not.mp (hB m hm);have h8:=T.ok.most.1;unfold setSearch;refine aq (searchV hr Z hf T els W hE hB' ∅ (λju=>?_) (λY=>?_) 100000 0 ac ∅ (gn _) rfl λj i k' hj=>absurd hj (nY _))
 .refine aE (h s.heap _ (Jn a s.heap) ?_);unfold addV;rw[if_pos (D.mp ju)];exact S
 .dsimp only;refine aq (lG Z rfl hf ?_);dsimp only;have bg:=start_le t (kd.hash k) N;obtain⟨p1,p2,p3,p4,O,M,L⟩:=put_tp T (kd.hash k) hE hB' bg;have G:(t.put (pth t N (t.probeStart (kd.hash k))).j).1.led=t.led:=rfl;have X:(t.put (pth t N (t.probeStart (kd.hash k))).j).2<=f.size:=by
   have:=(below_ok T.ok.ris (pth t N (t.probeStart (kd.hash k))).j).1;have e:t.place.size=f.size:=by have:=T.len;simpa using this
   rw[<-e];trivial
  generalize hPut:t.put (pth t N (t.probeStart (kd.hash k))).j=TP at p1 p2 p3 p4 O M L G X ⊢;obtain⟨I,g⟩:=TP;dsimp only at p1 p2 p3 p4 O M L G X ⊢;have DJ:(qC f g (kd.hash k,.ref o)).toList=(C.take g++(k,.ref o)::C.drop g).map (elV kd):=by rw[ins_list,ub,ml,cn,List.map_take,List.map_drop];rfl
  have hhs:(qC f g (kd.hash k,.ref o)).toList.map (·.1)=(f.toList.map (·.1)).take g++kd.hash k::(f.toList.map (·.1)).drop g:=by rw[ins_list,ml,cn,List.map_take,List.map_drop]
  have uc:(C.take g++(k,Value.ref o)::C.drop g).Perm (addV y (k,.ref o)):=by unfold addV;rw[if_neg (λz=>Y (D.mpr z))];refine JG.trans ?_;rw[o7];exact(hp.cons _).trans (List.perm_append_singleton _ _).symm
  have Dy:(qC f g (kd.hash k,.ref o)).size=f.size+1:=by
   grind
  have ce:addV y (k,Value.ref o)≠[]:=by unfold addV;simp_all
  rw[<-hhs]at M L;generalize hes2:qC f g (kd.hash k,Value.ref o)=es1 at DJ hhs Dy M L ⊢;have B:∀c:cj,c={I with plain:=am}->au (ax P w) A (do
    storeSet a es1 c
    if(!am&&c.tooFull)=ai then do
      setRelay a (nP (f.size+1))
      pure ai
     else pure ai) (λr s'=>∃l,r=ai/\s'={s with heap:=l}/\kF a s.heap l/\SetV kd l a (addV y (k,.ref o))) E s:=by
   intro c u;have gw:c.led=(!d7 w):=by rw[u];exact G.trans mx
   have iq:c.plain=am:=by rw[u]
   have d1:c.dummies=#[]:=by rw[u];trivial
   have d2:c.place=I.place:=by rw[u]
   have d3:c.mask=I.mask:=by rw[u]
   have J:∀q∈c.place.toList.zip (es1.toList.map (·.1)),Rch c c.place.toList q.1 q.2:=λq hq=>by rw[d2]at hq ⊢;exact(L q hq).up d3.symm λx W=>W
   have Dv:c.fill=f.size+1:=by unfold SetTable.fill;rw[d1,d2,O];have:=T.len;simp at this ⊢;omega
   have J4:c.mask∈[7,31,127,511,2047,8191]:=by rw[d3,p4];exact T.ok.sz
   have UO:c.fits es1.size=ai:=by
    unfold SetTable.fits;rw[Dv,Dy,d2,O];have h1:=T.len;have h2:=T.ok.roomy
    grind
   refine aq (CS Z rfl ?_ (CT (oX (show es1.size<4090 by lia) (by decide))));have o1:=jX.put (es':=es1) (t':=c) Z;have iN:=nQ s.heap a (Obj.putSet es1 c);by_cases F:c.tooFull=ai
   .rw[F];simp only[vY,Bool.and_self,if_true];have UJ:c.mask*3<=(f.size+1)*5:=by unfold SetTable.tooFull at F;rw[Dv]at F;simpa using F
    have H:(f.size+1-1)*5<c.mask*3:=by
     have h1:=T.len;have h2:=T.ok.roomy
     grind
    obtain⟨m',q,g1,g2,g3,g4,g5⟩:=grow_ok J4 H UJ ∅;rw[relay_eq];refine aq (aq (lG o1 rfl UO ?_));dsimp only;rw[g1,if_neg ∅];obtain⟨t3,d,f1,f2,f3,f4,f5,f6,f7⟩:=laid_tp (mask:=m') c.finger (c.movedTo m') c.led c.plain g2 g3 es1 ⋯;have er:c.relaid (es1.map (·.1)) (nP (f.size+1))=aa (t3,d):=by unfold SetTable.relaid;rw[g1];exact f1
    rw[er];dsimp only;have zv:(d.filterMap (es1[·]?)).size=es1.size:=by have:=f6.length_eq;omega
    refine aq ?_;rw[if_neg (by rw[zv];simp)];refine aE ?_;dsimp only;obtain⟨v,r1,r2⟩:∃v:List (K×ah),(d.filterMap (es1[·]?)).toList=v.map (elV kd)/\v.Perm (C.take g++(k,Value.ref o)::C.drop g):=by rw[DJ]at f6;exact perm_mapE f6
    refine CS o1 rfl ?_ (CT (oX (show(d.filterMap (es1[·]?)).size<4090 by lia) (by decide)));refine aE ⟨_,rfl,rfl,iN.trans (nQ _ a _),⟨_,_,t3,v,jX.put o1,r2.trans uc,r1,∅,f7,f2.trans gw,λ_=>f3.trans iq⟩⟩
   .rw[C3.mpr F];simp only[vK,fG,if_false];have H:c.place.size*5<c.mask*3:=by
     unfold SetTable.tooFull at F;rw[Dv]at F;have h1:=T.len
     grind
    refine aE ⟨_,rfl,rfl,iN,⟨es1,_,c,_,o1,uc,DJ,∅,⟨⟨d1,by rw[d2];exact p2,by rw[d2,d3];exact p3,J4,H⟩,?_,J⟩,gw,λ_=>iq⟩⟩;rw[d2,O,M];have:=T.len;lia
  split
  .refine aq (kd.hbv W ?_);simp only[fG,if_false];refine aR (B _ rfl) λr s' ⟨l,e1,u,e3,e4⟩=>?_;subst e1 u;exact h l _ e3 e4
  .rename_i Dz;refine aq (aE ?_);simp only[if_true];refine aR (B I (by
    have:I.plain=am:= ~~~Dz
    rw[<-this])) λr s' ⟨l,e1,u,e3,e4⟩=>?_
   subst e1 u;exact h l _ e3 e4
end
section
variable{P:aS}{w:aJ}{A:aY}{E:ah->ao->Prop}{s:ao}
theorem tupTy(h:IsTup s.heap a b):s.TypeIs (.ref a) "tuple":=let ⟨o,ho,hc,_⟩:=h;⟨o,ho,hc⟩
noncomputable def HsAt(P:aS)(w:aJ)(A:aY)(s:ao)(v:ah)(x:Int):Prop :=
 ∀(b:Nat) (E:ah->ao->Prop) (Q:Int->ao->Prop),(∀a,b<=a->Q x {s with toks:=a})->au (ax P w) A (pyHash v) Q E {s with toks:=b}
theorem hash_tup{hs:List (ah×Int)}(y:A.units<cLine)(u:IsTup s.heap a g)(C:g.toList=hs.map (·.1))(D:∀p∈hs,HsAt P w A.in1 s p.1 p.2):HsAt P w A s (.ref a) (vy (nE (hs.map (·.2)))):=λj E Q h=>by
 have l:Shared.TypeIs {s with toks:=j} (.ref a) "tuple":=tupTy u;obtain⟨o,B,_,n,G⟩:=u;unfold pyHash
 first|unfold pyHashByItsType|skip
 first|refine aq (wpAny_cRoomFor_or (.inr y) ?_)|skip
 refine aq (vI l F.slot_tuple_hash.lookup ?_);show au _ _ (if(aa (Value.builtin "tuple.__hash__") == aa Value.none)=ai then _ else _) Q E _;rw[if_neg ⋯];refine aq (vI l F.slot_tuple_hash.lookup ?_);show au _ _ (callSpecialIfBoundUnlessNone? (.ref a) "__hash__" _ >>= _) Q E _;refine aq (wpAny_callSpecialIfBoundUnlessNone?_slot l UA (qy UA l F.entry_tuple_hash ?_ (F.args_tuple_hash_1 _)));show au _ _ (Jf (.ref a) >>= _) _ _ _;refine aq (wpAny_tupleItemsOf (s:={s with toks:=j}) B G ?_);refine aq ?_;rw[<-Dg,C];refine vX _
  (λrest (b:Array Int) t=>∃c d f,hs=c++d/\rest=d.map (·.1)/\b.toList=c.map (·.2)/\j<=f/\t={s with toks:=f})
  _ ?_ ?_ _ _ ⟨[],hs,j,rfl,rfl,rfl,bc _,rfl⟩
 .rintro x rest b t ⟨c,d,f,rfl,q,r,z,rfl⟩;cases d with
  |nil=>cases q
  |cons p d=>
   rw[cn]at q;injection q with h1 v;subst h1 v;refine aq (D p (by simp) f _ _ λi v=>?_)
   first
    |exact aE ⟨c++[p],d,i,by simp,rfl,by simp[r],∅,rfl⟩
    |exact aq (aE (aE ⟨c++[p],d,i,by simp,rfl,by simp[r],∅,rfl⟩))
 .rintro b t ⟨c,d,f,rfl,q,r,z,rfl⟩;have:d=[]:=by simp_all
  subst this;rw[gJ]at h;show au _ _ (retInt (nE b.toList)) _ _ _;rw[r];refine wpAny_ret_mkInt ?_;show au _ _ (if(decide (-(2:Int)^63<=nE (c.map (·.2)))&&decide (nE (c.map (·.2))<2^63))=ai then _ else _) Q E _;unfold vy at h;by_cases m:(decide (-(2:Int)^63<=nE (c.map (·.2)))&&decide (nE (c.map (·.2))<2^63))=ai
  .rw[if_pos m];rw[if_pos m]at h;exact aE (h _ (by simp;lia))
  .rw[if_neg m];rw[if_neg m]at h;exact aq (qD (aE (h _ (by simp;lia))))
theorem hash_str(z:Str)(t:Tok):HsAt P w A s (.str z t) ((gq P w).hash z):=λa E Q h=>(gq P w).pyHash (s:={s with toks:=a}) (k:=z) (by show vx z (.str z t)=ai;simp[vx]) (h _ (CD _))
theorem quiet_tup(i:IsTup s.heap a b)(q:∀v∈b.toList,∀(E:ah->ao->Prop) (Q:Bool->ao->Prop),Q ai s->au (ax P w) A (vU n v) Q E s)(h:Q ai s):au (ax P w) A (vU (n+1) (.ref a)) Q E s:=by
 have f:=tupTy i;obtain⟨o,p,_,m,t⟩:=i;unfold vU;refine aq (vI f F.slot_tuple_eq.lookup ?_);show au _ _ (y4 (.ref a) (.type "tuple") >>= _) _ _ s;refine aq (Ju f isSubtype_tuple_tuple ?_);simp only[mr,fG,if_false];refine aq (tE p t ?_);refine aq ?_;show au _ _ (forIn b _ _) _ _ s;rw[<-Dg];refine vX _ (λrest r c=>r.1=ac/\c=s/\∀v∈rest,v∈b.toList) _ ?_ ?_ _ _ ⟨rfl,rfl,λv l=>l⟩
 .rintro v rest r c ⟨d,rfl,g⟩;refine aq (q v (g v i4) _ _ ?_);simp only[mr,fG,if_false];exact aE ⟨rfl,rfl,λu j=>g u (fE _ j)⟩
 .rintro⟨y,x⟩ c ⟨d,rfl,_⟩;simp only at d;subst d;exact aE h
theorem cls_tup(g:IsTup s.heap a b)(q:∀v∈b.toList,∀(E:ah->ao->Prop) (Q:Bool->ao->Prop),Q am s->au (ax P w) A (vV n v) Q E s)(h:Q am s):au (ax P w) A (vV (n+1) (.ref a)) Q E s:=by
 have j:=tupTy g;obtain⟨o,p,_,m,t⟩:=g;unfold vV;refine aq (sZ j ?_);dsimp only;rw[if_pos (by rfl)];refine aq (aE ?_);simp only[mr,fG,if_false];refine aq (tE p t ?_);dsimp only;refine aq ?_;rw[<-Dg];refine vX _ (λrest r c=>r.1=ac/\c=s/\∀v∈rest,v∈b.toList) _ ?_ ?_ _ _ ⟨rfl,rfl,λv l=>l⟩
 .rintro v rest r c ⟨d,rfl,f⟩;refine aq (q v (f v i4) _ _ ?_);simp only[fG,if_false];exact aE ⟨rfl,rfl,λu i=>f u (fE _ i)⟩
 .rintro⟨y,x⟩ c ⟨d,rfl,_⟩;simp only at d;subst d;exact aE h
theorem hbv_tup(g:IsTup s.heap a b)(e:b.toList=pre++x::post)(z:∀v∈pre,∀(E:ah->ao->Prop) (Q:Bool->ao->Prop),Q ai s->au (ax P w) A (vW n v) Q E s)(l:∀(E:ah->ao->Prop) (Q:Bool->ao->Prop),Q am s->au (ax P w) A (vW n x) Q E s) (h:Q am s):au (ax P w) A (vW (n+1) (.ref a)) Q E s:=by
 have j:=tupTy g;obtain⟨o,B,_,m,C⟩:=g;unfold vW;refine aq (vI j F.slot_tuple_hash.lookup ?_);show au _ _ (seqItems? (.ref a) >>= _) _ _ s;refine aq (tE B C ?_);refine aq ?_;show au _ _ (forIn b _ _) _ _ s;rw[<-Dg,e];refine vX _ (λrest r d=>r.1=ac/\d=s/\∃p,rest=p++x::post/\∀v∈p,v∈pre) _ ?_ ?_ _ _ ⟨rfl,rfl,pre,rfl,λv q=>q⟩
 .rintro v rest r d ⟨t,rfl,p,c,f⟩;cases p with
  |nil=>rw[gM]at c;injection c with h1 h2;subst h1;refine aq (l _ _ ?_);simp only[vY,if_true];exact aE (aE h)
  |cons y p=>rw[vZ]at c;injection c with h1 h2;subst h1;refine aq (z v (f v i4) _ _ ?_);simp only[mr,fG,if_false];exact aE ⟨rfl,rfl,p,h2,λu i=>f u (fE _ i)⟩
 .rintro⟨G,D⟩ d ⟨t,rfl,p,c,_⟩;cases p <;> cases c
theorem tup_uniq(c:IsTup h a x)(b:IsTup h a y):x=y:=by obtain⟨o,e,_,n,d⟩:=c;obtain⟨f,i,_,g,j⟩:=b;lia
theorem strs_uniq:∀{a:List ah}{x y:List Str},cD a x->cD a y->x=y
 |_,_,_,.nil,.nil=>rfl
 |_,_,_,.cons z t h,.cons _ _ b=>by rw[strs_uniq h b]
theorem all_getD{a b:List Str}:((cu (min a.length b.length)).all (λj=>a.getD j kH == b.getD j kH)&&a.length == b.length)=decide (a=b):=by
 rw[vC,gL,tq,decide_eq_true_iff,beq_iff_eq];constructor
 .rintro⟨g,c⟩;refine List.ext_getElem c λi f d=>?_;simp_all
 lia
theorem strs_len(h:cD a b):a.length=b.length:=h.length
theorem eq_strs(u:A.units<cLine)(p:IsTup s.heap b c)(f:cD c.toList i)(n:IsTup s.heap h a)(g:cD a.toList d):vH A s (.ref b) (.ref h) (decide (i=d)):=by
 by_cases o:b=h
 .subst o;obtain rfl:=tup_uniq p n;obtain rfl:=strs_uniq f g;rw[decide_eq_true rfl];exact .same _
 .have m:=strs_len f;have l:=strs_len g;rw[sT]at m l;rw[<-all_getD,<-m,<-l];refine .of_refs o (.tuples p n u λj r q=>?_);obtain⟨t,e⟩:=xU j c[j] f (by simp[r]);obtain⟨x,v⟩:=xU j a[j] g (by simp[q]);rw[e,v];exact Jh _ _ _ _
theorem tup_kept{d:aA}(f:IsTup h a x)(k:∀b o,h.get? b=aa o->o.cls=.type "tuple"->d.get? b=aa o):IsTup d a x:=by obtain⟨o,e,c,r⟩:=f;exact⟨o,k a o e c,c,r⟩
theorem strs_pairs(h:cD a b):a=(a.zip (b.map (gq P w).hash)).map (·.1)/\(a.zip (b.map (gq P w).hash)).map (·.2)=b.map (gq P w).hash/\∀p∈a.zip (b.map (gq P w).hash),HsAt P w A s p.1 p.2:=by
 induction h with
 |nil=>simp
 |cons z t _ d=>
  obtain⟨i,g,f⟩:=d;rw[cn,JE,cn,cn];refine⟨by rw[<-i],by rw[g],λp c=>?_⟩;rcases bQ.mp c with rfl|c
  .exact hash_str z t
  .exact f p c
theorem strs_mem_shape(h:cD a b):∀v∈a,∃z t,v=Value.str z t:=λv c=>h.all v c
end
noncomputable def ltL(a b:List Tx):Bool:=decide (a<b)
theorem ltL_cons(x y:Tx)(xs a:List Tx):ltL (x::xs) (y::a)=if x=y then ltL xs a else decide (x<y):=by
 unfold ltL;by_cases h:x=y
 .simp_all
 .rw[if_neg h,vC,decide_eq_true_iff,decide_eq_true_iff,JH];lia
noncomputable def ordL:KeyOrd where
 α:=List Tx
 blt:=ltL
 irrefl:=λa=>decide_eq_false (List.lt_irrefl a)
 trans:=λa b c g f=>decide_eq_true (List.lt_trans (of_decide_eq_true g) (of_decide_eq_true f))
 negTrans:=λa b c h=>by
  unfold ltL;by_cases i:a<b
  .exact .inl (decide_eq_true i)
  .have d:b<=a:=Dh.mp i;exact .inr (decide_eq_true (List.lt_of_le_of_lt d (of_decide_eq_true h)))
 total:=λa b g f=>List.le_antisymm (Dh.mp (of_decide_eq_false f)) (Dh.mp (of_decide_eq_false g))
section
open PySem.SeqAt
open PySem.AutoSeq1 (wpAny_loadPart')
open PySem.MeetsSeq PySem.MeetsSeq2 PySem.MeetsSeq3
noncomputable def cpsL(a:List Str):List Tx:=a.map λz=>z.cps.toList
theorem cps_inj{x y:Str}(h:x.cps.toList=y.cps.toList):x=y:=by rw[<-AO x,<-AO y,h]
theorem tuple_lt_strs(l b:ae)(i f:Array ah)(n n2:Nat)(dd W:Option ae)(sl L:Array (Option ah))(N O:List Str)(hi:cD i.toList N)(hj:cD f.toList O):Meets (Builtin.«tuple.__lt__» ⟨[.ref l,.ref b],[]⟩) (λ_ R s=>s.heap.get? l=aa {cls:=.type "tuple",dict:=dd,data:=.seq i n,slots:=sl}/\s.heap.get? b=aa {cls:=.type "tuple",dict:=W,data:=.seq f n2,slots:=L} /\ R (.ok (.ret (.bool (ltL (cpsL N) (cpsL O))))) s) :=
 .of_wp λo w A R s h=>by
  obtain⟨B,g,d,r,v⟩:=s;obtain⟨hl,hb,h⟩:=h;have f2:=AutoSeq1.sub_tuple_tuple;have z1:i.size=N.length:=by rw[<-hi.length];simp
  have z2:f.size=O.length:=by rw[<-hj.length];rfl
  wp_walk using il hl,il hb,vX _ (λrest b M=>b.1=ac/\M=⟨B,g,d,r,v⟩/\∃(G F:List ah) (j m:List Str),rest=G.zip F /\ cD G j/\cD F m/\j.length+f.size=m.length+i.size/\R (.ok (.ret (.bool (ltL (cpsL j) (cpsL m))))) ⟨B,g,d,r,v⟩) _
  case turn=>
   rintro⟨y,x⟩ rest b M ⟨P,rfl,G,F,j,m,q,J,p,D,T⟩;cases J with
   |nil=>rw[List.zip_nil_left]at q;cases q
   |cons a t Y=>
    cases p with
    |nil=>rw[List.zip_nil_right]at q;cases q
    |cons c u X=>
     rw[JE]at q;injection q with hyx hrest;injection hyx with hy hx;subst hy hx;rename_i vs1 I vs2 H;have C:R (.ok (.ret (.bool (if a.cps.toList=c.cps.toList then ltL (cpsL I) (cpsL H)else decide (a.cps.toList<c.cps.toList))))) ⟨B,g,d,r,v⟩:=by rw[<-ltL_cons];exact T
     simp only[cI]at D;refine aq (EqAt.str_str a t c u o w _ _ ?_);by_cases e:a=c
     .subst e;rw[if_pos rfl]at C;rw[beq_self_eq_true]
      wp_walk
      grind
     .rw[if_neg (λz=>e (cps_inj z))]at C;rw[beq_false_of_ne e];have S:∀(E:ah->ao->Prop) (Q:ah->ao->Prop),Q (.bool (decide (a.cps.toList<c.cps.toList))) ⟨B,g,d,r,v⟩->au (ax o w) A.in1 (richCompare .Lt (.str a t) (.str c u)) Q E ⟨B,g,d,r,v⟩:=λE Q h=>(PyProof.Rows.lt_str h:au (ax o w) A.in1 (df .Lt (.str a t) (.str c u)) Q E _)
      wp_walk using S
      simp_all
  case fin=>
   rintro⟨b1,b2⟩ M ⟨P,rfl,G,F,j,m,q,J,p,D,T⟩;simp only at P;subst P;have Z:ltL (cpsL j) (cpsL m)=decide (i.size<f.size):=by
    cases J with
    |nil=>
     cases p with
     |nil=>simp only[oY]at D;exact(decide_eq_false (by simp[cpsL])).trans (decide_eq_false ⋯).symm
     |cons c u hw=>simp only[oY,cI]at D;exact(decide_eq_true (by simp[cpsL])).trans (decide_eq_true ⋯).symm
    |cons a t Z=>
     cases p with
     |nil=>simp only[oY,cI]at D;exact(decide_eq_false (by simp[cpsL])).trans (decide_eq_false ∅).symm
     |cons c u hw=>simp_all
   rw[Z]at T
   wp_walk
   exact⟨_,rfl,by assumption⟩
  grind
end
section
variable{P:aS}{w:aJ}{A:aY}{E:ah->ao->Prop}{s:ao}
theorem lt_tupStrs(C:IsTup s.heap l c)(G:IsTup s.heap b a)(F:cD c.toList d)(D:cD a.toList f)(B:A.units<cLine) (h:Q (.bool (ltL (cpsL d) (cpsL f))) s):au (ax P w) A (df .Lt (.ref l) (.ref b)) Q E s:=by
 obtain⟨⟨I,H,u,y⟩,o,q,n,p⟩:=id C;obtain⟨⟨v,i,j,g⟩,t,r,z,m⟩:=id G;simp only at q p r m;subst q p r m;exact richCompare_meets_room (op:=.Lt) ⟨_,o,rfl⟩ ⟨_,t,rfl⟩ PySem.F.slot_tuple_lt PySem.F.entry_tuple_lt (PySem.F.args_tuple_lt_2 _ _) (tuple_lt_strs l b c a n z H i y g d f F D)
  ⟨o,t,show Value.bool (ltL (cpsL d) (cpsL f))≠Value.notImplemented/\Q (.bool (ltL (cpsL d) (cpsL f))) s from⟨(λx=>nomatch x),h⟩⟩ B
theorem cpsL_inj(h:cpsL x=cpsL y):x=y:=by have:=congrArg (List.map tS) h;simpa[cpsL,cU,tI,AO]using this
theorem sorted_genK(hu:A.units+32<cLine)(M:au (ax P w) A.in1 (collect v) (λa c=>∃(κ:KeyKind) (kz:im),(∀v∈a,∃k,κ.keyOf v=aa k)/\a.length<64 /\ (∀(z:aY) (d:aA),z.units+8<cLine->(∀b o,c.heap.get? b=aa o->d.get? b=aa o)->2<=a.length->me κ kz P w z {c with heap:=d}/\∀{E:ah->ao->Prop}{Q:im->ao->Prop},Q kz {c with heap:=d}->au (ax P w) z (keyKind' a.toArray) Q E {c with heap:=d}) /\ ∀(d:aA) (out:Array ah) (e:Nat),(∀b o,c.heap.get? b=aa o->d.get? b=aa o) -> d.get? c.heap.objs.size=aa (eu "list" out e)->out.toList.Perm a->out.toList.Pairwise (λx y=>∀p q,κ.keyOf x=aa p->κ.keyOf y=aa q->κ.blt q p=am)->Q (.ref c.heap.objs.size) {c with heap:=d}) E s):au (ax P w) A (call (.builtin "sorted") [v]) Q E s:=by
 refine Calls.call_function_entry kind_sorted plain_sorted entry_sorted (args_sorted1 _) ?_;unfold Builtin.«sorted»;refine aq (m:=checkCount "sorted" 1 1 _) (aE ?_);refine aq (aR M λa c ⟨κ,kz,N,G,n,u⟩=>?_);refine aq (C9 ?_);have r:(c.heap.push (eu "list" a.toArray 0)).get? c.heap.objs.size=aa (eu "list" a.toArray 0):=cS _ rfl;refine aq (ig (qy slot_list_sort ⟨_,r,rfl⟩ entry_list_sort (EU (κ:=κ) (kz:=kz) r (λp g=>?_) G (λd k O=>n _ d (by simp;lia) (λb o e=>k b o (dE (bC e)) (bD _ e)) O) λf g H=>⟨_,rfl,?_⟩) (args_list_sort _)))
 .have:p.1∈a:=by
   have C:p∈(a.toArray.zip a.toArray).toList:=g;rw[Array.toList_zip]at C;exact yT C |>.1
  exact N _ this
 .obtain⟨e,L⟩:=sortedHeap_at (out:=(arrOf f).map (·.2)) r;have l:(arrOf f).toList.Perm (a.zip a):=by
   have:=C7.mp g;have Y:(j0 a).toList=a.zip a:=by show(a.toArray.zip a.toArray).toList=_;simp
   rwa[Y]at this
  have same:∀p∈(arrOf f).toList,p.1=p.2:=λp g=>by have:=l.mem_iff.mp g;rw[<-List.map_id a,List.zip_map']at this;obtain⟨x,_,rfl⟩:=b8.mp this;rfl
  have X:((arrOf f).map (·.2)).toList.Perm a:=by rw[Array.toList_map];have:=l.map (·.2);rwa[List.map_snd_zip (bc _)]at this
  refine aE ⟨_,rfl,u _ _ e (λb o B=>?_) L X ?_⟩
  .have n:b<c.heap.objs.size:=bC B;rw[sortedHeap_old (dE n) (by rw[lI];exact y_ n)];exact bD _ B
  .rw[Array.toList_map];refine tt.mpr (ze.mpr λi j J I F p q hx Z=>?_);have W:j<(j0 a).size:=by rw[<-g.size_eq];assumption
   have D:i<(arrOf f).size:=by assumption
   have t:j<(arrOf f).size:=by assumption
   have h:=H i j (jZ F) W;rw[sD D,sD t]at h;have f1:=same _ (vL J);have f2:=same _ (vL I);have T:kO κ (arrOf f)[i]=p:=by unfold kO;simp_all
   have S:kO κ (arrOf f)[j]=q:=by unfold kO;simp_all
   rw[T,S]at h;exact h
end
end L2
namespace Pu
open L2
noncomputable def Hi{f:Type}(b:List Nat)(d:ad f)(x y:PV):ad f:=λa=>(aD (gz a b) a).bind λc _=>(aD (if(cg c).Nodup then c8 a (.inl x::.inl y::c)else ac) a).bind λg _=>dY a (.inl x::.inl y::c) (d g)
noncomputable def Au(a:List Nat)(dt:ad Bool)(de:ad PV):List (PV×PV)->List PV->aj->R (List PV)
 |[],b,f=>.ok b f
 |x::xs,b,f=>(cL (Hi a dt x.1 x.2 f)).bind λk c=>match k with
  |true=>(cL (Hi a de x.1 x.2 c)).bind λy d=>Au a dt de xs (b++[y]) d
  |false=>Au a dt de xs b c
noncomputable def Qw(c:List Nat)(g:ad (List (PV×PV)))(dt:ad Bool)(de:ad PV):ad PO:=λd=>(g d).bind λxs b=>(Au c dt de xs [] b).bind λf a=>.ok (.lst f) a
section
variable{X:Cx}{E:XK}{a:dG}{x y:Str}{c:List Str}{b:List Nat}
noncomputable def E8{g d:Type}(f:Nat->d):Nat->List g->List (d×g)
 |_,[]=>[]
 |n,x::xs=>(f n,x)::E8 f (n+1) xs
noncomputable def Ra(xs:List PV):List (PV×PV):=E8 (λi=>PV.int (i:Nat)) 0 xs
end
section
variable{X:Cx}
noncomputable def OP(c:ad (List PV)):ad (List (PV×PV)):=λb=>(c b).bind λx a=>match x with
 |[.tup xs]=>.ok (Ra xs) a
 |_=>.no
end
noncomputable abbrev U2:=List aI
end Pu
namespace L2
open Mx
noncomputable def kC(a b:List Tx):Bool:=!ltL b a
theorem TN(a b:List Tx):(kC a b||kC b a)=ai:=by
 unfold kC;cases h:ltL b a with
 |false=>rfl
 |true=>
  have:ltL a b=am:=by
   cases c:ltL a b with
   |false=>rfl
   |true=>exact absurd (ordL.trans _ _ _ h c) (by have:ltL b b=am:=ordL.irrefl _;show ¬ltL b b=ai;rw[this];simp)
  rw[this];rfl
theorem L7(a b c:List Tx)(f:kC a b=ai)(d:kC b c=ai):kC a c=ai:=by unfold kC at *;have:ltL c a=am:=vS (O:=ordL) (a:=a) (b:=b) (c:=c) (show ltL b a=am by simpa using f) (show ltL c b=am by simpa using d);rw[this];rfl
theorem Sx(a b:List Tx)(d:kC a b=ai)(c:kC b a=ai):a=b:=by unfold kC at *;exact ordL.total a b (show ltL a b=am by simpa using c) (show ltL b a=am by simpa using d)
theorem Qa{s:ao}{f:List ah}(v:IsTup s.heap t #[])(x:IsTup s.heap b f.toArray)(h:Q (.ref b) s):au (ax P w) A (iH .Add (.ref t) (.ref b)) Q E s:=by
 obtain⟨⟨z,y,p,r⟩,i,l,n,j⟩:=id v;obtain⟨⟨q,c,d,a⟩,o,m,u,g⟩:=id x;simp only at l j m g;subst l j m g;exact concat_meets ⟨_,i,rfl⟩ ⟨_,o,rfl⟩ IZ seq_tuple_add I_ Ja (Jb _ _)
  (tuple_addW0 t b #[] f.toArray n u y c r a rfl) ⟨i,o,h⟩
noncomputable def BH(K:ay):R2:=λx y H Q=>∃a b c,x=.ref a/\y=.ref b/\cC K H a []/\cC K H b c/\Q (.ref b) H
theorem Vf:bZ X (iH .Add) (BH X.K):=by
 intro t s o H x y v u Q I f d h;obtain⟨a,b,p,rfl,rfl,n,m,q⟩:=h;cases f;cases d;obtain⟨l,g,j,_⟩:=I.tuple n;obtain⟨c,r,i,_⟩:=I.tuple m;cases g;exact Qa j i ⟨.ref b,H,I,rfl,q⟩
end L2
namespace Pu
open L2
noncomputable def nz:PV->PV->Option PV
 |.tup [],.tup a=>aa (.tup a)
 |x,y=>bq x y
theorem EN:bZ X (iH .Add) (λx y H Q=>BH X.K x y H Q\/xA X.K x y H Q):=Vf.or fh
theorem GF{K:ay}:P2 K (λx y H Q=>BH K x y H Q\/xA K x y H Q) nz:=λF H x y v u Q pv d c e q=>by
 unfold nz at e;split at e
 .cases e;obtain⟨a,h,rfl,f,i⟩:=d;obtain⟨b,g,rfl,j,l⟩:=id c;rw[show h=[] from i]at f;exact .inl ⟨a,b,g,rfl,rfl,cC.of f,cC.of j,q _ F H (Al.refl ..) c⟩
 .exact .inr (e_ F H _ _ v u Q pv d c e q)
end Pu
namespace L2
section
variable{X:Cx}
theorem Tk(y:X.calm=ai):dq X (.type "set") (λxs H Q=>∃(p:ae) (c:List Tx),xs=[.ref p]/\cC X.K H p (bH c)/\(bK c).length<4000/\∀a,H a=ac->Q (.ref a) (upd H a (kP X a (bK c)))):=by
 intro M s B H xs C Q I r h;obtain⟨p,c,rfl,v,z,q⟩:=h;obtain⟨u,rfl,j⟩:=vals1 r;cases j;obtain⟨d,f,n,E⟩:=I.tuple v;have x:=f.length;rw[yk]at x;refine Gy (P:=X.prog) (w:=X.w) (I.ok.hd y) (.inr n) (by simpa using om f) (by rw[dW,show d.length=c.length by ac_rfl,xg,cX];trivial) λA i S k=>?_;have g:jX X.prog X.w A s.heap.objs.size ((bK c).map tS):=by
  have e:d.toArray.size=c.length:=∅
  rw[e,xg]at S;exact S
 refine⟨.ref s.heap.objs.size,_,I.laid (t':=i) (o:=kP X s.heap.objs.size (bK c)) (λb o e=>k b o (bC e) e) (bc _) ?_,rfl,q _ I.fresh⟩;obtain⟨J,L,t,D,e,_⟩:=g.ex;exact⟨g,⟨_,e⟩,λG F m l=>m.at l⟩
end
end L2
namespace Pu
open L2
section
variable{X:Cx}{p:Pos}
noncomputable def pW:List PV->Option PO
 |[.tup xs]=>(dZ xs).bind λa=>if(bK a).length<64 then aa (.lst (ak (aN (bK a))))else ac
 |_=>ac
noncomputable def M0(X:Cx)(r:List V->Hp->VK->Prop):List V->Hp->VK->Prop:=λxs H Q=>∃(p:ae) (b:List Tx),xs=[.ref p]/\cC X.K H p (bH b)/\(bK b).length<4000/\∀a,H a=ac->r [.ref a] (upd H a (kP X a (bK b))) Q
theorem Mw:ke X.K (M0 X (EY X)) pW:=λF H xs G Q J C s e q=>by
 unfold pW at e;split at e
 .obtain⟨v,rfl,a,I,rfl,B,j⟩:=ge s;obtain⟨h,D,n⟩:=kJ.mp e;rw[mO D]at j;obtain⟨rfl,y⟩:=UX.mp j;split at n
  .rename_i m;cases n;refine⟨a,h,rfl,cC.of B,oX m (by decide),λb A=>⟨b,bK h,rfl,upd_same,m,λl i=>?_⟩⟩;have r:l≠b:=by rintro rfl;rw[upd_same]at i;trivial
   have t:H l=ac:=by rw[bi r]at i;trivial
   have al:Al F F H (upd (upd H b (kP X b (bK h))) l (.lst (bH (aN (bK h))))):=(Al.new0 A).trans (Al.new0 i);refine q l F _ (λc=>c=l) al ⟨⟨_,upd_same,UX.mpr ⟨rfl,λx u=>y x ((kY _ _).mp ((dI _).mem_iff.mp u))⟩⟩,λc=>o0⟩ λc z=>?_;subst z;exact⟨t,λz=>C_ (C _ z) (λo w=>by lia),_,upd_same,trivial⟩
  trivial
 trivial
theorem LX(a:X.calm=ai)(m:DA X E [e] g)(j:X.mg "sorted"=ac)(c:X.mg "set"=ac)(l:Gl X "sorted":=by rfl)(b:Gl X "set":=by rfl)(h:k7 e=am:=by rfl):DN X E (.Call (.Name "sorted" p) [.Call (.Name "set" q) [e] [] d] [] f) (dL pW g):=λF S r o H Q i n=>bU (nB (Gx a) l j l6 (fz (sG (Tk a) b c Ax g8 (by decide) (by rfl) (iP h) rfl) gh (iP rfl)) (by decide) (by rfl) (iP rfl) rfl) (sk Mw m i n)
end
end Pu
namespace L2
section
noncomputable def Kq:V->List V->Hp->VK->Prop:=λx a H Q=>∃(l:ae) (xs:List Tx) (y:Tx),x=.ref l/\a=[tV y]/\H l=aa (.lst (bH xs))/\y∈xs/\Q .non (upd H l (.lst (bH (xs.erase y))))
theorem Q2{y:Tx}(r:bt (bH xs) b):∀u∈b,∃z t,u=Value.str (tS z) t:=by intro u c;obtain⟨i,d⟩:=zc.mp c;obtain⟨v,a,f⟩:=BG r d;unfold bH at a;rw[jl]at a;obtain⟨z,_,rfl⟩:=lE.mp a;obtain⟨t,rfl⟩:=f;lia
theorem Hf:∀{xs:List Tx},y∈xs->∃j,j<xs.length/\xs[j]?=aa y/\(∀i z,i<j->xs[i]?=aa z->z≠y)/\xs.eraseIdx j=xs.erase y
 |x::xs,h=>by
  by_cases e:x=y
  .subst e;exact⟨0,by simp,rfl,λi z b=>⋯,by simp⟩
  .obtain⟨j,g,f,c,d⟩:=Hf ((bQ.mp h).resolve_left λz=>e z.symm);refine⟨j+1,by simp;omega,by trivial,λi z b a=>?_,⋯⟩;cases i with
   |zero=>simp at a;subst a;exact e
   |succ i=>exact c i z ∅ (by trivial)
theorem FE{a b:Type}(f:a->b):∀(l:List a) (j:Nat),(l.map f).eraseIdx j=(l.eraseIdx j).map f
 |[],_=>rfl
 |x::l,0=>rfl
 |x::l,j+1=>by rw[cn,Js,Js,cn,FE f l j]
theorem Qg:oR X "list.remove" Kq:=by
 intro ag s P H x S v T Q I A B h;obtain⟨l,xs,y,rfl,rfl,p,G,q⟩:=h;cases A;obtain⟨u,rfl,C⟩:=B.one;obtain⟨ty,rfl⟩:=C;obtain⟨z,a,n,r,M,e⟩:=I.lstM p;obtain⟨j,Y,W,E,o⟩:=Hf G;have bh:a.length=xs.length:=by rw[<-M];simp[bH]
 have c:∀(i:Nat) (N:i<a.toArray.size),∃w t,xs[i]?=aa w/\a.toArray[i]=Value.str (tS w) t:=λi N=>by
  have D:i<a.length:=by trivial
  obtain⟨v,b,d⟩:=BG r (fj D);unfold bH at b;rw[jl]at b;obtain⟨w,O,rfl⟩:=lE.mp b;obtain⟨t,Z⟩:=d;exact⟨w,t,O,by trivial⟩
 let eb:ah->Bool:=λv=>match v with|.str z _=>z.cps.toList == y|_=>am
 have g:∀(w:Tx) (t:Tok),eb (.str (tS w) t)=(w == y):=λw t=>by rfl
 refine nN F.slot_list_remove ⟨_,e,rfl⟩ F.entry_list_remove (F.args_list_remove_2 _ _) (MeetsSeq.list_remove l a.toArray n (.str (tS y) ty) eb (λw J=>?_) j (by simp;simp_all) ?_ (λm L f=>?_) (by rw[dW];simp_all)) ⟨e,?_⟩
 .obtain⟨w,t,rfl⟩:=Q2 (y:=y) r w (~~~J);have:=SeqRoads2.EqGives.str (tS w) (tS y) t ty;trivial
 .obtain⟨w,t,b,d⟩:=c j (by simp;simp_all);simp_all
 .obtain⟨w,t,b,d⟩:=c m L;exact(congrArg eb d).trans ((g _ t).trans (by simpa using E m w f b))
 .refine⟨.non,_,I.lset (its':=a.eraseIdx j) p e (ys:=bH (xs.erase y)) ?_ ?_ ?_,rfl,q⟩
  .simp
  .have:=r.eraseIdx j;rw[<-o];unfold bH at this ⊢;rw[show(xs.eraseIdx j).map tV=(xs.map tV).eraseIdx j from(FE tV xs j).symm];trivial
  .have:=zQ xs j;rw[o]at this;have e2:(bH xs).length=xs.length:=by simp[bH]
   have e3:(bH (xs.erase y)).length=(xs.erase y).length:=by simp[bH]
   omega
end
end L2
namespace Pu
open L2
section
variable{de:ad PV}{b:Pos}
noncomputable def lW(i:Nat)(de:ad PV):ad aG:=λd=>(aD (bR d i) d).bind λ_ d=>(de d).bind λy a=>(aD (bR a i) a).bind λxs a=>match y with
 |.str y=>(aD (dZ xs) a).bind λf a=>if y∈f then .ok .next (a.set i (.own (.lst (ak (f.erase y)))))else .no
 |_=>.no
theorem Ur(i:Nat){f:Pos}(W:DE X E e de)(hN:X.N[i]?=aa x:=by rfl)(P:dr X.env.scope x:=by eq_refl)(Y:ap x:=by decide)(bf:aO x:=by decide) (h1:i8 (.Name x p) "remove" X.env (aQ (.Name x p) X.env)=aQ (.Name x p) X.env:=by rfl)(h2:((cx d (aK [e] X.env)).all (λx=>!x.1)&&(mh d (mi [] X.env)).all (λx=>x.1.isSome)&&decide ([e].length+([]:List gk).length+(if([]:List gk).isEmpty then 0 else 1)<30))=ai:=by rfl)(h3:(f.endLine == d.line)=ai:=by rfl) (A:aK [e] X.env=(am,aQ e X.env)::aK [] X.env:=by rfl) (h5:(cx d (aK [] X.env)).any (·.1)=am:=by rfl)(Q:jj (.Call (.Attribute (.Name x p) "remove" f) [e] [] d) ac b.line X.env=pure am:=by rfl):DS X E c (.Expr (.Call (.Attribute (.Name x p) "remove" f) [e] [] d) b) (lW i de):=λF S t s H D u h=>by
 unfold lW at h;cases r:bR t i with
 |none=>rw[r]at h;exact h.elim
 |some C=>
  rw[r]at h;simp only[ci,R.bind_ok]at h;obtain⟨a,G,n,Z,_,_,_⟩:=u.lstAt (eM r);refine gi (uX (p_ tG PySem.F.slot_list_remove PySem.F.type_list_remove Qg (eJ hN P Y bf) (fz bF gh A) h1 h2 h3 A h5) Q) ⟨.ref a,n,.inl ⟨rfl,_,b_.of Z⟩,?_⟩;refine W F S t s H _ u (h.bindE.imp λy l B S1 H1 w g1 q v I=>?_);cases j:bR l i with
  |none=>rw[j]at q;trivial
  |some xs=>
   rw[j]at q;simp only[ci,R.bind_ok]at q;obtain⟨a',vs,g,N,L,_,_⟩:=w.lstAt (eM j);rw[n]at g;cases g;split at q
   .rename_i y;cases o:dZ xs with
    |none=>rw[o]at q;trivial
    |some m=>
     rw[o]at q;simp only[ci,R.bind_ok]at q;obtain rfl:=mO o;obtain⟨rfl,bh⟩:=UX.mp L;split at q
     .rename_i T;have J:Reps X.K H1 B (ak (m.erase y)) (bH (m.erase y)):=UX.mpr ⟨rfl,λz O=>bh z (List.mem_of_mem_erase O)⟩;obtain⟨M,g2⟩:=w.upd (eM j) n J;exact⟨a,m,y,rfl,by rw[I.1],N,T,q B S1 s _ M g2 (jc.refl _ _)⟩
     trivial
   trivial
end
end Pu
namespace L2
open Pu
noncomputable def uF(a:ae)(o:Obj)(b:List (aI×V)):It :=⟨λi H=>H a=aa (.frz o (.dK b))/\i<b.length,λi H x c=>c=H/\∃p,b[i]?=aa p/\x=p.2,λi H=>H a=aa (.frz o (.dK b))/\b.length<=i⟩
theorem Re{K:ay}{W:aB}(a j:ae)(o:Obj)(g:List (aI×V)):rV P w K W (uF a o g) [j] j (λi h=>h.IsValIter j a i g.length (wY o)) where
 mem:=by simp
 obj:=λi h f b l=>by
  have e:b=j:= ~~~l
  subst e;obtain⟨o,e,c,d⟩:=f;simp_all
 keep:=λi h r f k=>f.at λo e=>k j (by simp) o e
 item:=by
  intro X C t D Q i S s M H E I n f A;subst C t D;obtain⟨x,O⟩:=A;obtain⟨y,z⟩:=(show cf X.prog X.w H s.heap a (.frz o (.dK g))from I.hok a _ x)
  obtain⟨Z,T,m,B⟩:=Cj y z;obtain⟨p,N⟩:∃p,g[i]?=aa p:=⟨_,fj O⟩
  obtain⟨q,u,e1,e2⟩:=L2.KV.at m N;obtain⟨J,G,f2,f3,f4,F⟩:=n j (by simp);rw[m.len]at f;refine wpAny_pyNext_values_item (k:=q.1) (v:=q.2) f B u λr L Y=>?_;have I1:Inv X S M H {s with heap:=r}:=I.turned (t':=s.toks) (λb o l e=>(Y.2 b l).trans e) J G f3 f4 F;rw[<-m.len]at L;obtain⟨oi,e,c,d⟩:=id L;exact⟨q.2,rfl,um (s:={s with heap:=r}) e c d (by rfl) ⟨p.2,H,I1,e2,⟨rfl,p,N,rfl⟩,L,λb l=>(n b l).1⟩⟩
 done:=by
  intro X C t D Q i S s M H E I n f A;subst C t D;obtain⟨x,O⟩:=A;obtain⟨y,z⟩:=(show cf X.prog X.w H s.heap a (.frz o (.dK g))from I.hok a _ x)
  obtain⟨Z,T,m,B⟩:=Cj y z;obtain⟨J,G,f2,f3,f4,F⟩:=n j (by simp);have hl:=m.len;rw[hl]at f;exact wpAny_pyNext_values_end (I.ok.hd Q) f B (tF ⋯) λr eb=>⟨rfl,I.turned (t':=s.toks) (λb o l e=>eb b o l e) J G f3 f4 F⟩
 self:=λ_ _ _ _ _ f h=>wpAny_pyIter_valiter f h
section
variable{X:Cx}{c:aB}
noncomputable def RK(i:Nat):TI:=λd H R=>∃a b,d[i]?=aa (aa (.ref a))/\H a=aa (.dK b)/\∀o q,H q=ac->(b.map (·.1)).Nodup->b.length<=bd->R (uF a o b) (upd (upd H q (iE q a)) a (.frz o (.dK b)))
theorem R7(i:Nat){g f:Pos}(O:X.N[i]?=aa y)(F:dr X.env.scope y)(M:ap y)(T:aO y)(E:i8 (.Name y m) "values" X.env (aQ (.Name y m) X.env)=aQ (.Name y m) X.env) (D:(g.endLine == f.line)=ai):PI X c (.Call (.Attribute (.Name y m) "values" g) [] [] f) (RK i):=by
 intro W s A H R I h;obtain⟨a,d,P,w,q⟩:=h;refine aR (Fi Jj JA PySem.F.type_dict_values GM (eJ O F M T) E D W s A H (λx z=>∃q,x=.ref q/\H q=ac/\z=upd H q (iE q a)) I ⟨.ref a,P,.inr (.inr (.inl ⟨rfl,.inl ⟨_,w⟩⟩)),a,d,rfl,rfl,w,λq G=>⟨q,rfl,G,rfl⟩⟩) λv j ⟨x,z,n,B,C⟩=>?_;obtain⟨p,e,J,Q⟩:=C;subst e Q;cases B;have S:a≠p:=by lia
 have r:upd H p (iE p a) a=aa (.dK d):=by rw[bi S];trivial
 obtain⟨o,L,t⟩:=n.freeze r;obtain⟨hs,Z,u,l⟩:=Cj (o:=o) L (show cf X.prog X.w _ j.heap a (.dK d)from n.hok a _ r);obtain⟨Y,_,_⟩:=(show cf X.prog X.w _ j.heap p (iE p a)from n.hok p _ upd_same)
 refine wpAny_pyIter_values Y l ?_;rw[<-u.len];refine⟨j.heap.objs.size,[j.heap.objs.size],_,_,_,rfl,t.kept (t':=j.toks) λb o e=>bD _ e,Re a _ o d,⟨_,cS _ rfl,rfl,rfl⟩,λb N=>?_,q o p J (by rw[u.keysD];exact l.nodup) (show d.length<=bd by have:=(show cf X.prog X.w _ j.heap a (.dK d)from n.hok a _ r).1;trivial)⟩;have e:b=j.heap.objs.size:= ~~~N
 subst e;exact t.fpOk (bc _) (t.hok.fresh (bc _))
end
section
variable{d:List Nat}
noncomputable def Uq(i:Nat)(u:TT)(w:TE)(d:List Nat):TE:=λp H Q=>∃a g,p[i]?=aa (aa (.ref a))/\H a=aa (.dK g)/\∀o q l,H q=ac->(g.map (·.1)).Nodup->g.length<=bd->upd (upd H q (iE q a)) a (.frz o (.dK g)) l=ac->∃W:Nat->Nat->List V->Hp->Prop,(∃m,W 0 m [] (upd (upd (upd H q (iE q a)) a (.frz o (.dK g))) l (.lst [])))/\∀i m h n,W i m h n ->
 ((uF a o g).stop i n/\Q (.ref l) (upd n a (.dK g)))\/((uF a o g).go i n/\∀v t,(uF a o g).yld i n v t->u (aa v::gB p d) t λb s=>if b=ai then w (aa v::gB p d) s λy r=>r l=aa (.lst h)/\h.length<bd/\∃j,j<m/\W (i+1) j (h++[y]) (upd r l (.lst (h++[y]))) else ∃j,j<m/\W (i+1) j h s)
theorem Pf{j g:Pos}(i:Nat)(B:iy X c x f d)(hc:X.calm=ai)(hN:X.N[i]?=aa y)(hv:dr X.env.scope y)(hd:ap y)(bf:aO y)(jq:i8 (.Name y r) "values" X.env (aQ (.Name y r) X.env)=aQ (.Name y r) X.env) (Z:(j.endLine == g.line)=ai)(ht:∀C b n J G,pR (cc X c f C b n J G) A L) (he:∀C b n J G,PE (cc X c f C b n J G) D M) (hs:∀x,lw (.Call (.Attribute (.Name y r) "values" j) [] [] g) X.env x=pure x:=by intro _;rfl):PE X (.ListComp D [⟨.Name x T,.Call (.Attribute (.Name y r) "values" j) [] [] g,A,0⟩] c F) (Uq i L M d):=by
 intro ag s N H Q I h;obtain⟨a,p,ea,eH,h⟩:=h;have hn:∀o u,X.H₀ a≠aa (.frz o u):=λo u z=>by have:=I.base.frzs a o u z;lia
 refine aR (Gp B hc (R7 i hN hv hd bf jq Z) ht he hs ag s N H (λv E=>∃o,E a=aa (.frz o (.dK p))/\Q v (upd E a (.dK p))) I ⟨a,p,ea,eH,λo q hq Y hz l hl=>?_⟩) λv s' ⟨x,E,I',S,o,e',q⟩=>⟨x,_,I'.thaw e' hn,S,q⟩
 obtain⟨W,P,t⟩:=h o q l hq Y hz hl;refine⟨W,P,λi m O E w=>?_⟩;rcases t i m O E w with⟨st,q⟩|z
 .exact .inl ⟨st,o,st.1,q⟩
 .exact .inr ⟨z.1,λv H1 y=>⟨[aa v],rfl,rfl,z.2 v H1 y⟩⟩
end
end L2
namespace Pu
open L2
section
variable{X:Cx}{E:XK}{d:List Nat}{c:Pos}
noncomputable def ol:List (aI×PV)->Option (List Int)
 |[]=>aa []
 | (_,.int i)::r=>(ol r).map (i::·)
 |_=>ac
theorem SL{K:ay}:∀{a:List (aI×PV)}{b:List (aI×V)}{is:List Int},h_ K H F a b->ol a=aa is->b.map (·.2)=is.map V.int:=by
 intro a b is h e;unfold h_ at h
 induction h generalizing is with
 |nil=>cases e;rfl
 |@cons p q ps qs r _ ih=>
  obtain⟨l,pv⟩:=p;obtain⟨j,g⟩:=q;cases pv <;> simp only[ol,lE]at e <;> try cases e
  obtain⟨i,f⟩:=r;obtain rfl:g=V.int _:=f
  grind
noncomputable def pN(i:Nat):ad PO:=λa=>(aD (cW a i) a).bind λb a=>(aD (ol b) a).bind λis a=>.ok (.lst ((is.filter λn=>decide (0<n)).map .int)) a
theorem Eg{K:ay}:∀l:List Int,Reps K H F (l.map .int) (l.map V.int)
 |[]=>rfl
 |i::l=>⟨_,_,rfl,rfl,Eg l⟩
theorem RB(e:H a=aa v)(g:l≠a)(f:q≠a):upd (upd (upd (upd H q b) a o) l u) a v=upd (upd H q b) l u:=by
 have:upd H q b a=aa v:=by rw[bi (dQ f)];exact e
 exact Uo this g
theorem Tj{r:dG}(i:Nat){px p1 p2 p3 p4 G u t:Pos}{c0}(B:iy X r x [x] [])(hc:X.calm=ai)(hN:X.N[i]?=aa y:=by rfl)(dX:dr X.env.scope y:=by eq_refl)(hd:ap y:=by decide) (bf:aO y:=by decide)(jq:i8 (.Name y G) "values" X.env (aQ (.Name y G) X.env)=aQ (.Name y G) X.env:=by rfl) (jr:(u.endLine == t.line)=ai:=by rfl)(hp0:∀C f g D A,PE (cc X r [x] C f g D A) (.Name x p1) (yx 0):=by intro _ _ _ _ _;exact pv 0) (n_:∀C f g D A,PE (cc X r [x] C f g D A) (.Name x p2) (yx 0):=by intro _ _ _ _ _;exact pv 0)(hs:∀x,lw (.Call (.Attribute (.Name y G) "values" u) [] [] t) X.env x=pure x:=by intro _;rfl):DN X E (.ListComp (.Name x p1) [⟨.Name x px,.Call (.Attribute (.Name y G) "values" u) [] [] t,[.Compare (.Name x p2) [.Gt] [.Constant (.int 0) c0 p3] p4],0⟩] r c) (pN i):=λF S ε σ H Q P h=>by
 unfold pN at h;cases e0:cW ε i with
 |none=>rw[e0]at h;exact h.elim
 |some Z=>
  rw[e0]at h;simp only[ci,R.bind_ok]at h;cases N:ol Z with
  |none=>rw[N]at h;exact h.elim
  |some is=>
  rw[N]at h;simp only[ci,R.bind_ok]at h;obtain⟨a,s,ea,ha,hk,hS,_⟩:=P.dkAt (li e0);have ud:=SL hk N;have bh:s.length=is.length:=by have:=congrArg qw ud;rwa[cX,cX]at this
  refine bU (Pf i B hc hN dX hd bf jq jr (λC f g D A=>IM (BM (Kr (n_ C f g D A) B5))) (λC f g D A=>hp0 C f g D A) hs) ⟨a,s,ea,ha,λo q l hq nd hz hl=>?_⟩;have hqa:q≠a:=by lia
  have w:l≠a:=by rintro rfl;rw[upd_same]at hl;trivial
  have J:l≠q:=by rintro rfl;rw[bi w,upd_same]at hl;trivial
  have qZ:H l=ac:=by rw[bi w,bi J]at hl;trivial
  let PS:Nat->List V:=λj=>((is.take j).filter λn=>decide (0<n)).map V.int
  refine⟨λj m W H'=>m=s.length-j/\j<=s.length/\W=PS j/\H'=upd (upd (upd H q (iE q a)) a (.frz o (.dK s))) l (.lst W),⟨_,rfl,gn _,by rfl,rfl⟩,?_⟩;rintro j m W H' ⟨rfl,hj,rfl,rfl⟩;have M:upd (upd (upd H q (iE q a)) a (.frz o (.dK s))) l (.lst (PS j)) a=aa (.frz o (.dK s)):=by rw[bi (dQ w),upd_same]
  by_cases bg:j<s.length
  .refine .inr ⟨⟨M,bg⟩,λv H1 ⟨N,p,hp,e2⟩=>?_⟩;subst N e2;have L:j<is.length:=⋯
   have I:p.2=V.int is[j]:=by
    have h1:(s.map (·.2))[j]?=aa p.2:=by rw[jl,hp];rfl
    rw[ud,jl,fj L]at h1;exact(i5 h1).symm
   have T:PS (j+1)=PS j++(if 0<is[j] then [V.int is[j]] else []):=by show((is.take (j+1)).filter λn=>decide (0<n)).map V.int=((is.take j).filter λn=>decide (0<n)).map V.int++_;rw[UB L,JI,ml];congr 1;by_cases z:0<is[j] <;> simp[z]
   have cN:(PS j).length<=j:=by
    grind
   refine⟨p.2,rfl,is[j],0,I,rfl,_,rfl,?_⟩;dsimp only;by_cases z:0<is[j]
   .rw[if_pos (show decide (0<is[j])=ai from decide_eq_true z)];rw[if_pos z]at T;refine⟨p.2,rfl,upd_same,∅,s.length-(j+1),∅,rfl,bg,?_,?_⟩
    .rw[I];exact T.symm
    .rw[MY]
   .rw[if_neg (show ¬decide (0<is[j])=ai by rw[decide_eq_false z];simp)];rw[if_neg z,gJ]at T;exact⟨s.length-(j+1),∅,rfl,bg,T.symm,rfl⟩
  .have e:j=s.length:=∅
   subst e;refine .inl ⟨⟨M,bc _⟩,?_⟩;rw[RB ha w hqa];have hPS:PS s.length=(is.filter λn=>decide (0<n)).map V.int:=by show((is.take s.length).filter _).map V.int=_;rw[bh,List.take_length]
   rw[hPS];have O:Al F F H (upd H q (iE q a)):=Al.new0 hq;have hl1:upd H q (iE q a) l=ac:=by rw[bi J];trivial
   have Y:=P.al O;have al:Al F F (upd H q (iE q a)) (upd (upd H q (iE q a)) l (.lst ((is.filter λn=>decide (0<n)).map V.int))):=Al.new0 hl1;refine h F S _ (Y.al al) (O.grow.trans al.grow) l (λb=>b=l) ⟨⟨_,upd_same,Eg _⟩,λb=>o0⟩ λb z=>?_;subst z;refine⟨qZ,λz=>?_,λ⟨j,z⟩=>?_,_,upd_same,trivial⟩
   .obtain⟨o,q⟩:=P.ex b z;lia
   .obtain⟨_,_,o,q,_⟩:=P.foot j b z;lia
theorem wZ{b:List Int}(r:bt (b.map V.int) a):IntsAre a b:=by
 induction b generalizing a with
 |nil=>cases r;exact .nil
 |cons i b f=>
  cases r with
  |cons h r=>obtain⟨t,rfl⟩:=h;exact .cons _ _ (f r)
theorem LW(v:X.calm=ai):dq X (.builtin "sum") (λxs H Q=>∃(p:ae) (a:List Int),xs=[.ref p]/\b_ X.K H p (a.map V.int)/\Q (.int a.sum) H):=by
 intro C s y H xs z Q I r h;obtain⟨p,a,rfl,o,q⟩:=h;obtain⟨u,rfl,l⟩:=vals1 r;cases l;obtain⟨b,j,m,A⟩:=I.list o;have g:=wZ j;obtain⟨xs,f⟩:=g.allInts.items;have n:s.heap.IsList p (intItems xs):=f ▸ m.isList;refine sum_intListG (I.ok.hd v) n λB i t' t=>?_;have x:a=xs.toList.map (·.1):=by rw[<-nums_intItems,<-f];exact(show numsOf b.toArray.toList=a from g.numsOf).symm
 have w:preSum (numAt xs) xs.size=a.sum:=by rw[preSum_eq,mn (by simp),x]
 rw[w];exact⟨.int a.sum,H,I.kept (t':=i) t,⟨t',rfl⟩,q⟩
noncomputable def sw:List PV->Option PV
 |[.lst xs]=>(intsQ xs).map λis=>.int is.sum
 |_=>ac
where intsQ:List PV->Option (List Int)
 |[]=>aa []
 |.int i::r=>(intsQ r).map (i::·)
 |_=>ac
theorem EM{K:ay}:∀{xs:List PV}{a:List V}{is:List Int},Reps K H F xs a->sw.intsQ xs=aa is->a=is.map V.int
 |[],_,_,r,e=>by cases e;exact r
 |x::xs,a,is,⟨v,r,g,f,b⟩,e=>by
  cases x <;> simp only[sw.intsQ,lE]at e <;> try cases e
  rename_i h;rw[g,EM b h.1,<-h.2,show v=_ from f];rfl
theorem OL:PL X.K (λxs H Q=>∃(p:ae) (b:List Int),xs=[.ref p]/\b_ X.K H p (b.map V.int)/\Q (.int b.sum) H) sw:=λF H xs l Q pv g e q=>by
 unfold sw at e;split at e
 .obtain⟨v,rfl,a,m,rfl,h,_,f⟩:=ge g;obtain⟨is,j,i⟩:=lE.mp e;have:=EM f j;subst this;subst i;exact⟨a,is,rfl,.inl h,q _ F H (Al.refl ..) rfl⟩
 trivial
end
end Pu
namespace L2
open Mx
section
variable{P:aS}{w:aJ}{A:aY}{E:ah->ao->Prop}{s:ao}
noncomputable def QrIs(h:aA)(k:Str×List Str)(v:ah):Prop:=∃(a b:ae) (t:Tok) (c:Array ah),v=.ref a/\IsTup h a #[.str k.1 t,.ref b]/\IsTup h b c/\cD c.toList k.2
theorem QrIs.inj(x:QrIs h k v)(y:QrIs h c v):k=c:=by
 obtain⟨a,b,t,g,rfl,m,l,j⟩:=x;obtain⟨q,p,o,d,e,i,n,f⟩:=y;cases e;have:=tup_uniq m i;injection this with this;injection this with e1 e2;injection e2 with e2 _;injection e1 with e1 _;injection e2 with e2;subst e2;obtain rfl:=tup_uniq l n;exact Prod.ext e1 (strs_uniq j f)
theorem QrIs.keep{c:aA}(x:QrIs h k v)(g:∀b o,h.get? b=aa o->c.get? b=aa o):QrIs c k v:=by obtain⟨a,b,t,its,rfl,i,f,d⟩:=x;exact⟨a,b,t,its,rfl,tup_kept i λb o e _=>g b o e,tup_kept f λb o e _=>g b o e,d⟩
noncomputable def qrK(k:Str×List Str):List Tx:=k.1.cps.toList::cpsL k.2
noncomputable def qrKey(h:aA):KeyKind where
 toKeyOrd:=ordL
 keyOf:=λv=>open Classical in if z:∃k,QrIs h k v then aa (qrK z.choose)else ac
 dflt:=([]:List Tx)
theorem qrKey_of(x:QrIs h k v):(qrKey h).keyOf v=aa (qrK k):=by
 have z:∃k,QrIs h k v:=⟨k,x⟩
 show(open Classical in if z:∃k,QrIs h k v then aa (qrK z.choose)else ac)=_;rw[dif_pos z,z.choose_spec.inj x]
theorem qrKey_some(x:(qrKey h).keyOf v=aa q):∃k,QrIs h k v/\qrK k=q:=by
 by_cases z:∃k,QrIs h k v
 .obtain⟨k,z⟩:=z;rw[qrKey_of z]at x;exact⟨k,z,i5 x⟩
 .have:(qrKey h).keyOf v=ac:=dif_neg z;lia
theorem qrLt{h i:aA}(N:A.units+8<cLine)(k:∀b o,h.get? b=aa o->i.get? b=aa o):me (qrKey h) (tuples' ai) P w A {s with heap:=i}:=λE x y a b Q H G O=>by
 obtain⟨d,C,rfl⟩:=qrKey_some H;obtain⟨c,B,rfl⟩:=qrKey_some G;obtain⟨T,b1,t,u,rfl,I,p,n⟩:=C.keep k;obtain⟨S,b2,t',l,rfl,v,q,j⟩:=B.keep k;obtain⟨o,D,_,m,F⟩:=I;obtain⟨L,J,_,M,r⟩:=v;have f:Q (if d.1.cps.toList=c.1.cps.toList then ltL (cpsL d.2) (cpsL c.2)else decide (d.1.cps.toList<c.1.cps.toList)) {s with heap:=i}:=by rw[<-ltL_cons];trivial
 refine PySem.W.kat_lt D F J r ?_;show PySem.W.KatLex P w A ai _ Q [(Value.str d.1 t,Value.str c.1 t'),(Value.ref b1,Value.ref b2)] 0 _;refine Di (Jh d.1 t c.1 t' _ _ _ _ ?_);by_cases g:d.1=c.1
 .rw[if_pos (by rw[g])]at f;rw[g,beq_self_eq_true];refine PySem.W.kat_yes (Di (eq_strs ∅ p n q j _ _ _ _ ?_));by_cases e:d.2=c.2
  .rw[e]at f;rw[decide_eq_true e];refine PySem.W.kat_yes (PySem.W.kat_nil ?_);have:ltL (cpsL c.2) (cpsL c.2)=am:=ordL.irrefl _;rw[this]at f;trivial
  .rw[decide_eq_false e];refine Dj ?_;show au _ _ (oneLt' (ai&&(1 == 0)) _ _) _ _ _;simp only[show((1:Nat) == 0)=am from rfl,vK];exact PySem.W.kat_one _ _ (lt_tupStrs p q n j ∅ f)
 .rw[if_neg (λz=>g (cps_inj z))]at f;rw[beq_false_of_ne g];refine Dj ?_;exact oneLt_str f
theorem qr_kind{c:List ah}(d:∀v∈c,∃k,QrIs s.heap k v)(C:2<=c.length)(h:Q (tuples' ai) s):au (ax P w) A (keyKind' c.toArray) Q E s:=by
 have g:∀(c:List ah),(∀v∈c,∃k,QrIs s.heap k v)->∃fs,UC s.heap c fs/\fs.length=c.length/\∀f∈fs,∃z t,f=Value.str z t:=by
  intro c
  induction c with
  |nil=>intro _;exact⟨[],PySem.W.KatTups.nil,rfl,λf n=>by simp at n⟩
  |cons v c q=>
   intro d;obtain⟨fs,i,l,j⟩:=q λu r=>d u (fE _ r);obtain⟨k,a,b,t,p,rfl,⟨o,x,B,m,y⟩,_⟩:=d v i4;refine⟨.str k.1 t::fs,PySem.W.KatTups.cons x B y rfl i,by simp[l],λf n=>?_⟩
   grind
 obtain⟨fs,i,l,j⟩:=g c d;refine PySem.W.kat_kind (T:=.type "str") i ∅ (λv d=>?_) (by rfl) ?_
 .obtain⟨z,t,rfl⟩:=j v d;exact .now
 trivial
noncomputable abbrev QrK:=Tx×List Tx
noncomputable def QrH(H:Hp)(k:QrK)(a:ae):Prop:=∃b,H a=aa (.tup [tV k.1,.ref b])/\H b=aa (.tup (bH k.2))
theorem QrH.is(ok:cV P w H h)(x:QrH H k a):QrIs h (tS k.1,k.2.map tS) (.ref a):=by
 obtain⟨b,j,i⟩:=x;obtain⟨_,g,r,p,_⟩:=(show cf P w H h a (.tup [tV k.1,.ref b])from ok a _ j)
 obtain⟨_,c,d,f,_⟩:=(show cf P w H h b (.tup (bH k.2))from ok b _ i)
 cases r with
 |cons m r=>cases r with
  |cons l r=>
   cases r;obtain⟨t,rfl⟩:=m;cases l;exact⟨a,b,t,c.toArray,rfl,p,f,by have:=om d;omega⟩
noncomputable def refsQ(a:List (QrK×ae)):List V:=a.map λq=>.ref q.2
theorem refsQ_vals:∀{a:List (QrK×ae)}{b:List ah},bt (refsQ a) b->b=a.map λq=>Value.ref q.2
 |[],_,h=>by cases h;rfl
 |q::a,_,h=>by
  cases h with
  |cons d c=>cases d;rw[refsQ_vals c];rfl
theorem vals_refsQ:∀(a:List (QrK×ae)),bt (refsQ a) (a.map λq=>Value.ref q.2)
 |[]=>.nil
 |q::a=>.cons rfl (vals_refsQ a)
section
variable{X:Cx}
theorem call_sortedQr(hu:X.A.units+64<cLine)(hc:X.calm=ai):dq X (.builtin "sorted") (λxs H Q=>∃(p:ae) (j:List (QrK×ae)),xs=[.ref p]/\b_ X.K H p (refsQ j)/\(∀q∈j,QrH H q.1 q.2)/\j.length<64 /\ ∀l f,H l=ac->v4 f j->f.Pairwise (λx y=>ltL (y.1.1::y.1.2) (x.1.1::x.1.2)=am)->Q (.ref l) (upd H l (.lst (refsQ f)))):=by
 intro ag s J H xs us Q I r h;obtain⟨p,j,rfl,T,Y,h4,q⟩:=h;obtain⟨u,rfl,M⟩:=vals1 r;cases M;obtain⟨C,L,O,hz⟩:=I.list T;have a:=refsQ_vals L;have c:∀(i:aA),(∀b o,s.heap.get? b=aa o->i.get? b=aa o)->∀x∈j,QrIs i (tS x.1.1,x.1.2.map tS) (.ref x.2):=λi k x g=>((Y x g).is I.hok).keep k;refine sorted_genK ∅ (collect_list O.isList ?_ (by rw[a,cX];exact jZ (r_ ∅)));obtain⟨d,D⟩:∃d,d=(s.heap.push (eu "list" #[] 0)).update s.heap.objs.size (gm (·++C.toArray)):=⟨_,rfl⟩
 have k:∀b o,s.heap.get? b=aa o->d.get? b=aa o:=λb o e=>by rw[D];exact(nM _ _ (λz:s.heap.objs.size=b=>lr _ (z ▸ bC e))).trans (bD _ e)
 rw[<-D];clear D;have G:Inv X ag J H {s with heap:=d,toks:=s.toks}:=I.kept (t':=s.toks) k;refine⟨qrKey d,tuples' ai,λv m=>?_,by rw[a,cX];trivial,λA' i Z n gw=>⟨qrLt Z n,λ{E Q} N=>qr_kind (s:={s with heap:=i,toks:=s.toks}) (λv m=>?_) gw N⟩,λi B e n gR b1 b2=>?_⟩
 .rw[a]at m;obtain⟨x,g,rfl⟩:=b8.mp m;exact⟨_,qrKey_of (c d k x g)⟩
 .rw[a]at m;obtain⟨x,g,rfl⟩:=b8.mp m;exact⟨_,c i (λb o e=>n b o (k b o e)) x g⟩
 .rw[a]at b1;obtain⟨f,F,t⟩:=perm_mapE b1;refine⟨.ref _,_,G.laid (t':=s.toks) (o:=.lst (refsQ f)) n (bc _) ⟨?_,B.toList,e,by rw[F];exact vals_refsQ f,by trivial⟩,rfl,q _ f G.fresh t ?_⟩
  .unfold refsQ;rw[cX,t.length_eq];exact jZ (r_ ∅)
  .rw[F]at b2;refine(tt.mp b2).imp_of_mem λ{x y} g S W=>?_;have:ltL _ _=am:=W _ _ (qrKey_of (c d k x (t.mem_iff.mp g))) (qrKey_of (c d k y (t.mem_iff.mp S)));simpa[qrK,cpsL,cU,tI,l9]using this
end
end
end L2
namespace Pu
open L2
section
variable{X:Cx}
noncomputable def xK(i:Nat):ad PV:=λa=>(aD (bR a i) a).bind λxs a=>match xs with
 |v::r=>.ok v (a.set i (.own (.lst r)))
 |[]=>.no
theorem Ti(i:Nat){c:Pos}(D:X.N[i]?=aa x:=by rfl)(A:dr X.env.scope x:=by eq_refl)(C:ap x:=by decide)(M:aO x:=by decide) (L:i8 (.Name x p) "pop" X.env (aQ (.Name x p) X.env)=aQ (.Name x p) X.env:=by rfl)(J:((cx b (aK [.Constant (.int 0) z f] X.env)).all (λx=>!x.1)&&(mh b (mi [] X.env)).all (λx=>x.1.isSome)&&decide ([Expr.Constant (.int 0) z f].length+([]:List gk).length+(if([]:List gk).isEmpty then 0 else 1)<30))=ai:=by rfl)(I:(c.endLine == b.line)=ai:=by rfl) (m:aK [.Constant (.int 0) z f] X.env=(am,aQ (.Constant (.int 0) z f) X.env)::aK [] X.env:=by rfl) (G:(cx b (aK [] X.env)).any (·.1)=am:=by rfl):DE X E (.Call (.Attribute (.Name x p) "pop" c) [.Constant (.int 0) z f] [] b) (xK i):=λF S q N H Q j h=>by
 unfold xK at h;cases g:bR q i with
 |none=>rw[g]at h;exact h.elim
 |some xs=>
  rw[g]at h;simp only[ci,R.bind_ok]at h;obtain⟨a,O,o,l,y,_,_⟩:=j.lstAt (eM g);cases xs with
  |nil=>exact h.elim
  |cons v r=>
   obtain⟨u,s,rfl,t,B⟩:=y;obtain⟨w,n⟩:=j.upd (eM g) o B;refine bU (p_ tG PySem.F.slot_list_pop PySem.F.type_list_pop Nt (eJ D A C M) (fz B5 gh m) L J I m G) ⟨.ref a,o,.inl ⟨rfl,_,b_.of l⟩,a,u::s,0,0,u,rfl,rfl,l,by simp,by simp,?_,rfl,?_⟩
   .simp[seqIndex?]
   .exact h F S _ w n u (t.grow n j.fit)
noncomputable def fi(i j:Nat)(c:ad aG):List PV->aj->R aG
 |[],b=>.ok .next b
 |x::xs,b=>match x with
  |.tup [u,v]=>match c ((b.set i (.val u)).set j (.val v))with
   |.ok .next a=>fi i j c xs a
   |.ok .cont a=>fi i j c xs a
   |.ok .brk a=>.ok .next a
   |r=>r
  |_=>.no
noncomputable def jU(i j:Nat)(a:ad (List PV))(b:ad aG):ad aG:=λε=>(a ε).bind λxs ε1=>fi i j b xs ε1
theorem Ca(i j:Nat)(wv:yP X.zz X.A X.env X.xe)(hc:X.calm=ai)(hN:X.N.Nodup)(hi:DI X E (.Tuple [.Name x p,.Name y p2] k A) n di)(hb:fM X E pin o L)(hp:i∉pin:=by decide) (iq:j∉pin:=by decide) (G:X.N[i]?=aa x:=by rfl) (hy:X.N[j]?=aa y:=by rfl) (Y:Loc X.env.scope x:=by first|exact Or.inl rfl|exact Or.inr rfl) (gw:Loc X.env.scope y:=by first|exact Or.inl rfl|exact Or.inr rfl) (hs:∀x,lw n X.env x=pure x:=by intro _;rfl)(hf:av X x:=by mleft) (Z:av X y:=by mleft):DS X E pin (.For (.Tuple [.Name x p,.Name y p2] k A) n o [] d) (jU i j di L):=λF S ε σ H D rl h=>by
 refine gi (GE wv hc vt (Rv hc (ID (yM hN G Y hf) (ID (yM hN hy gw Z) Rk))) pY hs) (hi F S ε σ H _ rl (h.bindE.imp λxs N F1 S1 H1 r1 g1 h1 J vs RR rs hz hw keep=>?_));refine Hk hw (λk a m=>∃r t l,aX X.K r t l a m/\bv (U S1) (U t) F1 r H1 m/\fW X.K E pin a r t m (fi i j L (xs.drop k) l) D) ⟨F1,S1,N,r1,bv.refl ..,h1⟩ (λk a m _ ⟨r,t,l,_,g,_⟩=>keep t r m g) ?_ ?_
 .rintro k v a m hv ⟨r,t,l,T,I,q⟩;obtain⟨x,G,rx⟩:=rs.back hv;have hk:k<xs.length:=(c_.mp G).1;have ed:xs.drop k=x::xs.drop (k+1):=by rw[CY hk];congr 1;exact(c_.mp G).2
  rw[ed]at q;have Q:=rx.grow I r1.fit;unfold fi at q;split at q
  .rename_i u w;obtain⟨pp,us,rfl,cY,ru⟩:=Q;obtain⟨P,ra,rfl,r2,O,rb,rfl,B,rfl⟩:=ru;have r5:=(T.set (i:=i) r2).set (i:=j) B;have gl:bv (U t) (U λW b=>(t W b/\W≠i)/\W≠j) r r m m:=(bv.less i).trans (bv.less j);refine⟨pp,_,rfl,cC.of cY,rfl,P,_,rfl,O,_,rfl,rfl,?_⟩;show oC X o _ ((a.set i (aa P)).set j (aa O)) m;refine hb r _ _ _ m _ r5 ?_;have q:=q.from gl ((jc.set (x:=aa P) hp).trans (jc.set (x:=aa O) iq));cases e:L ((l.set i (.val u)).set j (.val w))with
   |no=>rw[e]at q;exact q
   |er c z=>rw[e]at q;exact q
   |ok f z=>
    rw[e]at q;cases f with
    |next=>exact λF3 S3 M H3 B C A=>⟨F3,S3,z,B,(I.trans gl).trans C,q.from C A⟩
    |cont=>exact λF3 S3 M H3 B C A=>⟨F3,S3,z,B,(I.trans gl).trans C,q.from C A⟩
    |brk=>exact q
    |ret s=>exact q
  trivial
 .rintro a m ⟨r,t,l,T,I,q⟩;have Y:vs.length=xs.length:=rs.len;rw[Y,Jy]at q;exact q r t a m T (bv.refl ..) (jc.refl _ _)
noncomputable def u9:PV->Option QrK
 |.tup [.str x,.tup xs]=>(dZ xs).map λa=>(x,a)
 |_=>ac
noncomputable def uD:List PV->Option (List QrK)
 |[]=>aa []
 |x::xs=>(u9 x).bind λk=>(uD xs).bind λks=>aa (k::ks)
noncomputable def cZ(k:QrK):PV:=.tup [.str k.1,.tup (ak k.2)]
noncomputable def sH(a b:QrK):Bool:=kC (a.1::a.2) (b.1::b.2)
noncomputable def kQ(ks:List QrK):List QrK:=ks.mergeSort sH
noncomputable def qh:List PV->Option PO
 |[.lst xs]=>(uD xs).bind λks=>if ks.length<64 then aa (.lst ((kQ ks).map cZ))else ac
 |_=>ac
theorem NX(h:u9 x=aa k):x=cZ k:=by
 unfold u9 at h;split at h
 .obtain⟨b,a,rfl⟩:=lE.mp h;rw[mO a];rfl
 trivial
theorem ED:∀{xs:List PV}{ks:List QrK},uD xs=aa ks->xs=ks.map cZ
 |[],ks,h=>by cases h;rfl
 |x::xs,ks,h=>by
  obtain⟨k,g,f⟩:=kJ.mp h;obtain⟨a,c,b⟩:=kJ.mp f;cases b;rw[ED c,NX g];rfl
theorem Ga:∀ks:List QrK,uD (ks.map cZ)=aa ks
 |[]=>rfl
 |k::ks=>by
  show(u9 (cZ k)).bind _=_;have:u9 (cZ k)=aa k:=by show(dZ (ak k.2)).map _=_;rw[kb];rfl
  rw[this,eZ,Ga ks];rfl
theorem Qv{K:ay}{k:QrK}{v:V}(h:aZ K H F (cZ k) v):∃a,v=.ref a/\QrH H k a:=by obtain⟨a,n,rfl,f,p,q,rfl,l,o,g,rfl,⟨b,m,rfl,c,j⟩,i⟩:=h;rw[show g=[] from i,l.1]at f;rw[(UX.mp j).1]at c;exact⟨a,rfl,b,f,c⟩
theorem HI{K:ay}:∀{ks:List QrK}{c:List V},Reps K H F (ks.map cZ) c->∃b:List (QrK×ae),b.map (·.1)=ks/\c=refsQ b/\∀q∈b,QrH H q.1 q.2/\aZ K H F (cZ q.1) (.ref q.2)
 |[],_,h=>⟨[],rfl,h,λq g=>by trivial⟩
 |k::ks,_,⟨v,r,e,j,i⟩=>by
  obtain⟨a,rfl,n⟩:=Qv j;obtain⟨b,m,f,l⟩:=HI i;refine⟨(k,a)::b,⋯,by rw[e,f];rfl,λq g=>?_⟩
  grind
theorem Fy{K:ay}:∀{a:List (QrK×ae)},(∀q∈a,aZ K H F (cZ q.1) (.ref q.2))->Reps K H F ((a.map (·.1)).map cZ) (refsQ a)
 |[],_=>rfl
 |q::a,h=>⟨_,_,rfl,h q i4,Fy λx b=>h x (fE _ b)⟩
theorem S7{f:List QrK}(i:f.Perm ks)(g:f.Pairwise (λx y=>ltL (y.1::y.2) (x.1::x.2)=am)):f=kQ ks:=by refine CM (le:=λa b=>sH a b=ai) (λa b _ _ l j=>?_) (g.imp λh=>by unfold sH kC;rw[h];rfl) (Jl (le:=sH) (λa b c=>L7 (a.1::a.2) (b.1::b.2) (c.1::c.2)) (λa b=>TN (a.1::a.2) (b.1::b.2)) ks) (i.trans (vM ks sH).symm);have:=Sx _ _ l j;lia
theorem zN(ks:List QrK):(kQ ks).Perm ks:=vM ks sH
theorem Ug:ke X.K (λxs H Q=>∃(p:ae) (b:List (QrK×ae)),xs=[.ref p]/\b_ X.K H p (refsQ b)/\(∀q∈b,QrH H q.1 q.2)/\b.length<64 /\ ∀l g,H l=ac->v4 g b->g.Pairwise (λx y=>ltL (y.1.1::y.1.2) (x.1.1::x.1.2)=am)->Q (.ref l) (upd H l (.lst (refsQ g)))) qh:=λF H xs J Q M D g e q=>by
 unfold qh at e;split at e
 .obtain⟨v,rfl,a,L,rfl,C,_,t⟩:=ge g;obtain⟨ks,I,s⟩:=kJ.mp e;have:=ED I;subst this;obtain⟨b,m,rfl,j⟩:=HI t;split at s
  .rename_i N;cases s;refine⟨a,b,rfl,.inl C,λq B=>(j q B).1,by rw[<-cX (f:=(·.1)),m];trivial,λl i r n A=>?_⟩;have al:Al F F H (upd H l (.lst (refsQ i))):=Al.new0 r;have G:i.map (·.1)=kQ ks:=by rw[<-m];exact S7 (n.map _) (tt.mpr A)
   refine q l F _ (λc=>c=l) al ⟨⟨_,upd_same,?_⟩,λc=>o0⟩ λc z=>?_
   .rw[<-G];refine Fy λy u=>?_;exact aZ.mono (λ_ h=>h) (λ_ _ _ h=>al.same.rd h) (λc o h _=>al.same c o h) _ _ (j y (n.mem_iff.mp u)).2
   .subst z;exact⟨r,λz=>C_ (D _ z) (λo w=>by lia),_,upd_same,trivial⟩
  trivial
 trivial
end
end Pu
namespace HT
theorem getItem_tuple_whole{s:ao}{l:ah}{b g:Option Int}{Q:ah->ao->Prop}(f:IsTup s.heap t a)(n:s.heap.IsSliceOf i m l .none)(r:lC m b)(q:lC l g)(x:sIx a.size 0 b=0) (v:sIx a.size a.size g=a.size) (h:Q (.ref t) s):au (ax c w) A (nK (.ref t) (.ref i)) Q E s:=by
 obtain⟨u,p,o,y⟩:=id n;have j:s.TypeIs (.ref i) "slice":=⟨u,p,o⟩
 unfold nK
 try with_reducible refine ig ?_
 first|refine aq (aE ?_)|skip
 refine aq (wpAny_sequenceKey f.typeIs (by rfl) ?_);refine aq (Je (name:=sY "__getitem__") f.typeIs Cv (qy Cv f.typeIs entry_tuple_getitem ?_ (args_tuple_getitem _ _)));show au _ _ (Jf (.ref t) >>= _) _ _ s;refine aq (tupleItemsOf_ f ?_);refine aq (sZ j ?_);rw[if_pos (by rfl)];refine aq (Hx n r q ?_);have d:(((sIx a.size 0 b:Nat):Int) == 0&&(1:Int) == 1&&(sIx a.size a.size g-sIx a.size 0 b) == a.size)=ai:=by rw[x,v];simp
 show au _ _ (if(((sIx a.size 0 b:Nat):Int) == 0&&(1:Int) == 1&&(sIx a.size a.size g-sIx a.size 0 b) == a.size)=ai then _ else _) _ _ s;rw[if_pos d];unfold Builtin.Tuple.tupleIsExact;refine aq (aq (sZ f.typeIs (aE ?_)));rw[if_pos (by rfl)];exact aq (qD (aE ⟨_,rfl,aE h⟩))
end HT
namespace L2
noncomputable def BR(K:ay):V->Option Int->Option Int->Hp->VK->Prop:=λx b c H Q=>∃a xs,x=.ref a/\cC K H a xs/\HT.sIx xs.length 0 b=0/\HT.sIx xs.length xs.length c=xs.length/\Q (.ref a) H
theorem UV:kX X (BR X.K):=by
 intro A s m H x v o n t w p Q I d j g f h;obtain⟨a,xs,rfl,i,z,y,q⟩:=h;cases d;obtain⟨b,r,c,u⟩:=I.tuple i;have l:b.toArray.size=xs.length:=by rw[dW];exact r.length.symm
 refine⟨"tuple",_,PyProof.Rows.slot_tuple_getitem.lookup,c.typeIs,?_⟩;exact HT.getItem_tuple_whole c j g f (by rw[l];trivial) ⋯ ⟨.ref a,H,I,rfl,q⟩
end L2
namespace Pu
open L2
noncomputable def yK:PV->Option Int->Option Int->Option PV
 |.tup xs,a,b=>if HT.sIx xs.length 0 a=0/\HT.sIx xs.length xs.length b=xs.length then aa (.tup xs)else aa (.tup (dS xs a b))
 |x,a,b=>bY x a b
theorem Pj:kX X (λx a b H Q=>BR X.K x a b H Q\/xG X.K x a b H Q):=UV.or hU
theorem K4{K:ay}:AT K (λx b c H Q=>BR K x b c H Q\/xG K x b c H Q) yK:=λF H x b c v Q pv d e q=>by
 cases x with
 |tup xs=>
  unfold yK at e;dsimp only at e;split at e
  .rename_i f;cases e;obtain⟨a,h,rfl,i,g⟩:=id d;exact .inl ⟨a,h,rfl,cC.of i,by rw[g.len];exact f.1,by rw[g.len];exact f.2,q _ F H (Al.refl ..) d⟩
  .rename_i f;exact .inr (gE F H _ b c v Q pv d ((if_neg f).trans e) q)
 |_=>exact .inr (gE F H _ b c v Q pv d e q)
end Pu
namespace L2
open Mx
section
variable{P:aS}{w:aJ}{A:aY}{E:ah->ao->Prop}{s:ao}
noncomputable def DrIs(h:aA)(k:List Str×List Str)(v:ah):Prop:=k.1≠[]/\∃(a b c:ae) (f d:Array ah),v=.ref a/\IsTup h a #[.ref b,.ref c]/\IsTup h b f/\cD f.toList k.1/\IsTup h c d/\cD d.toList k.2
theorem DrIs.inj(x:DrIs h k v)(y:DrIs h f v):k=f:=by
 obtain⟨_,a,b,c,n,g,rfl,u,t,r,q,p⟩:=x;obtain⟨_,F,D,C,i,d,e,o,z,m,l,j⟩:=y;cases e;have B:b=D/\c=C:=by have:=congrArg Array.toList (tup_uniq u o);lia
 obtain⟨rfl,rfl⟩:=B;obtain rfl:=tup_uniq t z;obtain rfl:=tup_uniq q l;exact Prod.ext (strs_uniq r m) (strs_uniq p j)
noncomputable def hashTs(P:aS)(w:aJ)(a:List Str):Int:=vy (nE (a.map (gq P w).hash))
noncomputable def hashDr(P:aS)(w:aJ)(k:List Str×List Str):Int:=vy (nE [hashTs P w k.1,hashTs P w k.2])
theorem hash_ts(j:A.units+1<cLine)(i:IsTup s.heap b a)(h:cD a.toList c):HsAt P w A s (.ref b) (hashTs P w c):=by obtain⟨g,f,d⟩:=strs_pairs (P:=P) (w:=w) (A:=A.in1) (s:=s) h;have:=hash_tup (P:=P) (w:=w) (A:=A) (s:=s) ∅ i g d;rw[f]at this;trivial
theorem hash_dr(n:A.units+4<cLine)(x:DrIs s.heap k v):HsAt P w A s v (hashDr P w k):=by
 obtain⟨_,a,b,c,g,d,rfl,m,l,j,i,h⟩:=x;refine hash_tup (hs:=[(.ref b,hashTs P w k.1),(.ref c,hashTs P w k.2)]) ∅ m rfl λp f=>?_;simp only[bQ,jI,or_false]at f;rcases f with rfl|rfl
 .exact hash_ts (show A.units+1+1<cLine by lia) l j
 .exact hash_ts (show A.units+1+1<cLine by lia) i h
noncomputable def drKd(P:aS)(w:aJ):Keyd P w (List Str×List Str) where
 is:=DrIs
 hash:=hashDr P w
 room:=λA=>A.units+4<cLine
 keep:=λ⟨D,a,b,c,g,d,e,i,l,h,p,m⟩ k=>⟨D,a,b,c,g,d,e,tup_kept i k,tup_kept l k,h,tup_kept p k,m⟩
 ref:=λ⟨_,a,_,_,_,_,e,⟨o,i,_⟩,_⟩=>⟨a,o,e,i⟩
 eqBool:=λ{A E s x y u v Q} Z H G q=>by
  by_cases B:u=v
  .subst B;obtain rfl:=H.inj G;rw[decide_eq_true rfl]at q;exact SeqAt.EqAt.same _ _ _ _ _ q
  .obtain⟨_,a,b,c,g,d,rfl,i,l,h,p,m⟩:=H;obtain⟨_,a',b',c',F,C,rfl,M,N,J,r,I⟩:=G;have O:decide (x=y)=((cu (min 2 2)).all (λj=>if j=0 then decide (x.1=y.1)else decide (x.2=y.2))&&2 == 2):=by obtain⟨X,W⟩:=x;obtain⟨T,S⟩:=y;rw[vC];simp[qB]
   rw[O]at q;refine SeqAt.EqAt.of_refs (λz=>B (by rw[z])) (.tuples i M ∅ λj L Y=>?_) _ _ _ _ q
   match j,L with
   |0,_=>exact eq_strs (show A.units+1<cLine by lia) l h N J
   |1,_=>exact eq_strs (show A.units+1<cLine by lia) p m r I
 quiet:=λ⟨_,a,b,c,g,d,e,i,l,h,p,m⟩ q=>by
  subst e;refine quiet_tup (n:=7) i (λv f E Q q=>?_) q;simp only[bQ,jI,or_false]at f;rcases f with rfl|rfl
  .refine quiet_tup (n:=6) l (λv f E Q q=>?_) q;obtain⟨z,t,rfl⟩:=strs_mem_shape h v f;exact qE (by unfold vU;rfl) q
  .refine quiet_tup (n:=6) p (λv f E Q q=>?_) q;obtain⟨z,t,rfl⟩:=strs_mem_shape m v f;exact qE (by unfold vU;rfl) q
 cls:=λ⟨_,a,b,c,g,d,e,i,l,h,p,m⟩ q=>by
  subst e;refine cls_tup (n:=7) i (λv f E Q q=>?_) q;simp only[bQ,jI,or_false]at f;rcases f with rfl|rfl
  .refine cls_tup (n:=6) l (λv f E Q q=>?_) q;obtain⟨z,t,rfl⟩:=strs_mem_shape h v f;exact qE (by unfold vV;rfl) q
  .refine cls_tup (n:=6) p (λv f E Q q=>?_) q;obtain⟨z,t,rfl⟩:=strs_mem_shape m v f;exact qE (by unfold vV;rfl) q
 hbv:=λ⟨D,a,b,c,g,d,e,i,l,h,p,m⟩ q=>by
  subst e;refine hbv_tup (n:=7) (pre:=[]) (x:=.ref b) (post:=[.ref c]) i rfl (λv f=>by simp at f) (λE Q q=>?_) q;cases r:g.toList with
  |nil=>rw[r]at h;have:=strs_len h;exact absurd (lF this.symm) D
  |cons v rest=>refine hbv_tup (n:=6) (pre:=[]) (x:=v) (post:=rest) l r (λv f=>by simp at f) (λE Q q=>?_) q;obtain⟨z,t,rfl⟩:=strs_mem_shape h v (by rw[r];simp);exact qE (by unfold vW;rfl) q
noncomputable def ltD(a b:List Tx×List Tx):Bool:=if a.1=b.1 then ltL a.2 b.2 else ltL a.1 b.1
theorem ltL_tot(h:a≠b):ltL a b=am->ltL b a=ai:=λd=>by
 cases c:ltL b a with
 |true=>rfl
 |false=>exact absurd (ordL.total a b d c) h
theorem ltL_irr(a:List Tx):ltL a a=am:=ordL.irrefl a
noncomputable def ordD:KeyOrd where
 α:=List Tx×List Tx
 blt:=ltD
 irrefl:=λa=>by unfold ltD;rw[if_pos rfl];exact ltL_irr _
 trans:=λa b c g f=>by
  unfold ltD at *;by_cases i:a.1=b.1
  .rw[if_pos i]at g;by_cases d:b.1=c.1
   .rw[if_pos d]at f;rw[if_pos (i.trans d)];exact ordL.trans _ _ _ g f
   .rw[if_neg d]at f;rw[if_neg (by rw[i];exact d),i];exact f
  .rw[if_neg i]at g;by_cases d:b.1=c.1
   .rw[if_neg (by rw[<-d];exact i),<-d];exact g
   .rw[if_neg d]at f;have m:=ordL.trans _ _ _ g f;have l:ltL a.1 c.1=ai:=m;rw[if_neg (λz=>by rw[z,ltL_irr]at l;cases l)];exact m
 negTrans:=λa b c h=>by
  unfold ltD at *;by_cases j:a.1=b.1
  .rw[if_pos j];by_cases d:b.1=c.1
   .rw[if_pos (j.trans d)]at h;rw[if_pos d];exact ordL.negTrans _ _ _ h
   .rw[if_neg (by rw[j];exact d)]at h;rw[if_neg d,<-j];exact .inr h
  .rw[if_neg j];by_cases d:b.1=c.1
   .rw[if_neg (by rw[<-d];exact j)]at h;rw[d];exact .inl h
   .rw[if_neg d];by_cases i:a.1=c.1
    .cases n:ltL a.1 b.1 with
     |true=>exact .inl rfl
     |false=>have:=ltL_tot j n;rw[i]at this;exact .inr this
    .rw[if_neg i]at h;exact ordL.negTrans _ _ _ h
 total:=λa b g f=>by
  unfold ltD at *;by_cases e:a.1=b.1
  .rw[if_pos e]at g;rw[if_pos e.symm]at f;exact Prod.ext e (ordL.total _ _ g f)
  .rw[if_neg e]at g;rw[if_neg (λz=>e z.symm)]at f;exact absurd (ordL.total _ _ g f) e
noncomputable def cpsD(k:List Str×List Str):List Tx×List Tx:=(cpsL k.1,cpsL k.2)
noncomputable def drKey(h:aA):KeyKind where
 toKeyOrd:=ordD
 keyOf:=λv=>open Classical in if z:∃k,DrIs h k v then aa (cpsD z.choose)else ac
 dflt:=(([],[]):List Tx×List Tx)
theorem drKey_of(x:DrIs h k v):(drKey h).keyOf v=aa (cpsD k):=by
 have z:∃k,DrIs h k v:=⟨k,x⟩
 show(open Classical in if z:∃k,DrIs h k v then aa (cpsD z.choose)else ac)=_;rw[dif_pos z,z.choose_spec.inj x]
theorem drKey_some(x:(drKey h).keyOf v=aa q):∃k,DrIs h k v/\cpsD k=q:=by
 by_cases z:∃k,DrIs h k v
 .obtain⟨k,z⟩:=z;rw[drKey_of z]at x;exact⟨k,z,i5 x⟩
 .have:(drKey h).keyOf v=ac:=dif_neg z;lia
theorem drLt{h:aA}(Z:A.units+8<cLine)(k:∀b o,h.get? b=aa o->o.cls=.type "tuple"->s.heap.get? b=aa o):me (drKey h) (tuples' am) P w A s:=λE x y a b Q N M I=>by
 obtain⟨d,H,rfl⟩:=drKey_some N;obtain⟨c,G,rfl⟩:=drKey_some M;obtain⟨_,a1,b1,W,D,p,rfl,O,v,u,t,r⟩:=(drKd P w).keep H k;obtain⟨_,a2,b2,T,q,i,rfl,F,B,n,l,j⟩:=(drKd P w).keep G k;obtain⟨o,J,_,m,L⟩:=O;obtain⟨X,S,_,Y,C⟩:=F;have f:Q (if cpsL d.1=cpsL c.1 then ltL (cpsL d.2) (cpsL c.2)else ltL (cpsL d.1) (cpsL c.1)) s:=I;refine PySem.W.kat_lt J L S C ?_;show PySem.W.KatLex P w A am _ Q [(Value.ref b1,Value.ref b2),(Value.ref W,Value.ref T)] 0 s;refine Di (eq_strs ∅ v u B n _ _ _ _ ?_);by_cases g:d.1=c.1
 .rw[if_pos (by rw[g])]at f;rw[decide_eq_true g];refine PySem.W.kat_yes (Di (eq_strs ∅ t r l j _ _ _ _ ?_));by_cases e:d.2=c.2
  .rw[e,ltL_irr]at f;rw[decide_eq_true e];trivial
  .rw[decide_eq_false e];exact Dj (PySem.W.kat_one _ _ (lt_tupStrs t l r j ∅ f))
 .rw[if_neg (λz=>g (cpsL_inj z))]at f;rw[decide_eq_false g];exact Dj (PySem.W.kat_one _ _ (lt_tupStrs v B u n ∅ f))
theorem drKind{d:List ah}(i:∀v∈d,∃k,DrIs s.heap k v)(z:2<=d.length)(h:Q (tuples' am) s):au (ax P w) A (keyKind' d.toArray) Q E s:=by
 have l:∀(d:List ah),(∀v∈d,∃k,DrIs s.heap k v)->∃fs,UC s.heap d fs/\fs.length=d.length/\∀f∈fs,∃b g,f=Value.ref b/\IsTup s.heap b g:=by
  intro d
  induction d with
  |nil=>intro _;exact⟨[],PySem.W.KatTups.nil,rfl,λf j=>by simp at j⟩
  |cons v d B=>
   intro i;obtain⟨fs,p,y,n⟩:=B λu C=>i u (fE _ C);obtain⟨k,_,a,b,c,g,x,rfl,⟨o,r,t,m,D⟩,z,_⟩:=i v i4;refine⟨.ref b::fs,PySem.W.KatTups.cons r t D rfl p,by simp[y],λf j=>?_⟩;rcases bQ.mp j with rfl|j
   .exact⟨b,g,rfl,z⟩
   .exact n f j
 obtain⟨fs,p,y,n⟩:=l d i;refine PySem.W.kat_kind (T:=.type "tuple") p ∅ (λv i=>?_) (by rfl) ?_
 .obtain⟨b,g,rfl,o,r,t,_⟩:=n v i;exact λ_ _ _ _ k q=>sZ ⟨o,k _ _ r,t⟩ q
 ac_rfl
end
section
variable{X:Cx}
noncomputable abbrev DrK:=List Tx×List Tx
noncomputable def kSD(k:DrK):List Str×List Str:=(k.1.map tS,k.2.map tS)
theorem kSD_inj(h:kSD a=kSD b):a=b:=by obtain⟨g,f⟩:=a;obtain⟨b1,b2⟩:=b;have d:=congrArg (λx=>cpsL x.1) h;have c:=congrArg (λx=>cpsL x.2) h;simp only[kSD,cpsL,cU,tI,l9,List.map_id']at d c;rw[d,c]
noncomputable def DrH(H:Hp)(k:DrK)(a:ae):Prop:=k.1≠[]/\∃b c,H a=aa (.tup [.ref b,.ref c])/\H b=aa (.tup (bH k.1))/\H c=aa (.tup (bH k.2))
theorem DrH.is(ok:cV P w H h)(x:DrH H k a):DrIs h (kSD k) (.ref a):=by
 obtain⟨u,b,c,t,s,q⟩:=x;obtain⟨_,o,r,p,_⟩:=(show cf P w H h a (.tup [.ref b,.ref c])from ok a _ t)
 obtain⟨_,f,l,n,_⟩:=(show cf P w H h b (.tup (bH k.1))from ok b _ s)
 obtain⟨_,d,j,m,_⟩:=(show cf P w H h c (.tup (bH k.2))from ok c _ q)
 obtain _|⟨i,_|⟨g,_|_⟩⟩:=r;cases i;cases g;exact⟨λz=>u (by simpa[kSD]using z),a,b,c,f.toArray,d.toArray,rfl,p,n,by have:=om l;trivial,m,by have:=om j;trivial⟩
noncomputable def toVD(q:DrK×ae):(List Str×List Str)×ah:=(kSD q.1,.ref q.2)
noncomputable def addQD(a:List (DrK×ae))(q:DrK×ae):List (DrK×ae):=if q.1∈a.map (·.1)then a else a++[q]
noncomputable def uniqQD(a:List (DrK×ae)):List (DrK×ae):=a.foldl addQD []
theorem addV_toVD(a:List (DrK×ae))(q:DrK×ae):addV (a.map toVD) (toVD q)=(addQD a q).map toVD:=by
 unfold addV addQD;have c:(toVD q).1∈(a.map toVD).map (·.1)↔q.1∈a.map (·.1):=by rw[cU,b8,b8];exact⟨λ⟨y,b,e⟩=>⟨y,b,kSD_inj e⟩,λ⟨y,b,e⟩=>⟨y,b,by show kSD y.1=kSD q.1;rw[e]⟩⟩
 grind
theorem uniqQD_take(a:List (DrK×ae))(i:Nat)(h:i<a.length):uniqQD (a.take (i+1))=addQD (uniqQD (a.take i)) a[i]:=by unfold uniqQD;rw[UB h,Jp];rfl
theorem addQD_len(a:List (DrK×ae))(q:DrK×ae):a.length<=(addQD a q).length:=by
 unfold addQD;split
 all_goals simp
theorem uniqQD_mono(l a:List (DrK×ae)):a.length<=(l.foldl addQD a).length:=by
 induction l generalizing a with
 |nil=>simp
 |cons x r b=>exact bT (addQD_len a x) (b _)
theorem uniqQD_le(a:List (DrK×ae))(i:Nat):(uniqQD (a.take i)).length<=(uniqQD a).length:=by
 have e:uniqQD a=(a.drop i).foldl addQD (uniqQD (a.take i)):=by unfold uniqQD;rw[<-Jp,o7]
 rw[e];exact uniqQD_mono _ _
theorem uniqQD_mem(l a:List (DrK×ae)):∀x∈l.foldl addQD a,x∈a\/x∈l:=by
 induction l generalizing a with
 |nil=>exact λx b=>.inl b
 |cons y r c=>
  intro x b;rcases c _ x b with z|z
  .unfold addQD at z
   grind
  simp_all
theorem uniqQD_sub(h:x∈uniqQD a):x∈a:=(uniqQD_mem a [] x h).elim (λz=>by simp at z) id
noncomputable def setDHO(X:Cx)(a:ae)(b:List (DrK×ae)):HO:=.ext λh=>SetV (drKd X.prog X.w) h a (b.map toVD)
noncomputable def refsD(a:List (DrK×ae)):List V:=a.map λq=>.ref q.2
theorem refsD_vals:∀{a:List (DrK×ae)}{b:List ah},bt (refsD a) b->b=a.map λq=>Value.ref q.2
 |[],_,.nil=>rfl
 |q::a,_,.cons r h=>by cases r;rw[refsD_vals h];rfl
theorem vals_refsD:∀(a:List (DrK×ae)),bt (refsD a) (a.map λq=>Value.ref q.2)
 |[]=>.nil
 |q::a=>.cons rfl (vals_refsD a)
theorem call_setLD(hu:X.A.units+64<cLine)(hc:X.calm=ai):dq X (.type "set") (λxs H Q=>∃(p:ae) (c:List (DrK×ae)),xs=[.ref p]/\b_ X.K H p (refsD c)/\(∀q∈c,DrH H q.1 q.2)/\(uniqQD c).length<4000/\∀a,H a=ac->Q (.ref a) (upd H a (setDHO X a (uniqQD c)))):=by
 intro ag s σ H xs us Q I r h;obtain⟨p,c,rfl,G,hP,h4,q⟩:=h;obtain⟨u,rfl,N⟩:=vals1 r;cases N;obtain⟨z,M,Y,hz⟩:=I.list G;have Z:=refsD_vals M;have C:z.toArray.size=c.length:=⋯
 have f:∀(h:aA),(∀b o,b<s.heap.objs.size->s.heap.get? b=aa o->h.get? b=aa o)->∀x∈c,(drKd X.prog X.w).is h (kSD x.1) (.ref x.2):=λh k x A=>(drKd X.prog X.w).keep ((hP x A).is I.hok) λb o e _=>k b o (bC e) e;refine IH (P:=X.prog) (w:=X.w) (I.ok.hd hc) (.inl Y.isList) (J:=λi h=>SetV (drKd X.prog X.w) h s.heap.objs.size ((uniqQD (c.take i)).map toVD)/\∀b o,b<s.heap.objs.size->s.heap.get? b=aa o->h.get? b=aa o)
  (λi h n ⟨S,k⟩ g=>⟨S.at λo e=>g _ o (bc _) e,λb o l e=>g b o (jZ l) (k b o l e)⟩) ⟨⟨#[],0,_,[],cS _ rfl,vN _,rfl,by decide,⟨⟨rfl,List.Pairwise.nil,(λj hj=>by trivial),(by show 7∈_;decide),(by show 0*5<7*3;decide)⟩,rfl,(λq G=>by trivial)⟩,rfl,λh=>absurd rfl h⟩,λb o _ e=>bD _ e⟩
  (λi v d E Q hi B ⟨S,k⟩ q=>?_) λn m ⟨S,_⟩ k=>?_
 .have y:i<c.length:=⋯
  obtain rfl:v=.ref c[i].2:=by rw[Z]at B;simp[y]at B;exact B.symm
  have F:=f d.heap k c[i] (vL y);unfold setAdd;refine ig (aq (hash_dr (P:=X.prog) (w:=X.w) (s:=d) (show X.A.units+3+4<cLine by lia) F d.toks _ _ λm O=>?_));refine set_addV (kd:=drKd X.prog X.w) (s:={d with toks:=m}) (k:=kSD c[i].1) (show X.A.units+3+4<cLine by lia) S (λp hp=>?_) F (by rw[cX];exact tm (uniqQD_le c i) h4) λn b D n6=>?_
  .obtain⟨x,A,rfl⟩:=b8.mp hp;exact f d.heap k x (List.mem_of_mem_take (uniqQD_sub A))
  .refine q n m b O D ⟨?_,λb o l e=>by rw[D.2 b (dE l)];exact k b o l e⟩;rw[uniqQD_take c i y,<-addV_toVD];trivial
 .have L:SetV (drKd X.prog X.w) n s.heap.objs.size ((uniqQD c).map toVD):=by
   rw[C,List.take_length]at S;exact S
  refine⟨.ref s.heap.objs.size,_,I.laid (t':=m) (o:=setDHO X s.heap.objs.size (uniqQD c)) (λb o e=>k b o (bC e) e) (bc _) ?_,rfl,q _ I.fresh⟩;obtain⟨es,ep,t,ss,e,_⟩:=L.ex;exact⟨L,⟨_,e⟩,λh1 h2 W T=>W.at T⟩
theorem call_sortedSetD(hu:X.A.units+64<cLine)(hc:X.calm=ai):dq X (.builtin "sorted") (λxs H Q=>∃(p:ae) (d:List (DrK×ae)),xs=[.ref p]/\H p=aa (setDHO X p d)/\(∀q∈d,DrH H q.1 q.2)/\d.length<64 /\ ∀l f,H l=ac->v4 f d->f.Pairwise (λx y=>ltD y.1 x.1=am)->Q (.ref l) (upd H l (.lst (refsD f)))):=by
 intro ag s G H xs us Q I r h;obtain⟨p,d,rfl,Y,hP,h4,q⟩:=h;obtain⟨u,rfl,M⟩:=vals1 r;cases M;obtain⟨S,_,_⟩:=(show cf X.prog X.w H s.heap p (setDHO X p d)from I.hok p _ Y)
 obtain⟨D,ep,t,ps,ho,Z,J,A,T,P,cN⟩:=S.ex;have SE:rR X.w s.heap p D:=⟨ep,t,ho,A,T.fits (by simp),P,λh0=>cN λz=>h0 (by simp_all)⟩
 have m:(D.toList.map (·.2)).Perm (d.map λq=>Value.ref q.2):=by rw[J,cU];have:=Z.map (·.2);rwa[cU]at this
 refine sorted_genK ∅ (En (wW (I.ok.hd hc)) SE λL vs pv k eg eo=>?_);obtain⟨B,g',d',t',O⟩:=L;obtain rfl:g'=s.gens:=eg;obtain rfl:O=s.os:=eo;have C:Inv X ag G H {s with heap:=B,drawn:=d',toks:=t'}:=by have:=Inv.call (ch:=[]) I (g':=s.gens) (d':=d') (t':=t') (Un.kept (fs:=fc X.stack) (ex:=[]) k) (I.hok.kept k) I.bare (λb hb=>absurd hb (by simp));trivial
 have a:=pv.trans m;have c:∀x∈d,DrIs B (kSD x.1) (.ref x.2):=λx g=>(hP x g).is C.hok;refine⟨drKey B,tuples' am,λv w=>?_,by have:=a.length_eq;grind,λA' h2 hA i gw=>⟨drLt hA λb o e _=>i b o e,λ{E Q} N=>drKind (λv w=>?_) gw N⟩,λh2 n e i gR b1 b2=>?_⟩
 .obtain⟨x,g,rfl⟩:=b8.mp (a.mem_iff.mp w);exact⟨_,drKey_of (c x g)⟩
 .obtain⟨x,g,rfl⟩:=b8.mp (a.mem_iff.mp w);exact⟨_,(drKd X.prog X.w).keep (c x g) λb o e _=>i b o e⟩
 .obtain⟨f,F,j⟩:=perm_mapE (b1.trans a);refine⟨.ref _,_,C.laid (t':=t') (o:=.lst (refsD f)) i (bc _) ⟨?_,n.toList,e,by rw[F];exact vals_refsD f,by trivial⟩,rfl,q _ f C.fresh j ?_⟩
  .unfold refsD;rw[cX,j.length_eq];exact jZ (r_ ∅)
  .rw[F]at b2;refine(tt.mp b2).imp_of_mem λ{x y} g W hh=>?_;have:ltD _ _=am:=hh _ _ (drKey_of (c x (j.mem_iff.mp g))) (drKey_of (c y (j.mem_iff.mp W)));simpa[cpsD,kSD,cpsL,cU,tI,l9]using this
end
end L2
namespace Pu
open L2
section
variable{X:Cx}{e:aB}{p q:Pos}
noncomputable def dr1:PV->Option DrK
 |.tup [.tup a,.tup xs]=>(dZ a).bind λks=>(dZ xs).bind λb=>if ks≠[] then aa (ks,b)else ac
 |_=>ac
noncomputable def drs:List PV->Option (List DrK)
 |[]=>aa []
 |x::xs=>(dr1 x).bind λk=>(drs xs).bind λks=>aa (k::ks)
noncomputable def drV(k:DrK):PV:=.tup [.tup (ak k.1),.tup (ak k.2)]
noncomputable def uniqKD(ks:List DrK):List DrK:=ks.foldl (λa k=>if k∈a then a else a++[k]) []
noncomputable def leKD(a b:DrK):Bool:=!ltD b a
noncomputable def sortKD(ks:List DrK):List DrK:=ks.mergeSort leKD
noncomputable def sortSetDP:List PV->Option PO
 |[.lst xs]=>(drs xs).bind λks=>if(uniqKD ks).length<64 then aa (.lst ((sortKD (uniqKD ks)).map drV))else ac
 |_=>ac
theorem dr1_eq(h:dr1 x=aa k):x=drV k/\k.1≠[]:=by
 unfold dr1 at h;split at h
 .obtain⟨ks,c,e⟩:=kJ.mp h;obtain⟨d,b,a⟩:=kJ.mp e;split at a
  .rename_i f;cases a;rw[mO b,mO c];trivial
  trivial
 trivial
theorem drs_eq:∀{xs:List PV}{ks:List DrK},drs xs=aa ks->xs=ks.map drV/\∀k∈ks,k.1≠[]
 |[],ks,h=>by cases h;simp
 |x::xs,ks,h=>by
  obtain⟨k,f,d⟩:=kJ.mp h;obtain⟨a,c,b⟩:=kJ.mp d;cases b;obtain⟨m,l⟩:=drs_eq c;obtain⟨b1,b2⟩:=dr1_eq f
  grind
theorem dr_rep{K:ay}{k:DrK}{v:V}(h:aZ K H F (drV k) v)(n:k.1≠[]):∃a,v=.ref a/\DrH H k a:=by obtain⟨a,u,rfl,l,x,z,rfl,⟨c,y,rfl,d,o⟩,w,m,rfl,⟨b,t,rfl,f,s⟩,r⟩:=h;rw[show m=[] from r]at l;rw[(UX.mp s).1]at f;rw[(UX.mp o).1]at d;exact⟨a,rfl,n,c,b,l,d,f⟩
theorem drs_rep{K:ay}:∀{ks:List DrK}{c:List V},Reps K H F (ks.map drV) c->(∀k∈ks,k.1≠[])->∃b:List (DrK×ae),b.map (·.1)=ks/\c=refsD b/\∀q∈b,DrH H q.1 q.2/\aZ K H F (drV q.1) (.ref q.2)
 |[],_,h,_=>⟨[],rfl,h,λq d=>by cases d⟩
 |k::ks,_,⟨v,r,e,o,n⟩,f=>by
  obtain⟨a,rfl,u⟩:=dr_rep o (f k i4);obtain⟨b,t,l,s⟩:=drs_rep n λy m=>f y (fE _ m);refine⟨(k,a)::b,⋯,by rw[e,l];rfl,λq d=>?_⟩
  grind
theorem reps_refsD{K:ay}:∀{a:List (DrK×ae)},(∀q∈a,aZ K H F (drV q.1) (.ref q.2))->Reps K H F ((a.map (·.1)).map drV) (refsD a)
 |[],_=>rfl
 |q::a,h=>⟨_,_,rfl,h q i4,reps_refsD λx b=>h x (fE _ b)⟩
theorem uniqQD_keys(l a:List (DrK×ae)):(l.foldl addQD a).map (·.1)=(l.map (·.1)).foldl (λa k=>if k∈a then a else a++[k]) (a.map (·.1)):=by
 induction l generalizing a with
 |nil=>rfl
 |cons x r b=>
  rw[lD,b,cn,lD];congr 1;unfold addQD;split
  all_goals simp
theorem sortKD_uniq{l:List DrK}(n:l.Perm ks)(m:l.Pairwise (λx y=>ltD y x=am)):l=sortKD ks:=by
 refine CM (le:=λa b=>leKD a b=ai) (λa b s r f d=>?_) (m.imp λh=>by unfold leKD;rw[h];rfl) (Jl (le:=leKD) (λa b c=>?_) (λa b=>?_) ks) (n.trans (vM ks leKD).symm)
 .unfold leKD at f d;exact ordD.total a b (show ltD a b=am by simpa using d) (show ltD b a=am by simpa using f)
 .unfold leKD;intro f d;have:ltD c a=am:=vS (O:=ordD) (a:=a) (b:=b) (c:=c) (show ltD b a=am by simpa using f) (show ltD c b=am by simpa using d);rw[this];rfl
 .unfold leKD;cases h:ltD b a with
  |false=>rfl
  |true=>
   have:ltD a b=am:=by
    cases o:ltD a b with
    |false=>rfl
    |true=>exact absurd (ordD.trans _ _ _ h o) (by have:ltD b b=am:=ordD.irrefl _;show ¬ltD b b=ai;rw[this];simp)
   rw[this];rfl
noncomputable def rSetThenD(X:Cx)(r:List V->Hp->VK->Prop):List V->Hp->VK->Prop:=λxs H Q=>∃(p:ae) (b:List (DrK×ae)),xs=[.ref p]/\b_ X.K H p (refsD b)/\(∀q∈b,DrH H q.1 q.2)/\(uniqQD b).length<4000/\∀a,H a=ac->r [.ref a] (upd H a (setDHO X a (uniqQD b))) Q
noncomputable def rSortD(X:Cx):List V->Hp->VK->Prop:=λxs H Q=>∃(p:ae) (a:List (DrK×ae)),xs=[.ref p]/\H p=aa (setDHO X p a)/\(∀q∈a,DrH H q.1 q.2)/\a.length<64 /\
  ∀l b,H l=ac->v4 b a->b.Pairwise (λx y=>ltD y.1 x.1=am)->Q (.ref l) (upd H l (.lst (refsD b)))
theorem pln_sortSetD:ke X.K (rSetThenD X (rSortD X)) sortSetDP:=λF H xs vs Q po P I e q=>by
 unfold sortSetDP at e;split at e
 .obtain⟨v,rfl,a,us,rfl,O,_,G⟩:=ge I;obtain⟨ks,e1,C⟩:=kJ.mp e;obtain⟨rfl,ce⟩:=drs_eq e1;obtain⟨m,L,rfl,t⟩:=drs_rep G ce;split at C
  .rename_i hh;cases C;have B:(uniqQD m).map (·.1)=uniqKD ks:=by unfold uniqQD uniqKD;rw[uniqQD_keys,L];rfl
   have n:(uniqQD m).length<64:=by rw[<-cX (f:=(·.1)),B];trivial
   refine⟨a,m,rfl,.inl O,λq u=>(t q u).1,oX n (by decide),λb r=>⟨b,uniqQD m,rfl,upd_same,λq u=>?_,n,λl x s A N=>?_⟩⟩
   .obtain⟨Y,c,d,W,T,S⟩:=(t q (uniqQD_sub u)).1;exact⟨Y,c,d,by rw[bi (jS W r)];trivial,by rw[bi (jS T r)];trivial,by rw[bi (jS S r)];trivial⟩
   .have D:l≠b:=by rintro rfl;rw[upd_same]at s;trivial
    have J:H l=ac:=by rw[bi D]at s;trivial
    have al:Al F F H (upd (upd H b (setDHO X b (uniqQD m))) l (.lst (refsD x))):=(Al.new0 r).trans (Al.new0 s);have Z:x.map (·.1)=sortKD (uniqKD ks):=by rw[<-B];exact sortKD_uniq (A.map _) (tt.mpr N)
    refine q l F _ (λc=>c=l) al ⟨⟨_,upd_same,?_⟩,λc=>o0⟩ λc z=>?_
    .rw[<-Z];refine reps_refsD λy M=>?_;exact aZ.mono (λ_ h=>h) (λ_ _ _ h=>al.same.rd h) (λc o h _=>al.same c o h) _ _ (t y (uniqQD_sub (A.mem_iff.mp M))).2
    .subst z;exact⟨J,λz=>C_ (P _ z) (λo w=>by lia),_,upd_same,trivial⟩
  trivial
 trivial
theorem dn_sortSetD(a:X.A.units+64<cLine)(b:X.calm=ai)(n:DA X E [e] j)(l:X.mg "sorted"=ac)(d:X.mg "set"=ac)(m:Gl X "sorted":=by rfl)(c:Gl X "set":=by rfl)(h:k7 e=am:=by rfl):DN X E (.Call (.Name "sorted" p) [.Call (.Name "set" q) [e] [] g] [] i) (dL sortSetDP j):=λF S s r H Q f o=>bU (nB (call_sortedSetD a b) m l l6 (fz (sG (call_setLD a b) c d Ax g8 (by decide) (by rfl) (iP h) rfl) gh (iP rfl)) (by decide) (by rfl) (iP rfl) rfl) (sk pln_sortSetD n f o)
end
end Pu
local macro_rules | `(⇑$x) => `(.val (.int $x))
local macro_rules | `(↥$x) => `(.val (.str $x))
namespace Sh
open L2 Pu
set_option genInjectivity false in
structure Ad where
 SlitError:ae
 NoText:ae
 NoWidth:ae
 NoView:ae
 NoWindow:ae
 Never:ae
 Full:ae
 Nothing:ae
 Unlike:ae
 NoPlace:ae
 NoLetters:ae
 BadText:ae
 Seeker:ae
 Slit:ae
noncomputable def iY(a:Ad):List ae:=[a.NoText,a.NoWidth,a.NoView,a.NoWindow,a.Never,a.Full,a.Nothing,a.Unlike,a.NoPlace,a.NoLetters,a.BadText]
noncomputable def pj(a:Ad)(c:ah):Bool:=match c with
 |.ref x=>(iY a).contains x
 |_=>am
noncomputable def jg(a:Ad)(c:ah)(D:V):Option Bool:=match c,D with
 |.ref x,.ref d=>if(iY a).contains x&&(iY a).contains d then aa (x == d)else ac
 |.ref x,.ty T=>if(iY a).contains x&&T == "ValueError" then aa ai else ac
 |_,_=>ac
noncomputable def yav(a:Ad):ad aG:=bV (dL sA (aw (dF (cy [1] (bp (dV 0)) (dYes) (d2 (rH am) (dV 0) (dV 1)))) (az)))
noncomputable def yC(a:Ad):ad Slot:=bo 2 [] (bn 0 (yav a))
noncomputable def yay(a:Ad):ad aG:=bV (kN (dL jY (aw (dV 0) (aw (dC (.raw (.ty "int"))) (az)))) (BP (dL jY (aw (dV 0) (aw (dC (.raw (.ty "bool"))) (az))))))
noncomputable def zL(a:Ad):ad Slot:=bo 1 [] (bn 0 (yay a))
noncomputable def yaz(a:Ad):ad aG:=bV (kN (a9 (aL (zL a) (gV (dV 0) (bG)))) (sd (cP λi j=>decide (i<=j)) (cP λi j=>decide (i<=j)) (dC (.int 1)) (dV 0) (dC (.int 4))))
noncomputable def sO(a:Ad):ad Slot:=bo 1 [] (bn 0 (yaz a))
noncomputable def yaA(a:Ad):ad aG:=bV (kN (dL jY (aw (dV 0) (aw (dC (.raw (.ty "str"))) (az)))) (kN (d2 (eqT am) (dL bu (aw (dV 0) (az))) (dV 1)) (a9 (aL (yC a) (gV (dV 0) (gV (dV 2) (bG)))))))
noncomputable def sI(a:Ad):ad Slot:=bo 3 [] (bn 0 (yaA a))
noncomputable def yan(a:Ad):ad aG:=aC (bI (jO (mP (dB (dL jY (aw (dV 0) (aw (dC (.raw (.ty "tuple"))) (az)))))) (mP (dB (sd (cP λi j=>decide (i<=j)) (cP λi j=>decide (i<=j)) (dC (.int 1)) (dL bu (aw (dV 0) (az))) (dC (.int 9)))))) (bV (dC (.bl am))) (cH))
 (aC (bI (mP (dB (dL sA (aw (dF (cy [1,2] (bp (dV 0)) (dYes) (a9 (aL (sI a) (gV (dV 0) (gV (dV 1) (gV (dV 2) (bG)))))))) (az))))) (bV (dC (.bl am))) (cH))
 (bV (d2 (eqT am) (dF (dL oG (aw (dV 0) (az)))) (dF (dL gZ (aw (dV 0) (az)))))))
noncomputable def oE(a:Ad):ad Slot:=bo 3 [] (bn 0 (yan a))
noncomputable def yax(a:Ad):ad aG:=aC (bI (jO (mP (dB (dL jY (aw (dV 0) (aw (dC (.raw (.ty "tuple"))) (az)))))) (dB (d2 (eqT ai) (dL bu (aw (dV 0) (az))) (dC (.int 2))))) (bV (dC (.bl am))) (cH))
 (bV (kN (a9 (aL (sO a) (gV (d2 bB (dV 0) (dC (.int 0))) (bG)))) (a9 (aL (oE a) (gV (d2 bB (dV 0) (dC (.int 1))) (gV (d2 bB (dV 0) (dC (.int 0))) (gV (dV 1) (bG))))))))
noncomputable def su(a:Ad):ad Slot:=bo 2 [] (bn 0 (yax a))
noncomputable def yaw(a:Ad):ad aG:=mQ (aL (su a) (gV (dV 0) (gV (dC (.str [97,98,99])) (bG))))
noncomputable def xV(a:Ad):ad Slot:=bo 1 [] (bn 0 (yaw a))
noncomputable def yaq(a:Ad):ad aG:=bI (mP (dB (a9 (aL (xV a) (gV (dV 0) (bG)))))) (uB (.ref a.NoView) (λb=>cL ((dC (.str [97,32,118,105,101,119,32,105,115,32,97,32,116,117,112,108,101,32,111,102,32,97,32,119,105,100,116,104,32,97,110,100,32,97,32,114,105,115,105,110,103,32,116,117,112,108,101,32,111,102,32,49,32,116,111,32,57,32,119,105,110,100,111,119,115])) b))) (cH)
noncomputable def mZ(a:Ad):ad Slot:=bo 1 [] (bn 0 (yaq a))
noncomputable def yar(a:Ad):ad aG:=aC (cR 1 (r9))
 (aC (λb=>cm (dJ 2 (bp (dV 0)) (fq 1 (dV 2) (d2 bq (iG 1 (dV 2) (dC (.int 0))) (dC (.int 1)))) b))
 (kn 1))
noncomputable def vp(a:Ad):ad Slot:=bo 1 [] (bn 2 (yar a))
noncomputable def yam(a:Ad)(c:ad Slot):ad aG:=aC (bI (mP (dB (uO 2))) (aC (gX 3 (dV 0)) (B7 (.ret (.val .non)))) (cH))
 (aC (bE 4 (bN bY (dV 0) (bJ (d2 bq (d2 fA (dL bu (aw (dV 0) (az))) (dV 1)) (dC (.int 1)))) (bS)))
 (λb=>cm (dJ 5 (bp (dC (.str [97,98,99]))) (aC (bE 6 (d2 bq (dV 4) (dV 5)))
 (bI (dB (d2 (cP λi j=>decide (j<i)) (iG 2 (dV 6) (dC (.int 0))) (dC (.int 0)))) (aC (fq 2 (dV 6) (d2 fA (nv 2 (dV 6)) (dC (.int 1))))
 (aC (ku (aL (c) (gV (d2 bq (dV 0) (dV 5)) (gV (dV 1) (gO 2 (gO 3 (bG)))))))
 (fq 2 (dV 6) (d2 bq (nv 2 (dV 6)) (dC (.int 1)))))) (cH))) b)))
noncomputable def oN(a:Ad):Nat->aj->R Slot
 |0=>bo 4 [2,3] (bn 3 xE)
 |k+1=>bo 4 [2,3] (bn 3 (yam a (oN a k)))
noncomputable def yaQ(a:Ad):ad aG:=aC (ku (aL (mZ a) (gV (dV 0) (bG))))
 (aC (bE 1 (d2 bB (dV 0) (dC (.int 0))))
 (aC (cR 2 (dL cK (az)))
 (aC (λb=>cm (dJ 3 (bp (dF (dL vg (aw (dF (cy [] (bp (d2 bB (dV 0) (dC (.int 1)))) (dYes) (bN bY (dV 0) (bS) (bJ (d1 dO (dC (.int 1))))))) (az))))) (ku (uj (oN a 12) (si (dV 3) (si (dV 1) (gN (kZ (aL (vp a) (gV (d2 bB (dV 0) (dC (.int 1))) (bG)))) (gO 2 (bG))))))) b))
 (kn 2))))
noncomputable def nu(a:Ad):ad Slot:=bo 1 [] (bn 3 (yaQ a))
noncomputable def yas(a:Ad):ad aG:=aC (cR 1 (r9))
 (aC (λb=>cm (dJ 2 (bp (dV 0)) (aC (fq 1 (bN bY (dV 2) (bS) (bJ (d1 dO (dC (.int 1))))) (d2 bq (iG 1 (bN bY (dV 2) (bS) (bJ (d1 dO (dC (.int 1))))) (dC (.int 0))) (dC (.int 1))))
 (fq 1 (bN bY (dV 2) (bJ (dC (.int 1))) (bS)) (d2 fA (iG 1 (bN bY (dV 2) (bJ (dC (.int 1))) (bS)) (dC (.int 0))) (dC (.int 1))))) b))
 (kn 1))
noncomputable def w_(a:Ad):ad Slot:=bo 1 [] (bn 2 (yas a))
noncomputable def yaP(a:Ad):ad aG:=aC (cR 1 (ur (bN bY (d2 bB (dV 0) (dC (.int 0))) (bS) (bJ (d1 dO (dC (.int 1))))) (dC (.bl ai))))
 (aC (bE 2 (dC (.int 0)))
 (aC (λb=>cm (eO (dB (d2 (cP λi j=>decide (i<j)) (dV 2) (nr 1))) (aC (bE 2 (nr 1))
 (dJ 3 (bp (dV 0)) (bI (jO (dB (fO am 1 (bN bY (dV 3) (bS) (bJ (d1 dO (dC (.int 1))))))) (dB (fO am 1 (bN bY (dV 3) (bJ (dC (.int 1))) (bS))))) (aC (fq 1 (bN bY (dV 3) (bS) (bJ (d1 dO (dC (.int 1))))) (dC (.bl ai)))
 (fq 1 (bN bY (dV 3) (bJ (dC (.int 1))) (bS)) (dC (.bl ai)))) (cH)))) 1000 b))
 (kn 1)))
noncomputable def u5(a:Ad):ad Slot:=bo 1 [] (bn 3 (yaP a))
noncomputable def yat(a:Ad):ad aG:=aC (cR 1 (kZ (aL (w_ a) (gV (dV 0) (bG)))))
 (bV (dL sC (aw (dC (.int 1)) (aw (dL sw (aw (dF (pN 1)) (az))) (az)))))
noncomputable def yG(a:Ad):ad Slot:=bo 1 [] (bn 1 (yat a))
noncomputable def yau(a:Ad):ad aG:=aC (ku (aL (mZ a) (gV (dV 0) (bG))))
 (aC (bE 1 (d2 bB (dV 0) (dC (.int 1))))
 (aC (bE 2 (dC (.int 0)))
 (aC (λb=>cm (eO (dB (d2 (cP λi j=>decide (j<i)) (dL bu (aw (dV 1) (az))) (dC (.int 0)))) (aC (cR 3 (kZ (aL (u5 a) (gV (dV 1) (bG)))))
 (aC (bE 2 (d2 bq (dV 2) (a9 (aL (yG a) (gV (dF (cy [3] (bp (dV 1)) (dB (fO am 1 (bN bY (dV 0) (bS) (bJ (d1 dO (dC (.int 1))))))) (dV 0))) (bG))))))
 (bE 1 (dF (cy [3] (bp (dV 1)) (dB (fO ai 1 (bN bY (dV 0) (bS) (bJ (d1 dO (dC (.int 1))))))) (dV 0)))))) 1000 b))
 (bV (dV 2)))))
noncomputable def mU(a:Ad):ad Slot:=bo 1 [] (bn 3 (yau a))
noncomputable def yaC(a:Ad):ad aG:=aC (bI (dB (d2 (cP λi j=>decide (i<j)) (dV 1) (dL bu (aw (dV 0) (az))))) (bV (d2 bB (dV 0) (dV 1))) (cH))
 (aC (bI (dB (d2 (eqT am) (dV 0) (dF (dL cK (az))))) (bV (dC (.int 0))) (cH))
 (bV (d2 bq (d2 jW (d2 bB (dV 0) (d2 iS (dV 1) (dL bu (aw (dV 0) (az))))) (dC (.int 31))) (dV 1))))
noncomputable def se(a:Ad):ad Slot:=bo 2 [] (bn 0 (yaC a))
noncomputable def yaF(a:Ad):ad aG:=aC (bE 3 (d2 iS (d2 bq (d2 bq (d2 jW (a9 (aL (se a) (gV (dV 0) (gV (dV 1) (bG))))) (dC (.int 1103515245))) (d2 jW (dC (.int 7919)) (dV 1))) (dC (.int 12345))) (dC (.int 2147483647))))
 (bV (d2 iS (d2 iS (d2 iS (d2 uK (dV 3) (dC (.int 5))) (dC (.int 2147483647))) (dC (.int 999983))) (dV 2)))
noncomputable def yA(a:Ad):ad Slot:=bo 3 [] (bn 1 (yaF a))
noncomputable def yaD(a:Ad):ad aG:=aC (gX 1 (dC (.int 0)))
 (mQ (aL (yA a) (gV (dV 0) (gV (eR (λxs=>jd (bu xs)) 1) (gV (dV 2) (bG))))))
noncomputable def ji(a:Ad):ad Slot:=bo 3 [1] (bn 0 (yaD a))
noncomputable def yaG(a:Ad):ad aG:=bV (d2 bB (dV 2) (a9 (aL (ji a) (gV (dV 0) (gO 1 (gV (dL bu (aw (dV 2) (az))) (bG)))))))
noncomputable def xI(a:Ad):ad Slot:=bo 3 [1] (bn 0 (yaG a))
noncomputable def yaI(a:Ad):ad aG:=aC (bE 4 (a9 (aL (xI a) (gV (dV 0) (gO 1 (gV (dF (dL cK (aw (dC (.int 1)) (aw (dC (.int 2)) (aw (dC (.int 2)) (aw (dC (.int 3)) (aw (dC (.int 3)) (aw (dC (.int 3)) (az))))))))) (bG)))))))
 (aC (bE 5 (dC (.str [])))
 (aC (λb=>cm (dJ 6 (dL km (aw (d2 bq (dV 2) (a9 (aL (ji a) (gV (dV 0) (gO 1 (gV (d2 bq (d2 fA (dV 3) (dV 2)) (dC (.int 1))) (bG))))))) (az))) (bE 5 (d2 bq (dV 5) (d2 bB (dC (.str [97,98,99])) (a9 (aL (ji a) (gV (dV 0) (gO 1 (gV (dV 4) (bG))))))))) b))
 (bV (dV 5))))
noncomputable def mR(a:Ad):ad Slot:=bo 4 [1] (bn 3 (yaI a))
noncomputable def yaH(a:Ad):ad aG:=bV (dL gY (aw (dF (dL gZ (aw (dF (cy [0,1] (dL km (aw (dL bu (aw (dV 0) (az))) (az))) (dB (d2 (cP λi j=>decide (i<=j)) (d2 bq (dV 0) (dV 2)) (dL bu (aw (dV 1) (az))))) (bN bY (dV 1) (bJ (dV 0)) (bJ (d2 bq (dV 0) (dV 2)))))) (az)))) (az)))
noncomputable def kW(a:Ad):ad Slot:=bo 2 [] (bn 0 (yaH a))
noncomputable def yaL(a:Ad):ad aG:=aC (bE 4 (bI (dB (d2 (eqT ai) (dV 2) (dC (.int 2)))) (d2 bq (dC (.int 2)) (a9 (aL (ji a) (gV (dV 0) (gO 1 (gV (dC (.int 3)) (bG))))))) (d2 bq (dC (.int 1)) (a9 (aL (ji a) (gV (dV 0) (gO 1 (gV (dC (.int 4)) (bG)))))))))
 (aC (cR 5 (dL oG (aw (a9 (aL (kW a) (gV (a9 (aL (mR a) (gV (dV 0) (gO 1 (gV (dV 4) (gV (d2 fA (d2 bq (dV 4) (dV 3)) (dC (.int 1))) (bG))))))) (gV (dV 4) (bG))))) (az))))
 (aC (λb=>cm (dJ 6 (dL km (aw (d2 iS (dV 2) (dC (.int 3))) (az))) (yD 5 (a9 (aL (ji a) (gV (dV 0) (gO 1 (gV (eR (λxs=>jd (bu xs)) 5) (bG)))))) (a9 (aL (mR a) (gV (dV 0) (gO 1 (gV (dV 4) (gV (dV 4) (bG)))))))) b))
 (bV (dL b9 (aw (dV 4) (aw (dL gY (aw (dF (eR (λxs=>kq (gZ xs)) 5)) (az))) (az)))))))
noncomputable def uh(a:Ad):ad Slot:=bo 4 [1] (bn 3 (yaL a))
noncomputable def yaM(a:Ad):ad aG:=aC (cR 1 (dL cK (aw (dL (jw (jg a)) (aw (dV 0) (aw (dC (.raw (.ref a.NoText))) (az)))) (aw (dL (jw (jg a)) (aw (dV 0) (aw (dC (.raw (.ref a.NoWidth))) (az)))) (aw (dL (jw (jg a)) (aw (dV 0) (aw (dC (.raw (.ref a.NoView))) (az)))) (aw (dL (jw (jg a)) (aw (dV 0) (aw (dC (.raw (.ref a.NoWindow))) (az)))) (az)))))))
 (aC (l7 1 (dF (dL cK (aw (dL (jw (jg a)) (aw (dV 0) (aw (dC (.raw (.ref a.Never))) (az)))) (aw (dL (jw (jg a)) (aw (dV 0) (aw (dC (.raw (.ref a.Full))) (az)))) (aw (dL (jw (jg a)) (aw (dV 0) (aw (dC (.raw (.ref a.Nothing))) (az)))) (aw (dL (jw (jg a)) (aw (dV 0) (aw (dC (.raw (.ref a.Unlike))) (az)))) (az))))))))
 (aC (l7 1 (dF (dL cK (aw (dL (jw (jg a)) (aw (dV 0) (aw (dC (.raw (.ref a.NoPlace))) (az)))) (aw (dL (jw (jg a)) (aw (dV 0) (aw (dC (.raw (.ref a.NoLetters))) (az)))) (aw (dL (jw (jg a)) (aw (dV 0) (aw (dC (.raw (.ref a.BadText))) (az)))) (az)))))))
 (aC (bI (jO (dB (d2 (eqT ai) (sj lY 1 (dC (.bl ai))) (dC (.int 1)))) (mP (dB (dL (jw (jg a)) (aw (dV 0) (aw (dC (.raw (.ty "ValueError"))) (az))))))) (bV (dL b9 (aw (dC (.str [114,101,102,117,115,101,100])) (aw (d1 dO (dC (.int 1))) (az))))) (cH))
 (bV (dL b9 (aw (dC (.str [114,101,102,117,115,101,100])) (aw (sj Bs 1 (dC (.bl ai))) (az))))))))
noncomputable def u8(a:Ad):ad Slot:=bo 1 [] (bn 1 (yaM a))
noncomputable def yaK(a:Ad):ad aG:=aC (bE 3 (a9 (aL (kW a) (gV (dV 0) (gV (dV 1) (bG))))))
 (bV (dL sA (aw (dF (cy [3,2] (bp (dV 3)) (dYes) (d2 (cP λi j=>decide (i<=j)) (rP lY (dV 1) (dV 0)) (rP lY (dV 2) (dV 0))))) (az))))
noncomputable def qb(a:Ad):ad Slot:=bo 3 [] (bn 1 (yaK a))
noncomputable def yap(a:Ad):ad aG:=aC (ku (aL (mZ a) (gV (dV 0) (bG))))
 (bI (dB (d2 (cP λi j=>decide (j<i)) (dL bu (aw (d2 bB (dV 0) (dC (.int 1))) (az))) (dC (.int 6)))) (uB (.ref a.Full) (λb=>cL ((dC (.str [97,32,118,105,101,119,32,116,104,97,116,32,105,115,32,115,104,97,114,101,100,32,111,117,116,32,97,109,111,110,103,32,116,101,120,116,115,32,104,97,115,32,117,112,32,116,111,32,54,32,119,105,110,100,111,119,115])) b))) (cH))
noncomputable def pK(a:Ad):ad Slot:=bo 1 [] (bn 0 (yap a))
noncomputable def yaO(a:Ad):ad aG:=aC (bE 1 (dF (dL cK (aw (dL b9 (aw (bN yK (dV 0) (bS) (bJ (dC (.int 1)))) (aw (dL b9 (az)) (az)))) (az)))))
 (aC (λε=>cm (dJ 2 (bp (bN bY (dV 0) (bJ (dC (.int 1))) (bS))) (aC (cR 3 (dL cK (az)))
 (aC (jU 4 5 (bp (dV 1)) (aC (gX 3 (dL b9 (aw (d2 nz (dV 4) (dL b9 (aw (dV 2) (az)))) (aw (dV 5) (az)))))
 (gX 3 (dL b9 (aw (dV 4) (aw (d2 nz (dV 5) (dL b9 (aw (dV 2) (az)))) (az)))))))
 (bE 1 (dM 3)))) ε))
 (rA (cy [] (bp (dF (dL sortSetDP (aw (dV 1) (az))))) (dB (d2 (cP λi j=>decide (j<i)) (dL bu (aw (d2 bB (dV 0) (dC (.int 1))) (az))) (dC (.int 0)))) (dV 0))))
noncomputable def pX(a:Ad):ad Slot:=bo 1 [] (bn 5 (yaO a))
noncomputable def yaJ(a:Ad):ad aG:=aC (cR 2 (dL cK (az)))
 (aC (cR 3 (cy [] (bp (dF (dL pW (aw (dV 1) (az))))) (dYes) (dV 0)))
 (aC (λε=>cm (eO (dB (rq (eqT ai) 3 (dF (dL cK (az))))) (aC (bE 4 (xK 3))
 (aC (cR 5 (dL oG (aw (dV 1) (az))))
 (aC (dJ 6 (bp (a9 (aL (kW a) (gV (dV 4) (gV (dV 0) (bG)))))) (lW 5 (dV 6)))
 (aC (gX 2 (dL b9 (aw (dV 4) (aw (eR (λxs=>jd (gY xs)) 5) (az)))))
 (l7 3 (dF (cy [4,0,1] (bp (dC (.str [97,98,99]))) (dB (a9 (aL (qb a) (gV (d2 bq (dV 1) (dV 0)) (gV (dV 2) (gV (dV 3) (bG))))))) (d2 bq (dV 1) (dV 0))))))))) 100000 ε))
 (bV (dF (eR (λxs=>kq (qh xs)) 2)))))
noncomputable def pZ(a:Ad):ad Slot:=bo 2 [] (bn 5 (yaJ a))
end Sh
namespace Pu
open L2
theorem bX{X:Cx}(b:List Nat)(h:Ag X.N X.env.scope a x (x::b.map λj=>X.N.getD j "") b=ai:=by kernel_rfl):iy X a x (x::b.map λj=>X.N.getD j "") b:=iy.of _ _ rfl rfl h
theorem ph:∀C b c f d,DF (cc X a g C b c f d) E0 [] dYes:=λ_ _ _ _ _=>Mm
noncomputable abbrev eK(P:aS)(w:aJ)(K:ay)(c:Str->Option ah)(a:aA)(x:Str)(k:Nat)(b:List Str)(g:ad Slot):=k9 (jy P w) P w K c a x k b (eN K g)
theorem dU{K:ay}{l:Str->Option ah}{c:aA}{x:Str}{b:bb}{N i:List Str}{k n:Nat}{d:ad aG}{pin:List Nat}(D:cG K l x b)(y:cr N i (bj b))(t:∀(f:ae) (j:ah) (A:aY) (g:List Env) (s:ao) (H:Hp) (E:XK),fg k (A.deeper (i7 x (bj b) s.heap.objs.size f j))->fM (iV o P w K l c N x (bj b) f j A g s H E) E pin (fD b) d) (q:N.length=i.length+n:=by rfl)(r:∀(kV m p:ah) (v:Option ae) (j u:ah) (a:List ah),a.length=i.length->fY (iI x x (jz b) (fD b) (bj b) .none kV m p v j u) ⟨a,[]⟩=pure (i.zip a):=by
   first|exact λ_ _ _ _ _ _ a h=>OU (λ_=>rfl) a h|exact λ_ _ _ _ _ _ a h=>KH (λ_ _=>rfl) a h|exact λ_ _ _ _ _ _ a h=>NU (λ_ _ _=>rfl) a h|exact λ_ _ _ _ _ _ a h=>SR (λ_ _ _ _=>rfl) a h) :
  k9 o P w K l c x (k+1) i (eN K (bo i.length pin (bn n d))):=xo D y q r t
section
variable{X:Cx}
theorem cE(c:k9 f X.prog X.w X.K X.mg X.base x k h (eN X.K g))(l:fg j X.A)(i:pP f X E)(q:DG X E (e::b) d)(m:k<=j:=by decide)(n:Gl X x:=by rfl)(o:ap x:=by decide) (s:aK (e::b) X.env=(am,aQ e X.env)::aK b X.env:=by rfl) (r:(cx a (aK b X.env)).any (·.1)=am:=by rfl):DR X E (.Call (.Name x p) (e::b) [] a) (aL g d):=ma c (l.mono m) i q n o s r
end
end Pu
namespace L2
open Mx
section
variable{X:Cx}
noncomputable def uH(a:List (List Tx×ae)):List V:=a.map λq=>.ref q.2
theorem Ff:∀{a:List (List Tx×ae)}{b:List ah},bt (uH a) b->b=a.map λq=>Value.ref q.2
 |[],_,h=>by cases h;rfl
 |q::a,_,h=>by
  cases h with
  |cons d c=>cases d;rw[Ff c];rfl
end
end L2
namespace Pu
open L2
noncomputable def u7(i:Nat)(b:ah->Bool)(h:ad Slot)(j:ad aG):ad aG:=λg=>match h g with
 |.ok (.val _) a=>.ok .next a
 |.ok _ _=>.no
 |.er c a=>if b c=ai/\i<a.length then(match j (a.set i (.val (.exc c)))with
  |.ok f d=>(match d[i]? with
   |some (.val _)=>.ok f (d.set i .none)
   |_=>.no)
  |_=>.no)else .no
 |.no=>.no
section
variable{X:Cx}{r:Pos}
theorem Lq(i:Nat){T:Pos}(hN:X.N.Nodup)(hx:DX X e l)(hD:X.mg h=aa (.ref D))(hE:p8 X.base D)(N:∀c,b c=ai->Under X.base D c)(hh:∀a,fM (hand X a) E0 pin (g::d) m)(cY:i∉pin:=by decide) (hi:X.N[i]?=aa n:=by rfl) (hl:X.env.scope.names.lookup n=aa .local:=by rfl) (hg:Gl X h:=by rfl) (hd:ap h:=by decide) (cM:X.stack=X.env::X.outer:=by rfl) (M:X.env.frame=aa X.env.locals:=by rfl) (hf:av X n:=by mleft)(L:jj e ac T.line X.env=pure am:=by rfl):DS X E pin (.Try [.Expr e T] [.ExceptHandler (aa (.Name h o)) (aa n) (g::d) p] [] [] j) (u7 i b l m):=λF S Q A H W rl q=>Bx.mk λag s I=>by
 refine wpAny_Try_except ?_;have C:=hx F S Q A H (λv w=>W.nx A w) (λc w=>∃z x t,aX X.K z x t A w/\bv (U S) (U x) F z H w/\b c=ai/\i<t.length/\fW X.K E pin A F S H (match m (t.set i (.val (.exc c)))with
  |.ok f B=>(match B[i]? with
   |some (.val _)=>.ok f (B.set i .none)
   |_=>.no)
  |_=>.no) W) rl (by
  unfold u7 at q;cases P:l Q with
  |no=>rw[P]at q;trivial
  |ok Z t=>
   rw[P]at q;intro z x w J O v Sr rv fr;cases Z with
   |none=>exact q.elim
   |val pv=>exact q z x A w J O (jc.refl _ _)
   |own po=>exact q.elim
  |er c t=>
   rw[P]at q;intro y z x w J O;dsimp only at q;by_cases G:b c=ai/\i<t.length
   .rw[if_pos G]at q;exact⟨z,x,t,J,O,G.1,G.2,q⟩
   .rw[if_neg G]at q;trivial) ag s I
 refine IT (wpAny_Expr_any (eU C (λu s1 ⟨v,H1,I1,r1,q1⟩=>?_) λev s1 Y=>?_) I.quiet L)
 .exact vB (vB ⟨_,H1,I1,q1⟩)
 .exact KC i hN hD hE N hh cY hi hl hg hd cM M hf Y
end
end Pu
namespace L2
open Mx SeqAt
open AutoSeq1 (wpAny_loadPart')
open MeetsSeq MeetsSeq2 MeetsSeq3
theorem A4(xs:List Tx):ltL xs []=am:=decide_eq_false (by simp)
theorem Cc:∀{c:List ah}{d:List Str}{i:Nat},cD c d->i<c.length->∃(a:Str) (t:Tok),c[i]?=aa (.str a t)/\d.drop i=a::d.drop (i+1)
 |_,_,0,.cons a t h,_=>⟨a,t,rfl,rfl⟩
 |_,_,i+1,.cons a t h,hi=>by obtain⟨b,u,g,f⟩:=Cc (i:=i) h (~~~hi);exact⟨b,u,by trivial,by trivial⟩
theorem Ru(l b:ae)(c a:Array ah)(n N:Nat)(dd H:Option ae)(M D:Array (Option ah))(q m:List Str)(I:cD c.toList q)(J:cD a.toList m)(k:Nat):∀i:Nat,c.size-i=k->i<=c.size->i<=a.size->Meets (Builtin.«list.__eq__.loop» ⟨[.ref l,.ref b,ee i,ee 0],[]⟩) (λA R s=>s.heap.get? l=aa {cls:=.type "list",dict:=dd,data:=.seq c n,slots:=M}/\s.heap.get? b=aa {cls:=.type "list",dict:=H,data:=.seq a N,slots:=D} /\ R (.ok (.ret (.bool (ltL (cpsL (q.drop i)) (cpsL (m.drop i)))))) s):=by
 have O:=strs_len I;have P:=strs_len J;rw[sT]at O P
 induction k with
 |zero=>
  intro i hk X W f w A R s h;obtain⟨C,g,d,v,B⟩:=s;obtain⟨o,p,h⟩:=h
  wp_walk using il o,il p
  have r:c[((i:Nat):Int).toNat]?=ac:=by simp;lia
  rw[r]
  wp_walk using il o,il p
  show R (.ok (.ret (.bool (decide (c.size<a.size))))) _;have e:ltL (cpsL (q.drop i)) (cpsL (m.drop i))=decide (c.size<a.size):=by
   rw[JJ (by simp_all:q.length<=i)];by_cases L:c.size<a.size
   .rw[decide_eq_true L,CY (show i<m.length by lia)];rfl
   .rw[decide_eq_false L,JJ (by lia:m.length<=i)];rfl
  rw[<-e];exact h
 |succ k S=>
  intro i hk X W f w A R s h;obtain⟨C,g,d,v,B⟩:=s;obtain⟨o,p,h⟩:=h
  wp_walk using il o,il p
  obtain⟨x,t,Z,dx⟩:=Cc (i:=i) I (by simp;lia);have r:c[((i:Nat):Int).toNat]?=aa (.str x t):= ~~~Z
  have hc:((i:Int)+1)=((i+1:Nat):Int):=by rfl
  rcases Nat.lt_or_ge i a.size with T|T
  .obtain⟨y,u,Y,dy⟩:=Cc (i:=i) J (by trivial);have j:a[((i:Nat):Int).toNat]?=aa (.str y u):= ~~~Y
   rw[r,j];rw[dx,dy]at h;have G:R (.ok (.ret (.bool (if x.cps.toList=y.cps.toList then ltL (cpsL (q.drop (i+1))) (cpsL (m.drop (i+1)))else decide (x.cps.toList<y.cps.toList))))) ⟨C,g,d,v,B⟩:=by rw[<-ltL_cons];exact h
   refine aq (EqAt.str_str x t y u f w _ _ ?_);by_cases e:x=y
   .subst e;rw[if_pos rfl]at G;rw[beq_self_eq_true]
    wp_walk
    rw[hc];exact⟨nU plain_eq_loop _,mo entry_eq_loop (by rw[nR plain_eq_loop _];exact S (i+1) nofun ∅ ∅ f w A R _ ⟨o,p,G⟩)⟩
   .rw[if_neg (λz=>e (cps_inj z))]at G;rw[beq_false_of_ne e];have F:∀(E:ah->ao->Prop) (Q:ah->ao->Prop),Q (.bool (decide (x.cps.toList<y.cps.toList))) ⟨C,g,d,v,B⟩->au (ax f w) A.in1 (richCompare .Lt (.str x t) (.str y u)) Q E ⟨C,g,d,v,B⟩:=λE Q h=>(PyProof.Rows.lt_str h:au (ax f w) A.in1 (df .Lt (.str x t) (.str y u)) Q E _)
    wp_walk using il o,il p
    rw[r,j]
    wp_walk using F
    trivial
  .have j:a[((i:Nat):Int).toNat]?=ac:=by simp;omega
   rw[r,j]
   wp_walk using il o,il p
   show R (.ok (.ret (.bool (decide (c.size<a.size))))) _;have e:ltL (cpsL (q.drop i)) (cpsL (m.drop i))=decide (c.size<a.size):=by rw[decide_eq_false ∅,JJ (by simp_all:m.length<=i)];exact A4 _
   rw[<-e];exact h
theorem Se(l b:ae)(c a:Array ah)(n q:Nat)(u j:Option ae)(p f:Array (Option ah))(m o:List Str)(v:cD c.toList m)(x:cD a.toList o):Meets (Builtin.«list.__lt__» ⟨[.ref l,.ref b],[]⟩) (λA R s=>s.heap.get? l=aa {cls:=.type "list",dict:=u,data:=.seq c n,slots:=p}/\s.heap.get? b=aa {cls:=.type "list",dict:=j,data:=.seq a q,slots:=f} /\ R (.ok (.ret (.bool (ltL (cpsL m) (cpsL o))))) s):=by
 intro i w A R s h;obtain⟨B,g,d,y,z⟩:=s;obtain⟨r,t,h⟩:=h;have f3:=AutoSeq1.sub_list_list
 wp_walk using il r,il t
 exact⟨nU plain_eq_loop _,mo entry_eq_loop (by rw[nR plain_eq_loop _];exact Ru l b c a n q u j p f m o v x _ 0 rfl (gn _) (gn _) i w A R _ ⟨r,t,h⟩)⟩
noncomputable def pC(h:aA)(c:List Str)(v:ah):Prop:=∃(a:ae) (b:Array ah),v=.ref a/\h.IsList a b/\cD b.toList c
section
variable{A:aY}{s:ao}
theorem M_(F:pC s.heap k v)(y:pC s.heap c g)(G:A.units<cLine)(h:Q (.bool (ltL (cpsL k) (cpsL c))) s):au (ax P w) A (richCompare .Lt v g) Q E s:=by
 obtain⟨l,t,rfl,H,I⟩:=F;obtain⟨b,z,rfl,J,D⟩:=y;obtain⟨⟨M,L,r,B⟩,j,o,n,m⟩:=id H;obtain⟨⟨u,d,f,a⟩,q,p,C,i⟩:=id J;simp only at o m p i;subst o m p i;exact richCompare_meets_room (op:=.Lt) ⟨_,j,rfl⟩ ⟨_,q,rfl⟩ PySem.F.slot_list_lt PySem.F.entry_list_lt (PySem.F.args_list_lt_2 _ _) (Se l b t z n C L d B a k c I D)
  ⟨j,q,show Value.bool _≠Value.notImplemented/\Q (.bool _) s from⟨(λx=>nomatch x),h⟩⟩ G
theorem pC.keep{c:aA}(x:pC h k v)(g:∀b o,h.get? b=aa o->c.get? b=aa o):pC c k v:=by obtain⟨a,t,rfl,⟨o,f,r⟩,d⟩:=x;exact⟨a,t,rfl,⟨o,g _ _ f,r⟩,d⟩
variable{l I S:ae}{vs:List ah}{kf:Nat->List Str}
structure Ul(s:ao)(l I S:ae)(vs:List ah)(kf:Nat->List Str)(j i:Nat)(h:aA):Prop where
 keep:∀b o,s.heap.get? b=aa o->h.get? b=aa o
 it:h.IsListIter I l (j+1)
 st:∃vb c,h.get? S=aa (eu "list" #[vb,vb] c)/\vs[i]?=aa vb
 ij:i<=j
 best:∀j',j'<=j->ltL (cpsL (kf j')) (cpsL (kf i))=am
theorem O7(hh:A.handled=ac)(hu:A.units+4<cLine)(hl:s.heap.IsList l vs.toArray)(fI:s.heap.get? I=ac)(fS:s.heap.get? S=ac)(B:S≠I)(g:∀(i:Nat) (v:ah),vs[i]?=aa v->pC s.heap (kf i) v)(hR:∀i v y p,vs[i]?=aa v->(∀j,j<vs.length->ltL (cpsL (kf j)) (cpsL (kf i))=am)->(∀b o,s.heap.get? b=aa o->y.get? b=aa o)->R (.ok (.ret v)) {s with heap:=y,toks:=p}):∀(r j i:Nat) (h:aA) (F:Nat),vs.length-(j+1)=r->j+1<=vs.length->Ul s l I S vs kf j i h->lA (ax P w) A (.builtin "min.loop" ⟨[.ref I,.none,.ref S],f⟩) R {s with heap:=h,toks:=F}:=by
 have N:(toString "min"++toString ".loop" : String) = "min.loop":=by rfl
 have pi:l≠I:=λz=>by obtain⟨o,e,_⟩:=hl;lia
 have W:=Walks.list (prog:=P) (w:=w) (A:=A.in1) hh I l pi vs.toArray;have J:vs.toArray.size=vs.length:=dW ..;have Y:∀{h:aA},(∀b o,s.heap.get? b=aa o->h.get? b=aa o)->h.IsList l vs.toArray:=λk=>by obtain⟨o,e,r⟩:=hl;exact⟨o,k _ _ e,r⟩
 intro r
 induction r with
 |zero=>
  intro j i h F hr hj M;obtain⟨C,c,t,d⟩:=M.st;refine mo JK ?_;rw[nR tQ _];refine aq (tE t rfl ?_);refine aq (zf (W.done _ _ _ ⟨by rw[J,show vs.length=j+1 by lia];exact M.it,Y M.keep⟩ λy p Z=>?_));have u:=nQ y S (gm λ_=>(#[]:Array ah));refine aq ?_;refine Dk (Z S _ (~~~B) t) rfl (aq (Dl (aE ?_)));refine hR i C _ _ d (λm fJ=>M.best m ∅) λb o e=>?_;have nb:b≠I:=λz=>by lia
  have G:b≠S:=λz=>by lia
  exact(u.2 b G).trans (Z b o (~~~nb) (M.keep b o e))
 |succ r ih=>
  intro j i h F hr hj M;obtain⟨C,c,t,d⟩:=M.st;have bg:j+1<vs.length:=nofun
  refine mo JK ?_;rw[nR tQ _];refine aq (tE t rfl ?_);refine aq (zf (W.item (j+1) _ _ _ (by trivial) ⟨M.it,Y M.keep⟩ λv x D hP cM O=>?_));have hv:vs[j+1]?=aa v:= ~~~hP
  obtain⟨X,eI,T,q⟩:=id cM.1;have a:∀b o,s.heap.get? b=aa o->x.get? b=aa o:=λb o e=>O b o (by intro z;rw[jo.mp z,fI]at e;cases e) (M.keep b o e);have n:=O S _ (~~~B) t;refine aq (aE ?_);refine aq (zf (ig (aq (M_ (s:={s with heap:=x,toks:=D}) (A:=A.in1) ((g _ _ hv).keep a) ((g _ _ d).keep a) (show A.units+1<cLine by lia) ?_))));refine aq (ig (nJ ?_));refine aq (Dl (aE ?_));by_cases H:ltL (cpsL (kf (j+1))) (cpsL (kf i))=ai
  .have u:=nQ x S (gm λ_=>#[v,v]);obtain⟨L,gv⟩:∃L,(x.update S (gm λ_=>#[v,v])).get? S=aa (eu "list" #[v,v] L):=⟨_,zb n λ_=>#[v,v]⟩
   simp only[H,if_true];refine aq ?_;refine Dk n rfl (aq (Dl ?_));rw[N];refine aE ⟨nU tQ _,ih (j+1) (j+1) _ _ nofun bg ⟨λb o e=>?_,⟨X,(u.2 I B.symm).trans eI,T,q⟩,⟨v,L,gv,hv⟩,bc _,λm fJ=>?_⟩⟩
   .exact(u.2 b (λz=>by lia)).trans (a b o e)
   .by_cases e:m=j+1
    .subst e;exact ordL.irrefl _
    .cases hq:ltL (cpsL (kf m)) (cpsL (kf (j+1)))with
     |false=>rfl
     |true=>have:=List.lt_trans (of_decide_eq_true hq) (of_decide_eq_true H);have h2:=M.best m ∅;exact absurd this (of_decide_eq_false h2)
  .have wF:ltL (cpsL (kf (j+1))) (cpsL (kf i))=am:= ~~~H
   simp only[wF,fG,if_false];refine aq (Dl ?_);rw[N];refine aE ⟨nU tQ _,ih (j+1) i _ _ nofun bg ⟨a,⟨X,eI,T,q⟩,⟨C,c,n,d⟩,by have:=M.ij;lia,λm fJ=>?_⟩⟩;by_cases e:m=j+1
   .subst e;trivial
   .exact M.best m ∅
theorem MR(d:Option ah)(O:A.handled=ac)(hu:A.units+4<cLine)(p:s.heap.IsList l vs.toArray)(ce:0<vs.length\/d≠ac)(h:∀(i:Nat) (v:ah),vs[i]?=aa v->pC s.heap (kf i) v)(hQ:∀i v g a,vs[i]?=aa v->(∀j,j<vs.length->ltL (cpsL (kf j)) (cpsL (kf i))=am)->(∀b o,s.heap.get? b=aa o->g.get? b=aa o)->Q v {s with heap:=g,toks:=a})(hD:∀u g a,d=aa u->vs.length=0->(∀b o,s.heap.get? b=aa o->g.get? b=aa o)->Q u {s with heap:=g,toks:=a}):au (ax P w) A (call (.builtin "min") [.ref l] (d.toList.map λu=>(sY "default",u))) Q E s:=by
 have J:(toString "min"++toString ".loop" : String) = "min.loop":=by rfl
 refine kmk_tree PySem.F.kind_min PySem.F.plain_min PySem.F.entry_min (by cases d;all_goals rfl) ?_;refine aq (qE (show Builtin.Builtins.bindParams "min" ["key","default"] 0 ⟨[],d.toList.map λu=>(sY "default",u)⟩=pure [ac,d] by cases d <;> rfl) ?_);refine aq (aE ?_);refine aq (CJ p ?_);refine aq (C9 ?_ (gn _));rw[J];generalize D:s.heap.objs.size=I;generalize C:s.heap.push {cls:=.type "list_iterator",data:=.fields #[.ref l,.int 0 0]}=g1;have B:g1.get? I=aa {cls:=.type "list_iterator",data:=.fields #[.ref l,.int 0 0]}:=by rw[<-C,<-D];exact cS _ rfl
 have y:∀b o,s.heap.get? b=aa o->g1.get? b=aa o:=λb o e=>by rw[<-C];exact bD _ e
 have m:g1.objs.size=I+1:=by rw[<-C,<-D];exact lI ..
 generalize hS:g1.objs.size=S at m;have G:s.heap.get? I=ac:=vA ∅;have fS:s.heap.get? S=ac:=vA (by rw[D,m];simp);have q:S≠I:=⋯
 refine aE ⟨nU tQ _,?_⟩;have t:∀b o,s.heap.get? b=aa o->(g1.push (eu "list" #[] 0)).get? b=aa o:=λb o e=>bD _ (y b o e);have X:(g1.push (eu "list" #[] 0)).get? S=aa (eu "list" #[] 0):=by rw[<-hS];exact cS _ rfl
 have gI:(g1.push (eu "list" #[] 0)).get? I=aa {cls:=.type "list_iterator",data:=.fields #[.ref l,.int 0 0]}:=bD _ B;have pi:l≠I:=λz=>by obtain⟨o,e,_⟩:=p;lia
 have W:=Walks.list (prog:=P) (w:=w) (A:=A.in1) O I l pi vs.toArray;have hsz:vs.toArray.size=vs.length:=dW ..;refine mo JK ?_;rw[nR tQ _];refine aq (tE X rfl ?_);have N:(g1.push (eu "list" #[] 0)).IsListIter I l 0/\(g1.push (eu "list" #[] 0)).IsList l vs.toArray:=⟨⟨_,gI,rfl,rfl⟩,(let ⟨o,e,r⟩:=p;⟨o,t _ _ e,r⟩)⟩
 by_cases T:0<vs.length
 .refine aq (zf (W.item 0 _ _ _ (by trivial) N λv F Y hP cM L=>?_));have hv:vs[0]?=aa v:= ~~~hP
  obtain⟨oI,eI,Z,x⟩:=id cM.1;have c:∀b o,s.heap.get? b=aa o->F.get? b=aa o:=λb o e=>L b o (by intro z;rw[jo.mp z,G]at e;cases e) (t b o e);have n:=L S _ (~~~q) X;have M:=nQ F S (gm λ_=>#[v,v]);obtain⟨H,gv⟩:∃H,(F.update S (gm λ_=>#[v,v])).get? S=aa (eu "list" #[v,v] H):=⟨_,zb n λ_=>#[v,v]⟩
  refine aq (aE ?_);refine aq ?_;refine Dk n rfl ?_;rw[J];refine aE ⟨nU tQ _,O7 O hu p G fS q h hQ _ 0 0 _ _ rfl T ⟨λb o e=>?_,⟨oI,(M.2 I q.symm).trans eI,Z,x⟩,⟨v,H,gv,hv⟩,bc _,λj' fJ=>?_⟩⟩
  .exact(M.2 b (λz=>by lia)).trans (c b o e)
  .obtain rfl:j'=0:=∅
   exact ordL.irrefl _
 .obtain⟨u,rfl⟩:∃u,d=aa u:=by
   cases d with
   |none=>exact absurd rfl (ce.resolve_left T)
   |some u=>lia
  refine aq (zf (W.done _ _ _ ⟨⋯,N.2⟩ λg a kK=>?_));refine aq (qD ?_);refine aE ?_;exact hD u _ _ rfl ⋯ λb o e=>kK b o (by intro z;rw[jo.mp z,G]at e;cases e) (t b o e)
end
open Mx
section
variable{X:Cx}{b:St}{H:Hp}
theorem LZ(I:Inv X c b H s)(h:Rd H a (.lst (bH k))):pC s.heap (k.map tS) (.ref a):=by obtain⟨d,f,g,_⟩:=I.list (.inl h);exact⟨a,d.toArray,rfl,g.isList,by rw[CL];exact om f⟩
theorem Hm(k:List Tx):cpsL (k.map tS)=k:=by simp[cpsL,cU,tI,l9]
theorem Io(M:X.A.units+64<cLine)(E:X.calm=ai)(I:Inv X c b H s)(B:b_ X.K H p (uH a))(C:∀q∈a,Rd H q.2 (.lst (bH q.1)))(d:Option ah)(O:a≠[]\/d≠ac)(t:∀q∈a,(∀y∈a,ltL y.1 q.1=am)->Q (.ref q.2) H) (r:∀u,d=aa u->a=[]->∃v,RelV v u/\Q v H):au X.zz X.A (call (.builtin "min") [.ref p] (d.toList.map λu=>(sY "default",u))) (EP X c b Q) X.xe s:=by
 obtain⟨f,o,z,L⟩:=I.list B;have l:=Ff o;have J:f.length=a.length:=⋯
 have m:∀(i:Nat) (v:ah),f[i]?=aa v->∃q,a[i]?=aa q/\v=.ref q.2:=λi v g=>by rw[l,jl]at g;obtain⟨q,t,r⟩:=lE.mp g;exact⟨q,t,r.symm⟩
 refine MR (vs:=f) (kf:=λi=>((a.getD i ([],0)).1).map tS) d (I.ok.hd E) ∅ z.isList ?_ (λi v g=>?_) (λi v F n g x k=>?_) λu F n D N k=>?_
 .grind
 .obtain⟨q,h,rfl⟩:=m i v g;have e:a.getD i ([],0)=q:=by simp[h]
  rw[e];exact LZ I (C q (oV h))
 .obtain⟨q,h,rfl⟩:=m i v g;have e:a.getD i ([],0)=q:=by simp[h]
  refine⟨.ref q.2,H,I.kept (t':=n) k,rfl,t q (oV h) λy A=>?_⟩;obtain⟨j,w⟩:=zc.mp A;have:=x j (by rw[J];exact(c_.mp w).1);have G:a.getD j ([],0)=y:=by simp[w]
  rw[e,G,Hm,Hm]at this;trivial
 .obtain⟨v,o,q⟩:=r u D (lF ⋯);exact⟨v,H,I.kept (t':=n) k,o,q⟩
noncomputable def FW(K:ay):List V->Hp->VK->Prop:=λxs H Q=>∃(p:ae) (a:List (List Tx×ae)),xs=[.ref p]/\b_ K H p (uH a)/\(∀q∈a,Rd H q.2 (.lst (bH q.1)))/\a≠[]/\∀q∈a,(∀y∈a,ltL y.1 q.1=am)->Q (.ref q.2) H
theorem QV(d:X.A.units+64<cLine)(i:X.calm=ai):dq X (.builtin "min") (FW X.K):=by
 intro c s b H xs l Q I r h;obtain⟨p,m,rfl,f,g,j,q⟩:=h;obtain⟨u,rfl,a⟩:=vals1 r;cases a;exact Io d i I f g ac (.inl j) q λu z=>nomatch z
noncomputable def Rg(g:TA):TE:=λb H Q=>g b H λh f=>∃(a:ae) (d:List (List Tx×ae)),h=[.ref a]/\f a=aa (.lst (uH d))/\(∀q∈d,Rd f q.2 (.lst (bH q.1))) /\
 ∀l,f l=ac->(∀q∈d,(∀y∈d,ltL y.1 q.1=am)->Q (.ref q.2) (upd f l (.lst [])))/\(d=[]->Q (.ref l) (upd f l (.lst [])))
theorem K6(G:X.A.units+64<cLine)(N:X.calm=ai)(M:Gl X "min")(L:X.mg "min"=ac)(O:PA X [.Name z n] j):PE X (.Call (.Name "min" p) [.Name z n] [⟨aa "default",.List [] f,D⟩] d) (Rg j):=by
 intro c s b H Q I h;refine vE (vj I M L (show d_ "min"=aa (.builtin "min") by kernel_rfl) ?_ (by decide) (by rfl));refine callWith_kw (aR (O d c s b H _ I h) λus t ⟨Z,i,Y,A,q⟩=>?_);obtain⟨a,qs,rfl,T,S,P⟩:=q;obtain⟨u,rfl,y⟩:=vals1 A;cases y;refine kws_cons (aR (Ii gh c t b i (λv r=>∃l,v=.ref l/\i l=ac/\r=upd i l (.lst [])) Y ⟨by simp,λl g=>⟨l,rfl,g,rfl⟩⟩) λw s2 F=>kws_nil ?_);obtain⟨v,r,W,x,l,rfl,g,rfl⟩:=F;cases x;obtain⟨C,B⟩:=P l g;have m:=Bj (H:=i) (o:=.lst []) g;exact Io G N W (.inl (.inl (m _ _ T))) (λq J=>m.rd (S q J)) (aa (.ref l)) (.inr (by simp)) C λu e E=>⟨.ref l,by cases e;rfl,B E⟩
end
end L2
namespace Pu
open L2
noncomputable def aF(k:List Tx):PV:=.lst (ak k)
noncomputable def tls:List PV->Option (List (List Tx))
 |[]=>aa []
 |.lst xs::r=>(dZ xs).bind λk=>(tls r).bind λks=>aa (k::ks)
 |_=>ac
theorem zy:∀ks:List (List Tx),tls (ks.map aF)=aa ks
 |[]=>rfl
 |k::ks=>by show(dZ (ak k)).bind _=_;rw[kb,eZ,zy ks];rfl
theorem Em:∀{xs:List PV}{ks:List (List Tx)},tls xs=aa ks->xs=ks.map aF:=by
 intro xs
 induction xs with
 |nil=>trivial
 |cons x xs b=>
  intro ks h;cases x with
  |lst i=>
   obtain⟨k,g,f⟩:=kJ.mp h;obtain⟨a,d,c⟩:=kJ.mp f;cases c;rw[mO g,b d];rfl
  |_=>cases h
noncomputable def pD:List (List Tx)->Option (List Tx)
 |[]=>ac
 |x::r=>aa (r.foldl (λb y=>if ltL y b then y else b) x)
theorem LA(d:ltL a b=am)(c:ltL b a=am):a=b:=List.le_antisymm (of_decide_eq_false c) (of_decide_eq_false d)
theorem xX(f:ltL a b=am)(d:ltL b c=am):ltL a c=am:=by
 cases h:ltL a c with
 |false=>rfl
 |true=>exact absurd (List.lt_of_le_of_lt (show b<=a from of_decide_eq_false f) (of_decide_eq_true h)) (of_decide_eq_false d)
theorem Fz(r:List (List Tx)):∀b,(r.foldl (λb y=>if ltL y b then y else b) b∈b::r)/\∀y∈b::r,ltL y (r.foldl (λb y=>if ltL y b then y else b) b)=am:=by
 induction r with
 |nil=>intro b;exact⟨by simp,λy a=>by rw[jo.mp a];exact ordL.irrefl b⟩
 |cons c r g=>
  intro b;rw[lD];obtain⟨i,f⟩:=g (if ltL c b then c else b);have d:=f _ (i4 ..);refine⟨?_,λy a=>?_⟩
  .grind
  .rcases bQ.mp a with rfl|a
   .refine xX ?_ d;split
    .rename_i h;exact decide_eq_false (List.lt_asymm (of_decide_eq_true h))
    .exact ordL.irrefl _
   .rcases bQ.mp a with rfl|a
    .refine xX ?_ d;split
     .exact ordL.irrefl _
     lia
    .exact f y (by simp[a])
theorem G3(h:x∈a)(c:∀y∈a,ltL y x=am):pD a=aa x:=by
 cases a with
 |nil=>cases h
 |cons b r=>obtain⟨f,d⟩:=Fz r b;show aa _=aa x;congr 1;exact LA (c _ f) (d x h) |>.symm ▸ rfl
theorem A7{K:ay}:∀{ks:List (List Tx)}{c:List V},Reps K H F (ks.map aF) c->∃a:List (List Tx×ae),a.map (·.1)=ks/\c=uH a/\∀q∈a,Rd H q.2 (.lst (bH q.1))/\aZ K H F (aF q.1) (.ref q.2)
 |[],_,h=>⟨[],rfl,h,λq f=>by trivial⟩
 |k::ks,_,⟨v,r,e,l,j⟩=>by
  obtain⟨b,m,rfl,i,_,g⟩:=id l;rw[(UX.mp g).1]at i;obtain⟨a,o,d,n⟩:=A7 j;refine⟨(k,b)::a,⋯,by rw[e,d];rfl,λq f=>?_⟩
  grind
theorem Ej{a:List (List Tx×ae)}(h:q∈a)(c:∀y∈a,ltL y.1 q.1=am):pD (a.map (·.1))=aa q.1:=G3 (b8.mpr ⟨q,h,rfl⟩) λy b=>by
 grind
noncomputable def uw:List PV->Option PV
 |[.lst xs]=>(tls xs).bind λks=>(pD ks).map aF
 |_=>ac
theorem Kx{K:ay}:PL K (FW K) uw:=λF H xs o Q pv g e q=>by
 unfold uw at e;split at e
 .obtain⟨v,rfl,a,p,rfl,j,_,f⟩:=ge g;obtain⟨ks,n,l⟩:=kJ.mp e;obtain⟨m,c,rfl⟩:=lE.mp l;obtain rfl:=Em n;obtain⟨h,rfl,rfl,d⟩:=A7 f;refine⟨a,h,rfl,.inl j,λx b=>(d x b).1,(λz=>by rw[z]at c;trivial),λx b i=>?_⟩;rw[Ej b i]at c;cases c;exact q _ F H (Al.refl ..) (d x b).2
 trivial
noncomputable def uk(i:Nat):ad PV:=λε=>(aD (bR ε i) ε).bind λxs ε=>aD ((tls xs).bind λks=>aa (aF ((pD ks).getD []))) ε
section
variable{X:Cx}{E:XK}
theorem Kh(i:Nat){z:Str}{b u g:Pos}(w:X.A.units+64<cLine)(D:X.calm=ai)(y:X.mg "min"=ac)(I:X.N[i]?=aa z:=by rfl) (L:dr X.env.scope z:=by eq_refl) (C:ap z:=by decide) (M:aO z:=by decide)(B:Gl X "min":=by rfl):DE X E (.Call (.Name "min" p) [.Name z t] [⟨aa "default",.List [] b,u⟩] g) (uk i):=λF S r N H Q f h=>by
 unfold uk at h;cases n:bR r i with
 |none=>rw[n]at h;exact h.elim
 |some xs=>
  rw[n]at h;simp only[ci,R.bind_ok]at h;cases m:tls xs with
  |none=>rw[m]at h;exact h.elim
  |some ks=>
   rw[m,eZ]at h;obtain rfl:=Em m;obtain⟨a,J,⟨O,G,s⟩,_⟩:=f.own i _ (eM n);obtain⟨o,rfl,rfl,q⟩:=A7 s;refine bU (K6 w D B y (fz (eJ I L C M) gh (by rfl))) ?_;refine⟨_,J,a,o,rfl,G,λx d=>(q x d).1,λl A=>?_⟩;have al:Al F (λc=>F c\/c=l) H (upd H l (.lst [])):=Al.new A;refine⟨λx d j=>?_,λv=>?_⟩
   .have e:pD (o.map (·.1))=aa x.1:=Ej d j;rw[e]at h;exact h _ S _ (f.al al) al.grow _ (al.rep (q x d).2)
   .subst v;exact h _ S _ (f.al al) al.grow _ ⟨l,[],rfl,.inl upd_same,.inr rfl,rfl⟩
end
noncomputable def sr:PV->PV->Option PV
 |.str x,.str y=>aa (.bl (decide (y<=x)))
 |_,_=>ac
noncomputable def E6:R2:=λx y H Q=>∃s t:Tx,x=tV s/\y=tV t/\Q (.bl (decide (t<=s))) H
theorem PJ:bZ X (df .GtE) E6:=by
 intro i s f H x y v u Q I d c h;obtain⟨a,b,rfl,rfl,q⟩:=h;obtain⟨t,rfl⟩:=d;obtain⟨g,rfl⟩:=c;refine PySem.P.ge_str ?_;rw[l9,l9];have e:(!decide (a<b))=decide (b<=a):=by
  grind
 rw[e];exact⟨.bl _,H,I,rfl,q⟩
theorem Ux{K:ay}:P2 K E6 sr:=λF H x y v u Q pv b a e q=>by
 unfold sr at e;split at e
 .cases e;exact⟨_,_,b.1,a.1,q _ F H (Al.refl ..) rfl⟩
 trivial
open AutoSeq1 in
theorem P9(l:ae)(c:Array ah)(n:Nat)(b:ae)(a:Array ah)(q:Nat)(u:Option ae)(o:Array (Option ah))(r:¬(!c.isEmpty&&yW (c.size+a.size))=ai)(m:c.size<=bd)(p:c.size+a.size<=bd+1):Meets (Builtin.«list.extend» ⟨[.ref l,.ref b],[]⟩) (λ_ R s=>s.heap.get? l=aa {cls:=.type "list",dict:=ac,data:=.seq c n,slots:=#[]}/\s.heap.get? b=aa {cls:=.type "tuple",dict:=u,data:=.seq a q,slots:=o}/\R (.ok (.ret Value.none)) {s with heap:=s.heap.update l (gm λx=>x++a),toks:=s.toks}) :=
 .of_wp λf w A R s h=>by
  obtain⟨z,g,d,v,y⟩:=s;obtain⟨i,t,h⟩:=h;have C:=idx_int;have f2:=AutoSeq1.sub_tuple_tuple;have f3:=AutoSeq1.sub_list_list;have f4:=AutoSeq1.sub_tuple_list;have B:=AutoSeq1.sub_list_tuple;have j:(c++a).size<=bd+1:=by rw[Array.size_append];exact p
  wp_walk using(Dk i rfl (hz:=m) (_hz':=j)),il i,il t
  exact⟨_,rfl,h⟩
noncomputable def Mg:V->List V->Hp->VK->Prop:=λx c H Q=>∃l b xs a,x=.ref l/\c=[.ref b]/\H l=aa (.lst xs)/\H b=aa (.tup a)/\xs.length+a.length<=bd/\Q .non (L2.upd H l (.lst (xs++a)))
theorem NI:oR X "list.extend" Mg:=by
 intro S s G H x L v M Q I w y h;obtain⟨l,b,xs,J,rfl,rfl,o,C,N,q⟩:=h;cases w;obtain⟨u,rfl,A⟩:=y.one;cases A;obtain⟨z,c,n,r,O,e⟩:=I.lstM o;obtain⟨a,j,⟨⟨t,g,i,d⟩,D,p,B,m⟩,_⟩:=I.tuple (cC.of C);simp only at p m;subst p m;have P:=j.length;have f:c.toArray.size+a.toArray.size<=bd:=⋯
 have E:¬(!c.toArray.isEmpty&&yW (c.toArray.size+a.toArray.size))=ai:=by rw[Hw f,vK];lia
 refine nN F.slot_list_extend ⟨_,e,rfl⟩ F.entry_list_extend (F.args_list_extend_2 _ _)
  (P9 l c.toArray n b a.toArray B g d E ⋯ ∅) ⟨e,D,?_⟩
 refine⟨.non,_,I.lset (its':=c++a) o e (by simp) (r.append j) ?_,rfl,q⟩;rw[ef];omega
noncomputable def u_(i:Nat)(de:ad PV):ad aG:=λε=>(aD (bR ε i) ε).bind λ_ ε=>(de ε).bind λy a=>(aD (bR a i) a).bind λxs a=>match y with
 |.tup b=>if xs.length+b.length<=bw then .ok .next (a.set i (.own (.lst (xs++b))))else .no
 |_=>.no
theorem LD{f:Pos}(i:Nat){d:Pos}(P:DE X E e de)(Y:X.N[i]?=aa x:=by rfl)(M:dr X.env.scope x:=by eq_refl)(Q:ap x:=by decide)(bf:aO x:=by decide) (h1:i8 (.Name x p) "extend" X.env (aQ (.Name x p) X.env)=aQ (.Name x p) X.env:=by rfl)(h2:((cx b (aK [e] X.env)).all (λx=>!x.1)&&(mh b (mi [] X.env)).all (λx=>x.1.isSome)&&decide ([e].length+([]:List gk).length+(if([]:List gk).isEmpty then 0 else 1)<30))=ai:=by rfl)(h3:(d.endLine == b.line)=ai:=by rfl) (z:aK [e] X.env=(am,aQ e X.env)::aK [] X.env:=by rfl) (Z:(cx b (aK [] X.env)).any (·.1)=am:=by rfl)(N:jj (.Call (.Attribute (.Name x p) "extend" d) [e] [] b) ac f.line X.env=pure am:=by rfl):DS X E pin (.Expr (.Call (.Attribute (.Name x p) "extend" d) [e] [] b) f) (u_ i de):=λF S r o H D s h=>by
 unfold u_ at h;cases n:bR r i with
 |none=>rw[n]at h;exact h.elim
 |some A=>
  rw[n]at h;simp only[ci,R.bind_ok]at h;obtain⟨a,B,m,W,_,_,_⟩:=s.lstAt (eM n);refine gi (uX (p_ tG PySem.F.slot_list_extend PySem.F.type_list_extend NI (eJ Y M Q bf) (fz bF gh z) h1 h2 h3 z Z) N) ⟨.ref a,m,.inl ⟨rfl,_,b_.of W⟩,?_⟩;refine P F S r o H _ s (h.bindE.imp λy l F1 S1 H1 w g1 q v I=>?_);cases j:bR l i with
  |none=>rw[j]at q;trivial
  |some xs=>
   rw[j]at q;simp only[ci,R.bind_ok]at q;obtain⟨a',C,g,L,u,_,_⟩:=w.lstAt (eM j);rw[m]at g;cases g;split at q
   .rename_i ys;split at q
    .rename_i O;obtain⟨c,G,rfl,T,t⟩:=I;obtain⟨J,g2⟩:=w.upd (eM j) m (u.app t);exact⟨a,c,C,G,rfl,rfl,L,T,by rw[u.len,t.len];exact bT O lZ,q F1 S1 o _ J g2 (jc.refl _ _)⟩
    trivial
   trivial
end Pu
local macro_rules | `(tactic| simp! [$xs,*]) => `(tactic| simp [Pu.aC, Pu.bI, Pu.dB, Pu.d2, Pu.d1, Pu.dV, Pu.dC, Pu.dL, Pu.dF, Pu.aw, Pu.az, Pu.bV, Pu.mQ, Pu.bE, Pu.cR, Pu.aL, Pu.gV, Pu.gO, Pu.bG, Pu.dY, Pu.eT, Pu.cg, Pu.c8, Pu.eF, Pu.R.bind, Pu.aD, Pu.bo, Pu.fP, Pu.bn, Pu.back, Pu.gf, Pu.ka, Pu.oK, Pu.kc, Pu.qe, Pu.Bi, Pu.a9, Pu.kZ, Pu.cK, Pu.b9, Pu.cH, Pu.B7, Pu.ku, Pu.SZ, Pu.mP, Pu.BP, Pu.ou, Pu.jO, Pu.kN, Pu.Qu, Pu.sd, Pu.cP, Pu.bR, Pu.gX, Pu.eR, Pu.jd, Pu.imm, Pu.kq, Pu.je, bz, qw, $xs,*])
namespace K28
open L2 Pu Sh
noncomputable def dD(i:Nat):bb:=PySem.Challenge.pw_slitview_k28_whole_bundle.main.body.getD i (.Pass ⟨0,0,0,0⟩)
noncomputable abbrev zO:bb:=dD 41
noncomputable abbrev zA:bb:=dD 42
noncomputable abbrev AQ:bb:=dD 43
noncomputable abbrev zC:bb:=dD 46
noncomputable abbrev B2:bb:=dD 44
noncomputable abbrev Aw:bb:=dD 45
noncomputable abbrev z9:bb:=dD 47
noncomputable abbrev Ah:bb:=dD 18
noncomputable abbrev Ck:bb:=dD 19
noncomputable abbrev Ae:bb:=dD 17
noncomputable abbrev BF:bb:=dD 20
noncomputable abbrev Ak:bb:=dD 21
noncomputable abbrev Bv:bb:=dD 22
noncomputable abbrev A_:bb:=dD 23
noncomputable abbrev Cm:bb:=dD 24
noncomputable abbrev AW:bb:=dD 34
noncomputable abbrev Aq:bb:=dD 30
noncomputable abbrev z5:bb:=dD 29
noncomputable abbrev Cd:bb:=dD 31
noncomputable abbrev zw:bb:=dD 35
noncomputable abbrev Ci:bb:=dD 38
noncomputable abbrev zX:bb:=dD 27
noncomputable abbrev zG:bb:=dD 26
noncomputable abbrev x6:bb:=dD 36
noncomputable abbrev AY:bb:=dD 37
noncomputable abbrev zS:bb:=dD 39
noncomputable abbrev As:bb:=dD 51
noncomputable abbrev Cb:bb:=dD 48
noncomputable abbrev BL:bb:=dD 50
noncomputable abbrev AF:bb:=dD 52
noncomputable abbrev wU:bb:=dD 53
structure c9(K:ay)(mg:Str->Option ah)(base:aA)(a:Ad):Prop where
 yaC:cG K mg "_law_cell_at" zO
 yaF:cG K mg "_law_mixed" zA
 yaD:cG K mg "_law_draw" AQ
 yaH:cG K mg "_law_seen" zC
 yaG:cG K mg "_law_pick" B2
 yaI:cG K mg "_law_text" Aw
 yaL:cG K mg "_law_view" z9
 yay:cG K mg "is_whole_number" Ah
 yaz:cG K mg "is_width" Ck
 yav:cG K mg "has_only" Ae
 yaA:cG K mg "is_window" BF
 yan:cG K mg "are_windows" Ak
 yax:cG K mg "is_view_with" Bv
 yaw:cG K mg "is_view" A_
 yaq:cG K mg "check_view" Cm
 yap:cG K mg "check_shared_view" AW
 yam:cG K mg "add_endings" Aq
 yar:cG K mg "counted" z5
 yaQ:cG K mg "texts" Cd
 yaO:cG K mg "partings" zw
 yaN:cG K mg "least_list" Ci
 yaP:cG K mg "reached_pieces" zX
 yas:cG K mg "excesses" zG
 yat:cG K mg "fewest_for" x6
 yau:cG K mg "fewest_texts" AY
 yao:cG K mg "bundle" zS
 yaM:cG K mg "_law_which" As
 yaK:cG K mg "_law_under" Cb
 yaJ:cG K mg "_law_trails" BL
 yaE:cG K mg "_law_lists" AF
 yaB:cG K mg "law" wU
 yaR:mg "ValueError"=ac
 yaS:mg "all"=ac
 yaT:mg "any"=ac
 yaU:mg "bool"=ac
 yaV:mg "int"=ac
 yaW:mg "isinstance"=ac
 yaX:mg "len"=ac
 yaY:mg "list"=ac
 yaZ:mg "max"=ac
 ya0:mg "min"=ac
 ya1:mg "range"=ac
 ya2:mg "set"=ac
 ya3:mg "sorted"=ac
 ya4:mg "str"=ac
 ya5:mg "sum"=ac
 ya6:mg "tuple"=ac
 ya9:∃t,mg "LETTERS"=aa (.str (tS [97,98,99]) t)
 yba:∃t,mg "MOST_WINDOWS"=aa (.int 9 t)
 ybb:∃t,mg "MOST_WINDOWS_SHARED"=aa (.int 6 t)
 ybc:∃t,mg "WIDEST"=aa (.int 4 t)
 yak:mg "SlitError"=aa (.ref a.SlitError)
 yaf:mg "NoText"=aa (.ref a.NoText)
 yah:mg "NoWidth"=aa (.ref a.NoWidth)
 yag:mg "NoView"=aa (.ref a.NoView)
 yai:mg "NoWindow"=aa (.ref a.NoWindow)
 yac:mg "Never"=aa (.ref a.Never)
 yab:mg "Full"=aa (.ref a.Full)
 yaj:mg "Nothing"=aa (.ref a.Nothing)
 yal:mg "Unlike"=aa (.ref a.Unlike)
 yae:mg "NoPlace"=aa (.ref a.NoPlace)
 yad:mg "NoLetters"=aa (.ref a.NoLetters)
 yaa:mg "BadText"=aa (.ref a.BadText)
 ya8:OwnCls "NoView" a.NoView [.type "ValueError",.type "Exception",.type "BaseException",.type "object"] "ValueError.__new__" mg base
 ya7:OwnCls "Full" a.Full [.type "ValueError",.type "Exception",.type "BaseException",.type "object"] "ValueError.__new__" mg base
 err_SlitError:p8 base a.SlitError
 und:∀c,pj a c=ai->Under base a.SlitError c
 tab:Ao K (jg a)
section
variable{P:aS}{w:aJ}{K:ay}{c:Str->Option ah}{b:aA}{a:Ad}
theorem Rb:cr ["_law_script","_law_k"] ["_law_script","_law_k"] (bj zO):=by ac_nf
theorem Rn(G:c9 K c b a):eK P w K c b "_law_cell_at" 1 ["_law_script","_law_k"] (se a) :=
 dU G.yaC Rb (λf h A d s H E g=>by exact
  (ba (iD (f_ HF jC (ar 1) (cz g7 hZ G.yaX gW (aH (ar 0) aW)) rfl) (br (d8 (gA gD gG (ar 0) (ar 1)))) iw)
  (ba (iD (f_ (ny g.units) mW (ar 0) (l8 aW) rfl) (br (d8 a8)) iw)
  (br (d8 (cp fh e_ (cp xL xy (gA gD gG (ar 0) (cp rG sS (ar 1) (cz g7 hZ G.yaX gW (aH (ar 0) aW)))) a8) (ar 1)))))))
theorem Qn:cr ["_law_script","_law_k","_law_many","_law_drawn"] ["_law_script","_law_k","_law_many"] (bj zA):=by ac_nf
theorem Kl(G:c9 K c b a):eK P w K c b "_law_mixed" 2 ["_law_script","_law_k","_law_many"] (yA a) :=
 dU G.yaF Qn (λf h A d s H E g=>by exact
  (ba (eC 3 Qn.nd (cp rG sS (cp fh e_ (cp fh e_ (cp xL xy ((cE (Rn G) g dR (aV (ar 0) (aV (ar 1) bP)))).de a8) (cp xL xy a8 (ar 1))) a8) a8))
  (br (d8 (cp rG sS (cp rG sS (cp rG sS (cp R4 Up (ar 3) a8) a8) a8) (ar 2))))))
theorem Th:cr ["_law_script","_law_town","_law_many"] ["_law_script","_law_town","_law_many"] (bj AQ):=by ac_nf
theorem ot(G:c9 K c b a):eK P w K c b "_law_draw" 3 ["_law_script","_law_town","_law_many"] (ji a) :=
 dU G.yaD Th (λf h A d s H E g=>by exact
  (ba (sq 1 a8)
  (br (zF (cE (Kl G) g dR (aV (ar 0) (aV (Hg 1 g7 hZ G.yaX gW) (aV (ar 2) bP))))))))
theorem So:cr ["_law_text_here","_law_width"] ["_law_text_here","_law_width"] (bj zC):=by ac_nf
theorem w6(G:c9 K c b a):eK P w K c b "_law_seen" 1 ["_law_text_here","_law_width"] (kW a) :=
 dU G.yaH So (λf m A h s H E l=>by exact
  (br (d8 (yH ve vi G.ya6 pH (aH (xm rL sN G.ya3 l6 (aH (lT (bX [0,1]) rfl (xj G.ya1 (aH (cz g7 hZ G.yaX gW (aH (ar 0) aW)) aW)) (λC d g j i=>by exact uT (f_ rj jC (cp fh e_ (ar 0) (ar 2)) (cz g7 hZ G.yaX gW (aH (ar 1) aW)) rfl)) (λC d g j i=>by exact(g9 hU gE (ar 1) (gy (ar 0)) (gy (cp fh e_ (ar 0) (ar 2)))))).de aW)).de aW)))))
theorem Qr:cr ["_law_script","_law_town","_law_some"] ["_law_script","_law_town","_law_some"] (bj B2):=by ac_nf
theorem T0(G:c9 K c b a):eK P w K c b "_law_pick" 4 ["_law_script","_law_town","_law_some"] (xI a) :=
 dU G.yaG Qr (λf h A d s H E g=>by exact
  (br (d8 (gA gD gG (ar 2) ((cE (ot G) g dR (aV (ar 0) (iQ 1 (aV (cz g7 hZ G.yaX gW (aH (ar 2) aW)) bP))))).de))))
theorem T8:cr ["_law_script","_law_town","_law_low","_law_most","_law_few","_law_made","_law_k"] ["_law_script","_law_town","_law_low","_law_most"] (bj Aw):=by ac_nf
theorem zU(G:c9 K c b a):eK P w K c b "_law_text" 5 ["_law_script","_law_town","_law_low","_law_most"] (mR a) :=
 dU G.yaI T8 (λf h A d s H E g=>by exact
  (ba (eC 4 T8.nd ((cE (T0 G) g dR (aV (ar 0) (iQ 1 (aV (l8 (aH a8 (aH a8 (aH a8 (aH a8 (aH a8 (aH a8 aW))))))) bP))))).de)
  (ba (eC 5 T8.nd (l_ []))
  (ba (jR (lX 6 jp rfl T8.nd (xj G.ya1 (aH (cp fh e_ (ar 2) ((cE (ot G) g gF (aV (ar 0) (iQ 1 (aV (cp fh e_ (cp pq pt (ar 3) (ar 2)) a8) bP))))).de) aW)) (br (eC 5 T8.nd (cp fh e_ (ar 5) (gA gD gG (l_ [97,98,99]) ((cE (ot G) g gF (aV (ar 0) (iQ 1 (aV (ar 4) bP))))).de))))))
  (br (d8 (ar 5)))))))
theorem SY:cr ["_law_script","_law_town","_law_spoil","_law_most","_law_width","_law_windows","_law_k"] ["_law_script","_law_town","_law_spoil","_law_most"] (bj z9):=by ac_nf
theorem RU(G:c9 K c b a):eK P w K c b "_law_view" 6 ["_law_script","_law_town","_law_spoil","_law_most"] (uh a) :=
 dU G.yaL SY (λf h A g s H E d=>by exact
  (ba (eC 4 SY.nd (G0 (f_ (rJ d.units) sB (ar 2) a8 rfl) (cp fh e_ a8 ((cE (ot G) d dR (aV (ar 0) (iQ 1 (aV a8 bP))))).de) (cp fh e_ a8 ((cE (ot G) d dR (aV (ar 0) (iQ 1 (aV a8 bP))))).de)))
  (ba (jh 5 SY.nd (Ay Ce A5 G.yaY Ab (aH ((cE (w6 G) d dR (aV ((cE (zU G) d dR (aV (ar 0) (iQ 1 (aV (ar 4) (aV (cp pq pt (cp fh e_ (ar 4) (ar 3)) a8) bP)))))).de (aV (ar 4) bP)))).de aW)))
  (ba (jR (lX 6 jp rfl SY.nd (xj G.ya1 (aH (cp rG sS (ar 2) a8) aW)) (br (QO 5 ((cE (ot G) d gF (aV (ar 0) (iQ 1 (aV (Hg 5 g7 hZ G.yaX gW) bP))))).de ((cE (zU G) d gF (aV (ar 0) (iQ 1 (aV (ar 4) (aV (ar 4) bP)))))).de))))
  (br (d8 (ix (aH (ar 4) (aH (yH ve vi G.ya6 pH (aH (Bh 5 rL sN G.ya3 l6).de aW)) aW)))))))))
theorem Oc:cr ["thing"] ["thing"] (bj Ah):=by ac_nf
theorem LY(G:c9 K c b a):eK P w K c b "is_whole_number" 1 ["thing"] (zL a) :=
 dU G.yay Oc (λf h A d s H E g=>by exact
  (br (d8 (sE (cz rE sh G.yaW iC (aH (ar 0) (aH (rK G.yaV QN) aW))) (ui (RI (cz rE sh G.yaW iC (aH (ar 0) (aH (rK G.yaU QC) aW)))))))))
theorem SV:cr ["thing"] ["thing"] (bj Ck):=by ac_nf
theorem N5(G:c9 K c b a):eK P w K c b "is_width" 2 ["thing"] (sO a) :=
 dU G.yaz SV (λf h A d s H E g=>by exact
  (br (d8 (sE ((cE (LY G) g dR (aV (ar 0) bP))).de (ui (TB rj rj jC jC a8 (ar 0) (BO G.ybc)))))))
theorem Mo:cr ["text","signs"] ["text","signs"] (bj Ae):=by ac_nf
theorem Qx(G:c9 K c b a):eK P w K c b "has_only" 1 ["text","signs"] (yC a) :=
 dU G.yav Mo (λf m A d s H E j=>by exact
  (br (d8 (cz (BQ rfl) Co G.yaS Cf (aH (lT (bX [1]) rfl (fX (ar 0)) ph (λC g h l i=>by exact(sJ Sg KP (ar 0) (ar 1) rfl))).de aW)))))
theorem Mz:cr ["thing","width","signs"] ["thing","width","signs"] (bj BF):=by ac_nf
theorem NQ(G:c9 K c b a):eK P w K c b "is_window" 2 ["thing","width","signs"] (sI a) :=
 dU G.yaA Mz (λf h A d s H E g=>by exact
  (br (d8 (sE (cz rE sh G.yaW iC (aH (ar 0) (aH (rK G.ya4 OK) aW))) (sE (sJ (ny g.units) mW (cz g7 hZ G.yaX gW (aH (ar 0) aW)) (ar 1) rfl) (ui ((cE (Qx G) g dR (aV (ar 0) (aV (ar 2) bP)))).de))))))
theorem RO:cr ["thing","width","signs"] ["thing","width","signs"] (bj Ak):=by ac_nf
theorem OD(G:c9 K c b a):eK P w K c b "are_windows" 3 ["thing","width","signs"] (oE a) :=
 dU G.yan RO (λf m A d s H E h=>by exact
  (ba (iD ((uz (pA (qm (cz rE sh G.yaW iC (aH (ar 0) (aH (rK G.ya6 pH) aW))))) (uy (pA (Mu rj rj jC jC a8 (cz g7 hZ G.yaX gW (aH (ar 0) aW)) (BO G.yba)))))).dt (br (d8 ni)) iw)
  (ba (iD (pA (qm (cz (BQ rfl) Co G.yaS Cf (aH (lT (bX [1,2]) rfl (fX (ar 0)) ph (λC g i l j=>by exact((cE (NQ G) h gF (aV (ar 0) (aV (ar 1) (aV (ar 2) bP))))).de)).de aW)))) (br (d8 ni)) iw)
  (br (d8 (sJ (ny h.units) mW (Ay Ce A5 G.yaY Ab (aH (ar 0) aW)).de (xm rL sN G.ya3 l6 (aH (ar 0) aW)).de rfl))))))
theorem Kz:cr ["thing","signs"] ["thing","signs"] (bj Bv):=by ac_nf
theorem MB(G:c9 K c b a):eK P w K c b "is_view_with" 4 ["thing","signs"] (su a) :=
 dU G.yax Kz (λf h A d s H E g=>by exact
  (ba (iD ((uz (pA (qm (cz rE sh G.yaW iC (aH (ar 0) (aH (rK G.ya6 pH) aW))))) (uy (f_ (rJ g.units) sB (cz g7 hZ G.yaX gW (aH (ar 0) aW)) a8 rfl)))).dt (br (d8 ni)) iw)
  (br (d8 (sE ((cE (N5 G) g dR (aV (gA gD gG (ar 0) a8) bP))).de (ui ((cE (OD G) g dR (aV (gA gD gG (ar 0) a8) (aV (gA gD gG (ar 0) a8) (aV (ar 1) bP))))).de))))))
theorem Lz:cr ["thing"] ["thing"] (bj A_):=by ac_nf
theorem RM(G:c9 K c b a):eK P w K c b "is_view" 5 ["thing"] (xV a) :=
 dU G.yaw Lz (λf h A d s H E g=>by exact
  (br (zF (cE (MB G) g dR (aV (ar 0) (aV (HY G.ya9) bP))))))
theorem Ua:cr ["thing"] ["thing"] (bj Cm):=by ac_nf
theorem BJ(G:c9 K c b a):eK P w K c b "check_view" 6 ["thing"] (mZ a) :=
 dU G.yaq Ua (λf h A d s H E g=>by exact
  (br (iD (pA (qm ((cE (RM G) g dR (aV (ar 0) bP))).de)) (br (GX EH rfl G.ya8 PySem.F.excBase_ValueError (l_ [97,32,118,105,101,119,32,105,115,32,97,32,116,117,112,108,101,32,111,102,32,97,32,119,105,100,116,104,32,97,110,100,32,97,32,114,105,115,105,110,103,32,116,117,112,108,101,32,111,102,32,49,32,116,111,32,57,32,119,105,110,100,111,119,115]))) iw)))
theorem OY:cr ["view"] ["view"] (bj AW):=by ac_nf
theorem K9(G:c9 K c b a):eK P w K c b "check_shared_view" 7 ["view"] (pK a) :=
 dU G.yap OY (λf h A d s H E g=>by exact
  (ba (rD (cE (BJ G) g dR (aV (ar 0) bP)))
  (br (iD (f_ rY jC (cz g7 hZ G.yaX gW (aH (gA gD gG (ar 0) a8) aW)) (BO G.ybb) rfl) (br (GX EH rfl G.ya7 PySem.F.excBase_ValueError (l_ [97,32,118,105,101,119,32,116,104,97,116,32,105,115,32,115,104,97,114,101,100,32,111,117,116,32,97,109,111,110,103,32,116,101,120,116,115,32,104,97,115,32,117,112,32,116,111,32,54,32,119,105,110,100,111,119,115]))) iw))))
theorem EK:cr ["text","width","left","found","head","letter","window"] ["text","width","left","found"] (bj Aq):=by ac_nf
theorem OV(G:c9 K c b a)(m:Nat):k9 (jy P w) P w K c b "add_endings" (1+m) ["text","width","left","found"] (eN K (oN a m)):=by
 induction m with
 |zero=>exact dU G.yam EK (λf l A d s H E g=>BZ)
 |succ m i=>exact xo (k:=1+m) (pin:=[2,3]) G.yam EK rfl (λ_ _ _ _ _ _ h j=>Pu.SR (λ_ _ _ _=>rfl) h j) (λf l A d s H E g=>by exact
  (ba (iD (pA (qm (P4 2 rfl G.yaT))) (ba (sq 3 (ar 0))
  (br Tf)) iw)
  (ba (eC 4 EK.nd (g9 hU gE (ar 0) (gy (cp fh e_ (cp pq pt (cz g7 hZ G.yaX gW (aH (ar 0) aW)) (ar 1)) a8)) iB))
  (br (jR (lX 5 jp rfl EK.nd (fX (HY G.ya9)) (ba (eC 6 EK.nd (cp fh e_ (ar 4) (ar 5)))
  (br (iD (f_ rY jC (yg 2 g.units (ar 6) a8) a8 rfl) (ba (qi 2 g.units (ar 6) (cp pq pt (F_ 2 g.units (ar 6)) a8))
  (ba (rD (ma i (g.mono ∅) gF (aV (cp fh e_ (ar 0) (ar 5)) (aV (ar 1) (iQ 2 (iQ 3 bP))))))
  (br (qi 2 g.units (ar 6) (cp fh e_ (F_ 2 g.units (ar 6)) a8))))) iw)))))))))
theorem Lj:cr ["windows","counts","window"] ["windows"] (bj z5):=by ac_nf
theorem M7(G:c9 K c b a):eK P w K c b "counted" 1 ["windows"] (vp a) :=
 dU G.yar Lj (λf h A d s H E g=>by exact
  (ba (jh 1 Lj.nd (EZ))
  (ba (jR (lX 2 jp rfl Lj.nd (fX (ar 0)) (br (qi 1 g.units (ar 2) (cp fh e_ (yg 1 g.units (ar 2) a8) a8)))))
  (br (u0 1)))))
theorem Ub:cr ["view","width","found","head"] ["view"] (bj Cd):=by ac_nf
theorem Er(G:c9 K c b a):eK P w K c b "texts" 14 ["view"] (nu a) :=
 dU G.yaQ Ub (λf m A d s H E g=>by exact
  (ba (rD (cE (BJ G) g dR (aV (ar 0) bP)))
  (ba (eC 1 Ub.nd (gA gD gG (ar 0) a8))
  (ba (jh 2 Ub.nd (mT aW))
  (ba (jR (lX 3 jp rfl Ub.nd (fX (Ny rfl (aH (lT (bX []) rfl (fX (gA gD gG (ar 0) a8)) ph (λC h i l j=>by exact(g9 hU gE (ar 0) iB (gy (nk mX nA a8))))).de aW) G.ya3 G.ya2).de) (br (rD (RS (OV G 12) (g.mono (by decide)) gF (Et (ar 3) (Et (ar 1) (Nu (((cE (M7 G) g gF (aV (gA gD gG (ar 0) a8) bP))).dn) (iQ 2 bP)))))))))
  (br (u0 2)))))))
theorem To:cr ["windows","ways","window","longer","part","rest"] ["windows"] (bj zw):=by ac_nf
theorem N4(G:c9 K c b a):eK P w K c b "partings" 1 ["windows"] (pX a) :=
 dU G.yaO To (λf m A h s H E j=>by exact
  (ba (eC 1 To.nd (l8 (aH (ix (aH (g9 Pj K4 (ar 0) iB (gy a8)) (aH (ix aW) aW))) aW)))
  (ba (jR (lX 2 jp rfl To.nd (fX (g9 hU gE (ar 0) (gy a8) iB)) (ba (jh 3 To.nd (mT aW))
  (ba (Ca 4 5 jp rfl To.nd (fX (ar 1)) (ba (sq 3 (ix (aH (cp EN GF (ar 4) (ix (aH (ar 2) aW))) (aH (ar 5) aW))))
  (br (sq 3 (ix (aH (ar 4) (aH (cp EN GF (ar 5) (ix (aH (ar 2) aW))) aW)))))))
  (br (eC 1 To.nd (TU 3)))))))
  (br (OG (lT (bX []) rfl (fX (dn_sortSetD j.units rfl (aH (ar 1) aW) G.ya3 G.ya2).de) (λC d g l i=>by exact uT (f_ rY jC (cz g7 hZ G.yaX gW (aH (gA gD gG (ar 0) a8) aW)) a8 rfl)) (λC d g l i=>by exact(ar 0))))))))
noncomputable def yaN(a:Ad)(rc:ad Slot):ad aG:=aC (bI (dB (d2 (eqT am) (dV 2) (dC (.int 1)))) (bV (bN bY (a9 (aL (nu a) (gV (dL b9 (aw (dV 1) (aw (dV 0) (az)))) (bG)))) (bS) (bJ (dC (.int 1))))) (cH))
 (aC (cR 3 (dL cK (az)))
 (aC (λε=>cm (jU 4 5 (bp (a9 (aL (pX a) (gV (dV 0) (bG))))) (aC (bE 6 (bN bY (a9 (aL (nu a) (gV (dL b9 (aw (dV 1) (aw (dV 4) (az)))) (bG)))) (bS) (bJ (dC (.int 1)))))
 (aC (bE 7 (a9 (aL (rc) (gV (dV 5) (gV (dV 1) (gV (d2 fA (dV 2) (dC (.int 1))) (bG)))))))
 (bI (ou (dB (d2 (cP λi j=>decide (j<i)) (dL bu (aw (dV 6) (az))) (dC (.int 0)))) (dB (d2 (cP λi j=>decide (j<i)) (dL bu (aw (dV 7) (az))) (dC (.int 0))))) (gX 3 (dF (dL gZ (aw (d2 bq (dV 6) (dV 7)) (az))))) (cH)))) ε))
 (bV (uk 3))))
noncomputable def kM(a:Ad):Nat->aj->R Slot
 |0=>bo 3 [] (bn 5 xE)
 |k+1=>bo 3 [] (bn 5 (yaN a (kM a k)))
theorem GH:cr ["windows","width","count","lists","part","rest","least","others"] ["windows","width","count"] (bj Ci):=by ac_nf
theorem K1(G:c9 K c b a)(m:Nat):k9 (jy P w) P w K c b "least_list" (15+m) ["windows","width","count"] (eN K (kM a m)):=by
 induction m with
 |zero=>exact dU G.yaN GH (λf l A d s H E g=>BZ)
 |succ m i=>exact xo (k:=15+m) (pin:=[]) G.yaN GH rfl (λ_ _ _ _ _ _ h j=>Pu.NU (λ_ _ _=>rfl) h j) (λf l A d s H E g=>by exact
  (ba (iD (f_ (ny g.units) mW (ar 2) a8 rfl) (br (d8 (g9 hU gE ((ma (Er G) (g.mono ∅) dR (aV (ix (aH (ar 1) (aH (ar 0) aW))) bP))).de iB (gy a8)))) iw)
  (ba (jh 3 GH.nd (mT aW))
  (ba (jR (Ca 4 5 jp rfl GH.nd (fX ((ma (N4 G) (g.mono ∅) gF (aV (ar 0) bP))).de) (ba (eC 6 GH.nd (g9 hU gE ((ma (Er G) (g.mono ∅) gF (aV (ix (aH (ar 1) (aH (ar 4) aW))) bP))).de iB (gy a8)))
  (ba (eC 7 GH.nd ((ma i (g.mono ∅) gF (aV (ar 5) (aV (ar 1) (aV (cp pq pt (ar 2) a8) bP))))).de)
  (br (iD ((Ol (f_ rY jC (cz g7 hZ G.yaX gW (aH (ar 6) aW)) a8 rfl) (K0 (f_ rY jC (cz g7 hZ G.yaX gW (aH (ar 7) aW)) a8 rfl)))).dt (br (sq 3 (xm rL sN G.ya3 l6 (aH (cp fh e_ (ar 6) (ar 7)) aW)).de)) iw))))))
  (br (d8 (Kh 3 g.units rfl G.ya0)))))))
theorem Tg:cr ["windows","reached","known","window"] ["windows"] (bj zX):=by ac_nf
theorem RV(G:c9 K c b a):eK P w K c b "reached_pieces" 1 ["windows"] (u5 a) :=
 dU G.yaP Tg (λf h A g s H E d=>by exact
  (ba (jh 1 Tg.nd (NL (g9 hU gE (gA gD gG (ar 0) a8) iB (gy (nk mX nA a8))) ni))
  (ba (eC 2 Tg.nd a8)
  (ba (jR (AG (λ_=>1000) jp (f_ HF jC (ar 2) (HH 1 G.yaX) rfl) (ba (eC 2 Tg.nd (HH 1 G.yaX))
  (br (lX 3 jp rfl Tg.nd (fX (ar 0)) (br (iD ((uz (AR 1 d.units (g9 hU gE (ar 3) iB (gy (nk mX nA a8)))) (uy (AR 1 d.units (g9 hU gE (ar 3) (gy a8) iB))))).dt (ba (qi 1 d.units (g9 hU gE (ar 3) iB (gy (nk mX nA a8))) ni)
  (br (qi 1 d.units (g9 hU gE (ar 3) (gy a8) iB) ni))) iw)))))))
  (br (u0 1))))))
theorem Op:cr ["windows","excess","window"] ["windows"] (bj zG):=by ac_nf
theorem Q_(G:c9 K c b a):eK P w K c b "excesses" 1 ["windows"] (w_ a) :=
 dU G.yas Op (λf h A g s H E d=>by exact
  (ba (jh 1 Op.nd (EZ))
  (ba (jR (lX 2 jp rfl Op.nd (fX (ar 0)) (ba (qi 1 d.units (g9 hU gE (ar 2) iB (gy (nk mX nA a8))) (cp fh e_ (yg 1 d.units (g9 hU gE (ar 2) iB (gy (nk mX nA a8))) a8) a8))
  (br (qi 1 d.units (g9 hU gE (ar 2) (gy a8) iB) (cp pq pt (yg 1 d.units (g9 hU gE (ar 2) (gy a8) iB) a8) a8))))))
  (br (u0 1)))))
theorem Lf:cr ["windows","excess"] ["windows"] (bj x6):=by ac_nf
theorem K2(G:c9 K c b a):eK P w K c b "fewest_for" 2 ["windows"] (yG a) :=
 dU G.yat Lf (λf h A d s H E g=>by exact
  (ba (jh 1 Lf.nd (((cE (Q_ G) g dR (aV (ar 0) bP))).dn))
  (br (d8 (cz (PH rfl) Na G.yaZ N9 (aH a8 (aH (cz (LW rfl) OL G.ya5 rfl (aH (Tj 1 (iy.of ["windows","excess"] (bj x6) rfl rfl (by decide +kernel)) rfl).de aW)) aW)))))))
theorem RX:cr ["view","left","count","reached"] ["view"] (bj AY):=by ac_nf
theorem HB(G:c9 K c b a):eK P w K c b "fewest_texts" 7 ["view"] (mU a) :=
 dU G.yau RX (λf m A j s H E h=>by exact
  (ba (rD (cE (BJ G) h dR (aV (ar 0) bP)))
  (ba (eC 1 RX.nd (gA gD gG (ar 0) a8))
  (ba (eC 2 RX.nd a8)
  (ba (jR (AG (λ_=>1000) jp (f_ rY jC (cz g7 hZ G.yaX gW (aH (ar 1) aW)) a8 rfl) (ba (jh 3 RX.nd (((cE (RV G) h gF (aV (ar 1) bP))).dn))
  (ba (eC 2 RX.nd (cp fh e_ (ar 2) ((cE (K2 G) h gF (aV (lT (bX [3]) rfl (fX (ar 1)) (λC d g l i=>by exact uT (AR 1 h.units (g9 hU gE (ar 0) iB (gy (nk mX nA a8))))) (λC d g l i=>by exact(ar 0))).de bP))).de))
  (br (K3 1 RX.nd (bX [3]) rfl (fX (ar 1)) (λC d g l i=>by exact uT (Pk 1 h.units (g9 hU gE (ar 0) iB (gy (nk mX nA a8))))) (λC d g l i=>by exact(ar 0))))))))
  (br (d8 (ar 2))))))))
noncomputable def yao(a:Ad):ad aG:=aC (ku (aL (pK a) (gV (dV 0) (bG))))
 (mQ (aL (kM a 8) (gV (d2 bB (dV 0) (dC (.int 1))) (gV (d2 bB (dV 0) (dC (.int 0))) (gV (a9 (aL (mU a) (gV (dV 0) (bG)))) (bG))))))
noncomputable def nc(a:Ad):ad Slot:=bo 1 [] (bn 0 (yao a))
theorem TD:cr ["view"] ["view"] (bj zS):=by ac_nf
theorem HL(G:c9 K c b a):eK P w K c b "bundle" 24 ["view"] (nc a) :=
 dU G.yao TD (λf h A d s H E g=>by exact
  (ba (rD (cE (K9 G) g dR (aV (ar 0) bP)))
  (br (zF (ma (K1 G 8) (g.mono (by decide)) dR (aV (gA gD gG (ar 0) a8) (aV (gA gD gG (ar 0) a8) (aV ((cE (HB G) g dR (aV (ar 0) bP))).de bP))))))))
theorem MF:cr ["_law_e","_law_own"] ["_law_e"] (bj As):=by ac_nf
theorem Od(G:c9 K c b a):xw P w K c b "_law_which" 1 ["_law_e"] (eN K (u8 a)) :=
 ML (k:=0) (pin:=[]) G.yaM MF rfl (λ_ _ _ _ _ _ g i=>Pu.OU (λ_=>rfl) g i) (λf j A d s H h=>by exact
  (ba (jh 1 MF.nd (mT (aH (cz ko (ki G.tab) G.yaW iC (aH (ar 0) (aH (k8 G.yaf) aW))) (aH (cz ko (ki G.tab) G.yaW iC (aH (ar 0) (aH (k8 G.yah) aW))) (aH (cz ko (ki G.tab) G.yaW iC (aH (ar 0) (aH (k8 G.yag) aW))) (aH (cz ko (ki G.tab) G.yaW iC (aH (ar 0) (aH (k8 G.yai) aW))) aW))))))
  (ba (xF 1 (l8 (aH (cz ko (ki G.tab) G.yaW iC (aH (ar 0) (aH (k8 G.yac) aW))) (aH (cz ko (ki G.tab) G.yaW iC (aH (ar 0) (aH (k8 G.yab) aW))) (aH (cz ko (ki G.tab) G.yaW iC (aH (ar 0) (aH (k8 G.yaj) aW))) (aH (cz ko (ki G.tab) G.yaW iC (aH (ar 0) (aH (k8 G.yal) aW))) aW))))))
  (ba (xF 1 (l8 (aH (cz ko (ki G.tab) G.yaW iC (aH (ar 0) (aH (k8 G.yae) aW))) (aH (cz ko (ki G.tab) G.yaW iC (aH (ar 0) (aH (k8 G.yad) aW))) (aH (cz ko (ki G.tab) G.yaW iC (aH (ar 0) (aH (k8 G.yaa) aW))) aW)))))
  (ba (iD ((uz (f_ (rJ h.units) sB (Ng 1 ni) a8 rfl) (uy (pA (qm (cz ko (ki G.tab) G.yaW iC (aH (ar 0) (aH (rK G.yaR RP) aW)))))))).dt (br (d8 (ix (aH (l_ [114,101,102,117,115,101,100]) (aH (nk mX nA a8) aW))))) iw)
  (br (d8 (ix (aH (l_ [114,101,102,117,115,101,100]) (aH (Lu 1 ni) aW))))))))))
theorem La:cr ["_law_text_here","_law_width","_law_windows","_law_made"] ["_law_text_here","_law_width","_law_windows"] (bj Cb):=by ac_nf
theorem Pt(G:c9 K c b a):eK P w K c b "_law_under" 2 ["_law_text_here","_law_width","_law_windows"] (qb a) :=
 dU G.yaK La (λf m A d s H E i=>by exact
  (ba (eC 3 La.nd ((cE (w6 G) i dR (aV (ar 0) (aV (ar 1) bP)))).de)
  (br (d8 (cz (BQ rfl) Co G.yaS Cf (aH (lT (bX [3,2]) rfl (fX (ar 3)) ph (λC g h l j=>by exact(sJ rj jC (GQ (ar 1) (ar 0)) (GQ (ar 2) (ar 0)) rfl))).de aW))))))
theorem LQ:cr ["_law_width","_law_windows","_law_made","_law_rows","_law_text_here","_law_rest","_law_window"] ["_law_width","_law_windows"] (bj BL):=by ac_nf
theorem Ss(G:c9 K c b a):eK P w K c b "_law_trails" 3 ["_law_width","_law_windows"] (pZ a) :=
 dU G.yaJ LQ (λf m A i s H E h=>by exact
  (ba (jh 2 LQ.nd (mT aW))
  (ba (T6 3 LQ.nd (bX []) rfl (fX (LX rfl (aH (ar 1) aW) G.ya3 G.ya2).de) ph (λC d g l j=>by exact(ar 0)))
  (ba (jR (AG (λ_=>100000) jp (Md 3 (rJ h.units) sB (l8 aW) rfl) (ba (eC 4 LQ.nd (Ti 3))
  (ba (jh 5 LQ.nd (Ay Ce A5 G.yaY Ab (aH (ar 1) aW)))
  (ba (lX 6 jp rfl LQ.nd (fX ((cE (w6 G) h gF (aV (ar 4) (aV (ar 0) bP)))).de) (br (Ur 5 (ar 6))))
  (ba (sq 2 (ix (aH (ar 4) (aH (Px 5 ve vi G.ya6 pH) aW))))
  (br (xF 3 (lT (bX [4,0,1]) rfl (fX (l_ [97,98,99])) (λC d g l j=>by exact uT (qm ((cE (Pt G) h gF (aV (cp fh e_ (ar 1) (ar 0)) (aV (ar 2) (aV (ar 3) bP))))).de)) (λC d g l j=>by exact(cp fh e_ (ar 1) (ar 0)))).de))))))))
  (br (d8 (Bh 2 (call_sortedQr h.units rfl) Ug G.ya3 l6).de))))))
noncomputable def yaE(a:Ad)(rc:ad Slot):ad aG:=aC (bI (dB (d2 (eqT am) (dV 2) (dC (.int 0)))) (bV (bI (dB (d2 (eqT am) (dV 1) (dL b9 (az)))) (dF (dL cK (aw (dF (dL cK (az))) (az)))) (dF (dL cK (az))))) (cH))
 (aC (cR 4 (dL cK (az)))
 (aC (λε=>cm (jU 5 6 (bp (a9 (aL (pZ a) (gV (dV 0) (gV (dV 1) (bG)))))) (bI (dB (d2 sr (dV 5) (dV 3))) (l7 4 (dF (cy [5] (bp (a9 (aL (rc) (gV (dV 0) (gV (dV 6) (gV (d2 fA (dV 2) (dC (.int 1))) (gV (dV 5) (bG)))))))) (dYes) (d2 bq (dF (dL cK (aw (dV 1) (az)))) (dV 0))))) (cH)) ε))
 (kn 4)))
noncomputable def lj(a:Ad):Nat->aj->R Slot
 |0=>bo 4 [] (bn 3 xE)
 |k+1=>bo 4 [] (bn 3 (yaE a (lj a k)))
theorem H_:cr ["_law_width","_law_windows","_law_many","_law_low","_law_made","_law_text_here","_law_rest"] ["_law_width","_law_windows","_law_many","_law_low"] (bj AF):=by ac_nf
theorem S8(G:c9 K c b a)(m:Nat):k9 (jy P w) P w K c b "_law_lists" (4+m) ["_law_width","_law_windows","_law_many","_law_low"] (eN K (lj a m)):=by
 induction m with
 |zero=>exact dU G.yaE H_ (λf o A d s H E g=>BZ)
 |succ m l=>exact xo (k:=4+m) (pin:=[]) G.yaE H_ rfl (λ_ _ _ _ _ _ j n=>Pu.SR (λ_ _ _ _=>rfl) j n) (λf o A d s H E g=>by exact
  (ba (iD (f_ (ny g.units) mW (ar 2) a8 rfl) (br (d8 (G0 (f_ (ny g.units) mW (ar 1) (ix aW) rfl) (l8 (aH (l8 aW) aW)) (l8 aW)))) iw)
  (ba (jh 4 H_.nd (mT aW))
  (ba (jR (Ca 5 6 jp rfl H_.nd (fX ((ma (Ss G) (g.mono ∅) gF (aV (ar 0) (aV (ar 1) bP)))).de) (br (iD (f_ PJ Ux (ar 5) (ar 3) rfl) (br (xF 4 (lT (bX [5]) rfl (fX ((ma l (g.mono ∅) gF (aV (ar 0) (aV (ar 6) (aV (cp pq pt (ar 2) a8) (aV (ar 5) bP)))))).de) ph (λC h i q p=>by exact(cp fh e_ (l8 (aH (ar 1) aW)) (ar 0)))).de)) iw))))
  (br (u0 4))))))
noncomputable def yaB(a:Ad):ad aG:=aC (cR 1 (dL cK (az)))
 (aC (bE 2 (a9 (aL (ji a) (gV (dV 0) (gO 1 (gV (dC (.int 3)) (bG)))))))
 (aC (bE 3 (a9 (aL (ji a) (gV (dV 0) (gO 1 (gV (dC (.int 2)) (bG)))))))
 (aC (bE 4 (a9 (aL (uh a) (gV (dV 0) (gO 1 (gV (dV 3) (gV (dC (.int 5)) (bG))))))))
 (aC (bE 5 (d2 bB (dV 4) (dC (.int 0))))
 (aC (bI (dB (d2 (eqT am) (dV 2) (dC (.int 0)))) (bE 4 (dL b9 (aw (dV 5) (aw (dL gY (aw (dF (dL gZ (aw (dF (cy [0,1,5] (dL km (aw (dC (.int 4)) (az))) (dYes) (a9 (aL (mR a) (gV (dV 1) (gO 2 (gV (dV 3) (gV (dV 3) (bG))))))))) (az)))) (az))) (az))))) (cH))
 (aC (bE 6 (a9 (aL (nc a) (gV (dV 4) (bG)))))
 (aC (cR 7 (dL cK (az)))
 (aC (λd=>cm (dJ 8 (bp (dV 6)) (u_ 7 (a9 (aL (kW a) (gV (dV 8) (gV (dV 5) (bG)))))) d))
 (aC (bI (jO (dB (d2 (eqT ai) (dL gY (aw (dF (eR (λxs=>kq (gZ xs)) 7)) (az))) (d2 bB (dV 4) (dC (.int 1))))) (dB (d2 (eqT ai) (dL bu (aw (dV 6) (az))) (a9 (aL (mU a) (gV (dV 4) (bG))))))) (bV (dC (.bl am))) (cH))
 (aC (bE 9 (dC .non))
 (aC (u7 10 (pj a) (sv (nc a) (gV (dL b9 (aw (dV 5) (aw (d2 uG (dL b9 (aw (d2 jW (dC (.str [98])) (dV 5)) (az))) (dC (.int 7))) (az)))) (bG))) (bE 9 (a9 (λd=>cL (aL (u8 a) (gV (dV 10) (bG)) d)))))
 (bV (kN (d2 (eqT am) (dV 9) (dL b9 (aw (dC (.str [114,101,102,117,115,101,100])) (aw (dC (.int 5)) (az))))) (d2 (eqT am) (dV 6) (dL uw (aw (a9 (aL (lj a 8) (gV (dV 5) (gV (d2 bB (dV 4) (dC (.int 1))) (gV (dL bu (aw (dV 6) (az))) (gV (dC (.str [])) (bG))))))) (az)))))))))))))))))
noncomputable def uA(a:Ad):ad Slot:=bo 1 [] (bn 10 (yaB a))
theorem P3:cr ["_law_script","_law_town","_law_way","_law_spoil","_law_asked","_law_width","_law_made","_law_row","_law_text_here","_law_caught","_law_e"] ["_law_script"] (bj wU):=by ac_nf
theorem Pp(G:c9 K c b a)(p:pG K "law" "law" wU f l):kU P w K c b (jy P w) 25 f l ["_law_script"] (eN K (uA a)) :=
 Oj (k:=24) (pin:=[]) p P3 rfl (λ_ _ _ _ _ _ n o=>Pu.OU (λ_=>rfl) n o) (λf t A g s H E d=>by
  have h:=λi=>fg.hand (v:=aa (.ref i)) d;exact
  (ba (jh 1 P3.nd (mT aW))
  (ba (eC 2 P3.nd ((cE (ot G) d dR (aV (ar 0) (iQ 1 (aV a8 bP))))).de)
  (ba (eC 3 P3.nd ((cE (ot G) d dR (aV (ar 0) (iQ 1 (aV a8 bP))))).de)
  (ba (eC 4 P3.nd ((cE (RU G) d dR (aV (ar 0) (iQ 1 (aV (ar 3) (aV a8 bP)))))).de)
  (ba (eC 5 P3.nd (gA gD gG (ar 4) a8))
  (ba (iD (f_ (ny d.units) mW (ar 2) a8 rfl) (br (eC 4 P3.nd (ix (aH (ar 5) (aH (yH ve vi G.ya6 pH (aH (xm rL sN G.ya3 l6 (aH (lT (bX [0,1,5]) rfl (xj G.ya1 (aH a8 aW)) ph (λC j m r q=>by exact((cE (zU G) d gF (aV (ar 1) (iQ 2 (aV (ar 3) (aV (ar 3) bP)))))).de)).de aW)).de aW)) aW))))) iw)
  (ba (eC 6 P3.nd ((cE (HL G) d dR (aV (ar 4) bP))).de)
  (ba (jh 7 P3.nd (mT aW))
  (ba (jR (lX 8 jp rfl P3.nd (fX (ar 6)) (br (LD 7 ((cE (w6 G) d gF (aV (ar 8) (aV (ar 5) bP)))).de))))
  (ba (iD ((uz (f_ (rJ d.units) sB (yH ve vi G.ya6 pH (aH (Bh 7 rL sN G.ya3 l6).de aW)) (gA gD gG (ar 4) a8) rfl) (uy (f_ (rJ d.units) sB (cz g7 hZ G.yaX gW (aH (ar 6) aW)) ((cE (HB G) d dR (aV (ar 4) bP))).de rfl)))).dt (br (d8 ni)) iw)
  (ba (eC 9 P3.nd KZ)
  (ba (Lq 10 P3.nd (MA (HL G) (d.mono (by decide)) (aV (ix (aH (ar 5) (aH (cp Uk TL (ix (aH (cp xL xy (l_ [98]) (ar 5)) aW)) a8) aW))) bP)) G.yak G.err_SlitError G.und (λi=>by exact(br (eC 9 P3.nd ((PP (Od G) ((h i).mono (by decide)) (aV (ar 10) bP))).de))))
  (br (d8 (sE (sJ (ny d.units) mW (ar 9) (ix (aH (l_ [114,101,102,117,115,101,100]) (aH a8 aW))) rfl) (ui (sJ (ny d.units) mW (ar 6) (cz (QV d.units rfl) Kx G.ya0 Ke (aH ((ma (S8 G 8) (d.mono (by decide)) dR (aV (ar 5) (aV (gA gD gG (ar 4) a8) (aV (cz g7 hZ G.yaX gW (aH (ar 6) aW)) (aV (l_ []) bP)))))).de aW)) rfl))))))))))))))))))
end
end K28
namespace Mx
open L2 Pu
noncomputable def cq:Tx:=[97,98,99]
noncomputable def eY:Nat->List Tx
 |0=>[[]]
 |k+1=>cq.flatMap λc=>(eY k).map (c::·)
theorem pQ:∀(k:Nat) (x:Tx),x∈eY k↔x.length=k/\∀c∈x,c∈cq
 |0,x=>by simp only[eY,jo];simp_all
 |k+1,x=>by
  simp only[eY,jJ,b8];constructor
  .rintro⟨c,h,y,f,rfl⟩;obtain⟨b,a⟩:=(pQ k y).mp f;simp_all
  .rintro⟨b,a⟩;cases x with
   |nil=>trivial
   |cons c y=>exact⟨c,a c (by simp),y,(pQ k y).mpr ⟨C4 b,λd g=>a d (by simp[g])⟩,rfl⟩
theorem Ij:∀k:Nat,(eY k).length=3^k
 |0=>rfl
 |k+1=>by simp only[eY,cq,o8,zg,ef,cX,Ij k,oY,tJ];lia
theorem Po(i j:Nat):eY (i+j)=(eY i).flatMap λh=>(eY j).map (h++·):=by
 induction i with
 |zero=>simp[eY]
 |succ i a=>rw[show i+1+j=(i+j)+1 by lia];simp only[eY,a,List.flatMap_assoc,List.map_flatMap,List.flatMap_map,cU,tI,vZ]
theorem BI:∀k:Nat,(eY k).Pairwise (λa b=>a<b)
 |0=>by trivial
 |k+1=>by
  simp only[eY];rw[List.pairwise_flatMap];refine⟨λc _=>?_,?_⟩
  .rw[tt];exact(BI k).imp λh=>JH.mpr (.inr ⟨rfl,h⟩)
  .have:cq.Pairwise (λa b=>a<b):=by decide
   refine this.imp λh=>?_;intro x f y d;obtain⟨i,_,rfl⟩:=b8.mp f;obtain⟨g,_,rfl⟩:=b8.mp d;exact JH.mpr (.inl h)
theorem Ky(h:a<b):bO a b=ai:=by
 simp only[bO,decide_eq_true_eq]
 grind
theorem Eo(k:Nat):(eY k).Pairwise (λa b=>bO a b=ai):=(BI k).imp Ky
theorem O9(k:Nat):(eY k).Nodup:=(BI k).imp λh z=>by grind
noncomputable def aM(z:Tx)(w:Nat):List Tx:=((cu z.length).filter λi=>decide (i+w<=z.length)).map λi=>(z.drop i).take w
theorem GS(w L:Nat):∀m:Nat,(cu m).filter (λi=>decide (i+w<=L))=cu (min m (L+1-w))
 |0=>by rfl
 |m+1=>by
  rw[qB,JI,GS w L m];by_cases h:m+w<=L
  .rw[show min m (L+1-w)=m by lia,show min (m+1) (L+1-w)=m+1 by lia,qB];simp[h]
  grind
theorem kr(z:Tx)(w:Nat)(a:1<=w):aM z w=(cu (z.length+1-w)).map λi=>(z.drop i).take w:=by unfold aM;rw[GS,show min z.length (z.length+1-w)=z.length+1-w by simp_all]
noncomputable def nw(w:Nat)(t:Tx):Tx->List Tx
 |[]=>[]
 |c::s=>(t.drop (t.length+1-w)++[c])::nw w (t++[c]) s
theorem HU(w:Nat)(b:1<=w):∀(s t:Tx),w<=t.length+1->nw w t s=(cu s.length).map λi=>((t++s).drop (t.length+1-w+i)).take w
 |[],t,_=>by rfl
 |c::s,t,h=>by
  rw[nw,HU w b s (t++[c]) (by simp;lia),cI,yZ,cn,cU];congr 1
  .show _=((t++c::s).drop (t.length+1-w)).take w;rw[UD ⋯,List.take_append];have a:(t.drop (t.length+1-w)).length=w-1:=by grind
   rw[a,mn (by rw[a];simp),show w-(w-1)=1 by lia];rfl
  .refine jm λi _=>?_
   grind
theorem zZ(a:1<=w){h:Tx}(b:h.length=w-1):aM (h++s) w=nw w h s:=by rw[kr _ _ a,HU w a s h ⋯,ef,show h.length+s.length+1-w=s.length by lia];simp_all
theorem HC(a:1<=w)(t:Tx)(c:Nat):aM (t++[c]) w=aM t w++(if w<=t.length+1 then [((t++[c]).drop (t.length+1-w)).take w] else []):=by
 rw[kr _ _ a,kr _ _ a,ef,JL];by_cases h:w<=t.length+1
 .rw[if_pos h,show t.length+1+1-w=(t.length+1-w)+1 by lia,qB,ml];congr 1;refine jm λi b=>?_
  grind
 grind
noncomputable def iW(w:Nat):Nat->Tx->List Tx->List Tx
 |0,t,_=>[t]
 |r+1,t,q=>cq.flatMap λc=>if t.drop (t.length+1-w)++[c]∈q then iW w r (t++[c]) (q.erase (t.drop (t.length+1-w)++[c]))else []
theorem Eh(w:Nat):∀(r:Nat) (t:Tx) (q:List Tx),q.length=r->iW w r t q=((eY r).filter λs=>(nw w t s).isPerm q).map (t++·)
 |0,t,q,hq=>by have:q=[]:=qI.mp hq;subst this;simp[iW,eY,nw,List.isPerm]
 |r+1,t,q,hq=>by
  simp only[iW,eY,List.filter_flatMap,List.map_flatMap];congr 1;funext c;rw[tR,cU];by_cases h:t.drop (t.length+1-w)++[c]∈q
  .rw[if_pos h,Eh w r (t++[c]) _ (by rw[JM h,hq];rfl)];have e:((λs=>(nw w t s).isPerm q) ∘ λx=>c::x)=λs=>(nw w (t++[c]) s).isPerm (q.erase (t.drop (t.length+1-w)++[c])):=by funext s;show(q.contains (t.drop (t.length+1-w)++[c])&&(nw w (t++[c]) s).isPerm (q.erase (t.drop (t.length+1-w)++[c])))=_;rw[List.contains_iff_mem.mpr h,Bool.true_and]
   simp_all
  .rw[if_neg h];have e:((λs=>(nw w t s).isPerm q) ∘ λx=>c::x)=λ_=>am:=by funext s;show(q.contains (t.drop (t.length+1-w)++[c])&&(nw w (t++[c]) s).isPerm (q.erase (t.drop (t.length+1-w)++[c])))=_;simp_all
   rw[e];simp
noncomputable def dz(w:Nat)(a:List Tx):List Tx:=(aN (bK (a.map mw))).flatMap λh=>iW w a.length h a
theorem P5{a b:Type}{l:List a}{f:a->List b}(p:a->Bool)(h:∀x∈l,p x=am->f x=[]):l.flatMap f=(l.filter p).flatMap f:=by
 induction l with
 |nil=>rfl
 |cons x l c=>grind
theorem yn{a:List Tx}(f:1<=w)(B:1<=a.length)(m:∀x∈a,x.length=w/\∀c∈x,c∈cq):dz w a=(eY (w-1+a.length)).filter λz=>(aM z w).isPerm a:=by
 rw[Po,List.filter_flatMap];have t:(λh=>((eY a.length).map (h++·)).filter λz=>(aM z w).isPerm a)=λh=>((eY a.length).filter λs=>(aM (h++s) w).isPerm a).map (h++·):=by funext h;rw[tR];rfl
 rw[t,P5 (λh=>decide (h∈a.map mw))]
 .have r:(eY (w-1)).filter (λh=>decide (h∈a.map mw))=aN (bK (a.map mw)):=by
   refine yi ?_ ((Eo (w-1)).filter _);refine(List.perm_ext_iff_of_nodup ((O9 (w-1)).filter _) (Is _)).mpr λx=>?_;rw[jF,decide_eq_true_eq,kY,pQ];refine⟨λh=>h.2,λh=>⟨?_,h⟩⟩;obtain⟨y,d,rfl⟩:=b8.mp h;obtain⟨p,o⟩:=m y d;exact⟨by rw[JB,p],λc n=>o c ((List.dropLast_sublist _).mem n)⟩
  rw[r];unfold dz;have:∀l:List Tx,(∀h∈l,h.length=w-1)->l.flatMap (λh=>iW w a.length h a)=l.flatMap λh=>((eY a.length).filter λs=>(aM (h++s) w).isPerm a).map (h++·):=by
   intro l
   induction l with
   |nil=>intro _;rfl
   |cons h l i=>
    intro b;rw[o8,o8,i λy d=>b y (by simp[d]),Eh w _ h a rfl];have q:(λs=>(nw w h s).isPerm a)=λs=>(aM (h++s) w).isPerm a:=by funext s;rw[zZ f (b h (by simp))]
    rw[q]
  grind
 .intro h b A;have u:=((pQ _ h).mp b).1;rw[List.map_eq_nil_iff,List.filter_eq_nil_iff];intro s j g;have v:=((pQ _ s).mp j).1;rw[zZ f u,List.isPerm_iff]at g;cases s with
  |nil=>grind
  |cons c s=>
   rw[nw,show h.length+1-w=0 by simp_all,vJ]at g
   grind
noncomputable def unD(w:Nat)(a:List Tx)(t:Tx):Bool:=(aM t w).all λx=>decide ((aM t w).count x<=a.count x)
theorem Oo:unD w a t=ai↔∀x,(aM t w).count x<=a.count x:=by
 unfold unD
 grind
theorem ME(b:1<=w)(h:unD w a (t++[c])=ai):unD w a t=ai:=by rw[Oo]at h ⊢;intro x;have:=h x;rw[HC b,JN]at this;lia
end Mx
namespace Sh
open L2 Pu Mx
theorem jf(h:c ε=.ok x ε1)(g:b ε1=.ok y a)(d:f x y=aa z):d2 f c b ε=.ok z a:=by unfold d2;simp_all
section
theorem Gk{ls:List Tx}(h:ls.length<64):gZ [.lst (ak ls)]=aa (.lst (ak (aN ls))):=by show(dZ (ak ls)).bind _=_;rw[kb,eZ,if_pos h]
end
section
variable{a:Ad}
noncomputable abbrev bA(b:List Int):Slot:=.val (.lst (b.map .int))
theorem Ip(b:List Int)(k:Int)(c:0<=k)(h:k<b.length):∃v,gb (b.map PV.int) k=aa (.int v):=by
 have d:k.toNat<b.length:=⋯
 refine⟨b[k.toNat],?_⟩;rw[yb c (by rw[cX];trivial)];simp
theorem eq_nil(b:List Int):Pu.eqT am (.lst (b.map .int)) (.lst [])=aa (.bl b.isEmpty):=by
 cases b with
 |nil=>rfl
 |cons x xs=>
  have c:∀l:List Int,jE (l.map .int)=0:=λl=>by induction l with|nil=>rfl|cons y l d=>trivial
  have:jE ((x::xs).map .int)=0:=c _;simp only[cn]at this;simp[Pu.eqT,dv,dP,iF,kt,this]
theorem uZ(b:Bool)(i j:Int):Pu.eqT b (.int i) (.int j)=aa (.bl (b^^decide (i=j))):=by show(if u6 (V.int i) (V.int j)then aa (PV.bl (b^^decide (V.int i=V.int j)))else ac)=_;have:u6 (V.int i) (V.int j)=ai:=rfl;simp_all
theorem Lp(b:List Int)(k:Int)(g:0<=k):∃v,se a [bA b,⇑k]=.ok (⇑v) [bA b,⇑k]:=by
 by_cases h:k<b.length
 .obtain⟨v,c⟩:=Ip b k g h;refine⟨v,?_⟩;simp![se,yaC,bu,bB,c,h]
 .have e:=eq_nil b;by_cases d:b=[]
  .subst d;refine⟨0,?_⟩;simp only[kI,JO]at e;have i:¬k<0:=nofun
   simp![se,yaC,bu,bB,e,i]
  .have m:0<b.length:=by grind
   obtain⟨v,c⟩:=Ip b (k % b.length) (Int.emod_nonneg _ ⋯) (JP _ ⋯);refine⟨v*31+k,?_⟩;have j:b.isEmpty=am:=by grind
   rw[j]at e;have f:iS (.int k) (.int (b.length:Int))=aa (.int (k % b.length)):=by simp[iS];omega
   have l:jW (.int v) (.int 31)=aa (.int (v*31)):=by simp[jW,yy]
   simp![se,yaC,bu,bB,h,e,f,c,l,bq]
theorem Pr(b:List Int)(k m:Int)(q:0<=k)(i:0<m):∃v,0<=v/\v<m/\yA a [bA b,⇑k,⇑m]=.ok (⇑v) [bA b,⇑k,⇑m]:=by
 obtain⟨c,p⟩:=Lp (a:=a) b k q;have r:0<=(c*1103515245+7919*k+12345) % 2147483647:=Int.emod_nonneg _ (by simp);have d1:(c*1103515245+7919*k+12345) % 2147483647<2147483647:=JP _ (by simp);have o:jW (.int c) (.int 1103515245)=aa (.int (c*1103515245)):=by simp[jW,yy]
 have n:jW (.int 7919) (.int k)=aa (.int (7919*k)):=by rfl
 have h:iS (.int (c*1103515245+7919*k+12345)) (.int 2147483647)=aa (.int ((c*1103515245+7919*k+12345) % 2147483647)):=by rfl
 generalize (c*1103515245+7919*k+12345) % 2147483647=d at r d1 h;have l:uK (.int d) (.int 5)=aa (.int (d^5)):=by
  have:d.natAbs<2^64:=∅
  simp[uK,this]
 have g:iS (.int (d^5)) (.int 2147483647)=aa (.int (d^5 % 2147483647)):=by rfl
 generalize d^5 % 2147483647=d5 at g;have f:iS (.int d5) (.int 999983)=aa (.int (d5 % 999983)):=by rfl
 generalize d5 % 999983=d6 at f;have j:iS (.int d6) (.int m)=aa (.int (d6 % m)):=by simp[iS,i]
 refine⟨d6 % m,Int.emod_nonneg _ ∅,JP _ i,?_⟩;simp![yA,yaF,p,o,n,h,l,g,f,j,bq]
theorem oO(b:List Int)(xs:List PV)(m:Int)(h:0<m)(i:xs.length<=1000):∃v,0<=v/\v<m/\ji a [bA b,.own (.lst xs),⇑m]=.ok (⇑v) [bA b,.own (.lst (xs++[.int 0])),⇑m]:=by
 obtain⟨v,d,c,g⟩:=Pr (a:=a) b ((xs.length:Int)+1) m ∅ h;refine⟨v,d,c,?_⟩;have f:xs.length<bw:=by unfold bw;lia
 simp![ji,yaD,bu,f,g]
theorem FN(b:List c)(v:Int)(f:0<=v)(g:v<b.length):∃x∈b,gb b v=aa x:=by
 have d:v.toNat<b.length:=⋯
 exact⟨b[v.toNat],vL _,yb f d⟩
theorem RQ(c:List Int)(xs b:List PV)(h:xs.length<=1000)(l:0<b.length):∃x∈b,xI a [bA c,.own (.lst xs),.val (.lst b)]=.ok (.val x) [bA c,.own (.lst (xs++[.int 0])),.val (.lst b)]:=by obtain⟨v,f,d,i⟩:=oO (a:=a) c xs (b.length:Nat) ⋯ h;obtain⟨x,j,g⟩:=FN b v f d;refine⟨x,j,?_⟩;simp![xI,yaG,bu,bB,i,g]
theorem Bu{n:Nat}(h:n<=1000000):km [.int n]=aa (fL 0 n):=by
 show(if(n:Int)<=1000000/\-1000000<=(n:Int)then aa (fL 0 (n:Int).toNat)else ac)=_
 grind
theorem xJ{x y:Tx}(h:x.length+y.length<=bw):bq (.str x) (.str y)=aa (.str (x++y)):=by show(if(x++y).length<=bw then aa (PV.str (x++y))else ac)=_;rw[if_pos (by rw[ef];exact h)]
theorem bW{d1 d2:ad aG}(h:d1 ε=.ok .next ε1):aC d1 d2 ε=d2 ε1:=by unfold aC;rw[h]
theorem oM(h:d ε=.ok x ε1):bE i d ε=.ok .next (ε1.set i (.val x)):=by unfold bE;rw[h];rfl
theorem Ac{I:Nat->aj->Prop}{N:Nat}(step:∀k c x,k<N->I k c->∃b,db (c.set i (.val x))=.ok .next b/\I (k+1) b):∀(xs:List PV) (k:Nat) (c:aj),k+xs.length<=N->I k c->∃b,d9 i db xs c=.ok .next b/\I (k+xs.length) b
 |[],k,c,_,h=>⟨c,rfl,h⟩
 |x::xs,k,c,g,h=>by
  simp only[cI]at g;obtain⟨f,l,j⟩:=step k c x ∅ h;obtain⟨d,n,m⟩:=Ac step xs (k+1) f ∅ j;refine⟨d,by unfold d9;rw[l];trivial,?_⟩
  grind
theorem yF{I:List PV->aj->Prop}(step:∀(x:PV) (r:List PV) c,I (x::r) c->∃b,db (c.set i (.val x))=.ok .next b/\I r b):∀(xs:List PV) (c:aj),I xs c->∃b,d9 i db xs c=.ok .next b/\I [] b
 |[],c,h=>⟨c,rfl,h⟩
 |x::xs,c,h=>by obtain⟨f,l,j⟩:=step x xs c h;obtain⟨d,m,g⟩:=yF step xs f j;exact⟨d,by unfold d9;rw[l];trivial,g⟩
theorem Ba(h:List Int)(xs:List PV)(b most:Nat)(J:b<=most)(T:most<=100)(S:xs.length<=500):∃(z:Tx) (g:List PV),b<=z.length/\z.length<=most/\(∀c∈z,c∈cq)/\g.length<=xs.length+2+most /\ mR a [bA h,.own (.lst xs),⇑b,⇑most]=.ok (↥z) [bA h,.own (.lst g),⇑b,⇑most]:=by
 obtain⟨f,s,G⟩:=RQ (a:=a) h xs [.int 1,.int 2,.int 2,.int 3,.int 3,.int 3] ∅ (by simp);obtain⟨few,rfl,M,Y⟩:∃few:Int,f=.int few/\0<few/\few<=3:=by simp only[bQ,jI,or_false]at s;rcases s with rfl|rfl|rfl|rfl|rfl|rfl <;> exact⟨_,rfl,by decide,by decide⟩
 obtain⟨m,Q,P,t⟩:=oO (a:=a) h (xs++[.int 0]) ((most:Int)-b+1) ∅ (by simp;lia);obtain⟨n,H⟩:∃n:Nat,(b:Int)+m=n:=⟨(b+m).toNat,∅⟩
 have F:km [.int ((b:Int)+m)]=aa (fL 0 n):=by rw[H];exact Bu ∅
 have Z:(fL 0 n).length=n:=by simp[fL]
 obtain⟨y,u,g,z,j,rfl,r,D,w⟩:=Ac (i:=6) (db:=bE 5 (d2 bq (dV 5) (d2 bB (dC (.str [97,98,99])) (a9 (aL (ji a) (gV (dV 0) (gO 1 (gV (dV 4) (Pu.bG)))))))))
  (I:=λk q=>∃g z j,q=[bA h,.own (.lst g),⇑b,⇑most,⇑few,↥z,j]/\z.length=k/\g.length<=xs.length+2+k/\∀c∈z,c∈cq) (N:=n)
  (by
   rintro k q x W ⟨g,z,j,rfl,r,D,w⟩;obtain⟨v,A,O,E⟩:=oO (a:=a) h g few M ∅;obtain⟨c,X,L⟩:=FN cq v A (by simp[cq];lia);refine⟨[bA h,.own (.lst (g++[.int 0])),⇑b,⇑most,⇑few,↥(z++[c]),.val x],?_,g++[.int 0],z++[c],.val x,rfl,by simp[r],by simp;ac_rfl,λd t=>?_⟩
   .have l:bB (.str [97,98,99]) (.int v)=aa (.str [c]):=by
     show(gb cq v).map _=_;rw[L];rfl
    have B:bq (.str z) (.str [c])=aa (.str (z++[c])):=xJ (by simp[bw];lia);simp![E,l,B]
   grind)
  (fL 0 n) 0 [bA h,.own (.lst (xs++[.int 0]++[.int 0])),⇑b,⇑most,⇑few,.val (.str []),.none] ⋯ ⟨xs++[.int 0]++[.int 0],[],.none,rfl,rfl,by simp,by simp⟩
 refine⟨z,g,∅,∅,w,∅,?_⟩;have C:fA (.int most) (.int b)=aa (.int ((most:Int)-b)):=rfl;have p:bq (.int ((most:Int)-b)) (.int 1)=aa (.int ((most:Int)-b+1)):=rfl;have o:bq (.int b) (.int m)=aa (.int ((b:Int)+m)):=rfl;simp only[fZ,vZ,gM]at u;simp![mR,yaI,G,C,p,o,t,dJ,F,cm,u]
theorem kR(p:PV->Bool)(f:PV->PV):∀(xs:List PV),(∀x∈xs,cL (fR cap dt x ε)=.ok (p x) ε/\(p x=ai->cL (fR cap de x ε)=.ok (f x) ε))->∀b,jB cap dt de xs b ε=.ok (b++(xs.filter p).map f) ε
 |[],_,b=>by simp[jB]
 |x::xs,h,b=>by
  have d:=h x (by simp);have g:=kR p f xs (λy c=>h y (by simp[c]));unfold jB;rw[d.1];simp only[R.bind_ok];cases i:p x with
  |false=>simp_all
  |true=>simp_all
theorem O4{z:Tx}(h:i+w<=z.length):dS z (aa (i:Int)) (aa ((i:Int)+w))=(z.drop i).take w:=by
 unfold dS;have c:HT.sIx z.length 0 (aa (i:Int))=i:=by rw[HT.sIx_nat];lia
 have b:HT.sIx z.length z.length (aa ((i:Int)+w))=i+w:=by rw[show(i:Int)+w=((i+w:Nat):Int) by rfl,HT.sIx_nat];lia
 rw[c,b,Nat.add_sub_cancel_left]
theorem yh(z:Tx)(w:Nat)(o:z.length<=60):kW a [↥z,⇑w]=.ok (.val (.tup (ak (aN (aM z w))))) [↥z,⇑w]:=by
 have g:km [.int (z.length:Nat)]=aa (fL 0 z.length):=Bu ∅;have b:=kR (cap:=[0,1]) (dt:=(dB (d2 (cP λi j=>decide (i<=j)) (d2 bq (dV 0) (dV 2)) (dL bu (aw (dV 1) (az)))))) (de:=(bN bY (dV 1) (bJ (dV 0)) (bJ (d2 bq (dV 0) (dV 2)))))
  (ε:=[↥z,⇑w]) (λx=>match x with|.int i=>decide (i+w<=z.length)|_=>am) (λx=>match x with|.int i=>.str (dS z (aa i) (aa (i+w)))|_=>.non) (fL 0 z.length)
  (by
   intro x d;simp only[fL,b8]at d;obtain⟨i,f,rfl⟩:=d;refine⟨?_,λh=>?_⟩
   all_goals rfl) []
 have l:(aM z w).length<64:=by
  unfold aM
  grind
 have m:(((fL 0 z.length).filter (λx=>match x with|.int i=>decide (i+w<=z.length)|_=>am)).map (λx=>match x with|.int i=>PV.str (dS z (aa i) (aa (i+w)))|_=>.non))=ak (aM z w):=by
  unfold fL aM ak;rw[tR,cU,cU];have n:((λx=>match x with|PV.int i=>decide (i+(w:Int)<=(z.length:Nat))|_=>am) ∘ λ(i:Nat)=>PV.int (0+(i:Nat)))=λi=>decide (i+w<=z.length):=by funext i;simp only[zh];congr 1;simp;lia
  rw[n];refine jm λi f=>?_;have:=(jF.mp f).2;simp only[decide_eq_true_eq]at this;simp only[zh,Int.zero_add];rw[O4 this]
 simp only[gM]at b;rw[m]at b;have c:=Gk l;generalize ak (aN (aM z w))=T at c;generalize ak (aM z w)=B at b c;simp![kW,yaH,bu,g,cy,b,c,gY]
theorem D5:∀x∈aM z w,x.length=w/\∀c∈x,c∈z:=by
 intro x b;simp only[aM,b8,jF,kE,decide_eq_true_eq]at b
 grind
theorem R6{z:Tx}(c:1<=w)(f:w<=z.length)(d:z.length<=w+m):1<=(aM z w).length/\(aM z w).length<=m+1:=by
 unfold aM;rw[cX];have:∀n,((cu n).filter λi=>decide (i+w<=z.length)).length=min n (z.length+1-w):=by
  intro n
  induction n with
  |zero=>rfl
  |succ n b=>
   rw[qB,JI,ef,b]
   grind
 rw[this];omega
structure Good(l:Tx)(w:Nat)(ls:List Tx):Prop where
 len:∀x∈ls,x.length=w
 abc:∀x∈ls,∀c∈x,c∈l
 some:1<=ls.length
 few:ls.length<=9
theorem Good.perm{b:List Tx}(g:Good l w ls)(p:b.Perm ls):Good l w b:=⟨λx h=>g.len x (p.mem_iff.mp h),λx h=>g.abc x (p.mem_iff.mp h),by rw[p.length_eq];exact g.some,by rw[p.length_eq];exact g.few⟩
theorem Good.put{z:Tx}(g:Good l w ls)(b:z.length=w)(d:∀c∈z,c∈l):Good l w (ls.set j z):=by
 refine⟨λx h=>?_,λx h=>?_,by rw[iJ];exact g.some,by rw[iJ];exact g.few⟩
 .rcases List.mem_or_eq_of_mem_set h with h|rfl
  .exact g.len x h
  trivial
 .rcases List.mem_or_eq_of_mem_set h with h|rfl
  .exact g.abc x h
  trivial
theorem NF(ls:List Tx)(j:Nat)(z:Tx):(ak ls).set j (.str z)=ak (ls.set j z):=by simp[ak,List.map_set]
theorem fu(ls:List Tx):(ak ls).length=ls.length:=by simp[ak]
theorem S9{n:Nat}{v:Int}(c:0<=v)(b:v<n):kh n v=aa v.toNat:=by unfold kh;rw[if_pos c,if_pos b]
theorem F8(ls:List Tx):je (ak ls)=ai:=by
 induction ls with
 |nil=>rfl
 |cons x ls b=>trivial
theorem P8(g:List Int)(xs:List PV)(d most:Nat)(hs:d<3)(m1:1<=most)(m9:most<=9)(hx:xs.length<=300):∃(w:Nat) (ls:List Tx) (j:List PV),1<=w/\w<=4/\(d≠2->2<=w)/\Good cq w ls/\ls.Pairwise (λa b=>bO a b=ai)/\ls.length<=most/\(d=0->∃z:Tx,ls=aN (aM z w)/\w<=z.length/\z.length+1<=w+most/\∀c∈z,c∈cq)/\j.length<=xs.length+60 /\ uh a [bA g,.own (.lst xs),⇑d,⇑most]=.ok (.val (.tup [.int w,.tup (ak ls)])) [bA g,.own (.lst j),⇑d,⇑most]:=by
 obtain⟨w,J,Q,S,Z⟩:∃w:Nat,1<=w/\w<=4/\(d≠2->2<=w)/\(bI (dB (d2 (Pu.eqT ai) (dV 2) (dC (.int 2)))) (d2 bq (dC (.int 2)) (a9 (aL (ji a) (gV (dV 0) (gO 1 (gV (dC (.int 3)) (Pu.bG))))))) (d2 bq (dC (.int 1)) (a9 (aL (ji a) (gV (dV 0) (gO 1 (gV (dC (.int 4)) (Pu.bG)))))))) [bA g,.own (.lst xs),⇑d,⇑most,.none,.none,.none] =
   .ok (.int w) [bA g,.own (.lst (xs++[.int 0])),⇑d,⇑most,.none,.none,.none]:=by
  by_cases h2:d=2
  .subst h2;obtain⟨v,A,L,l⟩:=oO (a:=a) g xs 4 (by simp) ∅;refine⟨(1+v).toNat,∅,∅,λz=>absurd rfl z,?_⟩;have e:Pu.eqT ai (.int 2) (.int 2)=aa (.bl am):=by rfl
   have:((1+v).toNat:Int)=1+v:=∅
   simp![e,l,bq,this]
  .obtain⟨v,A,L,l⟩:=oO (a:=a) g xs 3 (by simp) ∅;refine⟨(2+v).toNat,∅,∅,λ_=>∅,?_⟩;have e:Pu.eqT ai (.int ((d:Nat):Int)) (.int 2)=aa (.bl ai):=by
    have:d=0\/d=1:=∅
    rcases this with rfl|rfl <;> (rw[uZ];rfl)
   have:((2+v).toNat:Int)=2+v:=∅
   simp![e,l,bq,this]
 obtain⟨z,y,u,G,f,B,s⟩:=Ba (a:=a) g (xs++[.int 0]) w (w+(most-1)) (by simp) ∅ (by simp;lia);simp only[ef,JL]at B;have W:=yh (a:=a) z w ∅;have UQ:=R6 (z:=z) (w:=w) (m:=most-1) J u G;have g0:Good cq w (aN (aM z w)):=by exact Good.perm ⟨λx h=>(D5 x h).1,λx h c hc=>f c ((D5 x h).2 c hc),UQ.1,∅⟩ (dI _)
 have n:iS (.int d) (.int 3)=aa (.int d):=by
  have:d=0\/d=1\/d=2:=∅
  rcases this with rfl|rfl|rfl <;> rfl
 have hr:km [.int d]=aa (fL 0 d):=Bu ∅;have bh:(fL 0 d).length=d:=by simp[fL]
 obtain⟨P,e1,j,ls,r,rfl,t,C,h0,Y⟩:=Ac (i:=6) (db:=(yD 5 (a9 (aL (ji a) (gV (dV 0) (gO 1 (gV (eR (λxs=>jd (bu xs)) 5) (Pu.bG)))))) (a9 (aL (mR a) (gV (dV 0) (gO 1 (gV (dV 4) (gV (dV 4) (Pu.bG)))))))))
  (I:=λk F=>∃j ls r,F=[bA g,.own (.lst j),⇑d,⇑most,⇑w,.own (.lst (ak ls)),r]/\Good cq w ls/\ls.length<=most/\(k=0->ls=aN (aM z w))/\j.length<=y.length+10*k) (N:=d)
  (by
   rintro k F x hk ⟨j,ls,r,rfl,t,C,_,Y⟩;obtain⟨z,H,u,G,f,X,s⟩:=Ba (a:=a) g j w w (by simp) ∅ ∅;obtain⟨v,A,L,l⟩:=oO (a:=a) g H (ls.length:Nat) (by have:=t.some;lia) ∅;refine⟨[bA g,.own (.lst (H++[.int 0])),⇑d,⇑most,⇑w,.own (.lst (ak (ls.set v.toNat z))),.val x],?_,_,_,_,rfl,t.put ∅ f,by rw[iJ];trivial,λz=>∅,by simp;lia⟩;have D:kh (ak ls).length v=aa v.toNat:=S9 A (by rw[fu];trivial);have hl:bu [.lst (ak ls)]=aa (.int (ls.length:Nat)):=by simp[bu,fu]
   simp![yD,s,hl,l,D,NF])
  (fL 0 d) 0 [bA g,.own (.lst y),⇑d,⇑most,⇑w,.own (.lst (ak (aN (aM z w)))),.none] ⋯ ⟨y,_,.none,rfl,g0,by rw[Bt];simp_all,λ_=>rfl,by simp⟩
 refine⟨w,aN ls,j,J,Q,S,t.perm (dI _),lc _,by rw[Bt];trivial,λz0=>⟨z,by rw[h0 ⋯,vc (lc _)],u,∅,f⟩,∅,?_⟩;have M:bq (.int w) (.int most)=aa (.int ((w:Int)+most)):=rfl;have E:fA (.int ((w:Int)+most)) (.int 1)=aa (.int (((w+(most-1):Nat)):Int)):=by show aa (PV.int ((w:Int)+most-1))=_;congr 2;lia
 have O:=Gk (ls:=ls) (by lia);have p:yaL a [bA g,.own (.lst xs),⇑d,⇑most,.none,.none,.none]=.ok (.ret (.val (.tup [.int w,.tup (ak (aN ls))]))) [bA g,.own (.lst j),⇑d,⇑most,⇑w,.own (.lst (ak ls)),r]:=by unfold yaL;refine(bW (oM Z)).trans ?_;have o:=F8 (aN ls);generalize ak (aN ls)=T at O o;generalize ((w+(most-1):Nat):Int)=q at E s;generalize (w:Int)+most=q2 at M E;simp[aC,bI,dB,d2,d1,dV,dC,dL,dF,aw,az,bV,mQ,bE,cR,aL,gV,gO,Pu.bG,dY,eT,cg,c8,eF,R.bind,aD,bo,fP,bn,back,gf,ka,oK,kc,qe,Bi,a9,kZ,cK,b9,cH,B7,ku,SZ,mP,BP,ou,jO,kN,Qu,sd,cP,bR,gX,eR,kq,bz,qw,M,E,s,W,oG,n,dJ,hr,cm,e1,O,BC,o,gY]
 simp[uh,bo,fP,bn,p,back,gf]
theorem map_set{b c:Type}(f:b->c)(l:List b)(j:Nat)(x:b):(l.map f).set j (f x)=(l.set j x).map f:=by simp
theorem Ir(c b:List Tx):ak c++ak b=ak (c++b):=by simp[ak]
theorem FU(xs:List b)(n:Nat):dS xs ac (aa (n:Int))=xs.take n:=by unfold dS;have c:HT.sIx xs.length 0 ac=0:=rfl;rw[c,HT.sIx_nat,vJ,Nat.sub_zero];simp
theorem AV(xs:List b)(n:Nat):dS xs (aa (n:Int)) ac=xs.drop n:=by
 unfold dS;have c:HT.sIx xs.length xs.length ac=xs.length:=rfl;rw[c,HT.sIx_nat];by_cases h:n<=xs.length
 .rw[Nat.min_eq_left h,mn (by simp)]
 .rw[Nat.min_eq_right ∅,JQ (by simp),JQ ∅];simp
end
section
theorem xR(h:vo x=aa t)(e:jk [] (.type t) (.type T)=aa b):jY [x,.raw (.ty T)]=aa (.bl b):=by show((vo x).bind λt=>(jk [] (.type t) (.type T)).map λb=>PV.bl b)=_;simp_all
theorem Pq:jk [] (.type "str") (.type "str")=aa ai:=by rfl
theorem zY:jk [] (.type "tuple") (.type "tuple")=aa ai:=by rfl
theorem Mb(bs:List Bool):mL (bs.map .bl)=aa bs:=by
 induction bs with
 |nil=>rfl
 |cons b bs c=>show(mL (bs.map .bl)).map (b::·)=_;rw[c];rfl
theorem Ap(bs:List Bool):sA [.lst (bs.map .bl)]=aa (.bl (bs.all id)):=by show(mL (bs.map .bl)).map _=_;rw[Mb];rfl
theorem OR(z s:Tx):yC a [↥z,↥s]=.ok (.val (.bl (z.all s.contains))) [↥z,↥s]:=by
 have b:=kR (cap:=[1]) (dt:=dYes) (de:=(d2 (rH am) (dV 0) (dV 1))) (ε:=[↥z,↥s]) (λ_=>ai) (λx=>match x with|.str [c]=>.bl (s.contains c)|_=>.non) (z.map λc=>.str [c])
  (by
   intro x h;obtain⟨c,_,rfl⟩:=b8.mp h;refine⟨by rfl,λ_=>?_⟩;have g:rH am (.str [c]) (.str s)=aa (.bl (s.contains c)):=by rw[<-LR];simp[rH]
   simp![fR,gz,cL,g]) []
 have i:((z.map λc=>PV.str [c]).filter (λ_=>ai)).map (λx=>match x with|.str [c]=>PV.bl (s.contains c)|_=>.non)=(z.map s.contains).map .bl:=by rw[zi.mpr (by simp),cU,cU];rfl
 rw[gM,i]at b;have d:(z.map s.contains).all id=z.all s.contains:=by simp
 generalize z.map s.contains=bs at b d;have f:=Ap bs;rw[d]at f;simp![yC,yav,cy,bp,fV,b,f]
noncomputable def jP(w:Int)(s z:Tx):Bool:=decide ((z.length:Int)=w)&&z.all s.contains
theorem My(z s:Tx)(w:Int):sI a [↥z,⇑w,↥s]=.ok (.val (.bl (jP w s z))) [↥z,⇑w,↥s]:=by
 have d:jY [.str z,.raw (.ty "str")]=aa (.bl ai):=xR rfl Pq;have f:=OR (a:=a) z s;have c:bu [.str z]=aa (.int (z.length:Nat)):=rfl;have b:=uZ am (z.length:Nat) w;unfold jP;by_cases h:((z.length:Nat):Int)=w
 .simp only[h,decide_true,Bool.xor_true,vY]at b;simp![sI,yaA,d,c,b,f,h]
 .simp only[h,decide_false,Bool.xor_false]at b;simp![sI,yaA,d,c,b,h]
theorem Ey(d c:List Tx):iF (ak d) (ak c)=aa (decide (d=c)):=by
 induction d generalizing c with
 |nil=>cases c <;> simp[ak,iF]
 |cons x d f=>
  cases c with
  |nil=>rfl
  |cons y c=>
   show(dP (.str x) (.str y)).bind (λa=>(iF (ak d) (ak c)).map λb=>a&&b)=_;rw[f];have:dP (.str x) (.str y)=aa (decide (x=y)):=by
    show aa (tS x == tS y)=_;by_cases h:x=y
    .subst h;simp
    .have:tS x≠tS y:=λz=>h (uI z);simp[h,this]
   simp_all
theorem EO(b:List Tx):jE (ak b)=0:=by
 induction b with
 |nil=>rfl
 |cons x b c=>trivial
theorem BX(b:Bool)(c d:List Tx):Pu.eqT b (.lst (ak c)) (.lst (ak d))=aa (.bl (b^^decide (c=d))):=by show(if kt (.lst (ak c))<=8 then(iF (ak c) (ak d)).map (λk=>PV.bl (b^^k))else ac)=_;rw[if_pos (by show jE (ak c)+1<=8;rw[EO];decide),Ey];rfl
theorem MO(b:List Tx)(w:Int)(s:Tx)(t:1<=b.length)(r:b.length<=9):oE a [.val (.tup (ak b)),⇑w,↥s]=.ok (.val (.bl (b.all (jP w s)&&decide (b=aN b)))) [.val (.tup (ak b)),⇑w,↥s]:=by
 have h:jY [.tup (ak b),.raw (.ty "tuple")]=aa (.bl ai):=xR rfl zY;have i:bu [.tup (ak b)]=aa (.int (b.length:Nat)):=by simp[bu,fu]
 have m:(1:Int)<=(b.length:Nat):=∅
 have l:((b.length:Nat):Int)<=9:=∅
 have d:=kR (cap:=[1,2]) (dt:=dYes) (de:=(a9 (aL (sI a) (gV (dV 0) (gV (dV 1) (gV (dV 2) (Pu.bG))))))) (ε:=[.val (.tup (ak b)),⇑w,↥s]) (λ_=>ai) (λx=>match x with|.str z=>.bl (jP w s z)|_=>.non) (ak b)
  (by intro x o;obtain⟨z,_,rfl⟩:=b8.mp o;refine⟨by rfl,λ_=>?_⟩;have p:=My (a:=a) z s w;simp![fR,gz,cL,p]) []
 have q:((ak b).filter (λ_=>ai)).map (λx=>match x with|.str z=>PV.bl (jP w s z)|_=>.non)=(b.map (jP w s)).map .bl:=by rw[zi.mpr (by simp)];unfold ak;rw[cU,cU];rfl
 rw[gM,q]at d;have g:(b.map (jP w s)).all id=b.all (jP w s):=by simp
 generalize b.map (jP w s)=bs at d g;have f:=Ap bs;have n:b.length<64:=nofun
 have c:=BX am b (aN b);cases j:b.all (jP w s)with
 |false=>rw[g,j]at f;simp![oE,yan,h,i,m,l,cy,bp,fV,d,f]
 |true=>rw[g,j]at f;simp only[Dc]at c;simp![oE,yan,h,i,m,l,cy,bp,fV,d,f,oG,gZ,kb,n,c]
theorem T_(b:List Tx)(w:Int)(s:Tx)(h:b.length=0\/9<b.length):oE a [.val (.tup (ak b)),⇑w,↥s]=.ok (.val (.bl am)) [.val (.tup (ak b)),⇑w,↥s]:=by
 have c:jY [.tup (ak b),.raw (.ty "tuple")]=aa (.bl ai):=xR rfl zY;have d:bu [.tup (ak b)]=aa (.int (b.length:Nat)):=by simp[bu,fu]
 by_cases f:(1:Int)<=(b.length:Nat)
 .have g:¬((b.length:Nat):Int)<=9:=∅
  simp![oE,yan,c,d,f,g]
 .simp![oE,yan,c,d,f]
theorem R9(i:Int):zL a [⇑i]=.ok (.val (.bl ai)) [⇑i]:=by rfl
theorem No(i:Int):sO a [⇑i]=.ok (.val (.bl (decide (1<=i/\i<=4)))) [⇑i]:=by
 have h:=R9 (a:=a) i;by_cases b:1<=i
 .by_cases c:i<=4
  .simp![sO,yaz,h,b,c]
  .simp![sO,yaz,h,b,c]
 .simp![sO,yaz,h,b]
noncomputable def ux(s:Tx)(w:Int)(b:List Tx):Bool:=decide (1<=w/\w<=4)&&(decide (1<=b.length/\b.length<=9)&&(b.all (jP w s)&&decide (b=aN b)))
theorem Uf(s:Tx)(w:Int)(b:List Tx):su a [.val (.tup [.int w,.tup (ak b)]),↥s]=.ok (.val (.bl (ux s w b))) [.val (.tup [.int w,.tup (ak b)]),↥s]:=by
 have h:jY [.tup [.int w,.tup (ak b)],.raw (.ty "tuple")]=aa (.bl ai):=xR rfl zY;have l:bu [.tup [.int w,.tup (ak b)]]=aa (.int 2):=rfl;have f:=uZ ai 2 2;simp only[decide_true,Bool.true_xor,mr]at f;have j:bB (.tup [.int w,.tup (ak b)]) (.int 0)=aa (.int w):=rfl;have i:bB (.tup [.int w,.tup (ak b)]) (.int 1)=aa (.tup (ak b)):=rfl;have d:=No (a:=a) w;unfold ux;by_cases c:1<=w/\w<=4
 .rw[decide_eq_true c]at d ⊢;by_cases g:1<=b.length/\b.length<=9
  .have m:=MO (a:=a) b w s g.1 g.2;rw[decide_eq_true g];simp![su,yax,h,l,f,j,i,d,m]
  .have m:=T_ (a:=a) b w s ∅;rw[decide_eq_false g];simp![su,yax,h,l,f,j,i,d,m]
 .rw[decide_eq_false c]at d ⊢;simp![su,yax,h,l,f,j,i,d]
noncomputable abbrev vw(w:Int)(b:List Tx):Bool:=ux cq w b
theorem NP(w:Int)(b:List Tx):xV a [.val (.tup [.int w,.tup (ak b)])]=.ok (.val (.bl (vw w b))) [.val (.tup [.int w,.tup (ak b)])]:=by have c:=Uf (a:=a) cq w b;simp only[cq]at c;simp![xV,yaw,c];rfl
theorem ym(h:vw w b=ai):mZ a [.val (.tup [.int w,.tup (ak b)])]=.ok (.val .non) [.val (.tup [.int w,.tup (ak b)])]:=by have c:=NP (a:=a) w b;rw[h]at c;simp![mZ,yaq,c]
theorem Good.vw(g:Good cq w d)(n:1<=w)(m:w<=4)(h:d.Pairwise (λa b=>bO a b=ai)):vw w d=ai:=by
 have l:d.all (jP w cq)=ai:=by rw[tq];intro x f;unfold jP;rw[g.len x f,decide_eq_true rfl,Bool.true_and,tq];intro c i;simpa using g.abc x f c i
 have j:decide (d=aN d)=ai:=decide_eq_true (vc h).symm;show ux cq w d=ai;unfold ux;rw[l,j,decide_eq_true (show 1<=(w:Int)/\(w:Int)<=4 by lia),decide_eq_true (show 1<=d.length/\d.length<=9 from⟨g.some,g.few⟩)];rfl
end
noncomputable def bL(m:List (Tx×Int))(x:Tx):Option Int:=(m.find? λp=>decide (p.1=x)).map (·.2)
noncomputable def cQ(m:List (Tx×Int))(x:Tx)(n:Int):List (Tx×Int):=if(m.any λp=>decide (p.1=x))=ai then m.map (λp=>if p.1=x then(p.1,n)else p)else m++[(x,n)]
noncomputable def dk(m:List (Tx×Int)):List (aI×PV):=m.map λp=>(Sum.inr (tS p.1),PV.int p.2)
theorem B9(x y:Tx):((Sum.inr (tS x):aI)=Sum.inr (tS y))=(x=y):=propext ⟨λh=>uI (Sum.inr.inj h),λh=>by rw[h]⟩
theorem uo(m:List (Tx×Int))(x:Tx):jx (dk m) (Sum.inr (tS x))=(bL m x).map .int:=by
 induction m with
 |nil=>rfl
 |cons p m a=>
  show((List.find? _ ((Sum.inr (tS p.1),PV.int p.2)::dk m)).map (·.2))=_;unfold bL;rw[mj,mj];simp only[B9];by_cases h:p.1=x
  .simp[h]
  .simp only[h,decide_false];trivial
theorem Tn(m:List (Tx×Int))(x:Tx):((dk m).any λa=>decide (a.1=(Sum.inr (tS x):aI)))=m.any λp=>decide (p.1=x):=by unfold dk;rw[List.any_map];congr 1;funext p;simp only[zh,B9]
theorem xr(m:List (Tx×Int))(x:Tx)(n:Int):oy (dk m) (Sum.inr (tS x)) (.int n)=dk (cQ m x n):=by
 unfold oy cQ;rw[Tn];split
 .unfold dk;rw[cU,cU];refine jm λp _=>?_;simp only[zh,B9];split <;> rfl
 .unfold dk;simp
theorem G9(m:List (Tx×Int)):pV (dk m)=aa (m.any λp=>decide (p.2≠0)):=by
 induction m with
 |nil=>rfl
 |cons p m a=>show(pV (dk m)).map _=_;rw[a];rfl
theorem xa{m:List (Tx×Int)}(h:(m.any λp=>decide (p.1=x))=am):bL m x=ac:=by
 unfold bL
 grind
theorem Oe{m:List (Tx×Int)}(h:(m.any λp=>decide (p.1=x))=am):bL (m++[(x,n)]) y=if y=x then aa n else bL m y:=by
 have a:=xa h;unfold bL at a ⊢
 grind
theorem Lm{m:List (Tx×Int)}:bL (m.map λp=>if p.1=x then(p.1,n)else p) y=(bL m y).map λz=>if y=x then n else z:=by
 induction m with
 |nil=>rfl
 |cons p m a=>
  unfold bL at a ⊢
  grind
theorem IE{m:List (Tx×Int)}(h:(m.any λp=>decide (p.1=x))=ai):∃n,bL m x=aa n:=by
 unfold bL;cases a:m.find? (λp=>decide (p.1=x))with
 |none=>grind
 |some p=>simp
theorem mM(m:List (Tx×Int))(x y:Tx)(n:Int):bL (cQ m x n) y=if y=x then aa n else bL m y:=by
 unfold cQ;by_cases h:(m.any λp=>decide (p.1=x))=ai
 .rw[if_pos h,Lm];by_cases e:y=x
  .subst e;obtain⟨k,a⟩:=IE h;rw[a];simp
  .simp[e]
 .rw[if_neg h,Oe (C3.mpr h)]
structure oD(m:List (Tx×Int))(q:List Tx):Prop where
 nd:(m.map (·.1)).Nodup
 get:∀x,(bL m x).getD 0=(q.count x:Nat)
theorem oD.mem(h:oD m q)(a:p∈m):bL m p.1=aa p.2:=by
 have b:=h.nd;clear h
 induction m with
 |nil=>trivial
 |cons r m c=>
  unfold bL;rw[mj];rcases bQ.mp a with rfl|a
  .simp
  .rw[cn,ik]at b;have:¬r.1=p.1:=λz=>b.1 (b8.mpr ⟨p,a,z.symm⟩);simp only[this,decide_false];exact c a b.2
theorem Fo:(cQ m x n).map (·.1)=if(m.any λp=>decide (p.1=x))=ai then m.map (·.1)else m.map (·.1)++[x]:=by
 unfold cQ;split
 .rw[cU];refine jm λp _=>?_;lia
 simp
theorem pI{m:List (Tx×Int)}(h:(m.map (·.1)).Nodup):((cQ m x n).map (·.1)).Nodup:=by
 rw[Fo]
 grind
theorem oD.any(h:oD m q):(m.any λp=>decide (p.2≠0))=!q.isEmpty:=by
 cases q with
 |nil=>rw[JO,mr,List.any_eq_false];intro p b;have a:=h.get p.1;rw[h.mem b]at a;simpa using a
 |cons x q=>
  rw[List.isEmpty_cons,vY,Dm];have a:=h.get x;rw[JR]at a;cases e:m.find? (λp=>decide (p.1=x))with
  |none=>unfold bL at a;rw[e]at a;simp at a;lia
  |some p=>
   unfold bL at a
   grind
theorem oD.dec(h:oD m q)(g:x∈q):∃n,bL m x=aa n/\0<n/\oD (cQ m x (n-1)) (q.erase x)/\bL (cQ m x (n-1)) x=aa (n-1)/\cQ (cQ m x (n-1)) x (n-1+1)=m:=by
 have a:=h.get x;have l:0<q.count x:=Do.mpr g;cases e:bL m x with
 |none=>rw[e]at a;simp at a;lia
 |some n=>
  rw[e]at a;simp only[Option.getD_some]at a;refine⟨n,rfl,⋯,⟨pI h.nd,λy=>?_⟩,by rw[mM,if_pos rfl],?_⟩
  .rw[mM];by_cases c:y=x
   .grind
   .rw[if_neg c,List.count_erase_of_ne (dQ (dQ c))];exact h.get y
  .have f:(m.any λp=>decide (p.1=x))=ai:=by
    cases z:(m.any λp=>decide (p.1=x))with
    |true=>rfl
    |false=>rw[xa z]at e;cases e
   have i:((cQ m x (n-1)).any λp=>decide (p.1=x))=ai:=by unfold cQ;rw[if_pos f];obtain⟨p,d,b⟩:=Dm.mp f;refine Dm.mpr ⟨_,b8.mpr ⟨p,d,rfl⟩,?_⟩;rw[decide_eq_true_eq]at b;rw[if_pos b];simpa using b
   have j:cQ (cQ m x (n-1)) x (n-1+1)=(m.map λp=>if p.1=x then(p.1,n-1)else p).map λp=>if p.1=x then(p.1,n-1+1)else p:=by show(if((cQ m x (n-1)).any λp=>decide (p.1=x))=ai then _ else _)=_;rw[if_pos i];unfold cQ;rw[if_pos f]
   rw[j,cU];have:∀p∈m,((λp:Tx×Int=>if p.1=x then(p.1,n-1+1)else p) ∘ λp:Tx×Int=>if p.1=x then(p.1,n-1)else p) p=p:=by
    intro p d;simp only[zh];by_cases c:p.1=x
    .rw[if_pos c,if_pos c];have o:=h.mem d;lia
    .rw[if_neg c,if_neg c]
   rw[jm this,List.map_id''];intro p;rfl
theorem oD.zero(h:oD m q)(a:x∉q):(bL m x).getD 0=0:=by rw[h.get,List.count_eq_zero_of_not_mem a];rfl
section
theorem Sw(b:List Tx)(E:b.length<=100):∃m,oD m b/\m.length<=b.length/\vp a [.val (.tup (ak b))]=.ok (.own (.dK (dk m))) [.val (.tup (ak b))]:=by
 obtain⟨u,t,m,g,l,rfl,f,j,A⟩:=yF (i:=2) (db:=(fq 1 (dV 2) (d2 bq (iG 1 (dV 2) (dC (.int 0))) (dC (.int 1)))))
  (I:=λr h=>∃(m:List (Tx×Int)) (g:Slot) (l:List Tx),h=[.val (.tup (ak b)),.own (.dK (dk m)),g]/\oD m l/\m.length<=l.length/\∃q,b=l++q/\r=ak q)
  (by
   rintro x r h ⟨m,g,l,rfl,f,j,q,d,v⟩;cases q with
   |nil=>trivial
   |cons y q=>
    have n:x::r=.str y::ak q:=v;simp only[Dd]at n;obtain⟨rfl,rfl⟩:=n;have F:m.length<bw:=by have:=congrArg qw d;simp at this;unfold bw;lia
    refine⟨[.val (.tup (ak b)),.own (.dK (dk (cQ m y ((bL m y).getD 0+1)))),↥y],?_,cQ m y ((bL m y).getD 0+1),_,l++[y],rfl,⟨pI f.nd,λz=>?_⟩,?_,q,by rw[d];simp,rfl⟩
    .have o:=uo m y;have p:=xr m y ((bL m y).getD 0+1);have s:(dk m).length<bw:=by unfold dk;rw[cX];trivial
     have w:((bL m y).map PV.int).getD (.int 0)=.int ((bL m y).getD 0):=by simp
     generalize dk m=D at o p s;simp![fq,iG,cW,iU,o,w,bq,s,p]
    .rw[mM];by_cases c:z=y
     .subst c;rw[if_pos rfl,JN,List.count_singleton_self];have:=f.get z;simp_all
     .rw[if_neg c,JN,f.get z]
      grind
    .have:(cQ m y ((bL m y).getD 0+1)).length<=m.length+1:=by
      unfold cQ;split <;> simp
     grind)
  (ak b) [.val (.tup (ak b)),.own (.dK (dk [])),.none] ⟨[],.none,[],rfl,⟨by simp,λx=>by rfl⟩,by simp,b,by rfl,rfl⟩
 obtain⟨q,d,C⟩:=A;have:q=[]:=by cases q with|nil=>rfl|cons=>trivial
 subst this;rw[gJ]at d;subst d;refine⟨m,f,j,?_⟩;have B:dk []=[]:=rfl;rw[B]at t;simp![vp,yar,r9,dJ,bp,fV,cm,t,kn]
end
section
variable{a:Ad}
theorem QK{t:Tx}(b:w<=t.length+1)(c:1<=w):bY (.str t) (aa ((t.length:Int)-w+1)) ac=aa (.str (t.drop (t.length+1-w))):=by show aa (PV.str (dS t _ ac))=_;rw[show((t.length:Int)-w+1)=((t.length+1-w:Nat):Int) by omega,AV]
noncomputable def pM(c:Nat):PV:=.str [c]
theorem GL(w:Nat)(Q:1<=w):∀(r s:Nat) (t:Tx) (m:List (Tx×Int)) (q:List Tx) (b:List Tx),r<s->q.length=r->oD m q->w<=t.length+1->t.length+r<=1000->m.length<=1000->b.length+(iW w r t q).length<=bw -> oN a s [↥t,⇑w,.own (.dK (dk m)),.own (.lst (ak b))]=.ok (.val .non) [↥t,⇑w,.own (.dK (dk m)),.own (.lst (ak (b++iW w r t q)))]
 |0,0,_,_,_,_,h,_,_,_,_,_,_=>absurd h (by simp)
 |r+1,0,_,_,_,_,h,_,_,_,_,_,_=>absurd h (by simp)
 |0,s+1,t,m,q,b,_,hq,hm,hw,ht,uf,hs=>by
  have O:q=[]:=qI.mp hq;subst O;have d:=G9 m;rw[hm.any]at d;simp only[JO,mr]at d;have X:(ak b).length<bw:=by rw[fu];trivial
  have e:ak (b++iW w 0 t [])=ak b++[.str t]:=by simp[ak,iW]
  rw[e];generalize dk m=D at d;generalize ak b=L at X;simp![oN,yam,uO,cW,d,X]
 |r+1,s+1,t,m,q,b,hf,hq,hm,hw,ht,uf,hs=>by
  have ce:q.isEmpty=am:=by grind
  have d:=G9 m;rw[hm.any,ce]at d;simp only[vY]at d;have A:=QK (t:=t) hw Q;have bg:bu [.str t]=aa (.int (t.length:Nat)):=rfl;have io:fA (.int (t.length:Nat)) (.int w)=aa (.int ((t.length:Int)-w)):=rfl;have js:bq (.int ((t.length:Int)-w)) (.int 1)=aa (.int ((t.length:Int)-w+1)):=rfl
  let H:=t.drop (t.length+1-w)
  let f:=λc=>if H++[c]∈q then iW w r (t++[c]) (q.erase (H++[c]))else []
  have hE:iW w (r+1) t q=cq.flatMap f:=rfl;have hH:H.length<=1000:=by grind
  obtain⟨ε',o,J,G,p,rest,v,hr0,rfl⟩:=yF (i:=5) (db:=(aC (bE 6 (d2 bq (dV 4) (dV 5)))
 (bI (dB (d2 (cP λi j=>decide (j<i)) (iG 2 (dV 6) (dC (.int 0))) (dC (.int 0)))) (aC (fq 2 (dV 6) (d2 fA (nv 2 (dV 6)) (dC (.int 1))))
 (aC (ku (aL (oN a s) (gV (d2 bq (dV 0) (dV 5)) (gV (dV 1) (gO 2 (gO 3 (Pu.bG)))))))
 (fq 2 (dV 6) (d2 bq (nv 2 (dV 6)) (dC (.int 1)))))) (cH))))
   (I:=λM P=>∃(J G:Slot) (p rest:Tx),cq=p++rest/\M=rest.map pM/\P=[↥t,⇑w,.own (.dK (dk m)),.own (.lst (ak (b++p.flatMap f))),↥H,J,G])
   (by
    rintro x M P ⟨J,G,p,rest,v,oh,rfl⟩;cases rest with
    |nil=>trivial
    |cons c rest=>
     have Z:x::M=pM c::rest.map pM:=oh;simp only[Dd]at Z;obtain⟨rfl,rfl⟩:=Z;have S:bq (.str H) (.str [c])=aa (.str (H++[c])):=xJ (by simp[bw];lia);have mH:bq (.str t) (.str [c])=aa (.str (t++[c])):=xJ (by simp[bw];lia);have F:b.length+(p.flatMap f).length+(f c).length<=bw:=by
      grind
     have T:ak (b++(p++[c]).flatMap f)=ak ((b++p.flatMap f)++f c):=by simp
     by_cases B:H++[c]∈q
     .obtain⟨n,Y,g2,g3,g4,g5⟩:=hm.dec B;have g:f c=iW w r (t++[c]) (q.erase (H++[c])):=if_pos B;have u:=GL w Q r s (t++[c]) (cQ m (H++[c]) (n-1)) (q.erase (H++[c])) (b++p.flatMap f) ∅ (by rw[JM B,hq];rfl) g3 (by simp;lia) (by simp;lia)
       (by
        have:(cQ m (H++[c]) (n-1)).length=m.length:=by
         have:=congrArg qw (Fo (m:=m) (x:=H++[c]) (n:=n-1));have d:(m.any λp=>decide (p.1=H++[c]))=ai:=by
          cases z:(m.any λp=>decide (p.1=H++[c]))with
          |true=>rfl
          |false=>rw[xa z]at Y;trivial
         rw[if_pos d]at this;simpa using this
        simp_all)
       (by rw[<-g,ef];trivial)
      rw[<-g]at u;have l:=uo m (H++[c]);rw[Y]at l;have N:=xr m (H++[c]) (n-1);have C:=uo (cQ m (H++[c]) (n-1)) (H++[c]);rw[g4]at C;have E:=xr (cQ m (H++[c]) (n-1)) (H++[c]) (n-1+1);rw[g5,show n-1+1=n by simp]at E;have y:(dk m).length<bw:=by unfold dk;rw[cX];unfold bw;lia
      have W:(dk (cQ m (H++[c]) (n-1))).length<bw:=by
       unfold dk;rw[cX];have:(cQ m (H++[c]) (n-1)).length<=m.length+1:=by unfold cQ;split <;> simp
       unfold bw;lia
      have gt:(0:Int)<n:=g2;refine⟨[↥t,⇑w,.own (.dK (dk m)),.own (.lst (ak (b++(p++[c]).flatMap f))),↥H,.val (.str [c]),↥(H++[c])],?_,_,_,p++[c],rest,by rw[v];simp,rfl,rfl⟩;rw[T];have s1:fA (.int n) (.int 1)=aa (.int (n-1)):=rfl;have s2:bq (.int (n-1)) (.int 1)=aa (.int n):=by show aa (PV.int (n-1+1))=_;simp
      simp only[vO]at l C;generalize dk m=D at l N E y;generalize dk (cQ m (H++[c]) (n-1))=D2 at C N E u W;generalize ak (b++p.flatMap f)=L at u;generalize ak ((b++p.flatMap f)++f c)=L2 at u;clear_value H f;simp![pM,S,iG,nv,fq,cW,iU,l,gt,s1,y,N,mH,u,C,s2,W,E]
     .have g:f c=[]:=if_neg B;have hz:=hm.zero B;have l:=uo m (H++[c]);have hg:((bL m (H++[c])).map PV.int).getD (.int 0)=.int 0:=by simp_all
      refine⟨[↥t,⇑w,.own (.dK (dk m)),.own (.lst (ak (b++(p++[c]).flatMap f))),↥H,.val (.str [c]),↥(H++[c])],?_,_,_,p++[c],rest,by rw[v];simp,rfl,rfl⟩;rw[T,g,gJ];generalize dk m=D at l;generalize ak (b++p.flatMap f)=L;clear_value H f;simp![pM,S,iG,cW,iU,l,hg])
   (cq.map pM) [↥t,⇑w,.own (.dK (dk m)),.own (.lst (ak (b++([]:Tx).flatMap f))),↥H,.none,.none] ⟨.none,.none,[],cq,by rfl,rfl,rfl⟩
  have mI:rest=[]:=by simp_all
  subst mI;rw[gJ]at v;rw[hE];rw[<-v]at o;simp only[zg,gJ]at o;have i9:fV (.str [97,98,99])=aa (cq.map pM):=rfl;have UR:bY (.str t) (aa ((t.length:Int)-w+1)) ac=aa (.str H):=A;generalize dk m=D at d o;generalize ak b=L at o;generalize ak (b++cq.flatMap f)=L2 at o;clear_value H f;simp![oN,yam,uO,cW,d,bN,bJ,bS,bg,io,js,UR,cm,dJ,bp,i9,o]
end
section
noncomputable abbrev a_(w:Nat)(b:List Tx):PV:=.tup [.int w,.tup (ak b)]
theorem GN(xs:List b):dS xs ac (aa (-1))=xs.dropLast:=by unfold dS;rw[show HT.sIx xs.length 0 ac=0 from rfl,vJ,Nat.sub_zero,JS];congr 1;show(HT.sIx xs.length xs.length (aa (-1)))=_;show(if(-1:Int)<0 then((-1:Int)+(xs.length:Int)).toNat else min (-1:Int).toNat xs.length)=_;lia
theorem Qc(g:Good cq w b)(d:1<=w)(f:w<=4):(dz w b).length<=531441:=by rw[yn d g.some λx c=>⟨g.len x c,g.abc x c⟩];refine bT (v5 _ _) ?_;rw[Ij];exact bT (JT (by decide) (show w-1+b.length<=12 by have:=g.few;lia)) (by simp)
theorem K_(V:PV)(d:List Tx)(w:Nat)(c b:Slot):jB [] dYes (bN bY (dV 0) bS (bJ (d1 dO (dC (.int 1))))) (ak d) [] [.val V,⇑w,c,b]=.ok (ak (d.map mw)) [.val V,⇑w,c,b]:=by
 have i:=kR (cap:=[]) (dt:=dYes) (de:=(bN bY (dV 0) bS (bJ (d1 dO (dC (.int 1)))))) (ε:=[.val V,⇑w,c,b]) (λ_=>ai) (λx=>match x with|.str z=>.str z.dropLast|_=>.non) (ak d)
  (by
   intro x f;obtain⟨z,_,rfl⟩:=b8.mp f;refine⟨by rfl,λ_=>?_⟩;have g:bY (.str z) ac (aa (-1))=aa (.str z.dropLast):=by show aa (PV.str (dS z ac (aa (-1))))=_;rw[GN]
   have h:dO (.int 1)=aa (.int (-1)):=rfl;simp![fR,gz,cL,bN,bS,bJ,h,g]) []
 rw[i,gM,zi.mpr (by simp)];unfold ak;rw[cU,cU];rfl
theorem Ig(g:Good cq w c)(t:1<=w)(C:w<=4)(P:c.Pairwise (λa b=>bO a b=ai)):nu a [.val (a_ w c)]=.ok (.own (.lst (ak (dz w c)))) [.val (a_ w c)]:=by
 have s:=ym (a:=a) (g.vw t C P);have v:bB (a_ w c) (.int 0)=aa (.int w):=rfl;have n:bB (a_ w c) (.int 1)=aa (.tup (ak c)):=rfl;obtain⟨m,z,F,l⟩:=Sw (a:=a) c (by have:=g.few;lia);have M:m.length<=1000:=by have:=g.few;lia
 let hd:=aN (bK (c.map mw))
 have A:∀h∈hd,h.length=w-1:=λh G=>by have z:=(kY _ _).mp ((dI _).mem_iff.mp G);obtain⟨y,O,rfl⟩:=b8.mp z;rw[JB,g.len y O]
 let f:=λh=>iW w c.length h c
 have H:dz w c=hd.flatMap f:=rfl;have B:=Qc g t C;obtain⟨J,j,s3,p,rest,o,Q,rfl⟩:=yF (i:=3) (db:=(ku (uj (oN a 12) (si (dV 3) (si (dV 1) (gN (kZ (aL (vp a) (gV (d2 bB (dV 0) (dC (.int 1))) (Pu.bG)))) (gO 2 (Pu.bG))))))))
  (I:=λr ε=>∃(s3:Slot) (p rest:List Tx),hd=p++rest/\r=ak rest/\ε=[.val (a_ w c),⇑w,.own (.lst (ak (p.flatMap f))),s3])
  (by
   rintro x r ε ⟨s3,p,rest,o,S,rfl⟩;cases rest with
   |nil=>trivial
   |cons h rest=>
    have E:x::r=.str h::ak rest:=S;simp only[Dd]at E;obtain⟨rfl,rfl⟩:=E;have G:h.length=w-1:=A h (by rw[o];simp);have q:=GL (a:=a) w t c.length 12 h m c (p.flatMap f) (by have:=g.few;lia) rfl z ⋯ (by have:=g.few;lia) M (by rw[H,o,List.flatMap_append,o8,ef,ef]at B;show(p.flatMap f).length+(f h).length<=bw;unfold bw;lia);refine⟨[.val (a_ w c),⇑w,.own (.lst (ak ((p++[h]).flatMap f))),↥h],?_,_,p++[h],rest,by rw[o];simp,rfl,rfl⟩;have X:(p++[h]).flatMap f=p.flatMap f++iW w c.length h c:=by simp[f]
    rw[X];generalize ak (p.flatMap f)=L at q;generalize ak (p.flatMap f++iW w c.length h c)=L2 at q;generalize dk m=D at q l;simp only[a_]at n ⊢;generalize ak c=T at l n;clear_value f hd;simp![uj,si,gN,Gc,n,l,q])
  (ak hd) [.val (a_ w c),⇑w,.own (.lst (ak (([]:List Tx).flatMap f))),.none] ⟨.none,[],hd,by rfl,rfl,rfl⟩
 have N:rest=[]:=by cases rest with|nil=>rfl|cons=>trivial
 subst N;rw[gJ]at o;rw[<-o,<-H]at j;simp only[zg]at j;have d:=K_ (a_ w c) c w (.own (.lst [])) .none;have u:vg [.lst (ak (c.map mw))]=aa (.lst (ak hd)):=by show(dZ (ak _)).bind _=_;have Z:=g.few;rw[kb,eZ,if_pos (tm (Hh _) (by grind))]
 have Y:ak ([]:List Tx)=[]:=rfl;rw[Y]at j;generalize ak (dz w c)=L at j;generalize ak hd=D at j u;generalize ak (c.map mw)=D0 at d u;simp only[a_]at s v n d j ⊢;generalize W:ak c=T at s v n d j;clear_value f hd;simp![nu,yaQ,s,v,n,cm,dJ,bp,fV,cy,d,u,j,kn]
theorem Ou(b:List Tx):iX (ak b)=aa (bH b):=by
 induction b with
 |nil=>rfl
 |cons x b c=>show(dv (.str x)).bind (λv=>(iX (ak b)).map (v::·))=_;rw[c];rfl
theorem Hu(b:List Tx)(x:Tx):lY (ak b) (.str x)=aa (.int (b.count x:Nat)):=by show(dv (.str x)).bind (λv=>(iX (ak b)).map λc=>PV.int (c.countP λz=>eG z v))=_;rw[Ou,<-MH];rfl
theorem Sq(w:Nat)(b:List Tx)(t:Tx)(n:t.length<=60):qb a [↥t,⇑w,.val (.tup (ak b))]=.ok (.val (.bl (unD w b t))) [↥t,⇑w,.val (.tup (ak b))]:=by
 have d:=yh (a:=a) t w n
 let M:=aN (aM t w)
 have c:=kR (cap:=[3,2]) (dt:=dYes) (de:=(d2 (cP λi j=>decide (i<=j)) (rP lY (dV 1) (dV 0)) (rP lY (dV 2) (dV 0)))) (ε:=[↥t,⇑w,.val (.tup (ak b)),.val (.tup (ak M))]) (λ_=>ai) (λx=>match x with|.str z=>.bl (decide (M.count z<=b.count z))|_=>.non) (ak M)
  (by intro x m;obtain⟨z,_,rfl⟩:=b8.mp m;refine⟨by rfl,λ_=>?_⟩;have l:=Hu M z;have h:=Hu b z;generalize ak M=A at l;generalize ak b=B at h;simp![fR,gz,cL,rP,l,h]) []
 have o:((ak M).filter (λ_=>ai)).map (λx=>match x with|.str z=>PV.bl (decide (M.count z<=b.count z))|_=>.non)=(M.map λz=>decide (M.count z<=b.count z)).map .bl:=by rw[zi.mpr (by simp)];unfold ak;simp
 rw[gM,o]at c;have f:(M.map λz=>decide (M.count z<=b.count z)).all id=unD w b t:=by
  rw[List.all_map];unfold unD;have p:=dI (aM t w)
  grind
 generalize (M.map λz=>decide (M.count z<=b.count z))=bs at c f;have g:=Ap bs;rw[f]at g;change kW a _=R.ok (Slot.val (.tup (ak M))) _ at d;generalize ak M=MM at d c;clear_value M;simp![qb,yaK,d,cy,bp,fV,c,g]
end
section
variable{a:Ad}
theorem HM(b:Bool)(c d:List Tx):Pu.eqT b (.tup (ak c)) (.tup (ak d))=aa (.bl (b^^decide (c=d))):=by show(if kt (.tup (ak c))<=8 then(iF (ak c) (ak d)).map (λk=>PV.bl (b^^k))else ac)=_;rw[if_pos (by show jE (ak c)+1<=8;rw[EO];decide),Ey];rfl
end
end Sh
namespace Mx
open L2 Pu
noncomputable def nD(z:Tx)(i:Nat):Nat:=z.getD (i % z.length) 0
noncomputable def NZ(z:Tx)(w:Nat):Tx:=((bz w z).flatten).take (z.length+w-1)
theorem len_sub{l m:List Tx}(a:l.Nodup)(h:∀x∈l,x∈m):l.length<=m.length:=by
 induction l generalizing m with
 |nil=>simp
 |cons x l b=>
  rw[ik]at a;have d:x∈m:=h x (by simp);have:=b (m:=m.erase x) a.2 λy c=>(List.mem_erase_of_ne (λz=>a.1 ⋯)).mpr (h y (by simp[c]))
  grind
end Mx
namespace Sh
open L2 Pu Mx
section
variable{a:Ad}
noncomputable def eP(t:Tx)(v:Nat):List Tx:=(cu (t.length+1-v)).map λi=>(t.drop i).take v
noncomputable def rW(b c:Nat):List Nat:=List.range' b (c-b)
noncomputable def part(t:Tx)(i j:Nat):Tx:=(t.drop i).take (j-i)
noncomputable def nD(b:List Tx)(i:Nat):Tx:=b.getD i []
noncomputable def Rt(t:Tx)(s e g l:Nat):Tx:=t.take s++part t g l++part t e g++part t s e++t.drop l
noncomputable def RE(t:Tx)(b:List Tx)(s g e:Nat):List Tx:=(rW (g+1) b.length).flatMap λl=>if nD b e=nD b l then [Rt t s e g l] else []
noncomputable def Of(t:Tx)(b:List Tx)(s g:Nat):List Tx:=(rW (s+1) (g+1)).flatMap λe=>RE t b s g e
theorem A6(h:c ε=.ok xs ε1)(d:d9 i db xs ε1=.ok .next b):dJ i c db ε=.ok .next b:=by unfold dJ;rw[h];trivial
theorem Tr(h:f d=.ok xs c)(j:d9 i g xs c=.ok .next b):(λd=>cm (dJ i f g d)) d=.ok .next b:=by show cm _=_;rw[A6 h j];rfl
theorem ET{d2:ad aG}{xs:List PV}(h:c ε=.ok xs ε1)(f:d9 i d xs ε1=.ok .next b):aC (λε=>cm (dJ i c d ε)) d2 ε=d2 b :=bW (d1:=λε=>cm (dJ i c d ε)) (Tr h f)
noncomputable def Lr(t:Tx)(b:List Tx)(s:Nat):List Tx:=(rW (s+1) b.length).flatMap λg=>if nD b s=nD b g then Of t b s g else []
noncomputable def QG(t:Tx)(b:List Tx):List Tx:=(rW 0 b.length).flatMap λs=>Lr t b s
theorem Fx(h:ε[i]?=aa (.val v)):dV i ε=.ok v ε:=by unfold dV;rw[h]
theorem xh(h:d f=.ok x c)(j:g c=.ok i b):gV d g f=.ok (.inl x::i) b:=by unfold gV;simp_all
theorem N_:Pu.bG b=.ok [] b:=rfl
theorem PN{d1 d2:ad d}(h:c ε=.ok ai b):bI c d1 d2 ε=d1 b:=by unfold bI;rw[h];rfl
theorem P7{d1 d2:ad d}(h:c ε=.ok am b):bI c d1 d2 ε=d2 b:=by unfold bI;rw[h];rfl
theorem z_(h:d ε=.ok (.bl b) c):dB d ε=.ok b c:=by unfold dB;rw[h];rfl
noncomputable def Kt(t:Tx)(m w:Nat):List Tx:=(rW 1 m).map λp=>NZ ((t.take m).drop p++(t.take m).take p) w
noncomputable def ON(t:Tx)(b:List Tx)(w:Nat):List Tx:=if nD b 0=nD b (b.length-1)then Kt t (b.length-1) w else []
noncomputable def MU(t:Tx)(w:Nat):List Tx:=QG t (eP t (w-1))++ON t (eP t (w-1)) w
noncomputable def Mn(t:Tx)(m:Nat):List Tx:=(rW 1 m).map λp=>part (bz 3 (t.take m)).flatten p (p+t.length)
noncomputable def pL(t:Tx)(b:List Tx):List Tx:=if nD b 0=nD b (b.length-1)then Mn t (b.length-1)else []
theorem uR(h:t d=.ok ai ε1)(f:c ε1=.ok .next b):eO t c (n+1) d=eO t c n b:=by rw[eO,h,R.bind_ok];simp only;rw[f]
theorem yt(h:t b=.ok am ε1):eO t c (n+1) b=.ok .next ε1:=by rw[eO,h,R.bind_ok]
end
end Sh
namespace Mx
open L2 Pu
theorem k_(a:1<=w):(aM z w).length=z.length+1-w:=by rw[kr z w a];simp
noncomputable def RC(t:Tx)(w:Nat):List Tx:=(eY t.length).filter λz=>(aM z w).isPerm (aM t w)
end Mx
namespace Sh
open L2 Pu Mx
noncomputable abbrev gr(t:Tx)(v i:Nat):Tx:=(t.drop i).take v
theorem FA:(gr t (v+1) i).take v=gr t v i:=by
 grind
theorem Gh:(gr t (v+1) i).tail=gr t v (i+1):=by
 unfold gr;refine za λk=>?_;rw[List.getElem?_tail,List.getElem?_take,List.getElem?_take,CW,CW];by_cases h:k<v
 .rw[if_pos ∅,if_pos h];congr 1;lia
 .rw[if_neg ⋯,if_neg h]
theorem U3:x∈aM t (v+1)↔∃i,i+v<t.length/\x=gr t (v+1) i:=by
 rw[kr _ _ (by simp),b8]
 grind
theorem Iu:∀(k:Nat) (t:Tx) (i:Nat),((List.range' i k).map λj=>if gr t v j=y then 1 else 0).sum+(if gr t v (i+k)=y then 1 else 0)=((List.range' i k).map λj=>if gr t v (j+1)=y then 1 else 0).sum+(if gr t v i=y then 1 else 0)
 |0,t,i=>by rfl
 |k+1,t,i=>by have a:=Iu (v:=v) (y:=y) k t (i+1);rw[List.range'_succ,cn,cn,iK,iK,show i+(k+1)=i+1+k by lia];lia
end Sh
namespace Mx
open L2 Pu
theorem Fa(w:Nat):∀(s r t:Tx),nw w t (s++r)=nw w t s++nw w (t++s) r
 |[],r,t=>by simp[nw]
 |c::s,r,t=>by rw[vZ,nw,nw,Fa w s r (t++[c]),vZ,fZ];rfl
end Mx
namespace Sh
open L2 Pu Mx
section
variable{v:Nat}
noncomputable def oc(v:Nat)(M:List Tx)(y:Tx):Nat:=(M.map λx=>if x.take v=y then 1 else 0).sum
noncomputable def ic(M:List Tx)(y:Tx):Nat:=(M.map λx=>if x.tail=y then 1 else 0).sum
theorem AK(M N:List Tx)(y:Tx):oc v (M++N) y=oc v M y+oc v N y:=by simp[oc]
theorem BB(M N:List Tx)(y:Tx):ic (M++N) y=ic M y+ic N y:=by simp[ic]
theorem zE{M:List Tx}(h:M.Perm N)(y:Tx):oc v M y=oc v N y:=(h.map _).sum_nat
theorem zJ{M:List Tx}(h:M.Perm N)(y:Tx):ic M y=ic N y:=(h.map _).sum_nat
theorem UZ:0<oc v M y↔∃x∈M,x.take v=y:=by
 unfold oc
 induction M with
 |nil=>simp
 |cons a M b=>grind
theorem Vi:0<ic M y↔∃x∈M,x.tail=y:=by
 unfold ic
 induction M with
 |nil=>simp
 |cons a M b=>grind
noncomputable abbrev en(v:Nat)(t:Tx):Tx:=t.drop (t.length-v)
noncomputable abbrev b2(p:Prop)[Decidable p]:Nat:=if p then 1 else 0
theorem Mq:gr t v (t.length-v)=en v t:=by unfold gr en;exact mn (by simp;lia)
theorem AZ{t:Tx}(h:v<=t.length)(y:Tx):oc v (aM t (v+1)) y+b2 (en v t=y)=ic (aM t (v+1)) y+b2 (t.take v=y):=by
 have:=Iu (v:=v) (y:=y) (t.length-v) t 0;rw[nZ,Mq]at this;unfold oc ic b2;rw[kr _ _ (by simp),cU,cU,show t.length+1-(v+1)=t.length-v by simp,List.range_eq_range'];have b:∀j,((λx:Tx=>if x.take v=y then 1 else 0) ∘ λi=>(t.drop i).take (v+1)) j=if gr t v j=y then 1 else 0:=λj=>by
  grind
 have a:∀j,((λx:Tx=>if x.tail=y then 1 else 0) ∘ λi=>(t.drop i).take (v+1)) j=if gr t v (j+1)=y then 1 else 0:=λj=>by show(if(gr t (v+1) j).tail=_ then 1 else 0)=_;rw[Gh]
 rw[jm λj _=>b j,jm λj _=>a j];trivial
theorem Eb{t:Tx}(h:v<=t.length)(c:Nat):aM (t++[c]) (v+1)=aM t (v+1)++[en v t++[c]]:=by rw[HC (by simp),if_pos ∅];congr 2;rw[show t.length+1-(v+1)=t.length-v by simp,UD (by simp)];exact mn (by simp;simp_all)
theorem zB(g:∀x∈M,x.length=v+1):∀(n:Nat) (t:Tx) (R:List Tx),R.length=n->v<=t.length->(aM t (v+1)++R).Perm M -> ∃a d,a.take v=t.take v/\v<=a.length/\(aM a (v+1)++d).Perm M/\∀x∈d,x.take v≠en v a
 |0,t,R,hn,ht,hp=>⟨t,R,rfl,ht,hp,λx b=>⋯⟩
 |n+1,t,R,hn,ht,hp=>by
  by_cases q:∃x∈R,x.take v=en v t
  .obtain⟨x,b,e⟩:=q;have i:x.length=v+1:=g x (hp.mem_iff.mp (i6 _ b));have f:x=en v t++[x.getLastD 0]:=by
    have h:x=x.take v++x.drop v:=(o7 v x).symm;have m:∃c,x.drop v=[c]:=JU.mp (by grind);obtain⟨c,j⟩:=m;rw[j]at h;have l:x.getLastD 0=c:=by rw[h];simp
    rw[l,<-e];trivial
   have o:(aM (t++[x.getLastD 0]) (v+1)++R.erase x).Perm M:=by rw[Eb ht,<-f,fZ];exact(Jt _ (qJ b).symm).trans hp
   obtain⟨a,d,u,s,r,p⟩:=zB g n (t++[x.getLastD 0]) (R.erase x) (by grind) (by simp;lia) o;exact⟨a,d,by rw[u,List.take_append_of_le_length ht],s,r,p⟩
  .exact⟨t,R,rfl,ht,hp,λx b e=>q ⟨x,b,e⟩⟩
theorem Im(h:∀x∈M,x.length=v+1)(c:∀y,oc v M y=ic M y){p:Tx}(s:p.length=v):∃t R,t.take v=p/\v<=t.length/\(aM t (v+1)++R).Perm M/\en v t=p/\(∀x∈R,x.take v≠p)/\∀y,oc v R y=ic R y:=by
 have l:aM p (v+1)=[]:=qI.mp (by rw[k_ (by simp)];simp_all);obtain⟨t,R,f,d,a,r⟩:=zB h M.length p M rfl ⋯ (by rw[l];rfl);rw[show p.take v=p from mn ∅]at f;have u:oc v R (en v t)=0:=by
  rcases tT (oc v R (en v t))with q|q
  .exact q
  .obtain⟨x,j,i⟩:=UZ.mp q;exact absurd i (r x j)
 have b:=AZ d (en v t);have o:=zE (v:=v) a (en v t);have n:=zJ a (en v t);have w:=c (en v t);rw[AK]at o;rw[BB]at n;rw[f]at b;unfold b2 at b;rw[if_pos rfl]at b;have g:p=en v t:=by lia
 refine⟨t,R,f,d,a,g.symm,by rw[g];trivial,λy=>?_⟩;have d1:=AZ d y;have d2:=zE (v:=v) a y;have m:=zJ a y;rw[AK]at d2;rw[BB]at m
 grind
theorem PZ{t c:Tx}(E:i+v<=t.length)(F:v<=c.length)(C:c.take v=gr t v i)(B:en v c=gr t v i):∃g,g.take v=t.take v/\v<=g.length/\en v g=en v t/\(aM g (v+1)).Perm (aM t (v+1)++aM c (v+1)):=by
 let T1:=t.take (i+v)
 let T2:=t.drop (i+v)
 have A:t=T1++T2:=(o7 _ _).symm;have w:T1.length=i+v:=by simp[T1];simp_all
 have l:T1=t.take i++gr t v i:=by show t.take (i+v)=_;rw[List.take_add]
 have d:(gr t v i).length=v:=by grind
 let s:=c.drop v
 have o:c=gr t v i++s:=by rw[<-C];exact(o7 _ _).symm
 have m:∀(a b:Tx),(a++gr t v i).length=a.length+v->aM (a++gr t v i++b) (v+1)=aM (a++gr t v i) (v+1)++nw (v+1) (gr t v i) b:=by
  intro a b _;have j:∀(n:Nat) (b:Tx),b.length=n->aM (a++gr t v i++b) (v+1)=aM (a++gr t v i) (v+1)++nw (v+1) (gr t v i) b:=by
   intro n
   induction n with
   |zero=>intro b h;rw[qI.mp h];simp[nw]
   |succ n z=>
    intro b h;obtain⟨f,x,rfl⟩:∃f x,b=f++[x]:=⟨b.dropLast,b.getLast (by grind),(List.dropLast_concat_getLast _).symm⟩
    rw[<-fZ,Eb (by simp[d];lia),z f (by simp at h;omega),Fa,fZ];congr 2;simp only[nw];congr 2;have e:(a++gr t v i++f).length-v=a.length+((gr t v i++f).length+1-(v+1)):=by simp[d];lia
    unfold en;rw[e,fZ,List.drop_append];simp
  exact j b.length b rfl
 have u:aM t (v+1)=aM T1 (v+1)++nw (v+1) (gr t v i) T2:=by have:=m (t.take i) T2 (by simp[d]);rw[<-l]at this;rw[<-this,<-A]
 have r:aM (T1++s) (v+1)=aM T1 (v+1)++nw (v+1) (gr t v i) s:=by have:=m (t.take i) s (by simp[d]);rw[<-l]at this;trivial
 have q:aM c (v+1)=nw (v+1) (gr t v i) s:=by
  conv=>lhs;rw[o]
  exact zZ (by simp) (by trivial)
 have D:T1++s=t.take i++c.take (c.length-v)++gr t v i:=by rw[l,fZ,<-o,fZ,<-B];simp
 have p:aM (T1++s++T2) (v+1)=aM (T1++s) (v+1)++nw (v+1) (gr t v i) T2:=by
  grind
 refine⟨T1++s++T2,?_,by simp[w];lia,?_,?_⟩
 .grind
 .have y:∀a:Tx,en v (a++(gr t v i++T2))=en v (gr t v i++T2):=λa=>by
   unfold en;rw[List.drop_append,JQ (by simp[d];lia),gM];congr 1;simp[d];lia
  grind
 .rw[p,r,u,q,fZ,fZ];exact Jt _ Dp
noncomputable def xx(v:Nat)(M:List Tx):Prop:=∀V:Tx->Prop,(∃x∈M,V (x.take v))->(∀x∈M,V (x.take v)\/V x.tail->V (x.take v)/\V x.tail)->∀x∈M,V (x.take v)
end
inductive WN(w:Nat):Nat->Tx->Tx->Prop
 |here (n:Nat) (t:Tx):WN w n t t
 |on {n:Nat}{t u z:Tx}:WN w n t u->z∈MU u w->WN w (n+1) t z
noncomputable def Full(w:Nat)(t:Tx)(k:Nat):Prop:=∀z∈RC t w,WN w k t z
theorem Bp{c g:Type}(b:c->g->aj)(f:c->Tx->c)(P:c->Prop):∀(xs:List Tx) (a:c) (s:g),P a -> (∀x∈xs,∀a s,P a->P (f a x)/\∃d,db ((b a s).set i (↥x))=.ok .next (b (f a x) d))->∃d,d9 i db (ak xs) (b a s)=.ok .next (b (xs.foldl f a) d)/\P (xs.foldl f a)
 |[],a,s,h,_=>⟨s,rfl,h⟩
 |x::xs,a,s,h,step=>by obtain⟨o,l,p⟩:=step x (by simp) a s h;obtain⟨j,q,n⟩:=Bp b f P xs (f a x) l o λy m=>step y (by simp[m]);refine⟨j,?_,n⟩;show d9 i db (.str x::ak xs) _=_;rw[d9,p];trivial
noncomputable abbrev ks(m:List (Tx×Int)):List Tx:=m.map (·.1)
theorem Pa(m:List (Tx×Int))(z:Tx):(m.any λp=>decide (p.1=z))=decide (z∈ks m):=by
 grind
theorem BE(m:List (Tx×Int))(z:Tx):(bL m z).isSome=decide (z∈ks m):=by
 rw[<-Pa];cases h:m.any λp=>decide (p.1=z)with
 |false=>rw[xa h];rfl
 |true=>obtain⟨n,e⟩:=IE h;rw[e];rfl
theorem LB(a:(ks m).Nodup):bL m z=aa n↔(z,n)∈m:=by
 induction m with
 |nil=>simp[bL]
 |cons p m b=>
  change ((p::m).map (·.1)).Nodup at a;rw[cn,ik]at a;unfold bL at b ⊢
  grind
theorem Qj(m:List (Tx×Int)):(dk m).length=m.length:=by simp[dk]
theorem EL(j:de c=.ok (.int n) b)(l:db b=.ok (.str z) a)(d:∃x,cW b i=aa x)(g:cW a i=aa (dk m))(h:m.length<bw):fq i db de c=.ok .next (a.set i (.own (.dK (dk (cQ m z n))))):=by unfold fq;obtain⟨x,f⟩:=d;rw[j,R.bind_ok,f];simp only[ci,R.bind_ok];rw[l,R.bind_ok,g];simp only[ci,R.bind_ok];show(aD (aa (Sum.inr (tS z))) a).bind _=_;simp only[ci,R.bind_ok];rw[Qj,if_pos h,xr]
noncomputable def cO(ks:List Tx):List (aI×PV):=ks.map λx=>(Sum.inr (tS x),PV.bl ai)
noncomputable def ff(ks:List Tx)(x:Tx):List Tx:=if x∈ks then ks else ks++[x]
theorem Ve{ks:List Tx}:z∈ff ks x↔z∈ks\/z=x:=by
 unfold ff
 grind
theorem Fj{ks:List Tx}(h:ks.Nodup):(ff ks x).Nodup:=by
 unfold ff
 grind
theorem ya{ks:List Tx}:ks.length<=(ff ks x).length/\(x∉ks->ks.length<(ff ks x).length):=by
 unfold ff;by_cases c:x∈ks
 .rw[if_pos c];exact⟨bc _,λq=>absurd c q⟩
 .rw[if_neg c];simp
theorem Fl(ks:List Tx)(x:Tx):((cO ks).any λa=>decide (a.1=(Sum.inr (tS x):aI)))=decide (x∈ks):=by
 unfold cO;rw[List.any_map,vC,Dm,decide_eq_true_eq];constructor
 .rintro⟨z,c,b⟩;have:=of_decide_eq_true b;rw[<-uI (Sum.inr.inj this)];trivial
 lia
theorem Sd(ks:List Tx)(x:Tx):oy (cO ks) (Sum.inr (tS x)) (.bl ai)=cO (ff ks x):=by
 unfold oy ff;rw[Fl];by_cases c:x∈ks
 .rw[decide_eq_true c,if_pos rfl,if_pos c];unfold cO;simp
 .rw[decide_eq_false c,if_neg (by simp),if_neg c];unfold cO;simp
theorem OT(ks:List Tx)(x:Tx):(jx (cO ks) (Sum.inr (tS x))).isSome=decide (x∈ks):=by rw[<-Fl];unfold jx;rw[CF,List.isSome_find?]
theorem xu(ks:List Tx):(cO ks).length=ks.length:=by simp[cO]
theorem Az{z:Tx}{ks:List Tx}(c:db ε=.ok (.str z) a)(b:cW a i=aa (cO ks)):fO neg i db ε=.ok (.bl (neg^^decide (z∈ks))) a:=by unfold fO;rw[c,R.bind_ok,b];simp only[ci,R.bind_ok];show aD (aa (PV.bl (neg^^(jx (cO ks) (.inr (tS z))).isSome))) a=_;rw[OT];rfl
theorem Ec{z:Tx}{ks:List Tx}(h:de ε=.ok (.bl ai) b)(j:db b=.ok (.str z) a)(c:∃x,cW b i=aa x)(f:cW a i=aa (cO ks))(g:ks.length<bw):fq i db de ε=.ok .next (a.set i (.own (.dK (cO (ff ks z))))):=by unfold fq;obtain⟨x,d⟩:=c;rw[h,R.bind_ok,d];simp only[ci,R.bind_ok];rw[j,R.bind_ok,f];simp only[ci,R.bind_ok];show(aD (aa (Sum.inr (tS z))) a).bind _=_;simp only[ci,R.bind_ok];rw[xu,if_pos g,Sd]
noncomputable def rS(ks:List Tx)(x:Tx):List Tx:=if x.dropLast∈ks\/x.tail∈ks then ff (ff ks x.dropLast) x.tail else ks
theorem OJ{ks:List Tx}(h:z∈ks):z∈rS ks x:=by
 unfold rS;split
 .exact Ve.mpr (.inl (Ve.mpr (.inl h)))
 trivial
theorem GZ:∀(a:List Tx) {ks:List Tx}{z:Tx},z∈ks->z∈a.foldl rS ks
 |[],_,_,h=>h
 |x::a,_,_,h=>GZ a (OJ h)
theorem D8{ks:List Tx}(h:ks.Nodup):(rS ks x).Nodup:=by
 unfold rS;split
 .exact Fj (Fj h)
 trivial
theorem D3:∀(a:List Tx) {ks:List Tx},ks.Nodup->(a.foldl rS ks).Nodup
 |[],_,h=>h
 |x::a,_,h=>D3 a (D8 h)
theorem A3(ks:List Tx)(x:Tx):ks.length<=(rS ks x).length:=by
 unfold rS;split
 .exact bT ya.1 ya.1
 simp
theorem ul:∀(a ks:List Tx),ks.length<=(a.foldl rS ks).length
 |[],ks=>bc _
 |x::a,ks=>bT (A3 ks x) (ul a (rS ks x))
theorem yr:∀(a ks:List Tx),(a.foldl rS ks).length=ks.length->∀x∈a,x.dropLast∈ks\/x.tail∈ks->x.dropLast∈ks/\x.tail∈ks
 |[],_,_,x,b=>by simp at b
 |y::a,ks,h,x,b=>by
  rw[lD]at h;have n:=A3 ks y;have m:=ul a (rS ks y);have d:(rS ks y).length=ks.length:=∅
  have same:rS ks y=ks/\(y.dropLast∈ks\/y.tail∈ks->y.dropLast∈ks/\y.tail∈ks):=by
   unfold rS at d ⊢;by_cases c:y.dropLast∈ks\/y.tail∈ks
   .rw[if_pos c]at d ⊢;have l:=ya (ks:=ks) (x:=y.dropLast);have j:=ya (ks:=ff ks y.dropLast) (x:=y.tail);have g:y.dropLast∈ks:=JV λq=>by lia
    have i:ff ks y.dropLast=ks:=by unfold ff;rw[if_pos g]
    rw[i]at j d ⊢;have f:y.tail∈ks:=JV λq=>⋯
    exact⟨by unfold ff;rw[if_pos f],λ_=>⟨g,f⟩⟩
   simp_all
  rcases bQ.mp b with rfl|b
  .exact same.2
  .rw[same.1]at h;exact yr a ks h x b
theorem EB{V:Tx->Prop}:∀(b ks:List Tx),(∀x∈b,V x.dropLast\/V x.tail->V x.dropLast/\V x.tail)->(∀z∈ks,V z)->∀z∈b.foldl rS ks,V z
 |[],_,_,h,z,d=>h z d
 |x::b,ks,g,h,z,d=>by
  refine EB b (rS ks x) (λy a=>g y (by simp[a])) (λy a=>?_) z d;unfold rS at a;split at a
  .rename_i c;have f:=g x (by simp) (c.imp (h _) (h _));rcases Ve.mp a with a|rfl
   .rcases Ve.mp a with a|rfl
    .exact h y a
    .exact f.1
   .exact f.2
  .exact h y a
theorem zI:∀(a ks:List Tx),(a.foldl rS ks).length=ks.length->a.foldl rS ks=ks
 |[],_,_=>rfl
 |y::a,ks,h=>by
  rw[lD]at h ⊢;have l:=A3 ks y;have j:=ul a (rS ks y);have e:rS ks y=ks:=by
   have i:(rS ks y).length=ks.length:=∅
   have b:=yr [y] ks i y (by simp);unfold rS;by_cases c:y.dropLast∈ks\/y.tail∈ks
   .obtain⟨g,f⟩:=b c;have d:ff ks y.dropLast=ks:=by unfold ff;rw[if_pos g]
    rw[if_pos c,d];unfold ff;rw[if_pos f]
   .rw[if_neg c]
  rw[e]at h ⊢;exact zI a ks h
noncomputable def fQ(a:List Tx):List Tx:=a.map mw++a.map List.tail
theorem IN{ks:List Tx}(h:∀z∈ks,z∈fQ b)(c:x∈b):∀z∈rS ks x,z∈fQ b:=λz a=>by
 unfold rS at a;split at a
 .rcases Ve.mp a with a|rfl
  .rcases Ve.mp a with a|rfl
   .exact h z a
   .exact yO _ (b8.mpr ⟨x,c,rfl⟩)
  .exact i6 _ (b8.mpr ⟨x,c,rfl⟩)
 .exact h z a
structure Rch(ls ks:List Tx):Prop where
 nd:ks.Nodup
 sub:∀z∈ks,z∈fQ ls
 start:∀x r,ls=x::r->x.dropLast∈ks
 least:∀V:Tx->Prop,(∀x∈ls,V x.dropLast\/V x.tail->V x.dropLast/\V x.tail)->(∀x r,ls=x::r->V x.dropLast)->∀z∈ks,V z
theorem Rch.few{ks:List Tx}(h:Rch a ks):ks.length<=2*a.length:=by
 have:=len_sub h.nd h.sub;unfold fQ at this
 grind
theorem Rch.next{ks:List Tx}(h:Rch a ks):Rch a (a.foldl rS ks):=by
 refine⟨D3 a h.nd,?_,λx r e=>GZ a (h.start x r e),λV d i=>EB a ks d (h.least V d i)⟩;have b:∀(l:List Tx) (ks:List Tx),(∀x∈l,x∈a)->(∀z∈ks,z∈fQ a)->∀z∈l.foldl rS ks,z∈fQ a:=by
  intro l
  induction l with
  |nil=>exact λks _ h=>h
  |cons x l f=>exact λks c h=>f (rS ks x) (λy g=>c y (by simp[g])) (IN h (c x (by simp)))
 exact b a ks (λ_ h=>h) h.sub
section
theorem yE(x:Tx):bY (.str x) ac (aa (-1))=aa (.str x.dropLast):=by show aa (PV.str (dS x ac (aa (-1))))=_;rw[GN]
theorem Ek(x:Tx):bY (.str x) (aa 1) ac=aa (.str x.tail):=by show aa (PV.str (dS x (aa ((1:Nat):Int)) ac))=_;rw[AV,List.drop_one]
noncomputable def uQ:ad PV:=bN bY (dV 3) (bS) (bJ (d1 dO (dC (.int 1))))
noncomputable def uv:ad PV:=bN bY (dV 3) (bJ (dC (.int 1))) (bS)
noncomputable def rI:ad aG:=bI (jO (dB (fO am 1 uQ)) (dB (fO am 1 uv))) (aC (fq 1 uQ (dC (.bl ai))) (fq 1 uv (dC (.bl ai)))) (cH)
noncomputable def rC:ad Bool:=dB (d2 (cP λi j=>decide (i<j)) (dV 2) (nr 1))
noncomputable def rB:ad aG:=aC (bE 2 (nr 1)) (dJ 3 (bp (dV 0)) rI)
theorem SC:yaP a=aC (cR 1 (ur (bN bY (d2 bB (dV 0) (dC (.int 0))) (bS) (bJ (d1 dO (dC (.int 1))))) (dC (.bl ai)))) (aC (bE 2 (dC (.int 0))) (aC (λb=>cm (eO rC rB 1000 b)) (kn 1))):=rfl
noncomputable def dA(W:PV)(ks:List Tx)(n:Nat)(b:Slot):aj:=[.val W,.own (.dK (cO ks)),⇑n,b]
theorem HV(W:PV)(ks:List Tx)(n:Nat)(x:Tx):uQ (dA W ks n (↥x))=.ok (.str x.dropLast) (dA W ks n (↥x)):=by have h:=yE x;have b:dO (.int 1)=aa (.int (-1)):=rfl;simp[uQ,dA,bN,bS,bJ,dV,d1,dC,R.bind,aD,b,oK,h]
theorem GC(W:PV)(ks:List Tx)(n:Nat)(x:Tx):uv (dA W ks n (↥x))=.ok (.str x.tail) (dA W ks n (↥x)):=by have h:=Ek x;simp[uv,dA,bN,bS,bJ,dV,dC,R.bind,aD,oK,h]
theorem IR(W:PV)(b:List Tx)(s:b.length<=100)(q:fV W=aa (ak b))(ks:List Tx)(h:Rch b ks)(n:Nat)(d:Slot):∃j,dJ 3 (bp (dV 0)) rI (dA W ks n d)=.ok .next (dA W (b.foldl rS ks) n j):=by
 obtain⟨j,e,_⟩:=Bp (i:=3) (db:=rI) (λks d=>dA W ks n d) rS (λks=>ks.Nodup/\∀z∈ks,z∈fQ b) b ks d ⟨h.nd,h.sub⟩
  (by
   rintro x p ks d ⟨g,l⟩;refine⟨⟨D8 g,IN l p⟩,↥x,?_⟩;have r:ks.length<=200:=by
    have:=len_sub g l;unfold fQ at this
    grind
   have m:=z_ (Az (neg:=am) (i:=1) (HV W ks n x) rfl);have o:=z_ (Az (neg:=am) (i:=1) (GC W ks n x) rfl);rw[Dc]at m o;have f:jO (dB (fO am 1 uQ)) (dB (fO am 1 uv)) (dA W ks n (↥x))=.ok (decide (x.dropLast∈ks\/x.tail∈ks)) (dA W ks n (↥x)):=by unfold jO;rw[m,R.bind_ok];lia
   show rI (dA W ks n (↥x))=_;unfold rI rS;by_cases c:x.dropLast∈ks\/x.tail∈ks
   .rw[decide_eq_true c]at f;rw[if_pos c];refine(PN f).trans ?_;have g:=Ec (i:=1) (de:=dC (.bl ai)) (ε:=dA W ks n (↥x)) rfl (HV W ks n x) ⟨_,rfl⟩ rfl (by unfold bw;lia);refine(bW g).trans ?_;have t:(ff ks x.dropLast).length<=ks.length+1:=by unfold ff;split <;> simp
    exact Ec (i:=1) (de:=dC (.bl ai)) (ε:=dA W (ff ks x.dropLast) n (↥x)) rfl (GC W (ff ks x.dropLast) n x) ⟨_,rfl⟩ rfl (by unfold bw;lia)
   .rw[decide_eq_false c]at f;rw[if_neg c];exact(P7 f).trans rfl)
 refine⟨j,A6 ?_ e⟩;unfold bp;rw[Fx (v:=W) rfl,R.bind_ok,q];rfl
theorem xc(W:PV)(ks:List Tx)(n:Nat)(b:Slot):rC (dA W ks n b)=.ok (decide (n<ks.length)) (dA W ks n b):=by
 have d:nr 1 (dA W ks n b)=.ok (.int (ks.length:Nat)) (dA W ks n b):=by show R.ok (PV.int ((cO ks).length:Nat)) _=_;rw[xu]
 have c:decide ((n:Int)<(ks.length:Nat))=decide (n<ks.length):=by simp
 refine z_ (jf (x:=.int n) (Fx rfl) d ?_);show aa (PV.bl (decide ((n:Int)<(ks.length:Nat))))=_;rw[c]
theorem Q7(W:PV)(b:List Tx)(u:b.length<=100)(v:fV W=aa (ak b)):∀(j:Nat) (ks:List Tx) (n l:Nat) (g:Slot),2*b.length<=ks.length+j->j+2<=l->n<ks.length->Rch b ks -> ∃d r i,Rch b d/\(∀x∈b,x.dropLast∈d\/x.tail∈d->x.dropLast∈d/\x.tail∈d)/\eO rC rB l (dA W ks n g)=.ok .next (dA W d r i):=by
 intro j
 induction j with
 |zero=>
  intro ks n l g F E s h;obtain⟨f,rfl⟩:∃f,l=f+1+1:=⟨l-2,∅⟩
  obtain⟨i,e⟩:=IR W b u v ks h ks.length g;have H:=h.few;have G:=h.next.few;have C:=ul b ks;have p:=zI b ks ∅;have t:=yr b ks (by rw[p]);rw[p]at e;have c:=xc W ks n g;rw[decide_eq_true s]at c;have m:rB (dA W ks n g)=.ok .next (dA W ks ks.length i):=by
   unfold rB;have k:bE 2 (nr 1) (dA W ks n g)=.ok .next (dA W ks ks.length g):=by refine oM (x:=.int (ks.length:Nat)) (ε1:=dA W ks n g) ?_;show R.ok (PV.int ((cO ks).length:Nat)) _=_;rw[xu]
   exact(bW k).trans e
  have o:=xc W ks ks.length i;rw[decide_eq_false (lr _)]at o;exact⟨ks,ks.length,i,h,t,(uR c m).trans (yt o)⟩
 |succ j D=>
  intro ks n l g F E s h;obtain⟨f,rfl⟩:∃f,l=f+1:=⟨l-1,∅⟩
  obtain⟨i,e⟩:=IR W b u v ks h ks.length g;have C:=ul b ks;have c:=xc W ks n g;rw[decide_eq_true s]at c;have m:rB (dA W ks n g)=.ok .next (dA W (b.foldl rS ks) ks.length i):=by
   unfold rB;have k:bE 2 (nr 1) (dA W ks n g)=.ok .next (dA W ks ks.length g):=by refine oM (x:=.int (ks.length:Nat)) (ε1:=dA W ks n g) ?_;show R.ok (PV.int ((cO ks).length:Nat)) _=_;rw[xu]
   exact(bW k).trans e
  by_cases q:(b.foldl rS ks).length=ks.length
  .have p:=zI b ks q;have t:=yr b ks q;rw[p]at m;obtain⟨w,rfl⟩:∃w,f=w+1:=⟨f-1,∅⟩
   have o:=xc W ks ks.length i;rw[decide_eq_false (lr _)]at o;exact⟨ks,ks.length,i,h,t,(uR c m).trans (yt o)⟩
  .obtain⟨d,r,y,B,A,z⟩:=D (b.foldl rS ks) ks.length f i ∅ ∅ ∅ h.next;exact⟨d,r,y,B,A,(uR c m).trans z⟩
theorem S6(W:PV)(x:Tx)(r:List Tx)(v:r.length<=50)(s:fV W=aa (ak (x::r)))(d:bB W (.int 0)=aa (.str x)):∃ks,Rch (x::r) ks/\(∀y∈x::r,y.dropLast∈ks\/y.tail∈ks->y.dropLast∈ks/\y.tail∈ks)/\u5 a [.val W]=.ok (.own (.dK (cO ks))) [.val W]:=by
 have t:Rch (x::r) [x.dropLast]:=⟨by simp,λz b=>by simp at b;rw[b];simp[fQ],λy q e=>by cases e;simp,λV _ u z b=>⋯⟩
 obtain⟨ks,n,g,i,h,o⟩:=Q7 W (x::r) (by simp;lia) s (2*(x::r).length) [x.dropLast] 0 1000 .none (by simp) (by simp;lia) (by simp) t;refine⟨ks,i,h,?_⟩;have j:=yE x;have p:dO (.int 1)=aa (.int (-1)):=rfl;have m:cR 1 (ur (bN bY (d2 bB (dV 0) (dC (.int 0))) (bS) (bJ (d1 dO (dC (.int 1))))) (dC (.bl ai))) [.val W,.none,.none,.none]=.ok .next [.val W,.own (.dK (cO [x.dropLast])),.none,.none]:=by simp[cR,ur,bN,bS,bJ,d2,d1,dV,dC,R.bind,aD,d,p,oK,j,iU,cO]
 have l:bE 2 (dC (.int 0)) [.val W,.own (.dK (cO [x.dropLast])),.none,.none]=.ok .next (dA W [x.dropLast] 0 .none):=rfl;have c:yaP a [.val W,.none,.none,.none]=.ok (.ret (.own (.dK (cO ks)))) [.val W,.none,⇑n,g]:=by rw[SC];refine(bW m).trans ?_;refine(bW l).trans ?_;refine(bW (d1:=λf=>cm (eO rC rB 1000 f)) (by show cm _=_;rw[o];rfl)).trans ?_;rfl
 unfold u5;generalize yaP a=D at c;generalize cO ks=A at c;simp[bo,fP,bn,bz,c,back,aD,R.bind,gf]
end
noncomputable def lf(m:List (Tx×Int))(x:Tx):List (Tx×Int):=cQ (cQ m x.dropLast ((bL m x.dropLast).getD 0+1)) x.tail ((bL (cQ m x.dropLast ((bL m x.dropLast).getD 0+1)) x.tail).getD 0-1)
noncomputable def b1(p:Prop)[Decidable p]:Int:=if p then 1 else 0
theorem QH(m:List (Tx×Int))(x y:Tx):(bL (lf m x) y).getD 0=(bL m y).getD 0+b1 (x.dropLast=y)-b1 (x.tail=y):=by
 unfold lf b1;rw[mM,mM,mM];by_cases b:y=x.tail
 .subst b;by_cases a:x.tail=x.dropLast
  .rw[if_pos rfl,if_pos a,if_pos a.symm,if_pos rfl,a];rfl
  .rw[if_pos rfl,if_neg a,if_neg (dQ a),if_pos rfl];simp
 .rw[if_neg b,if_neg (dQ b)];by_cases a:y=x.dropLast
  .subst a;simp
  .rw[if_neg a,if_neg (dQ a)];simp
theorem FL(m:List (Tx×Int))(x y:Tx):y∈ks (lf m x)↔y∈ks m\/y=x.dropLast\/y=x.tail:=by
 have k:∀(m:List (Tx×Int)) (z:Tx),z∈ks m↔(bL m z).isSome=ai:=λm z=>by rw[BE,decide_eq_true_eq]
 rw[k,k];unfold lf;generalize (bL (cQ m x.dropLast ((bL m x.dropLast).getD 0+1)) x.tail).getD 0-1=n1;generalize (bL m x.dropLast).getD 0+1=n2;rw[mM,mM]
 grind
noncomputable def iR(a:List Tx):List (Tx×Int):=a.foldl lf []
noncomputable def exc(ls:List Tx)(y:Tx):Int:=(ls.map λx=>b1 (x.dropLast=y)-b1 (x.tail=y)).sum
theorem Gq:∀(a:List Tx) (m:List (Tx×Int)) (y:Tx),(bL (a.foldl lf m) y).getD 0=(bL m y).getD 0+exc a y
 |[],m,y=>by simp[exc]
 |x::a,m,y=>by rw[lD,Gq a,QH];simp only[exc,cn,iK];lia
theorem Sz(a:List Tx)(y:Tx):(bL (iR a) y).getD 0=exc a y:=by unfold iR;rw[Gq];show 0+_=_;simp
theorem Ht:∀(a:List Tx) (m:List (Tx×Int)) (y:Tx),y∈ks (a.foldl lf m)↔y∈ks m\/y∈fQ a
 |[],m,y=>by simp[fQ]
 |x::a,m,y=>by rw[lD,Ht a,FL];simp only[fQ,cn,lu,bQ];lia
theorem Ee(a:List Tx)(y:Tx):y∈ks (iR a)↔y∈fQ a:=by unfold iR;rw[Ht];simp
theorem FX:∀(a:List Tx) (m:List (Tx×Int)),(ks m).Nodup->(ks (a.foldl lf m)).Nodup
 |[],_,h=>h
 |x::a,m,h=>FX a _ (pI (pI h))
theorem HK(a:List Tx):(ks (iR a)).Nodup:=FX a [] (by simp)
section
noncomputable def vk:ad PV:=bN bY (dV 2) (bS) (bJ (d1 dO (dC (.int 1))))
noncomputable def sP:ad PV:=bN bY (dV 2) (bJ (dC (.int 1))) (bS)
noncomputable def xB:ad aG:=aC (fq 1 vk (d2 bq (iG 1 vk (dC (.int 0))) (dC (.int 1)))) (fq 1 sP (d2 fA (iG 1 sP (dC (.int 0))) (dC (.int 1))))
theorem Pm:yas a=aC (cR 1 (r9)) (aC (λb=>cm (dJ 2 (bp (dV 0)) xB b)) (kn 1)):=rfl
noncomputable def iz(W:PV)(m:List (Tx×Int))(s:Slot):aj:=[.val W,.own (.dK (dk m)),s]
theorem ER(W:PV)(m:List (Tx×Int))(x:Tx):vk (iz W m (↥x))=.ok (.str x.dropLast) (iz W m (↥x)):=by have h:=yE x;have b:dO (.int 1)=aa (.int (-1)):=rfl;simp[vk,iz,bN,bS,bJ,dV,d1,dC,R.bind,aD,b,oK,h]
theorem Ix(W:PV)(m:List (Tx×Int))(x:Tx):sP (iz W m (↥x))=.ok (.str x.tail) (iz W m (↥x)):=by have h:=Ek x;simp[sP,iz,bN,bS,bJ,dV,dC,R.bind,aD,oK,h]
theorem D4(d:db b=.ok (.str z) b)(c:cW b i=aa (dk m)):iG i db (dC (.int n)) b=.ok (.int ((bL m z).getD n)) b:=by unfold iG;rw[c];simp only[ci,R.bind_ok];rw[d,R.bind_ok];show((R.ok (PV.int n) b).bind _)=_;rw[R.bind_ok,c];simp only[ci,R.bind_ok];show aD (aa ((jx (dk m) (.inr (tS z))).getD (.int n))) b=_;rw[uo];simp
theorem SJ(W:PV)(b:List Tx)(I:b.length<=100)(J:fV W=aa (ak b)):w_ a [.val W]=.ok (.own (.dK (dk (iR b)))) [.val W]:=by
 obtain⟨d,e,_⟩:=Bp (i:=2) (db:=xB) (λm s=>iz W m s) lf (λm=>(ks m).Nodup/\∀z∈ks m,z∈fQ b) b [] .none ⟨by simp,by simp⟩
  (by
   rintro x E m s ⟨g,p⟩;have u:(ks (lf m x)).Nodup:=pI (pI g);have w:x.dropLast∈fQ b:=by unfold fQ;grind
   have F:x.tail∈fQ b:=by unfold fQ;grind
   refine⟨⟨u,λz j=>?_⟩,↥x,?_⟩
   .rcases(FL m x z).mp j with h|h|h
    all_goals grind
   .have few:∀{q:List (Tx×Int)},(ks q).Nodup->(∀z∈ks q,z∈fQ b)->q.length<=200:=λ{q} n s=>by
     have:=len_sub n s;unfold fQ at this
     grind
    have H:=few g p;have L:(1000:Nat)<=bw:=by decide
    have B:=D4 (i:=1) (n:=0) (ER W m x) rfl;have e1:d2 bq (iG 1 vk (dC (.int 0))) (dC (.int 1)) (iz W m (↥x))=.ok (.int ((bL m x.dropLast).getD 0+1)) (iz W m (↥x)):=by unfold d2;rw[B,R.bind_ok];rfl
    have o:=EL (i:=1) e1 (ER W m x) ⟨_,rfl⟩ rfl (m:=m) ∅;generalize f:cQ m x.dropLast ((bL m x.dropLast).getD 0+1)=q at o;have t:(ks q).Nodup:=by rw[<-f];exact pI g
    have r:∀z∈ks q,z∈fQ b:=λz j=>by
     have:(bL q z).isSome=ai:=by rw[BE];exact decide_eq_true j
     rw[<-f,mM]at this;by_cases c:z=x.dropLast
     .rw[c];exact w
     .rw[if_neg c,BE,decide_eq_true_eq]at this;exact p z this
    have G:=few t r;have y:=D4 (i:=1) (n:=0) (Ix W q x) rfl;have C:d2 fA (iG 1 sP (dC (.int 0))) (dC (.int 1)) (iz W q (↥x))=.ok (.int ((bL q x.tail).getD 0-1)) (iz W q (↥x)):=by unfold d2;rw[y,R.bind_ok];rfl
    have d:=EL (i:=1) C (Ix W q x) ⟨_,rfl⟩ rfl (m:=q) ∅;show xB (iz W m (↥x))=_;unfold xB;refine(bW o).trans ?_;refine Eq.trans (show fq 1 sP _ _=_ from d) ?_;unfold lf;rw[f];rfl)
 have l:yas a [.val W,.none,.none]=.ok (.ret (.own (.dK (dk (iR b))))) [.val W,.none,d]:=by
  rw[Pm];refine(bW (show cR 1 r9 [.val W,.none,.none]=.ok .next (iz W [] .none)from rfl)).trans ?_;have v:dJ 2 (bp (dV 0)) xB (iz W [] .none)=.ok .next (iz W (iR b) d):=by
   unfold dJ;have:bp (dV 0) (iz W [] .none)=.ok (ak b) (iz W [] .none):=by unfold bp;show(R.ok W _).bind _=_;simp_all
   rw[this,R.bind_ok];exact e
  refine(bW (d1:=λε=>cm (dJ 2 (bp (dV 0)) xB ε)) (by show cm _=_;rw[v];rfl)).trans ?_;rfl
 unfold w_;generalize yas a=D at l;generalize dk (iR b)=A at l;simp[bo,fP,bn,bz,l,back,aD,R.bind,gf]
end
theorem Pb{a:aj}(h:a[i]?=aa s):a.set i s=a:=by
 apply za;intro j;by_cases b:i=j
 .subst b;rw[ie (c_.mp h).1,h]
 .rw[eE b]
theorem IC{b:Type}{d:ad b}{ε:aj}{i:Nat}{a:PO}{r:b}(c:ε[i]?=aa (.own a))(f:d [.val x,.own a]=.ok r [.val x,.own a]):cL (fR [i] d x ε)=.ok r ε:=by simp[fR,gz,c,cL,R.bind,aD,cg,c8,f,dY,eF,eT,Pb c]
section
variable{a:Ad}
noncomputable def LI:ad PV:=bN bY (dV 1) (bS) (bJ (d1 dO (dC (.int 1))))
noncomputable def f2(a:Ad):ad aG:=bE 2 (dF (cy [1] (bp (dF (TM 1))) (dB (d2 (cP λi j=>decide (j<i)) (nv 1 (dV 0)) (dC (.int 0)))) (dV 0)))
noncomputable def f3:ad aG:=bI (dB (d2 (cP λi j=>decide (j<i)) (dL bu (aw (dV 2) (az))) (dC (.int 1)))) (bV (dL b9 (aw (dC (.str [116,119,111])) (aw (d2 bB (dV 2) (dC (.int 0))) (aw (d2 bB (dV 2) (dC (.int 1))) (az)))))) (cH)
noncomputable def f4:ad aG:=bI (ou (dB (d2 (eqT am) (dL bu (aw (dV 2) (az))) (dC (.int 1)))) (dB (d2 (cP λi j=>decide (j<i)) (nv 1 (d2 bB (dV 2) (dC (.int 0)))) (dC (.int 1))))) (bV (dL b9 (aw (dC (.str [109,111,114,101])) (aw (d2 bB (dV 2) (dC (.int 0))) (az))))) (cH)
noncomputable def f6:ad aG:=bE 4 (dF (Qw [3] (OP (aw (dV 0) (az))) (dB (fO am 2 LI)) (dV 0)))
noncomputable def f7:ad aG:=bI (dB (d2 (cP λi j=>decide (i<j)) (dL bu (aw (dV 4) (az))) (dL bu (aw (dV 0) (az))))) (bV (dL b9 (aw (dC (.str [97,112,97,114,116])) (aw (dL gY (aw (dV 4) (az))) (az))))) (cH)
theorem Kf(f:ε[0]?=aa (.val W))(d:G [.val W]=.ok (.own b) [.val W])(c:i<ε.length):cR i (kZ (aL G (gV (dV 0) (Pu.bG)))) ε=.ok .next (ε.set i (.own b)):=by simp[cR,kZ,aL,gV,Pu.bG,dV,f,R.bind,aD,cg,c8,d,dY,eF,eT,Bi,c]
theorem QL(y:Tx)(r:List Tx):bB (.lst (ak (y::r))) (.int 0)=aa (.str y):=by show gb (.str y::ak r) 0=_;rw[yb (by simp) (by simp)];rfl
end
theorem Fk:∀{ls:List Tx},(∀y∈ls,y.length=v+1)->∀y,exc ls y=(oc v ls y:Int)-(ic ls y:Int)
 |[],_,y=>rfl
 |x::ls,h,y=>by
  have a:=Fk (λz b=>h z (by simp[b])) (ls:=ls) y;have c:x.take v=x.dropLast:=by rw[JS,h x (by simp)];rfl
  have e:exc (x::ls) y=b1 (x.dropLast=y)-b1 (x.tail=y)+exc ls y:=by rfl
  rw[e,a];unfold oc ic b1
  grind
section
variable{v:Nat}
noncomputable def covW(v:Nat)(a:List Tx):List Tx:=a.flatMap λt=>aM t (v+1)
structure Cov(v:Nat)(ts M:List Tx):Prop where
 long:∀t∈ts,v<t.length
 perm:(covW v ts).Perm M
theorem covW_cons(t:Tx)(a:List Tx):covW v (t::a)=aM t (v+1)++covW v a:=rfl
theorem covW_app(b a:List Tx):covW v (b++a)=covW v b++covW v a:=by unfold covW;simp
theorem grow_many(T:∀x∈M,x.length=v+1)(G:xx v M):∀(n:Nat) (a R:List Tx),R.length<=n->a≠[]->(∀t∈a,v<t.length)->(covW v a++R).Perm M->(∀y,oc v R y=ic R y)->∃f,f.length=a.length/\Cov v f M:=by
 intro n
 induction n with
 |zero=>intro a R Q _ g d _;rw[qI.mp (show R.length=0 by lia),gJ]at d;exact⟨a,rfl,g,d⟩
 |succ n N=>
  intro a R Q ce g d r;by_cases J:R=[]
  .rw[J,gJ]at d;exact⟨a,rfl,g,d⟩
  .obtain⟨H,l⟩:=JW R J;obtain⟨C,m⟩:=JW a ce;have E:∀t∈a,∀x∈aM t (v+1),x∈M:=λt g x b=>d.mem_iff.mp (yO _ (jJ.mpr ⟨t,g,b⟩));have h:∃t∈a,∃i,i+v<=t.length/\∃x∈R,x.take v=gr t v i\/x.tail=gr t v i:=by
    refine JV λno=>?_;have D:∀t∈a,∀i,i+v<=t.length->∀x∈R,¬(x.take v=gr t v i\/x.tail=gr t v i):=λt g i o x b q=>no ⟨t,g,i,o,x,b,q⟩;have:=G (λy=>∃t∈a,∃i,i+v<=t.length/\gr t v i=y)
     ⟨gr C (v+1) 0,E C m _ (U3.mpr ⟨0,⋯,rfl⟩),C,m,0,by grind,by rw[FA]⟩
     (λx b q=>by
      rcases lu.mp (d.mem_iff.mpr b)with b|b
      .obtain⟨t,w,W⟩:=jJ.mp b;obtain⟨j,hj,rfl⟩:=U3.mp W;exact⟨⟨t,w,j,∅,by rw[FA]⟩,⟨t,w,j+1,∅,by rw[Gh]⟩⟩
      grind)
     H (d.mem_iff.mp (i6 _ l))
    obtain⟨t,w,i,o,e⟩:=this;exact D t w i o H l (.inl e.symm)
   obtain⟨t,I,i,o,x,b,P⟩:=h;have DL:0<oc v R (gr t v i):=by
    rcases P with q|q
    .exact UZ.mpr ⟨x,b,q⟩
    .rw[r];exact Vi.mpr ⟨x,b,q⟩
   have F:∀x∈R,x.length=v+1:=λx b=>T x (d.mem_iff.mp (i6 _ b));obtain⟨c,R2,c1,c2,A,c4,c5,c6⟩:=Im F r (p:=gr t v i) (by grind);have DH:R2.length<R.length:=by
    have S:=A.length_eq;rw[ef]at S;rcases tT (aM c (v+1)).length with z|z
    .rw[qI.mp z,gM]at A;obtain⟨y,O,e⟩:=UZ.mp DL;exact absurd e (c5 y (A.mem_iff.mpr O))
    .lia
   obtain⟨s,d1,d2,d3,L⟩:=PZ o c2 c1 c4;obtain⟨B,bs,rfl⟩:=List.append_of_mem I;have bg:v<s.length:=by have:=L.length_eq;have h0:=g t I;rw[ef,k_ (by simp),k_ (by simp)]at this;lia
   have cY:(covW v (B++s::bs)++R2).Perm M:=by
    refine v4.trans ?_ d;rw[covW_app,covW_app,covW_cons,covW_cons];have e1:(covW v B++(aM s (v+1)++covW v bs)++R2).Perm (covW v B++(aM t (v+1)++aM c (v+1)++covW v bs)++R2):=((L.append_right _).append_left _).append_right _;refine e1.trans ?_;have Z:(aM c (v+1)++(covW v bs++R2)).Perm (covW v bs++R):=by refine v4.trans ?_ (A.append_left (covW v bs));rw[<-fZ,<-fZ];exact List.perm_append_comm.append_right _
    simp only[fZ];exact(Z.append_left _).append_left _
   obtain⟨f,Y,X⟩:=N (B++s::bs) R2 ∅ (by simp) (λu hu=>by
    grind) cY c6
   exact⟨f,by rw[Y];simp,X⟩
noncomputable def pS(v:Nat)(K M:List Tx):Nat:=(K.map λy=>oc v M y-ic M y).sum
theorem sum_one{K:List Tx}(a:K.Nodup)(i:s∈K)(d:f s=g s+1)(c:∀y∈K,y≠s->f y=g y):(K.map f).sum=(K.map g).sum+1:=by
 induction K with
 |nil=>trivial
 |cons x K h=>
  rw[ik]at a;rw[cn,cn,iK,iK];by_cases e:s=x
  .subst e;rw[d,jm λy b=>c y (by simp[b]) λz=>a.1 (z ▸ b)];lia
  grind
theorem sum_pos{K:List Tx}(h:0<(K.map f).sum):∃y∈K,0<f y:=by
 induction K with
 |nil=>simp at h
 |cons x K a=>grind
theorem sum_zero{K:List Tx}(h:(K.map f).sum=0):∀y∈K,f y=0:=λy b=>by
 induction K with
 |nil=>trivial
 |cons x K a=>grind
theorem sum_le{K:List Tx}{g:Tx->Nat}(h:∀y∈K,f y<=g y):(K.map f).sum<=(K.map g).sum/\((K.map f).sum=(K.map g).sum->∀y∈K,f y=g y):=by
 induction K with
 |nil=>simp
 |cons x K a=>grind
theorem sum_addN{K:List Tx}(f g:Tx->Nat):(K.map λy=>f y+g y).sum=(K.map f).sum+(K.map g).sum:=by
 induction K with
 |nil=>rfl
 |cons x K a=>grind
theorem one_sumN{K:List Tx}(a:K.Nodup)(s:Tx):(K.map λy=>b2 (s=y)).sum=if s∈K then 1 else 0:=by
 induction K with
 |nil=>rfl
 |cons x K b=>
  rw[ik]at a;rw[cn,iK,b a.2];by_cases e:s=x
  .subst e;rw[if_neg a.1];simp
  .simp[b2,e]
theorem zsum:∀K:List Tx,(K.map λ_=>0).sum=0
 |[]=>rfl
 |x::K=>by rw[cn,iK,zsum K]
theorem oc_sum{K:List Tx}(a:K.Nodup):∀{M:List Tx},(∀x∈M,x.take v∈K)->(K.map (oc v M)).sum=M.length
 |[],_=>by exact zsum K
 |x::M,h=>by
  have b:=oc_sum a (M:=M) λy c=>h y (by simp[c]);have e:(K.map (oc v (x::M)))=K.map λy=>b2 (x.take v=y)+oc v M y:=jm λy _=>by rfl
  rw[e,sum_addN,one_sumN a,if_pos (h x (by simp)),b,cI];lia
theorem ic_sum{K:List Tx}(a:K.Nodup):∀{M:List Tx},(∀x∈M,x.tail∈K)->(K.map (ic M)).sum=M.length
 |[],_=>by exact zsum K
 |x::M,h=>by
  have b:=ic_sum a (M:=M) λy c=>h y (by simp[c]);have e:(K.map (ic (x::M)))=K.map λy=>b2 (x.tail=y)+ic M y:=jm λy _=>by rfl
  rw[e,sum_addN,one_sumN a,if_pos (h x (by simp)),b,cI];lia
theorem bal_of{K M:List Tx}(d:K.Nodup)(c:∀x∈M,x.take v∈K/\x.tail∈K)(h:pS v K M=0)(y:Tx):oc v M y=ic M y:=by
 by_cases b:y∈K
 .have l:=sum_zero h;have:=(sum_le (K:=K) (f:=oc v M) (g:=ic M) λy b=>by grind).2 (by rw[oc_sum d λx a=>(c x a).1,ic_sum d λx a=>(c x a).2]);exact this y b
 .have j:oc v M y=0:=by
   rcases tT (oc v M y)with z|z
   .exact z
   .obtain⟨x,a,e⟩:=UZ.mp z;exact absurd (e ▸ (c x a).1) b
  have i:ic M y=0:=by
   rcases tT (ic M y)with z|z
   .exact z
   .obtain⟨x,a,e⟩:=Vi.mp z
    grind
  rw[j,i]
theorem trails{K:List Tx}(d:K.Nodup):∀(p:Nat) (M:List Tx),(∀x∈M,x.length=v+1)->(∀x∈M,x.take v∈K/\x.tail∈K)->pS v K M=p -> ∃a R,a.length=p/\(∀t∈a,v<t.length)/\(covW v a++R).Perm M/\∀y,oc v R y=ic R y
 |0,M,hM,hK,h=>⟨[],M,rfl,(λt S=>by trivial),.refl _,bal_of d hK h⟩
 |p+1,M,hM,hK,h=>by
  obtain⟨s,n,DL⟩:=sum_pos (K:=K) (f:=λy=>oc v M y-ic M y) (by have:(K.map λy=>oc v M y-ic M y).sum=p+1:=h;simp_all);obtain⟨N,m,X⟩:=UZ.mp (show 0<oc v M s by omega);have O:s.length=v:=by grind
  have w:aM s (v+1)=[]:=qI.mp (by rw[k_ (by simp)];simp_all);obtain⟨t,R,j,I,c,H⟩:=zB hM M.length s M rfl ⋯ (by rw[w];rfl);rw[show s.take v=s from mn ∅]at j;have L:oc v R (en v t)=0:=by
   rcases tT (oc v R (en v t))with q|q
   .exact q
   .obtain⟨x,r,o⟩:=UZ.mp q;exact absurd o (H x r)
  have A:∀y,oc v M y+b2 (en v t=y)+ic R y=ic M y+b2 (s=y)+oc v R y:=λy=>by have Y:=AZ I y;have D:=zE (v:=v) c y;have C:=zJ c y;rw[AK]at D;rw[BB]at C;lia
  have B:en v t≠s:=λe=>by
   grind
  have Z:v<t.length:=by
   rcases Nat.lt_or_ge v t.length with z|z
   .exact z
   .exfalso;refine B ?_;have:t.length=v:=∅
    rw[<-j];show t.drop (t.length-v)=t.take v;rw[this,C5,vJ,mn ∅]
  have i:∀x∈R,x∈M:=λx b=>c.mem_iff.mp (i6 _ b);have l:pS v K R=p:=by
   have:=sum_one d (f:=λy=>oc v M y-ic M y) (g:=λy=>oc v R y-ic R y) n (by
    grind) (λy P T=>by
    grind)
   have W:(K.map λy=>oc v M y-ic M y).sum=p+1:=h;show(K.map λy=>oc v R y-ic R y).sum=p;simp_all
  obtain⟨a,J,b1,G,F,E⟩:=trails d p R (λx b=>hM x (i x b)) (λx b=>hK x (i x b)) l;refine⟨t::a,J,by simp[b1],λu Q=>?_,?_,E⟩
  .grind
  .rw[covW_cons,fZ];exact(F.append_left _).trans c
theorem cov_few{K:List Tx}(f:K.Nodup)(c:∀x∈M,x.length=v+1)(h:∀x∈M,x.take v∈K/\x.tail∈K)(b:xx v M)(n:M≠[]):∃a,a.length=max 1 (pS v K M)/\Cov v a M:=by
 cases g:pS v K M with
 |zero=>
  have d:=bal_of f h g;obtain⟨x,w⟩:=JW M n;obtain⟨t,R,D,C,s,B,A,r⟩:=Im c d (p:=x.take v) ⋯;have y:v<t.length:=by
   rcases Nat.lt_or_ge v t.length with z|z
   .exact z
   .exfalso;have:aM t (v+1)=[]:=qI.mp (by rw[k_ (by simp)];simp_all)
    grind
  obtain⟨a,m,i⟩:=grow_many c b R.length [t] R (bc _) (by simp) (λu l=>by rw[jo.mp l];trivial) (by rw[covW_cons];simpa[covW]using s) r;exact⟨a,by trivial,i⟩
 |succ p=>
  obtain⟨a,R,b1,b2,q,o⟩:=trails f (p+1) M c h g;obtain⟨j,m,i⟩:=grow_many c b R.length a R (bc _) (by rintro rfl;trivial) b2 q o
  grind
structure Min(v:Nat)(M:List Tx)(k:Nat):Prop where
 ex:∃ts,ts.length=k/\Cov v ts M
theorem min_conn{K:List Tx}(b:K.Nodup)(c:∀x∈M,x.length=v+1)(d:∀x∈M,x.take v∈K/\x.tail∈K)(a:xx v M)(f:M≠[]):Min v M (max 1 (pS v K M)):=⟨cov_few b c d a f⟩
theorem min_nil:Min v [] 0:=⟨⟨[],rfl,(λt a=>by cases a),.refl _⟩⟩
theorem min_parts{M:List Tx}(g:Min v (M.filter q) k)(f:Min v (M.filter λx=>!q x) j):Min v M (k+j):=by
 obtain⟨c,h,a⟩:=g.ex;obtain⟨b,b1,b2⟩:=f.ex;refine⟨c++b,by simp[h,b1],λt d=>?_,?_⟩
 .rcases lu.mp d with z|z
  .exact a.long t z
  .exact b2.long t z
 .rw[covW_app];exact(a.perm.append b2.perm).trans (JX _ _)
theorem Min.le(h:Min v M k):k<=M.length:=by
 obtain⟨a,rfl,c⟩:=h.ex;rw[<-c.perm.length_eq];have:=c.long;clear c h
 induction a with
 |nil=>simp
 |cons t a b=>have g:=b λu d=>this u (fE _ d);have f:=this t (by simp);rw[covW_cons,ef,k_ ∅,cI];lia
end
theorem drop_take{x:Tx}(h:x.length=v+1):x.dropLast=x.take v:=by rw[JS,h];rfl
theorem conn_part{ks:List Tx}(n:∀y∈x::r,y.length=v+1)(h:Rch (x::r) ks)(p:∀y∈x::r,y.dropLast∈ks\/y.tail∈ks->y.dropLast∈ks/\y.tail∈ks):xx v ((x::r).filter λy=>decide (y.take v∈ks)):=by
 have f:∀y∈x::r,y.take v=y.dropLast:=λy a=>(drop_take (n y a)).symm;have g:∀y,y∈((x::r).filter λy=>decide (y.take v∈ks))↔y∈x::r/\y.dropLast∈ks:=λy=>by
  grind
 intro V ⟨y,a,m⟩ j z l;have d:=(g y).mp a;have b:=(g z).mp l;rw[f y d.1]at m;rw[f z b.1];have s:∀y∈x::r,y.dropLast∈ks->V y.dropLast\/V y.tail->V y.dropLast/\V y.tail:=λy i o q=>by have:=j y ((g y).mpr ⟨i,o⟩);rw[f y i]at this;exact this q
 by_cases c:V x.dropLast
 .exact h.least (λq=>q∈ks->V q) (λy a q=>by
   grind) (λ_ _ e=>by lia) _ b.2 b.2
 .have:=h.least (λq=>q∈ks->¬V q) (λy a q=>by
   grind) (λ_ _ e=>⋯) _ d.2 d.2
  lia
section
variable{a:Ad}
theorem vals_dk:∀m:List (Tx×Int),ol (dk m)=aa (m.map (·.2))
 |[]=>rfl
 | (x,n)::m=>by show(ol (dk m)).map (n::·)=_;rw[vals_dk m];rfl
theorem dk_exc(b:List Tx):(iR b).map (·.2)=(ks (iR b)).map (exc b):=by
 have c:=HK b;have d:∀y,(bL (iR b) y).getD 0=exc b y:=Sz b;generalize iR b=m at c d;have:∀p∈m,p.2=exc b p.1:=λp f=>by rw[<-d];obtain⟨k,n⟩:=p;have:=(LB c).mpr f;rw[this];rfl
 show _=(m.map (·.1)).map _;rw[cU];exact jm this
theorem pos_sum(K:List Tx)(f g:Tx->Nat):(((K.map λy=>(f y:Int)-(g y:Int)).filter λn=>decide (0<n))).sum=((K.map λy=>f y-g y).sum:Nat):=by
 induction K with
 |nil=>rfl
 |cons y K b=>grind
theorem ints_dP(l:List Int):sw.intsQ (l.map .int)=aa l:=by
 induction l with
 |nil=>rfl
 |cons i l b=>show(sw.intsQ (l.map .int)).map (i::·)=_;rw[b];rfl
noncomputable def fewK(b:List Tx):List Tx:=ks (iR b)
theorem few_ret(f:ol m=aa is)(b:sw [.lst ((is.filter λn=>decide (0<n)).map .int)]=aa (.int s))(c:sC [.int 1,.int s]=aa r):(bV (dL sC (aw (dC (.int 1)) (aw (dL sw (aw (dF (pN 1)) (az))) (az))))) [.val W,.own (.dK m)]=.ok (.ret (.val r)) [.val W,.own (.dK m)]:=by
 have d:pN 1 [.val W,.own (.dK m)]=.ok (.lst ((is.filter λn=>decide (0<n)).map .int)) [.val W,.own (.dK m)]:=by unfold pN;show(aD (aa m) _).bind _=_;simp_all
 generalize ((is.filter λn=>decide (0<n)).map PV.int)=LL at b d;generalize PV.int s=SS at b c;generalize PV.int 1=C1 at c ⊢;generalize pN 1=DP at d;simp![d,b,c]
theorem grd_ret11(h:d [.val b,.none]=.ok (.ret c) [.val b,e1])(f:(match c with|.own o=>gf o|_=>ai)=ai):bo 1 [] (bn 1 d) [.val b]=.ok c [.val b]:=by simp[bo,fP,bn,bz,h,back,aD,R.bind]
theorem fewest_for_eq(b:List Tx)(h:∀y∈b,y.length=v+1)(c:b.length<=100):yG a [.val (.lst (ak b))]=.ok (⇑((max 1 (pS v (fewK b) b):Nat):Int)) [.val (.lst (ak b))]:=by
 have d:=SJ (a:=a) (.lst (ak b)) b c rfl;have f:sw [.lst ((((iR b).map (·.2)).filter λn=>decide (0<n)).map .int)]=aa (.int ((pS v (fewK b) b:Nat):Int)):=by show(sw.intsQ _).map _=_;rw[ints_dP];show aa (PV.int _)=_;rw[dk_exc,jm λy _=>Fk h y,pos_sum];rfl
 have g:sC [.int 1,.int ((pS v (fewK b) b:Nat):Int)]=aa (.int ((max 1 (pS v (fewK b) b):Nat):Int)):=by
  show aa (PV.int (if((pS v (fewK b) b:Nat):Int) > 1 then _ else _))=_
  grind
 refine grd_ret11 (e1:=.own (.dK (dk (iR b)))) ?_ rfl;unfold yat;refine(bW (Kf (i:=1) (ε:=[.val (.lst (ak b)),.none]) rfl d (by simp))).trans ?_;exact few_ret (vals_dk _) f g
noncomputable def ftC:ad Bool:=(dB (d2 (cP λi j=>decide (j<i)) (dL bu (aw (dV 1) (az))) (dC (.int 0))))
noncomputable def ftB(a:Ad):ad aG:=(aC (cR 3 (kZ (aL (u5 a) (gV (dV 1) (Pu.bG))))) (aC (bE 2 (d2 bq (dV 2) (a9 (aL (yG a) (gV (dF (cy [3] (bp (dV 1)) (dB (fO am 1 (bN bY (dV 0) (bS) (bJ (d1 dO (dC (.int 1))))))) (dV 0))) (Pu.bG)))))) (bE 1 (dF (cy [3] (bp (dV 1)) (dB (fO ai 1 (bN bY (dV 0) (bS) (bJ (d1 dO (dC (.int 1))))))) (dV 0))))))
noncomputable def hdB(neg:Bool)(ks:List Tx):PV->Bool
 |.str y=>neg^^decide (y.dropLast∈ks)
 |_=>am
theorem hd_comp(neg:Bool)(W:PV)(b ks:List Tx)(j:fV W=aa (ak b))(V d:Slot):dF (cy [3] (bp (dV 1)) (dB (fO neg 1 (bN bY (dV 0) (bS) (bJ (d1 dO (dC (.int 1))))))) (dV 0)) [V,.val W,d,.own (.dK (cO ks))]=.ok (.lst (ak (b.filter λy=>neg^^decide (y.dropLast∈ks)))) [V,.val W,d,.own (.dK (cO ks))]:=by
 have c:=kR (cap:=[3]) (dt:=dB (fO neg 1 (bN bY (dV 0) (bS) (bJ (d1 dO (dC (.int 1))))))) (de:=dV 0) (ε:=[V,.val W,d,.own (.dK (cO ks))]) (hdB neg ks) (λx=>x) (ak b)
  (by
   intro x l;obtain⟨y,_,rfl⟩:=b8.mp l;refine⟨IC (i:=3) rfl ?_,λ_=>IC (i:=3) rfl rfl⟩;have p:bN bY (dV 0) (bS) (bJ (d1 dO (dC (.int 1)))) [↥y,.own (.dK (cO ks))]=.ok (.str y.dropLast) [↥y,.own (.dK (cO ks))]:=by have g:dO (.int 1)=aa (.int (-1)):=rfl;have f:=yE y;generalize y.dropLast=YD at f;generalize PV.int 1=C1 at g;simp![bN,bJ,bS,g,f]
   have o:=Az (neg:=neg) (i:=1) (ks:=ks) p rfl;unfold dB;rw[o];rfl) []
 have m:((ak b).filter (hdB neg ks)).map (λx=>x)=ak (b.filter λy=>neg^^decide (y.dropLast∈ks)):=by rw[List.map_id'];unfold ak;rw[tR];rfl
 rw[gM,m]at c;generalize ak (b.filter λy=>neg^^decide (y.dropLast∈ks))=FF at c;generalize (dB (fO neg 1 (bN bY (dV 0) (bS) (bJ (d1 dO (dC (.int 1)))))))=DT at c;generalize n:(dV 0:ad PV)=DE at c;generalize ak b=PL at c j;generalize cO ks=DK at c;have h:bp (dV 1) [V,.val W,d,.own (.dK DK)]=.ok PL [V,.val W,d,.own (.dK DK)]:=by simp[bp,dV,R.bind,aD,j]
 generalize bp (dV 1)=DI at h;simp[dF,cy,h,c,R.bind,kc,aD]
theorem ft_cond{n:Nat}(d:bu [W]=aa (.int n))(V c b:Slot):ftC [V,.val W,c,b]=.ok (decide (0<n)) [V,.val W,c,b]:=by have:decide ((0:Int)<(n:Nat))=decide (0<n):=decide_eq_decide.mpr (by simp);rw[<-this];generalize ((n:Nat):Int)=NN at d;simp![ftC,d]
theorem ft_while(V:Slot):∀(n:Nat) (d:List Tx) (W:PV) (c i:Nat) (g:Slot),d.length<=n->n<i->d.length<=20->(∀y∈d,y.length=v+1)->fV W=aa (ak d)->bu [W]=aa (.int (d.length:Nat))->(∀x r,d=x::r->bB W (.int 0)=aa (.str x)) -> ∃k L I,Min v d k/\eO ftC (ftB a) i [V,.val W,⇑c,g]=.ok .next [V,.val L,⇑((c+k:Nat):Int),I]:=by
 intro n
 induction n with
 |zero=>
  intro d W c i g N hf _ u z A _;obtain⟨f,rfl⟩:∃f,i=f+1:=⟨i-1,∅⟩
  have e:d=[]:=lF ⋯;subst e;refine⟨0,W,g,min_nil,?_⟩;have o:=ft_cond A V (⇑c) g;exact yt o
 |succ n X=>
  intro d W c i g N hf H u z A D;obtain⟨f,rfl⟩:∃f,i=f+1:=⟨i-1,∅⟩
  cases d with
  |nil=>refine⟨0,W,g,min_nil,?_⟩;have o:=ft_cond A V (⇑c) g;exact yt o
  |cons x r=>
   have o:=ft_cond A V (⇑c) g;rw[decide_eq_true (by simp)]at o;simp only[cI]at N H;obtain⟨ks,P,S,t⟩:=S6 (a:=a) W x r ∅ z (D x r rfl);have F:∀y∈x::r,y.dropLast=y.take v:=λy b=>drop_take (u y b);have eA:((x::r).filter λy=>am^^decide (y.dropLast∈ks))=(x::r).filter λy=>decide (y.take v∈ks):=Dq λy b=>by rw[F y b,Dc]
   have eB:((x::r).filter λy=>ai^^decide (y.dropLast∈ks))=(x::r).filter λy=>!decide (y.take v∈ks):=Dq λy b=>by rw[F y b,Bool.true_xor]
   have J:=conn_part u P S;have s:x∈(x::r).filter λy=>decide (y.take v∈ks):=jF.mpr ⟨by simp,decide_eq_true (by rw[<-F x (by simp)];exact P.start x r rfl)⟩;have m:∀y∈(x::r).filter (λy=>decide (y.take v∈ks)),y.length=v+1:=λy b=>u y (jF.mp b).1;have C:∀y∈(x::r).filter (λy=>!decide (y.take v∈ks)),y.length=v+1:=λy b=>u y (jF.mp b).1;have q:=(JX (λy:Tx=>decide (y.take v∈ks)) (x::r)).length_eq;rw[ef,cI]at q;have hA1:1<=((x::r).filter λy=>decide (y.take v∈ks)).length:=List.length_pos_of_mem s;have h:=fewest_for_eq (a:=a) ((x::r).filter λy=>decide (y.take v∈ks)) m ∅;have j:=min_conn (v:=v) (K:=fewK ((x::r).filter λy=>decide (y.take v∈ks))) (M:=(x::r).filter λy=>decide (y.take v∈ks)) (HK _) m (λy b=>by rw[<-drop_take (m y b)];unfold fewK;rw[Ee,Ee];exact⟨yO _ (b8.mpr ⟨y,b,rfl⟩),i6 _ (b8.mpr ⟨y,b,rfl⟩)⟩) J (List.ne_nil_of_mem s);generalize Z:max 1 (pS v (fewK ((x::r).filter λy=>decide (y.take v∈ks))) ((x::r).filter λy=>decide (y.take v∈ks)))=kA at h j;have O:kA<=20:=by have:=j.le;lia
   have p:=hd_comp am W (x::r) ks z V (⇑c);have Q:=hd_comp ai W (x::r) ks z V (⇑((c+kA:Nat):Int));rw[eA]at p;rw[eB]at Q;have w:bq (.int c) (.int kA)=aa (.int ((c+kA:Nat):Int)):=by rfl
   obtain⟨T,L,I,B,Y⟩:=X ((x::r).filter λy=>!decide (y.take v∈ks)) (.lst (ak ((x::r).filter λy=>!decide (y.take v∈ks)))) (c+kA) f (.own (.dK (cO ks))) ∅ ∅ ∅ C rfl (by show aa (PV.int _)=_;rw[fu]) (λy l e=>by rw[e];exact QL y l);refine⟨kA+T,L,I,min_parts j B,?_⟩;have hb:ftB a [V,.val W,⇑c,g]=.ok .next [V,.val (.lst (ak ((x::r).filter λy=>!decide (y.take v∈ks)))),⇑((c+kA:Nat):Int),.own (.dK (cO ks))]:=by
    unfold ftB;refine(bW (ε1:=[V,.val W,⇑c,.own (.dK (cO ks))]) ?_).trans ?_
    .generalize cO ks=DK at t;simp![t]
    refine(bW (ε1:=[V,.val W,⇑((c+kA:Nat):Int),.own (.dK (cO ks))]) ?_).trans ?_
    .generalize (dF (cy [3] (bp (dV 1)) (dB (fO am 1 (bN bY (dV 0) (bS) (bJ (d1 dO (dC (.int 1))))))) (dV 0)))=DA at p;generalize ak ((x::r).filter λy=>decide (y.take v∈ks))=PA at p h;generalize PV.int ((c+kA:Nat):Int)=CK at w;generalize PV.int kA=KA at w h;generalize PV.int c=CC at w p;generalize cO ks=DK at p;generalize G:dV 2=D2;have E:D2 [V,.val W,.val CC,.own (.dK DK)]=.ok CC [V,.val W,.val CC,.own (.dK DK)]:=by rw[<-G];rfl
     simp[bE,d2,E,a9,aL,gV,Pu.bG,p,h,w,R.bind,aD,dY,eT,cg,c8,eF,qe]
    .exact(oM Q).trans rfl
   rw[uR o hb,Y,Nat.add_assoc]
theorem fewest_texts_eq(g:Good cq w c)(n:1<=w)(m:w<=4)(p:c.Pairwise (λa b=>bO a b=ai)):∃k,Min (w-1) c k/\mU a [.val (a_ w c)]=.ok (⇑k) [.val (a_ w c)]:=by
 have i:mZ a [.val (a_ w c)]=.ok (.val .non) [.val (a_ w c)]:=ym (a:=a) (g.vw n m p);have t:=g.few;obtain⟨k,l,j,q,h⟩:=ft_while (a:=a) (v:=w-1) (.val (a_ w c)) c.length c (.tup (ak c)) 0 1000 .none (bc _) ∅ ∅ (λy o=>by rw[g.len y o];simp_all) rfl (by simp[bu,fu]) (λx r e=>by rw[e];show gb (.str x::ak r) 0=_;rw[yb (by simp) (by simp)];rfl);refine⟨k,q,?_⟩;rw[nZ]at h;have s:bB (a_ w c) (.int 1)=aa (.tup (ak c)):=rfl;have d:yau a [.val (a_ w c),.none,.none,.none]=.ok (.ret (⇑k)) [.val (a_ w c),.val l,⇑k,j]:=by show aC _ (aC _ (aC _ (aC (λf=>cm (eO ftC (ftB a) 1000 f)) (bV (dV 2))))) _=_;refine(bW (ε1:=[.val (a_ w c),.none,.none,.none]) (by generalize a_ w c=VV at i;simp![i])).trans ?_;refine(bW (ε1:=[.val (a_ w c),.val (.tup (ak c)),.none,.none]) (by rfl)).trans ?_;refine(bW (ε1:=[.val (a_ w c),.val (.tup (ak c)),⇑0,.none]) (by rfl)).trans ?_;refine(bW (d1:=λf=>cm (eO ftC (ftB a) 1000 f)) (ε1:=[.val (a_ w c),.val l,⇑k,j]) ?_).trans rfl;show cm (eO ftC (ftB a) 1000 [.val (a_ w c),.val (.tup (ak c)),⇑((0:Nat):Int),.none])=_;rw[h];rfl
 unfold mU;generalize yau a=DD at d ⊢;generalize a_ w c=VV at d ⊢;generalize PV.int k=KK at d ⊢;simp[bo,fP,bn,bz,d,back,gf,aD,R.bind]
end
end Sh
namespace Mx
open L2 Pu
noncomputable def ovD(a w:Tx):Nat->Nat
 |0=>0
 |k+1=>if w.take (k+1) <:+ a then k+1 else ovD a w k
noncomputable def ov(a w:Tx):Nat:=ovD a w (w.length-1)
theorem pick_sub:∀(m l:List Tx),(∀x,l.count x<=m.count x)->∃a:List Tx,a.Sublist m/\a.Perm l
 |[],l,h=>by
  have:l=[]:=by
   cases l with
   |nil=>rfl
   |cons x l=>have:=h x;simp at this
  simp_all
 |y::m,l,h=>by
  by_cases d:y∈l
  .obtain⟨a,c,b⟩:=pick_sub m (l.erase y) λx=>by
    grind
   exact⟨y::a,c.cons_cons y,(b.cons y).trans (qJ d).symm⟩
  .obtain⟨a,c,b⟩:=pick_sub m l λx=>by
    grind
   exact⟨a,c.cons y,b⟩
theorem Pw{d:List Tx}(f:1<=w)(g:1<=d.length)(h:∀x∈d,x.length=w/\∀c∈x,c∈cq):(dz w d).Pairwise (λa b=>bO a b=ai):=by rw[yn f g h];exact(Eo _).filter _
theorem Kk{d:List Tx}(f:1<=w)(h:1<=d.length)(i:∀x∈d,x.length=w/\∀c∈x,c∈cq)(g:d.Pairwise (λa b=>bO a b=ai))(l:∀c∈z,c∈cq):z∈dz w d↔aN (aM z w)=d:=by
 rw[yn f h i,jF,pQ,List.isPerm_iff];constructor
 .rintro⟨_,p⟩;rw[zT p,vc g]
 .intro e;have p:(aM z w).Perm d:=by rw[<-e];exact(dI _).symm
  have j:=p.length_eq;rw[k_ f]at j;lia
theorem KQ{a:List Tx}(b:1<=w)(d:1<=a.length)(f:∀x∈a,x.length=w/\∀c∈x,c∈cq)(h:z∈dz w a):z.length=w-1+a.length/\∀c∈z,c∈cq:=by rw[yn b d f,jF,pQ]at h;exact h.1
end Mx
namespace Sh
open L2 Pu Mx
section
theorem sortSetTP_eq{k:List Tx}(h:k.length<64):pW [.tup (ak k)]=aa (.lst (ak (aN (bK k)))):=by show(dZ (ak k)).bind _=_;rw[kb,eZ,if_pos];have:(bK k).length<=k.length:=(Ha k).length_le_of_subset λz b=>(kY _ _).mp b;lia
end
noncomputable def less(m l:List Tx):List Tx:=l.foldl List.erase m
theorem less_perm:∀(l m:List Tx),(∀x,l.count x<=m.count x)->(less m l++l).Perm m
 |[],m,_=>by rw[gJ];rfl
 |y::l,m,h=>by
  have b:y∈m:=by
   have:=h y
   grind
  have a:=less_perm l (m.erase y) λx=>by
   grind
  exact(JG.trans (a.cons y)).trans (qJ b).symm
noncomputable def wayS(x:Tx)(p:DrK):List DrK:=[(p.1++[x],p.2),(p.1,p.2++[x])]
noncomputable def waysT:List Tx->List DrK->List DrK
 |[],W=>W
 |x::l,W=>waysT l (W.flatMap (wayS x))
structure Wyp(ls:List Tx)(p:DrK):Prop where
 ne:p.1≠[]
 s1:p.1.Sublist ls
 s2:p.2.Sublist ls
 perm:(p.1++p.2).Perm ls
theorem Wyp.step(h:Wyp a p)(x:Tx):∀q∈wayS x p,Wyp (a++[x]) q:=λq b=>by
 simp only[wayS,bQ,jI,or_false]at b;rcases b with rfl|rfl
 .exact⟨by simp,h.s1.append (zj _),h.s2.trans (List.sublist_append_left _ _),by show(p.1++[x]++p.2).Perm _;rw[fZ];exact((Dp (l₁:=[x]) (l₂:=p.2)).append_left p.1).trans (by rw[<-fZ];exact h.perm.append_right _)⟩
 .exact⟨h.ne,h.s1.trans (List.sublist_append_left _ _),h.s2.append (zj _),by show(p.1++(p.2++[x])).Perm _;rw[<-fZ];exact h.perm.append_right _⟩
theorem ways_all:∀(l a:List Tx) (W:List DrK),(∀p∈W,Wyp a p)->∀p∈waysT l W,Wyp (a++l) p
 |[],a,W,h,p,c=>by rw[gJ];exact h p c
 |x::l,a,W,h,p,c=>by have:=ways_all l (a++[x]) (W.flatMap (wayS x)) (λq b=>by obtain⟨r,d,b⟩:=jJ.mp b;exact(h r d).step x q b) p c;rwa[fZ]at this
theorem ways_len:∀(l:List Tx) (W:List DrK),(waysT l W).length=W.length*2^l.length
 |[],W=>by simp[waysT]
 |x::l,W=>by
  rw[waysT,ways_len l];have:(W.flatMap (wayS x)).length=W.length*2:=by
   induction W with
   |nil=>rfl
   |cons p W a=>rw[o8,ef,a,cI];simp[wayS];lia
  rw[this,cI,tJ,Nat.mul_assoc,tK 2]
section
noncomputable def drVs(W:List DrK):List PV:=W.map drV
noncomputable def ptI:ad aG:=(aC (gX 3 (dL b9 (aw (d2 nz (dV 4) (dL b9 (aw (dV 2) (az)))) (aw (dV 5) (az))))) (gX 3 (dL b9 (aw (dV 4) (aw (d2 nz (dV 5) (dL b9 (aw (dV 2) (az)))) (az))))))
theorem add0_tx(l:List Tx)(x:Tx)(h:l.length<=100):nz (.tup (ak l)) (.tup [.str x])=aa (.tup (ak (l++[x]))):=by
 cases l with
 |nil=>rfl
 |cons y l=>show bq (.tup (.str y::ak l)) (.tup [.str x])=_;show(if(PV.str y::ak l)≠[]/\[PV.str x]≠[]/\(PV.str y::ak l).length + [PV.str x].length<=1000 then aa (PV.tup ((PV.str y::ak l)++[.str x]))else ac)=_;rw[if_pos ⟨by simp,by simp,by rw[cI,fu];simp at h ⊢;lia⟩];simp[ak]
theorem ptI_eq{lg:List PV}(j:nz c (.tup [X])=aa d)(i:nz b (.tup [X])=aa g)(l:lg.length+2<=bw):ptI [.val v0,.val v1,.val X,.own (.lst lg),.val c,.val b]=.ok .next [.val v0,.val v1,.val X,.own (.lst (lg++[.tup [d,b]]++[.tup [c,g]])),.val c,.val b]:=by
 have h:lg.length<bw:=∅
 have f:(lg++[PV.tup [d,b]]).length<bw:=by grind
 unfold ptI;refine(bW (ε1:=[.val v0,.val v1,.val X,.own (.lst (lg++[.tup [d,b]])),.val c,.val b]) ?_).trans ?_
 .simp[gX,dL,aw,az,dV,d2,b9,bR,R.bind,aD,j,h]
 .generalize (lg++[PV.tup [d,b]])=LG at f;simp[gX,dL,aw,az,dV,d2,b9,bR,R.bind,aD,i,f]
theorem pt_inner(x:Tx):∀(W:List DrK) (lg:List PV) (d c:Slot),(∀p∈W,p.1.length<=100/\p.2.length<=100)->lg.length+2*W.length<=1000 -> ∃g j,fi 4 5 ptI (drVs W) [.val v0,.val v1,↥x,.own (.lst lg),d,c]=.ok .next [.val v0,.val v1,↥x,.own (.lst (lg++drVs (W.flatMap (wayS x)))),g,j]
 |[],lg,d,c,_,_=>⟨d,c,by simp[drVs,fi]⟩
 |p::W,lg,d,c,f,n=>by
  rw[cI]at n;obtain⟨t,s⟩:=f p (by simp);have o:=ptI_eq (v0:=v0) (v1:=v1) (lg:=lg) (add0_tx p.1 x t) (add0_tx p.2 x s) (by unfold bw;lia);obtain⟨i,h,l⟩:=pt_inner (v0:=v0) (v1:=v1) x W (lg++[.tup [.tup (ak (p.1++[x])),.tup (ak p.2)]]++[.tup [.tup (ak p.1),.tup (ak (p.2++[x]))]]) (.val (.tup (ak p.1))) (.val (.tup (ak p.2))) (λq m=>f q (by simp[m])) (by simp;lia);refine⟨i,h,?_⟩;show fi 4 5 ptI (.tup [.tup (ak p.1),.tup (ak p.2)]::drVs W) _=_;rw[fi];show(match ptI [.val v0,.val v1,↥x,.own (.lst lg),.val (.tup (ak p.1)),.val (.tup (ak p.2))]with
   |.ok .next b=>fi 4 5 ptI (drVs W) b
   |.ok .cont b=>fi 4 5 ptI (drVs W) b
   |.ok .brk b=>.ok .next b
   |r=>r)=_
  rw[o];dsimp only;rw[l];congr 3;simp[drVs,wayS,drV]
noncomputable def ptB:ad aG:=(aC (cR 3 (dL cK (az))) (aC (jU 4 5 (bp (dV 1)) ptI) (bE 1 (dM 3))))
theorem pt_outer:∀(l:List Tx) (W:List DrK) (g f d c:Slot),(∀p∈W,p.1.length+l.length<=100/\p.2.length+l.length<=100)->W.length*2^l.length<=400 -> ∃j D s z,d9 2 ptB (ak l) [.val v0,.val (.lst (drVs W)),g,f,d,c]=.ok .next [.val v0,.val (.lst (drVs (waysT l W))),j,D,s,z]
 |[],W,g,f,d,c,_,_=>⟨g,f,d,c,rfl⟩
 |x::l,W,g,f,d,c,o,B=>by
  rw[cI]at o;rw[cI,tJ]at B;have F:1<=2^l.length:=Nat.one_le_two_pow;have E:W.length*2<=400:=by have:W.length*2<=W.length*(2^l.length*2):=Dr _ ∅;ac_rfl
  obtain⟨i,h,A⟩:=pt_inner (v0:=v0) (v1:=.lst (drVs W)) x W [] d c (λp n=>by grind) (by simp;lia);rw[gM]at A;have y:(W.flatMap (wayS x)).length=W.length*2:=by have:=ways_len [x] W;trivial
  obtain⟨w,v,u,t,G⟩:=pt_outer (v0:=v0) l (W.flatMap (wayS x)) (↥x) (.val (.lst (drVs (W.flatMap (wayS x))))) i h (λq m=>by
   obtain⟨p,n,m⟩:=jJ.mp m;have:=o p n;simp only[wayS,bQ,jI,or_false]at m
   grind) (by rw[y,Nat.mul_assoc,tK 2];trivial)
  refine⟨w,v,u,t,?_⟩;have C:ptB [.val v0,.val (.lst (drVs W)),↥x,f,d,c]=.ok .next [.val v0,.val (.lst (drVs (W.flatMap (wayS x)))),↥x,.val (.lst (drVs (W.flatMap (wayS x)))),i,h]:=by
   unfold ptB;refine(bW (ε1:=[.val v0,.val (.lst (drVs W)),↥x,.own (.lst []),d,c]) (by rfl)).trans ?_;refine(bW (ε1:=[.val v0,.val (.lst (drVs W)),↥x,.own (.lst (drVs (W.flatMap (wayS x)))),i,h]) ?_).trans ?_
   all_goals trivial
  show d9 2 ptB (.str x::ak l) _=_;rw[d9];show(match ptB [.val v0,.val (.lst (drVs W)),↥x,f,d,c]with
   |.ok .next b=>d9 2 ptB (ak l) b
   |.ok .cont b=>d9 2 ptB (ak l) b
   |.ok .brk b=>.ok .next b
   |r=>r)=_
  rw[C];trivial
theorem drs_of:∀{W:List DrK},(∀p∈W,p.1≠[])->drs (drVs W)=aa W
 |[],_=>rfl
 |p::W,h=>by
  show(dr1 (drV p)).bind _=_;have:dr1 (drV p)=aa p:=by show(dZ (ak p.1)).bind _=_;rw[kb,eZ,kb,eZ,if_pos (h p (by simp))]
  rw[this,eZ];show(drs (drVs W)).bind _=_;rw[drs_of λq b=>h q (by simp[b])];rfl
theorem uniqKD_mem(l b:List DrK)(x:DrK):x∈l.foldl (λb k=>if k∈b then b else b++[k]) b↔x∈b\/x∈l:=by
 induction l generalizing b with
 |nil=>simp
 |cons y l c=>grind
theorem uniqKD_len(l b:List DrK):(l.foldl (λb k=>if k∈b then b else b++[k]) b).length<=b.length+l.length:=by
 induction l generalizing b with
 |nil=>simp
 |cons y l c=>grind
noncomputable def ptL(x:Tx)(r:List Tx):List DrK:=(sortKD (uniqKD (waysT r [([x],[])]))).filter λp=>decide (0<p.2.length)
theorem ptL_mem:p∈ptL x r↔p∈waysT r [([x],[])]/\p.2≠[]:=by unfold ptL;rw[jF,show sortKD (uniqKD (waysT r [([x],[])]))=(uniqKD (waysT r [([x],[])])).mergeSort leKD from rfl,(vM _ leKD).mem_iff];unfold uniqKD;rw[uniqKD_mem,decide_eq_true_iff,tU];simp
theorem ptL_way(h:p∈ptL x r):Wyp (x::r) p/\p.2≠[]:=by obtain⟨d,c⟩:=ptL_mem.mp h;refine⟨ways_all r [x] [([x],[])] (λq b=>?_) p d,c⟩;rw[jo.mp b];exact⟨by simp,zj _,List.nil_sublist _,by rfl⟩
theorem ptL_len(x:Tx)(r:List Tx):(ptL x r).length<=2^r.length:=by unfold ptL;refine bT (v5 _ _) ?_;rw[show sortKD (uniqKD (waysT r [([x],[])]))=(uniqKD (waysT r [([x],[])])).mergeSort leKD from rfl,(vM _ leKD).length_eq];have c:=uniqKD_len (waysT r [([x],[])]) [];have b:=ways_len r [([x],[])];unfold uniqKD;simp at c b;simp_all
noncomputable def rsB:PV->Bool
 |.tup [_,.tup xs]=>decide (0<xs.length)
 |_=>am
theorem partings_eq(x:Tx)(r:List Tx)(I:r.length<=5):pX a [.val (.tup (ak (x::r)))]=.ok (.own (.lst (drVs (ptL x r)))) [.val (.tup (ak (x::r)))]:=by
 have w:2^r.length<=32:=JT (by simp) I;obtain⟨f,s3,s4,s5,A⟩:=pt_outer (v0:=.tup (ak (x::r))) r [([x],[])] .none .none .none .none (λp s=>by rw[jo.mp s];simp;lia) (by simp;lia);have J:∀p∈waysT r [([x],[])],p.1≠[]:=λp s=>(ways_all r [x] [([x],[])] (λq D=>by rw[jo.mp D];exact⟨by simp,zj _,List.nil_sublist _,by rfl⟩) p s).ne;have C:(uniqKD (waysT r [([x],[])])).length<=32:=by have u:=uniqKD_len (waysT r [([x],[])]) [];have h:=ways_len r [([x],[])];unfold uniqKD;simp at u h;lia
 have n:sortSetDP [.lst (drVs (waysT r [([x],[])]))]=aa (.lst (drVs (sortKD (uniqKD (waysT r [([x],[])]))))):=by show(drs _).bind _=_;rw[drs_of J,eZ,if_pos ∅];rfl
 have l:yK (.tup (ak (x::r))) ac (aa 1)=aa (.tup (ak [x])):=by
  have y:dS (ak (x::r)) ac (aa ((1:Nat):Int))=(ak (x::r)).take 1:=FU _ 1;show(if HT.sIx (ak (x::r)).length 0 ac=0/\HT.sIx (ak (x::r)).length (ak (x::r)).length (aa 1)=(ak (x::r)).length then aa (PV.tup (ak (x::r)))else aa (PV.tup (dS (ak (x::r)) ac (aa 1))))=_;split
  .rename_i E;have u:=E.2;have h:=HT.sIx_nat (ak (x::r)).length (ak (x::r)).length 1;rw[show(aa ((1:Nat):Int))=aa 1 from rfl]at h;rw[h,fu,cI]at u;simp_all
  rfl
 have m:bY (.tup (ak (x::r))) (aa 1) ac=aa (.tup (ak r)):=by
  have y:dS (ak (x::r)) (aa ((1:Nat):Int)) ac=(ak (x::r)).drop 1:=AV _ 1;show(if HT.sIx (ak (x::r)).length 0 (aa 1)=0/\HT.sIx (ak (x::r)).length (ak (x::r)).length ac=(ak (x::r)).length then ac else aa (PV.tup (dS (ak (x::r)) (aa 1) ac)))=_;rw[if_neg]
  .show aa (PV.tup (dS (ak (x::r)) (aa ((1:Nat):Int)) ac))=_;rw[y];rfl
  .rintro⟨z,_⟩;trivial
 have b:=kR (cap:=[]) (dt:=(dB (d2 (cP λi j=>decide (j<i)) (dL bu (aw (d2 bB (dV 0) (dC (.int 1))) (az))) (dC (.int 0))))) (de:=dV 0) (ε:=[.val (.tup (ak (x::r))),.val (.lst (drVs (waysT r [([x],[])]))),f,s3,s4,s5]) rsB (λv=>v) (drVs (sortKD (uniqKD (waysT r [([x],[])]))))
  (by
   intro v B;obtain⟨p,_,rfl⟩:=b8.mp B;have o:bB (drV p) (.int 1)=aa (.tup (ak p.2)):=rfl;have t:bu [.tup (ak p.2)]=aa (.int (p.2.length:Nat)):=by simp[bu,fu]
   have H:rsB (drV p)=decide ((0:Int)<(p.2.length:Nat)):=by show decide (0<(ak p.2).length)=_;rw[fu];simp
   rw[H];generalize ((p.2.length:Nat):Int)=PL at t;generalize ak p.2=P2 at o t;generalize drV p=DV at o;generalize drVs (waysT r [([x],[])])=WW;generalize ak (x::r)=XR;refine⟨?_,λ_=>?_⟩
   .simp![fR,gz,cL,o,t]
   rfl) []
 have F:((drVs (sortKD (uniqKD (waysT r [([x],[])])))).filter rsB).map (λv=>v)=drVs (ptL x r):=by rw[List.map_id'];unfold drVs ptL;rw[tR];congr 1;refine Dq λp _=>?_;show decide (0<(ak p.2).length)=_;rw[fu]
 rw[gM,F]at b;have g:yaO a [.val (.tup (ak (x::r))),.none,.none,.none,.none,.none]=.ok (.ret (.own (.lst (drVs (ptL x r))))) [.val (.tup (ak (x::r))),.val (.lst (drVs (waysT r [([x],[])]))),f,s3,s4,s5]:=by
  show aC _ (aC (λε=>cm (dJ 2 _ ptB ε)) (rA (cy [] _ (dB (d2 (cP λi j=>decide (j<i)) (dL bu (aw (d2 bB (dV 0) (dC (.int 1))) (az))) (dC (.int 0)))) (dV 0)))) _=_;refine(bW (ε1:=[.val (.tup (ak (x::r))),.val (.lst (drVs [([x],[])])),.none,.none,.none,.none]) ?_).trans ?_
  .show _=R.ok aG.next [.val (.tup (ak (x::r))),.val (.lst [.tup [.tup (ak [x]),.tup []]]),.none,.none,.none,.none];generalize ak [x]=PX at l;generalize ak (x::r)=XR at l;simp![bN,bJ,bS,l]
  refine(ET (xs:=ak r) (ε1:=[.val (.tup (ak (x::r))),.val (.lst (drVs [([x],[])])),.none,.none,.none,.none]) ?_ A).trans ?_
  .have c:fV (.tup (ak r))=aa (ak r):=rfl;generalize drVs [([x],[])]=D0;generalize ak r=PR at m c;generalize ak (x::r)=XR at m;simp![bp,bN,bJ,bS,m,c]
  .have d:bp (dF (dL sortSetDP (aw (dV 1) (az)))) [.val (.tup (ak (x::r))),.val (.lst (drVs (waysT r [([x],[])]))),f,s3,s4,s5]=.ok (drVs (sortKD (uniqKD (waysT r [([x],[])])))) [.val (.tup (ak (x::r))),.val (.lst (drVs (waysT r [([x],[])]))),f,s3,s4,s5]:=by
    have c:fV (.lst (drVs (sortKD (uniqKD (waysT r [([x],[])])))))=aa (drVs (sortKD (uniqKD (waysT r [([x],[])])))):=rfl;generalize drVs (sortKD (uniqKD (waysT r [([x],[])])))=SU at n c;generalize drVs (waysT r [([x],[])])=WW at n;generalize ak (x::r)=XR;simp![bp,n,c]
   generalize drVs (sortKD (uniqKD (waysT r [([x],[])])))=SU at d b;generalize drVs (waysT r [([x],[])])=WW at d b;generalize drVs (ptL x r)=PT at b;generalize ak (x::r)=XR at d b;generalize (dB (d2 (cP λi j=>decide (j<i)) (dL bu (aw (d2 bB (dV 0) (dC (.int 1))) (az))) (dC (.int 0))))=DT at b;generalize G:(dV 0:ad PV)=D0 at b;show rA (cy [] (bp (dF (dL sortSetDP (aw (dV 1) (az))))) DT D0) _=_;generalize bp (dF (dL sortSetDP (aw (dV 1) (az))))=DI at d;simp[rA,cy,d,b,R.bind]
 unfold pX;generalize yaO a=DD at g ⊢;generalize drVs (ptL x r)=PT at g ⊢;generalize ak (x::r)=XR at g ⊢;simp[bo,fP,bn,bz,g,back,gf,aD,R.bind]
end
section
variable{a:Ad}
noncomputable def shB(a:Ad)(c MS:PV):ad aG:=(bI (dB (d2 (cP λi j=>decide (j<i)) (dL bu (aw (d2 bB (dV 0) (dC (.int 1))) (az))) (dC c))) (uB (.ref a.Full) (λb=>cL ((dC MS) b))) (cH))
theorem shv_def:∃MS,pK a=bo 1 [] (bn 0 (aC (ku (aL (mZ a) (gV (dV 0) (Pu.bG)))) (shB a (.int 6) MS))):=⟨_,rfl⟩
theorem shared_view(g:mZ a [.val (a_ w b)]=.ok (.val .non) [.val (a_ w b)]):pK a [.val (a_ w b)]=if 6<b.length then .er (.ref a.Full) [.val (a_ w b)] else .ok (.val .non) [.val (a_ w b)]:=by
 obtain⟨MS,e⟩:=shv_def (a:=a);rw[e];have c:bB (a_ w b) (.int 1)=aa (.tup (ak b)):=rfl;have d:bu [.tup (ak b)]=aa (.int (b.length:Nat)):=by simp[bu,fu]
 by_cases h:6<b.length
 .have f:(6:Int)<(b.length:Nat):=∅
  rw[if_pos h];generalize ((b.length:Nat):Int)=LN at d f;generalize ak b=PL at d c;generalize a_ w b=VV at g c;simp![shB,g,c,d,f,uB,cL]
 .have f:¬(6:Int)<(b.length:Nat):=∅
  rw[if_neg h];generalize ((b.length:Nat):Int)=LN at d f;generalize ak b=PL at d c;generalize a_ w b=VV at g c;simp![shB,g,c,d,f]
end
structure Trail(w:Nat)(ws:List Tx)(t:Tx):Prop where
 long:w<=t.length
 abc:∀c∈t,c∈cq
 sub:unD w ws t=ai
noncomputable def kids(w:Nat)(ws:List Tx)(t:Tx):List Tx:=(cq.map λc=>t++[c]).filter (unD w ws)
noncomputable def GG:Nat->Nat
 |0=>1
 |k+1=>1+3*GG k
theorem GG_pos:∀k,1<=GG k
 |0=>bc _
 |k+1=>by unfold GG;simp
noncomputable def phi(w:Nat)(a:List Tx)(t:Tx):Nat:=GG (a.length-(t.length+1-w))
noncomputable def phis(w:Nat)(a:List Tx)(Q:List Tx):Nat:=(Q.map (phi w a)).sum
theorem under_len(b:1<=w)(h:unD w a t=ai):t.length+1-w<=a.length:=by have c:=Oo.mp h;rw[<-k_ b];obtain⟨g,f,d⟩:=pick_sub a (aM t w) c;rw[<-d.length_eq];exact f.length_le
theorem kids_mem:u∈kids w a t↔(∃c∈cq,u=t++[c])/\unD w a u=ai:=by
 unfold kids
 grind
theorem kids_trail(f:Trail w b t)(h:u∈kids w b t):Trail w b u:=by
 obtain⟨⟨c,i,rfl⟩,g⟩:=kids_mem.mp h;refine⟨by simp;have:=f.long;lia,λd a=>?_,g⟩;rcases lu.mp a with a|a
 .exact f.abc d a
 simp_all
theorem kids_phi(g:1<=w)(n:Trail w a t):phis w a (kids w a t)+1<=phi w a t:=by
 have d:∀u∈kids w a t,phi w a u+0<=GG (a.length-(t.length+1-w)-1)/\1<=a.length-(t.length+1-w):=λu b=>by
  obtain⟨⟨c,_,rfl⟩,p⟩:=kids_mem.mp b;have o:=under_len g p;have:=n.long;rw[ef,JL]at o;refine⟨?_,nofun⟩;unfold phi
  grind
 have s:(kids w a t).length<=3:=by unfold kids;exact bT (v5 _ _) (by simp[cq])
 cases f:kids w a t with
 |nil=>have:=GG_pos (a.length-(t.length+1-w));trivial
 |cons u r=>
  have q:=(d u (by rw[f];simp)).2;have i:∀(l:List Tx),(∀u∈l,phi w a u<=GG (a.length-(t.length+1-w)-1))->phis w a l<=l.length*GG (a.length-(t.length+1-w)-1):=λl=>by
   induction l with
   |nil=>intro _;simp[phis]
   |cons x l m=>intro h;have v:=m λu b=>h u (by simp[b]);have B:=h x (by simp);unfold phis at v ⊢;rw[cn,iK,cI,Nat.succ_mul];lia
  rw[<-f];have A:=i (kids w a t) λu b=>by have:=(d u b).1;omega
  have z:(kids w a t).length*GG (a.length-(t.length+1-w)-1)<=3*GG (a.length-(t.length+1-w)-1):=JY _ s;have y:phi w a t=1+3*GG (a.length-(t.length+1-w)-1):=by
   unfold phi;obtain⟨k,j⟩:∃k,a.length-(t.length+1-w)=k+1:=⟨_,(Nat.sub_add_cancel q).symm⟩
   rw[j];rfl
  lia
theorem phis_app(w:Nat)(a Q R:List Tx):phis w a (Q++R)=phis w a Q+phis w a R:=by unfold phis;simp
theorem phis_len(w:Nat)(a:List Tx):∀Q:List Tx,Q.length<=phis w a Q
 |[]=>gn _
 |q::Q=>by have:=phis_len w a Q;have b:=GG_pos (a.length-(q.length+1-w));show Q.length+1<=phi w a q+phis w a Q;unfold phi;lia
noncomputable def restT(w:Nat)(ws:List Tx)(t:Tx):List Tx:=less ws (aN (aM t w))
noncomputable def trP(w:Nat)(ws:List Tx)(t:Tx):PV:=cZ (t,restT w ws t)
theorem rest_perm(h:unD w a t=ai):(restT w a t++aM t w).Perm a:=by
 have b:=Oo.mp h;have:=less_perm (aN (aM t w)) a λx=>by rw[(dI _).count_eq];exact b x
 exact((dI _).symm.append_left _).trans this
theorem less_sub:∀(l m:List Tx),(less m l).Sublist m
 |[],m=>zj m
 |y::l,m=>(less_sub l (m.erase y)).trans List.erase_sublist
theorem rest_sub(w:Nat)(ws:List Tx)(t:Tx):(restT w ws t).Sublist ws:=less_sub _ _
section
variable{a:Ad}
theorem rem_loop6(i g f d c:Slot):∀(l m:List Tx) (n:Slot),(∀x,l.count x<=m.count x)->∃o,d9 6 (lW 5 (dV 6)) (ak l) [i,g,f,d,c,.own (.lst (ak m)),n]=.ok .next [i,g,f,d,c,.own (.lst (ak (less m l))),o]
 |[],m,n,_=>⟨n,rfl⟩
 |y::l,m,n,h=>by
  have p:y∈m:=by
   have:=h y
   grind
  obtain⟨o,t⟩:=rem_loop6 i g f d c l (m.erase y) (↥y) λx=>by
   grind
  have j:dZ (ak m)=aa m:=kb m;have q:lW 5 (dV 6) [i,g,f,d,c,.own (.lst (ak m)),↥y]=.ok .next [i,g,f,d,c,.own (.lst (ak (m.erase y))),↥y]:=by generalize ak m=MM at j;simp![lW,j,p]
  refine⟨o,?_⟩;have s:ak (y::l)=.str y::ak l:=rfl;rw[s,d9];show(match lW 5 (dV 6) [i,g,f,d,c,.own (.lst (ak m)),↥y]with
   |.ok .next b=>d9 6 (lW 5 (dV 6)) (ak l) b
   |.ok .cont b=>d9 6 (lW 5 (dV 6)) (ak l) b
   |.ok .brk b=>.ok .next b
   |r=>r)=_
  rw[q];trivial
noncomputable def trC:ad Bool:=(dB (rq (Pu.eqT ai) 3 (dF (dL cK (az)))))
theorem trC_eq(Q:List Tx)(i h g f d c:Slot):trC [i,h,g,.own (.lst (ak Q)),f,d,c]=.ok (decide (Q≠[])) [i,h,g,.own (.lst (ak Q)),f,d,c]:=by
 have b:=BX ai Q [];rw[show ak []=[] from rfl]at b;have j:(ai^^decide (Q=[]))=decide (Q≠[]):=by simp
 rw[j]at b;generalize decide (Q≠[])=B at b;generalize ak Q=PQ at b;simp![trC,rq,b]
noncomputable def exD1(a:Ad):ad PV:=(dF (cy [4,0,1] (bp (dC (.str [97,98,99]))) (dB (a9 (aL (qb a) (gV (d2 bq (dV 1) (dV 0)) (gV (dV 2) (gV (dV 3) (Pu.bG))))))) (d2 bq (dV 1) (dV 0))))
noncomputable def kidB(w:Nat)(ws:List Tx)(t:Tx):PV->Bool
 |.str y=>unD w ws (t++y)
 |_=>am
noncomputable def kidV(t:Tx):PV->PV
 |.str y=>.str (t++y)
 |v=>v
theorem kid_blk{w:Nat}{t:Tx}(j:t.length<=58)(c:Nat)(h g f d:Slot):cL (fR [4,0,1] (dB (a9 (aL (qb a) (gV (d2 bq (dV 1) (dV 0)) (gV (dV 2) (gV (dV 3) (Pu.bG))))))) (.str [c]) [⇑w,.val (.tup (ak ws)),h,g,↥t,f,d])=.ok (unD w ws (t++[c])) [⇑w,.val (.tup (ak ws)),h,g,↥t,f,d] /\ cL (fR [4,0,1] (d2 bq (dV 1) (dV 0)) (.str [c]) [⇑w,.val (.tup (ak ws)),h,g,↥t,f,d])=.ok (.str (t++[c])) [⇑w,.val (.tup (ak ws)),h,g,↥t,f,d]:=by
 have b:=Sq (a:=a) w ws (t++[c]) (by simp;lia);have i:bq (.str t) (.str [c])=aa (.str (t++[c])):=xJ (by simp[bw];lia);generalize unD w ws (t++[c])=B at b;generalize t++[c]=TC at b i;generalize ak ws=PW at b;generalize ((w:Nat):Int)=WI at b;constructor
 .simp![fR,gz,cL,i,b]
 .simp![fR,gz,cL,i]
theorem comp_anyT{DI:ad (List PV)}{DT:ad Bool}{DE:ad PV}{xs b:List PV}(c:DI ε=.ok xs ε)(d:jB cap DT DE xs [] ε=.ok b ε):dF (cy cap DI DT DE) ε=.ok (.lst b) ε:=by simp[dF,cy,c,d,R.bind,kc,aD]
theorem ex_eq{w:Nat}{t:Tx}(l:t.length<=58)(g f d b:Slot):exD1 a [⇑w,.val (.tup (ak ws)),g,f,↥t,d,b]=.ok (.lst (ak (kids w ws t))) [⇑w,.val (.tup (ak ws)),g,f,↥t,d,b]:=by
 have h:=kR (cap:=[4,0,1]) (dt:=(dB (a9 (aL (qb a) (gV (d2 bq (dV 1) (dV 0)) (gV (dV 2) (gV (dV 3) (Pu.bG)))))))) (de:=(d2 bq (dV 1) (dV 0))) (ε:=[⇑w,.val (.tup (ak ws)),g,f,↥t,d,b]) (kidB w ws t) (kidV t) (ak (cq.map λc=>[c]))
  (by intro v j;obtain⟨y,i,rfl⟩:=b8.mp j;obtain⟨c,_,rfl⟩:=b8.mp i;obtain⟨o,n⟩:=kid_blk (a:=a) (w:=w) (ws:=ws) l c g f d b;exact⟨o,λ_=>n⟩) []
 have m:((ak (cq.map λc=>[c])).filter (kidB w ws t)).map (kidV t)=ak (kids w ws t):=by unfold kids ak;rw[cU,tR,tR,cU,cU];rfl
 rw[gM,m]at h;have p:fV (.str [97,98,99])=aa (ak (cq.map λc=>[c])):=rfl;refine comp_anyT (xs:=ak (cq.map λc=>[c])) ?_ h;rfl
noncomputable def trB(a:Ad):ad aG:=(aC (bE 4 (xK 3)) (aC (cR 5 (dL oG (aw (dV 1) (az)))) (aC (dJ 6 (bp (a9 (aL (kW a) (gV (dV 4) (gV (dV 0) (Pu.bG)))))) (lW 5 (dV 6))) (aC (gX 2 (dL b9 (aw (dV 4) (aw (eR (λxs=>jd (gY xs)) 5) (az))))) (l7 3 (exD1 a))))))
theorem imms_tx:∀l:List Tx,je (ak l)=ai
 |[]=>rfl
 |x::l=>by show(imm (.str x)&&je (ak l))=ai;rw[imms_tx l];rfl
theorem trB_eq{w:Nat}(s:1<=w)(p:Trail w ws t)(i:t.length<=58)(Q:List Tx)(mk:List PV)(v:mk.length<=200000)(z:Q.length<=200000)(m j d:Slot):∃n o,trB a [⇑w,.val (.tup (ak ws)),.own (.lst mk),.own (.lst (ak (t::Q))),m,j,d]=.ok .next [⇑w,.val (.tup (ak ws)),.own (.lst (mk++[trP w ws t])),.own (.lst (ak (Q++kids w ws t))),↥t,n,o]:=by
 have h:=yh (a:=a) t w ∅;have r:=Oo.mp p.sub;obtain⟨b,q⟩:=rem_loop6 (⇑w) (.val (.tup (ak ws))) (.own (.lst mk)) (.own (.lst (ak Q))) (↥t) (aN (aM t w)) ws d λx=>by rw[(dI _).count_eq];exact r x
 have u:(kids w ws t).length<=3:=by unfold kids;exact bT (v5 _ _) (by simp[cq])
 refine⟨.own (.lst (ak (restT w ws t))),b,?_⟩;unfold trB;refine(bW (ε1:=[⇑w,.val (.tup (ak ws)),.own (.lst mk),.own (.lst (ak Q)),↥t,j,d]) ?_).trans ?_
 .rfl
 refine(bW (ε1:=[⇑w,.val (.tup (ak ws)),.own (.lst mk),.own (.lst (ak Q)),↥t,.own (.lst (ak ws)),d]) ?_).trans ?_
 .rfl
 refine(bW (ε1:=[⇑w,.val (.tup (ak ws)),.own (.lst mk),.own (.lst (ak Q)),↥t,.own (.lst (ak (restT w ws t))),b]) ?_).trans ?_
 .refine A6 (xs:=ak (aN (aM t w))) (ε1:=[⇑w,.val (.tup (ak ws)),.own (.lst mk),.own (.lst (ak Q)),↥t,.own (.lst (ak ws)),d]) ?_ q;have l:fV (.tup (ak (aN (aM t w))))=aa (ak (aN (aM t w))):=rfl;generalize ak (aN (aM t w))=SW at h l;generalize ak ws=PW;generalize ak Q=PQ;generalize ((w:Nat):Int)=WI at h;simp![bp,h,l]
 refine(bW (ε1:=[⇑w,.val (.tup (ak ws)),.own (.lst (mk++[trP w ws t])),.own (.lst (ak Q)),↥t,.own (.lst (ak (restT w ws t))),b]) ?_).trans ?_
 .have y:jd (gY [.lst (ak (restT w ws t))])=aa (.tup (ak (restT w ws t))):=by
   show(if imm (.tup (ak (restT w ws t)))then aa _ else ac)=_;rw[if_pos (show imm (.tup (ak (restT w ws t)))=ai from imms_tx _)]
  have g:mk.length<bw:=by unfold bw;lia
  have f:eR (λxs=>jd (gY xs)) 5 [⇑w,.val (.tup (ak ws)),.own (.lst mk),.own (.lst (ak Q)),↥t,.own (.lst (ak (restT w ws t))),b]=.ok (.tup (ak (restT w ws t))) [⇑w,.val (.tup (ak ws)),.own (.lst mk),.own (.lst (ak Q)),↥t,.own (.lst (ak (restT w ws t))),b]:=by unfold eR;show(aD (aa (ak (restT w ws t))) _).bind _=_;simp_all
  show gX 2 _ _=.ok .next [_,_,.own (.lst (mk++[.tup [.str t,.tup (ak (restT w ws t))]])),_,_,_,_];generalize ak (restT w ws t)=PR at f;generalize ak ws=PW at f;generalize ak Q=PQ at f;generalize eR (λxs=>jd (gY xs)) 5=DO at f;simp[gX,dL,aw,az,dV,b9,bR,R.bind,aD,f,g]
 .have c:=ex_eq (a:=a) (w:=w) (ws:=ws) i (.own (.lst (mk++[trP w ws t]))) (.own (.lst (ak Q))) (.own (.lst (ak (restT w ws t)))) b;have g:(ak Q).length+(ak (kids w ws t)).length<=bw:=by rw[fu,fu];unfold bw;lia
  have e:ak (Q++kids w ws t)=ak Q++ak (kids w ws t):=by simp[ak]
  rw[e];generalize ak (kids w ws t)=PK at c g;generalize ak (restT w ws t)=PR at c;generalize ak ws=PW at c;generalize ak Q=PQ at c g;generalize exD1 a=DX at c;simp[l7,bR,R.bind,aD,c,g]
theorem tr_while{w:Nat}(v:1<=w)(w4:w<=4){b:List Tx}(h9:b.length<=9):∀(n:Nat) (Q:List Tx) (mk:List PV) (o:Nat) (m l j:Slot),phis w b Q<=n->n<o->mk.length+n<=200000->(∀t∈Q,Trail w b t)->Q.Pairwise (λx y=>¬x <+: y/\¬y <+: x) -> ∃(D:List Tx) (L T W:Slot),(D.Nodup/\∀t∈D,∃q∈Q,q <+: t)/\(∀t∈D,Trail w b t)/\(∀q∈Q,∀t,q <+: t->Trail w b t->t∈D)/\D.length<=n/\eO trC (trB a) o [⇑w,.val (.tup (ak b)),.own (.lst mk),.own (.lst (ak Q)),m,l,j]=.ok .next [⇑w,.val (.tup (ak b)),.own (.lst (mk++D.map (trP w b))),.own (.lst []),L,T,W]:=by
 intro n
 induction n with
 |zero=>
  intro Q mk o m l j Z hf _ J _;obtain⟨f,rfl⟩:∃f,o=f+1:=⟨o-1,∅⟩
  have e:Q=[]:=by have:=phis_len w b Q;simp_all
  subst e;refine⟨[],m,l,j,⟨by simp,(λt i=>by cases i)⟩,(λt i=>by trivial),(λq p=>by trivial),by simp,?_⟩;have A:=trC_eq [] (⇑w) (.val (.tup (ak b))) (.own (.lst mk)) m l j;rw[kI,gJ];rfl
 |succ n B=>
  intro Q mk o m l j Z hf hm J hA;obtain⟨f,rfl⟩:∃f,o=f+1:=⟨o-1,∅⟩
  cases Q with
  |nil=>
   refine⟨[],m,l,j,⟨by simp,(λt i=>by cases i)⟩,(λt i=>by trivial),(λq p=>by trivial),by simp,?_⟩;have A:=trC_eq [] (⇑w) (.val (.tup (ak b))) (.own (.lst mk)) m l j;rw[kI,gJ];rfl
  |cons t Q=>
   have i:=J t (by simp);have hl:=under_len v i.sub;have hk:=kids_phi v i;have hp:phis w b (t::Q)=phi w b t+phis w b Q:=rfl;have Y:=phis_len w b Q;obtain⟨N,M,hb⟩:=trB_eq (a:=a) v i (by lia) Q mk ∅ ∅ m l j;obtain⟨G,F⟩:=jH.mp hA;have s:∀u∈kids w b t,t <+: u/\u.length=t.length+1:=λu g=>by obtain⟨⟨c,_,rfl⟩,_⟩:=kids_mem.mp g;simp
   obtain⟨D,S,P,O,⟨dn,de⟩,d1,d2,d3,X⟩:=B (Q++kids w b t) (mk++[trP w b t]) f (↥t) N M (by rw[phis_app];lia) ∅ (by grind) (λu g=>by
    rcases lu.mp g with g|g
    .grind
    .exact kids_trail i g) (by
    refine List.pairwise_append.mpr ⟨F,?_,λq p u g=>?_⟩
    .refine List.Pairwise.filter _ ?_;have I:∀c d:Nat,c≠d->¬(t++[c]) <+: (t++[d]):=λc d H z=>by simp_all
     exact List.Pairwise.map _ (λc d (H:c≠d)=>⟨I c d H,I d c λz=>H z.symm⟩) (by decide)
    .obtain⟨k1,k2⟩:=s u g;obtain⟨⟨c,_,rfl⟩,_⟩:=kids_mem.mp g;have h0:=G q p;refine⟨λz=>?_,λz=>h0.1 ((List.prefix_append t [c]).trans z)⟩;rcases List.prefix_concat_iff.mp z with e|e
     all_goals simp_all)
   have C:t∉D:=λz=>by
    grind
   refine⟨t::D,S,P,O,⟨ik.mpr ⟨C,dn⟩,λu g=>?_⟩,λu g=>?_,λq p u E g=>?_,∅,?_⟩
   .grind
   .grind
   .rcases bQ.mp p with rfl|p
    .obtain⟨r,rfl⟩:=E;cases r with
     |nil=>simp
     |cons c r=>
      refine fE _ (d2 (q++[c]) (i6 _ (kids_mem.mpr ⟨⟨c,g.abc c (by simp),rfl⟩,?_⟩)) _ ⟨r,by simp⟩ g);have:∀(r:Tx) (u:Tx),unD w b (u++r)=ai->unD w b u=ai:=λr=>by
       induction r with
       |nil=>simp
       |cons d r B=>intro u h;rw[show u++d::r=(u++[d])++r by simp]at h;exact ME v (B (u++[d]) h)
      exact this r (q++[c]) (~~~g.sub)
    grind
   .have A:=trC_eq (t::Q) (⇑w) (.val (.tup (ak b))) (.own (.lst mk)) m l j;rw[decide_eq_true (by simp)]at A;rw[uR A hb,X];simp
end
noncomputable def wk:Nat->List Tx->Tx->List Tx
 |0,_,_=>[[]]
 |m+1,M,p=>[]::cq.flatMap λc=>if p++[c]∈M then(wk m (M.erase (p++[c])) (p++[c]).tail).map (c::·)else []
noncomputable def kd(m:Nat)(M:List Tx)(p:Tx)(c:Nat):List Tx:=if p++[c]∈M then(wk m (M.erase (p++[c])) (p++[c]).tail).map (c::·)else []
theorem wins_step{w:Nat}(a:1<=w){p u:Tx}{c:Nat}(b:p.length+1=w):aM (p++c::u) w=(p++[c])::aM ((p++[c]).tail++u) w:=by
 have e:(p++[c]).tail++u=(p++c::u).drop 1:=by cases p <;> simp
 rw[e,kr _ _ a,kr _ _ a,Cu,show(p++c::u).length+1-w=(p++c::u).length-1+1-w+1 by simp;lia,yZ,cn,cU];congr 1
 .rw[vJ,<-b,List.take_append,mn (by simp)];simp
 simp
theorem kd_mem{w m:Nat}(b:1<=w){M:List Tx}{p u:Tx}{c:Nat}(g:p.length+1=w)(a:∀x,(aM (p++c::u) w).count x<=M.count x)(d:∀M p,p.length+1=w->(∀x,(aM (p++u) w).count x<=M.count x)->u∈wk m M p):c::u∈kd m M p c:=by
 rw[wins_step b g]at a;have f:p++[c]∈M:=by have:=a (p++[c]);rw[JR]at this;exact Do.mp ∅
 unfold kd;rw[if_pos f];refine List.mem_map_of_mem (d _ _ (by simp;omega) λx=>?_);have:=a x;rw[List.count_cons]at this;rw[List.count_erase];omega
theorem wk_mem{w:Nat}(d:1<=w):∀(m:Nat) (u:Tx),u.length<=m->(∀c∈u,c∈cq)->∀(M:List Tx) (p:Tx),p.length+1=w->(∀x,(aM (p++u) w).count x<=M.count x)->u∈wk m M p
 |0,u,h,_,M,p,_,_=>by rw[lF (by lia:u.length=0)];simp[wk]
 |m+1,[],_,_,M,p,_,_=>by simp[wk]
 |m+1,c::u,h,ha,M,p,a,b=>by refine fE _ (jJ.mpr ⟨c,ha c (by simp),kd_mem d a b λM p a b=>?_⟩);exact wk_mem d m u (~~~h) (λx f=>ha x (by simp[f])) M p a b
noncomputable def af(M:List Tx)(p:Tx):Nat:=(M.filter λx=>x.dropLast=p).length
theorem af_sum:∀(a M:List Tx),a.Nodup->(a.map (af M)).sum<=M.length
 |[],_,_=>gn _
 |p::a,M,d=>by
  have b:=ik.mp d;have c:=af_sum a (M.filter λx=>!(x.dropLast=p:Bool)) b.2;have e:a.map (af (M.filter λx=>!(x.dropLast=p:Bool)))=a.map (af M):=jm λq f=>by unfold af;rw[List.filter_filter];congr 1;refine Dq λx _=>?_;have:q≠p:=λz=>b.1 (z ▸ f);simp_all
  have g:=(JX (λx=>decide (x.dropLast=p)) M).length_eq;rw[ef]at g;rw[e]at c;simp only[cn,iK];unfold af at c ⊢;lia
theorem af_erase{M:List Tx}{x q:Tx}(h:x∈M):af (M.erase x) q+(if x.dropLast=q then 1 else 0)=af M q:=by have a:=((qJ h).filter λx=>decide (x.dropLast=q)).length_eq;unfold af;rw[a,List.filter_cons];split <;> simp_all
noncomputable def Gt:List (List Nat):=[[1,1,1,1,1,1],[1,2,2,2,2,2],[1,3,4,4,4,4],[1,5,7,7,7,7],[1,8,13,14,14,14]]
noncomputable def Gf(m a:Nat):Nat:=(Gt.getD m []).getD a 0
noncomputable def Cst(n A b1 b2 a d c b:Nat):Bool:=d+c+b<=A&&(A+b1+b2+a<=n||(b1+d<=A&&A+b2+a<=n)||(b2+c<=A&&A+b1+a<=n)||(a+b<=A&&A+b1+b2<=n))
theorem chk1:∀m:Fin 4,∀A b1 b2 d:Fin 6,∀c b a:Fin 2,Cst (m+1) A b1 b2 d c b a=ai->1+(c*Gf m b1+b*Gf m b2+a*Gf m d)<=Gf (m+1) A:=by decide +kernel
theorem chk2:∀A b1 b2 a:Fin 6,∀d c b:Fin 2,Cst 5 A b1 b2 a d c b=ai->2<=A.val->(A.val=2->b1.val<=2/\b2.val<=2/\a.val<=2)->(d*Gf 4 b1+c*Gf 4 b2+b*Gf 4 a)+(if A.val=2 then 13 else 14)*(5-A)<=63:=by decide +kernel
theorem Gf_le(b:Nat)(h:b<=5):Gf 4 b<=14/\(b<=2->Gf 4 b<=13)/\(b<=1->Gf 4 b<=8):=by
 have:∀b:Fin 6,Gf 4 b<=14/\(b.val<=2->Gf 4 b<=13)/\(b.val<=1->Gf 4 b<=8):=by decide
 exact this ⟨b,∅⟩
section
variable{w m n:Nat}{M:List Tx}{p:Tx}
theorem kd_one(f:p.length+1=w)(g:M.length<=n+1)(d:∀M p,p.length+1=w->M.length<=n->(wk m M p).length<=Gf m (af M p))(c:Nat):∃e b,e<2/\(e=if p++[c]∈M then 1 else 0)/\(kd m M p c).length<=e*Gf m b/\b<=af M (p++[c]).tail/\((p++[c]).tail=p->b+e<=af M p):=by
 by_cases h:p++[c]∈M
 .have a:=af_erase (q:=(p++[c]).tail) h;rw[JC]at a;refine⟨1,af (M.erase (p++[c])) (p++[c]).tail,by simp,by rw[if_pos h],?_,∅,λz=>?_⟩
  .unfold kd;rw[if_pos h,cX,Nat.one_mul];exact d _ _ (by simp;omega) (by rw[JM h];simp_all)
  .rw[if_pos z.symm]at a;rw[z]at a ⊢;ac_rfl
 .exact⟨0,af M (p++[c]).tail,by simp,by rw[if_neg h],by unfold kd;rw[if_neg h];simp,bc _,λz=>by rw[z];simp⟩
theorem kd_sum(O:2<=w)(h:p.length+1=w)(j:M.length<=n+1)(i:∀M p,p.length+1=w->M.length<=n->(wk m M p).length<=Gf m (af M p)){B:Nat}(l:∀q,af M q<=B):∃b1 b2 f d b a,d<2/\b<2/\a<2/\b1<=B/\b2<=B/\f<=B/\Cst (n+1) (af M p) b1 b2 f d b a=ai/\(cq.flatMap (kd m M p)).length<=d*Gf m b1+b*Gf m b2+a*Gf m f:=by
 obtain⟨d,b1,H,E,S,y,t⟩:=kd_one h j i 97;obtain⟨b,b2,G,D,Q,v,s⟩:=kd_one h j i 98;obtain⟨a,f,F,C,P,u,r⟩:=kd_one h j i 99;refine⟨b1,b2,f,d,b,a,H,G,F,bT y (l _),bT v (l _),bT u (l _),?_,?_⟩
 .have J:∀c,(p++[c]).tail=p.tail++[c]:=λc=>by cases p <;> simp at h ⊢;lia
  rw[J]at y v u t s r;have L:d+b+a<=af M p:=by
   have o:(([97,98,99].map λc:Nat=>p++[c]).filter (·∈M)).length<=af M p:=by refine UE (List.Pairwise.filter _ (by simp)) λx I=>?_;obtain⟨o,N⟩:=jF.mp I;obtain⟨c,_,rfl⟩:=b8.mp o;exact jF.mpr ⟨~~~N,by simp⟩
   refine bT (oZ ?_) o;rw[E,D,C];simp only[cn,kI,List.filter_cons,List.filter_nil]
   repeat' split
   all_goals simp_all
  have A:[p.tail++[97],p.tail++[98],p.tail++[99]].Nodup:=by simp
  have g:=af_sum _ M A;simp only[cn,kI,iK,List.sum_nil]at g;unfold Cst;simp only[gL,y0,decide_eq_true_eq];refine⟨L,?_⟩;by_cases z:p∈[p.tail++[97],p.tail++[98],p.tail++[99]]
  .simp only[bQ,jI,or_false]at z;rcases z with z|z|z
   .have:=t z.symm;rw[<-z]at g;lia
   .have:=s z.symm;rw[<-z]at g;lia
   .have:=r z.symm;rw[<-z]at g;lia
  .have:=af_sum _ M (ik.mpr ⟨z,A⟩);simp only[cn,kI,iK,List.sum_nil]at this;lia
 .simp only[cq,o8,zg,ef,oY];lia
theorem wk_le(a:2<=w):∀(m:Nat),m<=4->∀(M:List Tx) (p:Tx),p.length+1=w->M.length<=m->(wk m M p).length<=Gf m (af M p)
 |0,_,M,p,_,h=>by rw[lF (by lia:M.length=0)];exact bc 1
 |m+1,hm,M,p,hp,h=>by have b:∀q,af M q<=5:=λq=>bT (v5 _ _) ∅;obtain⟨b1,b2,r,o,l,j,f,d,c,u,t,s,i,g⟩:=kd_sum a hp h (wk_le a m ∅) b;have:=chk1 ⟨m,∅⟩ ⟨af M p,by have:=b p;ac_rfl⟩ ⟨b1,∅⟩ ⟨b2,∅⟩ ⟨r,∅⟩ ⟨o,f⟩ ⟨l,d⟩ ⟨j,c⟩ i;refine bT (oZ ?_) (bT (Nat.add_le_add_left g 1) this);show([]::cq.flatMap (kd m M p)).length=_;rw[cI,Nat.add_comm]
noncomputable def tls(M a:List Tx):List Tx:=a.flatMap λp=>(cq.flatMap (kd 4 M p)).map (p++·)
theorem tls_at(d:2<=w)(l:M.length<=5)(h:p.length+1=w){B g:Nat}(j:∀q,af M q<=B)(a:∀b,b<=B->Gf 4 b<=g):(cq.flatMap (kd 4 M p)).length<=af M p*g:=by
 obtain⟨b1,b2,A,s,r,o,z,y,x,v,u,t,c,i⟩:=kd_sum d h l (wk_le d 4 (by simp)) j;have f:s+r+o<=af M p:=by unfold Cst at c;simp only[gL,decide_eq_true_eq]at c;exact c.1
 refine bT i (bT ?_ (JY g f));rw[Nat.add_mul,Nat.add_mul];exact Nat.add_le_add (Nat.add_le_add (Dr _ (a _ v)) (Dr _ (a _ u))) (Dr _ (a _ t))
theorem tls_cons(a:List Tx):(tls M (p::a)).length=(cq.flatMap (kd 4 M p)).length+(tls M a).length:=by unfold tls;simp
theorem tls_le(c:2<=w)(i:M.length<=5){B g:Nat}(f:∀q,af M q<=B)(d:∀b,b<=B->Gf 4 b<=g):∀a:List Tx,(∀p∈a,p.length+1=w)->(tls M a).length<=(a.map (af M)).sum*g
 |[],_=>gn _
 |p::a,h=>by rw[tls_cons,cn,iK,Nat.add_mul];exact Nat.add_le_add (tls_at c i (h p (by simp)) f d) (tls_le c i f d a λq j=>h q (by simp[j]))
theorem tls_few(d:2<=w)(f:M.length<=5){a:List Tx}(l:a.Nodup)(i:∀p∈a,p.length+1=w)(D:∀p,0<af M p->p∈a):(tls M a).length<64:=by
 have x:∀q,af M q<=5:=λq=>bT (v5 _ _) f;have big:∀p B g,2<=af M p->(∀q,af M q<=B)->B<=5->(B<=2\/3<=af M p)->(g=if af M p=2 then 13 else 14)->(tls M a).length<64:=λp B g h t H O r=>by
  have F:∀b,b<=B->Gf 4 b<=g:=λb s=>by obtain⟨T,S,_⟩:=Gf_le b ∅;rw[r];split <;> lia
  have o:=D p ∅;have c:=qJ o;have e:(tls M a).length=(tls M (p::a.erase p)).length:=(c.flatMap_right _).length_eq;obtain⟨b1,b2,N,L,J,I,C,A,y,Y,X,W,G,P⟩:=kd_sum d (i p o) f (wk_le d 4 (by simp)) t;have v:=chk2 ⟨af M p,by have:=x p;ac_rfl⟩ ⟨b1,∅⟩ ⟨b2,∅⟩ ⟨N,∅⟩ ⟨L,C⟩ ⟨J,A⟩ ⟨I,y⟩ G h (λz=>by dsimp only at z ⊢;lia);have j:=tls_le d f t F (a.erase p) λq E=>i q (List.mem_of_mem_erase E);have u:=af_sum (p::a.erase p) M (c.nodup_iff.mp l);rw[cn,iK]at u;rw[e,tls_cons];dsimp only at v;rw[<-r]at v;have Q:((a.erase p).map (af M)).sum*g<=g*(5-af M p):=by rw[tK g];exact JY g ∅
  lia
 by_cases j:∃p,3<=af M p
 .obtain⟨p,c⟩:=j;exact big p 5 _ ∅ x (by simp) (.inr c) rfl
 by_cases h:∃p,2<=af M p
 .obtain⟨p,c⟩:=h;exact big p 2 _ c (λq=>Nat.le_of_not_lt λz=>j ⟨q,z⟩) (by simp) (.inl (bc _)) rfl
 .have:=tls_le d f (B:=1) (g:=8) (λq=>Nat.le_of_not_lt λz=>h ⟨q,z⟩) (λb s=>(Gf_le b ∅).2.2 s) a i;have u:=af_sum a M l;lia
theorem few_trails(i:2<=w)(y:M.length<=5)(r:∀x∈M,x.length=w/\∀c∈x,c∈cq){D:List Tx}(j:D.Nodup)(v:∀t∈D,Trail w M t):D.length<64:=by
 have g:∀p,p∈bK (M.map mw)↔∃x∈M,x.dropLast=p:=λp=>by rw[kY,b8]
 refine tm (UE j (l₂:=tls M (bK (M.map mw))) λt q=>?_) (tls_few i y (Is _) (λp a=>?_) λp a=>?_)
 .obtain⟨C,d,sub⟩:=v t q;have f:=Oo.mp sub;obtain⟨p,c,u,rfl,a⟩:∃p c u,t=p++c::u/\p.length+1=w:=by
   obtain⟨c,u,h⟩:=List.exists_cons_of_ne_nil (l:=t.drop (w-1)) λz=>by have:=congrArg qw z;simp at this;omega
   exact⟨t.take (w-1),c,u,by rw[<-h,o7],by simp;lia⟩
  have o:=under_len ∅ sub;have s:=kd_mem (m:=4) ∅ a f λM p a f=>wk_mem ∅ 4 u (by simp at o;lia) (λx b=>d x (by simp[b])) M p a f;refine jJ.mpr ⟨p,(g p).mpr ⟨p++[c],?_,by simp⟩,List.mem_map_of_mem (jJ.mpr ⟨c,d c (by simp),s⟩)⟩;have:=f (p++[c]);rw[wins_step ∅ a,JR]at this;exact Do.mp ∅
 .obtain⟨x,b,rfl⟩:=(g p).mp a;have:=(r x b).1;simp;lia
 .obtain⟨x,b⟩:=List.exists_mem_of_length_pos a;obtain⟨B,A⟩:=jF.mp b;exact(g p).mpr ⟨x,B,~~~A⟩
end
theorem GG_mono:∀{m n:Nat},m<=n->GG m<=GG n
 |m,0,h=>⋯
 |m,n+1,h=>by
  rcases Nat.lt_or_eq_of_le h with h|h
  .have:=GG_mono (Nat.le_of_lt_succ h);have a:GG (n+1)=1+3*GG n:=rfl;lia
  .rw[h];simp
theorem imms_qr:∀l:List QrK,je (l.map cZ)=ai
 |[]=>rfl
 |k::l=>by show(imm (cZ k)&&je (l.map cZ))=ai;rw[imms_qr l];show(je [.str k.1,.tup (ak k.2)]&&ai)=ai;show((imm (.str k.1)&&(imm (.tup (ak k.2))&&ai))&&ai)=ai;rw[show imm (.tup (ak k.2))=ai from imms_tx k.2];rfl
section
theorem trails_eq{w:Nat}(M:2<=w)(J:w<=4){ws:List Tx}(W:ws.length<=5)(f:∀x∈ws,x.length=w/\∀c∈x,c∈cq):∃L:List QrK,(L.map (·.1)).Nodup/\(∀p∈L,Trail w ws p.1/\p.2=restT w ws p.1)/\(∀t,Trail w ws t->(t,restT w ws t)∈L)/\pZ a [⇑w,.val (.tup (ak ws))]=.ok (.val (.lst (L.map cZ))) [⇑w,.val (.tup (ak ws))]:=by
 have q:1<=w:=∅
 have H:ws.length<=9:=∅
 have F:∀x∈ws,aM x w=[x]:=λx b=>by
  rw[kr _ _ q,(f x b).1,show w+1-w=1 by simp]
  grind
 have B:∀x∈aN (bK ws),Trail w ws x:=λx b=>by
  have j:x∈ws:=(kY ws x).mp ((dI _).mem_iff.mp b);refine⟨by rw[(f x j).1];simp,(f x j).2,Oo.mpr λy=>?_⟩
  grind
 have bh:(aN (bK ws)).length<=9:=by rw[(dI _).length_eq];exact bT (Hh ws) H
 have i:phis w ws (aN (bK ws))<=99000:=by
  have:∀l:List Tx,(∀x∈l,x.length=w)->phis w ws l<=l.length*9841:=λl=>by
   induction l with
   |nil=>intro _;simp[phis]
   |cons x l O=>
    intro h;have o:=O λy s=>h y (by simp[s]);have h2:phi w ws x<=GG 8:=by unfold phi;rw[h x (by simp)];exact GG_mono ⋯
    have h3:GG 8=9841:=by rfl
    unfold phis at o ⊢
    grind
  have o:=this (aN (bK ws)) λx b=>by have j:x∈ws:=(kY ws x).mp ((dI _).mem_iff.mp b);exact(f x j).1
  lia
 obtain⟨D,s4,s5,s6,⟨dn,_⟩,d1,d2,d3,u⟩:=tr_while (a:=a) q J H 99000 (aN (bK ws)) [] 100000 .none .none .none i (by simp) (by simp) B (by have A:(aN (bK ws)).Nodup:=(dI _).nodup_iff.mpr (Ha ws);refine A.imp_of_mem λ{x y} b s I=>?_;have Z:x.length=w:=(f x ((kY ws x).mp ((dI _).mem_iff.mp b))).1;have Y:y.length=w:=(f y ((kY ws y).mp ((dI _).mem_iff.mp s))).1;exact⟨λz=>I (z.eq_of_length ⋯),λz=>I (z.eq_of_length ⋯).symm⟩);have T:∀t,Trail w ws t->t∈D:=λt d=>by
  refine d2 (t.take w) ?_ t (List.take_prefix _ _) d;have ju:t.take w∈aM t w:=by have X:=d.long;rw[kr _ _ q];refine b8.mpr ⟨0,kE.mpr ∅,by rfl⟩
  refine(dI _).mem_iff.mpr ((kY ws _).mpr (Do.mp ?_));have:=Oo.mp d.sub (t.take w)
  grind
 refine⟨kQ (D.map λt=>(t,restT w ws t)),?_,λp P=>?_,λt d=>?_,?_⟩
 .refine((zN _).map _).nodup_iff.mpr ?_;rw[cU];exact(List.map_id D).symm ▸ dn
 .obtain⟨t,d,rfl⟩:=b8.mp ((zN _).mem_iff.mp P);exact⟨d1 t d,rfl⟩
 .exact(zN _).mem_iff.mpr (b8.mpr ⟨t,T t d,rfl⟩)
 .rw[gM]at u;have r:=sortSetTP_eq (k:=ws) ∅;have N:D.map (trP w ws)=(D.map λt=>(t,restT w ws t)).map cZ:=by rw[cU];rfl
  rw[N]at u;have C:kq (qh [.lst ((D.map λt=>(t,restT w ws t)).map cZ)])=aa (.lst ((kQ (D.map λt=>(t,restT w ws t))).map cZ)):=by
   have o:qh [.lst ((D.map λt=>(t,restT w ws t)).map cZ)]=aa (.lst ((kQ (D.map λt=>(t,restT w ws t))).map cZ)):=by show(uD _).bind _=_;rw[Ga,eZ,if_pos (by rw[cX];exact few_trails M W f dn d1)]
   rw[o];show(if je ((kQ (D.map λt=>(t,restT w ws t))).map cZ)=ai then aa (PO.lst _)else ac)=_;rw[if_pos (imms_qr _)]
  have g:jB [] dYes (dV 0) (ak (aN (bK ws))) [] [⇑w,.val (.tup (ak ws)),.own (.lst []),.none,.none,.none,.none]=.ok (ak (aN (bK ws))) [⇑w,.val (.tup (ak ws)),.own (.lst []),.none,.none,.none,.none]:=by have:=kR (cap:=[]) (dt:=dYes) (de:=dV 0) (ε:=[⇑w,.val (.tup (ak ws)),.own (.lst []),.none,.none,.none,.none]) (λ_=>ai) (λv=>v) (ak (aN (bK ws))) (λv _=>⟨rfl,λ_=>rfl⟩) [];simp_all
  have n:yaJ a [⇑w,.val (.tup (ak ws)),.none,.none,.none,.none,.none]=.ok (.ret (.val (.lst ((kQ (D.map λt=>(t,restT w ws t))).map cZ)))) [⇑w,.val (.tup (ak ws)),.own (.lst ((D.map λt=>(t,restT w ws t)).map cZ)),.own (.lst []),s4,s5,s6]:=by
   show aC _ (aC _ (aC (λε=>cm (eO trC (trB a) 100000 ε)) _)) _=_;refine(bW (ε1:=[⇑w,.val (.tup (ak ws)),.own (.lst []),.none,.none,.none,.none]) (by rfl)).trans ?_;refine(bW (ε1:=[⇑w,.val (.tup (ak ws)),.own (.lst []),.own (.lst (ak (aN (bK ws)))),.none,.none,.none]) ?_).trans ?_
   .have m:bp (dF (dL pW (aw (dV 1) (az)))) [⇑w,.val (.tup (ak ws)),.own (.lst []),.none,.none,.none,.none]=.ok (ak (aN (bK ws))) [⇑w,.val (.tup (ak ws)),.own (.lst []),.none,.none,.none,.none]:=by
     have E:fV (.lst (ak (aN (bK ws))))=aa (ak (aN (bK ws))):=rfl;generalize ak (aN (bK ws))=SU at r E;generalize ak ws=PW at r;simp![bp,r,E]
    generalize ak (aN (bK ws))=SU at m g;generalize bp (dF (dL pW (aw (dV 1) (az))))=DI at m;generalize S:(dV 0:ad PV)=D0 at g;generalize Q:(dYes:ad Bool)=DY at g;generalize ak ws=PW at m g;simp[cR,cy,m,g,R.bind]
   refine(bW (d1:=λε=>cm (eO trC (trB a) 100000 ε)) (ε1:=[⇑w,.val (.tup (ak ws)),.own (.lst ((D.map λt=>(t,restT w ws t)).map cZ)),.own (.lst []),s4,s5,s6]) ?_).trans ?_
   .show cm (eO trC (trB a) 100000 _)=_;rw[u];rfl
   .generalize ((D.map λt=>(t,restT w ws t)).map cZ)=MK at C;generalize ((kQ (D.map λt=>(t,restT w ws t))).map cZ)=SQ at C;generalize ak ws=PW;have G:eR (λxs=>kq (qh xs)) 2 [⇑w,.val (.tup PW),.own (.lst MK),.own (.lst []),s4,s5,s6]=.ok (.lst SQ) [⇑w,.val (.tup PW),.own (.lst MK),.own (.lst []),s4,s5,s6]:=by unfold eR;show(aD (aa MK) _).bind _=_;simp_all
    generalize eR (λxs=>kq (qh xs)) 2=DO at G;simp[bV,dF,G,R.bind,kc,aD]
  unfold pZ;generalize yaJ a=DD at n ⊢;generalize ((kQ (D.map λt=>(t,restT w ws t))).map cZ)=SQ at n ⊢;generalize ak ws=PW at n ⊢;simp[bo,fP,bn,bz,n,back,gf,aD,R.bind]
end
noncomputable abbrev Ri(l:List Tx):Prop:=l.Pairwise (λa b=>bO a b=ai)
theorem Ri.eq(d:Ri l)(c:Ri m)(h:l.Perm m):l=m :=CM (le:=λa b=>bO a b=ai) (λ_ _ _ _=>Bq) d c h
theorem leT_self(x:Tx):bO x x=ai:=by have:=Ai x x;simpa using this
theorem head_min{l:List Tx}(g:Ri A)(c:∀y∈A,bO x y=ai)(b:x∈A):∃a,A=x::a:=by
 cases A with
 |nil=>trivial
 |cons y a=>
  have f:=c y (by simp);have d:bO y x=ai:=by
   rcases bQ.mp b with rfl|b
   all_goals simp_all
  exact⟨a,by rw[Bq f d]⟩
theorem ways_full:∀(l:List Tx) (W:List DrK) (d c A B:List Tx),(d,c)∈W->Ri l->Ri A->Ri B->(A++B).Perm l->(d++A,c++B)∈waysT l W
 |[],W,d,c,A,B,i,_,_,_,b=>by have:=b.eq_nil;obtain⟨rfl,rfl⟩:=List.append_eq_nil_iff.mp this;simpa[waysT]using i
 |x::l,W,d,c,A,B,i,q,m,j,b=>by
  have n:∀y∈A++B,bO x y=ai:=λy f=>by
   rcases bQ.mp (b.mem_iff.mp f)with rfl|h
   .exact leT_self _
   simp_all
  have o:=(jH.mp q).2;have g:x∈A++B:=b.mem_iff.mpr (by simp);rcases lu.mp g with g|g
  .obtain⟨s,rfl⟩:=head_min (l:=l) m (λy f=>n y (by simp[f])) g;have:=ways_full l (W.flatMap (wayS x)) (d++[x]) c s B (jJ.mpr ⟨_,i,by simp[wayS]⟩) o (jH.mp m).2 j (JZ (a:=x) b);rw[waysT];simpa using this
  .obtain⟨p,rfl⟩:=head_min (l:=l) j (λy f=>n y (by simp[f])) g;have r:(A++p).Perm l:=JZ (a:=x) (JG.symm.trans b);have:=ways_full l (W.flatMap (wayS x)) d (c++[x]) A p (jJ.mpr ⟨_,i,by simp[wayS]⟩) o m (jH.mp j).2 r;rw[waysT];simpa using this
theorem le_cons:ltL (y::a) (x::xs)=am↔x<y\/x=y/\ltL a xs=am:=by
 rw[ltL_cons]
 grind
theorem le_tx:bO x y=ai↔x<y\/x=y:=by
 unfold bO
 grind
noncomputable def ins(t:Tx):List Tx->List Tx
 |[]=>[t]
 |y::a=>if bO t y=ai then t::y::a else y::ins t a
theorem ins_perm(t:Tx):∀L,(ins t L).Perm (t::L)
 |[]=>.refl _
 |y::a=>by
  unfold ins;split
  .rfl
  .exact((ins_perm t a).cons y).trans (List.Perm.swap t y a)
theorem ins_rise(t:Tx):∀{L},Ri L->Ri (ins t L)
 |[],_=>CN ..
 |y::d,h=>by
  have b:=jH.mp h;unfold ins;split
  .rename_i c;exact jH.mpr ⟨λz a=>by
    rcases bQ.mp a with rfl|a
    .trivial
    .exact rT _ _ _ c (b.1 z a),h⟩
  .rename_i c;refine jH.mpr ⟨λz a=>?_,ins_rise t b.2⟩;rcases bQ.mp ((ins_perm t d).mem_iff.mp a)with rfl|a
   .have:=Ai z y;lia
   .exact b.1 z a
theorem sort_ins(h:Ri L):aN (t::L)=ins t L:=Ri.eq (lc _) (ins_rise t h) ((dI _).trans (ins_perm t L).symm)
theorem ins_head(h:Ri (y::a)):ins y a=y::a:=by
 cases a with
 |nil=>rfl
 |cons z b=>unfold ins;simp_all
theorem ins_mono1:∀{L:List Tx},Ri L->∀(a t:Tx),bO a t=ai->ltL (ins t L) (ins a L)=am
 |[],_,a,t,h=>by
  refine le_cons.mpr ?_;rcases le_tx.mp h with h|h
  .exact .inl h
  .exact .inr ⟨h,ltL_irr _⟩
 |y::i,g,a,t,h=>by
  have f:=(jH.mp g).2;unfold ins;by_cases c:bO a y=ai
  .rw[if_pos c];by_cases b:bO t y=ai
   .rw[if_pos b];refine le_cons.mpr ?_;rcases le_tx.mp h with h|h
    .exact .inl h
    .exact .inr ⟨h,ltL_irr _⟩
   .rw[if_neg b];refine le_cons.mpr ?_;rcases le_tx.mp c with d|d
    .exact .inl d
    .refine .inr ⟨d,?_⟩;have:=ins_mono1 f y t ⋯;rwa[ins_head g]at this
  .have b:¬bO t y=ai:=λz=>c (rT _ _ _ h z);rw[if_neg c,if_neg b];exact le_cons.mpr (.inr ⟨rfl,ins_mono1 f a t h⟩)
theorem ins_mono2(t:Tx):∀{L M:List Tx},L.length=M.length->ltL M L=am->ltL (ins t M) (ins t L)=am
 |[],[],_,_=>ltL_irr _
 |y::i,z::g,c,h=>by
  unfold ins;rcases le_cons.mp h with b|⟨rfl,b⟩
  .by_cases a:bO t y=ai
   .have f:bO t z=ai:=rT _ _ _ a (le_tx.mpr (.inl b));rw[if_pos a,if_pos f];exact le_cons.mpr (.inr ⟨rfl,h⟩)
   .rw[if_neg a];have d:y<t:=Decidable.byContradiction λq=>a (decide_eq_true (Dh.mp q));split
    .exact le_cons.mpr (.inl d)
    .exact le_cons.mpr (.inl b)
  .by_cases a:bO t y=ai
   .rw[if_pos a,if_pos a];exact le_cons.mpr (.inr ⟨rfl,h⟩)
   .rw[if_neg a,if_neg a];exact le_cons.mpr (.inr ⟨rfl,ins_mono2 t (~~~c) b⟩)
theorem sort_mono(d:bO b t=ai)(f:Ri m)(c:Ri a)(g:m.length=a.length)(h:ltL a m=am):ltL (aN (t::a)) (aN (b::m))=am:=by rw[sort_ins c,sort_ins f];exact xX (ins_mono1 c b t d) (ins_mono2 b g h)
noncomputable def wsT(w:Nat)(ts:List Tx):List Tx:=ts.flatMap λt=>aM t w
structure RL(w:Nat)(ws:List Tx)(k:Nat)(ts:List Tx):Prop where
 rise:Ri ts
 len:ts.length=k
 abc:∀t∈ts,∀c∈t,c∈cq
 long:∀t∈ts,w<=t.length
 perm:(wsT w ts).Perm ws
noncomputable def LeastL(w:Nat)(a:List Tx)(k:Nat)(m:List Tx):Prop:=(m=[]/\∀ts,¬RL w a k ts)\/(RL w a k m/\∀ts,RL w a k ts->ltL ts m=am)
theorem wsT_cons(w:Nat)(t:Tx)(ts:List Tx):wsT w (t::ts)=aM t w++wsT w ts:=rfl
theorem wsT_perm{ts:List Tx}(h:ts.Perm a):(wsT w ts).Perm (wsT w a):=h.flatMap_right _
theorem wsT_len(a:1<=w):∀{ts:List Tx},(∀t∈ts,w<=t.length)->ts.length<=(wsT w ts).length
 |[],_=>gn _
 |t::ts,h=>by have:=wsT_len a (ts:=ts) λu b=>h u (by simp[b]);have c:=h t (by simp);rw[wsT_cons,ef,k_ a,cI];lia
structure Wg(w:Nat)(ws:List Tx):Prop where
 win:∀x∈ws,x.length=w/\∀c∈x,c∈cq
 rise:Ri ws
 few:ws.length<=6
theorem Wg.sub{a:List Tx}(g:Wg w ws)(h:a.Sublist ws):Wg w a:=⟨λx b=>g.win x (h.mem b),g.rise.sublist h,bT h.length_le g.few⟩
theorem Wg.good(g:Wg w a)(h:a≠[]):Good cq w a:=⟨λx b=>(g.win x b).1,λx b=>(g.win x b).2,tU.mpr h,by have:=g.few;lia⟩
theorem one_mem(b:1<=w)(g:Wg w a)(h:a≠[])(d:∀c∈t,c∈cq):t∈dz w a↔(aM t w).Perm a:=by
 rw[Kk b (tU.mpr h) g.win g.rise d];constructor
 .intro e;rw[<-e];exact(dI _).symm
 .intro p;rw[zT p,vc g.rise]
theorem wsT_one(w:Nat)(t:Tx):wsT w [t]=aM t w:=by simp[wsT]
theorem text_one(b:1<=w)(g:Wg w a)(h:a≠[])(c:t∈dz w a):RL w a 1 [t]:=by obtain⟨j,f⟩:=KQ b (tU.mpr h) g.win c;have i:=tU.mpr h;exact⟨CN ..,rfl,λu d=>⋯,λu d=>by grind,by rw[wsT_one];exact(one_mem b g h f).mp c⟩
theorem least_one(c:1<=w)(g:Wg w a)(h:a≠[]):LeastL w a 1 ((dz w a).take 1):=by
 have f:=Pw c (tU.mpr h) g.win;have d:∀ts,RL w a 1 ts->∃t∈dz w a,ts=[t]:=λts r=>by obtain⟨t,rfl⟩:=JU.mp r.len;refine⟨t,(one_mem c g h (r.abc t (by simp))).mpr ?_,rfl⟩;have:=r.perm;rwa[wsT_one]at this
 cases e:dz w a with
 |nil=>refine .inl ⟨rfl,λts r=>?_⟩;simp_all
 |cons j r=>
  refine .inr ⟨text_one c g h (by rw[e];simp),λts i=>?_⟩;obtain⟨t,b,rfl⟩:=d ts i;rw[e]at b f;refine le_cons.mpr ?_;rcases bQ.mp b with rfl|b
  .exact .inr ⟨rfl,A4 _⟩
  .rcases le_tx.mp ((jH.mp f).1 t b)with z|z
   .exact .inl z
   .exact .inr ⟨z,A4 _⟩
theorem ptL_fst(i:Ri (x::r))(d:Ri A)(j:Ri B)(b:B≠[])(g:x∈A)(c:(A++B).Perm (x::r)):(A,B)∈ptL x r:=by
 obtain⟨m,rfl⟩:=head_min (l:=r) d (λy f=>by
  rcases bQ.mp (c.mem_iff.mp (show y∈A++B by simp[f]))with rfl|h
  .exact leT_self _
  simp_all) g
 refine ptL_mem.mpr ⟨?_,b⟩;have:=ways_full r [([x],[])] [x] [] m B (by simp) (jH.mp i).2 (jH.mp d).2 j (JZ (a:=x) c);trivial
noncomputable def stepO(m1 m2:List Tx):Option (List Tx):=if m1≠[]/\m2≠[] then aa (aN (m1++m2))else ac
theorem least_step(F:1<=w)(g:Wg w (x::r))(k1:1<=k)(f:DrK->List Tx)(X:∀p∈ptL x r,LeastL w p.2 k (f p)):LeastL w (x::r) (k+1) ((pD ((ptL x r).filterMap λp=>stepO ((dz w p.1).take 1) (f p))).getD []):=by
 have W:∀p∈ptL x r,Wg w p.1/\Wg w p.2/\p.1≠[]/\p.2≠[]/\(p.1++p.2).Perm (x::r):=λp C=>by obtain⟨y,D⟩:=ptL_way C;exact⟨g.sub y.s1,g.sub y.s2,y.ne,D,y.perm⟩
 have j:∀l∈(ptL x r).filterMap λp=>stepO ((dz w p.1).take 1) (f p),RL w (x::r) (k+1) l:=λl N=>by
  obtain⟨p,C,e⟩:=yQ.mp N;obtain⟨S,g2,I,n2,G⟩:=W p C;unfold stepO at e;split at e
  .rename_i D;cases e;have v:RL w p.2 k (f p):=(X p C).resolve_left (λz=>D.2 z.1) |>.1
   have A:RL w p.1 1 ((dz w p.1).take 1):=(least_one F S I).resolve_left (λz=>D.1 z.1) |>.1
   have E:=dI ((dz w p.1).take 1++f p);refine⟨lc _,by rw[E.length_eq,ef,A.len,v.len];lia,λt d=>?_,λt d=>?_,?_⟩
   .rcases lu.mp (E.mem_iff.mp d)with h|h
    .exact A.abc t h
    .exact v.abc t h
   .rcases lu.mp (E.mem_iff.mp d)with h|h
    .exact A.long t h
    .exact v.long t h
   .refine(wsT_perm E).trans ?_;have:wsT w ((dz w p.1).take 1++f p)=wsT w ((dz w p.1).take 1)++wsT w (f p):=by unfold wsT;simp
    rw[this];exact(A.perm.append v.perm).trans G
  trivial
 have s:∀ts,RL w (x::r) (k+1) ts->∃l∈(ptL x r).filterMap λp=>stepO ((dz w p.1).take 1) (f p),ltL ts l=am:=λts a=>by
  obtain⟨t,d,L⟩:=jJ.mp (a.perm.mem_iff.mpr (i4):x∈wsT w ts);have i:ts.Perm (t::ts.erase t):=qJ d;have B:(ts.erase t).Sublist ts:=List.erase_sublist;have n:Ri (ts.erase t):=a.rise.sublist B;have o:(ts.erase t).length=k:=by have:=i.length_eq;rw[a.len,cI]at this;lia
  have Q:=dI (aM t w);have P:=dI (wsT w (ts.erase t));have G:(aN (aM t w)++aN (wsT w (ts.erase t))).Perm (x::r):=(Q.append P).trans ((wsT_perm i).symm.trans a.perm);have hBl:k<=(aN (wsT w (ts.erase t))).length:=by rw[P.length_eq];have:=wsT_len F (ts:=ts.erase t) λu c=>a.long u (B.mem c);simp_all
  have O:aN (wsT w (ts.erase t))≠[]:=λz=>⋯
  have J:=ptL_fst g.rise (lc _) (lc _) O (Q.mem_iff.mpr L) G;obtain⟨S,g2,I,n2,_⟩:=W _ J;have T:RL w (aN (wsT w (ts.erase t))) k (ts.erase t):=⟨n,o,λu c=>a.abc u (B.mem c),λu c=>a.long u (B.mem c),P.symm⟩
  have q:RL w (aN (aM t w)) 1 [t]:=⟨CN ..,rfl,λu c=>by rw[jo.mp c];exact a.abc t d,λu c=>by rw[jo.mp c];exact a.long t d,by rw[wsT_one];exact Q.symm⟩
  obtain⟨H,q2⟩:=(X _ J).resolve_left λz=>z.2 _ T;obtain⟨q3,q4⟩:=(least_one F S I).resolve_left λz=>z.2 _ q;obtain⟨t0,Z⟩:=JU.mp q3.len;have M:f (aN (aM t w),aN (wsT w (ts.erase t)))≠[]:=λz=>by
   have:=H.len
   grind
  refine⟨_,yQ.mpr ⟨_,J,if_pos ⟨by rw[Z];simp,M⟩⟩,?_⟩;have Y:=q4 _ q;rw[Z]at Y ⊢;have h5:bO t0 t=ai:=by
   rcases le_cons.mp Y with z|⟨z,_⟩
   .exact le_tx.mpr (.inl z)
   .exact le_tx.mpr (.inr z)
  have e1:ts=aN (t::ts.erase t):=Ri.eq a.rise (lc _) (i.trans (dI _).symm);have h6:=sort_mono (m:=f (aN (aM t w),aN (wsT w (ts.erase t)))) h5 H.rise n (by rw[H.len,o]) (q2 _ T);rw[<-e1]at h6;trivial
 generalize (ptL x r).filterMap (λp=>stepO ((dz w p.1).take 1) (f p))=LS at j s;cases LS with
 |nil=>refine .inl ⟨rfl,λts a=>?_⟩;simp_all
 |cons b bs=>obtain⟨h1,h2⟩:=Fz bs b;refine .inr ⟨j _ h1,λts a=>?_⟩;obtain⟨l,N,h3⟩:=s ts a;exact xX h3 (h2 l N)
end Sh
namespace K28
open L2 Pu Mx Sh
section
variable{a:Ad}
theorem z8(h:d b=.ok x b)(c:G [.val x]=.ok (.val y) [.val x]):a9 (aL G (gV d Pu.bG)) b=.ok y b:=by simp[a9,aL,gV,Pu.bG,h,c,R.bind,aD,dY,eT,cg,c8,eF,qe]
theorem AS(h:d ε=.ok x ε)(b:G [.val x]=.ok (.own (.lst l)) [.val x]):a9 (aL G (gV d Pu.bG)) ε=.ok (.lst l) ε:=by simp[a9,aL,gV,Pu.bG,h,b,R.bind,aD,dY,eT,cg,c8,eF,qe,kc]
theorem Lb(h:d ε=.ok x ε)(g:e ε=.ok y ε)(c:f ε=.ok z ε)(b:G [.val x,.val y,.val z]=.ok (.val u) [.val x,.val y,.val z]):a9 (aL G (gV d (gV e (gV f Pu.bG)))) ε=.ok u ε:=by simp[a9,aL,gV,Pu.bG,h,g,c,b,R.bind,aD,dY,eT,cg,c8,eF,qe]
theorem EW(h:d ε=.ok (.lst l) ε):dF d ε=.ok (.lst l) ε:=by simp[dF,h,R.bind,kc,aD]
theorem xY(h:d ε=.ok x ε)(b:fV x=aa l):bp d ε=.ok l ε:=by simp[bp,h,b,R.bind,aD]
theorem AD(h:d ε=.ok x ε)(b:e ε=.ok y ε):dL b9 (aw d (aw e az)) ε=.ok (.tup [x,y]) ε:=by simp[dL,aw,az,h,b,R.bind,aD,b9]
theorem rO{b:aj}{x:PV}{z:c}(h:d b=.ok x b)(g:f [x]=aa z):dL f (aw d az) b=.ok z b:=by simp[dL,aw,az,h,g,R.bind,aD]
theorem jf{ε:aj}{x y z:PV}(h:d ε=.ok x ε)(c:e ε=.ok y ε)(b:f x y=aa z):d2 f d e ε=.ok z ε:=by simp[d2,h,c,b,R.bind,aD]
theorem By(h:d ε=.ok (.bl b) ε):dB d ε=.ok b ε:=by simp[dB,h,R.bind,aD,ka]
theorem FY(h:d ε=.ok (.lst (ak T)) ε):bN bY d bS (bJ (dC (.int 1))) ε=.ok (aF (T.take 1)) ε:=by
 have b:bY (.lst (ak T)) ac (aa 1)=aa (aF (T.take 1)):=by have b:dS (ak T) ac (aa ((1:Nat):Int))=(ak T).take 1:=FU _ 1;show aa (PV.lst (dS (ak T) ac (aa ((1:Nat):Int))))=_;rw[b];unfold aF ak;simp
 generalize aF (T.take 1)=L at b;generalize ak T=P at b h;simp[bN,h,bS,bJ,dC,oK,R.bind,aD,b]
theorem len_pos(h:d ε=.ok (aF m) ε):dB (d2 (cP λi j=>decide (j<i)) (dL bu (aw d az)) (dC (.int 0))) ε=.ok (decide (m≠[])) ε:=by refine By (jf (x:=.int (m.length:Nat)) (y:=.int 0) (rO h (by simp[bu,aF,fu])) rfl ?_);show aa (PV.bl (decide ((0:Int)<(m.length:Nat))))=_;congr 2;refine decide_eq_decide.mpr ?_;rw[<-tU];simp
noncomputable def xW:ad aG:=(gX 3 (dF (dL gZ (aw (d2 bq (dV 6) (dV 7)) (az)))))
noncomputable def mY(a:Ad)(rc:ad Slot):ad aG:=(aC (bE 6 (bN bY (a9 (aL (nu a) (gV (dL b9 (aw (dV 1) (aw (dV 4) (az)))) (Pu.bG)))) (bS) (bJ (dC (.int 1))))) (aC (bE 7 (a9 (aL (rc) (gV (dV 5) (gV (dV 1) (gV (d2 fA (dV 2) (dC (.int 1))) (Pu.bG))))))) (bI (ou (dB (d2 (cP λi j=>decide (j<i)) (dL bu (aw (dV 6) (az))) (dC (.int 0)))) (dB (d2 (cP λi j=>decide (j<i)) (dL bu (aw (dV 7) (az))) (dC (.int 0))))) xW (cH))))
theorem Mh{LS:List PV}{m1 m2:List Tx}(g:m1.length+m2.length<=60)(f:LS.length<bw):xW [s0,s1,s2,.own (.lst LS),s4,s5,.val (aF m1),.val (aF m2)]=.ok .next [s0,s1,s2,.own (.lst (LS++[aF (aN (m1++m2))])),s4,s5,.val (aF m1),.val (aF m2)]:=by
 have b:bq (aF m1) (aF m2)=aa (aF (m1++m2)):=by show(if(ak m1).length+(ak m2).length<=bw then aa (PV.lst (ak m1++ak m2))else ac)=_;rw[if_pos (by rw[fu,fu];unfold bw;lia),Ir];rfl
 have c:gZ [aF (m1++m2)]=aa (.lst (ak (aN (m1++m2)))):=by show(dZ (ak _)).bind _=_;rw[kb,eZ,if_pos (by rw[ef];lia)]
 have d:kc (.lst (ak (aN (m1++m2))))=aa (aF (aN (m1++m2))):=rfl;generalize aF (aN (m1++m2))=L3 at d;generalize ak (aN (m1++m2))=L4 at d c;generalize aF (m1++m2)=L5 at b c;generalize aF m1=L1 at b;generalize aF m2=L2 at b;simp[xW,gX,dF,dL,aw,az,d2,dV,bR,R.bind,aD,b,c,d,f]
theorem Pg{w k:Nat}(u:1<=w)(t:w<=4){p:DrK}{m2:List Tx}(g:Wg w p.1)(v:p.1≠[])(E:m2.length<=50){LS:List (List Tx)}(F:LS.length<bw)(D:rc [.val (.tup (ak p.2)),⇑w,⇑k]=.ok (.val (aF m2)) [.val (.tup (ak p.2)),⇑w,⇑k]):∃A o,mY a rc [s0,⇑w,⇑((k+1:Nat):Int),.own (.lst (LS.map aF)),.val (.tup (ak p.1)),.val (.tup (ak p.2)),s6,s7]=.ok .next [s0,⇑w,⇑((k+1:Nat):Int),.own (.lst ((LS++(stepO ((dz w p.1).take 1) m2).toList).map aF)),.val (.tup (ak p.1)),.val (.tup (ak p.2)),A,o]:=by
 have C:=Ig (a:=a) (g.good v) u t g.rise;have B:fA (.int ((k+1:Nat):Int)) (.int 1)=aa (.int k):=by show aa (PV.int (((k+1:Nat):Int)-1))=_;simp
 generalize s:(dz w p.1).take 1=m1;have q:m1.length<=1:=by grind
 refine⟨.val (aF m1),.val (aF m2),?_⟩;unfold mY;refine(bW (ε1:=[s0,⇑w,⇑((k+1:Nat):Int),.own (.lst (LS.map aF)),.val (.tup (ak p.1)),.val (.tup (ak p.2)),.val (aF m1),s7]) ?_).trans ?_
 .have h:=FY (d:=(a9 (aL (nu a) (gV (dL b9 (aw (dV 1) (aw (dV 4) (az)))) (Pu.bG))))) (ε:=[s0,⇑w,⇑((k+1:Nat):Int),.own (.lst (LS.map aF)),.val (.tup (ak p.1)),.val (.tup (ak p.2)),s6,s7]) (AS (x:=a_ w p.1) (AD rfl rfl) C);rw[s]at h;exact oM h
 refine(bW (ε1:=[s0,⇑w,⇑((k+1:Nat):Int),.own (.lst (LS.map aF)),.val (.tup (ak p.1)),.val (.tup (ak p.2)),.val (aF m1),.val (aF m2)]) ?_).trans ?_
 .have h:=Lb (d:=dV 5) (e:=dV 1) (f:=(d2 fA (dV 2) (dC (.int 1)))) (ε:=[s0,⇑w,⇑((k+1:Nat):Int),.own (.lst (LS.map aF)),.val (.tup (ak p.1)),.val (.tup (ak p.2)),.val (aF m1),s7]) rfl rfl (jf (x:=.int ((k+1:Nat):Int)) (y:=.int 1) rfl rfl B) D;exact oM h
 have b1:=len_pos (d:=dV 6) (m:=m1) (ε:=[s0,⇑w,⇑((k+1:Nat):Int),.own (.lst (LS.map aF)),.val (.tup (ak p.1)),.val (.tup (ak p.2)),.val (aF m1),.val (aF m2)]) rfl;have b2:=len_pos (d:=dV 7) (m:=m2) (ε:=[s0,⇑w,⇑((k+1:Nat):Int),.own (.lst (LS.map aF)),.val (.tup (ak p.1)),.val (.tup (ak p.2)),.val (aF m1),.val (aF m2)]) rfl;have b:=Mh (s0:=s0) (s1:=⇑w) (s2:=⇑((k+1:Nat):Int)) (s4:=.val (.tup (ak p.1))) (s5:=.val (.tup (ak p.2))) (LS:=LS.map aF) (m1:=m1) (m2:=m2) ∅ (by rw[cX];trivial);rw[ml];generalize (dB (d2 (cP λi j=>decide (j<i)) (dL bu (aw (dV 6) (az))) (dC (.int 0))))=D1 at b1;generalize (dB (d2 (cP λi j=>decide (j<i)) (dL bu (aw (dV 7) (az))) (dC (.int 0))))=D2 at b2;generalize xW=AP at b;generalize LS.map aF=LL at b b1 b2;unfold stepO;generalize ((k+1:Nat):Int)=KI at b1 b2 b;have c:∃r,aF (aN (m1++m2))=r:=⟨_,rfl⟩
 obtain⟨r,c⟩:=c;rw[c]at b;by_cases n:m1=[]
 .rw[if_neg (λz=>z.1 n)];rw[decide_eq_false (not_not_intro n)]at b1;simp[bI,ou,b1,R.bind,cH]
 .rw[decide_eq_true n]at b1;by_cases l:m2=[]
  .rw[if_neg (λz=>z.2 l)];rw[decide_eq_false (not_not_intro l)]at b2;simp[bI,ou,b1,b2,R.bind,cH]
  .rw[decide_eq_true l]at b2;rw[if_pos ⟨n,l⟩];simp[bI,ou,b1,b2,R.bind,b,c]
theorem FZ{w k:Nat}(i:1<=w)(h:w<=4){s0:Slot}{f:DrK->List Tx}:∀(L:List DrK) (LS:List (List Tx)) (s4 s5 s6 s7:Slot),LS.length+L.length<bw -> (∀p∈L,Wg w p.1/\p.1≠[]/\(f p).length<=50/\rc [.val (.tup (ak p.2)),⇑w,⇑k]=.ok (.val (aF (f p))) [.val (.tup (ak p.2)),⇑w,⇑k]) -> ∃l x y c,fi 4 5 (mY a rc) (drVs L) [s0,⇑w,⇑((k+1:Nat):Int),.own (.lst (LS.map aF)),s4,s5,s6,s7]=.ok .next [s0,⇑w,⇑((k+1:Nat):Int),.own (.lst ((LS++L.filterMap λp=>stepO ((dz w p.1).take 1) (f p)).map aF)),l,x,y,c]
 |[],LS,s4,s5,s6,s7,_,_=>⟨s4,s5,s6,s7,by simp[drVs,fi]⟩
 |p::L,LS,s4,s5,s6,s7,B,j=>by
  rw[cI]at B;obtain⟨g,v,A,z⟩:=j p (by simp);obtain⟨n,m,C⟩:=Pg (a:=a) (rc:=rc) (k:=k) i h (s0:=s0) (s6:=s6) (s7:=s7) g v A (LS:=LS) ∅ z;have D:(stepO ((dz w p.1).take 1) (f p)).toList.length<=1:=by simp
  obtain⟨u,t,s,o,d⟩:=FZ i h (s0:=s0) L (LS++(stepO ((dz w p.1).take 1) (f p)).toList) (.val (.tup (ak p.1))) (.val (.tup (ak p.2))) n m (by grind) λq d=>j q (by simp[d]);refine⟨u,t,s,o,?_⟩;show fi 4 5 (mY a rc) (.tup [.tup (ak p.1),.tup (ak p.2)]::drVs L) _=_;rw[fi];show(match mY a rc [s0,⇑w,⇑((k+1:Nat):Int),.own (.lst (LS.map aF)),.val (.tup (ak p.1)),.val (.tup (ak p.2)),s6,s7]with
   |.ok .next b=>fi 4 5 (mY a rc) (drVs L) b
   |.ok .cont b=>fi 4 5 (mY a rc) (drVs L) b
   |.ok .brk b=>.ok .next b
   |r=>r)=_
  rw[C];dsimp only;rw[d];congr 6;rw[fZ];congr 1;rw[mf];cases stepO ((dz w p.1).take 1) (f p) <;> rfl
theorem LeastL.len(h:LeastL w ws k m):m.length<=k:=by
 rcases h with⟨rfl,_⟩|⟨h,_⟩
 .simp
 .rw[h.len];simp
noncomputable def zR(a:Ad):ad aG:=(bI (dB (d2 (Pu.eqT am) (dV 2) (dC (.int 1)))) (bV (bN bY (a9 (aL (nu a) (gV (dL b9 (aw (dV 1) (aw (dV 0) (az)))) (Pu.bG)))) (bS) (bJ (dC (.int 1))))) (cH))
theorem Gj(rc:ad Slot):yaN a rc=aC (zR a) (aC (cR 3 (dL cK (az))) (aC (λε=>cm (jU 4 5 (bp (a9 (aL (pX a) (gV (dV 0) (Pu.bG))))) (mY a rc) ε)) (bV (uk 3)))):=rfl
theorem HZ(h:d [.val f,.val c,.val b,.none,.none,.none,.none,.none]=.ok (.ret (.val v)) [.val f,.val c,.val b,s3,s4,s5,s6,s7]):bo 3 [] (bn 5 d) [.val f,.val c,.val b]=.ok (.val v) [.val f,.val c,.val b]:=by simp[bo,fP,bn,bz,h,back,aD,R.bind]
theorem Iw{w:Nat}(j:1<=w)(o:w<=4):∀(k i:Nat) (b:List Tx),k+1<=i->k<=40->Wg w b->b≠[] -> ∃m,LeastL w b (k+1) m/\kM a i [.val (.tup (ak b)),⇑w,⇑((k+1:Nat):Int)]=.ok (.val (aF m)) [.val (.tup (ak b)),⇑w,⇑((k+1:Nat):Int)]
 |0,i,b,hf,_,g,hn=>by
  obtain⟨f,rfl⟩:∃f,i=f+1:=⟨i-1,⋯⟩
  refine⟨_,least_one j g hn,?_⟩;have n:=Ig (a:=a) (g.good hn) j o g.rise;show bo 3 [] (bn 5 (yaN a (kM a f))) _=_;refine HZ (s3:=.none) (s4:=.none) (s5:=.none) (s6:=.none) (s7:=.none) ?_;rw[Gj];have e:zR a [.val (.tup (ak b)),⇑w,⇑((0+1:Nat):Int),.none,.none,.none,.none,.none]=.ok (.ret (.val (aF ((dz w b).take 1)))) [.val (.tup (ak b)),⇑w,⇑((0+1:Nat):Int),.none,.none,.none,.none,.none]:=by have u:dB (d2 (Pu.eqT am) (dV 2) (dC (.int 1))) [.val (.tup (ak b)),⇑w,⇑((0+1:Nat):Int),.none,.none,.none,.none,.none]=.ok ai [.val (.tup (ak b)),⇑w,⇑((0+1:Nat):Int),.none,.none,.none,.none,.none]:=rfl;have t:=FY (d:=(a9 (aL (nu a) (gV (dL b9 (aw (dV 1) (aw (dV 0) (az)))) (Pu.bG))))) (T:=dz w b) (ε:=[.val (.tup (ak b)),⇑w,⇑((0+1:Nat):Int),.none,.none,.none,.none,.none]) (AS (x:=a_ w b) (AD rfl rfl) n);unfold zR;generalize dB (d2 (Pu.eqT am) (dV 2) (dC (.int 1)))=D1 at u;generalize bN bY _ bS _=D2 at t;generalize ((0+1:Nat):Int)=KI at u t;simp[bI,u,R.bind,bV,t]
  unfold aC;rw[e]
 |k+1,i,b,hf,hk,g,hn=>by
  obtain⟨f,rfl⟩:∃f,i=f+1:=⟨i-1,∅⟩
  obtain⟨x,r,rfl⟩:=List.exists_cons_of_ne_nil hn;have C:=g.few;rw[cI]at C;have l:∀p∈ptL x r,Wg w p.1/\p.1≠[]/\∃m,LeastL w p.2 (k+1) m/\kM a f [.val (.tup (ak p.2)),⇑w,⇑((k+1:Nat):Int)]=.ok (.val (aF m)) [.val (.tup (ak p.2)),⇑w,⇑((k+1:Nat):Int)]:=λp c=>by obtain⟨y,v⟩:=ptL_way c;exact⟨g.sub y.s1,y.ne,Iw j o k f p.2 ∅ ∅ (g.sub y.s2) v⟩
  obtain⟨F,s⟩:∃F:DrK->List Tx,∀p∈ptL x r,LeastL w p.2 (k+1) (F p)/\kM a f [.val (.tup (ak p.2)),⇑w,⇑((k+1:Nat):Int)]=.ok (.val (aF (F p))) [.val (.tup (ak p.2)),⇑w,⇑((k+1:Nat):Int)]:=by refine⟨λp=>open Classical in if h:p∈ptL x r then(l p h).2.2.choose else [],λp c=>?_⟩;dsimp only;rw[dif_pos c];exact(l p c).2.2.choose_spec
  refine⟨_,least_step j g (by simp) F λp c=>(s p c).1,?_⟩;have E:=ptL_len x r;have z:2^r.length<=32:=JT (by decide) (show r.length<=5 by ac_rfl);obtain⟨s4,s5,s6,s7,q⟩:=FZ (a:=a) (rc:=kM a f) (k:=k+1) j o (s0:=.val (.tup (ak (x::r)))) (f:=F) (ptL x r) [] .none .none .none .none (by simp[bw];lia) λp c=>⟨(l p c).1,(l p c).2.1,bT (LeastL.len (s p c).1) ∅,(s p c).2⟩
  rw[gM,kI]at q;have c:=partings_eq (a:=a) x r ∅;show bo 3 [] (bn 5 (yaN a (kM a f))) _=_;generalize B:(ptL x r).filterMap (λp=>stepO ((dz w p.1).take 1) (F p))=LS at q;refine HZ (s3:=.own (.lst (LS.map aF))) (s4:=s4) (s5:=s5) (s6:=s6) (s7:=s7) ?_;rw[Gj];have D:Pu.eqT am (.int ((k+1+1:Nat):Int)) (.int 1)=aa (.bl am):=by rfl
  refine(bW (ε1:=[.val (.tup (ak (x::r))),⇑w,⇑((k+1+1:Nat):Int),.none,.none,.none,.none,.none]) ?_).trans ?_
  .rfl
  refine(bW (ε1:=[.val (.tup (ak (x::r))),⇑w,⇑((k+1+1:Nat):Int),.own (.lst []),.none,.none,.none,.none]) rfl).trans ?_;refine(bW (d1:=λε=>cm (jU 4 5 (bp (a9 (aL (pX a) (gV (dV 0) (Pu.bG))))) (mY a (kM a f)) ε)) (ε1:=[.val (.tup (ak (x::r))),⇑w,⇑((k+1+1:Nat):Int),.own (.lst (LS.map aF)),s4,s5,s6,s7]) ?_).trans ?_
  .have A:bp (a9 (aL (pX a) (gV (dV 0) (Pu.bG)))) [.val (.tup (ak (x::r))),⇑w,⇑((k+1+1:Nat):Int),.own (.lst []),.none,.none,.none,.none]=.ok (drVs (ptL x r)) [.val (.tup (ak (x::r))),⇑w,⇑((k+1+1:Nat):Int),.own (.lst []),.none,.none,.none,.none]:=xY (AS (x:=.tup (ak (x::r))) rfl c) rfl;show cm (jU 4 5 _ _ _)=_;unfold jU;rw[A];simp only[R.bind_ok];rw[q];rfl
  have n:=zy LS;generalize LS.map aF=LM at n;simp[bV,uk,bR,R.bind,aD,n]
end
noncomputable def Bn:Nat->Nat
 |0=>1
 |1=>1
 |2=>8
 |3=>60
 |4=>480
 |_=>4200
noncomputable def Gs:Nat->Nat
 |0=>Bn 0
 |m+1=>Bn (m+1)+3*Gs m
noncomputable def nq:Nat->Tx->List Tx
 |0,t=>[t]
 |m+1,t=>t::cq.flatMap λc=>nq m (t++[c])
theorem Ew:∀(m:Nat) (t u:Tx),u.length<=m->(∀c∈u,c∈cq)->t++u∈nq m t
 |0,t,u,h,_=>by have:u=[]:=lF ⋯;rw[this];simp[nq]
 |m+1,t,[],_,_=>by simp[nq]
 |m+1,t,c::u,h,ha=>by unfold nq;refine fE _ (jJ.mpr ⟨c,ha c (by simp),?_⟩);have:=Ew m (t++[c]) u (~~~h) λx a=>ha x (by simp[a]);simpa using this
noncomputable def wt(n w:Nat)(t:Tx):Nat:=Bn (n-(t.length+1-w))
theorem EQ:∀(m:Nat) (t:Tx),w<=t.length->t.length+1-w+m=n->((nq m t).map (wt n w)).sum=Gs m
 |0,t,h1,h2=>by show([t].map (wt n w)).sum=Bn 0;simp only[cn,kI,iK,List.sum_nil,Nat.add_zero];unfold wt;congr 1;simp_all
 |m+1,t,h1,h2=>by
  have a:∀c:Nat,((nq m (t++[c])).map (wt n w)).sum=Gs m:=λc=>EQ m (t++[c]) (by simp;lia) (by simp;lia);show((t::([97,98,99]:Tx).flatMap λc=>nq m (t++[c])).map (wt n w)).sum=_;simp only[o8,zg,gJ,cn,ml,iK,List.sum_append_nat,a];have:wt n w t=Bn (m+1):=by unfold wt;congr 1;lia
  rw[this];show _=Bn (m+1)+3*Gs m;lia
theorem HJ{f:Tx->Nat}:∀{D S:List Tx},D.Nodup->(∀t∈D,t∈S)->(D.map f).sum<=(S.map f).sum
 |[],S,_,_=>gn _
 |t::D,S,b,h=>by
  have a:=ik.mp b;have g:=qJ (h t (by simp));have d:=HJ (f:=f) (D:=D) (S:=S.erase t) a.2 λu c=>(List.mem_erase_of_ne λz=>a.1 ⋯).mpr (h u (by simp[c]))
  grind
theorem G4{g:Tx->List Tx}:∀(l:List Tx),(∀x∈l,((g x).map f).sum=k)->((l.flatMap g).map f).sum=l.length*k
 |[],_=>by simp
 |x::l,h=>by rw[o8,ml,List.sum_append_nat,h x (by simp),G4 l λy a=>h y (by simp[a]),cI,Nat.succ_mul,Nat.add_comm]
theorem M6{w:Nat}(b:1<=w){ws:List Tx}(u:ws.length<=5)(g:Wg w ws){L:List QrK}(l:(L.map (·.1)).Nodup)(j:∀p∈L,Trail w ws p.1/\p.2=restT w ws p.1):(L.map λp=>Bn p.2.length).sum<=Bn ws.length:=by
 have q:(L.map λp=>Bn p.2.length)=(L.map (·.1)).map (wt ws.length w):=by rw[cU];refine jm λp i=>?_;obtain⟨f,e⟩:=j p i;show Bn p.2.length=Bn (ws.length-(p.1.length+1-w));have:=(rest_perm f.sub).length_eq;rw[<-e,ef,k_ b]at this;congr 1;omega
 rw[q];have o:∀t∈L.map (·.1),t∈ws.flatMap (nq (ws.length-1)):=λt f=>by
  obtain⟨p,i,rfl⟩:=b8.mp f;obtain⟨a,_⟩:=j p i;have r:=under_len b a.sub;have s:=a.long;have d:p.1.take w∈aM p.1 w:=by rw[kr _ _ b];exact b8.mpr ⟨0,kE.mpr ∅,by rfl⟩
  have m:p.1.take w∈ws:=by
   have:=Oo.mp a.sub (p.1.take w)
   grind
  refine jJ.mpr ⟨_,m,?_⟩;have:=Ew (ws.length-1) (p.1.take w) (p.1.drop w) (by simp;omega) λc n=>a.abc c (List.mem_of_mem_drop n);simp_all
 refine bT (HJ l o) ?_;rcases tT ws.length with z|z
 .rw[lF z];simp
 rw[G4 (k:=Gs (ws.length-1)) ws λx d=>EQ _ x (by rw[(g.win x d).1];simp) (by rw[(g.win x d).1];lia)];obtain h|h|h|h|h:ws.length=1\/ws.length=2\/ws.length=3\/ws.length=4\/ws.length=5:=∅
 all_goals rw[h];decide
theorem Uh(n:Nat):1<=Bn n:=by unfold Bn;split <;> decide
theorem R8(n:Nat):Bn n<=4200:=by unfold Bn;split <;> decide
theorem Vd:RL w ws (k+1) (t::c)↔Trail w ws t/\RL w (restT w ws t) k c/\∀u∈c,bO t u=ai:=by
 constructor
 .intro h;have g:=h.perm;rw[wsT_cons]at g;have d:unD w ws t=ai:=Oo.mpr λx=>by grind
  have b:Trail w ws t:=⟨h.long t (by simp),h.abc t (by simp),d⟩
  have f:=jH.mp h.rise;refine⟨b,⟨f.2,by have:=h.len;simpa using this,λu a=>h.abc u (by simp[a]),λu a=>h.long u (by simp[a]),?_⟩,f.1⟩;have j:=(rest_perm d).trans g.symm;exact((List.perm_append_left_iff (aM t w)).mp (Dp.trans j)).symm
 .rintro⟨b,h,i⟩;refine⟨jH.mpr ⟨i,h.rise⟩,by simp[h.len],λu a=>?_,λu a=>?_,?_⟩
  .rcases bQ.mp a with rfl|a
   .exact b.abc
   .exact h.abc u a
  .rcases bQ.mp a with rfl|a
   .exact b.long
   .exact h.long u a
  .rw[wsT_cons];exact Dp.trans ((h.perm.append_right _).trans (rest_perm b.sub))
section
variable{a:Ad}
theorem F6{d1 d2 g:ad PV}{l:List PV}{r:Slot}(q:i ε=.ok f ε)(p:d1 ε=.ok d ε)(o:d2 ε=.ok c ε)(n:g ε=.ok b ε)(j:r=.val (.lst l)\/r=.own (.lst l))(m:G [.val f,.val d,.val c,.val b]=.ok r [.val f,.val d,.val c,.val b]):a9 (aL G (gV i (gV d1 (gV d2 (gV g (Pu.bG)))))) ε=.ok (.lst l) ε:=by
 have h:aL G (gV i (gV d1 (gV d2 (gV g (Pu.bG))))) ε=.ok r ε:=by unfold aL;rw[xh q (xh p (xh o (xh n N_))),R.bind_ok];simp[cg,c8,R.bind,aD,m,dY,eF,eT]
 unfold a9;rw[h];rcases j with rfl|rfl <;> rfl
theorem Ea(h:d ε=.ok x ε)(c:e ε=.ok y ε)(b:G [.val x,.val y]=.ok (.val z) [.val x,.val y]):a9 (aL G (gV d (gV e Pu.bG))) ε=.ok z ε:=by simp[a9,aL,gV,Pu.bG,h,c,b,R.bind,aD,dY,eT,cg,c8,eF,qe]
noncomputable def xb(rc:ad Slot):ad PV:=(dF (cy [5] (bp (a9 (aL (rc) (gV (dV 0) (gV (dV 6) (gV (d2 fA (dV 2) (dC (.int 1))) (gV (dV 5) (Pu.bG)))))))) (dYes) (d2 bq (dF (dL cK (aw (dV 1) (az)))) (dV 0))))
noncomputable def mS(rc:ad Slot):ad aG:=(bI (dB (d2 sr (dV 5) (dV 3))) (l7 4 (xb rc)) (cH))
theorem RT{b:List Tx}(d:ε[5]?=aa (↥t))(f:b.length<=100):cL (fR [5] (d2 bq (dF (dL cK (aw (dV 1) (az)))) (dV 0)) (aF b) ε)=.ok (aF (t::b)) ε:=by
 have c:bq (.lst [.str t]) (aF b)=aa (aF (t::b)):=by show(if [PV.str t].length+(ak b).length<=bw then aa (PV.lst ([.str t]++ak b))else ac)=_;rw[if_pos (by rw[fu];unfold bw;simp;lia)];rfl
 generalize aF (t::b)=L1 at c;generalize aF b=L2 at c;simp[fR,gz,d,cL,cg,c8,d2,dF,dL,aw,az,cK,kc,dV,R.bind,aD,c,dY,eF,eT]
theorem Sm{s3 s4:Slot}{k:Nat}{t:Tx}{rest:List Tx}{M:List (List Tx)}{w:Nat}{c:Slot}(h:c=.val (.lst (M.map aF))\/c=.own (.lst (M.map aF)))(o:∀b∈M,b.length<=100)(l:rc [⇑w,.val (.tup (ak rest)),⇑k,↥t]=.ok c [⇑w,.val (.tup (ak rest)),⇑k,↥t]):xb rc [⇑w,s0,⇑((k+1:Nat):Int),s3,s4,↥t,.val (.tup (ak rest))]=.ok (.lst ((M.map (t::·)).map aF)) [⇑w,s0,⇑((k+1:Nat):Int),s3,s4,↥t,.val (.tup (ak rest))]:=by
 have i:fA (.int ((k+1:Nat):Int)) (.int 1)=aa (.int k):=by show aa (PV.int (((k+1:Nat):Int)-1))=_;simp
 have m:=xY (d:=a9 (aL (rc) (gV (dV 0) (gV (dV 6) (gV (d2 fA (dV 2) (dC (.int 1))) (gV (dV 5) (Pu.bG))))))) (ε:=[⇑w,s0,⇑((k+1:Nat):Int),s3,s4,↥t,.val (.tup (ak rest))]) (F6 rfl rfl (jf (x:=.int ((k+1:Nat):Int)) (y:=.int 1) rfl rfl i) rfl h l) rfl;have f:=kR (cap:=[5]) (dt:=dYes) (de:=(d2 bq (dF (dL cK (aw (dV 1) (az)))) (dV 0))) (ε:=[⇑w,s0,⇑((k+1:Nat):Int),s3,s4,↥t,.val (.tup (ak rest))]) (λ_=>ai) (λv=>match v with|.lst xs=>.lst (.str t::xs)|v=>v) (M.map aF) (λv j=>by obtain⟨b,g,rfl⟩:=b8.mp j;exact⟨rfl,λ_=>RT rfl (o b g)⟩) [];have n:((M.map aF).filter (λ_=>ai)).map (λv=>match v with|.lst xs=>.lst (.str t::xs)|v=>v)=(M.map (t::·)).map aF:=by rw[zi.mpr (λ_ _=>rfl),cU,cU];rfl
 rw[gM,n]at f;unfold xb;generalize (M.map (t::·)).map aF=MM at f ⊢;refine EW ?_;unfold cy;rw[m];simp only[R.bind_ok];rw[f];rfl
theorem Lg{k:Nat}{t low:Tx}{rest:List Tx}{M:List (List Tx)}{w:Nat}{g:Slot}{acc:List (List Tx)}(j:g=.val (.lst (M.map aF))\/g=.own (.lst (M.map aF)))(n:∀i∈M,i.length<=100)(o:acc.length+M.length<=100000)(l:rc [⇑w,.val (.tup (ak rest)),⇑k,↥t]=.ok g [⇑w,.val (.tup (ak rest)),⇑k,↥t]):mS rc [⇑w,s0,⇑((k+1:Nat):Int),↥low,.own (.lst (acc.map aF)),↥t,.val (.tup (ak rest))]=.ok .next [⇑w,s0,⇑((k+1:Nat):Int),↥low,.own (.lst ((acc++if low<=t then M.map (t::·)else []).map aF)),↥t,.val (.tup (ak rest))]:=by
 have f:=Sm (rc:=rc) (s0:=s0) (s3:=↥low) (s4:=.own (.lst (acc.map aF))) j n l;have m:sr (.str t) (.str low)=aa (.bl (decide (low<=t))):=rfl;have b:=By (jf (d:=dV 5) (e:=dV 3) (ε:=[⇑w,s0,⇑((k+1:Nat):Int),↥low,.own (.lst (acc.map aF)),↥t,.val (.tup (ak rest))]) rfl rfl m);rw[ml];have h:(acc.map aF).length+((M.map (t::·)).map aF).length<=bw:=by rw[cX,cX,cX];unfold bw;lia
 unfold mS;generalize xb rc=EX at f;generalize dB (d2 sr (dV 5) (dV 3))=D1 at b;generalize ((k+1:Nat):Int)=KI at f b;by_cases c:low<=t
 .rw[if_pos c];rw[decide_eq_true c]at b;generalize (M.map (t::·)).map aF=MM at f h;generalize acc.map aF=AC at f b h;simp[bI,b,R.bind,l7,bR,aD,f,h]
 .rw[if_neg c];rw[decide_eq_false c]at b;generalize acc.map aF=AC at f b;simp[bI,b,R.bind,cH]
theorem Hz{k w:Nat}{low:Tx}{f:QrK->List (List Tx)}:∀(L:List QrK) (acc:List (List Tx)) (s5 s6:Slot),acc.length+(L.map λp=>Bn p.2.length).sum<=100000 -> (∀p∈L,(f p).length<=Bn p.2.length/\(∀h∈f p,h.length<=100)/\∃c,(c=.val (.lst ((f p).map aF))\/c=.own (.lst ((f p).map aF)))/\rc [⇑w,.val (.tup (ak p.2)),⇑k,↥p.1]=.ok c [⇑w,.val (.tup (ak p.2)),⇑k,↥p.1]) -> ∃l m,fi 5 6 (mS rc) (L.map cZ) [⇑w,s0,⇑((k+1:Nat):Int),↥low,.own (.lst (acc.map aF)),s5,s6]=.ok .next [⇑w,s0,⇑((k+1:Nat):Int),↥low,.own (.lst ((acc++L.flatMap λp=>if low<=p.1 then(f p).map (p.1::·)else []).map aF)),l,m]
 |[],acc,s5,s6,_,_=>⟨s5,s6,by simp[fi]⟩
 |p::L,acc,s5,s6,n,g=>by
  rw[cn,iK]at n;obtain⟨v,u,c,t,s⟩:=g p (by simp);have o:=Lg (rc:=rc) (s0:=s0) (k:=k) (low:=low) (acc:=acc) t u ∅ s;obtain⟨j,i,d⟩:=Hz (s0:=s0) (low:=low) L (acc++if low<=p.1 then(f p).map (p.1::·)else []) (↥p.1) (.val (.tup (ak p.2))) (by
   grind) λq d=>g q (by simp[d])
  refine⟨j,i,?_⟩;show fi 5 6 (mS rc) (.tup [.str p.1,.tup (ak p.2)]::L.map cZ) _=_;rw[fi];show(match mS rc [⇑w,s0,⇑((k+1:Nat):Int),↥low,.own (.lst (acc.map aF)),↥p.1,.val (.tup (ak p.2))]with
   |.ok .next b=>fi 5 6 (mS rc) (L.map cZ) b
   |.ok .cont b=>fi 5 6 (mS rc) (L.map cZ) b
   |.ok .brk b=>.ok .next b
   |r=>r)=_
  rw[o];dsimp only;rw[d,fZ,o8]
noncomputable def pi:ad aG:=(bI (dB (d2 (Pu.eqT am) (dV 2) (dC (.int 0)))) (bV (bI (dB (d2 (Pu.eqT am) (dV 1) (dL b9 (az)))) (dF (dL cK (aw (dF (dL cK (az))) (az)))) (dF (dL cK (az))))) (cH))
theorem FS(rc:ad Slot):yaE a rc=aC pi (aC (cR 4 (dL cK (az))) (aC (λε=>cm (jU 5 6 (bp (a9 (aL (pZ a) (gV (dV 0) (gV (dV 1) (Pu.bG)))))) (mS rc) ε)) (kn 4))):=rfl
theorem Rz(h:d [.val g,.val f,.val c,.val b,.none,.none,.none]=.ok (.ret (.val v)) [.val g,.val f,.val c,.val b,s4,s5,s6]):bo 4 [] (bn 3 d) [.val g,.val f,.val c,.val b]=.ok (.val v) [.val g,.val f,.val c,.val b]:=by simp[bo,fP,bn,bz,h,back,aD,R.bind]
theorem KY(h:d [.val g,.val f,.val c,.val b,.none,.none,.none]=.ok (.ret (.own (.lst l))) [.val g,.val f,.val c,.val b,s4,s5,s6]):bo 4 [] (bn 3 d) [.val g,.val f,.val c,.val b]=.ok (.own (.lst l)) [.val g,.val f,.val c,.val b]:=by simp[bo,fP,bn,bz,h,back,aD,R.bind]
theorem IA{w:Nat}(P:2<=w)(O:w<=4):∀(k n:Nat) (ws:List Tx) (low:Tx),k+1<=n->k<=40->Wg w ws->ws.length<=5 -> ∃(M:List (List Tx)) (i:Slot),(i=.val (.lst (M.map aF))\/i=.own (.lst (M.map aF)))/\M.length<=Bn ws.length/\(∀b,b∈M↔RL w ws k b/\∀t∈b,bO low t=ai) /\ lj a n [⇑w,.val (.tup (ak ws)),⇑k,↥low]=.ok i [⇑w,.val (.tup (ak ws)),⇑k,↥low]
 |0,n,ws,low,hf,_,g,h5=>by
  obtain⟨f,rfl⟩:∃f,n=f+1:=⟨n-1,⋯⟩
  refine⟨if ws=[] then [[]] else [],_,.inl rfl,?_,λb=>?_,?_⟩
  .have:=Uh ws.length;split <;> simp <;> omega
  .constructor
   .intro h;split at h
    .rename_i e;subst e;rw[jo.mp h];exact⟨⟨List.Pairwise.nil,rfl,(λt r=>by trivial),(λt r=>by trivial),.refl _⟩,λt r=>by trivial⟩
    trivial
   .rintro⟨h,_⟩;have e:=lF h.len;subst e;have:=List.nil_perm.mp h.perm;rw[if_pos this];simp
  .show bo 4 [] (bn 3 (yaE a (lj a f))) _=_;refine Rz (s4:=.none) (s5:=.none) (s6:=.none) ?_;rw[FS];have X:Pu.eqT am (.tup (ak ws)) (.tup [])=aa (.bl (decide (ws=[]))):=by have:=HM am ws [];rw[show ak []=[] from rfl]at this;rw[this];simp
   have o:dB (d2 (Pu.eqT am) (dV 2) (dC (.int 0))) [⇑w,.val (.tup (ak ws)),⇑((0:Nat):Int),↥low,.none,.none,.none]=.ok ai [⇑w,.val (.tup (ak ws)),⇑((0:Nat):Int),↥low,.none,.none,.none]:=rfl;have m:=By (jf (d:=dV 1) (e:=dL b9 (az)) (ε:=[⇑w,.val (.tup (ak ws)),⇑((0:Nat):Int),↥low,.none,.none,.none]) rfl rfl X);have e:pi [⇑w,.val (.tup (ak ws)),⇑((0:Nat):Int),↥low,.none,.none,.none]=.ok (.ret (.val (.lst ((if ws=[] then [[]] else []).map aF)))) [⇑w,.val (.tup (ak ws)),⇑((0:Nat):Int),↥low,.none,.none,.none]:=by
    unfold pi;generalize dB (d2 (Pu.eqT am) (dV 2) (dC (.int 0)))=D1 at o;generalize dB (d2 (Pu.eqT am) (dV 1) (dL b9 (az)))=D2 at m;generalize ((0:Nat):Int)=KI at o m;generalize ak ws=PW at o m;by_cases c:ws=[]
    .rw[if_pos c];rw[decide_eq_true c]at m;simp[bI,o,m,R.bind,bV,dF,dL,aw,az,cK,kc,aD,aF,ak]
    .rw[if_neg c];rw[decide_eq_false c]at m;simp[bI,o,m,R.bind,bV,dF,dL,aw,az,cK,kc,aD]
   unfold aC;rw[e]
 |k+1,n,ws,low,hf,hk,g,h5=>by
  obtain⟨f,rfl⟩:∃f,n=f+1:=⟨n-1,∅⟩
  obtain⟨L,v,l,N,s⟩:=trails_eq (a:=a) P O (ws:=ws) h5 g.win;have G:∀p∈L,p.2.Sublist ws:=λp j=>by rw[(l p j).2];exact rest_sub _ _ _
  have Q:=M6 ∅ h5 g v l;have J:∀p∈L,∃(M:List (List Tx)) (i:Slot),(i=.val (.lst (M.map aF))\/i=.own (.lst (M.map aF)))/\M.length<=Bn p.2.length/\(∀b,b∈M↔RL w p.2 k b/\∀t∈b,bO p.1 t=ai) /\
   lj a f [⇑w,.val (.tup (ak p.2)),⇑k,↥p.1]=.ok i [⇑w,.val (.tup (ak p.2)),⇑k,↥p.1]:=λp j=>
   IA P O k f p.2 p.1 ∅ ∅ (g.sub (G p j)) (bT (G p j).length_le h5)
  obtain⟨F,H⟩:∃F:QrK->List (List Tx),∀p∈L,∃i:Slot,(i=.val (.lst ((F p).map aF))\/i=.own (.lst ((F p).map aF)))/\(F p).length<=Bn p.2.length/\(∀b,b∈F p↔RL w p.2 k b/\∀t∈b,bO p.1 t=ai) /\
   lj a f [⇑w,.val (.tup (ak p.2)),⇑k,↥p.1]=.ok i [⇑w,.val (.tup (ak p.2)),⇑k,↥p.1]:=by
   refine⟨λp=>open Classical in if h:p∈L then(J p h).choose else [],λp j=>?_⟩;dsimp only;rw[dif_pos j];exact(J p j).choose_spec
  have Y:=R8 ws.length;obtain⟨s5,s6,y⟩:=Hz (rc:=lj a f) (s0:=.val (.tup (ak ws))) (k:=k) (w:=w) (low:=low) (f:=F) L [] .none .none (by simp;lia) λp j=>by obtain⟨i,o,m,I,W⟩:=H p j;exact⟨m,λx A=>by rw[((I x).mp A).1.len];lia,i,o,W⟩
  rw[gM,kI]at y;refine⟨L.flatMap λp=>if low<=p.1 then(F p).map (p.1::·)else [],_,.inr rfl,?_,λb=>?_,?_⟩
  .refine bT ?_ Q;rw[List.length_flatMap];clear y Q s v N G J
   induction L with
   |nil=>simp
   |cons p L S=>
    rw[cn,cn,iK,iK];have:=S (λq z=>l q (by simp[z])) λq z=>H q (by simp[z])
    grind
  .rw[jJ];constructor
   .rintro⟨p,j,h⟩;split at h
    .rename_i E;obtain⟨x,A,rfl⟩:=b8.mp h;obtain⟨_,_,_,I,_⟩:=H p j;obtain⟨D,C⟩:=(I x).mp A;obtain⟨B,e⟩:=l p j;rw[e]at D;have u:bO low p.1=ai:=decide_eq_true E;exact⟨Vd.mpr ⟨B,D,C⟩,λt r=>by
      rcases bQ.mp r with rfl|r
      .trivial
      .exact rT _ _ _ u (C t r)⟩
    trivial
   .rintro⟨h,E⟩;cases b with
    |nil=>have:=h.len;trivial
    |cons t x=>
     obtain⟨B,D,C⟩:=Vd.mp h;refine⟨_,N t B,?_⟩;rw[if_pos (of_decide_eq_true (E t (by simp)))]
     grind
  .show bo 4 [] (bn 3 (yaE a (lj a f))) _=_;refine KY (s4:=.none) (s5:=s5) (s6:=s6) ?_;rw[FS];have z:Pu.eqT am (.int ((k+1:Nat):Int)) (.int 0)=aa (.bl am):=by rfl
   refine(bW (ε1:=[⇑w,.val (.tup (ak ws)),⇑((k+1:Nat):Int),↥low,.none,.none,.none]) ?_).trans ?_
   .rfl
   refine(bW (ε1:=[⇑w,.val (.tup (ak ws)),⇑((k+1:Nat):Int),↥low,.own (.lst []),.none,.none]) rfl).trans ?_;generalize (L.flatMap λp=>if low<=p.1 then(F p).map (p.1::·)else []).map aF=LM at y;refine(bW (d1:=λε=>cm (jU 5 6 (bp (a9 (aL (pZ a) (gV (dV 0) (gV (dV 1) (Pu.bG)))))) (mS (lj a f)) ε)) (ε1:=[⇑w,.val (.tup (ak ws)),⇑((k+1:Nat):Int),↥low,.own (.lst LM),s5,s6]) ?_).trans ?_
   .have T:bp (a9 (aL (pZ a) (gV (dV 0) (gV (dV 1) (Pu.bG))))) [⇑w,.val (.tup (ak ws)),⇑((k+1:Nat):Int),↥low,.own (.lst []),.none,.none]=.ok (L.map cZ) [⇑w,.val (.tup (ak ws)),⇑((k+1:Nat):Int),↥low,.own (.lst []),.none,.none]:=xY (Ea rfl rfl s) rfl;show cm (jU 5 6 _ _ _)=_;unfold jU;rw[T];simp only[R.bind_ok];rw[y];rfl
   rfl
noncomputable def rf(n:Int):PV:=.tup [.str [114,101,102,117,115,101,100],.int n]
noncomputable def Wh(a:Ad):Prop:=u8 a [.val (.exc (.ref a.Full))]=.ok (.val (rf 5)) [.val (.exc (.ref a.Full))]
theorem Vb(h:u8 a [.val (.exc (.ref a.Full))]=.ok (.val (rf 5)) [.val (.exc (.ref a.Full))]):Wh a:=h
theorem E3(f:d b=.ok x b)(c:e b=.ok y b)(h:Pu.eqT ai x y=aa (.bl am)):dB (d2 (Pu.eqT ai) d e) b=.ok am b:=by simp[dB,d2,f,c,h,R.bind,aD,ka]
theorem Og(h:d b=.ok x b)(f:G [.val x]=.er c [.val x]):sv G (gV d Pu.bG) b=.er c b:=by simp[sv,gV,Pu.bG,h,f,R.bind,aD,dY,eT,cg,c8,eF,cL]
theorem Uc(f:d b=.ok am b)(c:e b=.ok am b):bI (jO d e) (bV (dC (.bl am))) cH b=.ok .next b:=by simp[bI,jO,f,c,R.bind,cH]
theorem SK(h:d b=.ok (.bl ai) b)(c:e b=.ok (.bl ai) b):bV (kN d e) b=.ok (.ret (.val (.bl ai))) b:=by simp[bV,kN,dB,ka,h,c,R.bind,aD]
theorem Mc(b:1<=w){t:Tx}(h:w<=t.length)(d:c∈t):∃x∈aM t w,c∈x:=by
 obtain⟨i,f,rfl⟩:=List.mem_iff_getElem.mp d;rw[kr _ _ b];by_cases g:i+w<=t.length
 .refine⟨_,b8.mpr ⟨i,kE.mpr ∅,rfl⟩,?_⟩;refine zc.mpr ⟨0,?_⟩
  grind
 .refine⟨_,b8.mpr ⟨t.length-w,kE.mpr ∅,rfl⟩,?_⟩;refine zc.mpr ⟨i-(t.length-w),?_⟩;rw[List.getElem?_take_of_lt ∅,CW,show t.length-w+(i-(t.length-w))=i by lia];simp
theorem NW(n:1<=w)(g:Wg w f)(h:Cov (w-1) d f)(q:d.length=k):RL w f k (aN d):=by
 have i:=dI d;have m:(wsT w d).Perm f:=by have:=h.perm;unfold covW at this;rwa[show w-1+1=w by simp_all]at this
 have l:∀t∈d,w<=t.length:=λt b=>by have:=h.long t b;lia
 refine⟨lc _,by rw[i.length_eq,q],λt b c o=>?_,λt b=>l t (i.mem_iff.mp b),(wsT_perm i).trans m⟩;have b:=i.mem_iff.mp b;obtain⟨x,p,j⟩:=Mc n (l t b) o;exact(g.win x (m.mem_iff.mp (jJ.mpr ⟨t,b,p⟩))).2 c j
noncomputable def yw(a:Ad):ad aG:=(mQ (aL (kM a 8) (gV (d2 bB (dV 0) (dC (.int 1))) (gV (d2 bB (dV 0) (dC (.int 0))) (gV (a9 (aL (mU a) (gV (dV 0) (Pu.bG)))) (Pu.bG))))))
theorem G_:nc a=bo 1 [] (bn 0 (aC (ku (aL (pK a) (gV (dV 0) (Pu.bG)))) (yw a))):=rfl
theorem Ta(h:pK a [.val x]=.er (.ref c) [.val x]):nc a [.val x]=.er (.ref c) [.val x]:=by rw[G_];generalize yw a=PB;simp![h]
theorem Rs{e:aj}(h:pK a [.val x]=.ok (.val .non) [.val x])(b:yw a [.val x]=.ok (.ret (.val v)) [.val x]):nc a [.val x]=.ok (.val v) [.val x]:=by rw[G_];generalize yw a=PB at b;simp![h,b]
theorem Ob(h:d b=.ok x b)(i:e b=.ok y b)(g:f b=.ok z b)(c:G [.val x,.val y,.val z]=.ok (.val u) [.val x,.val y,.val z]):mQ (aL G (gV d (gV e (gV f Pu.bG)))) b=.ok (.ret (.val u)) b:=by simp[mQ,aL,gV,Pu.bG,h,i,g,c,R.bind,aD,dY,eT,cg,c8,eF]
theorem Kw{w:Nat}(d:1<=w)(f:w<=4)(g:Wg w b)(i:b≠[]):∃(k:Nat) (m:List Tx),1<=k/\k<=b.length/\RL w b k m/\(∀h,RL w b k h->ltL h m=am) /\ mU a [.val (a_ w b)]=.ok (⇑k) [.val (a_ w b)]/\nc a [.val (a_ w b)]=.ok (.val (aF m)) [.val (a_ w b)]:=by
 have p:=g.good i;obtain⟨k,v,o⟩:=fewest_texts_eq (a:=a) p d f g.rise;obtain⟨h,D,C⟩:=v.ex;have c:=NW d g C D;have B:k<=b.length:=by have:=wsT_len d c.long;rw[c.len,c.perm.length_eq]at this;trivial
 have s:1<=k:=by
  rcases tT k with z|z
  .have e:=lF (c.len.trans z);have:=c.perm;rw[e]at this;exact absurd (List.nil_perm.mp this) i
  trivial
 have E:=g.few;obtain⟨j,rfl⟩:∃j,k=j+1:=⟨k-1,⋯⟩
 obtain⟨m,A,l⟩:=Iw (a:=a) d f j 8 b ∅ ∅ g i;obtain⟨r,q⟩:=A.resolve_left λz=>z.2 _ c;refine⟨j+1,m,s,B,r,q,o,?_⟩;have n:=shared_view (a:=a) (ym (a:=a) (p.vw d f g.rise));rw[if_neg ∅]at n;refine Rs (e:=[]) n ?_;have u:bB (a_ w b) (.int 0)=aa (.int w):=rfl;have t:bB (a_ w b) (.int 1)=aa (.tup (ak b)):=rfl;exact Ob (jf (x:=a_ w b) (y:=.int 1) rfl rfl t) (jf (x:=a_ w b) (y:=.int 0) rfl rfl u) (z8 (x:=a_ w b) rfl o) l
theorem TZ(i:1<=w)(f:w<=4):nc a [.val (a_ w (bz 7 (bz w 98)))]=.er (.ref a.Full) [.val (a_ w (bz 7 (bz w 98)))]:=by
 have g:Good cq w (bz 7 (bz w 98)):=⟨λx b=>by grind,λx b c d=>by rw[List.eq_of_mem_replicate b]at d;rw[List.eq_of_mem_replicate d];decide,by simp,by simp⟩
 have j:Ri (bz 7 (bz w 98)):=List.pairwise_replicate.mpr (.inr (leT_self _));have h:=shared_view (a:=a) (ym (a:=a) (g.vw i f j));rw[if_pos (by simp)]at h;exact Ta h
theorem FM(f:List Int)(w:Nat)(v:w<=4)(s r q p o n m d:Slot):∀(xs:List PV) (b:List Tx) (i:List PV),i.length+6*xs.length<=400 -> ∃(g:List Tx) (l:List PV),g.length=xs.length/\(∀x∈g,x.length=w/\∀c∈x,c∈cq)/\jB [0,1,5] dYes (a9 (aL (mR a) (gV (dV 1) (gO 2 (gV (dV 3) (gV (dV 3) (Pu.bG))))))) xs (ak b) [bA f,.own (.lst i),s,r,q,⇑w,p,o,n,m,d]=.ok (ak (b++g)) [bA f,.own (.lst l),s,r,q,⇑w,p,o,n,m,d]
 |[],b,i,_=>⟨[],i,rfl,(λx L=>by trivial),by simp[jB]⟩
 |x::xs,b,i,h=>by
  simp only[cI]at h;obtain⟨t,l,G,F,E,I,j⟩:=Ba (a:=a) f i w w (by simp) ∅ ∅;obtain⟨g,z,A,H,u⟩:=FM f w v s r q p o n m d xs (b++[t]) l ∅;refine⟨t::g,z,by simp[A],λy J=>?_,?_⟩
  .grind
  .have D:ak (b++[t])=ak b++[.str t]:=by simp[ak]
   have C:b++t::g=b++[t]++g:=by simp
   rw[C,<-u,D];generalize ak b=AC;clear u;generalize ((w:Nat):Int)=WI at j;have B:bA f=.val (.lst (f.map .int)):=rfl;rw[B]at j ⊢;generalize f.map PV.int=NS at j;simp![jB,fR,gz,cL,dYes,j]
noncomputable def uP(a:Ad):ad PV:=(dF (cy [0,1,5] (dL km (aw (dC (.int 4)) (az))) (dYes) (a9 (aL (mR a) (gV (dV 1) (gO 2 (gV (dV 3) (gV (dV 3) (Pu.bG)))))))))
noncomputable def B1(a:Ad):ad aG:=(bI (dB (d2 (Pu.eqT am) (dV 2) (dC (.int 0)))) (bE 4 (dL b9 (aw (dV 5) (aw (dL gY (aw (dF (dL gZ (aw (uP a) (az)))) (az))) (az))))) (cH))
theorem KG(d:List Int)(i:List PV)(G:i.length<=300)(m:Int){w:Nat}(v:w<=4)(g:Wg w c)(F:c≠[])(E:c.length<=5)(f:Slot):∃(l:List PV) (n:List Tx),Wg w n/\n≠[]/\n.length<=5/\B1 a [bA d,.own (.lst i),⇑m,f,.val (a_ w c),⇑w,.none,.none,.none,.none,.none]=.ok .next [bA d,.own (.lst l),⇑m,f,.val (a_ w n),⇑w,.none,.none,.none,.none,.none]:=by
 have H:=uZ am m 0;by_cases h:m=0
 .have p:Pu.eqT am (.int m) (.int 0)=aa (.bl ai):=by lia
  have u:(fL 0 4).length=4:=rfl;obtain⟨b,l,A,y,s⟩:=FM (a:=a) d w v (⇑m) f (.val (a_ w c)) .none .none .none .none .none (fL 0 4) [] i (by rw[u];lia);rw[u]at A;rw[gM,show ak []=[] from rfl]at s;have q:=dI b;have j:uP a [bA d,.own (.lst i),⇑m,f,.val (a_ w c),⇑w,.none,.none,.none,.none,.none]=.ok (.lst (ak b)) [bA d,.own (.lst l),⇑m,f,.val (a_ w c),⇑w,.none,.none,.none,.none,.none]:=by have D:dL km (aw (dC (.int 4)) (az)) [bA d,.own (.lst i),⇑m,f,.val (a_ w c),⇑w,.none,.none,.none,.none,.none]=.ok (fL 0 4) [bA d,.own (.lst i),⇑m,f,.val (a_ w c),⇑w,.none,.none,.none,.none,.none]:=rfl;unfold uP dF cy;rw[D];simp only[R.bind_ok];rw[s];rfl
  have o:gZ [.lst (ak b)]=aa (.lst (ak (aN b))):=by show(dZ (ak _)).bind _=_;rw[kb,eZ,if_pos ⋯]
  have r:gY [.lst (ak (aN b))]=aa (.tup (ak (aN b))):=rfl;refine⟨l,aN b,⟨λx B=>y x (q.mem_iff.mp B),lc _,by rw[q.length_eq];simp_all⟩,λz=>by simp_all,by rw[q.length_eq];simp_all,?_⟩;show B1 a _=R.ok aG.next [bA d,.own (.lst l),⇑m,f,.val (.tup [.int w,.tup (ak (aN b))]),⇑w,.none,.none,.none,.none,.none];unfold B1;have t:kc (.lst (ak (aN b)))=aa (.lst (ak (aN b))):=rfl;generalize ak (aN b)=PS at o r t;generalize ak b=PM at o j;generalize uP a=DX at j;generalize a_ w c=V0 at j;generalize ((w:Nat):Int)=WI at j;have C:bA d=.val (.lst (d.map .int)):=rfl;rw[C]at j ⊢;generalize d.map PV.int=NS at j;simp[bI,dB,d2,dV,dC,p,R.bind,aD,ka,bE,dL,aw,az,dF,j,o,r,t,b9]
 .have p:Pu.eqT am (.int m) (.int 0)=aa (.bl am):=⋯
  refine⟨i,c,g,F,E,?_⟩;unfold B1;generalize (bE 4 (dL b9 (aw (dV 5) (aw (dL gY (aw (dF (dL gZ (aw (uP a) (az)))) (az))) (az)))))=DD;generalize a_ w c=V0;simp[bI,dB,d2,dV,dC,p,R.bind,aD,ka,cH]
noncomputable def uu(a:Ad):ad aG:=(u_ 7 (a9 (aL (kW a) (gV (dV 8) (gV (dV 5) (Pu.bG))))))
noncomputable def eP(w:Nat)(b:List Tx):List Tx:=b.flatMap λt=>aN (aM t w)
theorem Gg(w:Nat):∀b:List Tx,(eP w b).Perm (wsT w b)
 |[]=>.refl _
 |t::b=>(dI (aM t w)).append (Gg w b)
theorem Gw{w:Nat}(o n m l j i g c:Slot):∀(f:List Tx) (b:List Tx) (p:Slot),(∀t∈f,t.length<=60)->b.length+(eP w f).length<=1000 -> ∃r,d9 8 (uu a) (ak f) [o,n,m,l,j,⇑w,i,.own (.lst (ak b)),p,g,c]=.ok .next [o,n,m,l,j,⇑w,i,.own (.lst (ak (b++eP w f))),r,g,c]
 |[],b,p,_,_=>⟨p,by simp[eP,ak,d9]⟩
 |t::f,b,p,h,y=>by
  have e:eP w (t::f)=aN (aM t w)++eP w f:=rfl;rw[e,ef]at y;obtain⟨v,z⟩:=Gw (w:=w) o n m l j i g c f (b++aN (aM t w)) (↥t) (λu x=>h u (by simp[x])) (by grind);refine⟨v,?_⟩;have q:=Ea (d:=dV 8) (e:=dV 5) (ε:=[o,n,m,l,j,⇑w,i,.own (.lst (ak b)),↥t,g,c]) rfl rfl (yh (a:=a) t w (h t (by simp)));have s:(ak b).length+(ak (aN (aM t w))).length<=bw:=by rw[fu,fu];unfold bw;lia
  have A:uu a [o,n,m,l,j,⇑w,i,.own (.lst (ak b)),↥t,g,c]=.ok .next [o,n,m,l,j,⇑w,i,.own (.lst (ak (b++aN (aM t w)))),↥t,g,c]:=by rw[<-Ir];unfold uu;generalize a9 (aL (kW a) (gV (dV 8) (gV (dV 5) (Pu.bG))))=DX at q;generalize ak (aN (aM t w))=Y at q s;generalize ak b=X at q s;simp[u_,bR,R.bind,aD,q,s]
  show d9 8 (uu a) (.str t::ak f) _=_;rw[d9];simp_all
noncomputable def tX(a:Ad):ad Slot:=(sv (nc a) (gV (dL b9 (aw (dV 5) (aw (d2 uG (dL b9 (aw (d2 jW (dC (.str [98])) (dV 5)) (az))) (dC (.int 7))) (az)))) (Pu.bG)))
noncomputable def hX(a:Ad):ad aG:=(bE 9 (a9 (λb=>cL (aL (u8 a) (gV (dV 10) (Pu.bG)) b))))
theorem Uv(q:Wh a)(l j i h g f d c b m:Slot):hX a [l,j,i,h,g,f,d,c,b,m,.val (.exc (.ref a.Full))]=.ok .next [l,j,i,h,g,f,d,c,b,.val (rf 5),.val (.exc (.ref a.Full))]:=by unfold Wh at q;generalize rf 5=RF at q;unfold hX;generalize PV.exc (.ref a.Full)=EX at q;simp![cL,q]
noncomputable def Go(a:Ad):ad aG:=(bI (jO (dB (d2 (Pu.eqT ai) (dL gY (aw (dF (eR (λxs=>kq (gZ xs)) 7)) (az))) (d2 bB (dV 4) (dC (.int 1))))) (dB (d2 (Pu.eqT ai) (dL bu (aw (dV 6) (az))) (a9 (aL (mU a) (gV (dV 4) (Pu.bG))))))) (bV (dC (.bl am))) (cH))
noncomputable def Mt(a:Ad):ad aG:=(bV (kN (d2 (Pu.eqT am) (dV 9) (dL b9 (aw (dC (.str [114,101,102,117,115,101,100])) (aw (dC (.int 5)) (az))))) (d2 (Pu.eqT am) (dV 6) (dL uw (aw (a9 (aL (lj a 8) (gV (dV 5) (gV (d2 bB (dV 4) (dC (.int 1))) (gV (dL bu (aw (dV 6) (az))) (gV (dC (.str [])) (Pu.bG))))))) (az))))))
theorem Pe(q:Wh a)(c:List Int):uA a [bA c]=.ok (.val (.bl ai)) [bA c]:=by
 obtain⟨m,m0,m3,hd⟩:=oO (a:=a) c [] 3 (by simp) (by simp);obtain⟨p,p0,p5,v⟩:=oO (a:=a) c ([]++[.int 0]) 2 (by simp) (by simp);obtain⟨sp,rfl⟩:∃n:Nat,p=n:=⟨p.toNat,∅⟩
 obtain⟨w,j,r,B,s,w2,W,F,h5,_,D,hv⟩:=P8 (a:=a) c ([]++[.int 0]++[.int 0]) sp 5 ∅ (by simp) (by simp) (by simp);simp only[gM,vZ,cI,oY]at hd v hv D;have A:uh a [bA c,.own (.lst [.int 0,.int 0]),⇑sp,⇑5]=.ok (.val (a_ w j)) [bA c,.own (.lst r),⇑sp,⇑5]:=hv;have gs:=W.some;obtain⟨d,b,g,hn,N,T⟩:=KG (a:=a) c r ∅ m s ⟨λx hx=>⟨W.len x hx,W.abc x hx⟩,F,∅⟩ (λz=>by rw[z]at gs;trivial) h5 (⇑sp);obtain⟨k,M,k1,kl,u,lM,O,Q⟩:=Kw (a:=a) B s g hn;have S:=u.len;have E:∀t∈M,t.length<=60:=λt h=>by
  have h1:=u.perm.length_eq;have h2:(aM t w).length<=(wsT w M).length:=by have v:=wsT_perm (w:=w) (qJ h);rw[v.length_eq,wsT_cons,ef];simp
  rw[k_ B,h1]at h2;lia
 have i:=(Gg w M).trans u.perm;obtain⟨f,Y⟩:=Gw (a:=a) (w:=w) (bA c) (.own (.lst d)) (⇑m) (⇑sp) (.val (a_ w b)) (.val (aF M)) .none .none M [] .none E (by rw[i.length_eq];simp;lia);rw[gM,show ak []=[] from rfl]at Y;have lO:aN (eP w M)=b:=(zT i).trans (vc g.rise);have C:gZ [.lst (ak (eP w M))]=aa (.lst (ak b)):=by show(dZ (ak _)).bind _=_;rw[kb,eZ,if_pos (by rw[i.length_eq];lia),lO]
 obtain⟨X,sl,lP,hLl,o,L⟩:=IA (a:=a) (w2 ∅) s k 8 b [] ∅ ∅ g N;have tY:pD X=aa M:=G3 ((o M).mpr ⟨u,λt _=>decide_eq_true (List.nil_le t)⟩) λy hy=>lM y ((o y).mp hy).1;have J:uw [.lst (X.map aF)]=aa (aF M):=by show(tls (X.map aF)).bind _=_;rw[zy,eZ,tY];rfl
 have H:jW (.str [98]) (.int w)=aa (.str (bz w 98)):=by
  obtain rfl|rfl|rfl|rfl:w=1\/w=2\/w=3\/w=4:=∅
  all_goals rfl
 have I:uG (.tup [.str (bz w 98)]) (.int 7)=aa (.tup (ak (bz 7 (bz w 98)))):=rfl;have h7:=TZ (a:=a) B s;have cF:pj a (.ref a.Full)=ai:=by simp[pj,iY]
 have i0:bB (a_ w j) (.int 0)=aa (.int w):=rfl;have Z:bB (a_ w b) (.int 1)=aa (.tup (ak b)):=rfl;have bh:bu [aF M]=aa (.int k):=by rw[<-S];simp[bu,aF,fu]
 have DM:yaB a [bA c,.none,.none,.none,.none,.none,.none,.none,.none,.none,.none]=.ok (.ret (.val (.bl ai))) [bA c,.own (.lst d),⇑m,⇑sp,.val (a_ w b),⇑w,.val (aF M),.own (.lst (ak (eP w M))),f,.val (rf 5),.none]:=by
  show aC _ (aC _ (aC _ (aC _ (aC _ (aC (B1 a) (aC _ (aC _ (aC (λε=>cm (dJ 8 (bp (dV 6)) (uu a) ε)) (aC (Go a) (aC _ (aC (u7 10 (pj a) (tX a) (hX a)) (Mt a)))))))))))) _=_;refine(bW (ε1:=[bA c,.own (.lst []),.none,.none,.none,.none,.none,.none,.none,.none,.none]) (by rfl)).trans ?_;refine(bW (ε1:=[bA c,.own (.lst [.int 0]),⇑m,.none,.none,.none,.none,.none,.none,.none,.none]) (by simp![hd])).trans ?_;refine(bW (ε1:=[bA c,.own (.lst [.int 0,.int 0]),⇑m,⇑sp,.none,.none,.none,.none,.none,.none,.none]) (by simp![v])).trans ?_;refine(bW (ε1:=[bA c,.own (.lst r),⇑m,⇑sp,.val (a_ w j),.none,.none,.none,.none,.none,.none]) (by generalize a_ w j=V0 at A;generalize ((sp:Nat):Int)=SP at A;simp![A])).trans ?_;refine(bW (ε1:=[bA c,.own (.lst r),⇑m,⇑sp,.val (a_ w j),⇑w,.none,.none,.none,.none,.none]) (oM (jf (x:=a_ w j) (y:=.int 0) rfl rfl i0))).trans ?_;refine(bW T).trans ?_;refine(bW (ε1:=[bA c,.own (.lst d),⇑m,⇑sp,.val (a_ w b),⇑w,.val (aF M),.none,.none,.none,.none]) (oM (z8 (x:=a_ w b) rfl Q))).trans ?_;refine(bW (ε1:=[bA c,.own (.lst d),⇑m,⇑sp,.val (a_ w b),⇑w,.val (aF M),.own (.lst []),.none,.none,.none]) rfl).trans ?_;refine(ET (ε1:=[bA c,.own (.lst d),⇑m,⇑sp,.val (a_ w b),⇑w,.val (aF M),.own (.lst []),.none,.none,.none]) (xY (x:=aF M) rfl rfl) Y).trans ?_;have wO:Go a [bA c,.own (.lst d),⇑m,⇑sp,.val (a_ w b),⇑w,.val (aF M),.own (.lst (ak (eP w M))),f,.none,.none]=.ok .next [bA c,.own (.lst d),⇑m,⇑sp,.val (a_ w b),⇑w,.val (aF M),.own (.lst (ak (eP w M))),f,.none,.none]:=by
   have G:eR (λxs=>kq (gZ xs)) 7 [bA c,.own (.lst d),⇑m,⇑sp,.val (a_ w b),⇑w,.val (aF M),.own (.lst (ak (eP w M))),f,.none,.none]=.ok (.lst (ak b)) [bA c,.own (.lst d),⇑m,⇑sp,.val (a_ w b),⇑w,.val (aF M),.own (.lst (ak (eP w M))),f,.none,.none]:=by have hi:je (ak b)=ai:=F8 b;generalize ak b=SF at C hi;generalize ak (eP w M)=DU at C;generalize a_ w b=VV;generalize aF M=LM;simp[eR,bR,R.bind,aD,kq,C,BC,hi]
   have P:a9 (aL (mU a) (gV (dV 4) (Pu.bG))) [bA c,.own (.lst d),⇑m,⇑sp,.val (a_ w b),⇑w,.val (aF M),.own (.lst (ak (eP w M))),f,.none,.none]=.ok (.int k) [bA c,.own (.lst d),⇑m,⇑sp,.val (a_ w b),⇑w,.val (aF M),.own (.lst (ak (eP w M))),f,.none,.none]:=z8 (x:=a_ w b) rfl O;refine Uc (E3 (rO (EW G) rfl) (jf (x:=a_ w b) (y:=.int 1) rfl rfl Z) ?_) (E3 (rO (x:=aF M) rfl bh) P ?_)
   .rw[HM,decide_eq_true rfl];rfl
   .rw[uZ,decide_eq_true rfl];rfl
  refine(bW wO).trans ?_;refine(bW (ε1:=[bA c,.own (.lst d),⇑m,⇑sp,.val (a_ w b),⇑w,.val (aF M),.own (.lst (ak (eP w M))),f,.val .non,.none]) rfl).trans ?_;refine(bW (ε1:=[bA c,.own (.lst d),⇑m,⇑sp,.val (a_ w b),⇑w,.val (aF M),.own (.lst (ak (eP w M))),f,.val (rf 5),.none]) ?_).trans ?_
  .have h:tX a [bA c,.own (.lst d),⇑m,⇑sp,.val (a_ w b),⇑w,.val (aF M),.own (.lst (ak (eP w M))),f,.val .non,.none]=.er (.ref a.Full) [bA c,.own (.lst d),⇑m,⇑sp,.val (a_ w b),⇑w,.val (aF M),.own (.lst (ak (eP w M))),f,.val .non,.none] :=
    Og (AD rfl (jf (x:=.tup [.str (bz w 98)]) (y:=.int 7) (rO (jf (x:=.str [98]) (y:=.int w) rfl rfl H) rfl) rfl I)) h7
   have l:=Uv (a:=a) q (bA c) (.own (.lst d)) (⇑m) (⇑sp) (.val (a_ w b)) (⇑w) (.val (aF M)) (.own (.lst (ak (eP w M)))) f (.val .non);generalize hX a=HX at l;generalize tX a=TX at h;generalize ak (eP w M)=DU at l h;generalize aF M=LM at l h;generalize a_ w b=VV at l h;generalize rf 5=RF at l;simp[u7,h,cF,l]
  .refine SK ?_ ?_
   .rfl
   .have e1:Pu.eqT am (aF M) (aF M)=aa (.bl ai):=by
     have:=BX am M M;rw[decide_eq_true rfl]at this;exact this
    exact jf (x:=aF M) (y:=aF M) rfl (rO (F6 rfl (jf (x:=a_ w b) (y:=.int 1) rfl rfl Z) (rO (x:=aF M) rfl bh) rfl lP L) J) e1
 simp[uA,bo,fP,bn,bz,DM,back,gf,aD,R.bind]
end
open L2 Pu Sh
noncomputable def vf(K:ay)(a:Ad):Bool:=o5 K a.SlitError uU "ValueError.__new__" && (iY a).all (λx=>o5 K x uU "ValueError.__new__" && subB K a.SlitError x&&xO K x&&(iY a).all (λd=>jk K (.ref x) (.ref d) == aa (x == d))&&jk K (.ref x) (.type "ValueError") == aa ai)&&zx K&&decide (iY a).Nodup
section
variable{K:ay}{h g:aA}{i:Str->Option ah}{a:Ad}
theorem uC(h:vf K a=ai):o5 K a.SlitError uU "ValueError.__new__"=ai/\(∀x∈iY a,o5 K x uU "ValueError.__new__"=ai/\subB K a.SlitError x=ai/\xO K x=ai/\(∀d∈iY a,jk K (.ref x) (.ref d)=aa (x == d))/\jk K (.ref x) (.type "ValueError")=aa ai)/\zx K=ai/\(iY a).Nodup:=by unfold vf at h;simp only[gL,tq,beq_iff_eq,decide_eq_true_eq]at h;obtain⟨⟨⟨l,c⟩,j⟩,f⟩:=h;exact⟨l,λx b=>⟨(c x b).1.1.1.1,(c x b).1.1.1.2,(c x b).1.1.2,(c x b).1.2,(c x b).2⟩,j,f⟩
theorem QA(h:vf K a=ai):Ao K (jg a):=by
 obtain⟨_,l,_,_⟩:=uC h;intro c D b e;unfold jg at e;split at e
 .rename_i x d;split at e
  .rename_i f;rw[gL]at f;cases e;have j:x∈iY a:= ~~~f.1
   have m:d∈iY a:= ~~~f.2
   exact⟨x,.ref d,rfl,Fv (l x j).2.2.1,rfl,(l x j).2.2.2.1 d m⟩
  .cases e
 .rename_i x T;split at e
  .rename_i f;rw[gL]at f;cases e;have j:x∈iY a:= ~~~f.1
   have n:T = "ValueError":= ~~~f.2
   subst n;exact⟨x,.type "ValueError",rfl,Fv (l x j).2.2.1,rfl,(l x j).2.2.2.2⟩
  .cases e
 .cases e
theorem Q8(X:K.In g)(h:vf K a=ai):∀c,pj a c=ai->Under g a.SlitError c:=by
 obtain⟨_,d,_,_⟩:=uC h;intro c e;unfold pj at e;split at e
 .rename_i x;have b:x∈iY a:= ~~~e
  exact Nc X (d x b).1 (d x b).2.1
 .cases e
structure Top(K:ay)(a:Ad):Prop where
 yaC:c7 K "_law_cell_at" zO
 yaF:c7 K "_law_mixed" zA
 yaD:c7 K "_law_draw" AQ
 yaH:c7 K "_law_seen" zC
 yaG:c7 K "_law_pick" B2
 yaI:c7 K "_law_text" Aw
 yaL:c7 K "_law_view" z9
 yay:c7 K "is_whole_number" Ah
 yaz:c7 K "is_width" Ck
 yav:c7 K "has_only" Ae
 yaA:c7 K "is_window" BF
 yan:c7 K "are_windows" Ak
 yax:c7 K "is_view_with" Bv
 yaw:c7 K "is_view" A_
 yaq:c7 K "check_view" Cm
 yap:c7 K "check_shared_view" AW
 yam:c7 K "add_endings" Aq
 yar:c7 K "counted" z5
 yaQ:c7 K "texts" Cd
 yaO:c7 K "partings" zw
 yaN:c7 K "least_list" Ci
 yaP:c7 K "reached_pieces" zX
 yas:c7 K "excesses" zG
 yat:c7 K "fewest_for" x6
 yau:c7 K "fewest_texts" AY
 yao:c7 K "bundle" zS
 yaM:c7 K "_law_which" As
 yaK:c7 K "_law_under" Cb
 yaJ:c7 K "_law_trails" BL
 yaE:c7 K "_law_lists" AF
 yaB:c7 K "law" wU
 yaR:cJ K b7 "ValueError"=aa ac
 yaS:cJ K b7 "all"=aa ac
 yaT:cJ K b7 "any"=aa ac
 yaU:cJ K b7 "bool"=aa ac
 yaV:cJ K b7 "int"=aa ac
 yaW:cJ K b7 "isinstance"=aa ac
 yaX:cJ K b7 "len"=aa ac
 yaY:cJ K b7 "list"=aa ac
 yaZ:cJ K b7 "max"=aa ac
 ya0:cJ K b7 "min"=aa ac
 ya1:cJ K b7 "range"=aa ac
 ya2:cJ K b7 "set"=aa ac
 ya3:cJ K b7 "sorted"=aa ac
 ya4:cJ K b7 "str"=aa ac
 ya5:cJ K b7 "sum"=aa ac
 ya6:cJ K b7 "tuple"=aa ac
 ya9:∃t,cJ K b7 "LETTERS"=aa (aa (.str (tS [97,98,99]) t))
 yba:∃t,cJ K b7 "MOST_WINDOWS"=aa (aa (.int 9 t))
 ybb:∃t,cJ K b7 "MOST_WINDOWS_SHARED"=aa (aa (.int 6 t))
 ybc:∃t,cJ K b7 "WIDEST"=aa (aa (.int 4 t))
 yak:cJ K b7 "SlitError"=aa (aa (.ref a.SlitError))
 yaf:cJ K b7 "NoText"=aa (aa (.ref a.NoText))
 yah:cJ K b7 "NoWidth"=aa (aa (.ref a.NoWidth))
 yag:cJ K b7 "NoView"=aa (aa (.ref a.NoView))
 yai:cJ K b7 "NoWindow"=aa (aa (.ref a.NoWindow))
 yac:cJ K b7 "Never"=aa (aa (.ref a.Never))
 yab:cJ K b7 "Full"=aa (aa (.ref a.Full))
 yaj:cJ K b7 "Nothing"=aa (aa (.ref a.Nothing))
 yal:cJ K b7 "Unlike"=aa (aa (.ref a.Unlike))
 yae:cJ K b7 "NoPlace"=aa (aa (.ref a.NoPlace))
 yad:cJ K b7 "NoLetters"=aa (aa (.ref a.NoLetters))
 yaa:cJ K b7 "BadText"=aa (aa (.ref a.BadText))
 ck:vf K a=ai
 z0:qp K "least_ending"=ac
 wh:Wh a
theorem Nk(T:Top K a)(X:K.In g)(G:g.Ns b7 i):c9 K i g a:=by
 have C:=(uC T.ck).2.1;have d:=Sl X (uC T.ck).1;have b:=Q8 X T.ck;have c:=QA T.ck;cases T;constructor
 all_goals first|assumption|exact c7.at (by assumption) X G|exact PySem.W.mg_none_of X G (by assumption)|exact zd X G (by assumption)|exact MC X (zd X G (by assumption)) (C _ (by simp[iY])).1|exact Exists.imp (λ_ e=>zd X G e) (by assumption)
theorem Oq{l:CG}{w:aJ}{d:ae}(X:K.In h)(G:h.Ns b7 i)(b:i "law"=aa (.ref d))(T:Top K a):∃c:ii,(∀(s:ao) (v:ah),BindsTo s c ⟨[v],[]⟩ [("_law_script",v)])/\∀g:aA,K.In g->g.Ns b7 i->kU l.prog w K i g (jy l.prog w) 25 d c ["_law_script"] (eN K (uA a)):=by
 obtain⟨f,oc,u,kV,x,t,A,z,y,r,o,n,m,j⟩:=T.yaB;have e:=b.symm.trans (zd X G o);cases e;exact⟨_,λs v=>.of_eq rfl,λg p q=>Pp (Nk T p q) (Hv n m j)⟩
theorem NO{l:CG}{q:aS}{j:List Str}{XP:(Str->Option ah)->aA->Prop}{o:aJ->aA->Prop}{d:DefRec}{K:Params->ay}(v:l.most=aa 63)(t:d.params.defaults=[])(m:d.name = "law")(y:∀(w:aJ) (h:aA),o w h->(K w.params).In h) {a:Ad} (T:∀w:aJ,Top (K w.params) a):PySem.W.WalkO q j XP o l.row.toRowW d [] (λf r=>PySem.call f r) :=
 L2.Vh (n:=63) (k:=25) (x:="_law_script") (K:=K) (CX:=λw=>jy l.prog w) (sp:=λw=>eN (K w.params) (uA a)) v (by decide) t ⟨rfl,by decide,by decide⟩ (λw h Y=>⟨y w h Y,λc P e=>by rw[(T w).z0]at e;cases e⟩)
  (λw i E h B G p=>Oq B G (by rw[<-m];exact p) (T w))
  (λw H b u D _ A=>S5 (R0 (uC (T w).ck).2.2.1 A) (Pe (T w).wh u))
  (λw H s e C z=>by obtain⟨_,_,_,_,_,_,_,_,_,_,_,f⟩:=z;exact f)
theorem Vc{l:CG}{q:aS}{b:List Str}{XP:(Str->Option ah)->aA->Prop}{z:aJ->aA->Prop}{d:DefRec}{K:Params->ay}{j r o p n u v m c s t x:ae}(C:l.most=aa 63)(B:d.params.defaults=[])(y:d.name = "law")(D:∀(w:aJ) (h:aA),z w h->(K w.params).In h) (T:∀w:aJ,Top (K w.params) ⟨j,r,o,p,n,u,v,m,c,s,t,x,0,0⟩):PySem.W.WalkO q b XP z l.row.toRowW d [] (λf A=>PySem.call f A):=NO C B y D T
end
end K28
noncomputable def PySem.W.Fast.tw14953934804615815673:Nat:=0
noncomputable def PySem.W.Fast.tw13049964246602926057:Nat:=0
noncomputable def PySem.W.Fast.tw14737424382962150494:Nat:=0
noncomputable def PySem.W.Fast.tw11567785937480751030:Nat:=0
noncomputable def PySem.W.Fast.tw18249159187279437124:Nat:=0
noncomputable def PySem.W.Fast.tw1232212114095816185:Nat:=0
noncomputable def PySem.W.Fast.tw6570151626193804251:Nat:=0
noncomputable def PySem.W.Fast.tw17803901548137148019:Nat:=0
noncomputable def PySem.W.Fast.tw11613440558055719037:Nat:=0
noncomputable def PySem.W.Fast.tw2415651552395378681:Nat:=0
noncomputable def PySem.W.Fast.tw17204657280378259588:Nat:=0
noncomputable def PySem.W.Fast.tw3525626619473594211:Nat:=0
noncomputable def PySem.W.Fast.tw14614782493465343814:Nat:=0
noncomputable def PySem.W.Fast.tw14938326762320771570:Nat:=0
noncomputable def PySem.W.Fast.tw11969042566913092755:Nat:=0
noncomputable def PySem.W.Fast.tw7872644378645811988:Nat:=0
noncomputable def PySem.W.Fast.tw11847498745546802217:Nat:=0
noncomputable def PySem.W.Fast.tw14056709279208833695:Nat:=0
noncomputable def PySem.W.Fast.tw12395414950157883131:Nat:=0
noncomputable def PySem.W.Fast.tw1862881898964864795:Nat:=0
noncomputable def PySem.W.Fast.tw7192416686962030831:Nat:=0
noncomputable def PySem.W.Fast.tw14565830973505688575:Nat:=0
noncomputable def PySem.W.Fast.tw17102019611822977982:Nat:=0
noncomputable def PySem.W.Fast.tw5658246326868061101:Nat:=0
noncomputable def PySem.W.Fast.tw13042242289656631042:Nat:=0
noncomputable def PySem.W.Fast.tw16579250288278769051:Nat:=0
noncomputable def PySem.W.Fast.tw6651410780700560228:Nat:=0
noncomputable def PySem.W.Fast.tw16067000585439684172:Nat:=0
noncomputable def PySem.W.Fast.tw15425736255965843722:Nat:=0
noncomputable def PySem.W.Fast.tw238339766261665763:Nat:=0
noncomputable def PySem.W.Fast.tw6092894127686750817:Nat:=0
noncomputable def PySem.W.Fast.tw11164229506615163788:Nat:=0
noncomputable def PySem.W.Fast.tw2928722072931960617:Nat:=0
noncomputable def PySem.W.Fast.tw11988517555019197477:Nat:=0
noncomputable def PySem.W.Fast.tw4089951826906999720:Nat:=0
noncomputable def PySem.W.Fast.tw15786109750488584570:Nat:=0
noncomputable def PySem.W.Fast.tw6666093005605176678:Nat:=0
noncomputable def PySem.W.Fast.tw11973646384149648468:Nat:=0
noncomputable def PySem.W.Fast.tw4871622205460265643:Nat:=0
noncomputable def PySem.W.Fast.tw17120681393148180284:Nat:=0
noncomputable def PySem.W.Fast.tw6437839372018250516:Nat:=0
noncomputable def PySem.W.Fast.tw13939759234901705499:Nat:=0
noncomputable def PySem.W.Fast.tw5025160024438225310:Nat:=0
noncomputable def PySem.W.Fast.tw305215021682915744:Nat:=0
noncomputable def PySem.W.Fast.tw10595284873175443498:Nat:=0
noncomputable def PySem.W.Fast.tw13902296532542625176:Nat:=0
noncomputable def PySem.W.Fast.tw18285162241310354842:Nat:=0
noncomputable def PySem.W.Fast.tw16227620013148514808:Nat:=0
noncomputable def PySem.W.Fast.tw2345043658307663729:Nat:=0
noncomputable def PySem.W.Fast.tw4950272971096179264:Nat:=0
noncomputable def PySem.W.Fast.tw545639481411270576:Nat:=0
noncomputable def PySem.W.Fast.tw14354435813450216576:Nat:=0
noncomputable def PySem.W.Fast.tw8554622656643276194:Nat:=0
noncomputable def PySem.W.Fast.tw12281055186981076982:Nat:=0
noncomputable def PySem.W.Fast.tw10629488366213120362:Nat:=0
noncomputable def PySem.W.Fast.tw5563383166523301571:Nat:=0
noncomputable def PySem.W.Fast.tw8810401154462904315:Nat:=0
noncomputable def PySem.W.Fast.tw1935761106806865819:Nat:=0
noncomputable def PySem.W.Fast.tw9489641782103291905:Nat:=0
noncomputable def PySem.W.Fast.tw6557449612495898134:Nat:=0
open PySem PySem.W PyProof.Rows
set_option maxRecDepth 100000 in
set_option maxHeartbeats 0 in
theorem PySem.Challenge.cw_slitview_k28_whole_bundle_holds : PySem.Challenge.rw_slitview_k28_whole_bundle.Holds := by
 w_on; o_law; k_head; (case hw=>w_witness2)
 k_fill
 refine' K28.Vc (l:=PySem.Challenge.rw_slitview_k28_whole_bundle) rfl rfl rfl (fun w h Y=>PySem.W.kIn_of Y) ?T
 case T =>
  intro w
  constructor
  iterate 31 (case _=>refine' Pu.US ?qa ?ql ?qc ?qk; (case qa=>k_is); (case ql=>k_is); (case qc=>k_is); (case qk=>k_is))
  iterate 16 (case _=>k_is)
  (case _=>refine' Pu.U7 ?e; (case e=>k_is))
  iterate 3 (case _=>refine' Pu.Va ?e; (case e=>k_is))
  iterate 12 (case _=>k_is)
  iterate 2 (case _=>kernel_rfl)
  (case _=>refine K28.Vb ?_; kernel_rfl)
